import PyProof.Rows.All
import Wide.All
import OpenK.AllK
import Wide.FinOn
import PyProof.EqAt
import PyProof.EqKinds
import PyProof.TupleCall
import PyProof.ZipIter
import PyProof.EnumMake
import PyProof.Draws
import PyProof.LayNew
import PyProof.Rows.SortShell
import PyProof.IsRules
import PyProof.ListIndex
import PyProof.Cells
import PyProof.CompUse
import PyProof.DictItems
import PyProof.DictItemsLoops
import PyProof.Rows.MinMaxN
import PyProof.Rows.Range3
import KE.KRevIter
import PyProof.DictWalks
import PyProof.NeKinds
import PyProof.DictList
import PyProof.DictUpdate
import PyProof.Rows.Tup
import PyProof.FactsAll.tuple_2
import PyProof.Rows.CallKwBuiltin
import KE.KDictSum
import KE.KSortTup
import KE.KRevSl
import Lean
import PySem.Challenge.RW_plusless_k25_differences
set_option Elab.async false
set_option linter.all false
set_option maxRecDepth 100000
set_option genSizeOf false
theorem Au.h2 (h:True:=by decide):True:=h
theorem Au.h5 (h:True:=by intro _; rfl):True:=h
theorem Au.h1 (h:True:=by rfl):True:=h
theorem Au.h8 (h:True:=by intro _ _ z; cases z):True:=h
theorem Au.h0 (h:True:=by kernel_rfl):True:=h
theorem Au.h3 (h:True:=by decide +kernel):True:=h
theorem Au.h9 (h:True:=by first | exact L2.nomark _ | kernel_rfl):True:=h
theorem Au.h4 (h:True:=by intro _; kernel_rfl):True:=h
theorem Au.h7 (h:True:=by first | left; rfl | right; kernel_rfl):True:=h
theorem ex5 {α β:Type} {a b c:α→β→Prop} {P:Prop} (z:∃ x y,a x y∧b x y∧c x y) (f:∀ x y,a x y→b x y→c x y→P):P:=by
 obtain ⟨x,y,u,v,w⟩:=z
 exact f x y u v w
namespace Lw
open PySem
noncomputable def top (i:Nat):Stmt:=PySem.Challenge.pw_plusless_k25_differences.main.body.getD i (.Pass ⟨0,0,0,0⟩)
noncomputable def hdI (s:Stmt) (j:Nat):Stmt:=match s with
 | .ClassDef _ _ _ body _ _ _ _ _ _ _=>body.getD j (.Pass ⟨0,0,0,0⟩)
 | _=>.Pass ⟨0,0,0,0⟩
noncomputable def hdA (s:Stmt):Arguments:=match s with
 | .FunctionDef _ a _ _ _ _ _ _ _ _=>a
 | _=>{posonlyargs:=[],args:=[],vararg:=none,kwonlyargs:=[],kw_defaults:=[],kwarg:=none,defaults:=[]}
noncomputable def hdB (s:Stmt):List Stmt:=match s with
 | .FunctionDef _ _ b _ _ _ _ _ _ _=>b
 | _=>[]
noncomputable def hdS (s:Stmt):Scope:=match s with
 | .FunctionDef _ _ _ _ _ _ sc _ _ _=>sc
 | _=>{kind:=.function,names:=[],isGenerator:=false,isCoroutine:=false}
noncomputable def hE (P:Params) (n:Str) (t:Tok) (v:Value):DictEntry:={hash:=PyData.keyHash P n,key:=.str n t,val:=v}
noncomputable def hF (n:Str) (i:Nat) (m:Str) (t:Tok) (c:Addr):Obj:={cls:=.type "function",data:=.func {name:=n,qualname:=n,params:=hdA (top i),body:=.stmts (hdB (top i)),scope:=hdS (top i),globals:=3,closure:=[],defaults:=.none,kwdefaults:=.none,pyModule:=.str m t,code:=.ref c}}
noncomputable def hC (n:Str) (t0 t1 t2:Tok) (a b c d e:Int) (r0:Value) (f:Int) (r1 r2 r3 r4 r5:Value) (g h:Int) (t3:Tok):Obj:={cls:=.type "code",data:=.fields #[.str n t0,.str n t1,.str "/claim/cut.py" t2,.int a 0,.int b 0,.int c 0,.int d 0,.int e 0,r0,.bool true,.int f 0,r1,r2,r3,r4,r5,.int g 0,.int h 0,.str "/claim/cut.py" t3]}
noncomputable def hK:Params→PySem.W.Frag:=fun P=>(nat_lit 2,{ cls:=.none,data:=.dict #[] })::
 (nat_lit 3,{ cls:=.type "dict",data:=.dict #[hE P "__name__" 165 (.str "law_plusless_k25_differences" 281),hE P "__doc__" 166 .none,hE P "__package__" 167 .none,hE P "__loader__" 168 (.builtin "__main__.__loader__#opaque"),hE P "__spec__" 169 .none,hE P "__annotations__" 170 (.ref 6),hE P "__builtins__" 171 (.ref 4),hE P "__file__" 173 (.str "/claim/cut.py" 172),hE P "__cached__" 174 .none,hE P "PlusError" 206 (.ref 24),hE P "NoRow" 222 (.ref 37),hE P "LONGEST_ROW" 226 (.int 16 225),hE P "is_whole" 233 (.ref 46),hE P "is_row" 239 (.ref 51),hE P "need_row" 246 (.ref 58),hE P "parts_of_one" 254 (.ref 63),hE P "difference" 260 (.ref 68),hE P "difference_steps" 266 (.ref 73),hE P "differences" 272 (.ref 78),hE P "difference_signs" 280 (.ref 85),hE P "_law_cell" 290 (.ref 92),hE P "_law_mix" 300 (.ref 99),hE P "_law_box" 311 (.ref 106),hE P "_law_take" 321 (.ref 113),hE P "_law_whole" 328 (.ref 120),hE P "_law_row" 343 (.ref 127),hE P "_law_are" 349 (.ref 132),hE P "_law_worth" 359 (.ref 139),hE P "_law_due" 370 (.ref 146),hE P "law" 383 (.ref 153)] 30 })::
 (nat_lit 45,hC "is_whole" 227 228 229 8 1 0 0 3 (.ref 40) 181 (.ref 41) .none (.ref 42) (.ref 43) (.ref 44) 231 8 232)::
 (nat_lit 46,hF "is_whole" 5 "plusless.rows" 223 45)::
 (nat_lit 50,hC "is_row" 234 235 236 10 1 0 0 3 (.ref 47) 181 (.ref 48) .none .none .none (.ref 49) 237 10 238)::
 (nat_lit 51,hF "is_row" 6 "plusless.rows" 223 50)::
 (nat_lit 57,hC "need_row" 240 241 242 14 1 0 0 3 (.ref 52) 181 (.ref 53) .none (.ref 54) (.ref 55) (.ref 56) 244 14 245)::
 (nat_lit 58,hF "need_row" 7 "plusless.rows" 223 57)::
 (nat_lit 62,hC "parts_of_one" 249 250 251 18 2 0 0 3 (.ref 59) 181 (.ref 60) .none .none .none (.ref 61) 252 18 253)::
 (nat_lit 63,hF "parts_of_one" 9 "plusless.evenness" 247 62)::
 (nat_lit 67,hC "difference" 255 256 257 20 2 0 0 3 (.ref 64) 181 (.ref 65) .none .none .none (.ref 66) 258 20 259)::
 (nat_lit 68,hF "difference" 10 "plusless.evenness" 247 67)::
 (nat_lit 72,hC "difference_steps" 261 262 263 23 1 0 0 3 (.ref 69) 181 (.ref 70) .none .none .none (.ref 71) 264 23 265)::
 (nat_lit 73,hF "difference_steps" 11 "plusless.evenness" 247 72)::
 (nat_lit 77,hC "differences" 267 268 269 30 1 0 0 3 (.ref 74) 181 (.ref 75) .none .none .none (.ref 76) 270 30 271)::
 (nat_lit 78,hF "differences" 12 "plusless.evenness" 247 77)::
 (nat_lit 84,hC "difference_signs" 273 274 275 33 1 0 0 3 (.ref 79) 181 (.ref 80) .none (.ref 81) (.ref 82) (.ref 83) 278 33 279)::
 (nat_lit 85,hF "difference_signs" 13 "plusless.evenness" 247 84)::
 (nat_lit 91,hC "_law_cell" 283 284 285 40 2 0 0 3 (.ref 86) 181 (.ref 87) .none (.ref 88) (.ref 89) (.ref 90) 288 40 289)::
 (nat_lit 92,hF "_law_cell" 15 "law_plusless_k25_differences" 281 91)::
 (nat_lit 98,hC "_law_mix" 291 292 293 44 2 0 0 3 (.ref 93) 181 (.ref 94) .none (.ref 95) (.ref 96) (.ref 97) 298 44 299)::
 (nat_lit 99,hF "_law_mix" 16 "law_plusless_k25_differences" 281 98)::
 (nat_lit 105,hC "_law_box" 301 302 303 49 2 0 0 3 (.ref 100) 181 (.ref 101) .none (.ref 102) (.ref 103) (.ref 104) 309 49 310)::
 (nat_lit 106,hF "_law_box" 17 "law_plusless_k25_differences" 281 105)::
 (nat_lit 112,hC "_law_take" 312 313 314 57 2 0 0 3 (.ref 107) 181 (.ref 108) .none (.ref 109) (.ref 110) (.ref 111) 319 57 320)::
 (nat_lit 113,hF "_law_take" 18 "law_plusless_k25_differences" 281 112)::
 (nat_lit 119,hC "_law_whole" 322 323 324 61 1 0 0 3 (.ref 114) 181 (.ref 115) .none (.ref 116) (.ref 117) (.ref 118) 326 61 327)::
 (nat_lit 120,hF "_law_whole" 19 "law_plusless_k25_differences" 281 119)::
 (nat_lit 126,hC "_law_row" 329 330 331 63 2 0 0 3 (.ref 121) 181 (.ref 122) .none (.ref 123) (.ref 124) (.ref 125) 341 63 342)::
 (nat_lit 127,hF "_law_row" 20 "law_plusless_k25_differences" 281 126)::
 (nat_lit 131,hC "_law_are" 344 345 346 73 3 0 0 3 (.ref 128) 181 (.ref 129) .none .none .none (.ref 130) 347 73 348)::
 (nat_lit 132,hF "_law_are" 21 "law_plusless_k25_differences" 281 131)::
 (nat_lit 138,hC "_law_worth" 350 351 352 77 2 0 0 3 (.ref 133) 181 (.ref 134) .none (.ref 135) (.ref 136) (.ref 137) 357 77 358)::
 (nat_lit 139,hF "_law_worth" 22 "law_plusless_k25_differences" 281 138)::
 (nat_lit 145,hC "_law_due" 360 361 362 82 1 0 0 3 (.ref 140) 181 (.ref 141) .none (.ref 142) (.ref 143) (.ref 144) 368 82 369)::
 (nat_lit 146,hF "_law_due" 23 "law_plusless_k25_differences" 281 145)::
 (nat_lit 152,hC "law" 371 372 373 91 1 0 0 3 (.ref 147) 181 (.ref 148) .none (.ref 149) (.ref 150) (.ref 151) 381 91 382)::
 (nat_lit 153,hF "law" 24 "law_plusless_k25_differences" 281 152)::[]
noncomputable def hA:List Addr:=[2,3,45,46,50,51,57,58,62,63,67,68,72,73,77,78,84,85,91,92,98,99,105,106,112,113,119,120,126,127,131,132,138,139,145,146,152,153]
noncomputable def hV:Program:={PySem.Challenge.pw_plusless_k25_differences with main:={PySem.Challenge.pw_plusless_k25_differences.main with body:=[top 1,top 2,top 4,top 5,top 6,top 7,top 9,top 10,top 11,top 12,top 13,top 15,top 16,top 17,top 18,top 19,top 20,top 21,top 22,top 23,top 24]}}
theorem hKA (P:Params):hA=(hK P).map (·.1):=by kernel_rfl
noncomputable abbrev hX (s:Shared):Bool:=PySem.W.xlAt hV [] s && PySem.W.recOk (PySem.W.RowW.records PySem.Challenge.rw_plusless_k25_differences.row.toRowW) s
set_option maxHeartbeats 0 in
theorem left:PySem.W.LeftO PySem.Challenge.rw_plusless_k25_differences.row.prog hV [] hX (PySem.W.Hook.obs (PySem.W.kHook hK hA hKA)) (PySem.W.Hook.val (PySem.W.kHook hK hA hKA)) 2088:=fun w=>by kernel_rfl
end Lw
section
set_option Elab.async false
set_option linter.all false
set_option maxRecDepth 100000
namespace PySem
noncomputable def ZO (o:Obj):Prop:=∃ fs:Array Value,o.data=.fields fs∧fs[2]?=some .none
noncomputable def Heap.Zat (h:Heap) (e:Addr):Prop:=∃ o,h.get? e=some o∧ZO o
section
variable {M:Model} {A:Around} {E:Value→Shared→Prop} {s:Shared} {bs:Heap} {en:Env} {out:List Env} {L e:Addr} {cl a0:Value}
end
end PySem
namespace PySem
open PyProof.Rows
theorem entry_unchain:entryFor table "proto.unchain" = some Builtin.«proto.unchain»:=entryFor_of_tree (by kernel_rfl)
theorem plain_unchain:plainId "proto.unchain" = true:=by decide +kernel
section
variable {prog:Program} {w:World} {A:Around} {E:Value→Shared→Prop} {s:Shared}
theorem unchainZ {ea ha:Addr} {Q:Value→Shared→Prop} (z:s.heap.Zat ha) (h:Q .none s):wpAny (model prog w) A (runValue (.builtin "proto.unchain" ⟨[.ref ea,.ref ha,.ref ha,.bool false],[]⟩)) Q E s:=by
 obtain ⟨o,ho,fs,hd,h2⟩:=z
 refine wpAny_runValue (codeAny_builtin entry_unchain ?_)
 rw [Around.under_plainId plain_unchain _]
 unfold Builtin.«proto.unchain»
 refine wpAny_bind (wpAny_field ho hd h2 ?_)
 rw [if_pos (by rfl)]
 refine wpAny_bind (wpAny_pure ?_)
 exact wpAny_pure h
theorem raiseNewZ {α:Type} {ea ha:Addr} {o:Obj} {fs:Array Value} {Q:α→Shared→Prop} (hh:A.handled=some (.ref ha)) (z:s.heap.Zat ha) (ne:ha ≠ ea) (he:s.heap.get? ea=some o) (hd:o.data=.fields fs) (hs:2 < fs.size)
  (h:E (.ref ea) { s with heap:=s.heap.update ea (Obj.mapFields (fun y=>y.setIfInBounds 2 (.ref ha))) }):wpAny (model prog w) A (raiseNew (.ref ea):Sem α) Q E s:=by
 unfold raiseNew
 refine wpAny_bind (wpAny_handled ?_)
 rw [hh]
 dsimp only
 rw [if_pos (by simpa using ne)]
 refine wpAny_bind (wpAny_holding (unchainZ z ?_))
 refine wpAny_bind ?_
 show wpAny _ _ (setField (.ref ea) 2 (.ref ha)) _ _ s
 exact wpAny_setField he hd hs (wpAny_throw h)
theorem rangeEndZ {it ha:Addr} {x left step:Int} {Q:Option Value→Shared→Prop} (hh:A.handled=some (.ref ha)) (z:s.heap.Zat ha) (hit:IsRangeIter s.heap it x left step) (hl:left≤0)
  (k:∀ h',Heap.ExtBut it s.heap h'→Q none { s with heap:=h' }):wpAny (model prog w) A (pyNext (.ref it)) Q E s:=by
 have ty:s.TypeIs (.ref it) "range_iterator":=⟨_,hit,rfl⟩
 have lta:ha < s.heap.objs.size:=let ⟨o,q,_⟩:=z; Heap.lt_size q
 unfold pyNext
 refine wpAny_bind (wpAny_attempt (wpAny_callSpecial?_slot (name:=Str.ofString "__next__") ty F.slot_range_iterator_next (wpAny_call_entry F.slot_range_iterator_next ty F.entry_range_iterator_next ?_ (F.args_range_iterator_next_1 _))))
 show wpAny _ _ (field (.ref it) 0 >>= _) _ _ s
 refine wpAny_bind (wpAny_field hit rfl (x:=rawInt x) rfl ?_)
 show wpAny _ _ (field (.ref it) 1 >>= _) _ _ s
 refine wpAny_bind (wpAny_field hit rfl (x:=rawInt left) rfl ?_)
 show wpAny _ _ (field (.ref it) 2 >>= _) _ _ s
 refine wpAny_bind (wpAny_field hit rfl (x:=rawInt step) rfl ?_)
 show wpAny _ _ (if left≤0 then _ else _) _ _ s
 rw [if_pos hl]
 refine wpAny_bind (wpAny_rule ?_)
 refine wpAny_bind ?_
 show wpAny _ _ (newExc (.type "StopIteration") [] >>= _) _ _ _
 refine wpAny_bind ?_
 simp only [newExc,newTuple]
 refine wpAny_bind (wpAny_newObj_type ?_ (by size_fits))
 refine wpAny_bind (m:=firstArgMember _ _) (wpAny_of_eq (a:=Value.none) (by first | rfl | (simp only [firstArgMember]; rfl)) ?_)
 refine wpAny_newObj_type ?_ (by size_fits)
 refine raiseNewZ (ha:=ha) (by first | exact hh | (show A.in1.handled=_; exact hh)) ?_ ?_ (Heap.get?_push_size _ rfl) rfl ?_ ?_
 ·obtain ⟨o,q,r⟩:=z
  exact ⟨o,Heap.get?_push_of_some _ (Heap.get?_push_of_some _ q),r⟩
 ·exact Nat.ne_of_lt (Nat.lt_of_lt_of_le lta (by rw [Heap.size_push]; exact Nat.le_succ _))
 ·rw [Array.size_append]; exact Nat.lt_of_lt_of_le (show 2 < 6 by decide) (Nat.le_add_right _ _)
 ·dsimp only
  generalize hfn:Obj.mapFields (fun y=>y.setIfInBounds 2 (Value.ref ha))=fn
  generalize hg:s.heap.push { cls:=Value.type "tuple",data:=Data.seq #[] }=g
  generalize hex:({ cls:=Value.type "StopIteration",data:=Data.fields (#[Value.ref s.heap.objs.size,Value.none,Value.none,Value.none,Value.bool false,Value.none] ++ ownMembersOf (Value.type "StopIteration") []) }:Obj)=ex
  have c0:ex.cls=.type "StopIteration":=by rw [← hex]
  have d0:∃ fs,ex.data=.fields fs:=⟨_,by rw [← hex]⟩
  obtain ⟨fs,d0⟩:=d0
  have p0:(g.push ex).get? g.objs.size=some ex:=Heap.get?_push_size g (Obj.isFreed_of_fields d0)
  have d1:(fn ex).data=.fields (fs.setIfInBounds 2 (.ref ha)):=by rw [← hfn]; exact Obj.data_mapFields d0 _
  have c1:(fn ex).cls=.type "StopIteration":=by rw [← hfn]; exact (Obj.cls_mapFields _ _).trans c0
  have e1:((g.push ex).update g.objs.size fn).get? g.objs.size=some (fn ex):=Heap.get?_update_self fn p0 (Obj.isFreed_of_fields d1)
  refine wpAny_bind (wpAny_isInstance (T:="StopIteration") (b:=true) ⟨fn ex,e1,c1⟩ isSubtype_stop ?_)
  refine wpAny_pure (k _ fun b o _ q=>?_)
  have q1:g.get? b=some o:=by rw [← hg]; exact Heap.get?_push_of_some _ q
  rw [Heap.get?_update_other (g.push ex) fn (Nat.ne_of_gt (Heap.lt_size q1))]
  exact Heap.get?_push_of_some ex q1
end
end PySem
namespace L2
open PySem PySem.Spec PyProof.Rows
noncomputable abbrev Key:=Sum Int Str
noncomputable def keyIs:Key→Value→Bool
 | .inl k,v=>Value.isInt k v
 | .inr x,v=>Value.isStrOf x v
noncomputable def keyH (w:World):Key→Int
 | .inl k=>hashInt k
 | .inr x=>hashStr w x
theorem keyIs_shape:∀ {k:Key} {v:Value},keyIs k v=true→(∃ i t,k=Sum.inl i∧v=Value.int i t) ∨ (∃ x t,k=Sum.inr x∧v=Value.str x t)
 | .inl i,v,h=>by
  obtain ⟨t,e⟩:=Value.isInt_shape (k:=i) (v:=v) h
  exact .inl ⟨i,t,rfl,e⟩
 | .inr x,v,h=>by
  obtain ⟨t,e⟩:=Value.isStrOf_shape (x:=x) (v:=v) h
  exact .inr ⟨x,t,rfl,e⟩
theorem key_ll (a b:Int):decide ((Sum.inl a:Key)=Sum.inl b)=(a == b):=by
 by_cases e:a=b
 ·subst e; simp
 ·have h:¬ (Sum.inl a:Key)=Sum.inl b:=fun q=>e (Sum.inl.inj q)
  rw [decide_eq_false h]
  exact (beq_eq_false_iff_ne.mpr e).symm
theorem key_rr (a b:Str):decide ((Sum.inr a:Key)=Sum.inr b)=decide (a=b):=by
 by_cases e:a=b
 ·subst e; simp
 ·have h:¬ (Sum.inr a:Key)=Sum.inr b:=fun q=>e (Sum.inr.inj q)
  rw [decide_eq_false h,decide_eq_false e]
theorem key_lr (a:Int) (b:Str):decide ((Sum.inl a:Key)=Sum.inr b)=false:=decide_eq_false (fun q=>nomatch q)
theorem key_rl (a:Str) (b:Int):decide ((Sum.inr a:Key)=Sum.inl b)=false:=decide_eq_false (fun q=>nomatch q)
noncomputable def mixKind (prog:Program) (w:World):PySem.KeyKind prog w Key where
 is:=keyIs
 hash:=keyH w
 inj:=fun v a b ha hb=>by
  rcases keyIs_shape ha with ⟨i,t,rfl,rfl⟩ | ⟨x,t,rfl,rfl⟩
  ·rcases keyIs_shape hb with ⟨j,u,rfl,e⟩ | ⟨y,u,rfl,e⟩
   ·injection e with e1 _; rw [e1]
   ·exact nomatch e
  ·rcases keyIs_shape hb with ⟨j,u,rfl,e⟩ | ⟨y,u,rfl,e⟩
   ·exact nomatch e
   ·injection e with e1 _; rw [e1]
 byValue:=fun k v h=>by
  rcases keyIs_shape h with ⟨i,t,rfl,rfl⟩ | ⟨x,t,rfl,rfl⟩ <;> rfl
 pyHash:=fun hv h=>by
  rcases keyIs_shape hv with ⟨i,t,rfl,rfl⟩ | ⟨x,t,rfl,rfl⟩
  ·exact wpAny_pyHash_int h
  ·exact wpAny_pyHash_str h
 eqBool:=fun hu hv h=>by
  rcases keyIs_shape hu with ⟨i,t,rfl,rfl⟩ | ⟨x,t,rfl,rfl⟩
  ·rcases keyIs_shape hv with ⟨j,u,rfl,rfl⟩ | ⟨y,u,rfl,rfl⟩
   ·rw [key_ll] at h; exact wpAny_eqBool_int h
   ·rw [key_lr] at h; exact SeqAt.EqAt.int_str i t y u _ _ _ _ h
  ·rcases keyIs_shape hv with ⟨j,u,rfl,rfl⟩ | ⟨y,u,rfl,rfl⟩
   ·rw [key_rl] at h; exact SeqAt.EqAt.str_int x t j u _ _ _ _ h
   ·rw [key_rr] at h; exact wpAny_eqBool_str h
 «strs»:=fun k x t v h=>by
  rcases keyIs_shape h with ⟨i,u,rfl,e⟩ | ⟨y,u,rfl,e⟩
  ·exact nomatch e
  ·injection e with e1 _
   subst e1
   cases v <;> rfl
end L2
namespace L2
open PySem PySem.Spec PyProof.Rows
inductive V where
 | non | bl (b:Bool) | int (i:Int) | str (x:Str) | byt (b:Array UInt8) | flt (b:UInt64) | ref (a:Addr) | ty (n:String)
 deriving DecidableEq
noncomputable def RelV:V→Value→Prop
 | .non,u=>u=Value.none
 | .bl b,u=>u=Value.bool b
 | .int i,u=>∃ t,u=Value.int i t
 | .str x,u=>∃ t,u=Value.str x t
 | .byt b,u=>∃ t,u=Value.bytes b t
 | .flt b,u=>∃ t,u=Value.float b t
 | .ref a,u=>u=Value.ref a
 | .ty n,u=>u=Value.type n
noncomputable abbrev Vals:List V→List Value→Prop:=Paired RelV
theorem Vals.length {xs:List V} {us:List Value} (r:Vals xs us):xs.length=us.length:=Paired.length r
theorem Vals.get:∀ {xs:List V} {us:List Value} {i:Nat} {x:V},Vals xs us→xs[i]?=some x→∃ u,us[i]?=some u∧RelV x u
 | _,_,_,_,.nil,e=>by simp at e
 | _,_,0,_,.cons r _,e=>by simp at e; subst e; exact ⟨_,rfl,r⟩
 | _,_,i + 1,x,.cons _ t,e=>by
  obtain ⟨u,h1,h2⟩:=Vals.get (i:=i) (x:=x) t (by simpa using e)
  exact ⟨u,by simpa using h1,h2⟩
theorem Vals.set {x:V} {u:Value} (r:RelV x u):∀ {xs:List V} {us:List Value} (i:Nat),Vals xs us→Vals (xs.set i x) (us.set i u)
 | _,_,_,.nil=>.nil
 | _,_,0,.cons _ t=>.cons r t
 | _,_,i + 1,.cons q t=>.cons q (Vals.set r i t)
theorem Vals.append:∀ {xs ys:List V} {us ws:List Value},Vals xs us→Vals ys ws→Vals (xs ++ ys) (us ++ ws)
 | _,_,_,_,.nil,s=>s
 | _,_,_,_,.cons r t,s=>.cons r (Vals.append t s)
theorem Vals.take:∀ {xs:List V} {us:List Value} (n:Nat),Vals xs us→Vals (xs.take n) (us.take n)
 | _,_,0,_=>.nil
 | _,_,_ + 1,.nil=>.nil
 | _,_,n + 1,.cons r t=>.cons r (Vals.take n t)
theorem Vals.drop:∀ {xs:List V} {us:List Value} (n:Nat),Vals xs us→Vals (xs.drop n) (us.drop n)
 | _,_,0,r=>r
 | _,_,_ + 1,.nil=>.nil
 | _,_,n + 1,.cons _ t=>Vals.drop n t
noncomputable def RelO:Option V→Option Value→Prop
 | some v,some u=>RelV v u
 | none,none=>True
 | _,_=>False
noncomputable def KV {κ:Type}:List (κ × V)→List (κ × Value)→Prop:=Paired fun (p:κ × V) (q:κ × Value)=>p.1=q.1∧RelV p.2 q.2
noncomputable def kV:Key→V
 | .inl i=>.int i
 | .inr x=>.str x
set_option genInjectivity false in
inductive HO where
 /-- a list -/
 | lst (xs:List V)
 /-- a tuple (never changes) -/
 | tup (xs:List V)
 /-- a dict whose keys are ints and texts; one whose keys are tuples of ints and texts (the empty one is both) -/
 | dK (kvs:List (Key × V)) | dT (kvs:List (List Key × V))
 /-- a set of ints: its members,its size -/
 | set (S:Int→Bool) (n:Nat)
 /-- an instance of the class at C,its dict at dx,its attributes -/
 | ins (C dx:Addr) (fs:List (Str × V))
 /-- the dict of the instance at x -/
 | own (x:Addr)
 /-- the dict of an exception -/
 | xd (fs:List (Str × V))
 /-- a bound method,f of x -/
 | met (f x:Addr)
 /-- a range object lo,lo + 1,.. below hi -/
 | rng (lo hi:Int)
 /-- a thing that is known to the object (the script; a dict while a loop walks it): read,never written while it is so -/
 | frz (o:Obj) (u:HO)
 /-- a code object's table -/
 | tbl (ps:Array Value)
 /-- any other thing,by what is true of its one object (a def of one's own: SetO a S n:=HO.ext fun h=>..) -/
 | ext (φ:Heap→Prop)
noncomputable abbrev Hp:=Addr→Option HO
noncomputable def upd (H:Hp) (a:Addr) (o:HO):Hp:=fun b=>if b=a then some o else H b
theorem upd_same {H:Hp} {a:Addr} {o:HO}:upd H a o a=some o:=by unfold upd; rw [if_pos rfl]
theorem upd_ne {H:Hp} {a b:Addr} {o:HO} (h:b ≠ a):upd H a o b=H b:=by unfold upd; rw [if_neg h]
theorem ne_of_none {H:Hp} {a b:Addr} {o:HO} (h:H a=some o) (h':H b=none):a ≠ b:=by
 intro e; subst e; rw [h] at h'; cases h'
section
variable (P:Program) (w:World)
noncomputable def ObjOk (H:Hp) (h:Heap) (a:Addr):HO→Prop
 | .lst xs=>xs.length≤sizeLine∧∃ (its:List Value) (n:Nat),Vals xs its∧h.get? a=some { cls:=.type "list",data:=.seq its.toArray n }
 | .tup xs=>xs.length≤sizeLine∧∃ its:List Value,Vals xs its∧IsTup h a its.toArray
 | .dK kvs=>kvs.length≤sizeLine∧(a == sysModules)=false∧∃ vs,KV kvs vs∧h.DictOf (mixKind P w) a vs
 | .dT kvs=>kvs.length≤sizeLine∧(a == sysModules)=false∧∃ xs:List (List Key × Addr × Value),
   Paired (fun (p:List Key × V) (q:List Key × Addr × Value)=>p.1=q.1∧H q.2.1=some (.tup (p.1.map kV))∧RelV p.2 q.2.2) kvs xs∧
   ∃ o es ep,h.get? a=some o∧o.ExactDict∧o.data=.dict es ep∧es.toList=xs.map (entryOfKey (tupleKind (mixKind P w)))∧(xs.map (·.1)).Nodup
 | .set S n=>h.SetOf (intKind P w) a S n
 | .ins C dx fs=>H dx=some (.own a)∧fs.length≤1000∧dx ≠ a∧h.get? a=some (PySem.W.instObj C dx)∧
   ∃ mA,h.Ns1 dx mA∧(∀ f,RelO (fs.lookup f) (mA f))∧PySem.Within mA (fs.map (·.1))
 | .own _=>∃ o,h.get? a=some o
 | .xd fs=>∃ mA,h.Ns1 a mA∧∀ f,RelO (fs.lookup f) (mA f)
 | .rng lo hi=>∃ t u v,h.get? a=some { cls:=.type "range",data:=.fields #[.int lo t,.int hi u,.int 1 v] }
 | .frz o u=>h.get? a=some o∧ObjOk H h a u
 | .tbl ps=>h.get? a=some { cls:=.none,data:=.fields ps }
 | .met f x=>h.get? a=some (PySem.W.methodObj (.ref f) (.ref x))
 | .ext φ=>φ h∧(∃ o,h.get? a=some o)∧∀ h1 h2:Heap,φ h1→(∀ o,h1.get? a=some o→h2.get? a=some o)→φ h2
noncomputable def HOk (H:Hp) (h:Heap):Prop:=∀ a o,H a=some o→ObjOk P w H h a o
end
section
variable {P:Program} {w:World} {H H':Hp} {h h':Heap} {a:Addr} {o:HO}
theorem ObjOk.lt (x:ObjOk P w H h a o):a < h.objs.size:=by
 cases o with
 | lst xs=>obtain ⟨_,_,_,_,e⟩:=x; exact Heap.lt_size e
 | tup xs=>obtain ⟨_,_,_,p⟩:=x; exact p.lt
 | dK kvs=>obtain ⟨_,_,_,_,o,_,_,e,_⟩:=x; exact Heap.lt_size e
 | dT kvs=>obtain ⟨_,_,_,_,o,_,_,e,_⟩:=x; exact Heap.lt_size e
 | set S n=>obtain ⟨o,_,_,_,e,_⟩:=x; exact Heap.lt_size e
 | ins C dx fs=>obtain ⟨_,_,_,e,_⟩:=x; exact Heap.lt_size e
 | own y=>obtain ⟨_,e⟩:=x; exact Heap.lt_size e
 | xd fs=>obtain ⟨_,⟨_,_,_,e,_⟩,_⟩:=x; exact Heap.lt_size e
 | rng lo hi=>obtain ⟨_,_,_,e⟩:=x; exact Heap.lt_size e
 | frz ob u=>obtain ⟨e,_⟩:=x; exact Heap.lt_size e
 | tbl ps=>exact Heap.lt_size (show h.get? a=some _ from x)
 | met f y=>exact Heap.lt_size (show h.get? a=some _ from x)
 | ext φ=>obtain ⟨_,⟨_,e⟩,_⟩:=x; exact Heap.lt_size e
theorem Paired.mapP {α β:Type} {F G:α→β→Prop}:∀ {l₁:List α} {l₂:List β},Paired F l₁ l₂→(∀ a b,F a b→G a b)→Paired G l₁ l₂
 | _,_,.nil,_=>.nil
 | _,_,.cons r t,f=>.cons (f _ _ r) (Paired.mapP t f)
theorem ObjOk.stay (x:ObjOk P w H h a o) (k:∀ b u,(b=a ∨ H b=some (.own a))→h.get? b=some u→h'.get? b=some u)
  (ho:∀ b,H b=some (.own a)→H' b=some (.own a)) (ht:∀ b xs,H b=some (.tup xs)→H' b=some (.tup xs)):ObjOk P w H' h' a o:=by
 induction o with
 | lst xs=>obtain ⟨z,its,n,r,e⟩:=x; exact ⟨z,its,n,r,k _ _ (.inl rfl) e⟩
 | tup xs=>obtain ⟨z,its,r,ob,e,c⟩:=x; exact ⟨z,its,r,ob,k _ _ (.inl rfl) e,c⟩
 | dK kvs=>obtain ⟨z,y,vs,r,ob,es,ep,e,c⟩:=x; exact ⟨z,y,vs,r,ob,es,ep,k _ _ (.inl rfl) e,c⟩
 | dT kvs=>
  obtain ⟨z,y,xs,r,ob,es,ep,e,c⟩:=x
  exact ⟨z,y,xs,Paired.mapP r fun p q z=>⟨z.1,ht _ _ z.2.1,z.2.2⟩,ob,es,ep,k _ _ (.inl rfl) e,c⟩
 | set S n=>obtain ⟨ob,es,ep,t,e,c⟩:=x; exact ⟨ob,es,ep,t,k _ _ (.inl rfl) e,c⟩
 | ins C dx fs=>
  obtain ⟨d,z,ne,e,mA,⟨od,es,ep,e2,c⟩,r⟩:=x
  exact ⟨ho _ d,z,ne,k _ _ (.inl rfl) e,mA,⟨od,es,ep,k _ _ (.inr d) e2,c⟩,r⟩
 | own y=>obtain ⟨ob,e⟩:=x; exact ⟨ob,k _ _ (.inl rfl) e⟩
 | xd fs=>obtain ⟨mA,⟨od,es,ep,e,c⟩,r⟩:=x; exact ⟨mA,⟨od,es,ep,k _ _ (.inl rfl) e,c⟩,r⟩
 | rng lo hi=>obtain ⟨t,u,v,e⟩:=x; exact ⟨t,u,v,k _ _ (.inl rfl) e⟩
 | frz ob u ih=>obtain ⟨e,q⟩:=x; exact ⟨k _ _ (.inl rfl) e,ih q⟩
 | tbl ps=>
  have e:h.get? a=some { cls:=.none,data:=.fields ps }:=x
  show h'.get? a=some { cls:=.none,data:=.fields ps }
  exact k a _ (.inl rfl) e
 | met f y=>
  have e:h.get? a=some (PySem.W.methodObj (.ref f) (.ref y)):=x
  show h'.get? a=some (PySem.W.methodObj (.ref f) (.ref y))
  exact k a _ (.inl rfl) e
 | ext φ=>obtain ⟨p,⟨o,e⟩,st⟩:=x; exact ⟨st _ _ p fun o q=>k _ _ (.inl rfl) q,⟨o,k _ _ (.inl rfl) e⟩,st⟩
theorem HOk.lt (x:HOk P w H h) (e:H a=some o):a < h.objs.size:=(x a o e).lt
theorem HOk.fresh (x:HOk P w H h) (e:h.objs.size≤a):H a=none:=by
 cases q:H a with
 | none=>rfl
 | some u=>exact absurd (Nat.lt_of_lt_of_le (x.lt q) e) (Nat.lt_irrefl _)
theorem HOk.kept (x:HOk P w H h) (k:∀ b u,h.get? b=some u→h'.get? b=some u):HOk P w H h':=fun a o e=>
 (x a o e).stay (fun b u _ q=>k b u q) (fun _ q=>q) fun _ _ q=>q
theorem HOk.laid (x:HOk P w H h) (k:∀ b u,h.get? b=some u→h'.get? b=some u) (hp:h.objs.size≤a) (new:ObjOk P w (upd H a o) h' a o):HOk P w (upd H a o) h':=fun b u e=>by
 have hn:=x.fresh hp
 by_cases hb:b=a
 ·subst hb; rw [upd_same] at e; cases e; exact new
 ·rw [upd_ne hb] at e
  exact (x b u e).stay (fun c v _ q=>k c v q) (fun c q=>by rw [upd_ne (ne_of_none q hn)]; exact q) fun c xs q=>by rw [upd_ne (ne_of_none q hn)]; exact q
end
noncomputable def Rd (H:Hp) (a:Addr) (u:HO):Prop:=H a=some u ∨ ∃ o,H a=some (.frz o u)
theorem Rd.ok {P:Program} {w:World} {H:Hp} {h:Heap} {a:Addr} {u:HO} (r:Rd H a u) (x:HOk P w H h):ObjOk P w H h a u:=by
 rcases r with r | ⟨o,r⟩
 ·exact x a u r
 ·obtain ⟨_,q⟩:=x a _ r
  exact q
noncomputable def Mut:Option HO→Prop
 | some (.lst _)=>True
 | some (.dK _)=>True
 | some (.dT _)=>True
 | some (.set _ _)=>True
 | some (.ins _ _ _)=>True
 | some (.ext _)=>True
 | _=>False
section
variable {P:Program} {w:World} {H:Hp} {h h':Heap} {x e:Addr} {o':HO}
theorem HOk.write (ok:HOk P w H h) (mu:Mut (H x)) (he:e=x ∨ H e=some (.own x)) (k:∀ b u,b ≠ e→h.get? b=some u→h'.get? b=some u) (heo:∃ u,h'.get? e=some u)
  (new:ObjOk P w (upd H x o') h' x o'):HOk P w (upd H x o') h':=fun b u q=>by
 have nown:∀ c y,H c=some (.own y)→c ≠ x:=fun c y r z=>by subst z; rw [r] at mu; exact mu
 have ntup:∀ c xs,H c=some (.tup xs)→c ≠ x:=fun c xs r z=>by subst z; rw [r] at mu; exact mu
 by_cases hb:b=x
 ·subst hb; rw [upd_same] at q; cases q; exact new
 ·rw [upd_ne hb] at q
  by_cases hbe:b=e
  ·have q':H b=some (.own x):=by
    rcases he with z | z
    ·exact absurd (hbe.trans z) hb
    ·rw [hbe]; exact z
   rw [q] at q'; cases q'
   obtain ⟨v,hv⟩:=heo
   exact ⟨v,by rw [hbe]; exact hv⟩
  ·refine (ok b u q).stay (fun c v hc r=>k c v ?_ r) (fun c r=>by rw [upd_ne (nown c b r)]; exact r) fun c xs r=>by rw [upd_ne (ntup c xs r)]; exact r
   rcases hc with rfl | hc
   ·exact hbe
   ·rintro rfl
    rcases he with z | z
    ·exact nown c b hc z
    ·rw [hc] at z; cases z; exact hb rfl
end
structure Un (fs ex:List Addr) (H H':Hp) (h h':Heap):Prop where
 keep:∀ b o,h.get? b=some o→H b=none→b ∉ fs→b ∉ ex→h'.get? b=some o
 slot:∀ b o,h.get? b=some o→H b=none→b ∈ fs→b ∉ ex→∃ sl,h'.get? b=some { o with slots:=sl }
 free:∀ b o,h.get? b=some o→H b=none→b ∉ ex→H' b=none
 there:∀ b o,h.get? b=some o→b ∉ ex→∃ o',h'.get? b=some o'
 tups:∀ b xs,H b=some (.tup xs)→H' b=some (.tup xs)
 frzs:∀ b o u,H b=some (.frz o u)→H' b=some (.frz o u)
 tbls:∀ b ps,H b=some (.tbl ps)→∃ more,H' b=some (.tbl (ps ++ more))
section
variable {fs fs' ex ex':List Addr} {H H1 H2:Hp} {h h1 h2 h':Heap} {a x e:Addr} {o:HO}
theorem Un.any (u:Un fs ex H H1 h h1) {b:Addr} {ob:Obj} (q:h.get? b=some ob) (n:H b=none) (hx:b ∉ ex):∃ sl,h1.get? b=some { ob with slots:=sl }:=by
 by_cases hb:b ∈ fs
 ·exact u.slot b ob q n hb hx
 ·exact ⟨ob.slots,u.keep b ob q n hb hx⟩
theorem Un.trans (a:Un fs ex H H1 h h1) (b:Un fs ex H1 H2 h1 h2):Un fs ex H H2 h h2 where
 keep:=fun c ob q n hc hx=>b.keep c ob (a.keep c ob q n hc hx) (a.free c ob q n hx) hc hx
 slot:=fun c ob q n hc hx=>by
  obtain ⟨sl,e1⟩:=a.slot c ob q n hc hx
  obtain ⟨sl',e2⟩:=b.slot c _ e1 (a.free c ob q n hx) hc hx
  exact ⟨sl',e2⟩
 free:=fun c ob q n hx=>by
  obtain ⟨o',e1⟩:=a.there c ob q hx
  exact b.free c o' e1 (a.free c ob q n hx) hx
 there:=fun c ob q hx=>by
  obtain ⟨o',e1⟩:=a.there c ob q hx
  exact b.there c o' e1 hx
 tups:=fun c xs q=>b.tups c xs (a.tups c xs q)
 frzs:=fun c ob xs q=>b.frzs c ob xs (a.frzs c ob xs q)
 tbls:=fun c ps q=>by
  obtain ⟨m1,e1⟩:=a.tbls c ps q
  obtain ⟨m2,e2⟩:=b.tbls c _ e1
  exact ⟨m1 ++ m2,by rw [e2,Array.append_assoc]⟩
theorem Un.kept (k:∀ b u,h.get? b=some u→h'.get? b=some u):Un fs ex H H h h':=
 ⟨fun b ob q _ _ _=>k b ob q,fun b ob q _ _ _=>⟨ob.slots,k b ob q⟩,fun _ _ _ n _=>n,fun b ob q _=>⟨ob,k b ob q⟩,fun _ _ q=>q,fun _ _ _ q=>q,fun _ ps q=>⟨#[],by rw [q]; simp⟩⟩
theorem Un.refl:Un fs ex H H h h:=Un.kept fun _ _ q=>q
theorem Un.laid (k:∀ b u,h.get? b=some u→h'.get? b=some u) (hp:h.objs.size≤a) (hn:H a=none):Un fs ex H (upd H a o) h h' where
 keep:=fun b u q _ _ _=>k b u q
 slot:=fun b u q _ _ _=>⟨u.slots,k b u q⟩
 free:=fun b u q n _=>by rw [upd_ne (Nat.ne_of_lt (Nat.lt_of_lt_of_le (Heap.lt_size q) hp))]; exact n
 there:=fun b u q _=>⟨u,k b u q⟩
 tups:=fun b xs q=>by rw [upd_ne (ne_of_none q hn)]; exact q
 frzs:=fun b u xs q=>by rw [upd_ne (ne_of_none q hn)]; exact q
 tbls:=fun b ps q=>⟨#[],by rw [upd_ne (ne_of_none q hn),q]; simp⟩
theorem Un.write (mu:Mut (H x)) (he:e=x ∨ H e=some (.own x)) (k:∀ b u,b ≠ e→h.get? b=some u→h'.get? b=some u) (heo:∃ u,h'.get? e=some u):Un fs ex H (upd H x o) h h':=by
 have hx:∀ b,H b=none→b ≠ x:=fun b n z=>by subst z; rw [n] at mu; exact mu
 have hb:∀ b,H b=none→b ≠ e:=fun b n z=>by
  subst z
  rcases he with r | r
  ·exact hx b n r
  ·rw [n] at r; cases r
 have hm:∀ b u,H b=some u→¬ Mut (some u)→b ≠ x:=fun b u q nm z=>by subst z; rw [q] at mu; exact nm mu
 refine ⟨fun b u q n _ _=>k b u (hb b n) q,fun b u q n _ _=>⟨u.slots,k b u (hb b n) q⟩,fun b u q n _=>by rw [upd_ne (hx b n)]; exact n,fun b u q _=>?_,
  fun b xs q=>by rw [upd_ne (hm b _ q fun z=>z)]; exact q,fun b u xs q=>by rw [upd_ne (hm b _ q fun z=>z)]; exact q,fun b ps q=>⟨#[],by rw [upd_ne (hm b _ q fun z=>z),q]; simp⟩⟩
 by_cases hbe:b=e
 ·subst hbe; exact heo
 ·exact ⟨u,k b u hbe q⟩
end
noncomputable def trk (h:Heap) (H:Hp):List Addr:=(List.range h.objs.size).filter fun a=>(H a).isSome
noncomputable def hidT (h:Heap) (H:Hp):Heap:=PySem.W.hideAll h (trk h H)
theorem hidT_size (h:Heap) (H:Hp):(hidT h H).objs.size=h.objs.size:=PySem.W.hideAll_size _ _
theorem hidT_get {h:Heap} {H:Hp} {b:Addr} {o:Obj} (e:h.get? b=some o) (n:H b=none):(hidT h H).get? b=some o:=
 PySem.W.hideAll_get _ e fun hm=>by
  have q:(H b).isSome=true:=(List.mem_filter.mp hm).2
  rw [n] at q; simp at q
theorem of_hidT {h:Heap} {H:Hp} {b:Addr} {o:Obj} (e:(hidT h H).get? b=some o):h.get? b=some o∧H b=none:=by
 have e':h.get? b=some o:=PySem.W.of_hideAll (trk h H) e
 refine ⟨e',?_⟩
 cases q:H b with
 | none=>rfl
 | some x=>
  have hm:b ∈ trk h H:=List.mem_filter.mpr ⟨List.mem_range.mpr (Heap.lt_size e'),by simp [q]⟩
  have z:(hidT h H).get? b=none:=PySem.W.hideAll_none (trk h H) hm
  rw [z] at e; cases e
end L2
namespace L2
open PySem PySem.Spec PyProof.Rows
structure Mod (K:PySem.W.Frag) (mg:Str→Option Value) (base:Heap):Prop where
 kin:K.In base
 glob:base.Ns mainGlobals mg
 blt:∃ mb,base.Ns builtinsNs mb∧∀ x:Str,x ≠ "__name__"→mb x=bootBuiltins x
 nolimit:base.NoLimit
structure Cx where
 prog:Program
 w:World
 K:PySem.W.Frag
 mg:Str→Option Value
 base:Heap
 A:Around
 N:List Str
 s₀:Shared
 H₀:Hp
 env:Env
 outer:List Env
 stack:List Env
 ex:List Addr
 fn:Str→Bool
 calm:Bool
 pn:List (Addr × Obj)
 xe:Value→Shared→Prop
noncomputable def frs (l:List Env):List Addr:=l.filterMap (·.frame)
noncomputable abbrev Cx.fs (X:Cx):List Addr:=frs X.outer
noncomputable def Vis (sc:Scope) (x:Str):Prop:=sc.names.lookup x=some .local ∨ sc.names.lookup x=some .cell ∨ sc.names.lookup x=some .free
noncomputable def Loc (sc:Scope) (x:Str):Prop:=sc.names.lookup x=some .local ∨ sc.names.lookup x=some .cell
noncomputable def Look (env:Env) (h:Heap) (m:Str→Option Value) (x:Str) (u:Value):Prop:=
 (env.kindOf x=some .local∧m x=some u) ∨ ((env.kindOf x=some .cell ∨ env.kindOf x=some .free)∧∃ c,env.cells.lookup x=some c∧h.IsCell c (some u))
structure Cx.Ok (X:Cx):Prop where
 mod:Mod X.K X.mg X.base
 kind:X.env.scope.kind=.function
 glob:X.env.globals=mainGlobals
 blt:X.env.builtins=builtinsNs
 above:X.s₀.heap.objs.size≤X.env.locals
 inj:∀ x y c,X.env.cells.lookup x=some c→X.env.cells.lookup y=some c→x=y
 has:∀ x,(X.env.kindOf x=some .cell ∨ X.env.kindOf x=some .free)→∃ c,X.env.cells.lookup x=some c
 cab:∀ x c,X.fn x=true→X.env.cells.lookup x=some c→X.s₀.heap.objs.size≤c
 hd:X.calm=true→X.A.handled=none
 frames:X.A.frames=some X.stack
 stk:X.stack=X.outer ∨ (X.stack=X.env :: X.outer∧X.env.frame=some X.env.locals)
 exf:∀ b ∈ X.ex,b ≠ X.env.locals∧∀ x c,X.env.cells.lookup x=some c→c ≠ b
 bs:∀ b o,X.base.get? b=some o→X.s₀.heap.get? b=some o∧X.H₀ b=none
 bsz:X.base.objs.size≤X.s₀.heap.objs.size
 noex:∀ b o,X.base.get? b=some o→b ∉ X.ex
 exfs:∀ b ∈ X.ex,b ∉ X.fs
 funs:X.s₀.heap.FunFrames X.base X.outer
 frf:∀ b ∈ X.fs,X.H₀ b=none
structure Inv (X:Cx) (pins:List (Addr × Obj)) (σ:List (Option V)) (H:Hp) (s:Shared):Prop where
 ok:X.Ok
 os:s.os=X.s₀.os
 bare:AllBare s.gens
 base:Un X.fs X.ex X.H₀ H X.s₀.heap s.heap
 loc:∃ m,s.heap.Ns X.env.locals m∧∀ (i:Nat) (x:Str) (v:V),X.N[i]?=some x→σ[i]?=some (some v)→Vis X.env.scope x→∃ u,RelV v u∧Look X.env s.heap m x u
 cell:∀ x c,X.env.cells.lookup x=some c→∃ v,s.heap.IsCell c v
 free:H X.env.locals=none
 freeC:∀ x c,X.env.cells.lookup x=some c→H c=none
 pin:∀ p ∈ X.pn ++ pins,s.heap.get? p.1=some p.2∧H p.1=none∧p.1 ≠ X.env.locals∧p.1 ∉ X.fs∧∀ v,p.2.data ≠ .cell v
 hok:HOk X.prog X.w H s.heap
 len:σ.length=X.N.length
section
variable {X:Cx} {pins:List (Addr × Obj)} {σ:List (Option V)} {H H':Hp} {s:Shared} {h':Heap}
theorem Cx.Ok.nofr (ok:X.Ok) {b:Addr} {o:Obj} (e:X.base.get? b=some o):b ∉ X.fs:=fun hb=>by
 have:=(ok.funs.mem hb).1
 rw [e] at this; cases this
theorem Inv.bs (I:Inv X pins σ H s):∀ b o,X.base.get? b=some o→s.heap.get? b=some o∧H b=none:=fun b o e=>
 ⟨I.base.keep b o (I.ok.bs b o e).1 (I.ok.bs b o e).2 (I.ok.nofr e) (I.ok.noex b o e),I.base.free b o (I.ok.bs b o e).1 (I.ok.bs b o e).2 (I.ok.noex b o e)⟩
theorem Inv.bk (I:Inv X pins σ H s):∀ b o,X.base.get? b=some o→s.heap.get? b=some o:=fun b o e=>(I.bs b o e).1
theorem Inv.mod (I:Inv X pins σ H s):Mod X.K X.mg X.base:=I.ok.mod
theorem Inv.kIn (I:Inv X pins σ H s):X.K.In s.heap:=I.ok.mod.kin.keeps I.bk
theorem Inv.lt (I:Inv X pins σ H s):X.env.locals < s.heap.objs.size:=let ⟨_,hn,_⟩:=I.loc; hn.lt
theorem Inv.sz (I:Inv X pins σ H s):X.s₀.heap.objs.size≤s.heap.objs.size:=Nat.le_trans I.ok.above (Nat.le_of_lt I.lt)
theorem Inv.nofs (I:Inv X pins σ H s) {a:Addr} (h:s.heap.objs.size≤a):a ∉ X.fs:=fun hb=>by
 obtain ⟨_,o,ho,_⟩:=I.ok.funs.mem hb
 exact absurd (Nat.lt_of_lt_of_le (Heap.lt_size ho) (Nat.le_trans I.sz h)) (Nat.lt_irrefl _)
theorem Inv.cne (I:Inv X pins σ H s):∀ x c,X.env.cells.lookup x=some c→c ≠ X.env.locals:=fun x c e z=>by
 obtain ⟨v,o,ho,hd⟩:=I.cell x c e
 obtain ⟨m,⟨o',es,ep,ho',hd',_⟩,_⟩:=I.loc
 rw [z,ho'] at ho; cases ho; rw [hd'] at hd; cases hd
theorem Inv.funs (I:Inv X pins σ H s):s.heap.FunFrames X.base X.outer:=by
 have all:∀ (l:List Env),(∀ b ∈ frs l,b ∈ X.fs)→X.s₀.heap.FunFrames X.base l→s.heap.FunFrames X.base l:=by
  intro l
  induction l with
  | nil=>intro _ _; trivial
  | cons env r ih=>
   intro hs hl
   obtain ⟨hk,⟨L,o,hf,hn,ho,hd⟩,hr⟩:=hl
   have hL:L ∈ X.fs:=hs L (by unfold frs; rw [List.filterMap_cons,hf]; exact List.mem_cons_self)
   obtain ⟨sl,e⟩:=I.base.slot L o ho (I.ok.frf L hL) hL fun z=>I.ok.exfs L z hL
   exact ⟨hk,⟨L,_,hf,hn,e,hd⟩,ih (fun b hb=>hs b (by unfold frs; rw [List.filterMap_cons,hf]; exact List.mem_cons_of_mem _ hb)) hr⟩
 exact all X.outer (fun _ hb=>hb) I.ok.funs
theorem Inv.stack (I:Inv X pins σ H s):s.heap.FunFrames X.base X.stack:=by
 rcases I.ok.stk with e | ⟨e,hf⟩
 ·rw [e]; exact I.funs
 ·rw [e]
  obtain ⟨m,hn,_⟩:=I.loc
  refine .cons (by rw [I.ok.kind]; decide) hf hn ?_ I.funs
  exact Heap.get?_none_of_le (Nat.le_trans I.ok.bsz I.ok.above)
theorem Inv.stkSub (I:Inv X pins σ H s):∀ b ∈ frs X.stack,b ∈ X.env.locals :: X.fs:=fun b hb=>by
 rcases I.ok.stk with e | ⟨e,hf⟩
 ·rw [e] at hb; exact List.mem_cons_of_mem _ hb
 ·rw [e] at hb
  unfold frs at hb
  rw [List.filterMap_cons,hf] at hb
  exact hb
theorem Inv.stkFree (I:Inv X pins σ H s):∀ b ∈ frs X.stack,H b=none:=fun b hb=>by
 rcases List.mem_cons.mp (I.stkSub b hb) with e | hb
 ·rw [e]; exact I.free
 ·obtain ⟨_,o,ho,_⟩:=I.ok.funs.mem hb
  exact I.base.free b o ho (I.ok.frf b hb) fun z=>I.ok.exfs b z hb
theorem Inv.step {g':Array GenState} {t':Nat} {d':Drawn} {ch:List Addr} (I:Inv X pins σ H s)
  (hch:∀ b ∈ ch,(b ∈ X.ex ∨ X.s₀.heap.objs.size≤b)∧b ≠ X.env.locals∧(∀ x c,X.env.cells.lookup x=some c→c ≠ b)∧∀ p ∈ X.pn ++ pins,p.1 ≠ b)
  (keep:∀ b o,b ≠ X.env.locals→b ∉ X.fs→b ∉ ch→s.heap.get? b=some o→H b=none→h'.get? b=some o)
  (slot:∀ b o,b ≠ X.env.locals→b ∈ X.fs→b ∉ ch→s.heap.get? b=some o→H b=none→∃ sl,h'.get? b=some { o with slots:=sl }) (free:∀ b o,b ∉ ch→s.heap.get? b=some o→H b=none→H' b=none)
  (there:∀ b o,b ∉ ch→s.heap.get? b=some o→∃ o',h'.get? b=some o')
  (tups:∀ b xs,H b=some (.tup xs)→H' b=some (.tup xs)) (frzs:∀ b o u,H b=some (.frz o u)→H' b=some (.frz o u)) (tbls:∀ b ps,H b=some (.tbl ps)→∃ more,H' b=some (.tbl (ps ++ more)))
  (ns:∀ m,s.heap.Ns X.env.locals m→h'.Ns X.env.locals m) (hok:HOk X.prog X.w H' h') (hg:AllBare g'):
  Inv X pins σ H' { s with heap:=h',gens:=g',drawn:=d',toks:=t' }:=by
 have neL:∀ b o,X.s₀.heap.get? b=some o→b ≠ X.env.locals:=fun b o e=>Nat.ne_of_lt (Nat.lt_of_lt_of_le (Heap.lt_size e) I.ok.above)
 have neC:∀ b o,X.s₀.heap.get? b=some o→b ∉ X.ex→b ∉ ch:=fun b o e hx hb=>by
  rcases (hch b hb).1 with z | z
  ·exact hx z
  ·exact absurd (Nat.lt_of_lt_of_le (Heap.lt_size e) z) (Nat.lt_irrefl _)
 have cellK:∀ x c,X.env.cells.lookup x=some c→∀ v,s.heap.IsCell c v→h'.IsCell c v:=fun x c e v ⟨o,ho,hd⟩=>by
  have nch:c ∉ ch:=fun z=>(hch c z).2.2.1 x c e rfl
  by_cases hc:c ∈ X.fs
  ·obtain ⟨sl,q⟩:=slot c o (I.cne x c e) hc nch ho (I.freeC x c e)
   exact ⟨_,q,hd⟩
  ·exact ⟨o,keep c o (I.cne x c e) hc nch ho (I.freeC x c e),hd⟩
 refine ⟨I.ok,I.os,hg,⟨fun b o e n hb hx=>?_,fun b o e n hb hx=>?_,fun b o e n hx=>?_,fun b o e hx=>?_,fun b xs e=>tups b xs (I.base.tups b xs e),fun b o xs e=>frzs b o xs (I.base.frzs b o xs e),fun b ps e=>?_⟩,?_,fun x c e=>?_,?_,fun x c e=>?_,fun p hp=>?_,hok,I.len⟩
 ·exact keep b o (neL b o e) hb (neC b o e hx) (I.base.keep b o e n hb hx) (I.base.free b o e n hx)
 ·obtain ⟨sl,e1⟩:=I.base.slot b o e n hb hx
  obtain ⟨sl',e2⟩:=slot b _ (neL b o e) hb (neC b o e hx) e1 (I.base.free b o e n hx)
  exact ⟨sl',e2⟩
 ·obtain ⟨o',e1⟩:=I.base.there b o e hx
  exact free b o' (neC b o e hx) e1 (I.base.free b o e n hx)
 ·obtain ⟨o',e1⟩:=I.base.there b o e hx
  exact there b o' (neC b o e hx) e1
 ·obtain ⟨m1,e1⟩:=I.base.tbls b ps e
  obtain ⟨m2,e2⟩:=tbls b _ e1
  exact ⟨m1 ++ m2,by rw [e2,Array.append_assoc]⟩
 ·obtain ⟨m,hn,hl⟩:=I.loc
  refine ⟨m,ns m hn,fun i x v e1 e2 e3=>?_⟩
  obtain ⟨u,r,l⟩:=hl i x v e1 e2 e3
  refine ⟨u,r,?_⟩
  rcases l with l | ⟨k,c,e,z⟩
  ·exact .inl l
  ·exact .inr ⟨k,c,e,cellK x c e _ z⟩
 ·obtain ⟨v,z⟩:=I.cell x c e
  exact ⟨v,cellK x c e v z⟩
 ·obtain ⟨m,⟨o,_,_,ho,_⟩,_⟩:=I.loc
  exact free _ o (fun z=>(hch _ z).2.1 rfl) ho I.free
 ·obtain ⟨v,o,ho,hd⟩:=I.cell x c e
  exact free c o (fun z=>(hch c z).2.2.1 x c e rfl) ho (I.freeC x c e)
 ·obtain ⟨e,n,ne,nf,d⟩:=I.pin p hp
  have nch:p.1 ∉ ch:=fun z=>(hch p.1 z).2.2.2 p hp rfl
  exact ⟨keep p.1 p.2 ne nf nch e n,free p.1 p.2 nch e n,ne,nf,d⟩
theorem Inv.un {t':Nat} (I:Inv X pins σ H s) (u:Un X.fs [] H H' s.heap h') (hok:HOk X.prog X.w H' h'):Inv X pins σ H' { s with heap:=h',toks:=t' }:=by
 obtain ⟨m,⟨o,es,ep,ho,r⟩,_⟩:=id I.loc
 obtain ⟨sl,hL⟩:=u.any ho I.free (by simp)
 exact I.step (g':=s.gens) (d':=s.drawn) (ch:=[]) (fun _ z=>nomatch z) (fun b o _ hb _ e n=>u.keep b o e n hb (by simp)) (fun b o _ hb _ e n=>u.slot b o e n hb (by simp)) (fun b o _ e n=>u.free b o e n (by simp)) (fun b o _ e=>u.there b o e (by simp)) u.tups u.frzs u.tbls (fun m' hm=>by
  obtain ⟨o',es',ep',ho',r'⟩:=hm
  rw [ho] at ho'; cases ho'
  exact ⟨_,es',ep',hL,r'⟩) hok I.bare
theorem Inv.call {g':Array GenState} {t':Nat} {d':Drawn} {ch:List Addr} (I:Inv X pins σ H s) (u:Un (frs X.stack) ch H H' s.heap h') (hok:HOk X.prog X.w H' h') (hg:AllBare g')
  (hch:∀ b ∈ ch,(b ∈ X.ex ∨ X.s₀.heap.objs.size≤b)∧b ≠ X.env.locals∧(∀ x c,X.env.cells.lookup x=some c→c ≠ b)∧∀ p ∈ X.pn ++ pins,p.1 ≠ b):
  Inv X pins σ H' { s with heap:=h',gens:=g',drawn:=d',toks:=t' }:=by
 obtain ⟨m,⟨o,es,ep,ho,r⟩,_⟩:=id I.loc
 obtain ⟨sl,hL⟩:=u.any ho I.free fun z=>(hch _ z).2.1 rfl
 exact I.step (ch:=ch) hch (fun b o hL hb hc e n=>u.keep b o e n (fun z=>(List.mem_cons.mp (I.stkSub b z)).elim hL hb) hc) (fun b o _ _ hc e n=>u.any e n hc) (fun b o hc e n=>u.free b o e n hc) (fun b o hc e=>u.there b o e hc) u.tups u.frzs u.tbls (fun m' hm=>by
  obtain ⟨o',es',ep',ho',r'⟩:=hm
  rw [ho] at ho'; cases ho'
  exact ⟨_,es',ep',hL,r'⟩) hok hg
theorem Inv.turned {t':Nat} {it:Addr} (I:Inv X pins σ H s) (k:∀ b o,b ≠ it→s.heap.get? b=some o→h'.get? b=some o) (hn:H it=none) (hL:it ≠ X.env.locals)
  (h1:it ∈ X.ex ∨ X.s₀.heap.objs.size≤it) (h2:∀ x c,X.env.cells.lookup x=some c→c ≠ it) (h3:∀ p ∈ X.pn ++ pins,p.1 ≠ it):Inv X pins σ H { s with heap:=h',toks:=t' }:=by
 have nit:∀ b u,H b=some u→b ≠ it:=fun b u e z=>by rw [z,hn] at e; cases e
 refine I.step (g':=s.gens) (d':=s.drawn) (ch:=[it]) (fun b hb=>?_) (fun b o _ _ hc e _=>k b o (fun z=>hc (by simp [z])) e) (fun b o _ _ hc e _=>⟨o.slots,k b o (fun z=>hc (by simp [z])) e⟩) (fun _ _ _ _ n=>n)
  (fun b o hc e=>⟨o,k b o (fun z=>hc (by simp [z])) e⟩) (fun _ _ e=>e) (fun _ _ _ e=>e) (fun b ps e=>⟨#[],by rw [e]; simp⟩) (fun m hm=>?_) (fun b u e=>?_) I.bare
 ·have e:b=it:=by simpa using hb
  subst e
  exact ⟨h1,hL,h2,h3⟩
 ·obtain ⟨o,es,ep,ho,r⟩:=hm
  exact ⟨o,es,ep,k _ o (Ne.symm hL) ho,r⟩
 ·refine (I.hok b u e).stay (fun c v hc q=>k c v ?_ q) (fun _ q=>q) fun _ _ q=>q
  rcases hc with z | z
  ·rw [z]; exact nit b u e
  ·exact nit c _ z
theorem Inv.tok (I:Inv X pins σ H s) (t:Nat):Inv X pins σ H { s with toks:=t }:=I.un (h':=s.heap) (t':=t) Un.refl I.hok
theorem Inv.kept {t':Nat} (I:Inv X pins σ H s) (k:∀ b u,s.heap.get? b=some u→h'.get? b=some u):Inv X pins σ H { s with heap:=h',toks:=t' }:=I.un (Un.kept k) (I.hok.kept k)
theorem Inv.laid {a:Addr} {o:HO} {t':Nat} (I:Inv X pins σ H s) (k:∀ b u,s.heap.get? b=some u→h'.get? b=some u) (hp:s.heap.objs.size≤a) (new:ObjOk X.prog X.w (upd H a o) h' a o):
  Inv X pins σ (upd H a o) { s with heap:=h',toks:=t' }:=I.un (Un.laid k hp (I.hok.fresh hp)) (I.hok.laid k hp new)
theorem Inv.write {x e:Addr} {o:HO} {t':Nat} (I:Inv X pins σ H s) (mu:Mut (H x)) (he:e=x ∨ H e=some (.own x)) (k:∀ b u,b ≠ e→s.heap.get? b=some u→h'.get? b=some u) (heo:∃ u,h'.get? e=some u)
  (new:ObjOk X.prog X.w (upd H x o) h' x o):Inv X pins σ (upd H x o) { s with heap:=h',toks:=t' }:=I.un (Un.write mu he k heo) (I.hok.write mu he k heo new)
theorem Inv.pins_of {pins':List (Addr × Obj)} (I:Inv X pins σ H s) (h:∀ p ∈ pins',s.heap.get? p.1=some p.2∧H p.1=none∧p.1 ≠ X.env.locals∧p.1 ∉ X.fs∧∀ v,p.2.data ≠ .cell v):Inv X pins' σ H s:=
 ⟨I.ok,I.os,I.bare,I.base,I.loc,I.cell,I.free,I.freeC,fun p hp=>(List.mem_append.mp hp).elim (fun z=>I.pin p (List.mem_append_left _ z)) (h p),I.hok,I.len⟩
theorem nodup_ix {N:List Str} (hN:N.Nodup) {i j:Nat} {x:Str} (a:N[i]?=some x) (b:N[j]?=some x):i=j:=by
 obtain ⟨h1,e1⟩:=List.getElem?_eq_some_iff.mp a
 obtain ⟨h2,e2⟩:=List.getElem?_eq_some_iff.mp b
 exact (List.getElem_inj hN).mp (e1.trans e2.symm)
theorem store_ok2 {M:Model} {A:Around} {E:Value→Shared→Prop} {i:Nat} {x:Str} {v:V} {u:Value} {Q:Unit→Shared→Prop} (I:Inv X pins σ H s) (hN:X.N.Nodup) (hi:X.N[i]?=some x) (hx:Loc X.env.scope x) (r:RelV v u)
  (h:∀ s',Inv X pins (σ.set i (some v)) H s'→(∃ a,Heap.SameBut a s.heap s'.heap∧(a=X.env.locals ∨ X.env.cells.lookup x=some a))→Q () s') (hf:X.fn x=true ∨ X.env.scope.names.lookup x=some .local):wpAny M A (storeName X.env x u) Q E s:=by
 obtain ⟨m,hn,hl⟩:=id I.loc
 have hcls:(X.env.scope.kind == .class || (X.env.scope.kind == .module && X.env.locals != X.env.globals))=false:=by rw [I.ok.kind]; rfl
 have hiσ:i < σ.length:=by rw [I.len]; exact (List.getElem?_eq_some_iff.mp hi).1
 have cne:=I.cne
 have tracked:∀ {a:Addr} {h':Heap},(∃ o,s.heap.get? a=some o∧H a=none)→Heap.SameBut a s.heap h'→HOk X.prog X.w H h':=fun {a h'} ha hs b ob e=>by
  obtain ⟨_,_,hfree⟩:=ha
  refine (I.hok b ob e).stay (fun c w' hc q=>(hs.2 c ?_).trans q) (fun _ q=>q) fun _ _ q=>q
  rintro rfl
  rcases hc with rfl | hc
  ·rw [hfree] at e; cases e
  ·rw [hfree] at hc; cases hc
 rcases hx with hk | hk
 ·refine wpAny_storeName_local hk hn (fun h' hn' hs=>?_) hcls
  obtain ⟨oL,_,_,hoL,_⟩:=id hn
  refine h _ ⟨I.ok,I.os,I.bare,⟨fun b o e n hb hx=>?_,fun b o e n hb hx=>?_,I.base.free,fun b o e hx=>?_,I.base.tups,I.base.frzs,I.base.tbls⟩,⟨_,hn',fun j y v' e1 e2 e3=>?_⟩,fun y c e=>?_,I.free,I.freeC,fun p hp=>?_,tracked ⟨oL,hoL,I.free⟩ hs,by simpa using I.len⟩ ⟨_,hs,.inl rfl⟩
  ·exact (hs.2 b (Nat.ne_of_lt (Nat.lt_of_lt_of_le (Heap.lt_size e) I.ok.above))).trans (I.base.keep b o e n hb hx)
  ·obtain ⟨sl,e1⟩:=I.base.slot b o e n hb hx
   exact ⟨sl,(hs.2 b (Nat.ne_of_lt (Nat.lt_of_lt_of_le (Heap.lt_size e) I.ok.above))).trans e1⟩
  ·obtain ⟨o',e1⟩:=I.base.there b o e hx
   exact ⟨o',(hs.2 b (Nat.ne_of_lt (Nat.lt_of_lt_of_le (Heap.lt_size e) I.ok.above))).trans e1⟩
  ·by_cases hj:j=i
   ·subst hj
    rw [hi] at e1; cases e1
    rw [List.getElem?_set_self hiσ] at e2
    cases e2
    exact ⟨u,r,.inl ⟨hk,by simp⟩⟩
   ·rw [List.getElem?_set_ne (Ne.symm hj)] at e2
    obtain ⟨u',r',q⟩:=hl j y v' e1 e2 e3
    refine ⟨u',r',?_⟩
    rcases q with ⟨k,e⟩ | ⟨k,c,e,z⟩
    ·refine .inl ⟨k,?_⟩
     have:y ≠ x:=fun e=>hj (nodup_ix hN e1 (e ▸ hi))
     simp [this,e]
    ·exact .inr ⟨k,c,e,z.sameBut hs (cne y c e)⟩
  ·obtain ⟨w',z⟩:=I.cell y c e
   exact ⟨w',z.sameBut hs (cne y c e)⟩
  ·obtain ⟨e,n,ne,nf,d⟩:=I.pin p hp
   exact ⟨(hs.2 p.1 ne).trans e,n,ne,nf,d⟩
 ·have hfn:X.fn x=true:=by
   rcases hf with z | z
   ·exact z
   ·rw [z] at hk; cases hk
  obtain ⟨c,hc⟩:=I.ok.has x (.inl hk)
  obtain ⟨w',z⟩:=I.cell x c hc
  refine wpAny_storeName_cell I.ok.kind hk hc z (fun h' hc' hs=>?_)
  obtain ⟨oc,hoc,hocd⟩:=id z
  refine h { s with heap:=h' } ⟨I.ok,I.os,I.bare,⟨fun b o e n hb hx=>?_,fun b o e n hb hx=>?_,I.base.free,fun b o e hx=>?_,I.base.tups,I.base.frzs,I.base.tbls⟩,⟨m,hn.sameBut hs (Ne.symm (cne x c hc)),fun j y v' e1 e2 e3=>?_⟩,fun y c' e=>?_,I.free,I.freeC,fun p hp=>?_,tracked ⟨oc,hoc,I.freeC x c hc⟩ hs,by simpa using I.len⟩ ⟨c,hs,.inr hc⟩
  ·exact (hs.2 b (Nat.ne_of_lt (Nat.lt_of_lt_of_le (Heap.lt_size e) (I.ok.cab x c hfn hc)))).trans (I.base.keep b o e n hb hx)
  ·obtain ⟨sl,e1⟩:=I.base.slot b o e n hb hx
   exact ⟨sl,(hs.2 b (Nat.ne_of_lt (Nat.lt_of_lt_of_le (Heap.lt_size e) (I.ok.cab x c hfn hc)))).trans e1⟩
  ·obtain ⟨o',e1⟩:=I.base.there b o e hx
   exact ⟨o',(hs.2 b (Nat.ne_of_lt (Nat.lt_of_lt_of_le (Heap.lt_size e) (I.ok.cab x c hfn hc)))).trans e1⟩
  ·by_cases hj:j=i
   ·subst hj
    rw [hi] at e1; cases e1
    rw [List.getElem?_set_self hiσ] at e2
    cases e2
    exact ⟨u,r,.inr ⟨.inl hk,c,hc,hc'⟩⟩
   ·rw [List.getElem?_set_ne (Ne.symm hj)] at e2
    obtain ⟨u',r',q⟩:=hl j y v' e1 e2 e3
    refine ⟨u',r',?_⟩
    rcases q with q | ⟨k,c',e,z'⟩
    ·exact .inl q
    ·refine .inr ⟨k,c',e,z'.sameBut hs ?_⟩
     rintro rfl
     exact hj (nodup_ix hN e1 (I.ok.inj _ _ _ e hc ▸ hi))
  ·by_cases hcc:c'=c
   ·subst hcc; exact ⟨_,hc'⟩
   ·obtain ⟨w2,z2⟩:=I.cell y c' e
    exact ⟨w2,z2.sameBut hs hcc⟩
  ·obtain ⟨e,n,ne,nf,d⟩:=I.pin p hp
   refine ⟨(hs.2 p.1 ?_).trans e,n,ne,nf,d⟩
   intro q
   rw [q,hoc] at e
   have q':oc=p.2:=Option.some.inj e
   exact d w' (by rw [← q']; exact hocd)
theorem store_ok {M:Model} {A:Around} {E:Value→Shared→Prop} {i:Nat} {x:Str} {v:V} {u:Value} {Q:Unit→Shared→Prop} (I:Inv X pins σ H s) (hN:X.N.Nodup) (hi:X.N[i]?=some x) (hx:Loc X.env.scope x) (r:RelV v u)
  (h:∀ s',Inv X pins (σ.set i (some v)) H s'→Q () s') (hf:X.fn x=true ∨ X.env.scope.names.lookup x=some .local):wpAny M A (storeName X.env x u) Q E s:=
 store_ok2 I hN hi hx r (fun s' I' _=>h s' I') hf
theorem Inv.call' {s':Shared} {ch:List Addr} (I:Inv X pins σ H s) (ho:s'.os=s.os) (u:Un (frs X.stack) ch H H' s.heap s'.heap) (hok:HOk X.prog X.w H' s'.heap) (hg:AllBare s'.gens)
  (hch:∀ b ∈ ch,(b ∈ X.ex ∨ X.s₀.heap.objs.size≤b)∧b ≠ X.env.locals∧(∀ x c,X.env.cells.lookup x=some c→c ≠ b)∧∀ p ∈ X.pn ++ pins,p.1 ≠ b):Inv X pins σ H' s':=by
 obtain ⟨h',g',d',t',o'⟩:=s'
 have e:o'=s.os:=ho
 subst e
 exact I.call (g':=g') (t':=t') (d':=d') u hok hg hch
end
noncomputable abbrev XK:=Value→Option Addr→Hp→Prop
noncomputable abbrev St:=List (Option V)
noncomputable abbrev VK:=V→Hp→Prop
noncomputable abbrev TE:=St→Hp→VK→Prop
noncomputable abbrev TT:=St→Hp→(Bool→Hp→Prop)→Prop
noncomputable abbrev TA:=St→Hp→(List V→Hp→Prop)→Prop
set_option genInjectivity false in
structure Ends where
 nx:St→Hp→Prop
 rt:VK
 bk:St→Hp→Prop:=fun _ _=>False
 ct:St→Hp→Prop:=fun _ _=>False
noncomputable abbrev TS:=Ends→St→Hp→Prop
noncomputable def EP (X:Cx) (pins:List (Addr × Obj)) (σ:St) (Q:VK) (u:Value) (s':Shared):Prop:=∃ v H',Inv X pins σ H' s'∧RelV v u∧Q v H'
noncomputable def TP (X:Cx) (pins:List (Addr × Obj)) (σ:St) (Q:Bool→Hp→Prop) (b:Bool) (s':Shared):Prop:=∃ H',Inv X pins σ H' s'∧Q b H'
noncomputable def AP (X:Cx) (pins:List (Addr × Obj)) (σ:St) (Q:List V→Hp→Prop) (us:List Value) (s':Shared):Prop:=∃ vs H',Inv X pins σ H' s'∧Vals vs us∧Q vs H'
noncomputable def SP (X:Cx) (pins:List (Addr × Obj)) (D:Ends) (f:Flow) (s':Shared):Prop:=
 match f with
 | .next=>∃ σ' H',Inv X pins σ' H' s'∧D.nx σ' H'
 | .brk=>∃ σ' H',Inv X pins σ' H' s'∧D.bk σ' H'
 | .cont=>∃ σ' H',Inv X pins σ' H' s'∧D.ct σ' H'
 | .ret u=>∃ v σ' H',Inv X pins σ' H' s'∧RelV v u∧D.rt v H'
noncomputable def PE (X:Cx) (e:Expr) (t:TE):Prop:=
 ∀ (pins:List (Addr × Obj)) (s:Shared) (σ:St) (H:Hp) (Q:VK),Inv X pins σ H s→t σ H Q→wpAny (model X.prog X.w) X.A (eval e X.env) (EP X pins σ Q) X.xe s
noncomputable def PT (X:Cx) (e:Expr) (t:TT):Prop:=
 ∀ (pins:List (Addr × Obj)) (s:Shared) (σ:St) (H:Hp) (Q:Bool→Hp→Prop),Inv X pins σ H s→t σ H Q→wpAny (model X.prog X.w) X.A (isTrue e X.env (eval e X.env)) (TP X pins σ Q) X.xe s
noncomputable def PW (X:Cx) (e:Expr) (t:TT):Prop:=
 ∀ (whole:Sem Value) (pins:List (Addr × Obj)) (s:Shared) (σ:St) (H:Hp) (Q:Bool→Hp→Prop),Inv X pins σ H s→t σ H Q→wpAny (model X.prog X.w) X.A (isTrue e X.env whole) (TP X pins σ Q) X.xe s
theorem PW.pt {X:Cx} {e:Expr} {t:TT} (h:PW X e t):PT X e t:=h _
noncomputable def PA (X:Cx) (es:List Expr) (t:TA):Prop:=
 ∀ (pos:Pos) (pins:List (Addr × Obj)) (s:Shared) (σ:St) (H:Hp) (Q:List V→Hp→Prop),Inv X pins σ H s→t σ H Q→wpAny (model X.prog X.w) X.A (spliced (backTo pos (starEach es X.env))) (AP X pins σ Q) X.xe s
noncomputable def PS (X:Cx) (st:Stmt) (t:TS):Prop:=
 ∀ (pins:List (Addr × Obj)) (s:Shared) (σ:St) (H:Hp) (D:Ends),Inv X pins σ H s→t D σ H→wpAny (model X.prog X.w) X.A (exec st X.env) (SP X pins D) X.xe s
noncomputable def PSs (X:Cx) (st:List Stmt) (t:TS):Prop:=
 ∀ (pins:List (Addr × Obj)) (s:Shared) (σ:St) (H:Hp) (D:Ends),Inv X pins σ H s→t D σ H→wpAny (model X.prog X.w) X.A (execs st X.env) (SP X pins D) X.xe s
theorem thn {α:Type} {t:Sem α} {Q Q':α→Shared→Prop} {M:Model} {A:Around} {E:Value→Shared→Prop} {s:Shared} (h:wpAny M A t Q E s) (hQ:∀ a s,Q a s→Q' a s):wpAny M A t Q' E s:=wpAny_mono h hQ fun _ _ x=>x
end L2
namespace L2
open PySem PySem.Spec PyProof.Rows
section
variable {X:Cx}
noncomputable def tVar (i:Nat):TE:=fun σ H Q=>∃ v,σ[i]?=some (some v)∧Q v H
noncomputable def tC (v:V):TE:=fun _ H Q=>Q v H
theorem pe_var {i:Nat} {x:Str} {pos:Pos} (hN:X.N[i]?=some x) (hv:Vis X.env.scope x) (hd:autoParam ((x == ("__debug__":Str))=false) Au.h2._auto_1) (hcd:autoParam ((x == ("__classdict__":Str))=false) Au.h2._auto_1):PE X (.Name x pos) (tVar i):=by
 intro pins s σ H Q I h
 obtain ⟨v,e,h⟩:=h
 obtain ⟨m,hn,hl⟩:=I.loc
 obtain ⟨u,r,l⟩:=hl i x v hN e hv
 have fin:EP X pins σ Q u s:=⟨v,H,I,r,h⟩
 rcases l with ⟨hk,hm⟩ | ⟨hk,c,hc,hcell⟩
 ·exact wpAny_Name (wpAny_loadName_local I.ok.kind hk hn hm fin) hd
 ·rcases hk with hk | hk
  ·exact wpAny_Name (wpAny_loadName_cell I.ok.kind hk hc hcell fin) hd
  ·exact wpAny_Name (wpAny_loadName_free I.ok.kind hk hc hcell fin hcd) hd
theorem pe_int {i j pos}:PE X (.Constant (.int i) j pos) (tC (.int i)):=fun _ _ _ H _ I h=>wpAny_Constant_int ⟨.int i,H,I.tok _,⟨_,rfl⟩,h⟩
theorem pe_bl {b j pos}:PE X (.Constant (.bool b) j pos) (tC (.bl b)):=fun _ _ _ H _ I h=>Constant_bool ⟨.bl b,H,I,rfl,h⟩
noncomputable def Gl (X:Cx) (x:Str):Prop:=X.env.kindOf x=some .globalImplicit
theorem ld_glob {E:Value→Shared→Prop} {pins:List (Addr × Obj)} {s:Shared} {σ:St} {H:Hp} {x:Str} {u:Value} {pos:Pos} {Q:Value→Shared→Prop} (I:Inv X pins σ H s) (hg:Gl X x) (hm:X.mg x=some u) (h:Q u s)
  (hd:autoParam ((x == ("__debug__":Str))=false) Au.h2._auto_1):wpAny (model X.prog X.w) X.A (eval (.Name x pos) X.env) Q E s:=
 Calls.Name_function_global I.ok.kind hg (Calls.loadGlobal_global (by rw [I.ok.glob]; exact I.mod.glob.keeps I.bk) hm h) hd
theorem ld_blt {E:Value→Shared→Prop} {pins:List (Addr × Obj)} {s:Shared} {σ:St} {H:Hp} {x:Str} {u:Value} {pos:Pos} {Q:Value→Shared→Prop} (I:Inv X pins σ H s) (hg:Gl X x) (hm:X.mg x=none) (hv:bootBuiltins x=some u) (h:Q u s)
  (hn:autoParam (x ≠ "__name__") Au.h2._auto_1) (hd:autoParam ((x == ("__debug__":Str))=false) Au.h2._auto_1):wpAny (model X.prog X.w) X.A (eval (.Name x pos) X.env) Q E s:=by
 obtain ⟨mb,h1,h2⟩:=I.mod.blt
 exact Calls.Name_function_global I.ok.kind hg (Calls.loadGlobal_builtin (by rw [I.ok.glob]; exact I.mod.glob.keeps I.bk) hm (by rw [I.ok.blt]; exact h1.keeps I.bk) ((h2 x hn).trans hv) h) hd
theorem pe_glob {x:Str} {v:V} {u:Value} {pos:Pos} (hg:Gl X x) (hm:X.mg x=some u) (r:RelV v u) (hd:autoParam ((x == ("__debug__":Str))=false) Au.h2._auto_1):PE X (.Name x pos) (tC v):=
 fun _ _ _ H _ I h=>ld_glob I hg hm ⟨v,H,I,r,h⟩ hd
theorem pe_bltn {x:Str} {v:V} {u:Value} {pos:Pos} (hg:Gl X x) (hm:X.mg x=none) (hv:bootBuiltins x=some u) (r:RelV v u) (hn:autoParam (x ≠ "__name__") Au.h2._auto_1) (hd:autoParam ((x == ("__debug__":Str))=false) Au.h2._auto_1):PE X (.Name x pos) (tC v):=
 fun _ _ _ H _ I h=>ld_blt I hg hm hv ⟨v,H,I,r,h⟩ hn hd
variable {a b:Expr} {ta tb:TE} {pos:Pos}
noncomputable def tB (t:TE):TT:=fun σ H Q=>t σ H fun x H1=>∃ c,x=.bl c∧Q c H1
theorem pt_val {e:Expr} {t:TE} (h:PE X e t) (he:autoParam (∀ whole,isTrue e X.env whole=(do let v ← whole; standAt e.pos; holding [v] (truthy v))) Au.h5._auto_1):PT X e (tB t):=by
 intro pins s σ H Q I hw
 refine isTrue_plain (thn (h pins s σ H _ I hw) fun v s1 zq=>?_) (he _)
 obtain ⟨x,H1,I1,r1,q1⟩:=zq
 obtain ⟨d,rfl,q⟩:=q1
 cases r1
 exact wpAny_truthy_bool ⟨H1,I1,q⟩
variable {tA tB':TT} {rest:List Expr}
noncomputable def tOr (t u:TT):TT:=fun σ H Q=>t σ H fun c H1=>if c=true then Q true H1 else u σ H1 Q
noncomputable def tNot (t:TT):TT:=fun σ H Q=>t σ H fun c H1=>Q (!c) H1
theorem pw_or1 (ha:PT X a tA):PW X (.BoolOp .Or [a] pos) tA:=by
 intro wh pins s σ H Q I h
 refine isTrue_or (thn (ha pins s σ H Q I h) fun c s1 e=>?_)
 cases c with
 | false=>exact isTrue_or_nil e
 | true=>exact e
theorem pw_or (ha:PT X a tA) (hb:PW X (.BoolOp .Or (b :: rest) pos) tB'):PW X (.BoolOp .Or (a :: b :: rest) pos) (tOr tA tB'):=by
 intro wh pins s σ H Q I h
 refine isTrue_or (thn (ha pins s σ H _ I h) fun c s1 zq=>?_)
 obtain ⟨H1,I1,q1⟩:=zq
 cases c with
 | true=>exact ⟨H1,I1,q1⟩
 | false=>exact hb wh pins s1 σ H1 Q I1 q1
theorem pt_not (ha:PT X a tA):PT X (.UnaryOp .Not a pos) (tNot tA):=by
 intro pins s σ H Q I h
 exact isTrue_not (ha pins s σ H (fun c H1=>Q (!c) H1) I h)
noncomputable def tAndV (ta tb:TE):TE:=fun σ H Q=>ta σ H fun x H1=>∃ c,x=.bl c∧if c=true then tb σ H1 Q else Q (.bl false) H1
noncomputable def tNotV (ta:TE):TE:=fun σ H Q=>ta σ H fun x H1=>∃ c,x=.bl c∧Q (.bl (!c)) H1
theorem pe_one {op} {t:TE} (h:PE X a t):PE X (.BoolOp op [a] pos) t:=fun pins s σ H Q I hw=>BoolOp_one (h pins s σ H Q I hw)
theorem pe_and (ha:PE X a ta) (hb:PE X (.BoolOp .And (b :: rest) pos) tb):PE X (.BoolOp .And (a :: b :: rest) pos) (tAndV ta tb):=by
 intro pins s σ H Q I h
 refine BoolOp_and (thn (ha pins s σ H _ I h) fun v s1 zq=>?_)
 obtain ⟨x,H1,I1,r1,q1⟩:=zq
 obtain ⟨c,rfl,q1⟩:=q1
 cases r1
 refine wpAny_truthy_bool ?_
 cases c with
 | true=>exact hb pins s1 σ H1 Q I1 q1
 | false=>exact ⟨.bl false,H1,I1,rfl,q1⟩
theorem pe_not (ha:PE X a ta):PE X (.UnaryOp .Not a pos) (tNotV ta):=by
 intro pins s σ H Q I h
 refine UnaryOp_ (thn (ha pins s σ H _ I h) fun v s1 zq=>?_)
 obtain ⟨x,H1,I1,r1,q1⟩:=zq
 obtain ⟨c,rfl,q1⟩:=q1
 cases r1
 exact not_of (wpAny_truthy_bool ⟨.bl (!c),H1,I1,rfl,q1⟩)
noncomputable def tIf (t:TT) (ta tb:TE):TE:=fun σ H Q=>t σ H fun c H1=>if c=true then ta σ H1 Q else tb σ H1 Q
theorem pe_ifExp {c:Expr} (hc:PT X c tA) (ha:PE X a ta) (hb:PE X b tb):PE X (.IfExp c a b pos) (tIf tA ta tb):=by
 intro pins s σ H Q I h
 refine wpAny_IfExp (thn (hc pins s σ H _ I h) fun d s1 zq=>?_)
 obtain ⟨H1,I1,q1⟩:=zq
 cases d with
 | true=>exact ha pins s1 σ H1 Q I1 q1
 | false=>exact hb pins s1 σ H1 Q I1 q1
end
end L2
namespace L2
open PySem PySem.Spec PyProof.Rows
noncomputable def SqL (K:PySem.W.Frag) (H:Hp) (a:Addr) (xs:List V):Prop:=
 Rd H a (.lst xs) ∨
  ∃ (o:Obj) (its:Array Value) (n:Nat),K.lookup a=some o∧o.cls=.type "list"∧o.dict=none∧o.data=.seq its n∧its.size≤sizeLine∧Vals xs its.toList
noncomputable def SqT (K:PySem.W.Frag) (H:Hp) (a:Addr) (xs:List V):Prop:=
 Rd H a (.tup xs) ∨
  ∃ (o:Obj) (its:Array Value) (n:Nat),K.lookup a=some o∧o.cls=.type "tuple"∧o.data=.seq its n∧its.size≤sizeLine∧Vals xs its.toList
noncomputable def absV:Value→Option V
 | .none=>some .non
 | .bool b=>some (.bl b)
 | .int i _=>some (.int i)
 | .str x _=>some (.str x)
 | .bytes b _=>some (.byt b)
 | .float b _=>some (.flt b)
 | .ref a=>some (.ref a)
 | .type n=>some (.ty n)
 | _=>none
theorem RelV.abs {x:V} {u:Value} (r:RelV x u):absV u=some x:=by
 cases x with
 | non=>cases r; rfl
 | bl _=>cases r; rfl
 | int _=>obtain ⟨t,rfl⟩:=r; rfl
 | str _=>obtain ⟨t,rfl⟩:=r; rfl
 | byt _=>obtain ⟨t,rfl⟩:=r; rfl
 | flt _=>obtain ⟨t,rfl⟩:=r; rfl
 | ref _=>cases r; rfl
 | ty _=>cases r; rfl
theorem RelV.inj {x y:V} {u:Value} (r:RelV x u) (q:RelV y u):x=y:=Option.some.inj (r.abs.symm.trans q.abs)
theorem Vals.inj:∀ {xs ys:List V} {us:List Value},Vals xs us→Vals ys us→xs=ys
 | _,_,_,.nil,.nil=>rfl
 | _,_,_,.cons r t,.cons r' t'=>by rw [r.inj r',Vals.inj t t']
section
variable {X:Cx} {pins:List (Addr × Obj)} {σ:St} {H:Hp} {s:Shared} {a:Addr} {xs ys:List V}
theorem SqL.of {K:PySem.W.Frag} (h:H a=some (.lst xs)):SqL K H a xs:=.inl (.inl h)
theorem SqT.of {K:PySem.W.Frag} (h:H a=some (.tup xs)):SqT K H a xs:=.inl (.inl h)
theorem Inv.list (I:Inv X pins σ H s) (h:SqL X.K H a xs):∃ its:List Value,Vals xs its∧PlainL s.heap a its.toArray∧xs.length≤sizeLine:=by
 rcases h with h | ⟨o,its,n,hk,hc,hd,hs,hz,r⟩
 ·obtain ⟨z,its,n,r,e⟩:=h.ok I.hok
  exact ⟨its,r,⟨_,n,e,rfl,rfl,rfl⟩,z⟩
 ·refine ⟨its.toList,r,⟨o,n,I.kIn a o hk,hc,hd,by simpa using hs⟩,?_⟩
  have e:=r.length
  simp only [Array.length_toList] at e
  omega
theorem Inv.tuple (I:Inv X pins σ H s) (h:SqT X.K H a xs):∃ its:List Value,Vals xs its∧IsTup s.heap a its.toArray∧xs.length≤sizeLine:=by
 rcases h with h | ⟨o,its,n,hk,hc,hs,hz,r⟩
 ·obtain ⟨z,its,r,p⟩:=h.ok I.hok
  exact ⟨its,r,p,z⟩
 ·refine ⟨its.toList,r,⟨o,I.kIn a o hk,hc,n,by simpa using hs⟩,?_⟩
  have e:=r.length
  simp only [Array.length_toList] at e
  omega
theorem Inv.list_inj (I:Inv X pins σ H s) (h:SqL X.K H a xs) (h':SqL X.K H a ys):xs=ys:=by
 obtain ⟨its,r,⟨o,n,e,_,_,d⟩,_⟩:=I.list h
 obtain ⟨its',r',⟨o',n',e',_,_,d'⟩,_⟩:=I.list h'
 rw [e] at e'; cases e'
 rw [d] at d'
 injection d' with d1 _
 have:its=its':=by simpa using congrArg Array.toList d1
 subst this
 exact r.inj r'
theorem Inv.tuple_inj (I:Inv X pins σ H s) (h:SqT X.K H a xs) (h':SqT X.K H a ys):xs=ys:=by
 obtain ⟨its,r,⟨o,e,_,n,d⟩,_⟩:=I.tuple h
 obtain ⟨its',r',⟨o',e',_,n',d'⟩,_⟩:=I.tuple h'
 rw [e] at e'; cases e'
 rw [d] at d'
 injection d' with d1 _
 have:its=its':=by simpa using congrArg Array.toList d1
 subst this
 exact r.inj r'
end
noncomputable abbrev Cx.wish (X:Cx) (E:Value→Shared→Prop):Cx:={ X with xe:=E }
noncomputable abbrev Cx.nox (X:Cx):Cx:=X.wish fun _ _=>False
theorem Cx.Ok.wish {X:Cx} (ok:X.Ok) (E:Value→Shared→Prop):(X.wish E).Ok:=
 ⟨ok.mod,ok.kind,ok.glob,ok.blt,ok.above,ok.inj,ok.has,ok.cab,ok.hd,ok.frames,ok.stk,ok.exf,ok.bs,ok.bsz,ok.noex,ok.exfs,ok.funs,ok.frf⟩
theorem Cx.Ok.unwish {X:Cx} {E:Value→Shared→Prop} (ok:(X.wish E).Ok):X.Ok:=
 ⟨ok.mod,ok.kind,ok.glob,ok.blt,ok.above,ok.inj,ok.has,ok.cab,ok.hd,ok.frames,ok.stk,ok.exf,ok.bs,ok.bsz,ok.noex,ok.exfs,ok.funs,ok.frf⟩
section
variable {X:Cx} {pins:List (Addr × Obj)} {σ:St} {H:Hp} {s:Shared} {E:Value→Shared→Prop}
theorem Inv.wish (I:Inv X pins σ H s) (E:Value→Shared→Prop):Inv (X.wish E) pins σ H s:=⟨I.ok.wish E,I.os,I.bare,I.base,I.loc,I.cell,I.free,I.freeC,I.pin,I.hok,I.len⟩
theorem Inv.unwish (I:Inv (X.wish E) pins σ H s):Inv X pins σ H s:=⟨I.ok.unwish,I.os,I.bare,I.base,I.loc,I.cell,I.free,I.freeC,I.pin,I.hok,I.len⟩
theorem SP.unwish {D:Ends} {f:Flow} {s':Shared} (h:SP (X.wish E) pins D f s'):SP X pins D f s':=by
 cases f with
 | next=>obtain ⟨σ',H',I,q⟩:=h; exact ⟨σ',H',I.unwish,q⟩
 | brk=>obtain ⟨σ',H',I,q⟩:=h; exact ⟨σ',H',I.unwish,q⟩
 | cont=>obtain ⟨σ',H',I,q⟩:=h; exact ⟨σ',H',I.unwish,q⟩
 | ret u=>obtain ⟨v,σ',H',I,r,q⟩:=h; exact ⟨v,σ',H',I.unwish,r,q⟩
theorem PSs.nox {st:List Stmt} {t:TS} (h:PSs X.nox st t):PSs X st t:=fun pins s σ H D I hw=>
 wpAny_mono (h pins s σ H D (I.wish _) hw) (fun _ _ q=>q.unwish) fun _ _ z=>False.elim z
end
section
variable {X:Cx} {st:Stmt} {rest:List Stmt} {t u:TS} {e:Expr} {te:TE} {pos:Pos}
noncomputable def tNext:TS:=fun D σ H=>D.nx σ H
noncomputable def tSeq (t u:TS):TS:=fun D σ H=>t { D with nx:=u D } σ H
theorem pss_nil:PSs X [] tNext:=fun _ _ σ H _ I h=>wpAny_execs_nil ⟨σ,H,I,h⟩
theorem pss_cons (h1:PS X st t) (h2:PSs X rest u):PSs X (st :: rest) (tSeq t u):=by
 intro pins s σ H D I h
 refine wpAny_execs_cons (thn (h1 pins s σ H { D with nx:=u D } I h) fun f s1 q=>?_)
 cases f with
 | next=>
  obtain ⟨σ',H',I',q⟩:=q
  exact h2 pins s1 σ' H' D I' q
 | ret v=>exact q
 | brk=>exact q
 | cont=>exact q
theorem pss_one (h1:PS X st t):PSs X [st] t:=by
 intro pins s σ H D I h
 refine wpAny_execs_cons (thn (h1 pins s σ H D I h) fun f s1 q=>?_)
 cases f with
 | next=>exact wpAny_execs_nil q
 | ret v=>exact q
 | brk=>exact q
 | cont=>exact q
theorem Inv.quiet {pins:List (Addr × Obj)} {σ:St} {H:Hp} {s:Shared} (I:Inv X pins σ H s):interactive X.env=false:=by simp [interactive,I.ok.kind]
noncomputable def tDrop (te:TE):TS:=fun D σ H=>te σ H fun _ H1=>D.nx σ H1
theorem ps_expr (he:PE X e te) (hs:autoParam (swapsWith e none pos.line X.env=pure false) Au.h1._auto_1):PS X (.Expr e pos) (tDrop te):=by
 intro pins s σ H D I h
 exact wpAny_Expr_any (thn (he pins s σ H _ I h) fun v s1 zq=>ex5 zq fun x H1 I1 r1 q1=>⟨σ,H1,I1,q1⟩) I.quiet hs
noncomputable def tRet (te:TE):TS:=fun D σ H=>te σ H D.rt
theorem ps_ret (he:PE X e te):PS X (.Return (some e) pos) (tRet te):=by
 intro pins s σ H D I h
 exact wpAny_Return_some (thn (he pins s σ H _ I h) fun v s1 zq=>ex5 zq fun x H1 I1 r1 q1=>⟨x,σ,H1,I1,r1,q1⟩)
noncomputable def tIfS (c:TT) (t u:TS):TS:=fun D σ H=>c σ H fun b H1=>if b=true then t D σ H1 else u D σ H1
theorem ps_if {c:Expr} {a b:List Stmt} {tc:TT} (hc:PT X c tc) (ha:PSs X a t) (hb:PSs X b u):PS X (.If c a b pos) (tIfS tc t u):=by
 intro pins s σ H D I h
 refine wpAny_If (thn (hc pins s σ H _ I h) fun d s1 zq=>?_)
 obtain ⟨H1,I1,q1⟩:=zq
 cases d with
 | true=>exact ha pins s1 σ H1 D I1 q1
 | false=>exact hb pins s1 σ H1 D I1 q1
noncomputable def tNever:TS:=fun _ _ _=>False
theorem ps_never:PS X st tNever:=fun _ _ _ _ _ _ h=>h.elim
end
noncomputable abbrev TG:=V→St→Hp→(St→Hp→Prop)→Prop
noncomputable abbrev TGs:=List V→St→Hp→(St→Hp→Prop)→Prop
noncomputable def PG (X:Cx) (target:Expr) (t:TG):Prop:=
 ∀ (pins:List (Addr × Obj)) (s:Shared) (σ:St) (H:Hp) (v:V) (u:Value) (Q:St→Hp→Prop),Inv X pins σ H s→RelV v u→t v σ H Q→
  wpAny (model X.prog X.w) X.A (assign target X.env u) (fun _ s'=>∃ σ' H',Inv X pins σ' H' s'∧Q σ' H') X.xe s
noncomputable def PGs (X:Cx) (ts:List Expr) (t:TGs):Prop:=
 ∀ (pins:List (Addr × Obj)) (s:Shared) (σ:St) (H:Hp) (vs:List V) (us:List Value) (Q:St→Hp→Prop),Inv X pins σ H s→Vals vs us→t vs σ H Q→
  wpAny (model X.prog X.w) X.A (assignInOrder ((assignEach ts X.env).map (·.2)) us) (fun _ s'=>∃ σ' H',Inv X pins σ' H' s'∧Q σ' H') X.xe s
noncomputable abbrev TSet:=V→V→V→Hp→(Hp→Prop)→Prop
noncomputable def PSet (X:Cx) (t:TSet):Prop:=
 ∀ (pins:List (Addr × Obj)) (s:Shared) (σ:St) (H:Hp) (o i v:V) (ov iv u:Value) (Q:Hp→Prop),Inv X pins σ H s→RelV o ov→RelV i iv→RelV v u→t o i v H Q→
  wpAny (model X.prog X.w) X.A (setItem ov iv u) (fun _ s'=>∃ H',Inv X pins σ H' s'∧Q H') X.xe s
section
variable {X:Cx} {pos:Pos}
noncomputable def gName (i:Nat):TG:=fun v σ H Q=>Q (σ.set i (some v)) H
theorem pg_name {i:Nat} {x:Str} (hN:X.N.Nodup) (hi:X.N[i]?=some x) (hx:Loc X.env.scope x) (hf:X.fn x=true ∨ X.env.scope.names.lookup x=some .local):PG X (.Name x pos) (gName i):=by
 intro pins s σ H v u Q I r h
 exact wpAny_assign_Name (store_ok I hN hi hx r (fun s' I'=>⟨_,H,I',h⟩) hf)
noncomputable def gNil:TGs:=fun vs σ H Q=>vs=[]∧Q σ H
noncomputable def gCons (t:TG) (u:TGs):TGs:=fun vs σ H Q=>∃ v r,vs=v :: r∧t v σ H fun σ' H'=>u r σ' H' Q
theorem pgs_nil:PGs X [] gNil:=by
 intro pins s σ H vs us Q I r h
 obtain ⟨e,h⟩:=h
 subst e
 cases r
 exact assignInOrder_nil ⟨σ,H,I,h⟩
theorem pgs_cons {e:Expr} {es:List Expr} {t:TG} {u:TGs} (h1:PG X e t) (h2:PGs X es u)
  (hs:autoParam ((assignEach (e :: es) X.env).map (·.2)=assign e X.env :: (assignEach es X.env).map (·.2)) Au.h1._auto_1):PGs X (e :: es) (gCons t u):=by
 intro pins s σ H vs us Q I r h
 obtain ⟨v,vr,e1,h⟩:=h
 subst e1
 cases r with
 | cons r rr=>
  rw [hs]
  refine assignInOrder_cons (thn (h1 pins s σ H _ _ _ I r h) fun _ s1 zq=>?_)
  obtain ⟨σ1,H1,I1,q1⟩:=zq
  exact h2 pins s1 σ1 H1 _ _ Q I1 rr q1
noncomputable def gTup (K:PySem.W.Frag) (n:Nat) (t:TGs):TG:=fun v σ H Q=>∃ a xs,v=.ref a∧SqT K H a xs∧xs.length=n∧t xs σ H Q
theorem pg_tup {es:List Expr} {k:Nat} {t:TGs} {n:Nat} (hc:X.calm=true) (h:PGs X es t)
  (hn:autoParam ((assignEach es X.env).length=n) Au.h1._auto_1) (hst:autoParam ((assignEach es X.env).findIdx? (·.1)=none) Au.h1._auto_1):PG X (.Tuple es k pos) (gTup X.K n t):=by
 intro pins s σ H v u Q I r hw
 obtain ⟨a,xs,e1,hq,hl,hw⟩:=hw
 subst e1
 cases r
 obtain ⟨its,rv,ht,hz⟩:=I.tuple hq
 refine assign_Tuple_tuple (I.ok.hd hc) ht (by simp [hn,← hl,rv.length]) hst fun h' hx=>?_
 have I1:Inv X pins σ H { s with heap:=h' }:=I.kept (t':=s.toks) fun b o e=>hx b o (Nat.ne_of_lt (Heap.lt_size e)) e
 exact h pins _ σ H xs _ Q I1 (by simpa using rv) hw
noncomputable def gSub (to ti:TE) (t:TSet):TG:=fun v σ H Q=>to σ H fun o H1=>ti σ H1 fun i H2=>t o i v H2 fun H3=>Q σ H3
theorem pg_sub {o i:Expr} {to ti:TE} {t:TSet} (ho:PE X o to) (hi:PE X i ti) (hs:PSet X t)
  (ha:autoParam (∀ v,assign (.Subscript o i pos) X.env v=(do
   let ov ← holding [v] (eval o X.env)
   let iv ← holding [v,ov] (eval i X.env)
   standAt pos
   holding [v,ov,iv] (setItem ov iv v)
   release [v,ov,iv] [])) Au.h5._auto_1):PG X (.Subscript o i pos) (gSub to ti t):=by
 intro pins s σ H v u Q I r h
 rw [ha]
 refine wpAny_bind (wpAny_holding (thn (ho pins s σ H _ I h) fun ov s1 zq=>?_))
 obtain ⟨x,H1,I1,r1,q1⟩:=zq
 refine wpAny_bind (wpAny_holding (thn (hi pins s1 σ H1 _ I1 q1) fun iv s2 zq=>?_))
 obtain ⟨y,H2,I2,r2,q2⟩:=zq
 refine wpAny_bind (wpAny_standAt (wpAny_bind (wpAny_holding (thn (hs pins s2 σ H2 x y v ov iv u _ I2 r1 r2 r q2) fun _ s3 zq=>?_))))
 obtain ⟨H3,I3,q3⟩:=zq
 exact wpAny_release ⟨σ,H3,I3,q3⟩
noncomputable def tAsg (te:TE) (g:TG):TS:=fun D σ H=>te σ H fun x H1=>g x σ H1 D.nx
theorem ps_asg {tg e:Expr} {te:TE} {g:TG} (he:PE X e te) (hg:PG X tg g) (hs:autoParam (swapsWithSole [tg] e pos.line X.env=pure false) Au.h1._auto_1) (hw:autoParam (swappedStores [tg] e X.env=pure none) Au.h1._auto_1)
  (h1:autoParam ((assignEach [tg] X.env).map (·.2)=[assign tg X.env]) Au.h1._auto_1):PS X (.Assign [tg] e pos) (tAsg te g):=by
 intro pins s σ H D I h
 refine wpAny_Assign_stores (thn (he pins s σ H _ I h) fun v s1 zq=>?_) hs hw
 obtain ⟨x,H1,I1,r1,q1⟩:=zq
 rw [h1]
 exact thn (hg pins s1 σ H1 x v _ I1 r1 q1) fun _ s2 q=>q
theorem ps_set {i:Nat} {x:Str} {e:Expr} {te:TE} {pos':Pos} (hN:X.N.Nodup) (hi:X.N[i]?=some x) (hx:Loc X.env.scope x) (he:PE X e te) (hs:autoParam (swapsWith e (some (.Name x pos')) pos.line X.env=pure false) Au.h1._auto_1) (hf:X.fn x=true ∨ X.env.scope.names.lookup x=some .local):
  PS X (.Assign [.Name x pos'] e pos) (tAsg te (gName i)):=by
 intro pins s σ H D I h
 refine wpAny_Assign_Name (thn (he pins s σ H _ I h) fun v s1 zq=>?_) hs
 obtain ⟨y,H1,I1,r1,q1⟩:=zq
 exact store_ok I1 hN hi hx r1 (fun s2 I2=>⟨_,H1,I2,q1⟩) hf
end
section
variable {X:Cx} {pos:Pos}
noncomputable def tWhile (c:TT) (tb:TS):TS:=fun D σ H=>∃ W:Nat→St→Hp→Prop,(∃ m,W m σ H)∧∀ m σ H,W m σ H→
 c σ H fun b H1=>if b=true then ∃ N:St→Hp→Prop,(∀ σ' H',N σ' H'→∃ m',m' < m∧W m' σ' H')∧tb { D with nx:=N,ct:=N,bk:=D.nx } σ H1 else D.nx σ H1
theorem ps_while {c:Expr} {body:List Stmt} {tc:TT} {tb:TS} (hp:PassesOwn (model X.prog X.w) X.A X.env X.xe) (hc:PT X c tc) (hb:PSs X body tb):PS X (.While c body [] pos) (tWhile tc tb):=by
 intro pins s σ H D I h
 obtain ⟨W,⟨m0,w0⟩,turn⟩:=h
 refine wpAny_While (codeAny_whileLoop (fun n s'=>∃ σ' H',Inv X pins σ' H' s'∧W n σ' H') ?_ m0 ⟨σ,H,I,w0⟩)
 rintro n s1 ⟨σ1,H1,I1,w1⟩
 refine wpAny_passesOwn hp (thn (hc pins s1 σ1 H1 _ I1 (turn n σ1 H1 w1)) fun b s2 zq=>?_)
 obtain ⟨H2,I2,q2⟩:=zq
 cases b with
 | true=>
  obtain ⟨N,hN,q2⟩:=q2
  rw [if_pos rfl]
  refine wpAny_passesOwn hp (thn (hb pins s2 σ1 H2 _ I2 q2) fun f s3 q3=>?_)
  cases f with
  | next=>
   obtain ⟨σ3,H3,I3,n3⟩:=q3
   obtain ⟨m',hm,w3⟩:=hN σ3 H3 n3
   exact ⟨m',hm,σ3,H3,I3,w3⟩
  | cont=>
   obtain ⟨σ3,H3,I3,n3⟩:=q3
   obtain ⟨m',hm,w3⟩:=hN σ3 H3 n3
   exact ⟨m',hm,σ3,H3,I3,w3⟩
  | brk=>exact q3
  | ret v=>exact q3
 | false=>
  rw [if_neg Bool.false_ne_true]
  exact wpAny_execs_nil ⟨σ1,H2,I2,q2⟩
end
set_option genInjectivity false in
structure It where
 go:Nat→Hp→Prop
 yld:Nat→Hp→V→Hp→Prop
 stop:Nat→Hp→Prop
noncomputable def FpOk (X:Cx) (pins:List (Addr × Obj)) (H:Hp) (b:Addr):Prop:=
 H b=none∧b ≠ X.env.locals∧b ∉ X.fs∧(b ∈ X.ex ∨ X.s₀.heap.objs.size≤b)∧(∀ x c,X.env.cells.lookup x=some c→c ≠ b)∧∀ p ∈ X.pn ++ pins,p.1 ≠ b
theorem Inv.fpOk {X:Cx} {pins:List (Addr × Obj)} {σ:St} {H H':Hp} {s:Shared} {b:Addr} (I:Inv X pins σ H s) (hb:s.heap.objs.size≤b) (hn:H' b=none):FpOk X pins H' b:=by
 refine ⟨hn,Nat.ne_of_gt (Nat.lt_of_lt_of_le I.lt hb),I.nofs hb,.inr (Nat.le_trans I.sz hb),fun x c e z=>?_,fun p hp z=>?_⟩
 ·obtain ⟨v,q⟩:=I.cell x c e
  exact absurd (Nat.lt_of_lt_of_le q.lt (by rw [z]; exact hb)) (Nat.lt_irrefl _)
 ·exact absurd (Nat.lt_of_lt_of_le (Heap.lt_size (I.pin p hp).1) (by rw [z]; exact hb)) (Nat.lt_irrefl _)
noncomputable def QtH (X:Cx):Prop:=X.A.handled=none ∨ ∃ a o u,X.A.handled=some (.ref a)∧X.H₀ a=some (.frz o u)∧ZO o
noncomputable def Cd (qb:Bool) (X:Cx):Prop:=X.calm=true ∨ (qb=true∧QtH X)
theorem Cd.cm {X:Cx} (h:Cd false X):X.calm=true:=h.elim id fun z=>nomatch z.1
theorem Inv.qt {X:Cx} {pins:List (Addr × Obj)} {σ:List (Option V)} {H:Hp} {s:Shared} {qb:Bool} (I:Inv X pins σ H s) (h:Cd qb X):X.A.handled=none ∨ ∃ a,X.A.handled=some (.ref a)∧s.heap.Zat a:=by
 rcases h with h | ⟨_,h | ⟨a,o,u,e,q,z⟩⟩
 ·exact .inl (I.ok.hd h)
 ·exact .inl h
 ·exact .inr ⟨a,e,o,(I.hok a _ (I.base.frzs a o u q)).1,z⟩
structure Turn (qb:Bool) (P:Program) (w:World) (K:PySem.W.Frag) (tg:Expr) (J:It) (fp:List Addr) (it:Addr) (tn:Nat→Heap→Prop):Prop where
 mem:it ∈ fp
 obj:∀ i h,tn i h→∀ b ∈ fp,∃ o,h.get? b=some o∧∀ v,o.data ≠ .cell v
 keep:∀ i h h',tn i h→(∀ b ∈ fp,∀ o,h.get? b=some o→h'.get? b=some o)→tn i h'
 item:∀ (X:Cx),X.prog=P→X.w=w→X.K=K→Cd qb X→∀ (i:Nat) (pins:List (Addr × Obj)) (s:Shared) (σ:St) (H:Hp) (E:Value→Shared→Prop),Inv X pins σ H s→(∀ b ∈ fp,FpOk X pins H b)→tn i s.heap→J.go i H→
  wpAny (model P w) X.A (pyNext (.ref it)) (fun r s1=>∃ u,r=some u∧
   wpAny (model P w) X.A (letOwnedTupleGo tg (.ref it) u) (fun _ s2=>∃ x H',Inv X pins σ H' s2∧RelV x u∧J.yld i H x H'∧tn (i + 1) s2.heap∧∀ b ∈ fp,H' b=none) E s1) E s
 done:∀ (X:Cx),X.prog=P→X.w=w→X.K=K→Cd qb X→∀ (i:Nat) (pins:List (Addr × Obj)) (s:Shared) (σ:St) (H:Hp) (E:Value→Shared→Prop),Inv X pins σ H s→(∀ b ∈ fp,FpOk X pins H b)→tn i s.heap→J.stop i H→
  wpAny (model P w) X.A (pyNext (.ref it)) (fun r s1=>r=none∧Inv X pins σ H s1) E s
 self:∀ (A:Around) (i:Nat) (s:Shared) (Q:Value→Shared→Prop) (E:Value→Shared→Prop),tn i s.heap→Q (.ref it) s→wpAny (model P w) A (pyIter (.ref it)) Q E s
noncomputable abbrev TI:=St→Hp→(It→Hp→Prop)→Prop
noncomputable def PIEb (qb:Bool) (X:Cx) (pins:List (Addr × Obj)) (σ:St) (tg:Expr) (R:It→Hp→Prop) (itv:Value) (s2:Shared):Prop:=
 ∃ (it:Addr) (fp:List Addr) (tn:Nat→Heap→Prop) (J:It) (H':Hp),itv=.ref it∧Inv X pins σ H' s2∧Turn qb X.prog X.w X.K tg J fp it tn∧tn 0 s2.heap∧(∀ b ∈ fp,FpOk X pins H' b)∧R J H'
noncomputable def PIb (qb:Bool) (X:Cx) (tg iter:Expr) (wi:TI):Prop:=
 ∀ (pins:List (Addr × Obj)) (s:Shared) (σ:St) (H:Hp) (R:It→Hp→Prop),Inv X pins σ H s→wi σ H R→
  wpAny (model X.prog X.w) X.A (eval iter X.env) (fun v s1=>wpAny (model X.prog X.w) X.A (pyIter v) (PIEb qb X pins σ tg R) X.xe s1) X.xe s
noncomputable abbrev PIE:=PIEb false
noncomputable abbrev PI:=PIb false
theorem go_of {M:Model} {A:Around} {E:Value→Shared→Prop} {s:Shared} {tg:Expr} {it:Addr} {u:Value} {o:Obj} {n:String} {vs:Array Value} {Q:Unit→Shared→Prop} (ho:s.heap.get? it=some o) (hc:o.cls=.type n) (hd:o.data=.fields vs)
    (hn:["enumerate","zip","dict_itemiterator","dict_reverseitemiterator","odict_iterator","itertools.zip_longest","itertools.pairwise"].contains n=false) (hQ:Q () s):wpAny M A (letOwnedTupleGo tg (.ref it) u) Q E s:=by
  unfold letOwnedTupleGo
  cases tg <;> first
    | exact wpAny_pure hQ
    | (cases u <;> first
        | exact wpAny_pure hQ
        | (refine wpAny_bind (wpAny_load ho ?_)
           rw [hc,hd]
           show wpAny M A (if (["enumerate","zip","dict_itemiterator","dict_reverseitemiterator","odict_iterator","itertools.zip_longest","itertools.pairwise"].contains n && vs[0]? == some (rawInt _))=true then _ else _) Q E s
           rw [if_neg (by intro h; rw [hn,Bool.false_and] at h; cases h)]
           exact wpAny_pure hQ))
noncomputable def Itl (K:PySem.W.Frag) (a:Addr):It:=
 ⟨fun i H=>∃ xs x,SqL K H a xs∧xs[i]?=some x,fun i H x H'=>H'=H∧∀ xs,SqL K H a xs→xs[i]?=some x,fun i H=>∃ xs,SqL K H a xs∧xs.length≤i⟩
noncomputable def Itt (K:PySem.W.Frag) (a:Addr):It:=
 ⟨fun i H=>∃ xs x,SqT K H a xs∧xs[i]?=some x,fun i H x H'=>H'=H∧∀ xs,SqT K H a xs→xs[i]?=some x,fun i H=>∃ xs,SqT K H a xs∧xs.length≤i⟩
noncomputable def Itr (lo:Int) (n:Nat):It:=⟨fun i _=>i < n,fun i H x H'=>H'=H∧x=.int (lo + i),fun i _=>n≤i⟩
theorem turn_list {P:Program} {w:World} {K:PySem.W.Frag} {tg:Expr} (a it:Addr):Turn false P w K tg (Itl K a) [it] it (fun i h=>h.IsListIter it a i) where
 mem:=by simp
 obj:=fun i h st b hb=>by
  have e:b=it:=by simpa using hb
  subst e
  obtain ⟨o,e,c,d⟩:=st
  exact ⟨o,e,fun v z=>by rw [d] at z; cases z⟩
 keep:=fun i h h' st k=>st.at fun o e=>k it (by simp) o e
 item:=by
  intro X hP hw hK hc i pins s σ H E I hf st hg
  subst hP hw hK
  obtain ⟨xs,x,hq,hx⟩:=hg
  obtain ⟨its,rv,p,hz⟩:=I.list hq
  obtain ⟨u,hu,ru⟩:=rv.get hx
  obtain ⟨f0,f1,f2,f3,f4,f5⟩:=hf it (by simp)
  refine wpAny_pyNext_list_item st p.isList (x:=u) (by simpa using hu) fun h' st' sb=>?_
  have I1:Inv X pins σ H { s with heap:=h' }:=I.turned (t':=s.toks) (fun b o hb e=>(sb.2 b hb).trans e) f0 f1 f3 f4 f5
  obtain ⟨o,e,c,d⟩:=id st'
  exact ⟨u,rfl,go_of (s:={ s with heap:=h' }) e c d (by decide) ⟨x,H,I1,ru,⟨rfl,fun ys hy=>by rw [I.list_inj hy hq]; exact hx⟩,st',fun b hb=>(hf b hb).1⟩⟩
 done:=by
  intro X hP hw hK hc i pins s σ H E I hf st hg
  subst hP hw hK
  obtain ⟨xs,hq,hx⟩:=hg
  obtain ⟨its,rv,p,hz⟩:=I.list hq
  obtain ⟨f0,f1,f2,f3,f4,f5⟩:=hf it (by simp)
  have hl:=rv.length
  exact wpAny_pyNext_list_end (I.ok.hd hc.cm) st p.isList (by simp; omega) fun h' eb=>⟨rfl,I.turned (t':=s.toks) (fun b o hb e=>eb b o hb e) f0 f1 f3 f4 f5⟩
 self:=fun _ _ _ _ _ st h=>wpAny_pyIter_listiter st h
theorem turn_tuple {P:Program} {w:World} {K:PySem.W.Frag} {tg:Expr} (a it:Addr):Turn false P w K tg (Itt K a) [it] it (fun i h=>h.IsTupleIter it a i) where
 mem:=by simp
 obj:=fun i h st b hb=>by
  have e:b=it:=by simpa using hb
  subst e
  obtain ⟨o,e,c,d⟩:=st
  exact ⟨o,e,fun v z=>by rw [d] at z; cases z⟩
 keep:=fun i h h' st k=>st.at fun o e=>k it (by simp) o e
 item:=by
  intro X hP hw hK hc i pins s σ H E I hf st hg
  subst hP hw hK
  obtain ⟨xs,x,hq,hx⟩:=hg
  obtain ⟨its,rv,p,hz⟩:=I.tuple hq
  obtain ⟨u,hu,ru⟩:=rv.get hx
  obtain ⟨f0,f1,f2,f3,f4,f5⟩:=hf it (by simp)
  refine wpAny_pyNext_tuple_item st (show s.heap.IsTuple a its.toArray from p) (x:=u) (by simpa using hu) fun h' st' sb=>?_
  have I1:Inv X pins σ H { s with heap:=h' }:=I.turned (t':=s.toks) (fun b o hb e=>(sb.2 b hb).trans e) f0 f1 f3 f4 f5
  obtain ⟨o,e,c,d⟩:=id st'
  exact ⟨u,rfl,go_of (s:={ s with heap:=h' }) e c d (by decide) ⟨x,H,I1,ru,⟨rfl,fun ys hy=>by rw [I.tuple_inj hy hq]; exact hx⟩,st',fun b hb=>(hf b hb).1⟩⟩
 done:=by
  intro X hP hw hK hc i pins s σ H E I hf st hg
  subst hP hw hK
  obtain ⟨xs,hq,hx⟩:=hg
  obtain ⟨its,rv,p,hz⟩:=I.tuple hq
  obtain ⟨f0,f1,f2,f3,f4,f5⟩:=hf it (by simp)
  have hl:=rv.length
  exact wpAny_pyNext_tuple_end (I.ok.hd hc.cm) st (show s.heap.IsTuple a its.toArray from p) (by simp; omega) fun h' eb=>⟨rfl,I.turned (t':=s.toks) (fun b o hb e=>eb b o hb e) f0 f1 f3 f4 f5⟩
 self:=fun _ _ _ _ _ st h=>wpAny_pyIter_tupleiter st h
theorem turn_range {qb:Bool} {P:Program} {w:World} {K:PySem.W.Frag} {tg:Expr} (it:Addr) (lo:Int) (n:Nat):Turn qb P w K tg (Itr lo n) [it] it (fun i h=>IsRangeIter h it (lo + (i:Nat) * 1) ((n:Int) - (i:Nat)) 1) where
 mem:=by simp
 obj:=fun i h st b hb=>by
  have e:b=it:=by simpa using hb
  subst e
  exact ⟨_,st,fun v z=>by
   have z':Data.fields _=Data.cell v:=z
   cases z'⟩
 keep:=fun i h h' st k=>k it (by simp) _ st
 item:=by
  intro X hP hw hK hc i pins s σ H E I hf st hg
  subst hP hw hK
  obtain ⟨f0,f1,f2,f3,f4,f5⟩:=hf it (by simp)
  have hg':(i:Nat) < n:=hg
  refine wpAny_pyNext_range_item st (by omega) fun h' st' kk=>?_
  have I1:Inv X pins σ H { s with heap:=h',toks:=s.toks + 1 }:=I.turned (fun b o hb e=>(kk.2 b hb).trans e) f0 f1 f3 f4 f5
  have st2:IsRangeIter h' it (lo + ((i + 1:Nat):Int) * 1) ((n:Int) - ((i + 1:Nat):Int)) 1:=by
   have e1:lo + ((i + 1:Nat):Int) * 1=lo + (i:Nat) * 1 + 1:=by omega
   have e2:(n:Int) - ((i + 1:Nat):Int)=(n:Int) - (i:Nat) - 1:=by omega
   rw [e1,e2]; exact st'
  refine ⟨_,rfl,go_of (s:={ s with heap:=h',toks:=s.toks + 1 }) (n:="range_iterator") st2 rfl rfl (by decide) ⟨.int (lo + i),H,I1,⟨s.toks,?_⟩,⟨rfl,rfl⟩,st2,fun b hb=>(hf b hb).1⟩⟩
  rw [Int.mul_one]
 done:=by
  intro X hP hw hK hc i pins s σ H E I hf st hg
  subst hP hw hK
  obtain ⟨f0,f1,f2,f3,f4,f5⟩:=hf it (by simp)
  have hg':n≤i:=hg
  rcases I.qt hc with hh | ⟨ha,hh,z⟩
  ·exact wpAny_pyNext_range_end hh st (by omega) fun h' eb=>⟨rfl,I.turned (t':=s.toks) (fun b o hb e=>eb b o hb e) f0 f1 f3 f4 f5⟩
  ·exact rangeEndZ hh z st (by omega) fun h' eb=>⟨rfl,I.turned (t':=s.toks) (fun b o hb e=>eb b o hb e) f0 f1 f3 f4 f5⟩
 self:=fun _ _ _ _ _ st h=>wpAny_pyIter_rangeiter st h
end L2
namespace L2
open PySem PySem.Spec PyProof.Rows
section
variable {X:Cx} {tg:Expr}
noncomputable def iList (K:PySem.W.Frag) (tl:TE):TI:=fun σ H R=>tl σ H fun x H1=>∃ a,x=.ref a∧(∃ xs,SqL K H1 a xs)∧R (Itl K a) H1
noncomputable def iTup (K:PySem.W.Frag) (tl:TE):TI:=fun σ H R=>tl σ H fun x H1=>∃ a,x=.ref a∧(∃ xs,SqT K H1 a xs)∧R (Itt K a) H1
theorem pi_list {l:Expr} {tl:TE} (hl:PE X l tl):PI X tg l (iList X.K tl):=by
 intro pins s σ H R I h
 refine thn (hl pins s σ H _ I h) fun v s1 zq=>?_
 obtain ⟨x,H1,I1,r1,q1⟩:=zq
 obtain ⟨a,e,⟨xs,hq⟩,q⟩:=q1
 subst e
 cases r1
 obtain ⟨its,rv,p,hz⟩:=I1.list hq
 refine wpAny_pyIter_list p.isList ?_
 refine ⟨s1.heap.objs.size,[s1.heap.objs.size],_,_,H1,rfl,I1.kept (t':=s1.toks) fun b o e=>Heap.get?_push_of_some _ e,turn_list a _,⟨_,Heap.get?_push_size _ rfl,rfl,rfl⟩,fun b hb=>?_,q⟩
 have e:b=s1.heap.objs.size:=by simpa using hb
 subst e
 exact I1.fpOk (Nat.le_refl _) (I1.hok.fresh (Nat.le_refl _))
theorem pi_tup {l:Expr} {tl:TE} (hl:PE X l tl):PI X tg l (iTup X.K tl):=by
 intro pins s σ H R I h
 refine thn (hl pins s σ H _ I h) fun v s1 zq=>?_
 obtain ⟨x,H1,I1,r1,q1⟩:=zq
 obtain ⟨a,e,⟨xs,hq⟩,q⟩:=q1
 subst e
 cases r1
 obtain ⟨its,rv,p,hz⟩:=I1.tuple hq
 refine wpAny_pyIter_tuple (show s1.heap.IsTuple a its.toArray from p) ?_
 refine ⟨s1.heap.objs.size,[s1.heap.objs.size],_,_,H1,rfl,I1.kept (t':=s1.toks) fun b o e=>Heap.get?_push_of_some _ e,turn_tuple a _,⟨_,Heap.get?_push_size _ rfl,rfl,rfl⟩,fun b hb=>?_,q⟩
 have e:b=s1.heap.objs.size:=by simpa using hb
 subst e
 exact I1.fpOk (Nat.le_refl _) (I1.hok.fresh (Nat.le_refl _))
theorem range_it {qb:Bool} {pins:List (Addr × Obj)} {σ:St} {H:Hp} {s:Shared} {R:It→Hp→Prop} {E:Value→Shared→Prop} {lo hi:Int} {t u v:Tok} {tk:Nat} (I:Inv X pins σ H s) (h1:-(2 ^ 62)≤lo) (h2:lo < 2 ^ 62) (h3:-(2 ^ 62)≤hi) (h4:hi < 2 ^ 62)
  (q:R (Itr lo (hi - lo).toNat) H):wpAny (model X.prog X.w) X.A (pyIter (.ref s.heap.objs.size)) (PIEb qb X pins σ tg R) E { s with heap:=s.heap.push { cls:=.type "range",data:=.fields #[.int lo t,.int hi u,.int 1 v] },toks:=tk }:=by
 refine wpAny_pyIter_range (IsRange.new ..) (small_one h1 h2 h3 h4) ?_
 have I1:Inv X pins σ H { s with heap:=s.heap.push { cls:=.type "range",data:=.fields #[.int lo t,.int hi u,.int 1 v] },toks:=tk }:=I.kept fun b o e=>Heap.get?_push_of_some _ e
 refine ⟨(s.heap.push { cls:=.type "range",data:=.fields #[.int lo t,.int hi u,.int 1 v] }).objs.size,[(s.heap.push { cls:=.type "range",data:=.fields #[.int lo t,.int hi u,.int 1 v] }).objs.size],_,_,H,rfl,
  I1.kept (t':=tk) fun b o e=>Heap.get?_push_of_some _ e,turn_range _ lo (hi - lo).toNat,?_,fun b hb=>?_,q⟩
 ·have e1:lo + ((0:Nat):Int) * 1=lo:=by simp
  have e2:(((hi - lo).toNat:Nat):Int) - ((0:Nat):Int)=Builtin.Range.rangeSize lo hi 1:=by rw [rangeSize_one]; split <;> omega
  show IsRangeIter _ _ (lo + ((0:Nat):Int) * 1) ((((hi - lo).toNat:Nat):Int) - ((0:Nat):Int)) 1
  rw [e1,e2]
  exact Heap.get?_push_size _ rfl
 ·have e:b=(s.heap.push { cls:=.type "range",data:=.fields #[.int lo t,.int hi u,.int 1 v] }).objs.size:=by simpa using hb
  subst e
  exact I1.fpOk (Nat.le_refl _) (I1.hok.fresh (Nat.le_refl _))
noncomputable def iRng1 (ta:TA):TI:=fun σ H R=>ta σ H fun vs H1=>∃ j:Int,vs=[.int j]∧-(2 ^ 62)≤j∧j < 2 ^ 62∧R (Itr 0 j.toNat) H1
theorem pi_range1 {qb:Bool} {a:Expr} {ta:TA} {p pos:Pos} (hg:Gl X "range") (hm:X.mg "range" = none) (ha:PA X [a] ta) (hs:autoParam (starEach [a] X.env=[(false,eval a X.env)]) Au.h1._auto_1):PIb qb X tg (.Call (.Name "range" p) [a] [] pos) (iRng1 ta):=by
 intro pins s σ H R I h
 refine Call_ (ld_blt I hg hm boot_range (PyProof.Rows.callWith_type1 (thn (ha pos pins s σ H _ I h) fun us s1 zq=>?_) hs rfl))
 obtain ⟨vs,H1,I1,r1,q1⟩:=zq
 obtain ⟨j,e,q1,q2,q⟩:=q1
 subst e
 cases r1 with
 | cons r rr=>
  cases rr
  obtain ⟨t,rfl⟩:=r
  exact call_range_1 (range_it I1 (by omega) (by omega) q1 q2 (by simpa using q))
noncomputable def tFor (wi:TI) (g:TG) (tb:TS):TS:=fun D σ H=>wi σ H fun J H1=>∃ W:Nat→Nat→St→Hp→Prop,(∃ m,W 0 m σ H1)∧∀ i m σ H,W i m σ H→
 (J.stop i H∧D.nx σ H) ∨ (J.go i H∧∃ N:St→Hp→Prop,(∀ σ' H',N σ' H'→∃ m',m' < m∧W (i + 1) m' σ' H')∧∀ x H',J.yld i H x H'→g x σ H' fun σ2 H2=>tb { D with nx:=N,ct:=N,bk:=D.nx } σ2 H2)
noncomputable def pinsAt (fp:List Addr) (h:Heap):List (Addr × Obj):=fp.filterMap fun b=>(h.get? b).map fun o=>(b,o)
theorem mem_pinsAt {fp:List Addr} {h:Heap} {b:Addr} {o:Obj} (hb:b ∈ fp) (e:h.get? b=some o):(b,o) ∈ pinsAt fp h:=List.mem_filterMap.mpr ⟨b,hb,by rw [e]; rfl⟩
theorem of_pinsAt {fp:List Addr} {h:Heap} {p:Addr × Obj} (hp:p ∈ pinsAt fp h):p.1 ∈ fp∧h.get? p.1=some p.2:=by
 obtain ⟨b,hb,e⟩:=List.mem_filterMap.mp hp
 cases q:h.get? b with
 | none=>rw [q] at e; cases e
 | some o=>
  rw [q] at e
  have e':(b,o)=p:=Option.some.inj e
  subst e'
  exact ⟨hb,q⟩
theorem Inv.pinned {pins:List (Addr × Obj)} {σ:St} {H:Hp} {s:Shared} {fp:List Addr} (I:Inv X pins σ H s) (hf:∀ b ∈ fp,FpOk X pins H b) (ho:∀ b ∈ fp,∃ o,s.heap.get? b=some o∧∀ v,o.data ≠ .cell v):Inv X (pins ++ pinsAt fp s.heap) σ H s:=
 I.pins_of fun p hp=>(List.mem_append.mp hp).elim (fun z=>I.pin p (List.mem_append_right _ z)) fun z=>by
  obtain ⟨hb,e⟩:=of_pinsAt z
  obtain ⟨f0,f1,f2,_⟩:=hf p.1 hb
  obtain ⟨o,e',d⟩:=ho p.1 hb
  rw [e] at e'; cases e'
  exact ⟨e,f0,f1,f2,d⟩
theorem Inv.unpinned {pins pl:List (Addr × Obj)} {σ:St} {H:Hp} {s:Shared} (I:Inv X (pins ++ pl) σ H s):Inv X pins σ H s:=I.pins_of fun p hp=>I.pin p (List.mem_append_right _ (List.mem_append_left _ hp))
theorem ps_for {iter:Expr} {body:List Stmt} {wi:TI} {g:TG} {tb:TS} {pos:Pos} (hp:PassesOwn (model X.prog X.w) X.A X.env X.xe) (hc:X.calm=true) (hi:PI X tg iter wi) (hg:PG X tg g) (hb:PSs X body tb)
  (hs:autoParam (∀ x,foldedSetIterable iter X.env x=pure x) Au.h5._auto_1):PS X (.For tg iter body [] pos) (tFor wi g tb):=by
 intro pins s σ H D I h
 refine wpAny_For (thn (hi pins s σ H _ I h) fun v s1 h1=>thn h1 fun itv s2 h2=>?_) hs
 obtain ⟨it,fp,tn,J,H2,e,I2,T,st2,f2,W,⟨m0,w0⟩,turn⟩:=h2
 subst e
 -- what stays true of the iterator's objects through the loop
 have stat:∀ {H':Hp},(∀ b ∈ fp,H' b=none)→∀ b ∈ fp,FpOk X pins H' b:=fun hn b hb=>⟨hn b hb,(f2 b hb).2⟩
 refine codeAny_forLoop_any (fun n s'=>∃ i σ' H',Inv X pins σ' H' s'∧tn i s'.heap∧(∀ b ∈ fp,H' b=none)∧W i n σ' H') ?_ m0 ⟨0,σ,H2,I2,st2,fun b hb=>(f2 b hb).1,w0⟩
 rintro n s3 ⟨i,σ3,H3,I3,st3,fr3,w3⟩
 rcases turn i n σ3 H3 w3 with ⟨stop,qn⟩ | ⟨go,N,hN,step⟩
 ·refine wpAny_passesOwn hp (thn (T.done X rfl rfl rfl (.inl hc) i pins s3 σ3 H3 X.xe I3 (stat fr3) st3 stop) fun r s4 zq=>?_)
  obtain ⟨hr,I4⟩:=zq
  subst hr
  exact wpAny_execs_nil ⟨σ3,H3,I4,qn⟩
 ·refine wpAny_passesOwn hp (thn (T.item X rfl rfl rfl (.inl hc) i pins s3 σ3 H3 X.xe I3 (stat fr3) st3 go) fun r s4 zq=>?_)
  obtain ⟨u,hr,h4⟩:=zq
  subst hr
  refine wpAny_passesOwn hp (thn h4 fun _ s5 zq=>?_)
  obtain ⟨x,H5,I5,r5,y5,st5,fr5⟩:=zq
  have I5':=I5.pinned (stat fr5) (T.obj _ _ st5)
  refine wpAny_passesOwn hp (thn (hg _ s5 σ3 H5 x u _ I5' r5 (step x H5 y5)) fun _ s6 zq=>?_)
  obtain ⟨σ6,H6,I6,q6⟩:=zq
  refine wpAny_passesOwn hp (thn (hb _ s6 σ6 H6 _ I6 q6) fun f s7 q7=>?_)
  have again:∀ {σ7:St} {H7:Hp},Inv X (pins ++ pinsAt fp s5.heap) σ7 H7 s7→N σ7 H7→∃ m,m < n∧∃ i σ' H',Inv X pins σ' H' s7∧tn i s7.heap∧(∀ b ∈ fp,H' b=none)∧W i m σ' H':=fun {σ7 H7} I7 n7=>by
   obtain ⟨m',hm,w7⟩:=hN σ7 H7 n7
   refine ⟨m',hm,i + 1,σ7,H7,I7.unpinned,T.keep _ _ _ st5 fun b hb o e=>(I7.pin (b,o) (List.mem_append_right _ (List.mem_append_right _ (mem_pinsAt hb e)))).1,fun b hb=>?_,w7⟩
   obtain ⟨o,e,d⟩:=T.obj _ _ st5 b hb
   exact (I7.pin (b,o) (List.mem_append_right _ (List.mem_append_right _ (mem_pinsAt hb e)))).2.1
  cases f with
  | next=>obtain ⟨σ7,H7,I7,n7⟩:=q7; exact again I7 n7
  | cont=>obtain ⟨σ7,H7,I7,n7⟩:=q7; exact again I7 n7
  | brk=>obtain ⟨σ7,H7,I7,q7⟩:=q7; exact ⟨σ7,H7,I7.unpinned,q7⟩
  | ret v=>obtain ⟨x7,σ7,H7,I7,r7,q7⟩:=q7; exact ⟨x7,σ7,H7,I7.unpinned,r7,q7⟩
end
end L2
namespace L2
open PySem PySem.Spec PyProof.Rows
noncomputable abbrev R2:=V→V→Hp→VK→Prop
noncomputable def OpR (X:Cx) (f:Value→Value→Sem Value) (r:R2):Prop:=
 ∀ (pins:List (Addr × Obj)) (s:Shared) (σ:St) (H:Hp) (x y:V) (v u:Value) (Q:VK),Inv X pins σ H s→RelV x v→RelV y u→r x y H Q→
  wpAny (model X.prog X.w) X.A (f v u) (EP X pins σ Q) X.xe s
noncomputable def UnR (X:Cx) (f:Value→Sem Value) (r:V→Hp→VK→Prop):Prop:=
 ∀ (pins:List (Addr × Obj)) (s:Shared) (σ:St) (H:Hp) (x:V) (v:Value) (Q:VK),Inv X pins σ H s→RelV x v→r x H Q→
  wpAny (model X.prog X.w) X.A (f v) (EP X pins σ Q) X.xe s
noncomputable def CallR (X:Cx) (f:Value) (r:List V→Hp→VK→Prop):Prop:=
 ∀ (pins:List (Addr × Obj)) (s:Shared) (σ:St) (H:Hp) (xs:List V) (us:List Value) (Q:VK),Inv X pins σ H s→Vals xs us→r xs H Q→
  wpAny (model X.prog X.w) X.A (call f us) (EP X pins σ Q) X.xe s
noncomputable def tOp (r:R2) (ta tb:TE):TE:=fun σ H Q=>ta σ H fun x H1=>tb σ H1 fun y H2=>r x y H2 Q
noncomputable def tUn (r:V→Hp→VK→Prop) (ta:TE):TE:=fun σ H Q=>ta σ H fun x H1=>r x H1 Q
noncomputable def rI (C:Int→Int→Prop) (g:Int→Int→V):R2:=fun x y H Q=>∃ i j,x=.int i∧y=.int j∧C i j∧Q (g i j) H
noncomputable def rI0 (g:Int→Int→V):R2:=fun x y H Q=>∃ i j,x=.int i∧y=.int j∧Q (g i j) H
noncomputable def rU (g:Int→V):V→Hp→VK→Prop:=fun x H Q=>∃ i,x=.int i∧Q (g i) H
section
variable {X:Cx} {a b c:Expr} {ta tb tc:TE} {pos:Pos}
theorem binT (ha:PE X a ta) (hb:PE X b tb) {pins:List (Addr × Obj)} {s:Shared} {σ:St} {H:Hp} {R:V→V→Hp→Prop} (I:Inv X pins σ H s)
  (h:ta σ H fun x H1=>tb σ H1 fun y H2=>R x y H2) {Q:Value→Shared→Prop} {f:Value→Value→Sem Value}
  (hf:∀ v u s2 x y H2,Inv X pins σ H2 s2→RelV x v→RelV y u→R x y H2→wpAny (model X.prog X.w) X.A (f v u) Q X.xe s2):
  wpAny (model X.prog X.w) X.A (eval a X.env) (fun v s₁=>wpAny (model X.prog X.w) X.A (eval b X.env) (fun u s₂=>wpAny (model X.prog X.w) X.A (f v u) Q X.xe s₂) X.xe s₁) X.xe s:=by
 refine thn (ha pins s σ H _ I h) fun v s1 zq=>?_
 obtain ⟨x,H1,I1,r1,q1⟩:=zq
 refine thn (hb pins s1 σ H1 _ I1 q1) fun u s2 zq=>?_
 obtain ⟨y,H2,I2,r2,q2⟩:=zq
 exact hf v u s2 x y H2 I2 r1 r2 q2
theorem pe_op {op:Operator} {r:R2} (ho:OpR X (binaryOp op) r) (ha:PE X a ta) (hb:PE X b tb):PE X (.BinOp a op b pos) (tOp r ta tb):=by
 intro pins s σ H Q I h
 exact wpAny_BinOp (binT ha hb I h fun v u s2 x y H2 I2 rx ry q=>ho pins s2 σ H2 x y v u Q I2 rx ry q)
theorem pe_un {op:UnaryOp} {r:V→Hp→VK→Prop} (ho:UnR X (unaryOp op) r) (ha:PE X a ta):PE X (.UnaryOp op a pos) (tUn r ta):=by
 intro pins s σ H Q I h
 exact UnaryOp_ (thn (ha pins s σ H _ I h) fun v s1 zq=>ex5 zq fun x H1 I1 r1 q1=>ho pins s1 σ H1 x v Q I1 r1 q1)
theorem opI {f:Value→Value→Sem Value} {C:Int→Int→Prop} {g:Int→Int→Int}
  (rule:∀ (i j:Int) (t u:Tok) (s:Shared) (Q:Value→Shared→Prop) (E:Value→Shared→Prop),C i j→Q (.int (g i j) s.toks) { s with toks:=s.toks + 1 }→wpAny (model X.prog X.w) X.A (f (.int i t) (.int j u)) Q E s):
  OpR X f (rI C fun i j=>.int (g i j)):=by
 intro pins s σ H x y v u Q I rx ry h
 obtain ⟨i,j,rfl,rfl,hc,q⟩:=h
 obtain ⟨t,rfl⟩:=rx
 obtain ⟨t',rfl⟩:=ry
 exact rule i j t t' s _ _ hc ⟨.int (g i j),H,I.tok _,⟨_,rfl⟩,q⟩
theorem opI0 {f:Value→Value→Sem Value} {g:Int→Int→Int}
  (rule:∀ (i j:Int) (t u:Tok) (s:Shared) (Q:Value→Shared→Prop) (E:Value→Shared→Prop),Q (.int (g i j) s.toks) { s with toks:=s.toks + 1 }→wpAny (model X.prog X.w) X.A (f (.int i t) (.int j u)) Q E s):
  OpR X f (rI0 fun i j=>.int (g i j)):=by
 intro pins s σ H x y v u Q I rx ry h
 obtain ⟨i,j,rfl,rfl,q⟩:=h
 obtain ⟨t,rfl⟩:=rx
 obtain ⟨t',rfl⟩:=ry
 exact rule i j t t' s _ _ ⟨.int (g i j),H,I.tok _,⟨_,rfl⟩,q⟩
theorem opB0 {f:Value→Value→Sem Value} {g:Int→Int→Bool}
  (rule:∀ (i j:Int) (t u:Tok) (s:Shared) (Q:Value→Shared→Prop) (E:Value→Shared→Prop),Q (.bool (g i j)) s→wpAny (model X.prog X.w) X.A (f (.int i t) (.int j u)) Q E s):
  OpR X f (rI0 fun i j=>.bl (g i j)):=by
 intro pins s σ H x y v u Q I rx ry h
 obtain ⟨i,j,rfl,rfl,q⟩:=h
 obtain ⟨t,rfl⟩:=rx
 obtain ⟨t',rfl⟩:=ry
 exact rule i j t t' s _ _ ⟨.bl (g i j),H,I,rfl,q⟩
noncomputable def CDiv (i j:Int):Prop:=0 < j∧j < 1073741824
noncomputable def CPow (i j:Int):Prop:=0≤j∧j≤1000000∧i.natAbs < 2 ^ 64
noncomputable def CMul (i j:Int):Prop:=(-(2 ^ 64) < i∧i < 2 ^ 64) ∨ (-(2 ^ 64) < j∧j < 2 ^ 64)
theorem CMul.ok {i j:Int} (h:CMul i j):IntMulOk i j:=by
 rcases h with ⟨h1,h2⟩ | ⟨h1,h2⟩
 ·exact .of_left (intBits_le_64 h1 h2)
 ·exact .of_right (intBits_le_64 h1 h2)
theorem op_add:OpR X (binaryOp .Add) (rI0 fun i j=>.int (i + j)):=opI0 fun _ _ _ _ _ _ _ q=>add_int q
theorem op_sub:OpR X (binaryOp .Sub) (rI0 fun i j=>.int (i - j)):=opI0 fun _ _ _ _ _ _ _ q=>sub_int q
theorem op_mul:OpR X (binaryOp .Mult) (rI CMul fun i j=>.int (i * j)):=opI fun _ _ _ _ _ _ _ hc q=>mul_int q hc.ok
theorem op_fdiv:OpR X (binaryOp .FloorDiv) (rI CDiv fun i j=>.int (i / j)):=opI fun i j _ _ _ _ _ hc q=>by
 have h1:(0:Int) < j:=hc.1
 have h2:j < 1073741824:=hc.2
 exact floordiv_int (by omega) (by rw [Int.fdiv_eq_ediv_of_nonneg i (by omega)]; exact q) (.inl (PyProof.noPylong_small (by omega)))
theorem op_mod:OpR X (binaryOp .Mod) (rI (fun _ j=>0 < j) fun i j=>.int (i % j)):=opI fun i j _ _ _ _ _ hc q=>by
 have h1:(0:Int) < j:=hc
 exact mod_int' (by omega) (by rw [Int.fmod_eq_emod_of_nonneg i (by omega)]; exact q)
theorem op_pow:OpR X (binaryOp .Pow) (rI CPow fun i j=>.int (i ^ j.toNat)):=opI fun _ _ _ _ _ _ _ hc q=>pow_int_small hc.1 hc.2.1 hc.2.2 q
theorem op_shl:OpR X (binaryOp .LShift) (rI CPow fun i j=>.int (i * 2 ^ j.toNat)):=opI fun _ _ _ _ _ _ _ hc q=>lshift_int_small hc.1 hc.2.1 hc.2.2 q
theorem unI {f:Value→Sem Value} {g:Int→Int}
  (rule:∀ (i:Int) (t:Tok) (s:Shared) (Q:Value→Shared→Prop) (E:Value→Shared→Prop),Q (.int (g i) s.toks) { s with toks:=s.toks + 1 }→wpAny (model X.prog X.w) X.A (f (.int i t)) Q E s):
  UnR X f (rU fun i=>.int (g i)):=by
 intro pins s σ H x v Q I rx h
 obtain ⟨i,rfl,q⟩:=h
 obtain ⟨t,rfl⟩:=rx
 exact rule i t s _ _ ⟨.int (g i),H,I.tok _,⟨_,rfl⟩,q⟩
theorem un_neg:UnR X (unaryOp .USub) (rU fun i=>.int (-i)):=unI fun _ _ _ _ _ q=>neg_int q
end
noncomputable def scal:V→V→Bool
 | .non,.non=>true | .non,.int _=>true | .int _,.non=>true | .non,.bl _=>true | .bl _,.non=>true | .non,.str _=>true | .str _,.non=>true
 | .int _,.int _=>true | .bl _,.bl _=>true | .str _,.str _=>true | .byt _,.byt _=>true
 | .int _,.str _=>true | .str _,.int _=>true | .bl _,.str _=>true | .str _,.bl _=>true
 | _,_=>false
noncomputable def rEq:R2:=fun x y H Q=>scal x y=true∧Q (.bl (decide (x=y))) H
noncomputable def rNe:R2:=fun x y H Q=>scal x y=true∧Q (.bl (!decide (x=y))) H
theorem dec_int {i j:Int}:decide (V.int i=V.int j)=(i == j):=by
 rw [Bool.eq_iff_iff]
 simp
theorem dec_bl {i j:Bool}:decide (V.bl i=V.bl j)=(i == j):=by
 rw [Bool.eq_iff_iff]
 simp
theorem dec_str {i j:Str}:decide (V.str i=V.str j)=(i == j):=by
 rw [Bool.eq_iff_iff]
 simp
theorem dec_byt {i j:Array UInt8}:decide (V.byt i=V.byt j)=(i.toList == j.toList):=by
 rw [Bool.eq_iff_iff]
 cases i
 cases j
 simp
section
variable {X:Cx} {a b c:Expr} {ta tb tc:TE} {pos:Pos}
theorem fin_bl {pins:List (Addr × Obj)} {σ:St} {H:Hp} {s:Shared} {Q:VK} {k k':Bool} (I:Inv X pins σ H s) (q:Q (.bl k) H) (e:k=k'):EP X pins σ Q (.bool k') s:=by
 subst e
 exact ⟨.bl k,H,I,rfl,q⟩
theorem op_eq:OpR X (compareOp .Eq) rEq:=by
 intro pins s σ H x y v u Q I rx ry h
 obtain ⟨hs,q⟩:=h
 cases x with
 | non=>
  cases rx
  cases y with
  | non=>cases ry; exact PySem.EqNone.eq_none_none (fin_bl I q (by simp))
  | bl j=>cases ry; exact PySem.EqNone.eq_none_bool (fin_bl I q (by simp))
  | int j=>obtain ⟨t',rfl⟩:=ry; exact PySem.EqNone.eq_none_int (fin_bl I q (by simp))
  | str j=>obtain ⟨t',rfl⟩:=ry; exact PySem.EqNone.eq_none_str (fin_bl I q (by simp))
  | _=>exact absurd (show false=true from hs) Bool.false_ne_true
 | bl i=>
  cases rx
  cases y with
  | non=>cases ry; exact PySem.EqNone.eq_bool_none (fin_bl I q (by simp))
  | bl j=>cases ry; exact eq_bool (fin_bl I q dec_bl)
  | str j=>obtain ⟨t',rfl⟩:=ry; exact PySem.EqMixed.eq_bool_str (fin_bl I q (by simp))
  | _=>exact absurd (show false=true from hs) Bool.false_ne_true
 | int i=>
  obtain ⟨t,rfl⟩:=rx
  cases y with
  | non=>cases ry; exact PySem.EqNone.eq_int_none (fin_bl I q (by simp))
  | int j=>obtain ⟨t',rfl⟩:=ry; exact eq_int (fin_bl I q dec_int)
  | str j=>obtain ⟨t',rfl⟩:=ry; exact PySem.EqMixed.eq_int_str (fin_bl I q (by simp))
  | _=>exact absurd (show false=true from hs) Bool.false_ne_true
 | str i=>
  obtain ⟨t,rfl⟩:=rx
  cases y with
  | non=>cases ry; exact PySem.EqNone.eq_str_none (fin_bl I q (by simp))
  | bl j=>cases ry; exact PySem.EqMixed.eq_str_bool (fin_bl I q (by simp))
  | int j=>obtain ⟨t',rfl⟩:=ry; exact PySem.EqMixed.eq_str_int (fin_bl I q (by simp))
  | str j=>obtain ⟨t',rfl⟩:=ry; exact eq_str (fin_bl I q dec_str)
  | _=>exact absurd (show false=true from hs) Bool.false_ne_true
 | byt i=>
  obtain ⟨t,rfl⟩:=rx
  cases y with
  | byt j=>obtain ⟨t',rfl⟩:=ry; exact PySem.W.eq_bytes (fin_bl I q dec_byt)
  | _=>exact absurd (show false=true from hs) Bool.false_ne_true
 | _=>cases y <;> exact absurd (show false=true from hs) Bool.false_ne_true
theorem op_ne:OpR X (compareOp .NotEq) rNe:=by
 intro pins s σ H x y v u Q I rx ry h
 obtain ⟨hs,q⟩:=h
 cases x with
 | non=>
  cases rx
  cases y with
  | non=>cases ry; exact PySem.EqNone.ne_none_none (fin_bl I q (by simp))
  | bl j=>cases ry; exact PySem.EqNone.ne_none_bool (fin_bl I q (by simp))
  | int j=>obtain ⟨t',rfl⟩:=ry; exact PySem.EqNone.ne_none_int (fin_bl I q (by simp))
  | str j=>obtain ⟨t',rfl⟩:=ry; exact PySem.EqNone.ne_none_str (fin_bl I q (by simp))
  | _=>exact absurd (show false=true from hs) Bool.false_ne_true
 | bl i=>
  cases rx
  cases y with
  | non=>cases ry; exact PySem.EqNone.ne_bool_none (fin_bl I q (by simp))
  | bl j=>cases ry; exact ne_bool (fin_bl I q (congrArg not dec_bl))
  | str j=>obtain ⟨t',rfl⟩:=ry; exact PySem.EqMixed.ne_bool_str (fin_bl I q (by simp))
  | _=>exact absurd (show false=true from hs) Bool.false_ne_true
 | int i=>
  obtain ⟨t,rfl⟩:=rx
  cases y with
  | non=>cases ry; exact PySem.EqNone.ne_int_none (fin_bl I q (by simp))
  | int j=>obtain ⟨t',rfl⟩:=ry; exact ne_int (fin_bl I q (congrArg not dec_int))
  | str j=>obtain ⟨t',rfl⟩:=ry; exact PySem.EqMixed.ne_int_str (fin_bl I q (by simp))
  | _=>exact absurd (show false=true from hs) Bool.false_ne_true
 | str i=>
  obtain ⟨t,rfl⟩:=rx
  cases y with
  | non=>cases ry; exact PySem.EqNone.ne_str_none (fin_bl I q (by simp))
  | bl j=>cases ry; exact PySem.EqMixed.ne_str_bool (fin_bl I q (by simp))
  | int j=>obtain ⟨t',rfl⟩:=ry; exact PySem.EqMixed.ne_str_int (fin_bl I q (by simp))
  | str j=>obtain ⟨t',rfl⟩:=ry; exact ne_str (fin_bl I q (congrArg not dec_str))
  | _=>exact absurd (show false=true from hs) Bool.false_ne_true
 | byt i=>
  obtain ⟨t,rfl⟩:=rx
  cases y with
  | byt j=>obtain ⟨t',rfl⟩:=ry; exact PySem.W.ne_bytes (fin_bl I q (congrArg not dec_byt))
  | _=>exact absurd (show false=true from hs) Bool.false_ne_true
 | _=>cases y <;> exact absurd (show false=true from hs) Bool.false_ne_true
theorem op_lt:OpR X (compareOp .Lt) (rI0 fun i j=>.bl (decide (i < j))):=opB0 fun _ _ _ _ _ _ _ q=>lt_int q
theorem op_gt:OpR X (compareOp .Gt) (rI0 fun i j=>.bl (decide (j < i))):=opB0 fun _ _ _ _ _ _ _ q=>gt_int q
theorem op_ge:OpR X (compareOp .GtE) (rI0 fun i j=>.bl (decide (j≤i))):=opB0 fun _ _ _ _ _ _ _ q=>ge_int q
theorem nomark (b:Expr) {op:CmpOp} (h:autoParam (op ≠ .In) Au.h2._auto_1) (h2:autoParam (op ≠ .NotIn) Au.h2._auto_1):behindInMarks op b=false:=by
 have e1:(op == CmpOp.In)=false:=by cases op <;> first | rfl | exact absurd rfl h
 have e2:(op == CmpOp.NotIn)=false:=by cases op <;> first | rfl | exact absurd rfl h2
 cases b <;> simp [behindInMarks,e1,e2]
theorem pe_cmpR {op:CmpOp} {r:R2} (ho:OpR X (compareOp op) r) (ha:PE X a ta) (hb:PE X b tb) (hm:behindInMarks op b=false):PE X (.Compare a [op] [b] pos) (tOp r ta tb):=by
 intro pins s σ H Q I h
 exact wpAny_Compare1 (binT ha hb I h fun v u s2 x y H2 I2 rx ry q=>ho pins s2 σ H2 x y v u Q I2 rx ry q) hm
noncomputable def tTest (t:TE):TT:=fun σ H Q=>t σ H fun x H'=>∃ k,x=.bl k∧Q k H'
theorem pt_cmpR {op:CmpOp} {r:R2} (ho:OpR X (compareOp op) r) (ha:PE X a ta) (hb:PE X b tb) (hm:behindInMarks op b=false):PT X (.Compare a [op] [b] pos) (tTest (tOp r ta tb)):=by
 intro pins s σ H Q I h
 refine wpAny_isTrue_Compare1 (thn (ha pins s σ H _ I h) fun v s1 zq=>ex5 zq fun x H1 I1 r1 q1=>thn (hb pins s1 σ H1 _ I1 q1) fun u s2 zq=>ex5 zq fun y H2 I2 r2 q2=>
  thn (ho pins s2 σ H2 x y v u _ I2 r1 r2 q2) fun c s3 ⟨z,H3,I3,r3,k,e,q3⟩=>?_) hm
 subst e
 cases r3
 exact wpAny_truthy_bool ⟨H3,I3,q3⟩
theorem line63:(sizeLine:Nat) < 2 ^ 63:=by rw [sizeLine_eq]; decide
theorem op_add_str:OpR X (binaryOp .Add) (fun x y H Q=>∃ i j,x=.str i∧y=.str j∧i.length + j.length≤sizeLine∧Q (.str (i ++ j)) H):=by
 intro pins s σ H x y v u Q I rx ry h
 obtain ⟨i,j,rfl,rfl,hz,q⟩:=h
 obtain ⟨t,rfl⟩:=rx
 obtain ⟨t',rfl⟩:=ry
 exact add_str (fun t' tk=>⟨.str (i ++ j),H,I.tok _,⟨_,rfl⟩,q⟩) hz
theorem vals1 {x:V} {us:List Value} (r:Vals [x] us):∃ u,us=[u]∧RelV x u:=by
 cases r with
 | cons r1 r2=>cases r2; exact ⟨_,rfl,r1⟩
theorem vals2 {x y:V} {us:List Value} (r:Vals [x,y] us):∃ u w',us=[u,w']∧RelV x u∧RelV y w':=by
 cases r with
 | cons r1 r2=>
  cases r2 with
  | cons r3 r4=>cases r4; exact ⟨_,_,rfl,r1,r3⟩
theorem call_abs:CallR X (.builtin "abs") (fun xs H Q=>∃ i,xs=[.int i]∧Q (.int (if i < 0 then -i else i)) H):=by
 intro pins s σ H xs us Q I r h
 obtain ⟨i,rfl,q⟩:=h
 obtain ⟨u,rfl,t,rfl⟩:=vals1 r
 exact call_abs_int fun u tk=>⟨.int (if i < 0 then -i else i),H,I.tok _,⟨_,rfl⟩,q⟩
theorem call_max2 (hc:X.calm=true):CallR X (.builtin "max") (fun xs H Q=>∃ i j,xs=[.int i,.int j]∧Q (.int (if j > i then j else i)) H):=by
 intro pins s σ H xs us Q I r h
 obtain ⟨i,j,rfl,q⟩:=h
 obtain ⟨u,w',rfl,⟨t,rfl⟩,⟨t',rfl⟩⟩:=vals2 r
 refine max_two_ints (I.ok.hd hc) fun h' tk k=>⟨_,H,I.kept k,?_,q⟩
 by_cases hj:j > i
 ·rw [if_pos hj,if_pos hj]; exact ⟨_,rfl⟩
 ·rw [if_neg hj,if_neg hj]; exact ⟨_,rfl⟩
theorem call_min2 (hc:X.calm=true):CallR X (.builtin "min") (fun xs H Q=>∃ i j,xs=[.int i,.int j]∧Q (.int (if j < i then j else i)) H):=by
 intro pins s σ H xs us Q I r h
 obtain ⟨i,j,rfl,q⟩:=h
 obtain ⟨u,w',rfl,⟨t,rfl⟩,⟨t',rfl⟩⟩:=vals2 r
 refine min_two_ints (I.ok.hd hc) fun h' tk k=>⟨_,H,I.kept k,?_,q⟩
 by_cases hj:j < i
 ·rw [if_pos hj,if_pos hj]; exact ⟨_,rfl⟩
 ·rw [if_neg hj,if_neg hj]; exact ⟨_,rfl⟩
theorem call_int1:CallR X (.type "int") (fun xs H Q=>(∃ i,xs=[.int i]∧Q (.int i) H) ∨ ∃ k,xs=[.bl k]∧Q (.int (if k then 1 else 0)) H):=by
 intro pins s σ H xs us Q I r h
 rcases h with ⟨i,rfl,q⟩ | ⟨k,rfl,q⟩
 ·obtain ⟨u,rfl,t,rfl⟩:=vals1 r
  exact call_int_int ⟨.int i,H,I,⟨_,rfl⟩,q⟩
 ·obtain ⟨u,rfl,r1⟩:=vals1 r
  cases r1
  exact call_int_bool ⟨.int (if k then 1 else 0),H,I.tok _,⟨_,rfl⟩,q⟩
theorem call_divmod:CallR X (.builtin "divmod") (fun xs H Q=>∃ i j,xs=[.int i,.int j]∧CDiv i j∧∀ p,H p=none→Q (.ref p) (upd H p (.tup [.int (i / j),.int (i % j)]))):=by
 intro pins s σ H xs us Q I r h
 obtain ⟨i,j,rfl,⟨h1,h2⟩,q⟩:=h
 obtain ⟨u,w',rfl,⟨t,rfl⟩,⟨t',rfl⟩⟩:=vals2 r
 refine divmod_int (by omega) ?_ (.inl (PyProof.noPylong_small (by omega)))
 rw [Int.fdiv_eq_ediv_of_nonneg i (by omega),Int.fmod_eq_emod_of_nonneg i (by omega)]
 have hn:H s.heap.objs.size=none:=I.hok.fresh (Nat.le_refl _)
 refine ⟨.ref s.heap.objs.size,_,?_,rfl,q _ hn⟩
 refine I.laid (fun b o e=>Heap.get?_push_of_some _ e) (Nat.le_refl _) ⟨by simp only [List.length_cons,List.length_nil]; rw [sizeLine_eq]; decide,[.int (i / j) s.toks,.int (i % j) (s.toks + 1)],.cons ⟨_,rfl⟩ (.cons ⟨_,rfl⟩ .nil),?_⟩
 exact ⟨_,Heap.get?_push_size s.heap rfl,rfl,0,rfl⟩
end
end L2
namespace L2
open PySem PySem.Spec PyProof.Rows
structure ObjM (h:Heap) (x dx C:Addr) (mA:Str→Option Value):Prop where
 obj:h.get? x=some (PySem.W.instObj C dx)
 ns:h.Ns1 dx mA
 ne:dx ≠ x
theorem lookIn_ns {h:Heap} {dx:Addr} {mA:Str→Option Value} (n:h.Ns1 dx mA):∃ od,h.get? dx=some od∧∀ name,PySem.W.lookIn name od=some (mA name):=by
 obtain ⟨o,es,ep,ho,hd,hk,_,hm⟩:=n
 refine ⟨o,ho,fun name=>?_⟩
 have e:=hm name
 unfold nsFind findBy at e
 rw [← Array.find?_toList] at e
 unfold PySem.W.lookIn
 rw [hd]
 dsimp only
 split
 ·rename_i y q
  rw [q] at e
  exact congrArg some e
 ·rename_i q
  rw [q] at e
  have a:es.toList.any (·.refKey)=false:=by
   rw [List.any_eq_false]
   intro y hy
   obtain ⟨z,t,hkey⟩:=hk y (Array.mem_toList_iff.mp hy)
   simp [DictEntry.refKey,hkey]
  have a':¬ es.toList.any (·.refKey)=true:=by rw [a]; exact Bool.false_ne_true
  rw [if_neg a']
  exact congrArg some e
theorem ObjM.look {h:Heap} {x dx C:Addr} {mA:Str→Option Value} (I:ObjM h x dx C mA):∃ od,PySem.W.InstAt h x (PySem.W.instObj C dx) C (some od)∧∀ name,PySem.W.lookIn name od=some (mA name):=
 let ⟨od,ho,hl⟩:=lookIn_ns I.ns
 ⟨od,⟨I.obj,rfl,rfl,ho⟩,hl⟩
section
variable {prog:Program} {w:World} {A:Around} {E:Value→Shared→Prop} {s:Shared} {K:PySem.W.Frag} {x dx C f:Addr} {mA:Str→Option Value} {name:Str} {v:Value}
end
section
variable {P:Program} {w:World} {H H':Hp} {h h':Heap} {a C dx:Addr} {fs fs':List (Str × V)}
theorem ins_get (hok:HOk P w H h) (e:H a=some (.ins C dx fs)):∃ mA,ObjM h a dx C mA∧(∀ f,RelO (fs.lookup f) (mA f))∧PySem.Within mA (fs.map (·.1))∧fs.length≤1000∧H dx=some (.own a):=by
 obtain ⟨d,z,ne,ob,mA,n,r,q⟩:=(show ObjOk P w H h a (.ins C dx fs) from hok a _ e)
 exact ⟨mA,⟨ob,n,ne⟩,r,q,z,d⟩
end
structure Cls (K:PySem.W.Frag) (C:Addr):Prop where
 pg:PySem.W.plainGet K C Str.empty=true
 hd:PySem.W.hasDictIn K C=true
 po:PySem.W.plainOver K C=true
 sa:PySem.W.findIn K (.ref C) "__setattr__" = some (some (.builtin "object.__setattr__"))
theorem Cls.get {K:PySem.W.Frag} {C:Addr} (c:Cls K C) (f:Str):PySem.W.plainGet K C f=true:=c.pg
section
variable {X:Cx} {pins:List (Addr × Obj)} {σ:St} {H:Hp} {s:Shared} {a C dx:Addr} {fs:List (Str × V)} {f:Str} {v:V} {A:Around} {E:Value→Shared→Prop}
end
section
variable {X:Cx} {o e value:Expr} {f:Str} {pos pos' tpos:Pos} {ta tv:TE}
end
section
variable {X:Cx} {pins:List (Addr × Obj)} {σ:St} {H:Hp} {s:Shared} {A:Around} {E:Value→Shared→Prop} {Q:Value→Shared→Prop} {c:Value} {b:Bool}
inductive TyOf (K:PySem.W.Frag) (H:Hp):V→Value→Prop where
 | non:TyOf K H .non (.type "NoneType")
 | bl (x:Bool):TyOf K H (.bl x) (.type "bool")
 | int (i:Int):TyOf K H (.int i) (.type "int")
 | str (x:Str):TyOf K H (.str x) (.type "str")
 | flt (x:UInt64):TyOf K H (.flt x) (.type "float")
 | lst {a:Addr} {xs:List V} (e:H a=some (.lst xs)):TyOf K H (.ref a) (.type "list")
 | frz {a:Addr} {o:Obj} {xs:List V} (e:H a=some (.frz o (.lst xs))):TyOf K H (.ref a) (.type "list")
 | tup {a:Addr} {xs:List V} (e:H a=some (.tup xs)):TyOf K H (.ref a) (.type "tuple")
 | dK {a:Addr} {kvs:List (Key × V)} (e:H a=some (.dK kvs)):TyOf K H (.ref a) (.type "dict")
 | dT {a:Addr} {kvs:List (List Key × V)} (e:H a=some (.dT kvs)):TyOf K H (.ref a) (.type "dict")
 | ins {a C dx:Addr} {fs:List (Str × V)} (e:H a=some (.ins C dx fs)) (cl:Cls K C) (ha:PySem.W.findIn K (.ref C) "__class__" = some (some (.builtin "object.__class__")))
   (hn:PySem.W.specialIn K (.builtin "object.__class__") "__get__" = some (some (.builtin "getset_descriptor.__get__"))) (htk:PySem.W.takesIn K (.builtin "object.__class__")=some true)
   (hm:PySem.W.mroIn K C (.type "object")=some true):TyOf K H (.ref a) (.ref C)
theorem isinst_ok {x:V} {u t:Value} (I:Inv X pins σ H s) (rx:RelV x u) (ty:TyOf X.K H x t) (e:PySem.W.kitOne X.K t c=some b) (h:∀ tk,Q (.bool b) { s with toks:=tk }):
  wpAny (model X.prog X.w) A (call (.builtin "isinstance") [u,c]) Q E s:=by
 cases ty with
 | non=>cases (show u=Value.none from rx); exact PySem.W.kia_one PySem.W.kitx_none I.kIn True.intro e (fun z=>nomatch z) h
 | bl y=>cases (show u=Value.bool y from rx); exact PySem.W.kia_one PySem.W.kitx_bool I.kIn True.intro e (fun z=>nomatch z) h
 | int i=>obtain ⟨t,q⟩:=(show ∃ t,u=Value.int i t from rx); cases q; exact PySem.W.kia_one PySem.W.kitx_int I.kIn True.intro e (fun z=>nomatch z) h
 | str y=>obtain ⟨t,q⟩:=(show ∃ t,u=Value.str y t from rx); cases q; exact PySem.W.kia_one PySem.W.kitx_str I.kIn True.intro e (fun z=>nomatch z) h
 | flt y=>obtain ⟨t,q⟩:=(show ∃ t,u=Value.float y t from rx); cases q; exact PySem.W.kia_one PySem.W.kitx_float I.kIn True.intro e (fun z=>nomatch z) h
 | @lst a xs ea=>
  cases (show u=Value.ref a from rx)
  obtain ⟨_,_,n,_,h1⟩:=(show ObjOk X.prog X.w H s.heap a (.lst xs) from I.hok a _ ea)
  exact PySem.W.kia_one PySem.W.kitx_list I.kIn ⟨_,h1,rfl⟩ e (fun z=>nomatch z) h
 | @frz a ob xs ea=>
  cases (show u=Value.ref a from rx)
  obtain ⟨_,_,_,n,_,h1⟩:=(show ObjOk X.prog X.w H s.heap a (.frz ob (.lst xs)) from I.hok a _ ea)
  exact PySem.W.kia_one PySem.W.kitx_list I.kIn ⟨_,h1,rfl⟩ e (fun z=>nomatch z) h
 | @tup a xs ea=>
  cases (show u=Value.ref a from rx)
  obtain ⟨_,_,_,p⟩:=(show ObjOk X.prog X.w H s.heap a (.tup xs) from I.hok a _ ea)
  obtain ⟨o,h1,h2,_⟩:=p
  exact PySem.W.kia_one PySem.W.kitx_tuple I.kIn ⟨o,h1,h2⟩ e (fun z=>nomatch z) h
 | @dK a kvs ea=>
  cases (show u=Value.ref a from rx)
  obtain ⟨_,_,vs,_,p⟩:=(show ObjOk X.prog X.w H s.heap a (.dK kvs) from I.hok a _ ea)
  obtain ⟨o,es,ep,h1,h2,_⟩:=p
  exact PySem.W.kia_one PySem.W.kitx_dict I.kIn ⟨o,h1,h2.1⟩ e (fun z=>nomatch z) h
 | @dT a kvs ea=>
  cases (show u=Value.ref a from rx)
  obtain ⟨_,_,xs,_,o,es,ep,h1,h2,_⟩:=(show ObjOk X.prog X.w H s.heap a (.dT kvs) from I.hok a _ ea)
  exact PySem.W.kia_one PySem.W.kitx_dict I.kIn ⟨o,h1,h2.1⟩ e (fun z=>nomatch z) h
 | @ins a C dx fs ea cl ha hn htk hm=>
  cases (show u=Value.ref a from rx)
  obtain ⟨mA,O,_⟩:=ins_get I.hok ea
  obtain ⟨od,J,_⟩:=O.look
  exact PySem.W.kia_one (PySem.W.kitx_own (cl.get _) cl.hd ha hn htk hm) I.kIn J e (fun z=>nomatch z) h
end
end L2
namespace L2
open PySem PySem.Spec PyProof.Rows
structure Room (k:Nat) (A:Around):Prop where
 hd:A.handled=none
 dp:A.depth + 3 * k + 5 < recursionLimit
 un:A.units + 16 * k + 200 < cLine
 gd:A.guards=some []
theorem Room.mono {j k:Nat} {A:Around} (r:Room k A) (h:j≤k):Room j A:=⟨r.hd,by have:=r.dp; omega,by have:=r.un; omega,r.gd⟩
theorem Room.deeper {k:Nat} {A:Around} (r:Room (k + 1) A) (env:Env):Room k (A.deeper env):=
 ⟨r.hd,by have:=r.dp; show A.depth + 1 + 3 * k + 5 < _; omega,by have:=r.un; show A.units + 3 + 16 * k + 200 < _; omega,r.gd⟩
theorem Room.depth {k:Nat} {A:Around} (r:Room k A):A.depth < recursionLimit:=by have:=r.dp; omega
theorem Room.units {k:Nat} {A:Around} (r:Room k A):A.units + 64 < cLine:=by have:=r.un; omega
noncomputable def tNil:TA:=fun _ H Q=>Q [] H
noncomputable def tCons (ta:TE) (tr:TA):TA:=fun σ H Q=>ta σ H fun x H1=>tr σ H1 fun xs H2=>Q (x :: xs) H2
section
variable {X:Cx} {e:Expr} {es:List Expr} {te:TE} {t:TA} {pos:Pos}
theorem pa_nil:PA X [] tNil:=fun _ _ _ _ H Q I h=>Calls.spliced_nil ⟨[],H,I,.nil,h⟩
theorem pa_cons (ha:PE X e te) (hr:PA X es t) (hs:autoParam (starEach (e :: es) X.env=(false,eval e X.env) :: starEach es X.env) Au.h1._auto_1):PA X (e :: es) (tCons te t):=by
 intro pos pins s σ H Q I h
 rw [hs]
 show wpAny _ _ (spliced ((false,eval e X.env) :: backTo pos (starEach es X.env))) _ _ s
 refine Calls.spliced_cons (thn (ha pins s σ H _ I h) fun u s1 zq=>?_)
 obtain ⟨x,H1,I1,r1,q1⟩:=zq
 exact thn (hr pos pins s1 σ H1 _ I1 q1) fun us s2 zq=>ex5 zq fun xs H2 I2 r2 q2=>⟨x :: xs,H2,I2,.cons r1 r2,q2⟩
noncomputable def tTup (t:TA):TE:=fun σ H Q=>t σ H fun xs H1=>xs.length≤sizeLine∧∀ p,H1 p=none→Q (.ref p) (upd H1 p (.tup xs))
noncomputable def tLst (t:TA):TE:=fun σ H Q=>t σ H fun xs H1=>xs.length≤sizeLine∧∀ p,H1 p=none→Q (.ref p) (upd H1 p (.lst xs))
theorem pe_tup {x1} (h:PA X es t):PE X (.Tuple es x1 pos) (tTup t):=by
 intro pins s σ H Q I hq
 refine wpAny_Tuple_spliced (thn (h pos pins s σ H _ I hq) fun us s1 ⟨xs,H1,I1,r,z,q⟩=>⟨by rw [← r.length]; exact z,?_⟩)
 have hf:H1 s1.heap.objs.size=none:=I1.hok.fresh (Nat.le_refl _)
 refine ⟨.ref s1.heap.objs.size,upd H1 s1.heap.objs.size (.tup xs),I1.laid (t':=s1.toks) (fun b u e=>Heap.get?_push_of_some _ e) (Nat.le_refl _) ?_,rfl,q _ hf⟩
 exact ⟨z,us,r,⟨_,Heap.get?_push_size _ rfl,rfl,_,rfl⟩⟩
theorem pe_lst (h:PA X es t):PE X (.List es pos) (tLst t):=by
 intro pins s σ H Q I hq
 refine wpAny_List_spliced (thn (h pos pins s σ H _ I hq) fun us s1 ⟨xs,H1,I1,r,z,q⟩=>⟨by rw [← r.length]; exact z,?_⟩)
 have hf:H1 s1.heap.objs.size=none:=I1.hok.fresh (Nat.le_refl _)
 refine ⟨.ref s1.heap.objs.size,upd H1 s1.heap.objs.size (.lst xs),I1.laid (t':=s1.toks) (fun b u e=>Heap.get?_push_of_some _ e) (Nat.le_refl _) ?_,rfl,q _ hf⟩
 exact ⟨z,us,0,r,Heap.get?_push_size _ rfl⟩
end
noncomputable abbrev Sp:=List V→Hp→VK→XK→Prop
noncomputable abbrev CXT:=List Env→Hp→Shared→XK→Value→Shared→Prop
structure Env0 (P:Program) (w:World) (K:PySem.W.Frag) (mg:Str→Option Value) (base:Heap) (A:Around) (outer:List Env) (s:Shared) (H:Hp):Prop where
 frames:A.frames=some outer
 mod:Mod K mg base
 bs:∀ b o,base.get? b=some o→s.heap.get? b=some o∧H b=none
 bsz:base.objs.size≤s.heap.objs.size
 funs:s.heap.FunFrames base outer
 frf:∀ b ∈ frs outer,H b=none
 hok:HOk P w H s.heap
 bare:AllBare s.gens
noncomputable def CE (outer:List Env) (P:Program) (w:World) (H:Hp) (s:Shared) (Q:VK) (u:Value) (s':Shared):Prop:=
 ∃ v H',s'.os=s.os∧AllBare s'.gens∧Un (frs outer) [] H H' s.heap s'.heap∧HOk P w H' s'.heap∧RelV v u∧Q v H'
noncomputable def CR (CX:CXT) (outer:List Env) (P:Program) (w:World) (H:Hp) (s:Shared) (Q:VK) (E:XK) (r:Result) (s':Shared):Prop:=
 match r with
 | .ok (.ret u)=>CE outer P w H s Q u s'
 | .ok _=>False
 | .error e=>CX outer H s E e s'
structure FnOk (P:Program) (w:World) (K:PySem.W.Frag) (mg:Str→Option Value) (base:Heap) (CX:CXT) (k:Nat) (f:Addr) (fd:FuncData) (ps:List Str) (sp:Sp):Prop where
 len:∀ vs H Q E,sp vs H Q E→vs.length=ps.length
 run:∀ (A:Around) (outer:List Env) (s:Shared) (H:Hp) (args:Args) (us:List Value) (vs:List V) (Q:VK) (E:XK),Room k A→Env0 P w K mg base A outer s H→BindsTo s fd args (ps.zip us)→Vals vs us→sp vs H Q E→
  codeAny (model P w) A (.call (.ref f) args) (CR CX outer P w H s Q E) s
section
variable {X:Cx} {pins:List (Addr × Obj)} {σ:St} {H:Hp} {s s':Shared}
theorem Inv.env0 (I:Inv X pins σ H s):Env0 X.prog X.w X.K X.mg X.base X.A X.stack s H:=
 ⟨I.ok.frames,I.ok.mod,I.bs,Nat.le_trans I.ok.bsz I.sz,I.stack,I.stkFree,I.hok,I.bare⟩
theorem Inv.after {Q:VK} {u:Value} (I:Inv X pins σ H s) (h:CE X.stack X.prog X.w H s Q u s'):EP X pins σ Q u s':=by
 obtain ⟨v,H',os,bare,un,hok,r,q⟩:=h
 obtain ⟨hh,g,d,t,os'⟩:=s'
 obtain rfl:os'=s.os:=os
 exact ⟨v,H',I.call (h':=hh) (g':=g) (d':=d) (t':=t) (ch:=[]) un hok bare (fun b z=>absurd z (by simp)),r,q⟩
end
noncomputable def tCall (sp:Sp) (dvs:List V) (E:XK) (t:TA):TE:=fun σ H Q=>t σ H fun vs H1=>sp (vs ++ dvs) H1 Q E
noncomputable def Binds (K:PySem.W.Frag) (fd:FuncData) (ps:List Str) (ds:List Value):Prop:=
 ∀ (s:Shared) (us:List Value),K.In s.heap→(us ++ ds).length=ps.length→BindsTo s fd ⟨us,[]⟩ (ps.zip (us ++ ds))
theorem Binds.all {K:PySem.W.Frag} {fd:FuncData} {ps:List Str} (h:∀ us:List Value,us.length=ps.length→bindArgs fd ⟨us,[]⟩=pure (ps.zip us)):Binds K fd ps []:=fun s us _ hl=>by
 rw [List.append_nil] at hl ⊢
 exact .of_eq (h us hl)
noncomputable def Passes (CX:CXT) (X:Cx) (E:XK):Prop:=∀ (pins:List (Addr × Obj)) (σ:St) (H:Hp) (s:Shared) (e:Value) (s':Shared),Inv X pins σ H s→CX X.stack H s E e s'→X.xe e s'
section
variable {X:Cx} {CX:CXT} {k:Nat} {f C:Addr} {fd:FuncData} {ps:List Str} {sp:Sp} {dvs:List V} {ds:List Value} {E:XK} {x m:Str} {p pos apos:Pos} {e o:Expr} {es:List Expr} {ta:TE} {t:TA}
theorem run_fn {pins:List (Addr × Obj)} {σ:St} {H:Hp} {s:Shared} {Q:VK} {us:List Value} {vs:List V} (F:FnOk X.prog X.w X.K X.mg X.base CX k f fd ps sp) (hr:Room k X.A) (hb:Binds X.K fd ps ds) (hd:Vals dvs ds) (hx:Passes CX X E)
  (I:Inv X pins σ H s) (r:Vals vs us) (h:sp (vs ++ dvs) H Q E):wpAny (model X.prog X.w) X.A (call (.ref f) us) (EP X pins σ Q) X.xe s:=by
 have r2:Vals (vs ++ dvs) (us ++ ds):=r.append hd
 have hl:(us ++ ds).length=ps.length:=by rw [← r2.length]; exact F.len _ _ _ _ h
 refine wpAny_call (codeAny_mono (F.run X.A X.stack s H ⟨us,[]⟩ (us ++ ds) (vs ++ dvs) Q E hr I.env0 (hb s us I.kIn hl) r2 h) fun r s' hq=>?_)
 cases r with
 | error e=>exact hx pins σ H s e s' I hq
 | ok fl=>
  cases fl with
  | ret u=>exact I.after hq
  | next=>exact False.elim hq
  | brk=>exact False.elim hq
  | cont=>exact False.elim hq
theorem pe_call (F:FnOk X.prog X.w X.K X.mg X.base CX k f fd ps sp) (hr:Room k X.A) (hg:Gl X x) (hm:X.mg x=some (.ref f)) (hk:PySem.W.keepIn X.K (.ref f)=true) (hb:Binds X.K fd ps ds) (hd:Vals dvs ds) (hx:Passes CX X E)
  (ha:PA X (e :: es) t) (hdb:autoParam ((x == ("__debug__":Str))=false) Au.h2._auto_1) (he:autoParam (starEach (e :: es) X.env=(false,eval e X.env) :: starEach es X.env) Au.h1._auto_1) (hpl:autoParam ((backTo pos (starEach es X.env)).any (·.1)=false) Au.h1._auto_1):
  PE X (.Call (.Name x p) (e :: es) [] pos) (tCall sp dvs E t):=by
 intro pins s σ H Q I h
 refine wpAny_Call_Name_kw (ld_glob I hg hm ?_ hdb)
 refine PySem.W.callWith_K (h₀:=X.base) I.ok.mod.kin hk (thn (ha pos pins s σ H _ I h) fun us s1 zq=>ex5 zq fun vs H1 I1 r q=>⟨I1.kIn,?_⟩) he hpl
 exact run_fn F hr hb hd hx I1 r q
end
section
variable {X:Cx} {CX:CXT} {k:Nat} {f C:Addr} {fd:FuncData} {ps ks:List Str} {sp:Sp} {E:XK} {x m:Str} {p pos apos kpos:Pos} {e o:Expr} {es:List Expr} {kws:List Keyword} {te ta:TE} {t tk:TA} {nm:Option Str}
variable {g:List Value→List Value→List Value} {gV:List V→List V→List V}
end
structure FnScope (N P:List Str) (sc:Scope):Prop where
 kind:sc.kind=.function
 co:sc.isCoroutine=false
 gen:sc.isGenerator=false
 nd:N.Nodup
 pre:N.take P.length=P
 par:∀ x ∈ P,sc.names.lookup x=some .local ∨ sc.names.lookup x=some .cell
 nofree:∀ y ∈ sc.names,y.2 ≠ .free
theorem bindL_out {kindOf:Str→Option NameKind} {x:Str}:∀ {binds:List (Str × Value)} {m:Str→Option Value},(∀ v,(x,v) ∉ binds)→bindL kindOf binds m x=m x
 | [],_,_=>rfl
 | (n,v) :: r,m,h=>by
  unfold bindL
  rw [bindL_out fun w hw=>h w (List.mem_cons_of_mem _ hw)]
  split
  ·have:x ≠ n:=by rintro rfl; exact h v List.mem_cons_self
   simp [this]
  ·rfl
theorem bindC_out {kindOf:Str→Option NameKind} {x:Str}:∀ {binds:List (Str × Value)} {m:Str→Option Value},(∀ v,(x,v) ∉ binds)→bindC kindOf binds m x=m x
 | [],_,_=>rfl
 | (n,v) :: r,m,h=>by
  unfold bindC
  rw [bindC_out fun w hw=>h w (List.mem_cons_of_mem _ hw)]
  split
  ·rfl
  ·have:x ≠ n:=by rintro rfl; exact h v List.mem_cons_self
   simp [this]
theorem bindL_get {kindOf:Str→Option NameKind} {x:Str} {v:Value}:∀ {P:List Str} {vs:List Value} {i:Nat} {m:Str→Option Value},P.Nodup→P[i]?=some x→vs[i]?=some v→kindOf x=some .local→
  bindL kindOf (P.zip vs) m x=some v
 | [],_,_,_,_,h,_,_=>by simp at h
 | _ :: _,[],_,_,_,_,h,_=>by simp at h
 | p :: P,w :: vs,0,m,nd,h1,h2,hk=>by
  simp at h1 h2; subst h1; subst h2
  show bindL kindOf ((p,w) :: P.zip vs) m p=_
  unfold bindL
  rw [bindL_out fun v hv=>(List.nodup_cons.mp nd).1 (List.of_mem_zip hv).1,if_pos hk]
  simp
 | p :: P,w :: vs,i + 1,m,nd,h1,h2,hk=>by
  show bindL kindOf ((p,w) :: P.zip vs) m x=_
  unfold bindL
  exact bindL_get (i:=i) (List.nodup_cons.mp nd).2 (by simpa using h1) (by simpa using h2) hk
theorem bindC_get {kindOf:Str→Option NameKind} {x:Str} {v:Value}:∀ {P:List Str} {vs:List Value} {i:Nat} {m:Str→Option Value},P.Nodup→P[i]?=some x→vs[i]?=some v→kindOf x ≠ some .local→
  bindC kindOf (P.zip vs) m x=some v
 | [],_,_,_,_,h,_,_=>by simp at h
 | _ :: _,[],_,_,_,_,h,_=>by simp at h
 | p :: P,w :: vs,0,m,nd,h1,h2,hk=>by
  simp at h1 h2; subst h1; subst h2
  show bindC kindOf ((p,w) :: P.zip vs) m p=_
  unfold bindC
  rw [bindC_out fun v hv=>(List.nodup_cons.mp nd).1 (List.of_mem_zip hv).1,if_neg hk]
  simp
 | p :: P,w :: vs,i + 1,m,nd,h1,h2,hk=>by
  show bindC kindOf ((p,w) :: P.zip vs) m x=_
  unfold bindC
  exact bindC_get (i:=i) (List.nodup_cons.mp nd).2 (by simpa using h1) (by simpa using h2) hk
noncomputable def start (N:List Str) (vs:List V):St:=vs.map some ++ List.replicate (N.length - vs.length) none
noncomputable def cxOf (CX:CXT) (P:Program) (w:World) (K:PySem.W.Frag) (mg:Str→Option Value) (base:Heap) (N:List Str) (qual:Str) (scope:Scope) (f:Addr) (cd:Value) (A:Around) (outer:List Env) (s:Shared) (H:Hp) (E:XK):Cx where
 prog:=P
 w:=w
 K:=K
 mg:=mg
 base:=base
 A:=A.deeper (envOfC qual scope s.heap.objs.size f cd)
 N:=N
 s₀:=s
 H₀:=H
 env:=envOfC qual scope s.heap.objs.size f cd
 outer:=outer
 stack:=envOfC qual scope s.heap.objs.size f cd :: outer
 ex:=[]
 calm:=true
 fn:=fun _=>true
 pn:=[]
 xe:=fun e s'=>wpAny (model P w) (A.deeper (envOfC qual scope s.heap.objs.size f cd)) (leaving (envOfC qual scope s.heap.objs.size f cd) e) (fun _ s''=>CX outer H s E e s'') (fun e' s''=>CX outer H s E e' s'') s'
theorem cell_has {sc:Scope} {n:Nat} {x:Str} (h:sc.names.lookup x=some .cell):∃ c,(cellsFrom n sc.names []).lookup x=some c:=by
 have q:=PySem.W.cellsFrom_some sc.names n [] (.inl h)
 exact Option.isSome_iff_exists.mp q
theorem inv_start {CX:CXT} {P:Program} {w:World} {K:PySem.W.Frag} {mg:Str→Option Value} {base:Heap} {N ps:List Str} {qual:Str} {scope:Scope} {f:Addr} {cd:Value} {A:Around} {outer:List Env} {s s1:Shared} {H:Hp} {E:XK} {us:List Value} {vs:List V}
  (S:FnScope N ps scope) (hd:A.handled=none) (e0:Env0 P w K mg base A outer s H) (hl:vs.length=ps.length) (r:Vals vs us)
  (x:InCallC s s.heap.objs.size (bindL (envOfC qual scope s.heap.objs.size f cd).kindOf (ps.zip us) fun _=>none) (cellsFrom (s.heap.objs.size + 1) scope.names []) (bindC (envOfC qual scope s.heap.objs.size f cd).kindOf (ps.zip us) fun _=>none) s1):
  Inv (cxOf CX P w K mg base N qual scope f cd A outer s H E) [] (start N vs) H s1:=by
 have hpl:ps.length≤N.length:=by have:=congrArg List.length S.pre; rw [List.length_take] at this; omega
 obtain ⟨h1,tk,rfl,hk⟩:=x.done
 have noA:∀ b:Addr,b ∉ (cxOf CX P w K mg base N qual scope f cd A outer s H E).ex:=fun b z=>absurd (show b ∈ ([]:List Addr) from z) (by simp)
 refine ⟨⟨e0.mod,S.kind,rfl,rfl,Nat.le_refl _,fun y z c h1 h2=>?_,fun y hy=>?_,fun y c _ h=>?_,fun _=>hd,Around.frames_deeper e0.frames,.inr ⟨rfl,rfl⟩,fun b z=>absurd z (noA b),e0.bs,e0.bsz,fun b _ _=>noA b,fun b z=>absurd z (noA b),e0.funs,e0.frf⟩,
  rfl,e0.bare,Un.kept hk,⟨_,x.toInCall.ns,fun i y v h1 h2 h3=>?_⟩,fun y c h=>⟨_,x.cell y c h⟩,e0.hok.fresh (Nat.le_refl _),fun y c h=>?_,fun p hp=>absurd (show p ∈ ([]:List (Addr × Obj)) from hp) (by simp),e0.hok.kept hk,?_⟩
 ·exact name_of_addr x.apart (PySem.mem_of_lookup h1) (PySem.mem_of_lookup h2)
 ·have hy:scope.names.lookup y=some .cell ∨ scope.names.lookup y=some .free:=hy
  rcases hy with hy | hy
  ·exact cell_has hy
  ·exact absurd rfl (S.nofree _ (PySem.mem_of_lookup hy))
 ·exact Nat.le_of_lt (x.above y c (PySem.mem_of_lookup h))
 ·have hi:i < vs.length:=by
   unfold start at h2
   by_cases hi:i < vs.length
   ·exact hi
   ·rw [List.getElem?_append_right (by simpa using hi)] at h2
    rw [List.getElem?_replicate] at h2
    split at h2 <;> cases h2
  have ha:vs[i]?=some v:=by
   unfold start at h2
   rw [List.getElem?_append_left (by simpa using hi),List.getElem?_map] at h2
   cases e:vs[i]? with
   | none=>rw [e] at h2; cases h2
   | some a=>rw [e] at h2; cases h2; rfl
  obtain ⟨u,hu,rv⟩:=r.get ha
  have hp:ps[i]?=some y:=by
   rw [← S.pre,List.getElem?_take_of_lt (by omega)]; exact h1
  have ndP:ps.Nodup:=by rw [← S.pre]; exact S.nd.sublist (List.take_sublist _ _)
  refine ⟨u,rv,?_⟩
  rcases S.par y (List.mem_of_getElem? hp) with k | k
  ·exact .inl ⟨k,bindL_get ndP hp hu k⟩
  ·obtain ⟨c,e⟩:=cell_has (n:=s.heap.objs.size + 1) k
   refine .inr ⟨.inl k,c,e,?_⟩
   have q:=x.cell y c e
   rw [bindC_get ndP hp hu (by show scope.names.lookup y ≠ _; rw [k]; decide)] at q
   exact q
 ·exact e0.hok.fresh (Nat.le_of_lt (x.above y c (PySem.mem_of_lookup h)))
 ·unfold start
  show _=N.length
  rw [List.length_append,List.length_map,List.length_replicate]
  omega
theorem fn_of {CX:CXT} {P:Program} {w:World} {K:PySem.W.Frag} {mg:Str→Option Value} {base:Heap} {k:Nat} {f:Addr} {name qual:Str} {params:Arguments} {body:List Stmt} {scope:Scope} {dV kV doc pm cdv ct oc:Value} {an od:Option Addr}
  {osl:Array (Option Value)} {N ps:List Str} {sp:Sp} (lk:K.lookup f=some ⟨oc,od,.func (PySem.W.fnOf name qual params body scope dV kV doc pm an cdv ct),osl⟩) (hcd:PySem.W.codeIn K cdv qual=true) (S:FnScope N ps scope)
  (len:∀ vs H Q E,sp vs H Q E→vs.length=ps.length)
  (hbody:∀ (A:Around) (outer:List Env) (s:Shared) (H:Hp) (vs:List V) (Q:VK) (E:XK),Room k (A.deeper (envOfC qual scope s.heap.objs.size f cdv))→sp vs H Q E→
   ∃ t,PSs (cxOf CX P w K mg base N qual scope f cdv A outer s H E) body t∧t { nx:=fun _ H'=>Q .non H',rt:=Q } (start N vs) H):
  FnOk P w K mg base CX (k + 1) f (PySem.W.fnOf name qual params body scope dV kV doc pm an cdv ct) ps sp:=by
 refine ⟨len,fun A outer s H args us vs Q E hr e0 hb r hsp=>?_⟩
 have hl:=len _ _ _ _ hsp
 have KX:K.In s.heap:=e0.mod.kin.keeps fun b o e=>(e0.bs b o e).1
 have lim:s.heap.NoLimit:=e0.mod.nolimit.keeps fun b o e=>(e0.bs b o e).1
 have hkind:∀ y ∈ ps.zip us,scope.names.lookup y.1=some .local ∨ (scope.names.lookup y.1=some .cell∧((cellsFrom (s.heap.objs.size + 1) scope.names []).lookup y.1).isSome=true):=fun ⟨n,v⟩ hy=>by
  rcases S.par n (List.of_mem_zip hy).1 with q | q
  ·exact .inl q
  ·exact .inr ⟨q,PySem.W.cellsFrom_some _ _ _ (.inl q)⟩
 refine codeAny_call_function hr.depth (KX _ _ lk) rfl S.co S.gen rfl (PySem.W.codeRec_of KX hcd) (hb _ _ _ _ ?_)
 refine wpAny_newFunctionEnv_cells S.kind hkind fun env he s1 x=>?_
 subst he
 refine ⟨lim.keeps x.toInCall.keep,codeAny_func ?_⟩
 obtain ⟨t,ht,hq⟩:=hbody A outer s H vs Q E (hr.deeper _) hsp
 have I:Inv (cxOf CX P w K mg base N qual scope f cdv A outer s H E) [] (start N vs) H s1:=inv_start S hr.hd e0 hl r x
 refine wpAny_mono (ht [] s1 (start N vs) H _ I hq) (fun fl s' hs=>?_) fun e s' hs=>hs
 have fin:∀ {σ':St} {H':Hp} {v:V} {u:Value},Inv (cxOf CX P w K mg base N qual scope f cdv A outer s H E) [] σ' H' s'→RelV v u→Q v H'→CE outer P w H s Q u s':=
  fun {σ' H' v u} J rv q=>⟨v,H',J.os,J.bare,J.base,J.hok,rv,q⟩
 cases fl with
 | ret u=>
  obtain ⟨v,σ',H',J,rv,q⟩:=hs
  exact fin J rv q
 | next=>
  obtain ⟨σ',H',J,q⟩:=hs
  exact fin (v:=V.non) (u:=Value.none) J rfl q
 | brk=>
  obtain ⟨_,_,_,q⟩:=hs
  exact False.elim q
 | cont=>
  obtain ⟨_,_,_,q⟩:=hs
  exact False.elim q
end L2
namespace L2
open PySem PySem.Spec PyProof.Rows
section
variable {X:Cx} {x:Str} {p pos:Pos} {e:Expr} {es:List Expr} {t:TA} {id T:String} {r:List V→Hp→VK→Prop}
noncomputable def tCB (r:List V→Hp→VK→Prop) (t:TA):TE:=fun σ H Q=>t σ H fun vs H1=>r vs H1 Q
theorem pe_callB (hc:CallR X (.builtin id) r) (hg:Gl X x) (hm:X.mg x=none) (hv:bootBuiltins x=some (.builtin id)) (ha:PA X (e :: es) t) (hn:autoParam (x ≠ "__name__") Au.h2._auto_1) (hdb:autoParam ((x == ("__debug__":Str))=false) Au.h2._auto_1)
  (he:autoParam (starEach (e :: es) X.env=(false,eval e X.env) :: starEach es X.env) Au.h1._auto_1) (hpl:autoParam ((backTo pos (starEach es X.env)).any (·.1)=false) Au.h1._auto_1):PE X (.Call (.Name x p) (e :: es) [] pos) (tCB r t):=by
 intro pins s σ H Q I h
 refine wpAny_Call_Name_kw (ld_blt I hg hm hv ?_ hn hdb)
 exact PyProof.Rows.callWith_builtin1 (thn (ha pos pins s σ H _ I h) fun us s1 zq=>ex5 zq fun vs H1 I1 r1 q1=>hc pins s1 σ H1 vs us Q I1 r1 q1) he hpl
theorem pe_callTy (hc:CallR X (.type T) r) (hg:Gl X x) (hm:X.mg x=none) (hv:bootBuiltins x=some (.type T)) (ha:PA X (e :: es) t) (hn:autoParam (x ≠ "__name__") Au.h2._auto_1) (hdb:autoParam ((x == ("__debug__":Str))=false) Au.h2._auto_1)
  (he:autoParam (starEach (e :: es) X.env=(false,eval e X.env) :: starEach es X.env) Au.h1._auto_1) (hpl:autoParam ((backTo pos (starEach es X.env)).any (·.1)=false) Au.h1._auto_1):PE X (.Call (.Name x p) (e :: es) [] pos) (tCB r t):=by
 intro pins s σ H Q I h
 refine wpAny_Call_Name_kw (ld_blt I hg hm hv ?_ hn hdb)
 exact PyProof.Rows.callWith_type1 (thn (ha pos pins s σ H _ I h) fun us s1 zq=>ex5 zq fun vs H1 I1 r1 q1=>hc pins s1 σ H1 vs us Q I1 r1 q1) he hpl
end
end L2
namespace HT
open PySem PyProof.Rows
section
open PySem.SeqAt
open PySem.AutoSeq1 (wpAny_loadPart')
open PySem.MeetsSeq PySem.MeetsSeq2 PySem.MeetsSeq3
end
section
variable {prog:Program} {w:World} {A:Around} {E:Value→Shared→Prop} {s:Shared}
theorem cat_tup {t b:Addr} {vs ws:List Value} {Q:Value→Shared→Prop} (ht:IsTup s.heap t vs.toArray) (hb:IsTup s.heap b ws.toArray) (hv:vs ≠ [])
  (h1:ws=[]→Q (.ref t) s) (h2:ws ≠ []→Q (.ref s.heap.objs.size) { s with heap:=s.heap.push { cls:=.type "tuple",data:=.seq (vs ++ ws).toArray } })
  (hsz:vs.length + ws.length≤sizeLine):wpAny (model prog w) A (binaryOp .Add (.ref t) (.ref b)) Q E s:=by
 obtain ⟨⟨cls,dd,data,sl⟩,ho,hc,n,hd⟩:=id ht
 obtain ⟨⟨cls2,dd2,data2,sl2⟩,ho2,hc2,n2,hd2⟩:=id hb
 simp only at hc hd hc2 hd2
 subst hc hd hc2 hd2
 have e:vs.toArray ++ ws.toArray=(vs ++ ws).toArray:=by simp
 by_cases hw:ws=[]
 ·exact concat_meets ⟨_,ho,rfl⟩ ⟨_,ho2,rfl⟩ noFill_tuple_add seq_tuple_add PySem.F.slot_tuple_add PySem.F.entry_tuple_add (PySem.F.args_tuple_add_2 _ _)
   (tuple_addW1 t b vs.toArray ws.toArray n n2 dd dd2 sl sl2 (by simpa using hv) (by simp [hw])) ⟨ho,ho2,h1 hw⟩
 ·refine concat_meets ⟨_,ho,rfl⟩ ⟨_,ho2,rfl⟩ noFill_tuple_add seq_tuple_add PySem.F.slot_tuple_add PySem.F.entry_tuple_add (PySem.F.args_tuple_add_2 _ _)
   (tuple_addW2 t b vs.toArray ws.toArray n n2 dd dd2 sl sl2 (by simpa using hv) (by simpa using hw) (by rw [List.size_toArray,List.size_toArray]; exact hsz)) ⟨ho,ho2,?_⟩
  rw [e]
  exact h2 hw
noncomputable def sIx (n d:Nat):Option Int→Nat
 | none=>d
 | some v=>if v < 0 then (v + (n:Int)).toNat else min v.toNat n
theorem sIx_nat (n d k:Nat):sIx n d (some (k:Int))=min k n:=by
 show (if (k:Int) < 0 then ((k:Int) + (n:Int)).toNat else min (k:Int).toNat n)=min k n
 rw [if_neg (by omega),Int.toNat_natCast]
theorem sIx_le (n d:Nat) (hd:d≤n) (o:Option Int):sIx n d o≤n:=by
 cases o with
 | none=>exact hd
 | some v=>
  show (if v < 0 then (v + (n:Int)).toNat else min v.toNat n)≤n
  by_cases hv:v < 0
  ·rw [if_pos hv]; omega
  ·rw [if_neg hv]; exact Nat.min_le_right _ _
theorem clip_eq (v:Int) (n d:Nat):(if v < 0 then max (v + (n:Int)) 0 else min v (n:Int))=((sIx n d (some v):Nat):Int):=by
 show (if v < 0 then max (v + (n:Int)) 0 else min v (n:Int))=(((if v < 0 then (v + (n:Int)).toNat else min v.toNat n):Nat):Int)
 by_cases hv:v < 0
 ·simp only [if_pos hv]; omega
 ·simp only [if_neg hv]; omega
theorem adjust_gen (lo hi:Option Int) (n:Nat):Builtin.Slice.sliceAdjust lo hi 1 (n:Int)=(((sIx n 0 lo:Nat):Int),((sIx n n hi:Nat):Int)):=by
 have h1:¬ ((1:Int) < 0):=by omega
 unfold Builtin.Slice.sliceAdjust
 simp only [h1,if_false]
 refine Prod.ext ?_ ?_
 ·cases lo with
  | none=>rfl
  | some v=>exact clip_eq v n 0
 ·cases hi with
  | none=>rfl
  | some v=>exact clip_eq v n n
theorem places_gen (i j:Nat):Builtin.Slice.slicePlaces (i:Int) (j:Int) 1=j - i:=by
 unfold Builtin.Slice.slicePlaces
 have h1:(1:Int) > 0:=by omega
 simp only [h1,if_true,Int.ediv_one]
 split <;> omega
theorem slicePart_ {v:Value} {o:Option Int} {Q:Option Int→Shared→Prop} (p:IsPart v o) (h:Q o s):wpAny (model prog w) A (Builtin.Slice.slicePartIndex v) Q E s:=by
 cases p with
 | none=>exact slicePart_none h
 | int i t=>exact slicePart_int h
theorem sliceApplied_gen {sl:Addr} {vl vu:Value} {lo hi:Option Int} {n:Nat} {Q:Int × Int × Nat→Shared→Prop} (hs:s.heap.IsSliceOf sl vl vu .none) (pl:IsPart vl lo) (pu:IsPart vu hi)
  (h:Q (((sIx n 0 lo:Nat):Int),1,sIx n n hi - sIx n 0 lo) s):wpAny (model prog w) A (Builtin.Slice.sliceApplied (.ref sl) (pure (n:Int))) Q E s:=by
 obtain ⟨os,hos,hcs,hds⟩:=id hs
 unfold Builtin.Slice.sliceApplied Builtin.Slice.sliceFields
 refine wpAny_bind (wpAny_bind (wpAny_field hos hds (x:=vl) rfl (wpAny_bind (wpAny_field hos hds (x:=vu) rfl (wpAny_bind (wpAny_field hos hds (x:=.none) rfl (wpAny_pure ?_)))))))
 refine wpAny_bind (slicePart_none ?_)
 show wpAny _ _ (if ((1:Int) == 0)=true then _ else _) _ _ s
 rw [if_neg (by decide)]
 refine wpAny_bind (slicePart_ pl (wpAny_bind (slicePart_ pu (wpAny_bind (wpAny_pure ?_)))))
 show wpAny _ _ (match Builtin.Slice.sliceAdjust lo hi 1 (n:Int) with | (lo,hi)=>pure (lo,(1:Int),Builtin.Slice.slicePlaces lo hi 1)) _ _ s
 rw [adjust_gen lo hi n]
 show wpAny _ _ (pure (((sIx n 0 lo:Nat):Int),(1:Int),Builtin.Slice.slicePlaces ((sIx n 0 lo:Nat):Int) ((sIx n n hi:Nat):Int) 1)) _ _ s
 rw [places_gen]
 exact wpAny_pure h
theorem pick_gen (xs:Array Value) (i k:Nat):((List.range k).filterMap fun (m:Nat)=>xs[((i:Int) + (m:Int) * 1).toNat]?).toArray=((xs.toList.drop i).take k).toArray:=by
 have e:(fun (m:Nat)=>xs[((i:Int) + (m:Int) * 1).toNat]?)=fun m=>xs[i + m]?:=by
  funext m
  have:((i:Int) + (m:Int) * 1).toNat=i + m:=by omega
  rw [this]
 rw [e]
 have:=pick_run xs i k
 rw [List.filterMap_map] at this
 have e2:((fun x=>xs[x]?) ∘ fun x=>i + x)=fun m=>xs[i + m]?:=rfl
 rw [e2] at this
 rw [this]
theorem getItem_tuple_cut {t sl:Addr} {items:Array Value} {vl vu:Value} {lo hi:Option Int} {Q:Value→Shared→Prop} (ht:IsTup s.heap t items) (hs:s.heap.IsSliceOf sl vl vu .none) (pl:IsPart vl lo) (pu:IsPart vu hi)
  (hw:¬ (sIx items.size 0 lo=0∧sIx items.size items.size hi=items.size))
  (h:Q (.ref s.heap.objs.size) { s with heap:=s.heap.push { cls:=.type "tuple",data:=.seq ((items.toList.drop (sIx items.size 0 lo)).take (sIx items.size items.size hi - sIx items.size 0 lo)).toArray } })
  (hsz:items.size≤sizeLine):wpAny (model prog w) A (getItem (.ref t) (.ref sl)) Q E s:=by
 have htake:sizeOk (.seq ((items.toList.drop (sIx items.size 0 lo)).take (sIx items.size items.size hi - sIx items.size 0 lo)).toArray):=by
  show ((items.toList.drop (sIx items.size 0 lo)).take (sIx items.size items.size hi - sIx items.size 0 lo)).toArray.size≤sizeLine
  rw [List.size_toArray,List.length_take,List.length_drop,Array.length_toList]
  omega
 have hj:sIx items.size items.size hi≤items.size:=sIx_le _ _ (Nat.le_refl _) hi
 obtain ⟨os,hos,hcs,hds⟩:=id hs
 have hTs:s.TypeIs (.ref sl) "slice":=⟨os,hos,hcs⟩
 unfold getItem
 try with_reducible refine wpAny_holding ?_
 first | refine wpAny_bind (wpAny_pure ?_) | skip
 refine wpAny_bind (wpAny_sequenceKey ht.typeIs (by decide) ?_)
 refine wpAny_bind (wpAny_callSpecial?_slot (name:=Str.ofString "__getitem__") ht.typeIs PyProof.Rows.slot_tuple_getitem
  (wpAny_call_entry PyProof.Rows.slot_tuple_getitem ht.typeIs entry_tuple_getitem ?_ (args_tuple_getitem _ _)))
 show wpAny _ _ (Builtin.Tuple.tupleItemsOf (.ref t) >>= _) _ _ s
 refine wpAny_bind (tupleItemsOf_ ht ?_)
 refine wpAny_bind (wpAny_typeOf hTs ?_)
 rw [if_pos (by decide)]
 refine wpAny_bind (sliceApplied_gen hs pl pu ?_)
 have hno:¬ ((((sIx items.size 0 lo:Nat):Int) == 0 && (1:Int) == 1 && (sIx items.size items.size hi - sIx items.size 0 lo) == items.size)=true):=by
  intro q
  rw [Bool.and_eq_true,Bool.and_eq_true] at q
  have q1:((sIx items.size 0 lo:Nat):Int)=0:=eq_of_beq q.1.1
  have q2:sIx items.size items.size hi - sIx items.size 0 lo=items.size:=eq_of_beq q.2
  exact hw ⟨by omega,by omega⟩
 show wpAny _ _ (if (((sIx items.size 0 lo:Nat):Int) == 0 && (1:Int) == 1 && (sIx items.size items.size hi - sIx items.size 0 lo) == items.size)=true then _ else _) _ _ s
 rw [if_neg hno,pick_gen]
 first
  | exact wpAny_bind (m:=Builtin.Tuple.tupleExact _) (wpAny_newObj_type (wpAny_pure ⟨_,rfl,wpAny_pure h⟩) htake)
  | exact wpAny_bind (m:=Builtin.Tuple.tupleExact _) (wpAny_newObj_type (wpAny_bind (wpAny_pure (wpAny_pure ⟨_,rfl,wpAny_pure h⟩))) htake)
  | exact wpAny_bind (wpAny_bind (m:=Builtin.Tuple.tupleExact _) (wpAny_newObj_type (wpAny_pure (wpAny_pure ⟨_,rfl,wpAny_pure h⟩)) htake))
  | exact wpAny_bind (wpAny_bind (m:=Builtin.Tuple.tupleExact _) (wpAny_newObj_type (wpAny_pure ⟨_,rfl,wpAny_pure h⟩) htake))
end
end HT
namespace L2
open PySem PySem.Spec PyProof.Rows
noncomputable abbrev TO:=St→Hp→(Option Int→Hp→Prop)→Prop
noncomputable def PO (X:Cx) (e:Option Expr) (t:TO):Prop:=
 ∀ (pins:List (Addr × Obj)) (s:Shared) (σ:St) (H:Hp) (Q:Option Int→Hp→Prop),Inv X pins σ H s→t σ H Q→
  wpAny (model X.prog X.w) X.A (evalPart e X.env) (fun u s'=>∃ o H',Inv X pins σ H' s'∧IsPart u o∧Q o H') X.xe s
noncomputable def tNoPart:TO:=fun _ H Q=>Q none H
noncomputable def tPart (t:TE):TO:=fun σ H Q=>t σ H fun x H1=>∃ i,x=.int i∧Q (some i) H1
section
variable {X:Cx} {e:Expr} {te:TE} {lo hi:Option Expr} {tl th:TO} {pos p2:Pos}
theorem po_none:PO X none tNoPart:=by
 intro pins s σ H Q I h
 rw [evalPart_none]
 exact wpAny_pure ⟨none,H,I,.none,h⟩
theorem po_some (h:PE X e te):PO X (some e) (tPart te):=by
 intro pins s σ H Q I hw
 rw [evalPart_some]
 refine thn (h pins s σ H _ I hw) fun u s1 zq=>?_
 obtain ⟨x,H1,I1,r1,q1⟩:=zq
 obtain ⟨i,rfl,q⟩:=q1
 obtain ⟨t,rfl⟩:=r1
 exact ⟨some i,H1,I1,.int i t,q⟩
noncomputable def SlR (X:Cx) (r:V→Option Int→Option Int→Hp→VK→Prop):Prop:=
 ∀ (pins:List (Addr × Obj)) (s:Shared) (σ:St) (H:Hp) (x:V) (v vl vu:Value) (lo hi:Option Int) (sl:Addr) (Q:VK),Inv X pins σ H s→RelV x v→s.heap.IsSliceOf sl vl vu .none→IsPart vl lo→IsPart vu hi→r x lo hi H Q→
  ∃ T id,typeLookup (.type T) "__getitem__" = pure (some (.builtin id))∧s.TypeIs v T∧wpAny (model X.prog X.w) X.A (getItem v (.ref sl)) (EP X pins σ Q) X.xe s
noncomputable def tSl (r:V→Option Int→Option Int→Hp→VK→Prop) (te:TE) (tl th:TO):TE:=fun σ H Q=>te σ H fun x H1=>tl σ H1 fun l H2=>th σ H2 fun u H3=>r x l u H3 Q
theorem pe_slice {r:V→Option Int→Option Int→Hp→VK→Prop} (hr:SlR X r) (he:PE X e te) (hl:PO X lo tl) (hu:PO X hi th):PE X (.Subscript e (.Slice lo hi none p2) pos) (tSl r te tl th):=by
 intro pins s σ H Q I h
 refine Subscript_ (thn (he pins s σ H _ I h) fun v s1 zq=>?_)
 obtain ⟨x,H1,I1,r1,q1⟩:=zq
 refine wpAny_Slice (thn (hl pins s1 σ H1 _ I1 q1) fun vl s2 zq=>ex5 zq fun l H2 I2 pl q2=>thn (hu pins s2 σ H2 _ I2 q2) fun vu s3 zq=>?_)
 obtain ⟨u,H3,I3,pu,q3⟩:=zq
 rw [evalPart_none]
 refine wpAny_pure ?_
 have I4:Inv X pins σ H3 { s3 with heap:=s3.heap.push { cls:=.type "slice",data:=.fields #[vl,vu,.none] } }:=I3.kept (t':=s3.toks) fun b ob q=>Heap.get?_push_of_some _ q
 obtain ⟨T,id,hT,ht,hg⟩:=hr pins { s3 with heap:=s3.heap.push { cls:=.type "slice",data:=.fields #[vl,vu,.none] } } σ H3 x v vl vu l u s3.heap.objs.size Q I4 r1 (Heap.IsSliceOf.new ..) pl pu q3
 show wpAny (model X.prog X.w) X.A (subscriptTail e (.Slice lo hi none p2) v (.ref s3.heap.objs.size)) (EP X pins σ Q) X.xe { s3 with heap:=s3.heap.push { cls:=.type "slice",data:=.fields #[vl,vu,.none] } }
 exact tail_any (ops:=[.ref s3.heap.objs.size,v]) ht hT hg (by with_unfolding_all rfl)
noncomputable def cutV (xs:List V) (lo hi:Option Int):List V:=(xs.drop (HT.sIx xs.length 0 lo)).take (HT.sIx xs.length xs.length hi - HT.sIx xs.length 0 lo)
theorem cutV_length (xs:List V) (lo hi:Option Int):(cutV xs lo hi).length≤xs.length:=by
 unfold cutV
 rw [List.length_take,List.length_drop]
 omega
noncomputable def rSlT (K:PySem.W.Frag):V→Option Int→Option Int→Hp→VK→Prop:=fun x lo hi H Q=>∃ a xs,x=.ref a∧SqT K H a xs∧
 ¬ (HT.sIx xs.length 0 lo=0∧HT.sIx xs.length xs.length hi=xs.length)∧∀ p,H p=none→Q (.ref p) (upd H p (.tup (cutV xs lo hi)))
theorem sl_tup:SlR X (rSlT X.K):=by
 intro pins s σ H x v vl vu lo hi sl Q I rx hs pl pu h
 obtain ⟨a,xs,rfl,hx,hw,q⟩:=h
 cases rx
 obtain ⟨its,r,ht,hz⟩:=I.tuple hx
 have hlen:its.toArray.size=xs.length:=by rw [List.size_toArray]; exact r.length.symm
 refine ⟨"tuple",_,PyProof.Rows.slot_tuple_getitem.lookup,ht.typeIs,?_⟩
 refine HT.getItem_tuple_cut ht hs pl pu (by rw [hlen]; exact hw) ?_ (by rw [hlen]; exact hz)
 rw [hlen]
 refine ⟨.ref s.heap.objs.size,_,I.laid (t':=s.toks) (o:=.tup (cutV xs lo hi)) (fun b ob q=>Heap.get?_push_of_some _ q) (Nat.le_refl _) ?_,rfl,q _ (I.hok.fresh (Nat.le_refl _))⟩
 exact ⟨Nat.le_trans (cutV_length xs lo hi) hz,_,(r.drop (HT.sIx xs.length 0 lo)).take (HT.sIx xs.length xs.length hi - HT.sIx xs.length 0 lo),IsTup.new _ _⟩
noncomputable def rCatT (K:PySem.W.Frag):R2:=fun x y H Q=>∃ a b xs ys,x=.ref a∧y=.ref b∧SqT K H a xs∧SqT K H b ys∧xs ≠ []∧xs.length + ys.length≤sizeLine∧
 (ys=[]→Q (.ref a) H)∧(ys ≠ []→∀ p,H p=none→Q (.ref p) (upd H p (.tup (xs ++ ys))))
theorem Vals.nil_iff {xs:List V} {us:List Value} (r:Vals xs us):us=[]↔xs=[]:=by
 cases r with
 | nil=>simp
 | cons _ _=>simp
theorem op_catT:OpR X (binaryOp .Add) (rCatT X.K):=by
 intro pins s σ H x y v u Q I rx ry h
 obtain ⟨a,b,xs,ys,rfl,rfl,ha,hb,hx,hz,q1,q2⟩:=h
 cases rx
 cases ry
 obtain ⟨its,r1,p1,_⟩:=I.tuple ha
 obtain ⟨its2,r2,p2,_⟩:=I.tuple hb
 refine HT.cat_tup p1 p2 (fun z=>hx (r1.nil_iff.mp z)) (fun z=>⟨.ref a,H,I,rfl,q1 (r2.nil_iff.mp z)⟩) (fun z=>?_) (by rw [← r1.length,← r2.length]; exact hz)
 refine ⟨.ref s.heap.objs.size,_,I.laid (t':=s.toks) (o:=.tup (xs ++ ys)) (fun b ob q=>Heap.get?_push_of_some _ q) (Nat.le_refl _) ?_,rfl,q2 (fun w=>z (r2.nil_iff.mpr w)) _ (I.hok.fresh (Nat.le_refl _))⟩
 exact ⟨by rw [List.length_append]; exact hz,_,r1.append r2,IsTup.new _ _⟩
end
end L2
namespace L2
open PySem PySem.Spec PyProof.Rows
noncomputable def ixN (n:Nat) (i:Int):Option Nat:=if 0≤i then (if i < n then some i.toNat else none) else if -(n:Int)≤i then some (i + n).toNat else none
noncomputable def atI {α:Type} (xs:List α) (i:Int):Option α:=(ixN xs.length i).bind fun j=>xs[j]?
theorem ixN_seq {n:Nat} {i:Int} {j:Nat} (h:ixN n i=some j):seqIndex? i n=some j∧j < n∧-(n:Int)≤i∧i < n:=by
 unfold ixN at h
 by_cases h0:0≤i
 ·rw [if_pos h0] at h
  by_cases h1:i < n
  ·rw [if_pos h1] at h
   have e:i.toNat=j:=Option.some.inj h
   exact ⟨by rw [seqIndex_of h0 h1,e],by omega,by omega,h1⟩
  ·rw [if_neg h1] at h; cases h
 ·rw [if_neg h0] at h
  by_cases h1:-(n:Int)≤i
  ·rw [if_pos h1] at h
   have e:(i + n).toNat=j:=Option.some.inj h
   exact ⟨by rw [seqIndex_neg (by omega) h1,e],by omega,h1,by omega⟩
  ·rw [if_neg h1] at h; cases h
theorem atI_get {α:Type} {xs:List α} {i:Int} {v:α} (h:atI xs i=some v):∃ j,seqIndex? i xs.length=some j∧xs[j]?=some v∧j < xs.length∧-(xs.length:Int)≤i∧i < xs.length:=by
 unfold atI at h
 cases e:ixN xs.length i with
 | none=>rw [e] at h; cases h
 | some j=>
  rw [e] at h
  obtain ⟨h1,h2,h3,h4⟩:=ixN_seq e
  exact ⟨j,h1,h,h2,h3,h4⟩
theorem atI_nat {α:Type} {xs:List α} {j:Nat} {v:α} (h:xs[j]?=some v):atI xs (j:Int)=some v:=by
 have hj:j < xs.length:=(List.getElem?_eq_some_iff.mp h).1
 have e:ixN xs.length (j:Int)=some j:=by
  unfold ixN
  rw [if_pos (by omega),if_pos (by omega)]; simp
 unfold atI; rw [e]; exact h
noncomputable def PlainIx (b:Expr):Prop:=∀ o i,subscripted b false o i=operate [o,i] (getItem o i)
noncomputable def IxR (X:Cx) (r:R2):Prop:=
 ∀ (value slice:Expr) (pins:List (Addr × Obj)) (s:Shared) (σ:St) (H:Hp) (x y:V) (v u:Value) (Q:VK),Inv X pins σ H s→RelV x v→RelV y u→r x y H Q→
  subscripted slice false v u=operate [v,u] (getItem v u)→wpAny (model X.prog X.w) X.A (subscriptTail value slice v u) (EP X pins σ Q) X.xe s
noncomputable def MtR (X:Cx) (id:String) (r:V→List V→Hp→VK→Prop):Prop:=
 ∀ (pins:List (Addr × Obj)) (s:Shared) (σ:St) (H:Hp) (x:V) (xs:List V) (v:Value) (us:List Value) (Q:VK),Inv X pins σ H s→RelV x v→Vals xs us→r x xs H Q→
  wpAny (model X.prog X.w) X.A (call (.builtin id) (v :: us)) (EP X pins σ Q) X.xe s
section
variable {X:Cx} {a b:Expr} {ta tb:TE} {pos:Pos}
theorem IxR.or {r r':R2} (h:IxR X r) (h':IxR X r'):IxR X (fun x y H Q=>r x y H Q ∨ r' x y H Q):=by
 intro value slice pins s σ H x y v u Q I rx ry q hs
 rcases q with q | q
 ·exact h value slice pins s σ H x y v u Q I rx ry q hs
 ·exact h' value slice pins s σ H x y v u Q I rx ry q hs
theorem pe_ix {r:R2} (hr:IxR X r) (ha:PE X a ta) (hb:PE X b tb) (hs:PlainIx b):PE X (.Subscript a b pos) (tOp r ta tb):=by
 intro pins s σ H Q I h
 exact Subscript_ (binT ha hb I h fun v u s2 x y H2 I2 rx ry q=>hr a b pins s2 σ H2 x y v u Q I2 rx ry q (hs _ _))
noncomputable def rIxL (K:PySem.W.Frag):R2:=fun x y H Q=>∃ p xs i v,x=.ref p∧y=.int i∧SqL K H p xs∧atI xs i=some v∧Q v H
noncomputable def rIxT (K:PySem.W.Frag):R2:=fun x y H Q=>∃ p xs i v,x=.ref p∧y=.int i∧SqT K H p xs∧atI xs i=some v∧Q v H
noncomputable def rIxS:R2:=fun x y H Q=>∃ z i c,x=.str z∧y=.int i∧z.length≤sizeLine∧atI z.cps.toList i=some c∧Q (.str ⟨#[c]⟩) H
theorem ix_list:IxR X (rIxL X.K):=by
 intro value slice pins s σ H x y v u Q I rx ry h hs
 obtain ⟨p,xs,i,z,rfl,rfl,hq,he,q⟩:=h
 cases rx
 obtain ⟨t,rfl⟩:=ry
 obtain ⟨its,r,pl,hz⟩:=I.list hq
 obtain ⟨j,h1,h2,h3,h4,h5⟩:=atI_get he
 obtain ⟨w,ew,rw'⟩:=r.get h2
 have hl:=r.length
 have hn:=line63
 have fin:EP X pins σ Q w s:=⟨z,H,I,rw',q⟩
 by_cases h0:0≤i
 ·have hj:i.toNat=j:=by
   rw [seqIndex_of h0 h5] at h1
   exact Option.some.inj h1
  exact item_listR pl.isList h0 (by omega) (by rw [hj]; simpa using ew) fin hs
 ·have hj:(i + (its.toArray.size:Int)).toNat=j:=by
   rw [seqIndex_neg (by omega) h4] at h1
   rw [List.size_toArray,← hl]
   exact Option.some.inj h1
  exact subscriptTail_builtinR (x:=w) pl.isList.typeIs slot_list_getitem.lookup
   (wpAny_getItem_list_neg (Q:=fun r s'=>r=w∧EP X pins σ Q r s') pl.isList (by omega) (by rw [List.size_toArray] <;> omega) (by omega) (by rw [hj]; simpa using ew) ⟨rfl,fin⟩) hs
theorem ix_tup:IxR X (rIxT X.K):=by
 intro value slice pins s σ H x y v u Q I rx ry h hs
 obtain ⟨p,xs,i,z,rfl,rfl,hq,he,q⟩:=h
 cases rx
 obtain ⟨t,rfl⟩:=ry
 obtain ⟨its,r,pl,hz⟩:=I.tuple hq
 obtain ⟨j,h1,h2,h3,h4,h5⟩:=atI_get he
 obtain ⟨w,ew,rw'⟩:=r.get h2
 have hl:=r.length
 have hn:=line63
 have fin:EP X pins σ Q w s:=⟨z,H,I,rw',q⟩
 exact subscriptTail_builtinR (x:=w) pl.typeIs slot_tuple_getitem.lookup
  (getItem_tuple (j:=j) (Q:=fun r s'=>r=w∧EP X pins σ Q r s') pl (by omega) (by omega) (by rw [List.size_toArray,← hl]; exact h1) (by simpa using ew) ⟨rfl,fin⟩) hs
theorem ix_str:IxR X rIxS:=by
 intro value slice pins s σ H x y v u Q I rx ry h hs
 obtain ⟨z,i,c,rfl,rfl,hz,he,q⟩:=h
 obtain ⟨t,rfl⟩:=rx
 obtain ⟨t',rfl⟩:=ry
 obtain ⟨j,h1,h2,h3,h4,h5⟩:=atI_get he
 have hl:z.cps.toList.length=z.length:=by simp [Str.length]
 rw [hl] at h1 h4 h5
 have hn:=line63
 exact tail_any (typeIs_str s z t) slot_str_getitem.lookup (getItem_str (c:=c) (by
  have e1:decide (i < -(2 ^ 63:Int))=false:=decide_eq_false (by omega)
  have e2:decide (i ≥ 2 ^ 63)=false:=decide_eq_false (by omega)
  rw [e1,e2,Bool.or_false]) (by rw [h1]; simpa using h2) ⟨.str ⟨#[c]⟩,H,I.tok _,⟨_,rfl⟩,q⟩) hs
noncomputable def rIx (K:PySem.W.Frag):R2:=fun x y H Q=>rIxL K x y H Q ∨ rIxT K x y H Q ∨ rIxS x y H Q
theorem ix_seq:IxR X (rIx X.K):=ix_list.or (ix_tup.or ix_str)
theorem mapSeq_set (its:List Value) (n j:Nat) (u:Value):Obj.mapSeq (·.setIfInBounds j u) { cls:=.type "list",data:=.seq its.toArray n }={ cls:=.type "list",data:=.seq (its.set j u).toArray n }:=by
 simp [Obj.mapSeq]
theorem Inv.lst {pins:List (Addr × Obj)} {σ:St} {H:Hp} {s:Shared} {p:Addr} {xs:List V} (I:Inv X pins σ H s) (h:H p=some (.lst xs)):
  ∃ (its:List Value) (n:Nat),Vals xs its∧s.heap.get? p=some { cls:=.type "list",data:=.seq its.toArray n }∧xs.length≤sizeLine:=by
 obtain ⟨z,its,n,r,e⟩:=I.hok p _ h
 exact ⟨its,n,r,e,z⟩
theorem Inv.lstUpd {pins:List (Addr × Obj)} {σ:St} {H:Hp} {s:Shared} {p:Addr} {xs ys:List V} {its its':List Value} {n n':Nat} {f:Obj→Obj} (I:Inv X pins σ H s) (h:H p=some (.lst xs))
  (ho:s.heap.get? p=some { cls:=.type "list",data:=.seq its.toArray n }) (hf:f { cls:=.type "list",data:=.seq its.toArray n }={ cls:=.type "list",data:=.seq its'.toArray n' }) (r:Vals ys its') (hz:ys.length≤sizeLine) (t:Nat):
  Inv X pins σ (upd H p (.lst ys)) { s with heap:=s.heap.update p f,toks:=t }:=by
 have e:(s.heap.update p f).get? p=some { cls:=.type "list",data:=.seq its'.toArray n' }:=by
  rw [Heap.get?_update_self f ho (by rw [hf] <;> rfl),hf]
 refine I.write (x:=p) (e:=p) (by rw [h]; trivial) (.inl rfl) (fun b u hb q=>(Heap.get?_update_other _ _ (Ne.symm hb)).trans q) ⟨_,e⟩ ?_
 exact ⟨hz,its',n',r,e⟩
noncomputable def rSetL:V→V→V→Hp→(Hp→Prop)→Prop:=fun o i v H Q=>∃ p xs k j,o=.ref p∧i=.int k∧H p=some (.lst xs)∧ixN xs.length k=some j∧Q (upd H p (.lst (xs.set j v)))
theorem set_list:PSet X rSetL:=by
 intro pins s σ H o i v ov iv u Q I ro ri rv h
 obtain ⟨p,xs,k,j,rfl,rfl,hp,hj,q⟩:=h
 cases ro
 obtain ⟨t,rfl⟩:=ri
 obtain ⟨its,n,r,ho,hz⟩:=I.lst hp
 obtain ⟨h1,h2,h3,h4⟩:=ixN_seq hj
 have hl:=r.length
 have hn:=line63
 have I':Inv X pins σ (upd H p (.lst (xs.set j v))) { s with heap:=s.heap.update p (Obj.mapSeq (·.setIfInBounds j u)) }:=
  I.lstUpd hp ho (mapSeq_set its n j u) (r.set rv j) (by rw [List.length_set]; exact hz) s.toks
 by_cases h0:0≤k
 ·have hk:k.toNat=j:=by
   rw [seqIndex_of h0 h4] at h1
   exact Option.some.inj h1
  exact PySem.W.ki_setAt ho h0 (by omega) (by rw [List.size_toArray,← hl]; exact h4) (by rw [hk]; exact ⟨_,I',q⟩)
 ·have hk:(k + (its.toArray.size:Int)).toNat=j:=by
   rw [seqIndex_neg (by omega) h3] at h1
   rw [List.size_toArray,← hl]
   exact Option.some.inj h1
  exact PySem.W.ki_setBack ho (by omega) (by rw [List.size_toArray,← hl]; exact h3) (by omega) (by rw [hk]; exact ⟨_,I',q⟩)
theorem slice_bounds (lo hi:Option Int) (n:Nat):(sliceBounds lo hi none n).1=((HT.sIx n 0 lo:Nat):Int)∧(sliceBounds lo hi none n).2.1=((HT.sIx n n hi:Nat):Int)∧(sliceBounds lo hi none n).2.2=1:=by
 refine ⟨?_,?_,rfl⟩
 ·cases lo with
  | none=>simp [sliceBounds,HT.sIx]
  | some i=>
   simp only [sliceBounds,HT.sIx,Option.getD_none,show (1:Int) > 0 by decide,if_true]
   by_cases h:i < 0
   ·simp only [h,if_true] <;> omega
   ·simp only [h,if_false] <;> omega
 ·cases hi with
  | none=>simp [sliceBounds,HT.sIx]
  | some i=>
   simp only [sliceBounds,HT.sIx,Option.getD_none,show (1:Int) > 0 by decide,if_true]
   by_cases h:i < 0
   ·simp only [h,if_true] <;> omega
   ·simp only [h,if_false] <;> omega
theorem slicePick_cut (its:List Value) (lo hi:Option Int):slicePick its.toArray lo hi none=((its.drop (HT.sIx its.length 0 lo)).take (HT.sIx its.length its.length hi - HT.sIx its.length 0 lo)).toArray:=by
 obtain ⟨h1,h2,h3⟩:=slice_bounds lo hi its.toArray.size
 unfold slicePick
 rw [h1,h2,h3]
 simp only [sliceRange_one,pick_run,List.size_toArray] <;> rfl
noncomputable def rSlL (K:PySem.W.Frag):V→Option Int→Option Int→Hp→VK→Prop:=fun x lo hi H Q=>∃ a xs,x=.ref a∧SqL K H a xs∧∀ p,H p=none→Q (.ref p) (upd H p (.lst (cutV xs lo hi)))
theorem sl_list:SlR X (rSlL X.K):=by
 intro pins s σ H x v vl vu lo hi sl Q I rx hs pl pu h
 obtain ⟨a,xs,rfl,hx,q⟩:=h
 cases rx
 obtain ⟨its,r,ht,hz⟩:=I.list hx
 have hlen:=r.length
 refine ⟨"list",_,slot_list_getitem.lookup,ht.isList.typeIs,?_⟩
 refine wpAny_getItem_list_slice ht.isList hs pl pu .none (by simp) ?_ (by rw [List.size_toArray] <;> omega)
 rw [slicePick_cut,← hlen]
 refine ⟨.ref s.heap.objs.size,_,I.laid (t':=s.toks) (o:=.lst (cutV xs lo hi)) (fun b ob q=>Heap.get?_push_of_some _ q) (Nat.le_refl _) ?_,rfl,q _ (I.hok.fresh (Nat.le_refl _))⟩
 exact ⟨Nat.le_trans (cutV_length xs lo hi) hz,_,0,(r.drop (HT.sIx xs.length 0 lo)).take (HT.sIx xs.length xs.length hi - HT.sIx xs.length 0 lo),Heap.get?_push_size _ rfl⟩
noncomputable def flatV:V→Bool
 | .non=>true
 | .bl _=>true
 | .int _=>true
 | .str _=>true
 | _=>false
noncomputable def eqV:V→V→Bool
 | .non,.non=>true
 | .bl a,.bl b=>a == b
 | .bl a,.int b=>(if a then 1 else 0) == b
 | .int a,.bl b=>a == (if b then 1 else 0)
 | .int a,.int b=>a == b
 | .str a,.str b=>a == b
 | _,_=>false
theorem eqAt_V {A:Around} {s:Shared} {y x:V} {u v:Value} (ry:RelV y u) (rx:RelV x v) (fy:flatV y=true) (fx:flatV x=true):SeqAt.EqAt A s u v (eqV y x):=by
 cases y with
 | non=>
  cases ry
  cases x with
  | non=>cases rx; exact SeqAt.EqAt.same _
  | bl b=>cases rx; exact SeqAt.EqAt.none_bool b
  | int b=>obtain ⟨t,rfl⟩:=rx; exact SeqAt.EqAt.none_int b t
  | str b=>obtain ⟨t,rfl⟩:=rx; exact SeqAt.EqAt.none_str b t
  | _=>exact absurd (show false=true from fx) Bool.false_ne_true
 | bl a=>
  cases ry
  cases x with
  | non=>cases rx; exact SeqAt.EqAt.bool_none a
  | bl b=>cases rx; exact SeqAt.EqAt.bool_bool a b
  | int b=>obtain ⟨t,rfl⟩:=rx; exact SeqAt.EqAt.bool_int a b t
  | str b=>obtain ⟨t,rfl⟩:=rx; exact SeqAt.EqAt.bool_str a b t
  | _=>exact absurd (show false=true from fx) Bool.false_ne_true
 | int a=>
  obtain ⟨t',rfl⟩:=ry
  cases x with
  | non=>cases rx; exact SeqAt.EqAt.int_none a t'
  | bl b=>cases rx; exact SeqAt.EqAt.int_bool a t' b
  | int b=>obtain ⟨t,rfl⟩:=rx; exact SeqAt.EqAt.int_int a t' b t
  | str b=>obtain ⟨t,rfl⟩:=rx; exact SeqAt.EqAt.int_str a t' b t
  | _=>exact absurd (show false=true from fx) Bool.false_ne_true
 | str a=>
  obtain ⟨t',rfl⟩:=ry
  cases x with
  | non=>cases rx; exact SeqAt.EqAt.str_none a t'
  | bl b=>cases rx; exact SeqAt.EqAt.str_bool a t' b
  | int b=>obtain ⟨t,rfl⟩:=rx; exact SeqAt.EqAt.str_int a t' b t
  | str b=>obtain ⟨t,rfl⟩:=rx; exact SeqAt.EqAt.str_str a t' b t
  | _=>exact absurd (show false=true from fx) Bool.false_ne_true
 | _=>exact absurd (show false=true from fy) Bool.false_ne_true
noncomputable def eqU (x:V) (u:Value):Bool:=match u with
 | .none=>eqV .non x
 | .bool b=>eqV (.bl b) x
 | .int i _=>eqV (.int i) x
 | .str z _=>eqV (.str z) x
 | _=>false
theorem eqU_of {x y:V} {u:Value} (r:RelV y u) (f:flatV y=true):eqU x u=eqV y x:=by
 cases y with
 | non=>cases r; rfl
 | bl b=>cases r; rfl
 | int i=>obtain ⟨t,rfl⟩:=r; rfl
 | str z=>obtain ⟨t,rfl⟩:=r; rfl
 | _=>exact absurd (show false=true from f) Bool.false_ne_true
theorem any_eqU {x:V}:∀ {xs:List V} {us:List Value},Vals xs us→xs.all flatV=true→us.any (eqU x)=xs.any fun y=>eqV y x
 | _,_,.nil,_=>rfl
 | y :: xs,u :: us,.cons r t,f=>by
  rw [List.all_cons,Bool.and_eq_true] at f
  rw [List.any_cons,List.any_cons,eqU_of r f.1,any_eqU t f.2]
theorem mem_eqAt {A:Around} {s:Shared} {x:V} {v:Value} (rx:RelV x v) (fx:flatV x=true):∀ {xs:List V} {us:List Value},Vals xs us→xs.all flatV=true→∀ u ∈ us,SeqAt.EqAt A s u v (eqU x u)
 | _,_,.nil,_=>fun u hu=>by cases hu
 | y :: xs,u :: us,.cons r t,f=>fun u' hu=>by
  rw [List.all_cons,Bool.and_eq_true] at f
  rcases List.mem_cons.mp hu with rfl | hu
  ·rw [eqU_of r f.1]; exact eqAt_V r rx f.1 fx
  ·exact mem_eqAt rx fx t f.2 u' hu
noncomputable def inV (x:V) (xs:List V):Bool:=xs.any fun y=>eqV y x
noncomputable def rIn (K:PySem.W.Frag) (neg:Bool):R2:=fun x y H Q=>∃ p xs,y=.ref p∧(SqL K H p xs ∨ SqT K H p xs)∧flatV x=true∧xs.all flatV=true∧Q (.bl (if neg then !inV x xs else inV x xs)) H
theorem op_in_seq:OpR X (compareOp .In) (rIn X.K false):=by
 intro pins s σ H x y v u Q I rx ry h
 obtain ⟨p,xs,rfl,hq,fx,fs,q⟩:=h
 cases ry
 rcases hq with hq | hq
 ·obtain ⟨its,r,pl,hz⟩:=I.list hq
  refine SeqAt.in_listAt (eqU x) pl.isList (fun w hw=>mem_eqAt rx fx r fs w (by simpa using hw)) ⟨.bl _,H,I,rfl,?_⟩
  rw [show its.toArray.any (eqU x)=its.any (eqU x) by simp,any_eqU r fs]
  exact q
 ·obtain ⟨its,r,pl,hz⟩:=I.tuple hq
  refine SeqAt.in_tupleAt (eqU x) pl (fun w hw=>mem_eqAt rx fx r fs w (by simpa using hw)) ⟨.bl _,H,I,rfl,?_⟩
  rw [show its.toArray.any (eqU x)=its.any (eqU x) by simp,any_eqU r fs]
  exact q
theorem call_len_seq:CallR X (.builtin "len") (fun xs H Q=>∃ p ys,xs=[.ref p]∧(SqL X.K H p ys ∨ SqT X.K H p ys)∧Q (.int ys.length) H):=by
 intro pins s σ H xs us Q I r h
 obtain ⟨p,ys,rfl,hq,q⟩:=h
 obtain ⟨u,rfl,rx⟩:=vals1 r
 cases rx
 have hn:=line63
 rcases hq with hq | hq
 ·obtain ⟨its,r',pl,hz⟩:=I.list hq
  have hlen:=r'.length
  exact Calls.call_len_list pl.isList (by simp only [List.size_toArray] <;> omega) ⟨.int ys.length,H,I.tok _,⟨s.toks + 1,by rw [List.size_toArray,hlen]⟩,q⟩
 ·obtain ⟨its,r',pl,hz⟩:=I.tuple hq
  have hlen:=r'.length
  exact len_tuple pl (by simp only [List.size_toArray] <;> omega) ⟨.int ys.length,H,I.tok _,⟨s.toks + 1,by rw [List.size_toArray,hlen]⟩,q⟩
theorem call_len_str:CallR X (.builtin "len") (fun xs H Q=>∃ z,xs=[.str z]∧z.length≤sizeLine∧Q (.int z.length) H):=by
 intro pins s σ H xs us Q I r h
 obtain ⟨z,rfl,hz,q⟩:=h
 obtain ⟨u,rfl,t,rfl⟩:=vals1 r
 have hn:=line63
 exact len_str (by omega) ⟨.int z.length,H,I.tok _,⟨_,rfl⟩,q⟩
theorem call_tuple_of:CallR X (.type "tuple") (fun xs H Q=>∃ p ys,xs=[.ref p]∧((SqL X.K H p ys∧∀ l,H l=none→Q (.ref l) (upd H l (.tup ys))) ∨ (SqT X.K H p ys∧Q (.ref p) H))):=by
 intro pins s σ H xs us Q I r h
 obtain ⟨p,ys,rfl,h⟩:=h
 obtain ⟨u,rfl,rx⟩:=vals1 r
 cases rx
 rcases h with ⟨hq,q⟩ | ⟨hq,q⟩
 ·obtain ⟨its,r',pl,hz⟩:=I.list hq
  have hlen:=r'.length
  refine call_tuple_list pl.isList (fun h' kp=>?_) (by simp only [List.size_toArray] <;> omega)
  have I1:Inv X pins σ H { s with heap:=h' }:=I.kept (t':=s.toks) kp
  have I2:Inv X pins σ (upd H h'.objs.size (.tup ys)) { s with heap:=h'.push { cls:=.type "tuple",data:=.seq its.toArray } }:=
   I1.laid (t':=s.toks) (fun b o e=>Heap.get?_push_of_some _ e) (Nat.le_refl _) (show ObjOk X.prog X.w _ _ _ (.tup ys) from ⟨hz,its,r',IsTup.new _ _⟩)
  exact ⟨.ref h'.objs.size,_,I2,rfl,q _ (I1.hok.fresh (Nat.le_refl _))⟩
 ·obtain ⟨its,r',pl,hz⟩:=I.tuple hq
  exact call_tuple_same pl ⟨.ref p,H,I,rfl,q⟩
noncomputable def tyV (K:PySem.W.Frag) (T:String) (x:V) (H:Hp):Prop:=match x with
 | .str _=>T = "str"
 | .int _=>T = "int"
 | .ref p=>(T = "list"∧∃ xs,SqL K H p xs) ∨ (T = "tuple"∧∃ o,K.lookup p=some o∧o.cls=.type "tuple"∧o.dict=none) ∨
   (T = "dict"∧((∃ kvs,H p=some (.dK kvs)) ∨ ∃ kvs,H p=some (.dT kvs))) ∨ (T = "set"∧∃ S n,H p=some (.set S n))
 | _=>False
theorem tyV_is {pins:List (Addr × Obj)} {σ:St} {H:Hp} {s:Shared} {T:String} {x:V} {v:Value} (I:Inv X pins σ H s) (r:RelV x v) (ty:tyV X.K T x H):
  s.TypeIs v T∧∀ a,v=.ref a→∃ ob,s.heap.get? a=some ob∧ob.dict=none:=by
 cases x with
 | str z=>
  obtain ⟨t,rfl⟩:=r
  cases (show T = "str" from ty)
  exact ⟨typeIs_str s z t,fun _ e=>nomatch e⟩
 | int i=>
  obtain ⟨t,rfl⟩:=r
  cases (show T = "int" from ty)
  exact ⟨typeIs_int s i t,fun _ e=>nomatch e⟩
 | ref p=>
  cases r
  rcases ty with ⟨rfl,xs,hq⟩ | ⟨rfl,o,hk,hc,hd⟩ | ⟨rfl,hk⟩ | ⟨rfl,S,n,hk⟩
  ·obtain ⟨its,_,pl,_⟩:=I.list hq
   refine ⟨pl.isList.typeIs,fun a e=>?_⟩
   cases e
   obtain ⟨o,n,e,c,hd,_⟩:=pl
   exact ⟨o,e,hd⟩
  ·refine ⟨⟨o,I.kIn p o hk,hc⟩,fun a e=>?_⟩
   cases e
   exact ⟨o,I.kIn _ o hk,hd⟩
  ·have z:∃ o,s.heap.get? p=some o∧o.ExactDict:=by
    rcases hk with ⟨kvs,hk⟩ | ⟨kvs,hk⟩
    ·obtain ⟨_,_,_,_,o,_,_,e,ex,_⟩:=I.hok p _ hk
     exact ⟨o,e,ex⟩
    ·obtain ⟨_,_,_,_,o,_,_,e,ex,_⟩:=I.hok p _ hk
     exact ⟨o,e,ex⟩
   obtain ⟨o,e,ex⟩:=z
   refine ⟨⟨o,e,ex.1⟩,fun a e2=>?_⟩
   cases e2
   exact ⟨o,e,ex.2.1⟩
  ·obtain ⟨o,_,_,_,e,ex,_⟩:=I.hok p _ hk
   refine ⟨⟨o,e,ex.1⟩,fun a e2=>?_⟩
   cases e2
   exact ⟨o,e,ex.2.1⟩
 | _=>exact False.elim ty
noncomputable def tBM0 (K:PySem.W.Frag) (T:String) (r:V→List V→Hp→VK→Prop) (to:TE):TE:=fun σ H Q=>to σ H fun x H1=>tyV K T x H1∧r x [] H1 Q
noncomputable def tBM (K:PySem.W.Frag) (T:String) (r:V→List V→Hp→VK→Prop) (to:TE) (t:TA):TE:=fun σ H Q=>to σ H fun x H1=>tyV K T x H1∧t σ H1 fun xs H2=>r x xs H2 Q
variable {o e:Expr} {es:List Expr} {to:TE} {t:TA} {name:Str} {apos cpos:Pos} {T id:String} {r:V→List V→Hp→VK→Prop}
theorem pe_bm0 (pa:PlainAttrs T) (slot:Slot T name id) (hty:typeOf (.builtin id)=pure (.type "method_descriptor")) (hm:MtR X id r) (ho:PE X o to)
  (hbase:autoParam (attributeBase o name X.env (eval o X.env)=eval o X.env) Au.h1._auto_1) (hline:autoParam ((apos.endLine == cpos.line)=true) Au.h1._auto_1):PE X (.Call (.Attribute o name apos) [] [] cpos) (tBM0 X.K T r to):=by
 intro pins s σ H Q I h
 refine wpAny_Call_method0_late hbase hline (thn (ho pins s σ H _ I h) fun v s1 zq=>?_)
 obtain ⟨x,H1,I1,r1,ty,q1⟩:=zq
 obtain ⟨h1,h2⟩:=tyV_is I1 r1 ty
 exact ⟨T,id,pa,slot,hty,h1,h2,Calls.callWith_builtin rfl (PySem.evalArgs_none (hm pins s1 σ H1 x [] v [] Q I1 r1 .nil q1))⟩
theorem pe_bm (pa:PlainAttrs T) (slot:Slot T name id) (hty:typeOf (.builtin id)=pure (.type "method_descriptor")) (hm:MtR X id r) (ho:PE X o to) (ha:PA X (e :: es) t)
  (hbase:autoParam (attributeBase o name X.env (eval o X.env)=eval o X.env) Au.h1._auto_1)
  (hfew:autoParam (((backTo cpos (starEach (e :: es) X.env)).all (fun x=>!x.1) && (backToKw cpos (keywordEach [] X.env)).all (fun x=>x.1.isSome)
   && decide ((e :: es).length + ([]:List Keyword).length + (if ([]:List Keyword).isEmpty then 0 else 1) < 30))=true) Au.h1._auto_1)
  (hline:autoParam ((apos.endLine == cpos.line)=true) Au.h1._auto_1) (hs:autoParam (starEach (e :: es) X.env=(false,eval e X.env) :: starEach es X.env) Au.h1._auto_1) (hplain:autoParam ((backTo cpos (starEach es X.env)).any (·.1)=false) Au.h1._auto_1):
  PE X (.Call (.Attribute o name apos) (e :: es) [] cpos) (tBM X.K T r to t):=by
 intro pins s σ H Q I h
 refine wpAny_Call_method_late hbase hfew hline rfl (thn (ho pins s σ H _ I h) fun v s1 zq=>?_)
 obtain ⟨x,H1,I1,r1,ty,q1⟩:=zq
 obtain ⟨h1,h2⟩:=tyV_is I1 r1 ty
 refine ⟨T,id,pa,slot,hty,h1,h2,?_⟩
 have hA:=ha cpos pins s1 σ H1 _ I1 q1
 rw [hs] at hA ⊢
 refine Calls.callWith_builtin (by show (false || (backTo cpos (starEach es X.env)).any (·.1))=false; rw [hplain] <;> rfl) (Calls.evalArgs_plain ?_)
 exact thn hA fun us s2 zq=>ex5 zq fun vs H2 I2 r2 q2=>hm pins s2 σ H2 x vs v us Q I2 r1 r2 q2
end
end L2
namespace L2
open PySem PySem.Spec PyProof.Rows
noncomputable def MtM (X:Cx) (id:String) (r:V→List V→Hp→VK→Prop):Prop:=
 ∀ (pins:List (Addr × Obj)) (s:Shared) (σ:St) (H:Hp) (x:V) (xs:List V) (v:Value) (us:List Value) (Q:VK),Inv X pins σ H s→RelV x v→Vals xs us→r x xs H Q→
  wpAny (model X.prog X.w) X.A (call (.builtin id) (v :: us)) (EP X pins σ Q) X.xe s
theorem Vals.one:∀ {x:V} {us:List Value},Vals [x] us→∃ u,us=[u]∧RelV x u
 | _,_,.cons r .nil=>⟨_,rfl,r⟩
theorem Vals.zero:∀ {us:List Value},Vals [] us→us=[]
 | _,.nil=>rfl
theorem Vals.dropLast {xs:List V} {us:List Value} (h:Vals xs us):Vals xs.dropLast us.dropLast:=by
 induction h with
 | nil=>exact .nil
 | cons r t ih=>
  cases t with
  | nil=>exact .nil
  | cons q t'=>exact .cons r ih
theorem Vals.rep {xs:List V} {us:List Value} (h:Vals xs us):∀ k:Nat,Vals (List.replicate k xs).flatten (List.replicate k us).flatten
 | 0=>.nil
 | k + 1=>by
  rw [List.replicate_succ,List.replicate_succ,List.flatten_cons,List.flatten_cons]
  exact Vals.append h (Vals.rep h k)
theorem erase_last {α:Type} (l:List α):l.eraseIdx (l.length - 1)=l.dropLast:=by
 induction l with
 | nil=>rfl
 | cons a r ih=>
  cases r with
  | nil=>rfl
  | cons b r=>
   have e:(a :: b :: r).length - 1=((b :: r).length - 1) + 1:=by
    have h1:(a :: b :: r).length=r.length + 2:=rfl
    have h2:(b :: r).length=r.length + 1:=rfl
    omega
   rw [e,List.eraseIdx_cons_succ,ih]
   all_goals rfl
theorem foldl_rep (its:List Value):∀ (k:Nat) (acc:List Value),
  List.foldl (fun x1 x2=>x1 ++ x2) acc.toArray (List.replicate k its.toArray)=(acc ++ (List.replicate k its).flatten).toArray
 | 0,acc=>by simp
 | k + 1,acc=>by
  have e:acc.toArray ++ its.toArray=(acc ++ its).toArray:=by simp
  have e2:(acc ++ its) ++ (List.replicate k its).flatten=acc ++ (List.replicate (k + 1) its).flatten:=by
   rw [List.replicate_succ,List.flatten_cons,List.append_assoc]
  rw [← e2,← foldl_rep its k (acc ++ its),← e,List.replicate_succ,List.foldl_cons]
section
variable {X:Cx} {pins:List (Addr × Obj)} {σ:St} {H:Hp} {s:Shared} {l b:Addr} {xs ys zs:List V}
theorem Inv.lset {its its':List Value} {n:Nat} {f:Array Value→Array Value} {t':Nat} (I:Inv X pins σ H s) (hH:H l=some (.lst xs))
  (e:s.heap.get? l=some { cls:=.type "list",data:=.seq its.toArray n }) (hf:f its.toArray=its'.toArray) (hv:Vals ys its') (hz:ys.length≤sizeLine):
  Inv X pins σ (upd H l (.lst ys)) { s with heap:=s.heap.update l (Obj.mapSeq f),toks:=t' }:=by
 have q:=PySem.IsL.update e f
 rw [hf] at q
 refine I.write (x:=l) (e:=l) (by rw [hH]; exact trivial) (.inl rfl) (fun b' u hb hu=>(Heap.get?_update_other s.heap (Obj.mapSeq f) (Ne.symm hb)).trans hu) ⟨_,q⟩ ?_
 exact ⟨hz,its',_,hv,q⟩
theorem Inv.lnew {its:List Value} {t':Nat} (I:Inv X pins σ H s) (hv:Vals ys its) (hz:ys.length≤sizeLine):
  Inv X pins σ (upd H s.heap.objs.size (.lst ys)) { s with heap:=s.heap.push { cls:=.type "list",data:=.seq its.toArray },toks:=t' }:=
 I.laid (fun _ _ q=>Heap.get?_push_of_some _ q) (Nat.le_refl _) ⟨hz,its,0,hv,Heap.get?_push_size _ rfl⟩
theorem Inv.fresh (I:Inv X pins σ H s):H s.heap.objs.size=none:=I.hok.fresh (Nat.le_refl _)
theorem Inv.lstM (I:Inv X pins σ H s) (hH:H l=some (.lst xs)):xs.length≤sizeLine∧∃ (its:List Value) (n:Nat),Vals xs its∧xs.length=its.length∧s.heap.get? l=some { cls:=.type "list",data:=.seq its.toArray n }:=by
 obtain ⟨z,its,n,r,e⟩:=I.hok l _ hH
 exact ⟨z,its,n,r,r.length,e⟩
theorem notLongL {n:Nat} (h:n≤sizeLine):Builtin.List.listTooLong n=false:=by
 unfold Builtin.List.listTooLong
 exact decide_eq_false (by omega)
end
section
variable {X:Cx}
noncomputable def rAppend:V→List V→Hp→VK→Prop:=fun x vs H Q=>∃ l xs y,x=.ref l∧vs=[y]∧H l=some (.lst xs)∧xs.length < sizeLine∧Q .non (upd H l (.lst (xs ++ [y])))
theorem mt_append:MtM X "list.append" rAppend:=by
 intro pins s σ H x vs v us Q I rx rv h
 obtain ⟨l,xs,y,rfl,rfl,hH,hz,q⟩:=h
 cases rx
 obtain ⟨u,rfl,ru⟩:=rv.one
 obtain ⟨z,its,n,r,hl,e⟩:=I.lstM hH
 refine call_meets F.slot_list_append ⟨_,e,rfl⟩ F.entry_list_append (F.args_list_append_2 _ _) (PySem.list_append l its.toArray n u (by rw [List.size_toArray]; omega)) ⟨e,?_⟩
 refine ⟨.non,_,I.lset (its':=its ++ [u]) hH e (by simp) (r.append (.cons ru .nil)) ?_,rfl,q⟩
 rw [List.length_append,List.length_singleton]
 omega
noncomputable def rPop:V→List V→Hp→VK→Prop:=fun x vs H Q=>∃ l xs y,x=.ref l∧vs=[]∧H l=some (.lst xs)∧xs[xs.length - 1]?=some y∧Q y (upd H l (.lst xs.dropLast))
theorem mt_pop:MtM X "list.pop" rPop:=by
 intro pins s σ H x vs v us Q I rx rv h
 obtain ⟨l,xs,y,rfl,rfl,hH,hy,q⟩:=h
 cases rx
 have hus:=rv.zero
 subst hus
 obtain ⟨z,its,n,r,hl,e⟩:=I.lstM hH
 obtain ⟨u,hu,ru⟩:=r.get hy
 have hy':its.toArray[its.toArray.size - 1]?=some u:=by
  show its.toArray[its.length - 1]?=some u
  rw [← Array.getElem?_toList,← hl]
  exact hu
 refine call_meets F.slot_list_pop ⟨_,e,rfl⟩ F.entry_list_pop (F.args_list_pop_1 _) (MeetsSeq.list_pop_last l its.toArray n u hy' (by rw [List.size_toArray]; omega)) ⟨e,?_⟩
 refine ⟨y,_,I.lset (its':=its.dropLast) hH e ?_ r.dropLast ?_,ru,q⟩
 ·show its.toArray.eraseIdxIfInBounds (its.toArray.size - 1)=its.dropLast.toArray
  rw [List.size_toArray,List.eraseIdxIfInBounds_toArray,erase_last]
 ·rw [List.length_dropLast]
  omega
noncomputable def rCat:R2:=fun x y H Q=>∃ l b xs zs,x=.ref l∧y=.ref b∧H l=some (.lst xs)∧H b=some (.lst zs)∧xs.length + zs.length≤sizeLine∧∀ p,H p=none→Q (.ref p) (upd H p (.lst (xs ++ zs)))
theorem op_cat:OpR X (binaryOp .Add) rCat:=by
 intro pins s σ H x y v u Q I rx ry h
 obtain ⟨l,b,xs,zs,rfl,rfl,hH,hB,hz,q⟩:=h
 cases rx
 cases ry
 obtain ⟨z,its,n,r,hl,e⟩:=I.lstM hH
 obtain ⟨z2,its2,n2,r2,hl2,e2⟩:=I.lstM hB
 refine PySem.P.add_list e e2 ?_ (by rw [List.size_toArray,List.size_toArray]; omega)
 have ea:its.toArray ++ its2.toArray=(its ++ its2).toArray:=by simp
 rw [ea]
 exact ⟨.ref _,_,I.lnew (t':=s.toks) (r.append r2) (by rw [List.length_append]; omega),rfl,q _ I.fresh⟩
noncomputable def rRep:R2:=fun x y H Q=>∃ l k xs,x=.ref l∧y=.int k∧H l=some (.lst xs)∧-(2 ^ 63)≤k∧k < 2 ^ 63∧xs.length * k.toNat≤sizeLine∧
 ∀ p,H p=none→Q (.ref p) (upd H p (.lst (List.replicate k.toNat xs).flatten))
theorem len_rep {α:Type} (xs:List α) (k:Nat):(List.replicate k xs).flatten.length=k * xs.length:=by
 induction k with
 | zero=>simp
 | succ k ih=>rw [List.replicate_succ,List.flatten_cons,List.length_append,ih,Nat.succ_mul,Nat.add_comm]
theorem op_rep:OpR X (binaryOp .Mult) rRep:=by
 intro pins s σ H x y v u Q I rx ry h
 obtain ⟨l,k,xs,rfl,rfl,hH,h1,h2,hz,q⟩:=h
 cases rx
 obtain ⟨t,rfl⟩:=ry
 obtain ⟨z,its,n,r,hl,e⟩:=I.lstM hH
 have hlen:its.toArray.size * k.toNat≤sizeLine:=by rw [List.size_toArray,← hl]; exact hz
 have hcap:¬ its.toArray.size * k.toNat > (2 ^ 63 - 1) / 8:=by
  have:(sizeLine:Nat)≤(2 ^ 63 - 1) / 8:=by decide
  omega
 have hfit:¬ (!Builtin.List.listFitsIndex k)=true:=by
  rw [fitsIndex_both h1 h2]
  exact Bool.false_ne_true
 have hlong:¬ Builtin.List.listTooLong (its.toArray.size * k.toNat)=true:=by
  rw [notLongL hlen]
  exact Bool.false_ne_true
 have hnew:List.foldl (fun x1 x2=>x1 ++ x2) #[] (List.replicate (if its.toArray.isEmpty=true then 0 else k.toNat) its.toArray)=(List.replicate k.toNat its).flatten.toArray:=by
  have f0:∀ m:Nat,List.foldl (fun x1 x2=>x1 ++ x2) #[] (List.replicate m its.toArray)=(List.replicate m its).flatten.toArray:=fun m=>by
   have:=foldl_rep its m []
   rw [List.nil_append] at this
   exact this
  rw [f0]
  cases its with
  | nil=>simp
  | cons a r'=>rw [if_neg (by simp)]
 refine wpAny_binaryOp_repeat_ref (T:="list") (U:="int") (by decide) ⟨_,e,rfl⟩ (fun s'=>typeIs_int s' k t) noFill_list_mul F.fills_int_mul F.slot_int_rmul repeat_list F.slot_int_index.lookup
  (call_meets F.slot_int_rmul (typeIs_int s k t) F.entry_int_rmul (F.args_int_rmul_2 _ _) (int___rmul___int_list k t l its.toArray n)
   ⟨e,rfl,⟨_,e,rfl⟩,call_meets F.slot_list_mul ⟨_,e,rfl⟩ F.entry_list_mul (F.args_list_mul_2 _ _) (AutoListH.list___mul___list_int_3 l its.toArray n k t hfit hcap hlong) ⟨e,?_⟩⟩)
 rw [hnew]
 exact ⟨.ref _,_,I.lnew (t':=s.toks) (r.rep k.toNat) (by rw [len_rep,Nat.mul_comm]; exact hz),rfl,q _ I.fresh⟩
end
section
variable {prog:Program} {w:World} {A:Around} {E:Value→Shared→Prop} {s:Shared}
end
section
variable {X:Cx}
end
end L2
namespace L2
open PySem PySem.Spec PyProof.Rows
section
variable {κ:Type} [DecidableEq κ]
theorem KV.length {kvs:List (κ × V)} {vs:List (κ × Value)} (r:KV kvs vs):kvs.length=vs.length:=Paired.length r
end
section
variable {P:Program} {w:World} {H:Hp} {h:Heap} {a:Addr}
theorem rd_of {u:HO} (ok:HOk P w H h) (e:Rd H a u):ObjOk P w H h a u:=e.ok ok
theorem dk_rd {kvs:List (Key × V)} (ok:HOk P w H h) (e:Rd H a (.dK kvs)):kvs.length≤sizeLine∧(a == sysModules)=false∧∃ vs,KV kvs vs∧h.DictOf (mixKind P w) a vs:=
 show ObjOk P w H h a (.dK kvs) from rd_of ok e
end
section
variable {X:Cx} {pins:List (Addr × Obj)} {σ:St} {H:Hp} {s:Shared} {a:Addr} {y v:V} {u r:Value} {o:Option V} {A:Around} {E:Value→Shared→Prop}
end
section
variable {X:Cx} {pins:List (Addr × Obj)} {σ:St} {H:Hp} {s:Shared} {a:Addr} {kvs:List (Key × V)} {k:Key} {u:Value} {A:Around} {E:Value→Shared→Prop}
theorem d_len {Q:Value→Shared→Prop} (I:Inv X pins σ H s) (e:Rd H a (.dK kvs)) (h:∀ t s',Inv X pins σ H s'→Q (.int kvs.length t) s'):wpAny (model X.prog X.w) A (call (.builtin "len") [.ref a]) Q E s:=by
 obtain ⟨z,hd,vs,rel,dd⟩:=dk_rd I.hok e
 refine call_len_dict hd dd (by rw [← rel.length]; rw [sizeLine_eq] at z; omega) ?_
 rw [← rel.length]
 exact h _ _ (I.tok _)
end
section
variable {X:Cx} {o i e value:Expr} {pos pos' tpos:Pos} {td ty tv:TE}
end
section
variable {X:Cx} {pos:Pos}
end
section
variable {X:Cx} {pins:List (Addr × Obj)} {σ:St} {H:Hp} {s:Shared} {a:Addr} {y d:V} {u r:Value} {o:Option V} {A:Around} {E:Value→Shared→Prop}
end
section
variable {X:Cx} {o e f:Expr} {apos cpos:Pos} {td ty tx:TE}
end
section
variable {X:Cx} {pins:List (Addr × Obj)} {σ:St} {H:Hp} {s:Shared} {a:Addr} {kvs:List (Key × V)} {A:Around} {E:Value→Shared→Prop}
end
section
variable {X:Cx} {pins:List (Addr × Obj)} {σ:St} {H:Hp} {s:Shared} {a:Addr} {y:V} {u:Value} {A:Around} {E:Value→Shared→Prop}
end
end L2
namespace Att
open PySem PySem.W PySem.Calls PyProof.Rows
theorem ints_of_wellAll {P:Params} {h:Heap}:∀ (ns:List Int) (vs:List Value),WellAll P h vs (ns.map WData.int)→IntsAre vs ns:=by
 intro ns
 induction ns with
 | nil=>
  intro vs w
  rw [List.map_nil] at w
  cases w
  exact .nil
 | cons n ns ih=>
  intro vs w
  rw [List.map_cons] at w
  cases w with
  | cons a b=>
   cases a
   exact .cons _ _ (ih _ b)
theorem script_of {l:OpenLaw} {n:Nat} (hn:l.most=some n) {P:Params} {h:Heap} {args:List WData} {vals:List Value}
  (hpre:l.row.toRowW.claim.pre args=true) (hwl:WellAll P h vals args):
  ∃ a vs ns,vals=[Value.ref a]∧args=[WData.list (ns.map WData.int)]∧h.get? a=some { cls:=.type "list",data:=.seq vs.toArray }∧IntsAre vs ns∧ns.length≤n:=by
 have hsh:WShape.hasAll [] args [.list .int]=true:=(pre_splitW hpre).1
 have hc:l.pre.holds [] { args:=args }=true:=(pre_splitW hpre).2
 obtain ⟨d,r,rfl,h1,h2⟩:=hasAllW_cons hsh
 obtain rfl:=hasAllW_nil h2
 obtain ⟨xs,rfl,h3⟩:=hasW_list h1
 obtain ⟨ns,rfl⟩:=items_int h3
 have hlen:ns.length≤n:=by
  unfold OpenLaw.pre at hc
  have h4:(WTm.not (.lt (.lit (.int (n:Int))) (.len (.arg 0)))).holds [] { args:=[.list (ns.map .int)] }=true:=by
   have h4:=(holds_andW hc).1
   rw [hn] at h4
   exact h4
  have h5:=condW_of h4 (w_not (w_lt w_lit (w_len_list (w_arg rfl))))
  rw [List.length_map] at h5
  refine Nat.le_of_not_lt fun q=>?_
  have q':(n:Int) < ((ns.length:Nat):Int):=by omega
  first
   | (rw [decide_eq_true q'] at h5; exact absurd h5 (by decide))
   | (simp at h5; omega)
 cases hwl with
 | cons w1 w2=>
  cases w2
  cases w1 with
  | list ho hall=>exact ⟨_,_,ns,rfl,rfl,ho,ints_of_wellAll ns _ hall,hlen⟩
theorem post_true (l:OpenLaw) (args:List WData):l.row.toRowW.claim.post args (.bool true) args=true:=
 postW_of (r:=l.row.toRowW) (X:=(true == true))
  (show WShape.has [] (.bool true) .bool=true by first | rfl | decide | simp [WShape.has,WShape.arms,WShape.armsAll])
  (show (WTm.eq .res (.lit (.bool true))).value [] { args:=args,res:=some (.bool true),after:=args }=some (.bool (true == true)) from w_eq_bool (w_res rfl) w_lit) rfl
theorem attach_call {l:OpenLaw} {n:Nat} {q:Program} {loose:List Str} {XP:(Str→Option Value)→Heap→Prop} {YP:World→Heap→Prop} {d:DefRec}
  (hn:l.most=some n) (hdf:d.params.defaults=[])
  (call:∀ (w:World) (s₀ s₁:Shared) (mg mb:Str→Option Value) (fa:Addr) (o:Obj) (pm cd doc:Value) (a:Addr) (vs:List Value) (ns:List Int),
   Ground q loose [] XP w s₀ mg mb s₁.heap→YP w s₁.heap→
   s₁.heap.get? fa=some o→o.data=.func (docDef d.name d.params d.body d.scope pm cd doc)→s₁.heap.CodeRec cd d.name→mg d.name=some (.ref fa)→
   s₁.heap.get? a=some { cls:=.type "list",data:=.seq vs.toArray }→IntsAre vs ns→ns.length≤n→s₁.gens = #[]→
   codeAny (model l.prog w) callerA (.call (.ref fa) ⟨[.ref a],[]⟩) (fun r s'=>r=.ok (.ret (.bool true))∧OldK s₁.heap s'.heap∧s'.os=s₁.os∧AllBare s'.gens) s₁):
  WalkO q loose XP YP l.row.toRowW d [] (fun f vs=>PySem.call f vs):=by
 intro w s₀ s₁ mg mb G Y fa o pm cd doc dV kV ho hd hcd hD hmg hg args vals as hpre hlay hrd hwl hlo
 obtain rfl:dV=.none:=Dflts.none hD hdf
 obtain rfl:kV=.none:=Dflts.noKw hD
 obtain ⟨a,vs,ns,rfl,rfl,hobj,hints,hlen⟩:=script_of hn hpre hwl
 refine enter_call (codeAny_mono (call w s₀ s₁ mg mb fa o pm cd doc a vs ns G Y ho (fd_plain hd) hcd hmg hobj hints hlen hg) fun r s' hq=>?_)
 obtain ⟨rfl,h2,h3,h4⟩:=hq
 exact ⟨.inl ⟨.bool true,.bool true,[],rfl,fun _=>rfl,.bool true,post_true l _,fun _=>⟨List.Pairwise.nil,fun _ hm=>(nomatch hm)⟩⟩,h2,h3,h4⟩
section
variable {prog:Program} {w:World} {A:Around} {E:Value→Shared→Prop} {s:Shared} {K:Frag}
end
end Att
namespace L2
open PySem PySem.Spec PyProof.Rows
theorem vals_ints:∀ {vs:List Value} {ns:List Int},IntsAre vs ns→Vals (ns.map V.int) vs
 | _,_,.nil=>.nil
 | _,_,.cons n t h=>.cons ⟨t,rfl⟩ (vals_ints h)
noncomputable def Only (H:Hp):Prop:=∀ b,H b=none ∨ ∃ o xs,H b=some (.frz o (.lst xs))
theorem law_call {P:Program} {w:World} {K:PySem.W.Frag} {mg mb:Str→Option Value} {CX:CXT} {k:Nat} {fa a:Addr} {fd:FuncData} {x:Str} {sp:Sp} {s₁:Shared} {vs:List Value} {ns:List Int}
  (KX:K.In s₁.heap) (hns:s₁.heap.Ns mainGlobals mg) (hb:s₁.heap.Ns builtinsNs mb) (hbb:∀ x:Str,x ≠ "__name__"→mb x=bootBuiltins x) (hlim:s₁.heap.NoLimit) (hg:s₁.gens = #[])
  (ha:s₁.heap.get? a=some { cls:=.type "list",data:=.seq vs.toArray }) (hi:IntsAre vs ns) (hl:ns.length≤sizeLine) (hr:Room k callerA)
  (F:∀ base:Heap,K.In base→base.Ns mainGlobals mg→FnOk P w K mg base CX k fa fd [x] sp) (hbind:∀ (s:Shared) (u:Value),BindsTo s fd ⟨[u],[]⟩ [(x,u)])
  (hsp:∀ H:Hp,Only H→SqL K H a (ns.map V.int)→sp [.ref a] H (fun v _=>v=.bl true) fun _ _ _=>False)
  (hCX:∀ H e s',CX [] H s₁ (fun _ _ _=>False) e s'→False):
  codeAny (model P w) callerA (.call (.ref fa) ⟨[.ref a],[]⟩) (fun r s'=>r=.ok (.ret (.bool true))∧OldK s₁.heap s'.heap∧s'.os=s₁.os∧AllBare s'.gens) s₁:=by
 have rv:=vals_ints hi
 have lenV:=hi.length
 -- from an abstract heap in which nothing but the script may be tracked
 have core:∀ H:Hp,Only H→SqL K H a (ns.map V.int)→HOk P w H s₁.heap→(∀ b,H b ≠ none→b=a)→(H a ≠ none→K.lookup a=none)→
   codeAny (model P w) callerA (.call (.ref fa) ⟨[.ref a],[]⟩) (fun r s'=>r=.ok (.ret (.bool true))∧OldK s₁.heap s'.heap∧s'.os=s₁.os∧AllBare s'.gens) s₁:=by
  intro H hO hS hok hA hK
  have base_of:∀ {b:Addr} {o:Obj},s₁.heap.get? b=some o→H b=none→(hidT s₁.heap H).get? b=some o:=fun e n=>hidT_get e n
  have noA:∀ {b:Addr} {o:Obj} {es:Array DictEntry} {ep:Nat},s₁.heap.get? b=some o→o.data=.dict es ep→H b=none:=fun {b o es ep} e d=>by
   cases q:H b with
   | none=>rfl
   | some u=>
    have e':b=a:=hA b (by rw [q]; simp)
    subst e'
    rw [ha] at e; cases e
    have d':Data.seq vs.toArray _=Data.dict es ep:=d
    cases d'
  have nsK:∀ {b:Addr} {m:Str→Option Value},s₁.heap.Ns b m→(hidT s₁.heap H).Ns b m:=fun {b m} ⟨o,es,ep,e,d,r⟩=>⟨o,es,ep,base_of e (noA e d),d,r⟩
  have hKb:K.In (hidT s₁.heap H):=fun b o e=>base_of (KX b o e) (by
   cases q:H b with
   | none=>rfl
   | some u=>
    have e':b=a:=hA b (by rw [q]; simp)
    subst e'
    rw [hK (by rw [q]; simp)] at e; cases e)
  have hM:Mod K mg (hidT s₁.heap H):=⟨hKb,nsK hns,⟨mb,nsK hb,hbb⟩,let ⟨mc,h1,h2⟩:=hlim; ⟨mc,nsK h1,h2⟩⟩
  have e0:Env0 P w K mg (hidT s₁.heap H) callerA [] s₁ H:=⟨rfl,hM,fun b o e=>of_hidT e,Nat.le_of_eq (hidT_size _ _),trivial,fun b hb=>absurd (show b ∈ ([]:List Addr) from hb) (by simp),hok,.of_eq hg⟩
  refine codeAny_mono ((F _ hKb (nsK hns)).run callerA [] s₁ H ⟨[.ref a],[]⟩ [.ref a] [.ref a] _ _ hr e0 (hbind s₁ (.ref a)) (.cons rfl .nil) (hsp H hO hS)) fun r s' h=>?_
  cases r with
  | error e=>exact (hCX H e s' h).elim
  | ok fl=>
   cases fl with
   | next=>exact False.elim h
   | brk=>exact False.elim h
   | cont=>exact False.elim h
   | ret u=>
    obtain ⟨v,H',os,bare,un,hok',r',q⟩:=h
    have q':v=.bl true:=q
    subst q'
    obtain rfl:u=Value.bool true:=r'
    refine ⟨rfl,OldK.of_keep fun b o e=>?_,os,bare⟩
    cases q:H b with
    | none=>exact un.keep b o e q (by intro z; exact absurd (show b ∈ ([]:List Addr) from z) (by simp)) (by simp)
    | some u=>
     rcases hO b with z | ⟨ob,xs,z⟩
     ·rw [q] at z; cases z
     ·have z2:=un.frzs b ob _ z
      obtain ⟨e1,_⟩:=hok b _ z
      obtain ⟨e2,_⟩:=hok' b _ z2
      rw [e] at e1; cases e1
      exact e2
 cases hk:K.lookup a with
 | some o=>
  -- the script is one of the module's own objects
  have e:=KX a o hk
  rw [ha] at e
  cases e
  refine core (fun _=>none) (fun _=>.inl rfl) (.inr ⟨_,vs.toArray,_,hk,rfl,rfl,rfl,by rw [List.size_toArray,lenV]; exact hl,by simpa using rv⟩) (fun b u z=>by have z':(none:Option HO)=some u:=z; cases z') (fun b z=>absurd rfl z) fun z=>absurd rfl z
 | none=>
  refine core (fun b=>if b=a then some (.frz { cls:=.type "list",data:=.seq vs.toArray } (.lst (ns.map V.int))) else none) (fun b=>?_) (.inl (.inr ⟨{ cls:=.type "list",data:=.seq vs.toArray },if_pos rfl⟩)) (fun b u z=>?_) (fun b z=>?_) fun _=>hk
  ·by_cases hb:b=a
   ·exact .inr ⟨_,_,if_pos hb⟩
   ·exact .inl (if_neg hb)
  ·by_cases hb:b=a
   ·have z':=(if_pos hb).symm.trans z
    cases z'
    subst hb
    exact ⟨ha,by rw [List.length_map]; exact hl,vs,_,rv,ha⟩
   ·have z':=(if_neg hb).symm.trans z
    cases z'
  ·by_cases hb:b=a
   ·exact hb
   ·exact absurd (if_neg hb) z
end L2
namespace L2
open PySem PySem.Spec PyProof.Rows
theorem walk_of {l:PySem.W.OpenLaw} {n k:Nat} {q:Program} {loose:List Str} {XP:(Str→Option Value)→Heap→Prop} {YP:World→Heap→Prop} {d:DefRec} {K:Params→PySem.W.Frag} {CX:World→CXT} {sp:World→Sp} {x:Str}
  (hn:l.most=some n) (hn2:n≤sizeLine) (hdf:d.params.defaults=[]) (hr:Room k callerA)
  (hY:∀ (w:World) (h:Heap),YP w h→(K w.params).In h)
  (F:∀ (w:World) (mg:Str→Option Value) (fa:Addr) (h:Heap),(K w.params).In h→h.Ns mainGlobals mg→mg d.name=some (.ref fa)→
   ∃ fd:FuncData,(∀ (s:Shared) (u:Value),BindsTo s fd ⟨[u],[]⟩ [(x,u)])∧
    ∀ base:Heap,(K w.params).In base→base.Ns mainGlobals mg→FnOk l.prog w (K w.params) mg base (CX w) k fa fd [x] (sp w))
  (hsp:∀ (w:World) (H:Hp) (a:Addr) (ns:List Int),ns.length≤n→Only H→SqL (K w.params) H a (ns.map V.int)→sp w [.ref a] H (fun v _=>v=.bl true) fun _ _ _=>False)
  (hCX:∀ (w:World) (H:Hp) (s:Shared) (e:Value) (s':Shared),CX w [] H s (fun _ _ _=>False) e s'→False):
  PySem.W.WalkO q loose XP YP l.row.toRowW d [] (fun f vs=>PySem.call f vs):=by
 refine Att.attach_call hn hdf fun w s₀ s₁ mg mb fa o pm cd doc a vs ns G Y ho hd hcd hmg hobj hints hlen hg=>?_
 have KX:=hY w _ Y
 obtain ⟨fd,hb,hF⟩:=F w mg fa _ KX G.T.g hmg
 exact law_call KX G.T.g G.T.b G.T.builtins G.T.nolimit hg hobj hints (Nat.le_trans hlen hn2) hr hF hb (fun H hO hS=>hsp w H a ns hlen hO hS) fun H e s'=>hCX w H s₁ e s'
end L2
namespace L2
open PySem PySem.Spec PyProof.Rows
noncomputable def defArgs (s:Stmt):Arguments:=match s with
 | .FunctionDef _ a _ _ _ _ _ _ _ _=>a
 | _=>{ posonlyargs:=[],args:=[],vararg:=none,kwonlyargs:=[],kw_defaults:=[],kwarg:=none,defaults:=[] }
noncomputable def defBody (s:Stmt):List Stmt:=match s with
 | .FunctionDef _ _ b _ _ _ _ _ _ _=>b
 | _=>[]
noncomputable def defScope (s:Stmt):Scope:=match s with
 | .FunctionDef _ _ _ _ _ _ sc _ _ _=>sc
 | _=>{ kind:=.function,names:=[],isGenerator:=false,isCoroutine:=false }
noncomputable abbrev E0:XK:=fun _ _ _=>False
structure Fun (K:PySem.W.Frag) (x qual:Str) (st:Stmt) (f:Addr) (fd:FuncData):Prop where
 ex:∃ (oc:Value) (od:Option Addr) (kV doc pm:Value) (an:Option Addr) (cdv ct:Value) (osl:Array (Option Value)),
  fd=PySem.W.fnOf x qual (defArgs st) (defBody st) (defScope st) .none kV doc pm an cdv ct∧K.lookup f=some ⟨oc,od,.func fd,osl⟩∧PySem.W.codeIn K cdv qual=true
 kp:PySem.W.keepIn K (.ref f)=true
section
variable {P:Program} {w:World} {K:PySem.W.Frag} {mg:Str→Option Value} {base:Heap}
theorem Fun.binds {x qual:Str} {st:Stmt} {f:Addr} {fd:FuncData} {ps:List Str} (F:Fun K x qual st f fd)
  (h:∀ (kV doc pm:Value) (an:Option Addr) (cdv ct:Value) (us:List Value),us.length=ps.length→bindArgs (PySem.W.fnOf x qual (defArgs st) (defBody st) (defScope st) .none kV doc pm an cdv ct) ⟨us,[]⟩=pure (ps.zip us)):Binds K fd ps []:=by
 obtain ⟨oc,od,kV,doc,pm,an,cdv,ct,osl,rfl,lk,hcd⟩:=F.ex
 exact .all (h kV doc pm an cdv ct)
theorem fun_mk {x qual:Str} {st:Stmt} {f:Addr} {oc:Value} {od an:Option Addr} {osl:Array (Option Value)} {kV doc pm cdv ct:Value} (l:K.lookup f=some ⟨oc,od,.func (PySem.W.fnOf x qual (defArgs st) (defBody st) (defScope st) .none kV doc pm an cdv ct),osl⟩)
  (c:PySem.W.codeIn K cdv qual=true) (k:PySem.W.keepIn K (.ref f)=true):Fun K x qual st f (PySem.W.fnOf x qual (defArgs st) (defBody st) (defScope st) .none kV doc pm an cdv ct):=⟨⟨oc,od,kV,doc,pm,an,cdv,ct,osl,rfl,l,c⟩,k⟩
end
section
variable {X:Cx}
theorem pv (i:Nat) {x:Str} {pos:Pos} (hN:autoParam (X.N[i]?=some x) Au.h1._auto_1) (hv:Vis X.env.scope x) (hd:autoParam ((x == ("__debug__":Str))=false) Au.h2._auto_1)
  (hcd:autoParam ((x == ("__classdict__":Str))=false) Au.h2._auto_1):PE X (.Name x pos) (tVar i):=pe_var hN hv hd hcd
end
theorem iteF {A B:Prop} (h:B):if false=true then A else B:=by
 rw [if_neg Bool.false_ne_true]
 exact h
theorem iteT {A B:Prop} (h:A):if true=true then A else B:=by
 rw [if_pos rfl]
 exact h
end L2
namespace L2
open PySem PySem.Spec PyProof.Rows
section
variable {X:Cx}
theorem call_lenD:CallR X (.builtin "len") (fun xs H Q=>∃ a kvs,xs=[V.ref a]∧H a=some (.dK kvs)∧Q (.int kvs.length) H):=by
 intro pins s σ H xs us Q I r h
 obtain ⟨a,kvs,rfl,ha,q⟩:=h
 obtain ⟨u,rfl,ru⟩:=vals1 r
 cases ru
 exact d_len I (.inl ha) fun t s' I'=>⟨.int kvs.length,H,I',⟨t,rfl⟩,q⟩
end
section
variable {κ:Type} [DecidableEq κ]
end
end L2
end
set_option autoImplicit false
namespace PD
open PySem
inductive D where
 | non | bl (b:Bool) | int (i:Int) | str (x:Str)
 | tup (xs:List D) | lst (xs:List D) | fz (xs:List D) | dic (kvs:List (Sum Int Str × D)) | ref (n:Nat) | ty (n:String)
 /-- a caught exception of an own class; an own class -/
 | exc (c:Str) | cls (c:Str)
 deriving Inhabited
inductive SO where
 | lst (xs:List D) | dic (kvs:List (Sum Int Str × D)) | ins (c:Str) (fs:List (Str × D))
 /-- a dict that has been walked: read,changed no more -/
 | fdic (kvs:List (Sum Int Str × D))
 /-- a list that has been walked: read,changed no more -/
 | flst (xs:List D)
 deriving Inhabited
noncomputable abbrev Sto:=List SO
set_option genInjectivity false in
structure XD where
 cls:Str
 arg:D
 deriving Inhabited
inductive R (A:Type) where
 | ok (a:A) (S:Sto) | err (x:XD) (S:Sto) | bad
noncomputable def R.bind {A B:Type} (r:R A) (f:A→Sto→R B):R B:=match r with
 | .ok a S=>f a S | .err x S=>.err x S | .bad=>.bad
theorem R.bind_ok {A B:Type} (a:A) (S:Sto) (f:A→Sto→R B):(R.ok a S).bind f=f a S:=rfl
theorem R.bind_err {A B:Type} (x:XD) (S:Sto) (f:A→Sto→R B):(R.err (A:=A) x S).bind f=.err x S:=rfl
theorem R.bind_bad {A B:Type} (f:A→Sto→R B):(R.bad (A:=A)).bind f=.bad:=rfl
noncomputable def R.of {A:Type} (S:Sto):Option A→R A
 | some a=>.ok a S | none=>.bad
theorem R.of_some {A:Type} (S:Sto) (a:A):R.of S (some a)=.ok a S:=rfl
noncomputable abbrev Rho:=List (Option D)
noncomputable abbrev EM:=Rho→Sto→R D
noncomputable abbrev TM:=Rho→Sto→R Bool
noncomputable abbrev AM:=Rho→Sto→R (List D)
set_option genInjectivity false in
inductive F where
 | nx (r:Rho) | rt (d:D) | bk (r:Rho) | ct (r:Rho)
noncomputable abbrev SM:=Rho→Sto→R F
noncomputable abbrev FM:=List D→Sto→R D
noncomputable def eVar (i:Nat):EM:=fun r S=>match r[i]? with
 | some (some d)=>.ok d S
 | _=>.bad
noncomputable def eC (d:D):EM:=fun _ S=>.ok d S
noncomputable def eUn (f:Sto→D→Option D) (a:EM):EM:=fun r S=>(a r S).bind fun x S1=>R.of S1 (f S1 x)
noncomputable def eOp (f:Sto→D→D→Option D) (a b:EM):EM:=fun r S=>(a r S).bind fun x S1=>(b r S1).bind fun y S2=>R.of S2 (f S2 x y)
noncomputable def eChain (f g:Sto→D→D→Option D) (a b c:EM):EM:=fun r S=>(a r S).bind fun x S1=>(b r S1).bind fun y S2=>match f S2 x y with
 | some (.bl true)=>(c r S2).bind fun z S3=>R.of S3 (g S3 y z)
 | some (.bl false)=>.ok (.bl false) S2
 | _=>.bad
noncomputable def eAnd (a b:EM):EM:=fun r S=>(a r S).bind fun x S1=>match x with
 | .bl true=>b r S1
 | .bl false=>.ok (.bl false) S1
 | _=>.bad
noncomputable def eOr (a b:EM):EM:=fun r S=>(a r S).bind fun x S1=>match x with
 | .bl true=>.ok (.bl true) S1
 | .bl false=>b r S1
 | _=>.bad
noncomputable def eNot (a:EM):EM:=fun r S=>(a r S).bind fun x S1=>match x with
 | .bl b=>.ok (.bl (!b)) S1
 | _=>.bad
noncomputable def eIf (t:TM) (a b:EM):EM:=fun r S=>(t r S).bind fun c S1=>if c=true then a r S1 else b r S1
noncomputable def aNil:AM:=fun _ S=>.ok [] S
noncomputable def aCons (a:EM) (t:AM):AM:=fun r S=>(a r S).bind fun x S1=>(t r S1).bind fun xs S2=>.ok (x :: xs) S2
noncomputable def eTup (t:AM):EM:=fun r S=>(t r S).bind fun xs S1=>if xs.length≤sizeLine then .ok (.tup xs) S1 else .bad
noncomputable def eLst (t:AM):EM:=fun r S=>(t r S).bind fun xs S1=>if xs.length≤sizeLine then .ok (.lst xs) S1 else .bad
noncomputable def eNew (t:AM):EM:=fun r S=>(t r S).bind fun xs S1=>if xs.length≤sizeLine then .ok (.ref S1.length) (S1 ++ [.lst xs]) else .bad
noncomputable def eCall (f:FM) (t:AM):EM:=fun r S=>(t r S).bind fun xs S1=>f xs S1
noncomputable def eB (f:Sto→List D→Option D) (t:AM):EM:=fun r S=>(t r S).bind fun xs S1=>R.of S1 (f S1 xs)
noncomputable def eBN (f:Sto→List D→Option SO) (t:AM):EM:=fun r S=>(t r S).bind fun xs S1=>match f S1 xs with
 | some o=>.ok (.ref S1.length) (S1 ++ [o])
 | none=>.bad
noncomputable def tV (a:EM):TM:=fun r S=>(a r S).bind fun x S1=>match x with
 | .bl b=>.ok b S1
 | _=>.bad
noncomputable def tAnd (a b:TM):TM:=fun r S=>(a r S).bind fun c S1=>if c=true then b r S1 else .ok false S1
noncomputable def tOr (a b:TM):TM:=fun r S=>(a r S).bind fun c S1=>if c=true then .ok true S1 else b r S1
noncomputable def tNot (a:TM):TM:=fun r S=>(a r S).bind fun c S1=>.ok (!c) S1
noncomputable def R.nx {A:Type}:R A→R A
 | .err _ _=>.bad
 | r=>r
noncomputable def eNx (a:EM):EM:=fun r S=>(a r S).nx
noncomputable def tNx (a:TM):TM:=fun r S=>(a r S).nx
noncomputable def aNx (a:AM):AM:=fun r S=>(a r S).nx
noncomputable def sSkip:SM:=fun r S=>.ok (.nx r) S
noncomputable def sBad:SM:=fun _ _=>.bad
noncomputable def sSeq (a b:SM):SM:=fun r S=>(a r S).bind fun f S1=>match f with
 | .nx r1=>b r1 S1
 | g=>.ok g S1
noncomputable def sRet (a:EM):SM:=fun r S=>(a r S).bind fun x S1=>.ok (.rt x) S1
noncomputable def sRetN:SM:=fun _ S=>.ok (.rt .non) S
noncomputable def sDrop (a:EM):SM:=fun r S=>(a r S).bind fun _ S1=>.ok (.nx r) S1
noncomputable def sIf (t:TM) (a b:SM):SM:=fun r S=>(t r S).bind fun c S1=>if c=true then a r S1 else b r S1
noncomputable def sBreak:SM:=fun r S=>.ok (.bk r) S
noncomputable def sCont:SM:=fun r S=>.ok (.ct r) S
set_option genInjectivity false in
inductive G where
 | nm (i:Nat) | tp (gs:List G)
mutual
noncomputable def G.put:G→D→Rho→Option Rho
 | .nm i,d,r=>some (r.set i (some d))
 | .tp gs,d,r=>match d with
  | .tup xs=>G.puts gs xs r
  | _=>none
noncomputable def G.puts:List G→List D→Rho→Option Rho
 | [],[],r=>some r
 | g :: gs,x :: xs,r=>match G.put g x r with
  | some r1=>G.puts gs xs r1
  | none=>none
 | _,_,_=>none
end
noncomputable def sSet (i:Nat) (a:EM):SM:=fun r S=>(a r S).bind fun x S1=>.ok (.nx (r.set i (some x))) S1
noncomputable def sAsg (g:G) (a:EM):SM:=fun r S=>(a r S).bind fun x S1=>match g.put x r with
 | some r1=>.ok (.nx r1) S1
 | none=>.bad
noncomputable def sPar (i j:Nat) (t:AM):SM:=fun r S=>(t r S).bind fun xs S1=>match xs with
 | [x,y]=>.ok (.nx ((r.set i (some x)).set j (some y))) S1
 | _=>.bad
noncomputable def sPut (f:Sto→D→D→D→Option Sto) (e o i:EM):SM:=fun r S=>(e r S).bind fun v S1=>(o r S1).bind fun x S2=>(i r S2).bind fun y S3=>match f S3 x y v with
 | some S4=>.ok (.nx r) S4
 | none=>.bad
noncomputable def sMut (f:Sto→D→List D→Option Sto) (o:EM) (t:AM):SM:=fun r S=>(o r S).bind fun x S1=>(t r S1).bind fun ys S2=>match f S2 x ys with
 | some S3=>.ok (.nx r) S3
 | none=>.bad
noncomputable def sNx (a:SM):SM:=fun r S=>(a r S).nx
noncomputable def sRaise (c:Str) (t:AM):SM:=fun r S=>(t r S).bind fun xs S1=>if xs.length≤sizeLine then .err ⟨c,.tup xs⟩ S1 else .bad
noncomputable def sTry (cs:List Str) (i n:Nat) (b h:SM):SM:=fun r S=>match b r S with
 | .err x S1=>if cs.contains x.cls=true then (h ((List.replicate n none).set i (some (.exc x.cls))) S1).nx.bind fun f S2=>match f with
   | .rt d=>.ok (.rt d) S2
   | _=>.bad
  else .bad
 | .ok f S1=>.ok f S1
 | .bad=>.bad
noncomputable def forL (g:G) (b:SM):List D→SM
 | []=>fun r S=>.ok (.nx r) S
 | x :: xs=>fun r S=>match g.put x r with
  | none=>.bad
  | some r1=>(b r1 S).bind fun f S1=>match f with
   | .nx r2=>forL g b xs r2 S1
   | .ct r2=>forL g b xs r2 S1
   | .bk r2=>.ok (.nx r2) S1
   | .rt d=>.ok (.rt d) S1
noncomputable def sFor (it:AM) (g:G) (b:SM):SM:=fun r S=>(it r S).bind fun xs S1=>forL g b xs r S1
noncomputable def whileL (t:TM) (b:SM):Nat→SM
 | 0=>fun _ _=>.bad
 | n + 1=>fun r S=>(t r S).bind fun c S1=>if c=true then (b r S1).bind fun f S2=>match f with
   | .nx r2=>whileL t b n r2 S2
   | .ct r2=>whileL t b n r2 S2
   | .bk r2=>.ok (.nx r2) S2
   | .rt d=>.ok (.rt d) S2
  else .ok (.nx r) S1
noncomputable def capOf (k:Nat) (caps:List Nat) (r:Rho):Rho:=List.replicate k none ++ caps.map fun i=>(r[i]?).join
noncomputable def compL (g:G) (t:TM) (e:EM):List D→Rho→Sto→R (List D)
 | [],_,S=>.ok [] S
 | x :: xs,r,S=>match g.put x r with
  | none=>.bad
  | some r1=>(t r1 S).bind fun c S1=>if c=true then (e r1 S1).bind fun y S2=>(compL g t e xs r1 S2).bind fun ys S3=>.ok (y :: ys) S3
    else compL g t e xs r1 S1
noncomputable def eComp (it:AM) (k:Nat) (caps:List Nat) (g:G) (t:TM) (e:EM):EM:=fun r S=>(it r S).bind fun xs S1=>
 if xs.length≤sizeLine then (compL g t e xs (capOf k caps r) S1).bind fun ys S2=>.ok (.lst ys) S2 else .bad
noncomputable def tTrue:TM:=fun _ S=>.ok true S
noncomputable def fnM (n:Nat) (b:SM):FM:=fun ds S=>(b (ds.map some ++ List.replicate (n - ds.length) none) S).bind fun f S1=>match f with
 | .rt d=>.ok d S1
 | .nx _=>.ok .non S1
 | _=>.bad
end PD
namespace PD
open PySem PySem.Spec PyProof.Rows L2
set_option genInjectivity false in
structure Wd where
 st:List Addr
 hid:List Addr
noncomputable def Wd.no (w:Wd) (a:Addr):Prop:=a ∉ w.st∧a ∉ w.hid
noncomputable def Wd.add (w:Wd) (p:Addr):Wd:=⟨w.st ++ [p],w.hid⟩
noncomputable def Wd.hide (w:Wd) (p:Addr):Wd:=⟨w.st,p :: w.hid⟩
noncomputable def At (w:Wd) (H:Hp) (a:Addr) (o:HO):Prop:=H a=some o∧w.no a
noncomputable def KTup (K:PySem.W.Frag) (a:Addr) (vs:List V):Prop:=
 ∃ (o:Obj) (its:Array Value) (n:Nat),K.lookup a=some o∧o.cls=.type "tuple"∧o.data=.seq its n∧its.size≤sizeLine∧Vals vs its.toList
noncomputable def KLst (K:PySem.W.Frag) (a:Addr) (vs:List V):Prop:=
 ∃ (o:Obj) (its:Array Value) (n:Nat),K.lookup a=some o∧o.cls=.type "list"∧o.dict=none∧o.data=.seq its n∧its.size≤sizeLine∧Vals vs its.toList
noncomputable def FzAt (K:PySem.W.Frag) (w:Wd) (H:Hp) (a:Addr) (vs:List V):Prop:=(∃ o,At w H a (.frz o (.lst vs))) ∨ KLst K a vs
theorem FzAt.sq {K:PySem.W.Frag} {w:Wd} {H:Hp} {a:Addr} {vs:List V} (h:FzAt K w H a vs):SqL K H a vs:=h.elim (fun ⟨o,z⟩=>.inl (.inr ⟨o,z.1⟩)) .inr
noncomputable def ExcAt (a:Addr) (C:Value):Heap→Prop:=fun h=>∃ o,h.get? a=some o∧o.cls=C
mutual
noncomputable def RD (K:PySem.W.Frag) (w:Wd) (H:Hp):D→V→Prop
 | .non,v=>v=.non
 | .bl b,v=>v=.bl b
 | .int i,v=>v=.int i
 | .str x,v=>v=.str x
 | .tup ds,v=>∃ a vs,v=.ref a∧(At w H a (.tup vs) ∨ KTup K a vs)∧RDs K w H ds vs
 | .lst ds,v=>∃ a vs,v=.ref a∧At w H a (.lst vs)∧RDs K w H ds vs
 | .fz ds,v=>∃ a vs,v=.ref a∧FzAt K w H a vs∧RDs K w H ds vs
 | .dic kvs,v=>∃ a us,v=.ref a∧At w H a (.dK us)∧RDk K w H kvs us
 | .ref n,v=>∃ a,v=.ref a∧w.st[n]?=some a
 | .ty n,v=>v=.ty n
 | .exc c,v=>∃ a C o,v=.ref a∧PySem.W.nsIn K mainGlobals c=some (some C)∧At w H a (.frz o (.ext (ExcAt a C)))
 | .cls c,v=>∃ C,PySem.W.nsIn K mainGlobals c=some (some (.ref C))∧v=.ref C
noncomputable def RDs (K:PySem.W.Frag) (w:Wd) (H:Hp):List D→List V→Prop
 | [],vs=>vs=[]
 | d :: ds,vs=>∃ v r,vs=v :: r∧RD K w H d v∧RDs K w H ds r
noncomputable def RDk (K:PySem.W.Frag) (w:Wd) (H:Hp):List (Sum Int Str × D)→List (Key × V)→Prop
 | [],us=>us=[]
 | (k,d) :: ds,us=>∃ v r,us=(k,v) :: r∧RD K w H d v∧RDk K w H ds r
end
structure Ext (w:Wd) (H:Hp) (w':Wd) (H':Hp):Prop where
 keep:∀ a o,H a=some o→a ∉ w.st→H' a=some o
 sub:∃ l,w'.st=w.st ++ l∧∀ a ∈ l,H a=none
 hid:∀ a,a ∈ w.hid→a ∈ w'.hid
 hnew:∀ a,a ∈ w'.hid→a ∈ w.hid ∨ H a=none
 frz:∀ a o u,H a=some (.frz o u)→H' a=some (.frz o u)
theorem Ext.refl (w:Wd) (H:Hp):Ext w H w H:=⟨fun _ _ h _=>h,⟨[],by simp,fun _ h=>nomatch h⟩,fun _ h=>h,fun _ h=>.inl h,fun _ _ _ h=>h⟩
theorem Ext.out {w w':Wd} {H H':Hp} (x:Ext w H w' H') {a:Addr} {o:HO} (h:H a=some o) (n:a ∉ w.st):a ∉ w'.st:=by
 obtain ⟨l,e,f⟩:=x.sub
 rw [e]
 intro z
 rcases List.mem_append.mp z with z | z
 ·exact n z
 ·rw [f a z] at h; cases h
theorem Ext.at {w w':Wd} {H H':Hp} (x:Ext w H w' H') {a:Addr} {o:HO} (h:At w H a o):At w' H' a o:=⟨x.keep a o h.1 h.2.1,x.out h.1 h.2.1,fun z=>(x.hnew a z).elim h.2.2 fun e=>by rw [h.1] at e; cases e⟩
theorem Ext.get {w w':Wd} {H H':Hp} (x:Ext w H w' H') {n:Nat} {a:Addr} (h:w.st[n]?=some a):w'.st[n]?=some a:=by
 obtain ⟨l,e,f⟩:=x.sub
 rw [e,List.getElem?_append_left (List.getElem?_eq_some_iff.mp h).1]
 exact h
theorem Ext.trans {w w1 w2:Wd} {H H1 H2:Hp} (x:Ext w H w1 H1) (y:Ext w1 H1 w2 H2) (fr:∀ a ∈ w.st,∃ o,H a=some o∧∃ o',H1 a=some o'):Ext w H w2 H2:=by
 have hno:∀ a,H1 a=none→H a=none:=fun a z=>by
  cases e:H a with
  | none=>rfl
  | some o=>
   by_cases hw:a ∈ w.st
   ·obtain ⟨_,_,o',e'⟩:=fr a hw
    rw [z] at e'; cases e'
   ·have:=x.keep a o e hw
    rw [z] at this; cases this
 refine ⟨fun a o h n=>y.keep a o (x.keep a o h n) (x.out h n),?_,fun a h=>y.hid a (x.hid a h),fun a h=>(y.hnew a h).elim (x.hnew a) fun z=>.inr (hno a z),fun a o u h=>y.frz a o u (x.frz a o u h)⟩
 obtain ⟨l,e1,f⟩:=x.sub
 obtain ⟨l2,e2,f2⟩:=y.sub
 refine ⟨l ++ l2,by rw [e2,e1]; simp,fun a ha=>?_⟩
 rcases List.mem_append.mp ha with z | z
 ·exact f a z
 ·exact hno a (f2 a z)
section
variable {K:PySem.W.Frag} {w w':Wd} {H H':Hp}
mutual
theorem RD.ext (x:Ext w H w' H'):∀ (d:D) (v:V),RD K w H d v→RD K w' H' d v
 | .non,_,h=>h
 | .bl _,_,h=>h
 | .int _,_,h=>h
 | .str _,_,h=>h
 | .tup ds,v,h=>by
  unfold RD at h ⊢
  obtain ⟨a,vs,e,p,r⟩:=h
  exact ⟨a,vs,e,p.imp x.at id,RDs.ext x ds vs r⟩
 | .lst ds,v,h=>by
  unfold RD at h ⊢
  obtain ⟨a,vs,e,p,r⟩:=h
  exact ⟨a,vs,e,x.at p,RDs.ext x ds vs r⟩
 | .fz ds,v,h=>by
  unfold RD at h ⊢
  obtain ⟨a,vs,e,p,r⟩:=h
  exact ⟨a,vs,e,p.imp (fun ⟨o,z⟩=>⟨o,x.at z⟩) id,RDs.ext x ds vs r⟩
 | .dic kvs,v,h=>by
  unfold RD at h ⊢
  obtain ⟨a,us,e,p,r⟩:=h
  exact ⟨a,us,e,x.at p,RDk.ext x kvs us r⟩
 | .ref n,v,h=>by
  unfold RD at h ⊢
  obtain ⟨a,e,p⟩:=h
  exact ⟨a,e,x.get p⟩
 | .ty _,_,h=>h
 | .exc c,v,h=>by
  unfold RD at h ⊢
  obtain ⟨a,C,o,e,q,p⟩:=h
  exact ⟨a,C,o,e,q,x.at p⟩
 | .cls _,_,h=>h
theorem RDs.ext (x:Ext w H w' H'):∀ (ds:List D) (vs:List V),RDs K w H ds vs→RDs K w' H' ds vs
 | [],_,h=>h
 | d :: ds,vs,h=>by
  unfold RDs at h ⊢
  obtain ⟨v,r,e,p,q⟩:=h
  exact ⟨v,r,e,RD.ext x d v p,RDs.ext x ds r q⟩
theorem RDk.ext (x:Ext w H w' H'):∀ (ds:List (Sum Int Str × D)) (vs:List (Key × V)),RDk K w H ds vs→RDk K w' H' ds vs
 | [],_,h=>h
 | (k,d) :: ds,vs,h=>by
  unfold RDk at h ⊢
  obtain ⟨v,r,e,p,q⟩:=h
  exact ⟨v,r,e,RD.ext x d v p,RDk.ext x ds r q⟩
end
end
noncomputable def RDf (K:PySem.W.Frag) (w:Wd) (H:Hp) (fs:List (Str × D)) (us:List (Str × V)):Prop:=fs.map (·.1)=us.map (·.1)∧RDs K w H (fs.map (·.2)) (us.map (·.2))
noncomputable def RO (K:PySem.W.Frag) (w:Wd) (H:Hp) (a:Addr):SO→Prop
 | .lst ds=>∃ vs,H a=some (.lst vs)∧RDs K w H ds vs
 | .dic kvs=>∃ us,H a=some (.dK us)∧RDk K w H kvs us
 | .fdic kvs=>∃ o us,H a=some (.frz o (.dK us))∧RDk K w H kvs us
 | .ins c fs=>∃ C dx us,PySem.W.nsIn K mainGlobals c=some (some (.ref C))∧H a=some (.ins C dx us)∧RDf K w H fs us
 | .flst ds=>∃ o vs,H a=some (.frz o (.lst vs))∧RDs K w H ds vs
structure RS (K:PySem.W.Frag) (w:Wd) (H:Hp) (S:Sto):Prop where
 nd:w.st.Nodup
 len:w.st.length=S.length
 obj:∀ (n:Nat) (o:SO),S[n]?=some o→∃ a:Addr,w.st[n]?=some a∧RO K w H a o
 hid:∀ a ∈ w.hid,a ∉ w.st∧∃ o,H a=some o
section
variable {K:PySem.W.Frag} {w w':Wd} {H H':Hp} {S:Sto}
theorem RS.there (s:RS K w H S) {a:Addr} (ha:a ∈ w.st):∃ o,H a=some o:=by
 obtain ⟨n,hn⟩:=List.mem_iff_getElem?.mp ha
 have hl:n < S.length:=by rw [← s.len]; exact (List.getElem?_eq_some_iff.mp hn).1
 obtain ⟨b,hb,r⟩:=s.obj n S[n] (List.getElem?_eq_getElem hl)
 rw [hn] at hb; cases hb
 revert r
 cases S[n] with
 | lst ds=>rintro ⟨vs,e,_⟩; exact ⟨_,e⟩
 | dic kvs=>rintro ⟨vs,e,_⟩; exact ⟨_,e⟩
 | fdic kvs=>rintro ⟨o,vs,e,_⟩; exact ⟨_,e⟩
 | ins c fs=>rintro ⟨C,dx,us,_,e,_⟩; exact ⟨_,e⟩
 | flst ds=>rintro ⟨o,vs,e,_⟩; exact ⟨_,e⟩
theorem RS.freshS (s:RS K w H S) {a:Addr} (h:H a=none):a ∉ w.st:=fun z=>by
 obtain ⟨o,e⟩:=s.there z
 rw [h] at e; cases e
theorem RS.fresh (s:RS K w H S) {a:Addr} (h:H a=none):w.no a:=⟨s.freshS h,fun z=>by
 obtain ⟨_,o,e⟩:=s.hid a z
 rw [h] at e; cases e⟩
theorem Ext.trans' {w1 w2:Wd} {H1 H2:Hp} {S1:Sto} (x:Ext w H w1 H1) (y:Ext w1 H1 w2 H2) (s:RS K w H S) (s1:RS K w1 H1 S1):Ext w H w2 H2:=
 x.trans y fun a ha=>by
  obtain ⟨o,e⟩:=s.there ha
  obtain ⟨l,el,_⟩:=x.sub
  obtain ⟨o',e'⟩:=s1.there (a:=a) (by rw [el]; exact List.mem_append_left _ ha)
  exact ⟨o,e,o',e'⟩
theorem Ext.new {p:Addr} {o:HO} (hp:H p=none):Ext w H w (upd H p o):=
 ⟨fun a u e _=>by rw [upd_ne (ne_of_none e hp)]; exact e,⟨[],by simp,fun _ z=>nomatch z⟩,fun _ h=>h,fun _ h=>.inl h,fun a o u e=>by rw [upd_ne (ne_of_none e hp)]; exact e⟩
theorem RO.ext (x:Ext w H w' H') {a:Addr} {o:SO} (hk:∀ u,H a=some u→H' a=some u) (r:RO K w H a o):RO K w' H' a o:=by
 cases o with
 | lst ds=>obtain ⟨vs,e,q⟩:=r; exact ⟨vs,hk _ e,RDs.ext x _ _ q⟩
 | dic kvs=>obtain ⟨vs,e,q⟩:=r; exact ⟨vs,hk _ e,RDk.ext x _ _ q⟩
 | fdic kvs=>obtain ⟨o,vs,e,q⟩:=r; exact ⟨o,vs,hk _ e,RDk.ext x _ _ q⟩
 | ins c fs=>obtain ⟨C,dx,us,n,e,q1,q2⟩:=r; exact ⟨C,dx,us,n,hk _ e,q1,RDs.ext x _ _ q2⟩
 | flst ds=>obtain ⟨o,vs,e,q⟩:=r; exact ⟨o,vs,hk _ e,RDs.ext x _ _ q⟩
theorem RS.new {p:Addr} {o:HO} (s:RS K w H S) (hp:H p=none):RS K w (upd H p o) S:=
  ⟨s.nd,s.len,fun n so e=>by
    obtain ⟨a,ha,r⟩:=s.obj n so e
    exact ⟨a,ha,r.ext (Ext.new hp) fun u q=>by rw [upd_ne (ne_of_none q hp)]; exact q⟩,
   fun a ha=>by
    obtain ⟨h1,u,e⟩:=s.hid a ha
    exact ⟨h1,u,by rw [upd_ne (ne_of_none e hp)]; exact e⟩⟩
theorem Ext.alloc {p:Addr} {o:HO} (hp:H p=none):Ext w H (w.add p) (upd H p o):=
 ⟨fun a u e _=>by rw [upd_ne (ne_of_none e hp)]; exact e,⟨[p],rfl,fun a ha=>by
  have:a=p:=by simpa using ha
  subst this; exact hp⟩,fun _ h=>h,fun _ h=>.inl h,fun a o u e=>by rw [upd_ne (ne_of_none e hp)]; exact e⟩
theorem RS.alloc {p:Addr} {o:HO} {so:SO} (s:RS K w H S) (hp:H p=none) (r:RO K (w.add p) (upd H p o) p so):RS K (w.add p) (upd H p o) (S ++ [so]):=by
 have np:=s.freshS hp
 refine ⟨?_,by simp [Wd.add,s.len],fun n so' e=>?_,fun a ha=>?_⟩
 ·show (w.st ++ [p]).Nodup
  rw [List.nodup_append]
  exact ⟨s.nd,by simp,fun a ha b hb=>by
   have:b=p:=by simpa using hb
   subst this
   rintro rfl
   exact np ha⟩
 ·by_cases hn:n < S.length
  ·rw [List.getElem?_append_left hn] at e
   obtain ⟨a,ha,q⟩:=s.obj n so' e
   exact ⟨a,(Ext.alloc (o:=o) hp).get ha,q.ext (Ext.alloc hp) fun u z=>by rw [upd_ne (ne_of_none z hp)]; exact z⟩
  ·have hn':n=S.length:=by
    have:=(List.getElem?_eq_some_iff.mp e).1
    simp at this; omega
   subst hn'
   simp at e; subst e
   exact ⟨p,by show (w.st ++ [p])[S.length]?=some p; rw [← s.len]; simp,r⟩
 ·obtain ⟨h1,u,e⟩:=s.hid a ha
  refine ⟨?_,u,by rw [upd_ne (ne_of_none e hp)]; exact e⟩
  show a ∉ w.st ++ [p]
  intro z
  rcases List.mem_append.mp z with z | z
  ·exact h1 z
  ·have:a=p:=by simpa using z
   subst this
   rw [hp] at e; cases e
theorem Ext.mut {p:Addr} {o u0:HO} (hp:p ∈ w.st) (h0:H p=some u0) (hu:autoParam (∀ o u,u0 ≠ .frz o u) Au.h8._auto_1):Ext w H w (upd H p o):=
 ⟨fun a u e n=>by rw [upd_ne (fun z:a=p=>n (z ▸ hp))]; exact e,⟨[],by simp,fun _ z=>nomatch z⟩,fun _ h=>h,fun _ h=>.inl h,fun a o u e=>by
  rw [upd_ne (fun z:a=p=>by rw [z,h0] at e; exact hu o u (Option.some.inj e))]; exact e⟩
theorem RS.mut {p:Addr} {o:HO} {so:SO} {n:Nat} (s:RS K w H S) (hp:w.st[n]?=some p) {u0:HO} (h0:H p=some u0) (r:RO K w (upd H p o) p so) (hu:autoParam (∀ o u,u0 ≠ .frz o u) Au.h8._auto_1):RS K w (upd H p o) (S.set n so):=by
 have hm:p ∈ w.st:=List.mem_of_getElem? hp
 refine ⟨s.nd,by simp [s.len],fun m so' e=>?_,fun a ha=>?_⟩
 ·by_cases hn:m=n
  ·subst hn
   have hl:m < S.length:=by rw [← s.len]; exact (List.getElem?_eq_some_iff.mp hp).1
   rw [List.getElem?_set_self hl] at e
   cases e
   exact ⟨p,hp,r⟩
  ·rw [List.getElem?_set_ne (Ne.symm hn)] at e
   obtain ⟨a,ha,q⟩:=s.obj m so' e
   refine ⟨a,ha,q.ext (Ext.mut hm h0 hu) fun u z=>?_⟩
   have:a ≠ p:=fun z=>by
    subst z
    obtain ⟨h1,e1⟩:=List.getElem?_eq_some_iff.mp ha
    obtain ⟨h2,e2⟩:=List.getElem?_eq_some_iff.mp hp
    exact hn ((List.getElem_inj s.nd).mp (e1.trans e2.symm))
   rw [upd_ne this]; exact z
 ·obtain ⟨h1,u,e⟩:=s.hid a ha
  exact ⟨h1,u,by rw [upd_ne (fun z:a=p=>h1 (z ▸ hm))]; exact e⟩
end
noncomputable def RSt (K:PySem.W.Frag) (w:Wd) (H:Hp) (r:Rho) (s:L2.St):Prop:=
 s.length=r.length∧∀ (i:Nat) (d:D),r[i]?=some (some d)→∃ v,s[i]?=some (some v)∧RD K w H d v
theorem RSt.ext {K:PySem.W.Frag} {w w':Wd} {H H':Hp} {r:Rho} {s:L2.St} (h:RSt K w H r s) (x:Ext w H w' H'):RSt K w' H' r s:=
 ⟨h.1,fun i d e=>let ⟨v,e1,q⟩:=h.2 i d e; ⟨v,e1,RD.ext x d v q⟩⟩
theorem RSt.set {K:PySem.W.Frag} {w:Wd} {H:Hp} {r:Rho} {s:L2.St} (h:RSt K w H r s) (i:Nat) {d:D} {v:V} (q:RD K w H d v):RSt K w H (r.set i (some d)) (s.set i (some v)):=by
 refine ⟨by simp [h.1],fun j d' e=>?_⟩
 by_cases hj:j=i
 ·subst hj
  have hl:j < r.length:=by
   have:=(List.getElem?_eq_some_iff.mp e).1
   simpa using this
  rw [List.getElem?_set_self hl] at e
  cases e
  exact ⟨v,List.getElem?_set_self (by rw [h.1]; exact hl),q⟩
 ·rw [List.getElem?_set_ne (Ne.symm hj)] at e
  obtain ⟨v',e',q'⟩:=h.2 j d' e
  exact ⟨v',by rw [List.getElem?_set_ne (Ne.symm hj)]; exact e',q'⟩
section
variable {K:PySem.W.Frag} {w:Wd} {H:Hp}
theorem RDs.nil:RDs K w H [] []:=by unfold RDs; rfl
theorem RDs.cons {d:D} {v:V} {ds:List D} {vs:List V} (r:RD K w H d v) (q:RDs K w H ds vs):RDs K w H (d :: ds) (v :: vs):=by unfold RDs; exact ⟨v,vs,rfl,r,q⟩
theorem RDs.nil_inv {vs:List V} (h:RDs K w H [] vs):vs=[]:=by unfold RDs at h; exact h
theorem RDs.cons_inv {d:D} {ds:List D} {vs:List V} (h:RDs K w H (d :: ds) vs):∃ v r,vs=v :: r∧RD K w H d v∧RDs K w H ds r:=by unfold RDs at h; exact h
theorem RDs.one_inv {d:D} {vs:List V} (h:RDs K w H [d] vs):∃ v,vs=[v]∧RD K w H d v:=by
 obtain ⟨v,r,rfl,h1,h2⟩:=h.cons_inv
 rw [h2.nil_inv]
 exact ⟨v,rfl,h1⟩
theorem RDs.two_inv {d e:D} {vs:List V} (h:RDs K w H [d,e] vs):∃ v u,vs=[v,u]∧RD K w H d v∧RD K w H e u:=by
 obtain ⟨v,r,rfl,h1,h2⟩:=h.cons_inv
 obtain ⟨u,rfl,h3⟩:=h2.one_inv
 exact ⟨v,u,rfl,h1,h3⟩
theorem RDs.length:∀ {ds:List D} {vs:List V},RDs K w H ds vs→vs.length=ds.length
 | [],_,h=>by rw [h.nil_inv]; rfl
 | _ :: _,_,h=>by
  obtain ⟨v,r,rfl,_,q⟩:=h.cons_inv
  simp [q.length]
theorem RDs.get:∀ {ds:List D} {vs:List V} {i:Nat} {d:D},RDs K w H ds vs→ds[i]?=some d→∃ v,vs[i]?=some v∧RD K w H d v
 | [],_,_,_,_,e=>by simp at e
 | _ :: _,_,0,_,h,e=>by
  obtain ⟨v,r,rfl,p,_⟩:=h.cons_inv
  simp at e; subst e
  exact ⟨v,rfl,p⟩
 | _ :: ds,_,i + 1,d,h,e=>by
  obtain ⟨v,r,rfl,_,q⟩:=h.cons_inv
  obtain ⟨u,e1,q1⟩:=q.get (i:=i) (d:=d) (by simpa using e)
  exact ⟨u,by simpa using e1,q1⟩
theorem RDs.append:∀ {ds es:List D} {vs us:List V},RDs K w H ds vs→RDs K w H es us→RDs K w H (ds ++ es) (vs ++ us)
 | [],_,_,_,h,q=>by rw [h.nil_inv]; exact q
 | _ :: _,_,_,_,h,q=>by
  obtain ⟨v,r,rfl,p,t⟩:=h.cons_inv
  exact .cons p (t.append q)
theorem RDs.take:∀ {ds:List D} {vs:List V} (n:Nat),RDs K w H ds vs→RDs K w H (ds.take n) (vs.take n)
 | _,_,0,_=>by simp; exact .nil
 | [],_,_ + 1,h=>by rw [h.nil_inv]; simp; exact .nil
 | _ :: _,_,n + 1,h=>by
  obtain ⟨v,r,rfl,p,t⟩:=h.cons_inv
  exact .cons p (t.take n)
theorem RDs.drop:∀ {ds:List D} {vs:List V} (n:Nat),RDs K w H ds vs→RDs K w H (ds.drop n) (vs.drop n)
 | _,_,0,h=>h
 | [],_,_ + 1,h=>by rw [h.nil_inv]; simp; exact .nil
 | _ :: _,_,n + 1,h=>by
  obtain ⟨v,r,rfl,_,t⟩:=h.cons_inv
  exact t.drop n
theorem RDs.set {d:D} {v:V} (r:RD K w H d v):∀ {ds:List D} {vs:List V} (i:Nat),RDs K w H ds vs→RDs K w H (ds.set i d) (vs.set i v)
 | [],_,_,h=>by rw [h.nil_inv]; exact .nil
 | _ :: _,_,0,h=>by
  obtain ⟨_,_,rfl,_,t⟩:=h.cons_inv
  exact .cons r t
 | _ :: _,_,i + 1,h=>by
  obtain ⟨_,_,rfl,p,t⟩:=h.cons_inv
  exact .cons p (RDs.set r i t)
end
end PD
namespace PD
open PySem PySem.Spec PyProof.Rows L2
noncomputable def RX (K:PySem.W.Frag) (w:Wd) (H:Hp) (x:XD) (c:Value) (da:Option Addr):Prop:=PySem.W.nsIn K mainGlobals x.cls=some (some c)
noncomputable def Post {A B:Type} (K:PySem.W.Frag) (E:XK) (rel:Wd→Hp→A→B→Prop) (w:Wd) (H:Hp) (r:R A) (Q:B→Hp→Prop):Prop:=match r with
 | .ok a S'=>∀ w' H' b,Ext w H w' H'→rel w' H' a b→RS K w' H' S'→Q b H'
 | .err x S'=>∀ w' H' c da,Ext w H w' H'→RS K w' H' S'→RX K w' H' x c da→E c da H'
 | .bad=>False
section
variable {A B A2 B2:Type} {K:PySem.W.Frag} {E:XK} {rel:Wd→Hp→A→B→Prop} {rel2:Wd→Hp→A2→B2→Prop} {w w1:Wd} {H H1:Hp} {S S1:Sto}
theorem Post.ext {r:R A} {Q:B→Hp→Prop} (h:Post K E rel w H r Q) (x:Ext w H w1 H1) (s:RS K w H S) (s1:RS K w1 H1 S1):Post K E rel w1 H1 r Q:=by
 cases r with
 | ok a S'=>exact fun w' H' b y q t=>h w' H' b (x.trans' y s s1) q t
 | err e S'=>exact fun w' H' c da y t q=>h w' H' c da (x.trans' y s s1) t q
 | bad=>exact h
theorem Post.bind {r:R A} {f:A→Sto→R A2} {Q':B→Hp→Prop} {Q:B2→Hp→Prop} (h:Post K E rel2 w H (r.bind f) Q) (s:RS K w H S)
  (k:∀ a S1 w1 H1 b,Ext w H w1 H1→rel w1 H1 a b→RS K w1 H1 S1→Post K E rel2 w1 H1 (f a S1) Q→Q' b H1):Post K E rel w H r Q':=by
 cases r with
 | ok a S'=>exact fun w1 H1 b x q s1=>k a S' w1 H1 b x q s1 (Post.ext (r:=f a S') h x s s1)
 | err e S'=>exact h
 | bad=>exact h
theorem Post.bindAt {w0:Wd} {H0:Hp} {S0:Sto} {r:R A} {f:A→Sto→R A2} {Q':B→Hp→Prop} {Q:B2→Hp→Prop} (h:Post K E rel2 w0 H0 (r.bind f) Q) (x:Ext w0 H0 w H) (s0:RS K w0 H0 S0) (s:RS K w H S)
  (k:∀ a S1 w1 H1 b,Ext w H w1 H1→rel w1 H1 a b→RS K w1 H1 S1→Post K E rel2 w0 H0 (f a S1) Q→Q' b H1):Post K E rel w H r Q':=by
 cases r with
 | ok a S'=>exact fun w1 H1 b y q s1=>k a S' w1 H1 b y q s1 h
 | err e S'=>exact fun w' H' c da y t q=>h w' H' c da (x.trans' y s0 s) t q
 | bad=>exact h
theorem Post.ret {a:A} {b:B} {Q:B→Hp→Prop} (h:Post K E rel w H (.ok a S) Q) (q:rel w H a b) (s:RS K w H S):Q b H:=h w H b (Ext.refl w H) q s
theorem Post.at {a:A} {b:B} {Q:B→Hp→Prop} (h:Post K E rel w H (.ok a S) Q) (x:Ext w H w1 H1) (q:rel w1 H1 a b) (s:RS K w1 H1 S):Q b H1:=h w1 H1 b x q s
theorem Post.of {o:Option A} {Q:B→Hp→Prop} (h:Post K E rel w H (R.of S o) Q):∃ a,o=some a∧Post K E rel w H (.ok a S) Q:=by
 cases o with
 | some a=>exact ⟨a,rfl,h⟩
 | none=>exact h.elim
end
set_option genInjectivity false in
inductive FV where
 | nx (s:L2.St) | rt (v:V) | bk (s:L2.St) | ct (s:L2.St)
noncomputable def FV.to (D:Ends):FV→Hp→Prop
 | .nx s,H=>D.nx s H
 | .rt v,H=>D.rt v H
 | .bk s,H=>D.bk s H
 | .ct s,H=>D.ct s H
noncomputable def RF (K:PySem.W.Frag) (w:Wd) (H:Hp):F→FV→Prop
 | .nx r,f=>∃ s,f=.nx s∧RSt K w H r s
 | .rt d,f=>∃ v,f=.rt v∧RD K w H d v
 | .bk r,f=>∃ s,f=.bk s∧RSt K w H r s
 | .ct r,f=>∃ s,f=.ct s∧RSt K w H r s
noncomputable def RB (w:Wd) (H:Hp) (a b:Bool):Prop:=b=a
noncomputable def uE (K:PySem.W.Frag) (E:XK) (m:EM):TE:=fun s H Q=>∃ w r S,RSt K w H r s∧RS K w H S∧Post K E (RD K) w H (m r S) Q
noncomputable def uT (K:PySem.W.Frag) (E:XK) (m:TM):TT:=fun s H Q=>∃ w r S,RSt K w H r s∧RS K w H S∧Post K E RB w H (m r S) Q
noncomputable def uA (K:PySem.W.Frag) (E:XK) (m:AM):TA:=fun s H Q=>∃ w r S,RSt K w H r s∧RS K w H S∧Post K E (RDs K) w H (m r S) Q
noncomputable def uS (K:PySem.W.Frag) (E:XK) (m:SM):TS:=fun D s H=>∃ w r S,RSt K w H r s∧RS K w H S∧Post K E (RF K) w H (m r S) (FV.to D)
theorem ex6 {K:PySem.W.Frag} {H:Hp} {s:L2.St} {c:Wd→Rho→Sto→Prop} {P:Prop} (z:∃ w r S,RSt K w H r s∧RS K w H S∧c w r S) (f:∀ w r S,RSt K w H r s→RS K w H S→c w r S→P):P:=by
 obtain ⟨w,r,S,x,y,z⟩:=z
 exact f w r S x y z
theorem ex8.{u} {α:Type u} {a:Wd→Rho→Prop} {b:Wd→Rho→α→Rho→Prop} {c:Wd→Rho→α→Rho→Prop} {d:Wd→Rho→α→Rho→Prop} {P:Prop} (z:∃ w r e r',a w r∧b w r e r'∧c w r e r'∧d w r e r') (f:∀ w r e r',a w r→b w r e r'→c w r e r'→d w r e r'→P):P:=by
 obtain ⟨w,r,e,r',x,y,z,t⟩:=z
 exact f w r e r' x y z t
structure Bx (p:Prop):Prop where
 out:p
noncomputable abbrev SE (X:Cx) (E:XK) (e:Expr) (m:EM):Prop:=Bx (PE X e (uE X.K E m))
noncomputable abbrev ST (X:Cx) (E:XK) (e:Expr) (m:TM):Prop:=Bx (PT X e (uT X.K E m))
noncomputable abbrev SW (X:Cx) (E:XK) (e:Expr) (m:TM):Prop:=Bx (PW X e (uT X.K E m))
noncomputable abbrev SA (X:Cx) (E:XK) (es:List Expr) (m:AM):Prop:=Bx (PA X es (uA X.K E m))
noncomputable abbrev SS (X:Cx) (E:XK) (st:Stmt) (m:SM):Prop:=Bx (PS X st (uS X.K E m))
noncomputable abbrev SSs (X:Cx) (E:XK) (st:List Stmt) (m:SM):Prop:=Bx (PSs X st (uS X.K E m))
theorem pe_weak {X:Cx} {e:Expr} {t t':TE} (h:PE X e t) (k:∀ s H Q,t' s H Q→t s H Q):PE X e t':=fun pins s σ H Q I q=>h pins s σ H Q I (k σ H Q q)
theorem pt_weak {X:Cx} {e:Expr} {t t':TT} (h:PT X e t) (k:∀ s H Q,t' s H Q→t s H Q):PT X e t':=fun pins s σ H Q I q=>h pins s σ H Q I (k σ H Q q)
theorem pw_weak {X:Cx} {e:Expr} {t t':TT} (h:PW X e t) (k:∀ s H Q,t' s H Q→t s H Q):PW X e t':=fun wh pins s σ H Q I q=>h wh pins s σ H Q I (k σ H Q q)
theorem pa_weak {X:Cx} {e:List Expr} {t t':TA} (h:PA X e t) (k:∀ s H Q,t' s H Q→t s H Q):PA X e t':=fun p pins s σ H Q I q=>h p pins s σ H Q I (k σ H Q q)
theorem ps_weak {X:Cx} {e:Stmt} {t t':TS} (h:PS X e t) (k:∀ D s H,t' D s H→t D s H):PS X e t':=fun pins s σ H Q I q=>h pins s σ H Q I (k Q σ H q)
theorem pss_weak {X:Cx} {e:List Stmt} {t t':TS} (h:PSs X e t) (k:∀ D s H,t' D s H→t D s H):PSs X e t':=fun pins s σ H Q I q=>h pins s σ H Q I (k Q σ H q)
section
variable {X:Cx} {E:XK} {a b c:Expr} {ma mb mc:EM} {pos:Pos}
theorem se_var (i:Nat) {x:Str} {pos:Pos} (hN:autoParam (X.N[i]?=some x) Au.h0._auto_1) (hv:Vis X.env.scope x) (hd:autoParam ((x == ("__debug__":Str))=false) Au.h3._auto_1)
  (hcd:autoParam ((x == ("__classdict__":Str))=false) Au.h3._auto_1):SE X E (.Name x pos) (eVar i):=⟨
 pe_weak (pv i hN hv hd hcd) fun s H Q zq=>ex6 zq fun w r S hr hS hp=>by
  unfold eVar at hp
  split at hp
  ·rename_i d e
   obtain ⟨v,e',q⟩:=hr.2 i d e
   exact ⟨v,e',hp.ret q hS⟩
  ·exact hp.elim⟩
theorem se_c {e:Expr} {v:V} {d:D} (h:PE X e (tC v)) (q:∀ w H,RD X.K w H d v):SE X E e (eC d):=⟨
 pe_weak h fun s H Q zq=>ex6 zq fun w r S hr hS hp=>hp.ret (q w H) hS⟩
theorem se_int {i j pos}:SE X E (.Constant (.int i) j pos) (eC (.int i)):=se_c pe_int fun _ _=>by unfold RD; rfl
theorem se_bl {i j pos}:SE X E (.Constant (.bool i) j pos) (eC (.bl i)):=se_c pe_bl fun _ _=>by unfold RD; rfl
theorem se_gint {x:Str} {i:Int} {t:Tok} {pos:Pos} (hg:Gl X x) (hm:X.mg x=some (.int i t)) (hd:autoParam ((x == ("__debug__":Str))=false) Au.h3._auto_1):SE X E (.Name x pos) (eC (.int i)):=
 se_c (pe_glob hg hm (v:=.int i) ⟨t,rfl⟩ hd) fun _ _=>by unfold RD; rfl
theorem se_ty {x:Str} {T:String} {pos:Pos} (hg:Gl X x) (hm:X.mg x=none) (hv:bootBuiltins x=some (.type T)) (hn:autoParam (x ≠ "__name__") Au.h3._auto_1) (hd:autoParam ((x == ("__debug__":Str))=false) Au.h3._auto_1):SE X E (.Name x pos) (eC (.ty T)):=
 se_c (pe_bltn hg hm hv (v:=.ty T) rfl hn hd) fun _ _=>by unfold RD; rfl
noncomputable def xO (K:PySem.W.Frag) (E:XK) (f:Sto→D→D→Option D):R2:=fun x y H Q=>∃ w S d e,RS K w H S∧RD K w H d x∧RD K w H e y∧Post K E (RD K) w H (R.of S (f S d e)) Q
noncomputable def xU (K:PySem.W.Frag) (E:XK) (f:Sto→D→Option D):V→Hp→VK→Prop:=fun x H Q=>∃ w S d,RS K w H S∧RD K w H d x∧Post K E (RD K) w H (R.of S (f S d)) Q
noncomputable def xC (K:PySem.W.Frag) (E:XK) (f:Sto→List D→Option D):List V→Hp→VK→Prop:=fun xs H Q=>∃ w S ds,RS K w H S∧RDs K w H ds xs∧Post K E (RD K) w H (R.of S (f S ds)) Q
theorem se_op {op:Operator} {f:Sto→D→D→Option D} (ho:OpR X (binaryOp op) (xO X.K E f)) (ha:SE X E a ma) (hb:SE X E b mb):SE X E (.BinOp a op b pos) (eOp f ma mb):=⟨
 pe_weak (pe_op ho ha.out hb.out) fun s H Q zq=>ex6 zq fun w r S hr hS hp=>⟨w,r,S,hr,hS,hp.bind hS fun d S1 w1 H1 v x1 q1 s1 p1=>
  ⟨w1,r,S1,hr.ext x1,s1,p1.bind s1 fun e S2 w2 H2 u x2 q2 s2 p2=>⟨w2,S2,d,e,s2,RD.ext x2 d v q1,q2,p2⟩⟩⟩⟩
theorem se_un {op:UnaryOp} {f:Sto→D→Option D} (ho:UnR X (unaryOp op) (xU X.K E f)) (ha:SE X E a ma):SE X E (.UnaryOp op a pos) (eUn f ma):=⟨
 pe_weak (pe_un ho ha.out) fun s H Q zq=>ex6 zq fun w r S hr hS hp=>⟨w,r,S,hr,hS,hp.bind hS fun d S1 w1 H1 v x1 q1 s1 p1=>⟨w1,S1,d,s1,q1,p1⟩⟩⟩
theorem se_cmp {op:CmpOp} {f:Sto→D→D→Option D} (ho:OpR X (compareOp op) (xO X.K E f)) (ha:SE X E a ma) (hb:SE X E b mb) (hm:autoParam (behindInMarks op b=false) Au.h9._auto_1):
  SE X E (.Compare a [op] [b] pos) (eOp f ma mb):=⟨
 pe_weak (pe_cmpR ho ha.out hb.out hm) fun s H Q zq=>ex6 zq fun w r S hr hS hp=>⟨w,r,S,hr,hS,hp.bind hS fun d S1 w1 H1 v x1 q1 s1 p1=>
  ⟨w1,r,S1,hr.ext x1,s1,p1.bind s1 fun e S2 w2 H2 u x2 q2 s2 p2=>⟨w2,S2,d,e,s2,RD.ext x2 d v q1,q2,p2⟩⟩⟩⟩
theorem se_one {op} (h:SE X E a ma):SE X E (.BoolOp op [a] pos) ma:=⟨pe_one h.out⟩
theorem se_and {rest:List Expr} (ha:SE X E a ma) (hb:SE X E (.BoolOp .And (b :: rest) pos) mb):SE X E (.BoolOp .And (a :: b :: rest) pos) (eAnd ma mb):=⟨
 pe_weak (pe_and ha.out hb.out) fun s H Q zq=>ex6 zq fun w r S hr hS hp=>⟨w,r,S,hr,hS,hp.bind hS fun d S1 w1 H1 v x1 q1 s1 p1=>by
  cases d with
  | bl k=>
   unfold RD at q1
   subst q1
   refine ⟨k,rfl,?_⟩
   cases k with
   | true=>exact iteT ⟨w1,r,S1,hr.ext x1,s1,p1⟩
   | false=>exact iteF (Post.ret p1 (by unfold RD; rfl) s1)
  | _=>exact p1.elim⟩⟩
theorem se_not (ha:SE X E a ma):SE X E (.UnaryOp .Not a pos) (eNot ma):=⟨
 pe_weak (pe_not ha.out) fun s H Q zq=>ex6 zq fun w r S hr hS hp=>⟨w,r,S,hr,hS,hp.bind hS fun d S1 w1 H1 v x1 q1 s1 p1=>by
  cases d with
  | bl k=>
   unfold RD at q1
   subst q1
   exact ⟨k,rfl,Post.ret p1 (by unfold RD; rfl) s1⟩
  | _=>exact p1.elim⟩⟩
theorem se_if {mt:TM} (hc:ST X E c mt) (ha:SE X E a ma) (hb:SE X E b mb):SE X E (.IfExp c a b pos) (eIf mt ma mb):=⟨
 pe_weak (pe_ifExp hc.out ha.out hb.out) fun s H Q zq=>ex6 zq fun w r S hr hS hp=>⟨w,r,S,hr,hS,hp.bind hS fun k S1 w1 H1 v x1 q1 s1 p1=>by
  have e:v=k:=q1
  subst e
  cases v with
  | true=>exact iteT ⟨w1,r,S1,hr.ext x1,s1,p1⟩
  | false=>exact iteF ⟨w1,r,S1,hr.ext x1,s1,p1⟩⟩⟩
theorem uT_of {s:L2.St} {H:Hp} {Q:Bool→Hp→Prop} (h:uT X.K E (tV ma) s H Q):uE X.K E ma s H fun x H1=>∃ k,x=.bl k∧Q k H1:=by
 obtain ⟨w,r,S,hr,hS,hp⟩:=h
 exact ⟨w,r,S,hr,hS,hp.bind hS fun d S1 w1 H1 v x1 q1 s1 p1=>by
  cases d with
  | bl k=>
   unfold RD at q1
   exact ⟨k,q1,Post.ret p1 rfl s1⟩
  | _=>exact p1.elim⟩
theorem st_val (h:SE X E a ma) (he:autoParam (∀ whole,isTrue a X.env whole=(do let v ← whole; standAt a.pos; holding [v] (truthy v))) Au.h4._auto_1):ST X E a (tV ma):=⟨
 pt_weak (pt_val h.out he) fun s H Q q=>uT_of q⟩
theorem st_cmp {op:CmpOp} {f:Sto→D→D→Option D} (ho:OpR X (compareOp op) (xO X.K E f)) (ha:SE X E a ma) (hb:SE X E b mb) (hm:autoParam (behindInMarks op b=false) Au.h9._auto_1):
  ST X E (.Compare a [op] [b] pos) (tV (eOp f ma mb)):=⟨
 pt_weak (pt_cmpR ho ha.out hb.out hm) fun s H Q q=>by
  obtain ⟨w,r,S,hr,hS,hp⟩:=uT_of q
  exact ⟨w,r,S,hr,hS,hp.bind hS fun d S1 w1 H1 v x1 q1 s1 p1=>
   ⟨w1,r,S1,hr.ext x1,s1,p1.bind s1 fun e S2 w2 H2 u x2 q2 s2 p2=>⟨w2,S2,d,e,s2,RD.ext x2 d v q1,q2,p2⟩⟩⟩⟩
theorem sw_or1 {mt:TM} (ha:ST X E a mt):SW X E (.BoolOp .Or [a] pos) mt:=⟨pw_or1 ha.out⟩
theorem sw_or {mt mu:TM} {rest:List Expr} (ha:ST X E a mt) (hb:SW X E (.BoolOp .Or (b :: rest) pos) mu):SW X E (.BoolOp .Or (a :: b :: rest) pos) (PD.tOr mt mu):=⟨
 pw_weak (pw_or ha.out hb.out) fun s H Q zq=>ex6 zq fun w r S hr hS hp=>⟨w,r,S,hr,hS,hp.bind hS fun k S1 w1 H1 v x1 q1 s1 p1=>by
  have e:v=k:=q1
  subst e
  cases v with
  | false=>exact iteF ⟨w1,r,S1,hr.ext x1,s1,p1⟩
  | true=>exact iteT (Post.ret p1 rfl s1)⟩⟩
theorem sw_st {mt:TM} (h:SW X E a mt):ST X E a mt:=⟨PW.pt h.out⟩
theorem st_not {mt:TM} (ha:ST X E a mt):ST X E (.UnaryOp .Not a pos) (PD.tNot mt):=⟨
 pt_weak (pt_not ha.out) fun s H Q zq=>ex6 zq fun w r S hr hS hp=>⟨w,r,S,hr,hS,hp.bind hS fun k S1 w1 H1 v x1 q1 s1 p1=>by
  have e:v=k:=q1
  subst e
  exact Post.ret p1 rfl s1⟩⟩
theorem sa_nil:SA X E [] aNil:=⟨pa_weak pa_nil fun s H Q zq=>ex6 zq fun w r S hr hS hp=>Post.ret hp RDs.nil hS⟩
theorem sa_cons {es:List Expr} {ms:AM} (ha:SE X E a ma) (hrr:SA X E es ms) (hs:autoParam (starEach (a :: es) X.env=(false,eval a X.env) :: starEach es X.env) Au.h0._auto_1):SA X E (a :: es) (aCons ma ms):=⟨
 pa_weak (pa_cons ha.out hrr.out hs) fun s H Q zq=>ex6 zq fun w r S hr hS hp=>⟨w,r,S,hr,hS,hp.bind hS fun d S1 w1 H1 v x1 q1 s1 p1=>
  ⟨w1,r,S1,hr.ext x1,s1,p1.bind s1 fun e S2 w2 H2 u x2 q2 s2 p2=>Post.ret p2 (RDs.cons (RD.ext x2 d v q1) q2) s2⟩⟩⟩
theorem se_tup {es:List Expr} {ms:AM} {k} (h:SA X E es ms):SE X E (.Tuple es k pos) (eTup ms):=⟨
 pe_weak (pe_tup h.out) fun s H Q zq=>ex6 zq fun w r S hr hS hp=>⟨w,r,S,hr,hS,hp.bind hS fun ds S1 w1 H1 vs x1 q1 s1 p1=>by
  by_cases hl:ds.length≤sizeLine
  ·rw [if_pos hl] at p1
   refine ⟨by rw [q1.length]; exact hl,fun p hp=>?_⟩
   exact Post.at p1 (Ext.new hp) (by unfold RD; exact ⟨p,vs,rfl,.inl ⟨upd_same,s1.fresh hp⟩,RDs.ext (Ext.new hp) _ _ q1⟩) (s1.new hp)
  ·rw [if_neg hl] at p1; exact p1.elim⟩⟩
theorem se_lst {es:List Expr} {ms:AM} (h:SA X E es ms):SE X E (.List es pos) (eLst ms):=⟨
 pe_weak (pe_lst h.out) fun s H Q zq=>ex6 zq fun w r S hr hS hp=>⟨w,r,S,hr,hS,hp.bind hS fun ds S1 w1 H1 vs x1 q1 s1 p1=>by
  by_cases hl:ds.length≤sizeLine
  ·rw [if_pos hl] at p1
   refine ⟨by rw [q1.length]; exact hl,fun p hp=>?_⟩
   exact Post.at p1 (Ext.new hp) (by unfold RD; exact ⟨p,vs,rfl,⟨upd_same,s1.fresh hp⟩,RDs.ext (Ext.new hp) _ _ q1⟩) (s1.new hp)
  ·rw [if_neg hl] at p1; exact p1.elim⟩⟩
theorem RS.lastRef {K:PySem.W.Frag} {w:Wd} {H:Hp} {S:Sto} (s:RS K w H S) {p:Addr} {H':Hp}:RD K (w.add p) H' (.ref S.length) (.ref p):=by
 unfold RD
 exact ⟨p,rfl,by show (w.st ++ [p])[S.length]?=some p; rw [← s.len]; simp⟩
theorem se_new {es:List Expr} {ms:AM} (h:SA X E es ms):SE X E (.List es pos) (eNew ms):=⟨
 pe_weak (pe_lst h.out) fun s H Q zq=>ex6 zq fun w r S hr hS hp=>⟨w,r,S,hr,hS,hp.bind hS fun ds S1 w1 H1 vs x1 q1 s1 p1=>by
  by_cases hl:ds.length≤sizeLine
  ·rw [if_pos hl] at p1
   refine ⟨by rw [q1.length]; exact hl,fun p hp=>?_⟩
   exact Post.at p1 (Ext.alloc hp) s1.lastRef (s1.alloc hp ⟨vs,upd_same,RDs.ext (Ext.alloc hp) _ _ q1⟩)
  ·rw [if_neg hl] at p1; exact p1.elim⟩⟩
noncomputable def spM (K:PySem.W.Frag) (n:Nat) (f:FM):Sp:=fun vs H Q E=>vs.length=n∧∃ w S ds,RS K w H S∧RDs K w H ds vs∧Post K E (RD K) w H (f ds S) Q
variable {CX:CXT} {k n:Nat} {fa:Addr} {fd:FuncData} {ps:List Str} {f:FM} {x:Str} {p:Pos} {es:List Expr} {ms:AM}
theorem se_callB {id:String} {f:Sto→List D→Option D} (hc:CallR X (.builtin id) (xC X.K E f)) (hg:Gl X x) (hm:X.mg x=none) (hv:bootBuiltins x=some (.builtin id)) (ha:SA X E (a :: es) ms) (hn:autoParam (x ≠ "__name__") Au.h3._auto_1) (hdb:autoParam ((x == ("__debug__":Str))=false) Au.h3._auto_1)
  (he:autoParam (starEach (a :: es) X.env=(false,eval a X.env) :: starEach es X.env) Au.h0._auto_1) (hpl:autoParam ((backTo pos (starEach es X.env)).any (·.1)=false) Au.h0._auto_1):SE X E (.Call (.Name x p) (a :: es) [] pos) (eB f ms):=⟨
 pe_weak (pe_callB hc hg hm hv ha.out hn hdb he hpl) fun s H Q zq=>ex6 zq fun w r S hr hS hp=>⟨w,r,S,hr,hS,hp.bind hS fun ds S1 w1 H1 vs x1 q1 s1 p1=>⟨w1,S1,ds,s1,q1,p1⟩⟩⟩
theorem se_callTy {T:String} {f:Sto→List D→Option D} (hc:CallR X (.type T) (xC X.K E f)) (hg:Gl X x) (hm:X.mg x=none) (hv:bootBuiltins x=some (.type T)) (ha:SA X E (a :: es) ms) (hn:autoParam (x ≠ "__name__") Au.h3._auto_1) (hdb:autoParam ((x == ("__debug__":Str))=false) Au.h3._auto_1)
  (he:autoParam (starEach (a :: es) X.env=(false,eval a X.env) :: starEach es X.env) Au.h0._auto_1) (hpl:autoParam ((backTo pos (starEach es X.env)).any (·.1)=false) Au.h0._auto_1):SE X E (.Call (.Name x p) (a :: es) [] pos) (eB f ms):=⟨
 pe_weak (pe_callTy hc hg hm hv ha.out hn hdb he hpl) fun s H Q zq=>ex6 zq fun w r S hr hS hp=>⟨w,r,S,hr,hS,hp.bind hS fun ds S1 w1 H1 vs x1 q1 s1 p1=>⟨w1,S1,ds,s1,q1,p1⟩⟩⟩
variable {st:Stmt} {rest:List Stmt} {m m':SM}
theorem ss_nil:SSs X E [] sSkip:=⟨pss_weak pss_nil fun D s H zq=>ex6 zq fun w r S hr hS hp=>Post.ret (b:=FV.nx s) hp ⟨s,rfl,hr⟩ hS⟩
theorem ss_cons (h1:SS X E st m) (h2:SSs X E rest m'):SSs X E (st :: rest) (sSeq m m'):=⟨
 pss_weak (pss_cons h1.out h2.out) fun D s H zq=>ex6 zq fun w r S hr hS hp=>⟨w,r,S,hr,hS,hp.bind hS fun f S1 w1 H1 fv x1 q1 s1 p1=>by
  cases f with
  | nx r1=>obtain ⟨s',rfl,q⟩:=q1; exact ⟨w1,r1,S1,q,s1,p1⟩
  | rt d=>obtain ⟨v,rfl,q⟩:=q1; have z:=Post.ret (Q:=FV.to D) (rel:=RF X.K) (a:=F.rt d) (b:=FV.rt v) p1 ⟨v,rfl,q⟩ s1; exact z
  | bk r1=>obtain ⟨s',rfl,q⟩:=q1; have z:=Post.ret (Q:=FV.to D) (rel:=RF X.K) (a:=F.bk r1) (b:=FV.bk s') p1 ⟨s',rfl,q⟩ s1; exact z
  | ct r1=>obtain ⟨s',rfl,q⟩:=q1; have z:=Post.ret (Q:=FV.to D) (rel:=RF X.K) (a:=F.ct r1) (b:=FV.ct s') p1 ⟨s',rfl,q⟩ s1; exact z⟩⟩
theorem ss_one (h1:SS X E st m):SSs X E [st] m:=⟨pss_one h1.out⟩
theorem ss_never:SS X E st sBad:=⟨ps_weak ps_never fun D s H zq=>ex6 zq fun w r S hr hS hp=>hp.elim⟩
theorem ss_expr (ha:SE X E a ma) (hs:autoParam (swapsWith a none pos.line X.env=pure false) Au.h0._auto_1):SS X E (.Expr a pos) (sDrop ma):=⟨
 ps_weak (ps_expr ha.out hs) fun D s H zq=>ex6 zq fun w r S hr hS hp=>⟨w,r,S,hr,hS,hp.bind hS fun d S1 w1 H1 v x1 q1 s1 p1=>Post.ret (b:=FV.nx s) p1 ⟨s,rfl,hr.ext x1⟩ s1⟩⟩
theorem ss_ret (ha:SE X E a ma):SS X E (.Return (some a) pos) (sRet ma):=⟨
 ps_weak (ps_ret ha.out) fun D s H zq=>ex6 zq fun w r S hr hS hp=>⟨w,r,S,hr,hS,hp.bind hS fun d S1 w1 H1 v x1 q1 s1 p1=>Post.ret (b:=FV.rt v) p1 ⟨v,rfl,q1⟩ s1⟩⟩
theorem ss_if {mt:TM} {sa sb:List Stmt} (hc:ST X E c mt) (ha:SSs X E sa m) (hb:SSs X E sb m'):SS X E (.If c sa sb pos) (sIf mt m m'):=⟨
 ps_weak (ps_if hc.out ha.out hb.out) fun D s H zq=>ex6 zq fun w r S hr hS hp=>⟨w,r,S,hr,hS,hp.bind hS fun k S1 w1 H1 v x1 q1 s1 p1=>by
  have e:v=k:=q1
  subst e
  cases v with
  | true=>exact iteT ⟨w1,r,S1,hr.ext x1,s1,p1⟩
  | false=>exact iteF ⟨w1,r,S1,hr.ext x1,s1,p1⟩⟩⟩
theorem ss_set {i:Nat} {x:Str} {pos':Pos} (hN:X.N.Nodup) (hi:X.N[i]?=some x) (hx:Loc X.env.scope x) (ha:SE X E a ma) (hs:autoParam (swapsWith a (some (.Name x pos')) pos.line X.env=pure false) Au.h0._auto_1) (hf:autoParam (X.fn x=true ∨ X.env.scope.names.lookup x=some .local) Au.h7._auto_1):
  SS X E (.Assign [.Name x pos'] a pos) (sSet i ma):=⟨
 ps_weak (ps_set hN hi hx ha.out hs hf) fun D s H zq=>ex6 zq fun w r S hr hS hp=>⟨w,r,S,hr,hS,hp.bind hS fun d S1 w1 H1 v x1 q1 s1 p1=>
  Post.ret (b:=FV.nx (s.set i (some v))) p1 ⟨_,rfl,(hr.ext x1).set i q1⟩ s1⟩⟩
end
end PD
namespace PD
open PySem PySem.Spec PyProof.Rows L2
noncomputable def uG (K:PySem.W.Frag) (g:G):TG:=fun v s H Q=>∃ w r d r',RSt K w H r s∧RD K w H d v∧g.put d r=some r'∧∀ s',RSt K w H r' s'→Q s' H
noncomputable def uGs (K:PySem.W.Frag) (gs:List G):TGs:=fun vs s H Q=>∃ w r ds r',RSt K w H r s∧RDs K w H ds vs∧G.puts gs ds r=some r'∧∀ s',RSt K w H r' s'→Q s' H
noncomputable abbrev SG (X:Cx) (e:Expr) (g:G):Prop:=Bx (PG X e (uG X.K g))
noncomputable abbrev SGs (X:Cx) (es:List Expr) (gs:List G):Prop:=Bx (PGs X es (uGs X.K gs))
theorem pg_weak {X:Cx} {e:Expr} {t t':TG} (h:PG X e t) (k:∀ v s H Q,t' v s H Q→t v s H Q):PG X e t':=fun pins s σ H v u Q I r q=>h pins s σ H v u Q I r (k v σ H Q q)
theorem pgs_weak {X:Cx} {e:List Expr} {t t':TGs} (h:PGs X e t) (k:∀ v s H Q,t' v s H Q→t v s H Q):PGs X e t':=fun pins s σ H v u Q I r q=>h pins s σ H v u Q I r (k v σ H Q q)
theorem puts_len:∀ {gs:List G} {ds:List D} {r r':Rho},G.puts gs ds r=some r'→ds.length=gs.length
 | [],[],_,_,_=>rfl
 | [],_ :: _,_,_,h=>by simp [G.puts] at h
 | _ :: _,[],_,_,h=>by simp [G.puts] at h
 | g :: gs,d :: ds,r,r',h=>by
  unfold G.puts at h
  cases e:G.put g d r with
  | none=>rw [e] at h; cases h
  | some r1=>
   rw [e] at h
   have:=puts_len h
   simp [this]
section
variable {X:Cx} {E:XK} {a b c:Expr} {ma mb mc:EM} {pos:Pos}
theorem sg_name {i:Nat} {x:Str} (hN:X.N.Nodup) (hi:X.N[i]?=some x) (hx:Loc X.env.scope x) (hf:autoParam (X.fn x=true ∨ X.env.scope.names.lookup x=some .local) Au.h7._auto_1):SG X (.Name x pos) (.nm i):=⟨
 pg_weak (pg_name hN hi hx hf) fun v s H Q zq=>ex8 zq fun w r d r' hr q e k=>by
  unfold G.put at e
  cases e
  exact k _ (hr.set i q)⟩
theorem sgs_nil:SGs X [] []:=⟨
 pgs_weak pgs_nil fun v s H Q zq=>ex8 zq fun w r ds r' hr q e k=>by
  cases ds with
  | nil=>
   unfold G.puts at e
   cases e
   exact ⟨q.nil_inv,k s hr⟩
  | cons d ds=>simp [G.puts] at e⟩
theorem sgs_cons {e:Expr} {es:List Expr} {g:G} {gs:List G} (h1:SG X e g) (h2:SGs X es gs)
  (hs:autoParam ((assignEach (e :: es) X.env).map (·.2)=assign e X.env :: (assignEach es X.env).map (·.2)) Au.h0._auto_1):SGs X (e :: es) (g :: gs):=⟨
 pgs_weak (pgs_cons h1.out h2.out hs) fun v s H Q zq=>ex8 zq fun w r ds r' hr q e k=>by
  cases ds with
  | nil=>simp [G.puts] at e
  | cons d ds=>
   obtain ⟨v1,vs,rfl,q1,q2⟩:=q.cons_inv
   unfold G.puts at e
   cases e1:G.put g d r with
   | none=>rw [e1] at e; cases e
   | some r1=>
    rw [e1] at e
    exact ⟨v1,vs,rfl,w,r,d,r1,hr,q1,e1,fun s' hs'=>⟨w,r1,ds,r',hs',q2,e,k⟩⟩⟩
theorem SqT_of {K:PySem.W.Frag} {w:Wd} {H:Hp} {p:Addr} {vs:List V} (h:At w H p (.tup vs) ∨ KTup K p vs):SqT K H p vs:=h.elim (fun z=>SqT.of z.1) .inr
theorem sg_tup {es:List Expr} {k:Nat} {gs:List G} (hc:X.calm=true) (h:SGs X es gs)
  (hn:autoParam ((assignEach es X.env).length=gs.length) Au.h0._auto_1) (hst:autoParam ((assignEach es X.env).findIdx? (·.1)=none) Au.h0._auto_1):SG X (.Tuple es k pos) (.tp gs):=⟨
 pg_weak (pg_tup hc h.out hn hst) fun v s H Q zq=>ex8 zq fun w r d r' hr q e k=>by
  cases d with
  | tup ds=>
   unfold RD at q
   obtain ⟨p,vs,rfl,h1,q1⟩:=q
   unfold G.put at e
   exact ⟨p,vs,rfl,SqT_of h1,by rw [q1.length]; exact puts_len e,w,r,ds,r',hr,q1,e,k⟩
  | _=>simp [G.put] at e⟩
theorem ss_asg {tg:Expr} {g:G} (ha:SE X E a ma) (hg:SG X tg g) (hs:autoParam (swapsWithSole [tg] a pos.line X.env=pure false) Au.h0._auto_1) (hw:autoParam (swappedStores [tg] a X.env=pure none) Au.h0._auto_1)
  (h1:autoParam ((assignEach [tg] X.env).map (·.2)=[assign tg X.env]) Au.h0._auto_1):SS X E (.Assign [tg] a pos) (sAsg g ma):=⟨
 ps_weak (ps_asg ha.out hg.out hs hw h1) fun D s H zq=>ex6 zq fun w r S hr hS hp=>⟨w,r,S,hr,hS,hp.bind hS fun d S1 w1 H1 v x1 q1 s1 p1=>by
  cases e:g.put d r with
  | none=>rw [e] at p1; exact p1.elim
  | some r'=>
   rw [e] at p1
   exact ⟨w1,r,d,r',hr.ext x1,q1,e,fun s' hs'=>Post.ret (b:=FV.nx s') p1 ⟨s',rfl,hs'⟩ s1⟩⟩⟩
noncomputable def xS (K:PySem.W.Frag) (f:Sto→D→D→D→Option Sto):TSet:=fun o i v H Q=>∃ w S x y z S',RS K w H S∧RD K w H x o∧RD K w H y i∧RD K w H z v∧f S x y z=some S'∧∀ w' H',Ext w H w' H'→RS K w' H' S'→Q H'
theorem ss_put {f:Sto→D→D→D→Option Sto} {tpos:Pos} (hf:PSet X (xS X.K f)) (ha:SE X E a ma) (ho:SE X E b mb) (hi:SE X E c mc) (hs:autoParam (swapsWithSole [.Subscript b c tpos] a pos.line X.env=pure false) Au.h0._auto_1) (hw:autoParam (swappedStores [.Subscript b c tpos] a X.env=pure none) Au.h0._auto_1)
  (h1:autoParam ((assignEach [.Subscript b c tpos] X.env).map (·.2)=[assign (.Subscript b c tpos) X.env]) Au.h0._auto_1)
  (hz:autoParam (∀ v,assign (.Subscript b c tpos) X.env v=(do
   let ov ← holding [v] (eval b X.env)
   let iv ← holding [v,ov] (eval c X.env)
   standAt tpos
   holding [v,ov,iv] (setItem ov iv v)
   release [v,ov,iv] [])) Au.h4._auto_1):SS X E (.Assign [.Subscript b c tpos] a pos) (sPut f ma mb mc):=⟨
 ps_weak (ps_asg ha.out (pg_sub ho.out hi.out hf hz) hs hw h1) fun D s H zq=>ex6 zq fun w r S hr hS hp=>⟨w,r,S,hr,hS,hp.bind hS fun d S1 w1 H1 v x1 q1 s1 p1=>
  ⟨w1,r,S1,hr.ext x1,s1,p1.bind s1 fun e S2 w2 H2 u x2 q2 s2 p2=>⟨w2,r,S2,(hr.ext x1).ext x2,s2,p2.bind s2 fun t S3 w3 H3 y x3 q3 s3 p3=>by
   cases hf:f S3 e t d with
   | none=>rw [hf] at p3; exact p3.elim
   | some S4=>
    rw [hf] at p3
    exact ⟨w3,S3,e,t,d,S4,s3,RD.ext x3 _ _ q2,q3,RD.ext x3 _ _ (RD.ext x2 _ _ q1),hf,fun w' H' x4 s4=>Post.at (b:=FV.nx s) p3 x4 ⟨s,rfl,(((hr.ext x1).ext x2).ext x3).ext x4⟩ s4⟩⟩⟩⟩⟩
noncomputable def RI (K:PySem.W.Frag) (w:Wd) (H:Hp) (ds:List D) (J:It):Prop:=∀ (i:Nat) (w':Wd) (H':Hp),Ext w H w' H'→
 (i < ds.length→J.go i H'∧∀ x H'',J.yld i H' x H''→(H''=H' ∨ ∃ p o,H' p=none∧H''=upd H' p o)∧∀ S,RS K w' H' S→∃ d,ds[i]?=some d∧RD K w' H'' d x)∧(ds.length≤i→J.stop i H')
noncomputable def uI (K:PySem.W.Frag) (E:XK) (m:AM):TI:=fun s H Q=>∃ w r S,RSt K w H r s∧RS K w H S∧Post K E (RI K) w H (m r S) Q
noncomputable abbrev SIb (qb:Bool) (X:Cx) (E:XK) (tg iter:Expr) (m:AM):Prop:=Bx (PIb qb X tg iter (uI X.K E m))
noncomputable abbrev SI (X:Cx) (E:XK) (tg iter:Expr) (m:AM):Prop:=Bx (PI X tg iter (uI X.K E m))
theorem grown_ok {K:PySem.W.Frag} {w:Wd} {H H':Hp} {S:Sto} (h:H'=H ∨ ∃ p o,H p=none∧H'=upd H p o) (s:RS K w H S):Ext w H w H'∧RS K w H' S:=by
 rcases h with rfl | ⟨p,o,hp,rfl⟩
 ·exact ⟨Ext.refl _ _,s⟩
 ·exact ⟨Ext.new hp,s.new hp⟩
theorem ss_for {tg iter:Expr} {body:List Stmt} {it:AM} {g:G} {m:SM} (hp:PassesOwn (model X.prog X.w) X.A X.env X.xe) (hc:X.calm=true) (hi:SI X E tg iter it) (hg:SG X tg g) (hb:SSs X E body m)
  (hs:autoParam (∀ x,foldedSetIterable iter X.env x=pure x) Au.h4._auto_1):SS X E (.For tg iter body [] pos) (sFor it g m):=⟨
 ps_weak (ps_for hp hc hi.out hg.out hb.out hs) fun D s H zq=>ex6 zq fun w r S hr hS hp=>⟨w,r,S,hr,hS,hp.bind hS fun ds S1 w1 H1 J x1 q1 s1 p1=>by
  refine ⟨fun i n s' H'=>n=ds.length - i∧i≤ds.length∧∃ w' r' S',Ext w1 H1 w' H'∧RSt X.K w' H' r' s'∧RS X.K w' H' S'∧Post X.K E (RF X.K) w' H' (forL g m (ds.drop i) r' S') (FV.to D),
   ⟨ds.length,by simp,Nat.zero_le _,w1,r,S1,Ext.refl _ _,hr.ext x1,s1,p1⟩,?_⟩
  rintro i n s2 H2 ⟨rfl,hi.out,w2,r2,S2,x2,hr2,hS2,hp2⟩
  by_cases hlt:i < ds.length
  ·obtain ⟨go,yld⟩:=(q1 i w2 H2 x2).1 hlt
   refine .inr ⟨go,fun s' H'=>∃ w' r' S',Ext w1 H1 w' H'∧RSt X.K w' H' r' s'∧RS X.K w' H' S'∧Post X.K E (RF X.K) w' H' (forL g m (ds.drop (i + 1)) r' S') (FV.to D),
    fun s' H' hN=>⟨ds.length - (i + 1),by omega,rfl,hlt,hN⟩,fun x H3 hy=>?_⟩
   obtain ⟨gr,rd⟩:=yld x H3 hy
   obtain ⟨d,ed,qd⟩:=rd S2 hS2
   obtain ⟨x3,s3⟩:=grown_ok gr hS2
   have x13:Ext w1 H1 w2 H3:=x2.trans' x3 s1 hS2
   have hdrop:ds.drop i=d :: ds.drop (i + 1):=by
    rw [List.drop_eq_getElem_cons hlt]
    rw [List.getElem?_eq_getElem hlt] at ed
    cases ed; rfl
   rw [hdrop] at hp2
   have hp3:=Post.ext hp2 x3 hS2 s3
   unfold forL at hp3
   cases e:g.put d r2 with
   | none=>rw [e] at hp3; exact hp3.elim
   | some r3=>
    rw [e] at hp3
    refine ⟨w2,r2,d,r3,hr2.ext x3,qd,e,fun s4 hr4=>⟨w2,r3,S2,hr4,s3,?_⟩⟩
    refine Post.bind (rel:=RF X.K) hp3 s3 fun f S5 w5 H5 fv x5 q5 s5 p5=>?_
    cases f with
    | nx r6=>obtain ⟨s6,rfl,q6⟩:=q5; exact ⟨w5,r6,S5,x13.trans' x5 s1 s3,q6,s5,p5⟩
    | ct r6=>obtain ⟨s6,rfl,q6⟩:=q5; exact ⟨w5,r6,S5,x13.trans' x5 s1 s3,q6,s5,p5⟩
    | bk r6=>obtain ⟨s6,rfl,q6⟩:=q5; have z:=Post.ret (Q:=FV.to D) (rel:=RF X.K) (a:=F.nx r6) (b:=FV.nx s6) p5 ⟨s6,rfl,q6⟩ s5; exact z
    | rt d6=>obtain ⟨v6,rfl,q6⟩:=q5; have z:=Post.ret (Q:=FV.to D) (rel:=RF X.K) (a:=F.rt d6) (b:=FV.rt v6) p5 ⟨v6,rfl,q6⟩ s5; exact z
  ·have e:i=ds.length:=by omega
   subst e
   rw [List.drop_length] at hp2
   exact .inl ⟨(q1 _ w2 H2 x2).2 (Nat.le_refl _),Post.ret (b:=FV.nx s2) hp2 ⟨s2,rfl,hr2⟩ hS2⟩⟩⟩
noncomputable def aSeq (m:EM) (f:Sto→D→Option (List D)):AM:=fun r S=>(m r S).bind fun d S1=>R.of S1 (f S1 d)
noncomputable def itTup:Sto→D→Option (List D)
 | _,.tup ds=>some ds
 | _,_=>none
noncomputable def itLst:Sto→D→Option (List D)
 | _,.lst ds=>some ds
 | _,.fz ds=>some ds
 | _,_=>none
noncomputable def aRange1 (t:AM):AM:=fun r S=>(t r S).bind fun xs S1=>match xs with
 | [.int n]=>if n < 2 ^ 62∧-(2 ^ 62)≤n then .ok ((List.range n.toNat).map fun (i:Nat)=>D.int i) S1 else .bad
 | _=>.bad
theorem pi_weak {qb:Bool} {X:Cx} {tg e:Expr} {t t':TI} (h:PIb qb X tg e t) (k:∀ s H Q,t' s H Q→t s H Q):PIb qb X tg e t':=fun pins s σ H Q I q=>h pins s σ H Q I (k σ H Q q)
theorem si_tup {tg:Expr} (ha:SE X E a ma):SI X E tg a (aSeq ma itTup):=⟨
 pi_weak (pi_tup ha.out) fun s H Q zq=>ex6 zq fun w r S hr hS hp=>⟨w,r,S,hr,hS,hp.bind hS fun d S1 w1 H1 v x1 q1 s1 p1=>by
  cases d with
  | tup ds=>
   unfold RD at q1
   obtain ⟨p,vs,rfl,h1,q⟩:=q1
   refine ⟨p,rfl,⟨vs,SqT_of h1⟩,Post.ret p1 ?_ s1⟩
   intro i w' H' x'
   have h1':At w' H' p (.tup vs) ∨ KTup X.K p vs:=h1.imp x'.at id
   have q':=RDs.ext x' _ _ q
   refine ⟨fun hi=>⟨⟨vs,vs[i]'(by rw [q.length]; exact hi),SqT_of h1',List.getElem?_eq_getElem _⟩,fun x H'' y=>?_⟩,fun hi=>⟨vs,SqT_of h1',by rw [q.length]; exact hi⟩⟩
   obtain ⟨rfl,y⟩:=y
   refine ⟨.inl rfl,fun S _=>⟨ds[i],List.getElem?_eq_getElem hi,?_⟩⟩
   obtain ⟨v,e,rv⟩:=q'.get (List.getElem?_eq_getElem hi)
   rw [y vs (SqT_of h1')] at e
   cases e
   exact rv
  | _=>exact p1.elim⟩⟩
theorem si_lst {tg:Expr} (ha:SE X E a ma):SI X E tg a (aSeq ma itLst):=⟨
 pi_weak (pi_list ha.out) fun s H Q zq=>ex6 zq fun w r S hr hS hp=>⟨w,r,S,hr,hS,hp.bind hS fun d S1 w1 H1 v x1 q1 s1 p1=>by
  have main:∀ (ds:List D) (p:Addr) (vs:List V),RDs X.K w1 H1 ds vs→(∀ w' H',Ext w1 H1 w' H'→SqL X.K H' p vs)→RI X.K w1 H1 ds (Itl X.K p):=by
   intro ds p vs q sq i w' H' x'
   have q':=RDs.ext x' _ _ q
   refine ⟨fun hi=>⟨⟨vs,vs[i]'(by rw [q.length]; exact hi),sq _ _ x',List.getElem?_eq_getElem _⟩,fun x H'' y=>?_⟩,fun hi=>⟨vs,sq _ _ x',by rw [q.length]; exact hi⟩⟩
   obtain ⟨rfl,y⟩:=y
   refine ⟨.inl rfl,fun S _=>⟨ds[i],List.getElem?_eq_getElem hi,?_⟩⟩
   obtain ⟨v,e,rv⟩:=q'.get (List.getElem?_eq_getElem hi)
   rw [y vs (sq _ _ x')] at e
   cases e
   exact rv
  cases d with
  | lst ds=>
   unfold RD at q1
   obtain ⟨p,vs,rfl,h1,q⟩:=q1
   exact ⟨p,rfl,⟨vs,SqL.of h1.1⟩,Post.ret p1 (main ds p vs q fun w' H' x'=>SqL.of (x'.at h1).1) s1⟩
  | fz ds=>
   unfold RD at q1
   obtain ⟨p,vs,rfl,h1,q⟩:=q1
   exact ⟨p,rfl,⟨vs,h1.sq⟩,Post.ret p1 (main ds p vs q fun w' H' x'=>FzAt.sq (w:=w') (h1.imp (fun ⟨o,z⟩=>⟨o,x'.at z⟩) id)) s1⟩
  | _=>exact p1.elim⟩⟩
noncomputable def itSeq:Sto→D→Option (List D)
 | _,.tup ds=>some ds
 | _,.lst ds=>some ds
 | _,.fz ds=>some ds
 | _,_=>none
theorem pi_or {tg e:Expr} {t u:TI} (h1:PI X tg e t) (h2:PI X tg e u):PI X tg e (fun s H Q=>t s H Q ∨ u s H Q):=fun pins s σ H Q I q=>q.elim (h1 pins s σ H Q I) (h2 pins s σ H Q I)
theorem si_seq {tg:Expr} (ha:SE X E a ma):SI X E tg a (aSeq ma itSeq):=⟨
 pi_weak (pi_or (si_tup ha).out (si_lst ha).out) fun s H Q zq=>ex6 zq fun w r S hr hS hp=>by
  unfold aSeq at hp
  cases e:ma r S with
  | bad=>rw [e] at hp; exact hp.elim
  | err y S'=>rw [e] at hp; exact .inl ⟨w,r,S,hr,hS,by unfold aSeq; rw [e]; exact hp⟩
  | ok d S'=>
   rw [e] at hp
   cases d with
   | tup ds=>exact .inl ⟨w,r,S,hr,hS,by unfold aSeq; rw [e]; exact hp⟩
   | lst ds=>exact .inr ⟨w,r,S,hr,hS,by unfold aSeq; rw [e]; exact hp⟩
   | fz ds=>exact .inr ⟨w,r,S,hr,hS,by unfold aSeq; rw [e]; exact hp⟩
   | _=>exact hp.elim⟩
theorem si_range1 {qb:Bool} {tg:Expr} {ms:AM} {p:Pos} (hg:Gl X "range") (hm:X.mg "range" = none) (ha:SA X E [a] ms) (hs:autoParam (starEach [a] X.env=[(false,eval a X.env)]) Au.h0._auto_1):SIb qb X E tg (.Call (.Name "range" p) [a] [] pos) (aRange1 ms):=⟨
 pi_weak (pi_range1 hg hm ha.out hs) fun s H Q zq=>ex6 zq fun w r S hr hS hp=>⟨w,r,S,hr,hS,hp.bind hS fun ds S1 w1 H1 vs x1 q1 s1 p1=>by
  rcases ds with _ | ⟨d,_ | ⟨d',ds⟩⟩
  ·exact p1.elim
  ·cases d with
   | int n=>
    obtain ⟨v,rfl,q2⟩:=q1.one_inv
    unfold RD at q2
    subst q2
    by_cases hn:n < 2 ^ 62∧-(2 ^ 62)≤n
    ·have p2:Post X.K E (RI X.K) w1 H1 (if n < 2 ^ 62∧-(2 ^ 62)≤n then R.ok ((List.range n.toNat).map fun (i:Nat)=>D.int i) S1 else R.bad) Q:=p1
     rw [if_pos hn] at p2
     refine ⟨n,rfl,hn.2,hn.1,Post.ret p2 ?_ s1⟩
     intro i w' H' x'
     refine ⟨fun hi=>⟨show i < n.toNat by simpa using hi,fun x H'' y=>?_⟩,fun hi=>show n.toNat≤i by simpa using hi⟩
     obtain ⟨rfl,rfl⟩:=y
     refine ⟨.inl rfl,fun S _=>⟨.int i,?_,?_⟩⟩
     ·have:i < n.toNat:=by simpa using hi
      simp [this]
     ·unfold RD; simp
    ·have p2:Post X.K E (RI X.K) w1 H1 (if n < 2 ^ 62∧-(2 ^ 62)≤n then R.ok ((List.range n.toNat).map fun (i:Nat)=>D.int i) S1 else R.bad) Q:=p1
     rw [if_neg hn] at p2
     exact p2.elim
   | _=>exact p1.elim
  ·cases d <;> exact p1.elim⟩⟩
end
section
variable {P:Program} {w:World} {K:PySem.W.Frag} {mg:Str→Option Value} {base:Heap}
theorem start_rel {K:PySem.W.Frag} {w:Wd} {H:Hp} {N:List Str} {ds:List D} {vs:List V} (q:RDs K w H ds vs):RSt K w H (ds.map some ++ List.replicate (N.length - ds.length) none) (L2.start N vs):=by
 unfold L2.start
 refine ⟨by simp [q.length],fun i d e=>?_⟩
 by_cases hi:i < ds.length
 ·rw [List.getElem?_append_left (by simpa using hi),List.getElem?_map] at e
  rw [List.getElem?_append_left (by rw [List.length_map,q.length]; exact hi),List.getElem?_map]
  cases e1:ds[i]? with
  | none=>rw [e1] at e; cases e
  | some d'=>
   rw [e1] at e; cases e
   obtain ⟨v,ev,rv⟩:=q.get e1
   exact ⟨v,by rw [ev]; rfl,rv⟩
 ·rw [List.getElem?_append_right (by simpa using hi),List.getElem?_replicate] at e
  split at e <;> cases e
end
end PD
namespace PD
open PySem PySem.Spec PyProof.Rows L2
section
variable {prog:Program} {w:World} {A:Around} {R:Result→Shared→Prop} {s:Shared}
theorem compLoop_all {elt target iter:Expr} {ifs:List Expr} {scope:Scope} {pos:Pos} {it acc:Value} {env:Env} (I:Nat→Shared→Prop)
  (turn:∀ n s,I n s→wpAny (model prog w) A (pyNext it) (fun r s1=>match r with
   | none=>R (.ok .next) s1
   | some v=>wpAny (model prog w) A (letOwnedTupleGo target it v) (fun _ s1'=>wpAny (model prog w) A (assign target env v) (fun _ s2=>
     wpAny (model prog w) A (forIn ifs true fun c r=>if r=true then do let ok ← isTrue c env (eval c env); pure (ForInStep.yield ok) else pure (ForInStep.yield r)) (fun ok s3=>
      if ok=true then wpAny (model prog w) A (eval elt env) (fun x s4=>
       wpAny (model prog w) A (call (.builtin "list.append") [acc,x]) (fun _ s5=>∃ m,m < n∧I m s5) (fun _ _=>False) s4) (fun _ _=>False) s3
      else ∃ m,m < n∧I m s3) (fun _ _=>False) s2) (fun _ _=>False) s1') (fun _ _=>False) s1) (fun _ _=>False) s)
  (n:Nat) (h:I n s):
  codeAny (model prog w) A (.compLoop (.ListComp elt [⟨target,iter,ifs,0⟩] scope pos) 0 it acc env) R s:=by
 refine codeAny_loop rfl I (fun n s hI=>?_) n h
 show wpAny _ A ((compTurn (.ListComp elt [⟨target,iter,ifs,0⟩] scope pos) 0 it acc env).onRaise (fun x=>do noteFrame x env; theTreesLotGoes x)) _ _ s
 refine wpAny_noted ?_
 rw [compTurn_list]
 refine wpAny_bind (wpAny_standAt (wpAny_bind (wpAny_mono (turn n s hI) (fun r s1 h1=>?_) fun _ _ h'=>h'.elim)))
 cases r with
 | none=>exact wpAny_pure h1
 | some v=>
  refine wpAny_bind (wpAny_mono h1 (fun _ s1' h1'=>?_) fun _ _ h'=>h'.elim)
  refine wpAny_bind (wpAny_mono h1' (fun _ s2 h2=>wpAny_bind (wpAny_mono h2 (fun ok s3 h3=>?_) fun _ _ h'=>h'.elim)) fun _ _ h'=>h'.elim)
  cases ok with
  | false=>exact wpAny_pure ⟨rfl,h3⟩
  | true=>
   exact wpAny_bind (wpAny_bind (wpAny_mono h3 (fun x s4 h4=>wpAny_bind (wpAny_mono h4 (fun _ s5 h5=>wpAny_pure (wpAny_pure ⟨rfl,h5⟩)) fun _ _ h'=>h'.elim)) fun _ _ h'=>h'.elim))
end
noncomputable def PIfs (X:Cx) (ifs:List Expr) (t:TT):Prop:=
 ∀ (pins:List (Addr × Obj)) (s:Shared) (σ:L2.St) (H:Hp) (Q:Bool→Hp→Prop),Inv X pins σ H s→t σ H Q→
  wpAny (model X.prog X.w) X.A (forIn ifs true fun c r=>if r=true then do let ok ← isTrue c X.env (eval c X.env); pure (ForInStep.yield ok) else pure (ForInStep.yield r)) (TP X pins σ Q) X.xe s
theorem pifs_nil {X:Cx}:PIfs X [] (fun _ H Q=>Q true H):=fun pins s σ H Q I h=>wpAny_tests_nil ⟨H,I,h⟩
noncomputable def cxC (X:Cx) (N:List Str) (scope:Scope) (cl:List (Str × Addr)) (s0:Shared) (H0:Hp) (ex:List Addr):Cx:=
 { X with N:=N,s₀:=s0,H₀:=H0,env:=compEnvC scope cl s0.heap.objs.size X.env,outer:=X.stack,ex:=ex,fn:=fun _=>false }
noncomputable def capSt (k:Nat) (caps:List Nat) (s:L2.St):L2.St:=List.replicate k none ++ caps.map fun i=>(s[i]?).join
structure CompScope (X:Cx) (N:List Str) (k:Nat) (caps:List Nat) (scope:Scope):Prop where
 kind:scope.kind=.function
 nocell:∀ x ∈ scope.names,x.2 ≠ .cell
 names:∀ x ∈ scope.names,x.2=.local→scope.names.lookup x.1=some .local
 free:∀ x ∈ scope.names,x.2=.free→X.env.kindOf x.1=some .cell ∨ X.env.kindOf x.1=some .free
 len:N.length=k + caps.length
 cap:∀ t i,caps[t]?=some i→∃ x,X.N[i]?=some x∧N[k + t]?=some x∧scope.names.lookup x=some .free
theorem mem_of_lookup' {A B:Type} [BEq A] [LawfulBEq A]:∀ {l:List (A × B)} {x:A} {b:B},l.lookup x=some b→(x,b) ∈ l
 | [],_,_,h=>by simp at h
 | (y,c) :: r,x,b,h=>by
  rw [List.lookup_cons] at h
  cases e:x == y with
  | true=>
   rw [e] at h
   have:=eq_of_beq e
   subst this
   cases h
   exact List.mem_cons_self
  | false=>
   rw [e] at h
   exact List.mem_cons_of_mem _ (mem_of_lookup' h)
theorem closure_ok {env:Env}:∀ (names:List (Str × NameKind)) (cs:List (Str × Addr)),(∀ x ∈ names,x.2=.free→∃ c,env.cells.lookup x.1=some c)→
  ∃ cl,(forIn names cs fun (x:Str × NameKind) (r:List (Str × Addr))=>(if x.2 == NameKind.free then do let a ← cellOf env x.1; pure (ForInStep.yield ((x.1,a) :: r)) else pure (ForInStep.yield r):Sem (ForInStep (List (Str × Addr)))))=pure cl∧
   (∀ p ∈ cl,p ∈ cs ∨ env.cells.lookup p.1=some p.2)∧(∀ p ∈ cs,p ∈ cl)∧∀ x ∈ names,x.2=.free→∃ c,(x.1,c) ∈ cl
 | [],cs,_=>⟨cs,rfl,fun p h=>.inl h,fun p h=>h,fun x h=>nomatch h⟩
 | (n,k) :: r,cs,h=>by
  by_cases hk:k=.free
  ·subst hk
   obtain ⟨c,hc⟩:=h (n,.free) List.mem_cons_self rfl
   obtain ⟨cl,e,h1,h2,h3⟩:=closure_ok r ((n,c) :: cs) fun x hx=>h x (List.mem_cons_of_mem _ hx)
   refine ⟨cl,?_,fun p hp=>?_,fun p hp=>h2 p (List.mem_cons_of_mem _ hp),fun x hx hf=>?_⟩
   ·rw [List.forIn_cons]
    have hco:cellOf env n=pure c:=by unfold cellOf; rw [hc]
    simp only [beq_self_eq_true,if_true,hco,pure_bind]
    exact e
   ·rcases h1 p hp with z | z
    ·rcases List.mem_cons.mp z with z | z
     ·subst z; exact .inr hc
     ·exact .inl z
    ·exact .inr z
   ·rcases List.mem_cons.mp hx with z | z
    ·subst z; exact ⟨c,h2 _ List.mem_cons_self⟩
    ·exact h3 x z hf
  ·obtain ⟨cl,e,h1,h2,h3⟩:=closure_ok r cs fun x hx=>h x (List.mem_cons_of_mem _ hx)
   have hb:(k == NameKind.free)=false:=by simpa using hk
   refine ⟨cl,?_,h1,h2,fun x hx hf=>?_⟩
   ·rw [List.forIn_cons]
    simp only [hb,Bool.false_eq_true,if_false,pure_bind]
    exact e
   ·rcases List.mem_cons.mp hx with z | z
    ·subst z; exact absurd hf hk
    ·exact h3 x z hf
theorem closure_for {scope:Scope} {env:Env} (h:∀ x ∈ scope.names,x.2=.free→∃ c,env.cells.lookup x.1=some c):
  ∃ cl,closureFor scope env=pure cl∧(∀ x c,cl.lookup x=some c→env.cells.lookup x=some c)∧∀ x ∈ scope.names,x.2=.free→∃ c,cl.lookup x.1=some c:=by
 obtain ⟨cl,e,h1,h2,h3⟩:=closure_ok (env:=env) scope.names [] h
 refine ⟨cl,?_,fun x c hx=>?_,fun x hx hf=>?_⟩
 ·unfold closureFor
  show ((forIn scope.names [] fun (x:Str × NameKind) (r:List (Str × Addr))=>(if x.2 == NameKind.free then do let a ← cellOf env x.1; pure (ForInStep.yield ((x.1,a) :: r)) else pure (ForInStep.yield r):Sem (ForInStep (List (Str × Addr))))) >>= fun l=>pure l)=pure cl
  rw [e,pure_bind]
 ·rcases h1 _ (mem_of_lookup' hx) with z | z
  ·exact nomatch z
  ·exact z
 ·obtain ⟨c,hc⟩:=h3 x hx hf
  cases e2:cl.lookup x.1 with
  | some c'=>exact ⟨c',rfl⟩
  | none=>
   rw [List.lookup_eq_none_iff] at e2
   have:=e2 _ hc
   simp at this
theorem relabel_mem {scope:Scope} {env:Env} {x:Str} {k:NameKind} (h:(relabel scope env).names.lookup x=some k):(x,k) ∈ scope.names ∨ (k=.cell∧(x,NameKind.free) ∈ scope.names):=by
 have m:=mem_of_lookup' h
 obtain ⟨⟨n,j⟩,hn,e⟩:=List.mem_map.mp m
 dsimp only at e
 split at e
 ·rename_i hc
  cases e
  have:j=NameKind.free:=by
   have:=(Bool.and_eq_true _ _ |>.mp (Bool.and_eq_true _ _ |>.mp hc).1).1
   simpa using this
  subst this
  exact .inr ⟨rfl,hn⟩
 ·cases e
  exact .inl hn
theorem relabel_free {scope:Scope} {env:Env} {x:Str}:∀ {names:List (Str × NameKind)},names.lookup x=some .free→
  ((names.map fun (n,k)=>if (k == NameKind.free && env.scope.kind == .function && env.kindOf n == some .cell) then (n,NameKind.cell) else (n,k)).lookup x=some .cell) ∨
  ((names.map fun (n,k)=>if (k == NameKind.free && env.scope.kind == .function && env.kindOf n == some .cell) then (n,NameKind.cell) else (n,k)).lookup x=some .free)
 | [],h=>by simp at h
 | (n,k) :: r,h=>by
  have ih:=@relabel_free scope env x r
  simp only [List.map_cons]
  cases hx:x == n with
  | true=>
   simp only [List.lookup_cons,hx] at h
   cases h
   by_cases hc:(NameKind.free == NameKind.free && env.scope.kind == .function && env.kindOf n == some .cell)=true
   ·left; rw [if_pos hc]; simp [List.lookup_cons,hx]
   ·right; rw [if_neg hc]; simp [List.lookup_cons,hx]
  | false=>
   simp only [List.lookup_cons,hx] at h
   by_cases hc:(k == NameKind.free && env.scope.kind == .function && env.kindOf n == some .cell)=true
   ·rw [if_pos hc]; simp only [List.lookup_cons,hx]; exact ih h
   ·rw [if_neg hc]; simp only [List.lookup_cons,hx]; exact ih h
section
variable {X:Cx} {pins:List (Addr × Obj)} {σ:L2.St} {H:Hp} {s:Shared}
theorem comp_start {N:List Str} {k:Nat} {caps:List Nat} {scope:Scope} {cl:List (Str × Addr)} {fp:List Addr} {h':Heap} {m:Str→Option Value} {t:Nat} (I:Inv X pins σ H s) (C:CompScope X N k caps scope)
  (hcl:∀ x c,cl.lookup x=some c→X.env.cells.lookup x=some c) (hcf:∀ x ∈ scope.names,x.2=.free→∃ c,cl.lookup x.1=some c)
  (hfp:∀ b ∈ fp,FpOk X pins H b∧b < s.heap.objs.size) (hn:h'.Ns s.heap.objs.size m) (hk:∀ b o,s.heap.get? b=some o→h'.get? b=some o):
  Inv (cxC X N scope cl s H fp) pins (capSt k caps σ) H { s with heap:=h',toks:=t }:=by
 have hfs:∀ b,b ∈ frs X.stack→b < s.heap.objs.size:=fun b hb=>by
  obtain ⟨_,o,ho,_⟩:=I.stack.mem hb
  exact Heap.lt_size ho
 refine ⟨⟨I.ok.mod,C.kind,I.ok.glob,I.ok.blt,Nat.le_refl _,fun x y c h1 h2=>I.ok.inj x y c (hcl x c h1) (hcl y c h2),fun x hx=>?_,(fun x c h=>nomatch h),I.ok.hd,I.ok.frames,.inl rfl,fun b hb=>?_,fun b o e=>?_,?_,fun b o e hb=>?_,fun b hb=>?_,I.stack,fun b hb=>I.stkFree b hb⟩,
  rfl,I.bare,Un.kept hk,?_,fun x c e=>?_,I.hok.fresh (Nat.le_refl _),fun x c e=>I.freeC x c (hcl x c e),fun p hp=>?_,I.hok.kept hk,?_⟩
 ·-- has
  have key:∀ kk,(kk=NameKind.cell ∨ kk=NameKind.free)→(relabel scope X.env).names.lookup x=some kk→∃ c,cl.lookup x=some c:=fun kk hkk hl=>by
   rcases relabel_mem hl with z | ⟨_,z⟩
   ·rcases hkk with q | q
    ·subst q; exact absurd rfl (C.nocell _ z)
    ·subst q; exact hcf _ z rfl
   ·exact hcf _ z rfl
  rcases hx with z | z
  ·exact key _ (.inl rfl) z
  ·exact key _ (.inr rfl) z
 ·obtain ⟨f,lt⟩:=hfp b hb
  exact ⟨Nat.ne_of_lt lt,fun x c e=>f.2.2.2.2.1 x c (hcl x c e)⟩
 ·exact I.bs b o e
 ·exact Nat.le_trans I.ok.bsz I.sz
 ·obtain ⟨f,lt⟩:=hfp b hb
  rcases f.2.2.2.1 with z | z
  ·exact I.ok.noex b o e z
  ·exact absurd (Nat.lt_of_lt_of_le (Heap.lt_size e) (Nat.le_trans I.ok.bsz z)) (Nat.lt_irrefl _)
 ·obtain ⟨f,lt⟩:=hfp b hb
  intro z
  rcases List.mem_cons.mp (I.stkSub b z) with q | q
  ·exact f.2.1 q
  ·exact f.2.2.1 q
 ·obtain ⟨m0,hn0,hl0⟩:=I.loc
  refine ⟨m,hn,fun i x v e1 e2 e3=>?_⟩
  unfold capSt at e2
  by_cases hi:i < k
  ·rw [List.getElem?_append_left (by simpa using hi),List.getElem?_replicate] at e2
   split at e2 <;> cases e2
  ·rw [List.getElem?_append_right (by simpa using hi),List.getElem?_map,List.length_replicate] at e2
   cases ec:caps[i - k]? with
   | none=>rw [ec] at e2; cases e2
   | some j=>
    rw [ec] at e2
    have e2':(σ[j]?).join=some v:=Option.some.inj e2
    obtain ⟨y,hy1,hy2,hy3⟩:=C.cap _ _ ec
    have e1':N[i]?=some x:=e1
    rw [show k + (i - k)=i by omega] at hy2
    rw [hy2] at e1'
    have exy:y=x:=Option.some.inj e1'
    subst exy
    have hfr:(y,NameKind.free) ∈ scope.names:=mem_of_lookup' hy3
    have hsj:σ[j]?=some (some v):=by
     cases q:σ[j]? with
     | none=>rw [q] at e2'; cases e2'
     | some o=>rw [q] at e2'; rw [show o=some v from e2']
    have kinds:=C.free _ hfr rfl
    have hvis:Vis X.env.scope y:=by
     rcases kinds with z | z
     ·exact .inr (.inl z)
     ·exact .inr (.inr z)
    obtain ⟨u,ru,lk⟩:=hl0 j y v hy1 hsj hvis
    refine ⟨u,ru,?_⟩
    rcases lk with ⟨z,_⟩ | ⟨_,c,hc,hcell⟩
    ·rcases kinds with q | q <;> (rw [q] at z; cases z)
    ·obtain ⟨c',hc'⟩:=hcf _ hfr rfl
     have:=hcl _ _ hc'
     rw [hc] at this
     cases this
     refine .inr ⟨?_,c,hc',hcell.keeps hk⟩
     exact relabel_free (scope:=scope) (env:=X.env) hy3
 ·obtain ⟨v,z⟩:=I.cell x c (hcl x c e)
  exact ⟨v,z.keeps hk⟩
 ·obtain ⟨e,n,ne,nf,d⟩:=I.pin p hp
  refine ⟨hk _ _ e,n,Nat.ne_of_lt (Heap.lt_size e),fun z=>?_,d⟩
  rcases List.mem_cons.mp (I.stkSub _ z) with q | q
  ·exact ne q
  ·exact nf q
 ·unfold capSt
  show _=N.length
  rw [C.len]
  simp
end
noncomputable def tComp (wi:TI) (k:Nat) (caps:List Nat) (g:TG) (tt:TT) (te:TE):TE:=fun σ H Q=>wi σ H fun J H1=>∀ p,H1 p=none→∃ W:Nat→Nat→L2.St→Hp→Prop,(∃ m,W 0 m (capSt k caps σ) (upd H1 p (.lst [])))∧∀ i m σ' H',W i m σ' H'→
 (J.stop i H'∧Q (.ref p) H') ∨ (J.go i H'∧∃ N:L2.St→Hp→Prop,(∀ σ2 H2,N σ2 H2→∃ m',m' < m∧W (i + 1) m' σ2 H2)∧
  ∀ x H3,J.yld i H' x H3→g x σ' H3 fun σ4 H4=>tt σ4 H4 fun b H5=>if b=true then te σ4 H5 fun y H6=>∃ ys,H6 p=some (.lst ys)∧ys.length < sizeLine∧N σ4 (upd H6 p (.lst (ys ++ [y]))) else N σ4 H5)
theorem pe_compQ {qb:Bool} {X:Cx} {elt tg iter:Expr} {ifs:List Expr} {scope:Scope} {pos:Pos} {N:List Str} {k:Nat} {caps:List Nat} {wi:TI} {g:TG} {tt:TT} {te:TE} (hX:Cd qb X) (hxe:∀ e s,¬ X.xe e s) (C:CompScope X N k caps scope)
  (hi:PIb qb X tg iter wi) (hg:∀ cl s0 H0 ex,Cd qb (cxC X N scope cl s0 H0 ex)→PG (cxC X N scope cl s0 H0 ex) tg g) (ht:∀ cl s0 H0 ex,Cd qb (cxC X N scope cl s0 H0 ex)→PIfs (cxC X N scope cl s0 H0 ex) ifs tt) (he:∀ cl s0 H0 ex,Cd qb (cxC X N scope cl s0 H0 ex)→PE (cxC X N scope cl s0 H0 ex) elt te)
  (hs:autoParam (∀ x,foldedSetIterable iter X.env x=pure x) Au.h4._auto_1):PE X (.ListComp elt [⟨tg,iter,ifs,0⟩] scope pos) (tComp wi k caps g tt te):=by
 intro pins s σ H Q I h
 have noX:∀ {α:Type} {t:Sem α} {Q':α→Shared→Prop} {s':Shared},wpAny (model X.prog X.w) X.A t Q' X.xe s'→wpAny (model X.prog X.w) X.A t Q' (fun _ _=>False) s':=fun h=>wpAny_mono h (fun _ _ x=>x) fun e s z=>hxe e s z
 obtain ⟨cl,hclos,hcl,hcf⟩:=closure_for (scope:=scope) (env:=X.env) fun x hx hf=>I.ok.has _ (C.free x hx hf)
 rw [eval_ListComp]
 refine wpAny_comprehension_free (use:=none) (cl:=cl) rfl hs hclos C.kind C.names ?_
 refine thn (hi pins s σ H _ I h) fun v s1 h1=>thn h1 fun itv s2 h2=>?_
 obtain ⟨it,fp,tn,J,H2,e,I2,T,st2,f2,q⟩:=h2
 subst e
 refine wpAny_newList (items:=[]) ?_ (by show 0≤sizeLine; exact Nat.zero_le _)
 have hp:H2 s2.heap.objs.size=none:=I2.hok.fresh (Nat.le_refl _)
 obtain ⟨W,⟨m0,w0⟩,turn⟩:=q _ hp
 have I3:Inv X pins σ (upd H2 s2.heap.objs.size (.lst [])) { s2 with heap:=s2.heap.push { cls:=.type "list",data:=.seq ([]:List Value).toArray } }:=
  I2.laid (t':=s2.toks) (fun b u e=>Heap.get?_push_of_some _ e) (Nat.le_refl _) ⟨Nat.zero_le _,[],0,.nil,Heap.get?_push_size _ rfl⟩
 refine wpAny_newFunctionEnv C.nocell (fun x hx=>nomatch hx) (fun h4 hn4 hs4=>?_) C.kind
 have ltfp:∀ b ∈ fp,b < s2.heap.objs.size:=fun b hb=>by
  obtain ⟨o,ho,_⟩:=T.obj _ _ st2 b hb
  exact Heap.lt_size ho
 have hk4:∀ b o,(s2.heap.push { cls:=.type "list",data:=.seq ([]:List Value).toArray }).get? b=some o→h4.get? b=some o:=fun b o e=>by
  have ne:b ≠ (s2.heap.push { cls:=.type "list",data:=.seq ([]:List Value).toArray }).objs.size:=Nat.ne_of_lt (Heap.lt_size e)
  rw [hs4.2 b ne]
  exact Heap.get?_push_of_some _ e
 have f3:∀ b ∈ fp,FpOk X pins (upd H2 s2.heap.objs.size (.lst [])) b:=fun b hb=>by
  obtain ⟨a1,a2⟩:=f2 b hb
  exact ⟨by rw [upd_ne (Nat.ne_of_lt (ltfp b hb))]; exact a1,a2⟩
 have I4:=comp_start (N:=N) (k:=k) (caps:=caps) (scope:=scope) (cl:=cl) (fp:=fp) (t:=s2.toks + 0) I3 C hcl hcf (fun b hb=>⟨f3 b hb,by rw [show ({ s2 with heap:=s2.heap.push { cls:=.type "list",data:=.seq ([]:List Value).toArray } }:Shared).heap.objs.size=s2.heap.objs.size + 1 from Heap.size_push ..]; exact Nat.lt_succ_of_lt (ltfp b hb)⟩) hn4 hk4
 have tn4:tn 0 h4:=T.keep _ _ _ st2 fun b hb o e=>hk4 b o (Heap.get?_push_of_some _ e)
 have loop:codeAny (model X.prog X.w) X.A (.compLoop (.ListComp elt [⟨tg,iter,ifs,0⟩] scope pos) 0 (.ref it) (.ref s2.heap.objs.size) (compEnvC scope cl ({ s2 with heap:=s2.heap.push { cls:=.type "list",data:=.seq ([]:List Value).toArray } }:Shared).heap.objs.size X.env))
   (compPost (model X.prog X.w) X.A X.xe none (EP X pins σ Q) (.ref s2.heap.objs.size) ({ s2 with heap:=s2.heap.push { cls:=.type "list",data:=.seq ([]:List Value).toArray } }:Shared).heap.objs.size) { s2 with heap:=h4,toks:=s2.toks + 0 }:=by
  generalize hs3:({ s2 with heap:=s2.heap.push { cls:=.type "list",data:=.seq ([]:List Value).toArray } }:Shared)=s3 at *
  have sz3:s2.heap.objs.size≤s3.heap.objs.size:=by rw [← hs3]; show _≤(s2.heap.push _).objs.size; rw [Heap.size_push]; exact Nat.le_succ _
  have k23:∀ b o,s2.heap.get? b=some o→s3.heap.get? b=some o:=fun b o e=>by rw [← hs3]; exact Heap.get?_push_of_some _ e
  have hos:s3.os=s2.os:=by rw [← hs3]
  have stat:∀ {H':Hp},(∀ b ∈ fp,H' b=none)→∀ b ∈ fp,FpOk (cxC X N scope cl s3 (upd H2 s2.heap.objs.size (.lst [])) fp) pins H' b:=fun {H'} hn b hb=>by
   obtain ⟨a1,a2,a3,a4,a5,a6⟩:=f3 b hb
   refine ⟨hn b hb,Nat.ne_of_lt (Nat.lt_of_lt_of_le (ltfp b hb) sz3),fun z=>?_,.inl hb,fun x c e=>a5 x c (hcl x c e),a6⟩
   rcases List.mem_cons.mp (I2.stkSub b z) with q | q
   ·exact a2 q
   ·exact a3 q
  have I4':Inv (cxC X N scope cl s3 (upd H2 s2.heap.objs.size (.lst [])) fp) pins (capSt k caps σ) (upd H2 s2.heap.objs.size (.lst [])) { s2 with heap:=h4,toks:=s2.toks + 0 }:=by subst hs3; exact I4
  have hX2:Cd qb (cxC X N scope cl s3 (upd H2 s2.heap.objs.size (.lst [])) fp):=by
   rcases hX with z | ⟨z,y | ⟨a,o,u,e1,e2,e3⟩⟩
   ·exact .inl z
   ·exact .inr ⟨z,.inl y⟩
   ·refine .inr ⟨z,.inr ⟨a,o,u,e1,?_,e3⟩⟩
    have q0:=I2.base.frzs a o u e2
    show upd H2 s2.heap.objs.size (.lst []) a=_
    rw [upd_ne (fun y=>by rw [y,hp] at q0; cases q0)]
    exact q0
  refine compLoop_all (fun n s'=>∃ i σ' H',Inv (cxC X N scope cl s3 (upd H2 s2.heap.objs.size (.lst [])) fp) pins σ' H' s'∧tn i s'.heap∧(∀ b ∈ fp,H' b=none)∧W i n σ' H') ?_ m0 ⟨0,_,_,I4',tn4,fun b hb=>(f3 b hb).1,w0⟩
  rintro n s5 ⟨i,σ5,H5,I5,st5,fr5,w5⟩
  rcases turn i n σ5 H5 w5 with ⟨stop,qn⟩ | ⟨go,Nn,hN,step⟩
  ·refine thn (T.done (cxC X N scope cl s3 (upd H2 s2.heap.objs.size (.lst [])) fp) rfl rfl rfl hX2 i pins s5 σ5 H5 _ I5 (stat fr5) st5 stop) fun r s6 zq=>?_
   obtain ⟨hr,I6⟩:=zq
   subst hr
   obtain ⟨m6,hn6,_⟩:=I6.loc
   refine ⟨m6,hn6,fun h7 hs7=>⟨.ref s2.heap.objs.size,H5,?_,rfl,qn⟩⟩
   have u1:Un (frs X.stack) fp H2 (upd H2 s2.heap.objs.size (.lst [])) s2.heap s3.heap:=Un.laid k23 (Nat.le_refl _) hp
   have u2:Un (frs X.stack) fp H2 H5 s2.heap s6.heap:=u1.trans I6.base
   have neC:∀ b o,s2.heap.get? b=some o→b ≠ s3.heap.objs.size:=fun b o e=>Nat.ne_of_lt (Nat.lt_of_lt_of_le (Heap.lt_size e) sz3)
   have hfree:H5 s3.heap.objs.size=none:=I6.free
   refine I2.call' (s':={ s6 with heap:=h7 }) (ch:=fp) (by rw [← hos]; exact I6.os) ⟨fun b o e n hb hx=>?_,fun b o e n hb hx=>?_,u2.free,fun b o e hx=>?_,u2.tups,u2.frzs,u2.tbls⟩ (fun b ob e=>?_) I6.bare fun b hb=>?_
   ·exact (hs7.2 b (neC b o e)).trans (u2.keep b o e n hb hx)
   ·obtain ⟨sl,e1⟩:=u2.slot b o e n hb hx
    exact ⟨sl,(hs7.2 b (neC b o e)).trans e1⟩
   ·obtain ⟨o',e1⟩:=u2.there b o e hx
    exact ⟨o',(hs7.2 b (neC b o e)).trans e1⟩
   ·refine (I6.hok b ob e).stay (fun c v hc z=>(hs7.2 c ?_).trans z) (fun _ z=>z) fun _ _ z=>z
    intro y
    rcases hc with z | z
    ·rw [← z,y,hfree] at e; cases e
    ·rw [y,hfree] at z; cases z
   ·obtain ⟨a1,a2,a3,a4,a5,a6⟩:=f2 b hb
    exact ⟨a4,a2,a5,a6⟩
  ·refine thn (T.item (cxC X N scope cl s3 (upd H2 s2.heap.objs.size (.lst [])) fp) rfl rfl rfl hX2 i pins s5 σ5 H5 _ I5 (stat fr5) st5 go) fun r s6 zq=>?_
   obtain ⟨u,hr,h6⟩:=zq
   subst hr
   refine thn h6 fun _ s7 zq=>?_
   obtain ⟨x,H7,I7,r7,y7,st7,fr7⟩:=zq
   have I7':=I7.pinned (stat fr7) (T.obj _ _ st7)
   refine noX (thn (hg cl s3 _ fp hX2 _ s7 σ5 H7 x u _ I7' r7 (step x H7 y7)) fun _ s8 zq=>?_)
   obtain ⟨σ8,H8,I8,q8⟩:=zq
   refine noX (thn (ht cl s3 _ fp hX2 _ s8 σ8 H8 _ I8 q8) fun ok s9 zq=>?_)
   obtain ⟨H9,I9,q9⟩:=zq
   have again:∀ {s':Shared} {σ':L2.St} {H':Hp},Inv (cxC X N scope cl s3 (upd H2 s2.heap.objs.size (.lst [])) fp) (pins ++ pinsAt fp s7.heap) σ' H' s'→Nn σ' H'→
     ∃ m,m < n∧∃ i σ' H',Inv (cxC X N scope cl s3 (upd H2 s2.heap.objs.size (.lst [])) fp) pins σ' H' s'∧tn i s'.heap∧(∀ b ∈ fp,H' b=none)∧W i m σ' H':=fun {s' σ' H'} I' n'=>by
    obtain ⟨m',hm,w'⟩:=hN σ' H' n'
    refine ⟨m',hm,i + 1,σ',H',I'.unpinned,T.keep _ _ _ st7 fun b hb o e=>(I'.pin (b,o) (List.mem_append_right _ (List.mem_append_right _ (mem_pinsAt hb e)))).1,fun b hb=>?_,w'⟩
    obtain ⟨o,e,d⟩:=T.obj _ _ st7 b hb
    exact (I'.pin (b,o) (List.mem_append_right _ (List.mem_append_right _ (mem_pinsAt hb e)))).2.1
   cases ok with
   | false=>exact again I9 q9
   | true=>
    refine noX (thn (he cl s3 _ fp hX2 _ s9 σ8 H9 _ I9 q9) fun y s10 zq=>?_)
    obtain ⟨yv,H10,I10,r10,ys,hys,hlt,q10⟩:=zq
    refine noX (thn (mt_append (X:=cxC X N scope cl s3 (upd H2 s2.heap.objs.size (.lst [])) fp) _ s10 σ8 H10 (.ref s2.heap.objs.size) [yv] _ [y] (fun _ H'=>Nn σ8 H') I10 rfl (.cons r10 .nil) ⟨_,ys,yv,rfl,rfl,hys,hlt,q10⟩) fun _ s11 zq=>?_)
    obtain ⟨_,H11,I11,_,q11⟩:=zq
    exact again I11 q11
 exact codeAny_compStart_list loop (T.self X.A 0 _ _ _ tn4 loop)
end PD
namespace PD
open PySem PySem.Spec PyProof.Rows L2
noncomputable def smallI (i:Int):Prop:=-(2 ^ 64) < i∧i < 2 ^ 64
noncomputable instance (i:Int):Decidable (smallI i):=by unfold smallI; infer_instance
noncomputable def oAdd:Sto→D→D→Option D
 | _,.int i,.int j=>some (.int (i + j))
 | _,.str a,.str b=>if a.length + b.length≤sizeLine then some (.str (a ++ b)) else none
 | _,.tup a,.tup b=>if a.length + b.length≤sizeLine then some (.tup (a ++ b)) else none
 | _,.lst a,.lst b=>if a.length + b.length≤sizeLine then some (.lst (a ++ b)) else none
 | _,_,_=>none
noncomputable def oSub:Sto→D→D→Option D
 | _,.int i,.int j=>some (.int (i - j))
 | _,_,_=>none
noncomputable def oMul:Sto→D→D→Option D
 | _,.int i,.int j=>if smallI i ∨ smallI j then some (.int (i * j)) else none
 | _,.tup a,.int k=>if -(2 ^ 63)≤k∧k < 2 ^ 63∧a.length * k.toNat≤sizeLine then some (.tup (List.replicate k.toNat a).flatten) else none
 | _,.lst a,.int k=>if -(2 ^ 63)≤k∧k < 2 ^ 63∧a.length * k.toNat≤sizeLine then some (.lst (List.replicate k.toNat a).flatten) else none
 | _,_,_=>none
noncomputable def oFdiv:Sto→D→D→Option D
 | _,.int i,.int j=>if 0 < j∧j < 1073741824 then some (.int (i / j)) else none
 | _,_,_=>none
noncomputable def oMod:Sto→D→D→Option D
 | _,.int i,.int j=>if 0 < j then some (.int (i % j)) else none
 | _,_,_=>none
noncomputable def oPow:Sto→D→D→Option D
 | _,.int i,.int j=>if 0≤j∧j≤1000000∧i.natAbs < 2 ^ 64 then some (.int (i ^ j.toNat)) else none
 | _,_,_=>none
noncomputable def oShl:Sto→D→D→Option D
 | _,.int i,.int j=>if 0≤j∧j≤1000000∧i.natAbs < 2 ^ 64 then some (.int (i * 2 ^ j.toNat)) else none
 | _,_,_=>none
noncomputable def oNeg:Sto→D→Option D
 | _,.int i=>some (.int (-i))
 | _,_=>none
noncomputable def oCmp (p:Int→Int→Bool):Sto→D→D→Option D
 | _,.int i,.int j=>some (.bl (p i j))
 | _,_,_=>none
noncomputable abbrev oLt:=oCmp fun i j=>decide (i < j)
noncomputable abbrev oGt:=oCmp fun i j=>decide (j < i)
noncomputable abbrev oGe:=oCmp fun i j=>decide (j≤i)
noncomputable def eqS:D→D→Option Bool
 | .int i,.int j=>some (decide (i=j))
 | .bl i,.bl j=>some (decide (i=j))
 | .str i,.str j=>some (decide (i=j))
 | .non,.non=>some true
 | .non,.int _=>some false
 | .int _,.non=>some false
 | .non,.bl _=>some false
 | .bl _,.non=>some false
 | .non,.str _=>some false
 | .str _,.non=>some false
 | .int _,.str _=>some false
 | .str _,.int _=>some false
 | .bl _,.str _=>some false
 | .str _,.bl _=>some false
 | _,_=>none
noncomputable def oEq:Sto→D→D→Option D:=fun _ a b=>(eqS a b).map .bl
noncomputable def oNe:Sto→D→D→Option D:=fun _ a b=>(eqS a b).map fun c=>.bl (!c)
noncomputable def flatD:D→Bool
 | .non=>true
 | .bl _=>true
 | .int _=>true
 | .str _=>true
 | _=>false
noncomputable def eqF:D→D→Bool
 | .non,.non=>true
 | .bl a,.bl b=>a == b
 | .bl a,.int b=>(if a then 1 else 0) == b
 | .int a,.bl b=>a == (if b then 1 else 0)
 | .int a,.int b=>a == b
 | .str a,.str b=>a == b
 | _,_=>false
noncomputable def seqOf (S:Sto):D→Option (List D)
 | .tup a=>some a
 | .lst a=>some a
 | .fz a=>some a
 | .ref n=>match S[n]? with
  | some (.lst a)=>some a
  | some (.flst a)=>some a
  | _=>none
 | _=>none
noncomputable def oIn (neg:Bool):Sto→D→D→Option D:=fun S x y=>match seqOf S y with
 | some a=>if flatD x=true∧a.all flatD=true then some (.bl (if neg then !(a.any fun z=>eqF z x) else a.any fun z=>eqF z x)) else none
 | none=>none
noncomputable def oIx:Sto→D→D→Option D:=fun S x y=>match seqOf S x,y with
 | some a,.int i=>atI a i
 | _,_=>none
noncomputable def cutD (xs:List D) (lo hi:Option Int):List D:=(xs.drop (HT.sIx xs.length 0 lo)).take (HT.sIx xs.length xs.length hi - HT.sIx xs.length 0 lo)
section
variable {X:Cx} {E:XK}
theorem RD.int {K:PySem.W.Frag} {w:Wd} {H:Hp} {i:Int} {v:V} (q:RD K w H (.int i) v):v=.int i:=by unfold RD at q; exact q
theorem RD.bl {K:PySem.W.Frag} {w:Wd} {H:Hp} {i:Bool} {v:V} (q:RD K w H (.bl i) v):v=.bl i:=by unfold RD at q; exact q
theorem RD.str {K:PySem.W.Frag} {w:Wd} {H:Hp} {i:Str} {v:V} (q:RD K w H (.str i) v):v=.str i:=by unfold RD at q; exact q
theorem RD.non {K:PySem.W.Frag} {w:Wd} {H:Hp} {v:V} (q:RD K w H .non v):v=.non:=by unfold RD at q; exact q
theorem RD.mkI {K:PySem.W.Frag} {w:Wd} {H:Hp} {i:Int}:RD K w H (.int i) (.int i):=by unfold RD; rfl
theorem RD.mkB {K:PySem.W.Frag} {w:Wd} {H:Hp} {i:Bool}:RD K w H (.bl i) (.bl i):=by unfold RD; rfl
theorem RD.mkS {K:PySem.W.Frag} {w:Wd} {H:Hp} {i:Str}:RD K w H (.str i) (.str i):=by unfold RD; rfl
theorem RD.tupI {K:PySem.W.Frag} {w:Wd} {H:Hp} {ds:List D} {v:V} (q:RD K w H (.tup ds) v):∃ a vs,v=.ref a∧(At w H a (.tup vs) ∨ KTup K a vs)∧RDs K w H ds vs:=by unfold RD at q; exact q
theorem RD.lstI {K:PySem.W.Frag} {w:Wd} {H:Hp} {ds:List D} {v:V} (q:RD K w H (.lst ds) v):∃ a vs,v=.ref a∧At w H a (.lst vs)∧RDs K w H ds vs:=by unfold RD at q; exact q
theorem RD.fzI {K:PySem.W.Frag} {w:Wd} {H:Hp} {ds:List D} {v:V} (q:RD K w H (.fz ds) v):∃ a vs,v=.ref a∧FzAt K w H a vs∧RDs K w H ds vs:=by unfold RD at q; exact q
theorem RD.refI {K:PySem.W.Frag} {w:Wd} {H:Hp} {n:Nat} {v:V} (q:RD K w H (.ref n) v):∃ a,v=.ref a∧w.st[n]?=some a:=by unfold RD at q; exact q
theorem RD.newTup {K:PySem.W.Frag} {w:Wd} {H:Hp} {S:Sto} {ds:List D} {vs:List V} {p:Addr} (s:RS K w H S) (hp:H p=none) (q:RDs K w H ds vs):RD K w (upd H p (.tup vs)) (.tup ds) (.ref p):=by
 unfold RD
 exact ⟨p,vs,rfl,.inl ⟨upd_same,s.fresh hp⟩,RDs.ext (Ext.new hp) _ _ q⟩
theorem RD.newLst {K:PySem.W.Frag} {w:Wd} {H:Hp} {S:Sto} {ds:List D} {vs:List V} {p:Addr} (s:RS K w H S) (hp:H p=none) (q:RDs K w H ds vs):RD K w (upd H p (.lst vs)) (.lst ds) (.ref p):=by
 unfold RD
 exact ⟨p,vs,rfl,⟨upd_same,s.fresh hp⟩,RDs.ext (Ext.new hp) _ _ q⟩
theorem opII {f:Value→Value→Sem Value} {C:Int→Int→Prop} {g:Int→Int→D} {gv:Int→Int→V} {o:Sto→D→D→Option D} (h:OpR X f (rI C gv)) (hg:∀ K w H i j,RD K w H (g i j) (gv i j))
  (ho:∀ S d e z,o S d e=some z→∃ i j,d=.int i∧e=.int j∧C i j∧z=g i j):OpR X f (xO X.K E o):=by
 rintro pins s σ H x y v u Q I rx ry ⟨w,S,d,e,hS,qd,qe,p⟩
 obtain ⟨z,hz,p⟩:=p.of
 obtain ⟨i,j,rfl,rfl,c,rfl⟩:=ho _ _ _ _ hz
 cases qd.int
 cases qe.int
 exact h pins s σ H _ _ v u Q I rx ry ⟨i,j,rfl,rfl,c,p.ret (hg _ _ _ _ _) hS⟩
theorem opII0 {f:Value→Value→Sem Value} {g:Int→Int→D} {gv:Int→Int→V} {o:Sto→D→D→Option D} (h:OpR X f (rI0 gv)) (hg:∀ K w H i j,RD K w H (g i j) (gv i j))
  (ho:∀ S d e z,o S d e=some z→∃ i j,d=.int i∧e=.int j∧z=g i j):OpR X f (xO X.K E o):=by
 rintro pins s σ H x y v u Q I rx ry ⟨w,S,d,e,hS,qd,qe,p⟩
 obtain ⟨z,hz,p⟩:=p.of
 obtain ⟨i,j,rfl,rfl,rfl⟩:=ho _ _ _ _ hz
 cases qd.int
 cases qe.int
 exact h pins s σ H _ _ v u Q I rx ry ⟨i,j,rfl,rfl,p.ret (hg _ _ _ _ _) hS⟩
theorem xo_sub:OpR X (binaryOp .Sub) (xO X.K E oSub):=opII0 (g:=fun i j=>.int (i - j)) op_sub (fun _ _ _ _ _=>RD.mkI) fun S d e z h=>by
 unfold oSub at h; split at h
 ·cases h; exact ⟨_,_,rfl,rfl,rfl⟩
 ·cases h
theorem xo_fdiv:OpR X (binaryOp .FloorDiv) (xO X.K E oFdiv):=opII (g:=fun i j=>.int (i / j)) op_fdiv (fun _ _ _ _ _=>RD.mkI) fun S d e z h=>by
 unfold oFdiv at h; split at h
 ·split at h
  ·cases h; exact ⟨_,_,rfl,rfl,by assumption,rfl⟩
  ·cases h
 ·cases h
theorem xo_mod:OpR X (binaryOp .Mod) (xO X.K E oMod):=opII (g:=fun i j=>.int (i % j)) op_mod (fun _ _ _ _ _=>RD.mkI) fun S d e z h=>by
 unfold oMod at h; split at h
 ·split at h
  ·cases h; exact ⟨_,_,rfl,rfl,by assumption,rfl⟩
  ·cases h
 ·cases h
theorem xo_pow:OpR X (binaryOp .Pow) (xO X.K E oPow):=opII (g:=fun i j=>.int (i ^ j.toNat)) op_pow (fun _ _ _ _ _=>RD.mkI) fun S d e z h=>by
 unfold oPow at h; split at h
 ·split at h
  ·cases h; exact ⟨_,_,rfl,rfl,by assumption,rfl⟩
  ·cases h
 ·cases h
theorem xo_shl:OpR X (binaryOp .LShift) (xO X.K E oShl):=opII (g:=fun i j=>.int (i * 2 ^ j.toNat)) op_shl (fun _ _ _ _ _=>RD.mkI) fun S d e z h=>by
 unfold oShl at h; split at h
 ·split at h
  ·cases h; exact ⟨_,_,rfl,rfl,by assumption,rfl⟩
  ·cases h
 ·cases h
theorem oCmp_inv {p:Int→Int→Bool} {S:Sto} {d e z:D} (h:oCmp p S d e=some z):∃ i j,d=.int i∧e=.int j∧z=.bl (p i j):=by
 unfold oCmp at h; split at h
 ·cases h; exact ⟨_,_,rfl,rfl,rfl⟩
 ·cases h
theorem xo_lt:OpR X (compareOp .Lt) (xO X.K E oLt):=opII0 (g:=fun i j=>.bl (decide (i < j))) op_lt (fun _ _ _ _ _=>RD.mkB) fun S d e z h=>oCmp_inv h
theorem xo_gt:OpR X (compareOp .Gt) (xO X.K E oGt):=opII0 (g:=fun i j=>.bl (decide (j < i))) op_gt (fun _ _ _ _ _=>RD.mkB) fun S d e z h=>oCmp_inv h
theorem xo_ge:OpR X (compareOp .GtE) (xO X.K E oGe):=opII0 (g:=fun i j=>.bl (decide (j≤i))) op_ge (fun _ _ _ _ _=>RD.mkB) fun S d e z h=>oCmp_inv h
theorem xu_neg:UnR X (unaryOp .USub) (xU X.K E oNeg):=by
 rintro pins s σ H x v Q I rx ⟨w,S,d,hS,qd,p⟩
 obtain ⟨z,hz,p⟩:=p.of
 unfold oNeg at hz; split at hz
 ·cases hz
  cases qd.int
  exact un_neg pins s σ H _ v Q I rx ⟨_,rfl,p.ret RD.mkI hS⟩
 ·cases hz
theorem eqS_ok {K:PySem.W.Frag} {w:Wd} {H:Hp} {d e:D} {x y:V} {c:Bool} (qd:RD K w H d x) (qe:RD K w H e y) (h:eqS d e=some c):scal x y=true∧decide (x=y)=c:=by
 unfold eqS at h
 split at h <;> (try (cases h; done)) <;> (unfold RD at qd qe; subst qd; subst qe; cases h; refine ⟨rfl,?_⟩; simp)
theorem xo_eq:OpR X (compareOp .Eq) (xO X.K E oEq):=by
 rintro pins s σ H x y v u Q I rx ry ⟨w,S,d,e,hS,qd,qe,p⟩
 obtain ⟨z,hz,p⟩:=p.of
 unfold oEq at hz
 cases h:eqS d e with
 | none=>rw [h] at hz; cases hz
 | some c=>
  rw [h] at hz; cases hz
  obtain ⟨h1,h2⟩:=eqS_ok qd qe h
  exact op_eq pins s σ H _ _ v u Q I rx ry ⟨h1,by rw [h2]; exact p.ret RD.mkB hS⟩
theorem xo_ne:OpR X (compareOp .NotEq) (xO X.K E oNe):=by
 rintro pins s σ H x y v u Q I rx ry ⟨w,S,d,e,hS,qd,qe,p⟩
 obtain ⟨z,hz,p⟩:=p.of
 unfold oNe at hz
 cases h:eqS d e with
 | none=>rw [h] at hz; cases hz
 | some c=>
  rw [h] at hz; cases hz
  obtain ⟨h1,h2⟩:=eqS_ok qd qe h
  exact op_ne pins s σ H _ _ v u Q I rx ry ⟨h1,by rw [h2]; exact p.ret RD.mkB hS⟩
theorem seq_ok {K:PySem.W.Frag} {w:Wd} {H:Hp} {S:Sto} {d:D} {v:V} {a:List D} (s:RS K w H S) (q:RD K w H d v) (h:seqOf S d=some a):∃ p vs,v=.ref p∧(SqL K H p vs ∨ SqT K H p vs)∧RDs K w H a vs:=by
 unfold seqOf at h
 split at h
 ·cases h; obtain ⟨p,vs,e,z,r⟩:=q.tupI; exact ⟨p,vs,e,.inr (SqT_of z),r⟩
 ·cases h; obtain ⟨p,vs,e,z,r⟩:=q.lstI; exact ⟨p,vs,e,.inl (SqL.of z.1),r⟩
 ·cases h; obtain ⟨p,vs,e,z,r⟩:=q.fzI; exact ⟨p,vs,e,.inl z.sq,r⟩
 ·split at h
  ·rename_i n b hn
   cases h
   obtain ⟨p,e,hp⟩:=q.refI
   obtain ⟨p',hp',vs,hv,r⟩:=s.obj _ _ hn
   rw [hp] at hp'; cases hp'
   exact ⟨p,vs,e,.inl (SqL.of hv),r⟩
  ·rename_i n b hn
   cases h
   obtain ⟨p,e,hp⟩:=q.refI
   obtain ⟨p',hp',o,vs,hv,r⟩:=s.obj _ _ hn
   rw [hp] at hp'; cases hp'
   exact ⟨p,vs,e,.inl (.inl (.inr ⟨o,hv⟩)),r⟩
  ·cases h
 ·cases h
theorem RDs.atI {K:PySem.W.Frag} {w:Wd} {H:Hp} {a:List D} {vs:List V} {i:Int} {d:D} (r:RDs K w H a vs) (h:atI a i=some d):∃ v,L2.atI vs i=some v∧RD K w H d v:=by
 unfold L2.atI at h ⊢
 rw [r.length]
 cases e:ixN a.length i with
 | none=>rw [e] at h; cases h
 | some j=>
  rw [e] at h
  obtain ⟨v,ev,rv⟩:=r.get (show a[j]?=some d from h)
  exact ⟨v,ev,rv⟩
theorem xi_ix:IxR X (xO X.K E oIx):=by
 rintro va sl pins s σ H x y v u Q I rx ry ⟨w,S,d,e,hS,qd,qe,p⟩ hsub
 obtain ⟨z,hz,p'⟩:=p.of
 clear p
 unfold oIx at hz
 split at hz
 ·rename_i a i ha
  obtain ⟨q,vs,rfl,sq,r⟩:=seq_ok hS qd ha
  cases qe.int
  obtain ⟨v',ev,rv⟩:=r.atI hz
  exact ix_seq va sl pins s σ H _ _ v u Q I rx ry (sq.elim (fun z=>.inl ⟨q,vs,i,v',rfl,rfl,z,ev,p'.ret rv hS⟩) fun z=>.inr (.inl ⟨q,vs,i,v',rfl,rfl,z,ev,p'.ret rv hS⟩)) hsub
 ·cases hz
theorem flat_ok {K:PySem.W.Frag} {w:Wd} {H:Hp} {d:D} {v:V} (q:RD K w H d v) (h:flatD d=true):flatV v=true:=by
 unfold flatD at h
 split at h
 ·cases q.non; rfl
 ·cases q.bl; rfl
 ·cases q.int; rfl
 ·cases q.str; rfl
 ·cases h
theorem flats_ok {K:PySem.W.Frag} {w:Wd} {H:Hp}:∀ {ds:List D} {vs:List V},RDs K w H ds vs→ds.all flatD=true→vs.all flatV=true
 | [],_,q,_=>by rw [q.nil_inv]; rfl
 | d :: ds,_,q,h=>by
  obtain ⟨v,r,rfl,p,t⟩:=q.cons_inv
  rw [List.all_cons,Bool.and_eq_true] at h ⊢
  exact ⟨flat_ok p h.1,flats_ok t h.2⟩
theorem eqF_ok {K:PySem.W.Frag} {w:Wd} {H:Hp} {d e:D} {x y:V} (qd:RD K w H d x) (qe:RD K w H e y) (h1:flatD d=true) (h2:flatD e=true):eqV x y=eqF d e:=by
 unfold flatD at h1 h2
 split at h1 <;> (try (cases h1; done)) <;> split at h2 <;> (try (cases h2; done)) <;> (unfold RD at qd qe; subst qd; subst qe; rfl)
theorem anyF_ok {K:PySem.W.Frag} {w:Wd} {H:Hp} {d:D} {x:V} (qd:RD K w H d x) (hd:flatD d=true):∀ {ds:List D} {vs:List V},RDs K w H ds vs→ds.all flatD=true→(vs.any fun y=>eqV y x)=ds.any fun z=>eqF z d
 | [],_,q,_=>by rw [q.nil_inv]; rfl
 | e :: ds,_,q,h=>by
  obtain ⟨v,r,rfl,p,t⟩:=q.cons_inv
  rw [List.all_cons,Bool.and_eq_true] at h
  rw [List.any_cons,List.any_cons,eqF_ok p qd h.1 hd,anyF_ok qd hd t h.2]
theorem xo_in:OpR X (compareOp .In) (xO X.K E (oIn false)):=by
 rintro pins s σ H x y v u Q I rx ry ⟨w,S,d,e,hS,qd,qe,p⟩
 obtain ⟨z,hz,p⟩:=p.of
 unfold oIn at hz
 split at hz
 ·rename_i a ha
  split at hz
  ·rename_i hf
   obtain ⟨q,vs,rfl,sq,r⟩:=seq_ok hS qe ha
   cases hz
   refine op_in_seq pins s σ H _ _ v u Q I rx ry ⟨q,vs,rfl,sq,flat_ok qd hf.1,flats_ok r hf.2,?_⟩
   have hi:inV x vs=a.any fun z=>eqF z d:=anyF_ok qd hf.1 r hf.2
   simp only [Bool.false_eq_true,if_false] at p ⊢
   rw [hi]
   exact p.ret RD.mkB hS
  ·cases hz
 ·cases hz
end
end PD
namespace PD
open PySem PySem.Spec PyProof.Rows L2
section
open PySem.SeqAt
open PySem.AutoSeq1 (wpAny_loadPart')
open PySem.MeetsSeq PySem.MeetsSeq2 PySem.MeetsSeq3
theorem int_rmul_tup (a:Int) (t:Tok) (l:Addr) (items:Array Value) (n:Nat) (dd:Option Addr) (sl:Array (Option Value)):
  Meets (Builtin.«int.__rmul__» ⟨[.int a t,.ref l],[]⟩) (fun _ R s=>s.heap.get? l=some { cls:=.type "tuple",dict:=dd,data:=.seq items n,slots:=sl }∧R (.ok (.ret Value.notImplemented)) s):=
 .of_wp fun prog w A R s h=>by obtain ⟨hp,g,d,tk,os⟩:=s; obtain ⟨hl,h⟩:=h; wp_walk using wpAny_loadPart' hl; exact ⟨_,rfl,h⟩
theorem tup_mul_same (l:Addr) (items:Array Value) (n:Nat) (k:Int) (t:Tok) (dd:Option Addr) (sl:Array (Option Value)) (h1:¬ (decide (k < -(2 ^ 63)) || decide (k ≥ 2 ^ 63))=true) (h2:(items.isEmpty || k == 1)=true):
  Meets (Builtin.«tuple.__mul__» ⟨[.ref l,.int k t],[]⟩) (fun _ R s=>s.heap.get? l=some { cls:=.type "tuple",dict:=dd,data:=.seq items n,slots:=sl }∧R (.ok (.ret (.ref l))) s):=
 .of_wp fun prog w A R s h=>by obtain ⟨hp,g,d,tk,os⟩:=s; obtain ⟨hl,h⟩:=h; have f1:=AutoSeq1.idx_int; wp_walk using wpAny_loadPart' hl; rw [if_neg h1]; wp_walk using wpAny_loadPart' hl; exact ⟨_,rfl,h⟩
theorem tup_mul_none (l:Addr) (items:Array Value) (n:Nat) (k:Int) (t:Tok) (dd:Option Addr) (sl:Array (Option Value)) (h1:¬ (decide (k < -(2 ^ 63)) || decide (k ≥ 2 ^ 63))=true) (h2:¬ (items.isEmpty || k == 1)=true) (h3:(decide (k≤0) || items.isEmpty)=true):
  Meets (Builtin.«tuple.__mul__» ⟨[.ref l,.int k t],[]⟩) (fun _ R s=>s.heap.get? l=some { cls:=.type "tuple",dict:=dd,data:=.seq items n,slots:=sl }∧R (.ok (.ret (Value.ref s.heap.objs.size))) { s with heap:=s.heap.push { cls:=Value.type "tuple",data:=Data.seq #[] },toks:=s.toks }):=
 .of_wp fun prog w A R s h=>by obtain ⟨hp,g,d,tk,os⟩:=s; obtain ⟨hl,h⟩:=h; have f1:=AutoSeq1.idx_int; wp_walk using wpAny_loadPart' hl; rw [if_neg h1]; wp_walk using wpAny_loadPart' hl; exact ⟨_,rfl,h⟩
theorem tup_mul_more (l:Addr) (items:Array Value) (n:Nat) (k:Int) (t:Tok) (dd:Option Addr) (sl:Array (Option Value)) (h1:¬ (decide (k < -(2 ^ 63)) || decide (k ≥ 2 ^ 63))=true) (h2:¬ (items.isEmpty || k == 1)=true) (h3:¬ (decide (k≤0) || items.isEmpty)=true)
  (h4:¬ (items.size:Int) * k > (2 ^ 63 - 1) / 8) (h5:¬ Builtin.Tuple.tupleTooMany ((items.size:Int) * k)=true) (hsz:(List.foldl (fun x1 x2=>x1 ++ x2) #[] (List.replicate k.toNat items)).size≤sizeLine):
  Meets (Builtin.«tuple.__mul__» ⟨[.ref l,.int k t],[]⟩) (fun _ R s=>s.heap.get? l=some { cls:=.type "tuple",dict:=dd,data:=.seq items n,slots:=sl }∧R (.ok (.ret (Value.ref s.heap.objs.size))) { s with heap:=s.heap.push { cls:=Value.type "tuple",data:=Data.seq (List.foldl (fun x1 x2=>x1 ++ x2) #[] (List.replicate k.toNat items)) },toks:=s.toks }):=
 .of_wp fun prog w A R s h=>by obtain ⟨hp,g,d,tk,os⟩:=s; obtain ⟨hl,h⟩:=h; have f1:=AutoSeq1.idx_int; wp_walk using wpAny_loadPart' hl; rw [if_neg h1]; wp_walk using wpAny_loadPart' hl; rw [if_neg h4]; wp_walk using wpAny_loadPart' hl; exact ⟨_,rfl,h⟩
end
section
variable {prog:Program} {w:World} {A:Around} {E:Value→Shared→Prop} {s:Shared}
theorem noFill_tuple_mul:fillsNumberSlot (.type "tuple") "mul" = pure false:=
 PySem.fillsNumberSlot_seq (id:="tuple.__mul__") (r:=some (.builtin "tuple.__rmul__")) F.slot_tuple_mul.lookup (by decide +kernel) F.slot_tuple_rmul.lookup (by decide +kernel)
theorem repeat_tuple:seqRepeat? (.type "tuple")=pure (some (.builtin "tuple.__mul__")):=by
 unfold seqRepeat?
 rw [PySem.seqSlot_of (T:="tuple") (name:="__mul__") (id:="tuple.__mul__") F.slot_tuple_mul.lookup (by decide +kernel),PySem.seqSlot_of (T:="tuple") (name:="__rmul__") (id:="tuple.__rmul__") F.slot_tuple_rmul.lookup (by decide +kernel)]
 rfl
theorem rep_tup {t:Addr} {vs:List Value} {k:Int} {tk:Tok} {Q:Value→Shared→Prop} (ht:IsTup s.heap t vs.toArray) (h1:-(2 ^ 63)≤k) (h2:k < 2 ^ 63) (hz:vs.length * k.toNat≤sizeLine)
  (q1:(vs=[] ∨ k=1)→Q (.ref t) s) (q2:¬ (vs=[] ∨ k=1)→Q (.ref s.heap.objs.size) { s with heap:=s.heap.push { cls:=.type "tuple",data:=.seq (List.replicate k.toNat vs).flatten.toArray } }):
  wpAny (model prog w) A (binaryOp .Mult (.ref t) (.int k tk)) Q E s:=by
 obtain ⟨⟨cls,dd,data,sl⟩,ho,hc,n,hd⟩:=id ht
 simp only at hc hd
 subst hc hd
 have hk:¬ (decide (k < -(2 ^ 63)) || decide (k ≥ 2 ^ 63))=true:=by simp; omega
 refine wpAny_binaryOp_repeat_ref (T:="tuple") (U:="int") (by decide) ⟨_,ho,rfl⟩ (fun s'=>typeIs_int s' k tk) noFill_tuple_mul F.fills_int_mul F.slot_int_rmul repeat_tuple F.slot_int_index.lookup
  (call_meets F.slot_int_rmul (typeIs_int s k tk) F.entry_int_rmul (F.args_int_rmul_2 _ _) (int_rmul_tup k tk t vs.toArray n dd sl) ⟨ho,rfl,⟨_,ho,rfl⟩,?_⟩)
 have hfold:∀ m:Nat,List.foldl (fun x1 x2=>x1 ++ x2) #[] (List.replicate m vs.toArray)=(List.replicate m vs).flatten.toArray:=fun m=>by
  have:=foldl_rep vs m []
  rw [List.nil_append] at this
  exact this
 by_cases c1:vs=[] ∨ k=1
 ·refine call_meets F.slot_tuple_mul ⟨_,ho,rfl⟩ F.entry_tuple_mul (F.args_tuple_mul_2 _ _) (tup_mul_same t vs.toArray n k tk dd sl hk ?_) ⟨ho,q1 c1⟩
  rcases c1 with rfl | rfl
  ·rfl
  ·simp
 ·have c2:¬ (vs.toArray.isEmpty || k == 1)=true:=by
   intro z
   rw [Bool.or_eq_true] at z
   rcases z with z | z
   ·exact c1 (.inl (by simpa using z))
   ·exact c1 (.inr (by simpa using z))
  by_cases c3:k≤0
  ·refine call_meets F.slot_tuple_mul ⟨_,ho,rfl⟩ F.entry_tuple_mul (F.args_tuple_mul_2 _ _) (tup_mul_none t vs.toArray n k tk dd sl hk c2 (by simp [c3])) ⟨ho,?_⟩
   have:=q2 c1
   rw [show k.toNat=0 by omega] at this
   exact this
  ·have c4:¬ (decide (k≤0) || vs.toArray.isEmpty)=true:=by
    intro z
    rw [Bool.or_eq_true] at z
    rcases z with z | z
    ·exact c3 (of_decide_eq_true z)
    ·exact c1 (.inl (by simpa using z))
   have hmul:((vs.toArray.size:Nat):Int) * k=((vs.length * k.toNat:Nat):Int):=by
    rw [List.size_toArray,Int.natCast_mul,Int.toNat_of_nonneg (by omega)]
   have hs0:(sizeLine:Nat)=2 ^ 24:=rfl
   refine call_meets F.slot_tuple_mul ⟨_,ho,rfl⟩ F.entry_tuple_mul (F.args_tuple_mul_2 _ _) (tup_mul_more t vs.toArray n k tk dd sl hk c2 c4 ?_ ?_ ?_) ⟨ho,?_⟩
   ·rw [hmul]
    intro z
    have:((2:Int) ^ 63 - 1) / 8 ≥ 2 ^ 24:=by decide
    omega
   ·rw [hmul]
    unfold Builtin.Tuple.tupleTooMany
    simp only [decide_eq_true_eq]
    intro z
    have z':((sizeLine:Nat):Int) < ((vs.length * k.toNat:Nat):Int):=z
    omega
   ·rw [hfold,List.size_toArray,len_rep,Nat.mul_comm]; exact hz
   ·rw [hfold]; exact q2 c1
end
end PD
namespace PD
open PySem PySem.Spec PyProof.Rows L2
section
variable {prog:Program} {w:World} {A:Around} {E:Value→Shared→Prop} {s:Shared}
theorem cat_tup0 {t b:Addr} {ws:List Value} {Q:Value→Shared→Prop} (ht:IsTup s.heap t ([]:List Value).toArray) (hb:IsTup s.heap b ws.toArray) (h:Q (.ref b) s):wpAny (model prog w) A (binaryOp .Add (.ref t) (.ref b)) Q E s:=by
 obtain ⟨⟨cls,dd,data,sl⟩,ho,hc,n,hd⟩:=id ht
 obtain ⟨⟨cls2,dd2,data2,sl2⟩,ho2,hc2,n2,hd2⟩:=id hb
 simp only at hc hd hc2 hd2
 subst hc hd hc2 hd2
 exact concat_meets ⟨_,ho,rfl⟩ ⟨_,ho2,rfl⟩ noFill_tuple_add seq_tuple_add PySem.F.slot_tuple_add PySem.F.entry_tuple_add (PySem.F.args_tuple_add_2 _ _) (tuple_addW0 t b _ ws.toArray n n2 dd dd2 sl sl2 rfl) ⟨ho,ho2,h⟩
open HT in
theorem getItem_tuple_whole {t sl:Addr} {items:Array Value} {vl vu:Value} {lo hi:Option Int} {Q:Value→Shared→Prop} (ht:IsTup s.heap t items) (hs:s.heap.IsSliceOf sl vl vu .none) (pl:IsPart vl lo) (pu:IsPart vu hi)
  (hw:sIx items.size 0 lo=0∧sIx items.size items.size hi=items.size) (h:Q (.ref t) s):wpAny (model prog w) A (getItem (.ref t) (.ref sl)) Q E s:=by
 obtain ⟨os,hos,hcs,hds⟩:=id hs
 have hTs:s.TypeIs (.ref sl) "slice":=⟨os,hos,hcs⟩
 unfold getItem
 try with_reducible refine wpAny_holding ?_
 first | refine wpAny_bind (wpAny_pure ?_) | skip
 refine wpAny_bind (wpAny_sequenceKey ht.typeIs (by decide) ?_)
 refine wpAny_bind (wpAny_callSpecial?_slot (name:=Str.ofString "__getitem__") ht.typeIs PyProof.Rows.slot_tuple_getitem
  (wpAny_call_entry PyProof.Rows.slot_tuple_getitem ht.typeIs entry_tuple_getitem ?_ (args_tuple_getitem _ _)))
 show wpAny _ _ (Builtin.Tuple.tupleItemsOf (.ref t) >>= _) _ _ s
 refine wpAny_bind (tupleItemsOf_ ht ?_)
 refine wpAny_bind (wpAny_typeOf hTs ?_)
 rw [if_pos (by decide)]
 refine wpAny_bind (sliceApplied_gen hs pl pu ?_)
 have hyes:(((sIx items.size 0 lo:Nat):Int) == 0 && (1:Int) == 1 && (sIx items.size items.size hi - sIx items.size 0 lo) == items.size)=true:=by
  rw [hw.1,hw.2]; simp
 show wpAny _ _ (if (((sIx items.size 0 lo:Nat):Int) == 0 && (1:Int) == 1 && (sIx items.size items.size hi - sIx items.size 0 lo) == items.size)=true then _ else _) _ _ s
 rw [if_pos hyes]
 obtain ⟨ob,hob,hcl,_⟩:=id ht
 have hex:∀ {Q':Bool→Shared→Prop},Q' true s→wpAny (model prog w) A.in1 (Builtin.Tuple.tupleIsExact (.ref t)) Q' E s:=fun q=>by
  unfold Builtin.Tuple.tupleIsExact
  refine wpAny_bind (wpAny_typeOf ht.typeIs (wpAny_pure ?_))
  exact q
 refine wpAny_bind (hex ?_)
 rw [if_pos rfl]
 first
  | exact wpAny_bind (wpAny_rule (wpAny_pure ⟨_,rfl,wpAny_pure h⟩))
  | exact wpAny_bind (wpAny_rule (wpAny_bind (wpAny_pure ⟨_,rfl,wpAny_pure h⟩)))
  | exact wpAny_bind (wpAny_rule (wpAny_bind (wpAny_pure (wpAny_pure ⟨_,rfl,wpAny_pure h⟩))))
  | exact wpAny_bind (wpAny_bind (wpAny_rule (wpAny_pure (wpAny_pure ⟨_,rfl,wpAny_pure h⟩))))
end
end PD
namespace PD
open PySem PySem.Spec PyProof.Rows L2
section
variable {X:Cx} {E:XK}
theorem sameTup {K:PySem.W.Frag} {w:Wd} {H:Hp} {p:Addr} {vs:List V} {ds:List D} (z:At w H p (.tup vs) ∨ KTup K p vs) (r:RDs K w H ds vs):RD K w H (.tup ds) (.ref p):=by
 unfold RD; exact ⟨p,vs,rfl,z,r⟩
theorem xo_add:OpR X (binaryOp .Add) (xO X.K E oAdd):=by
 rintro pins s σ H x y v u Q I rx ry ⟨w,S,d,e,hS,qd,qe,p⟩
 obtain ⟨z,hz,p'⟩:=p.of
 clear p
 unfold oAdd at hz
 split at hz
 ·cases hz
  cases qd.int
  cases qe.int
  exact op_add pins s σ H _ _ v u Q I rx ry ⟨_,_,rfl,rfl,p'.ret RD.mkI hS⟩
 ·split at hz
  ·cases hz
   cases qd.str
   cases qe.str
   exact op_add_str pins s σ H _ _ v u Q I rx ry ⟨_,_,rfl,rfl,by assumption,p'.ret RD.mkS hS⟩
  ·cases hz
 ·split at hz
  ·rename_i S' a b hl
   cases hz
   obtain ⟨pa,xs,rfl,za,ra⟩:=qd.tupI
   obtain ⟨pb,ys,rfl,zb,rb⟩:=qe.tupI
   by_cases ha:a=[]
   ·subst ha
    have hxs:=ra.nil_inv
    subst hxs
    cases rx
    cases ry
    obtain ⟨its,r1,p1,_⟩:=I.tuple (SqT_of za)
    obtain ⟨its2,r2,p2,_⟩:=I.tuple (SqT_of zb)
    have:its=[]:=r1.nil_iff.mpr rfl
    subst this
    exact cat_tup0 p1 p2 ⟨.ref pb,H,I,rfl,p'.ret (sameTup zb rb) hS⟩
   ·refine op_catT pins s σ H _ _ v u Q I rx ry ⟨pa,pb,xs,ys,rfl,rfl,SqT_of za,SqT_of zb,fun z=>ha ?_,by rw [ra.length,rb.length]; exact hl,fun z=>?_,fun z q hq=>?_⟩
    ·have:=ra.length
     rw [z] at this
     exact List.length_eq_zero_iff.mp this.symm
    ·have hb:b=[]:=by
      have:=rb.length
      rw [z] at this
      exact List.length_eq_zero_iff.mp this.symm
     subst hb
     rw [List.append_nil] at p'
     exact p'.ret (sameTup za ra) hS
    ·exact p'.at (Ext.new hq) (RD.newTup hS hq (ra.append rb)) (hS.new hq)
  ·cases hz
 ·split at hz
  ·rename_i S' a b hl
   cases hz
   obtain ⟨pa,xs,rfl,za,ra⟩:=qd.lstI
   obtain ⟨pb,ys,rfl,zb,rb⟩:=qe.lstI
   exact op_cat pins s σ H _ _ v u Q I rx ry ⟨pa,pb,xs,ys,rfl,rfl,za.1,zb.1,by rw [ra.length,rb.length]; exact hl,fun q hq=>p'.at (Ext.new hq) (RD.newLst hS hq (ra.append rb)) (hS.new hq)⟩
  ·cases hz
 ·cases hz
theorem RDs.rep {K:PySem.W.Frag} {w:Wd} {H:Hp} {ds:List D} {vs:List V} (r:RDs K w H ds vs):∀ k:Nat,RDs K w H (List.replicate k ds).flatten (List.replicate k vs).flatten
 | 0=>by simp; exact .nil
 | k + 1=>by
  rw [List.replicate_succ,List.replicate_succ,List.flatten_cons,List.flatten_cons]
  exact r.append (RDs.rep r k)
theorem xo_mul:OpR X (binaryOp .Mult) (xO X.K E oMul):=by
 rintro pins s σ H x y v u Q I rx ry ⟨w,S,d,e,hS,qd,qe,p⟩
 obtain ⟨z,hz,p'⟩:=p.of
 clear p
 unfold oMul at hz
 split at hz
 ·split at hz
  ·cases hz
   cases qd.int
   cases qe.int
   exact op_mul pins s σ H _ _ v u Q I rx ry ⟨_,_,rfl,rfl,by assumption,p'.ret RD.mkI hS⟩
  ·cases hz
 ·split at hz
  ·rename_i S' a k hl
   cases hz
   obtain ⟨pa,xs,rfl,za,ra⟩:=qd.tupI
   cases qe.int
   cases rx
   obtain ⟨t,rfl⟩:=ry
   obtain ⟨its,r1,p1,_⟩:=I.tuple (SqT_of za)
   have e1:its.length=a.length:=by rw [← r1.length,ra.length]
   refine rep_tup p1 hl.1 hl.2.1 (by rw [e1]; exact hl.2.2) (fun c=>?_) fun c=>?_
   ·refine ⟨.ref pa,H,I,rfl,?_⟩
    have:(List.replicate k.toNat a).flatten=a:=by
     rcases c with c | c
     ·have:a=[]:=by rw [c] at e1; exact List.length_eq_zero_iff.mp e1.symm
      subst this; simp
     ·subst c; simp
    rw [this] at p'
    exact p'.ret (sameTup za ra) hS
   ·have hn:H s.heap.objs.size=none:=I.hok.fresh (Nat.le_refl _)
    refine ⟨.ref s.heap.objs.size,_,I.laid (t':=s.toks) (o:=.tup (List.replicate k.toNat xs).flatten) (fun b ob q=>Heap.get?_push_of_some _ q) (Nat.le_refl _) ?_,rfl,p'.at (Ext.new hn) (RD.newTup hS hn (ra.rep _)) (hS.new hn)⟩
    exact ⟨by rw [len_rep,Nat.mul_comm,ra.length]; exact hl.2.2,_,r1.rep _,IsTup.new _ _⟩
  ·cases hz
 ·split at hz
  ·rename_i S' a k hl
   cases hz
   obtain ⟨pa,xs,rfl,za,ra⟩:=qd.lstI
   cases qe.int
   exact op_rep pins s σ H _ _ v u Q I rx ry ⟨pa,k,xs,rfl,rfl,za.1,hl.1,hl.2.1,by rw [ra.length]; exact hl.2.2,fun q hq=>p'.at (Ext.new hq) (RD.newLst hS hq (ra.rep _)) (hS.new hq)⟩
  ·cases hz
 ·cases hz
theorem se_ix {a b:Expr} {ma mb:EM} {pos:Pos} {f:Sto→D→D→Option D} (hr:IxR X (xO X.K E f)) (ha:SE X E a ma) (hb:SE X E b mb) (hs:PlainIx b:=by intro _ _; kernel_rfl):SE X E (.Subscript a b pos) (eOp f ma mb):=⟨
 pe_weak (pe_ix hr ha.out hb.out hs) fun s H Q zq=>ex6 zq fun w r S hr hS hp=>⟨w,r,S,hr,hS,hp.bind hS fun d S1 w1 H1 v x1 q1 s1 p1=>
  ⟨w1,r,S1,hr.ext x1,s1,p1.bind s1 fun e S2 w2 H2 u x2 q2 s2 p2=>⟨w2,S2,d,e,s2,RD.ext x2 d v q1,q2,p2⟩⟩⟩⟩
noncomputable abbrev OM:=Rho→Sto→R (Option Int)
noncomputable def ROp (w:Wd) (H:Hp) (a b:Option Int):Prop:=b=a
noncomputable def uO (K:PySem.W.Frag) (E:XK) (m:OM):TO:=fun s H Q=>∃ w r S,RSt K w H r s∧RS K w H S∧Post K E ROp w H (m r S) Q
noncomputable def oNo:OM:=fun _ S=>.ok none S
noncomputable def oPart (a:EM):OM:=fun r S=>(a r S).bind fun x S1=>match x with
 | .int i=>.ok (some i) S1
 | _=>.bad
noncomputable abbrev SO' (X:Cx) (E:XK) (e:Option Expr) (m:OM):Prop:=Bx (PO X e (uO X.K E m))
theorem so_none:SO' X E none oNo:=⟨fun pins s σ H Q I zq=>ex6 zq fun w r S hr hS hp=>po_none pins s σ H Q I (hp.ret rfl hS)⟩
theorem so_some {a:Expr} {ma:EM} (ha:SE X E a ma):SO' X E (some a) (oPart ma):=⟨fun pins s σ H Q I zq=>ex6 zq fun w r S hr hS hp=>po_some ha.out pins s σ H Q I
 ⟨w,r,S,hr,hS,hp.bind hS fun d S1 w1 H1 v x1 q1 s1 p1=>by
  cases d with
  | int i=>cases q1.int; exact ⟨i,rfl,p1.ret rfl s1⟩
  | _=>exact p1.elim⟩⟩
noncomputable def xL (K:PySem.W.Frag) (E:XK) (f:Sto→D→Option Int→Option Int→Option D):V→Option Int→Option Int→Hp→VK→Prop:=fun x lo hi H Q=>∃ w S d,RS K w H S∧RD K w H d x∧Post K E (RD K) w H (R.of S (f S d lo hi)) Q
noncomputable def eSl (f:Sto→D→Option Int→Option Int→Option D) (a:EM) (lo hi:OM):EM:=fun r S=>(a r S).bind fun x S1=>(lo r S1).bind fun l S2=>(hi r S2).bind fun u S3=>R.of S3 (f S3 x l u)
theorem se_sl {a:Expr} {ma:EM} {lo hi:Option Expr} {ml mh:OM} {p2 pos:Pos} {f:Sto→D→Option Int→Option Int→Option D} (hf:SlR X (xL X.K E f)) (ha:SE X E a ma) (hl:SO' X E lo ml) (hh:SO' X E hi mh):
  SE X E (.Subscript a (.Slice lo hi none p2) pos) (eSl f ma ml mh):=⟨
 pe_weak (pe_slice hf ha.out hl.out hh.out) fun s H Q zq=>ex6 zq fun w r S hr hS hp=>⟨w,r,S,hr,hS,hp.bind hS fun d S1 w1 H1 v x1 q1 s1 p1=>
  ⟨w1,r,S1,hr.ext x1,s1,p1.bind s1 fun l S2 w2 H2 l' x2 q2 s2 p2=>⟨w2,r,S2,(hr.ext x1).ext x2,s2,p2.bind s2 fun u S3 w3 H3 u' x3 q3 s3 p3=>by
   have e1:l'=l:=q2
   have e2:u'=u:=q3
   subst e1 e2
   exact ⟨w3,S3,d,s3,RD.ext x3 _ _ (RD.ext x2 _ _ q1),p3⟩⟩⟩⟩⟩
noncomputable def fSlT:Sto→D→Option Int→Option Int→Option D
 | _,.tup a,lo,hi=>some (.tup (cutD a lo hi))
 | _,.lst a,lo,hi=>some (.lst (cutD a lo hi))
 | _,_,_,_=>none
theorem RDs.cut {K:PySem.W.Frag} {w:Wd} {H:Hp} {ds:List D} {vs:List V} (r:RDs K w H ds vs) (lo hi:Option Int):RDs K w H (cutD ds lo hi) (cutV vs lo hi):=by
 unfold cutD cutV
 rw [r.length]
 exact (r.drop _).take _
theorem xl_tup:SlR X (xL X.K E fSlT):=by
 rintro pins s σ H x v vl vu lo hi sl Q I rx hs pl pu ⟨w,S,d,hS,qd,p⟩
 obtain ⟨z,hz,p'⟩:=p.of
 clear p
 unfold fSlT at hz
 split at hz
 ·rename_i a
  cases hz
  obtain ⟨pa,xs,rfl,za,ra⟩:=qd.tupI
  by_cases hw:HT.sIx xs.length 0 lo=0∧HT.sIx xs.length xs.length hi=xs.length
  ·cases rx
   obtain ⟨its,r,ht,hz⟩:=I.tuple (SqT_of za)
   have hlen:its.toArray.size=xs.length:=by rw [List.size_toArray]; exact r.length.symm
   refine ⟨"tuple",_,PyProof.Rows.slot_tuple_getitem.lookup,ht.typeIs,?_⟩
   refine getItem_tuple_whole ht hs pl pu (by rw [hlen]; exact hw) ⟨.ref pa,H,I,rfl,?_⟩
   have e:cutD a lo hi=a:=by
    unfold cutD
    rw [← ra.length,hw.1,hw.2]
    rw [List.drop_zero,Nat.sub_zero,ra.length,List.take_length]
   rw [e] at p'
   exact p'.ret (sameTup za ra) hS
  ·exact sl_tup pins s σ H _ v vl vu lo hi sl Q I rx hs pl pu ⟨pa,xs,rfl,SqT_of za,hw,fun q hq=>p'.at (Ext.new hq) (RD.newTup hS hq (ra.cut lo hi)) (hS.new hq)⟩
 ·rename_i a
  cases hz
  obtain ⟨pa,xs,rfl,za,ra⟩:=qd.lstI
  exact sl_list pins s σ H _ v vl vu lo hi sl Q I rx hs pl pu ⟨pa,xs,rfl,SqL.of za.1,fun q hq=>p'.at (Ext.new hq) (RD.newLst hS hq (ra.cut lo hi)) (hS.new hq)⟩
 ·cases hz
noncomputable def fLen:Sto→List D→Option D
 | _,[.str x]=>if x.length≤sizeLine then some (.int x.length) else none
 | _,[.dic x]=>some (.int x.length)
 | S,[d]=>match seqOf S d with
  | some a=>some (.int a.length)
  | none=>match d with
   | .ref n=>match S[n]? with
    | some (.dic kvs)=>some (.int kvs.length)
    | _=>none
   | _=>none
 | _,_=>none
theorem RDk.length {K:PySem.W.Frag} {w:Wd} {H:Hp}:∀ {ds:List (Sum Int Str × D)} {vs:List (Key × V)},RDk K w H ds vs→vs.length=ds.length
 | [],_,h=>by unfold RDk at h; rw [h]; rfl
 | (k,d) :: ds,_,h=>by
  unfold RDk at h
  obtain ⟨v,r,rfl,_,q⟩:=h
  simp [RDk.length q]
theorem xc_len:CallR X (.builtin "len") (xC X.K E fLen):=by
 rintro pins s σ H xs us Q I r ⟨w,S,ds,hS,qs,p⟩
 obtain ⟨z,hz,p'⟩:=p.of
 clear p
 unfold fLen at hz
 split at hz
 ·split at hz
  ·cases hz
   obtain ⟨v,rfl,q⟩:=qs.one_inv
   cases q.str
   exact call_len_str pins s σ H _ us Q I r ⟨_,rfl,by assumption,p'.ret RD.mkI hS⟩
  ·cases hz
 ·cases hz
  obtain ⟨v,rfl,q⟩:=qs.one_inv
  unfold RD at q
  obtain ⟨a,uu,rfl,z,rk⟩:=q
  exact call_lenD pins s σ H _ us Q I r ⟨_,_,rfl,z.1,by rw [rk.length]; exact p'.ret RD.mkI hS⟩
 ·obtain ⟨v,rfl,q⟩:=qs.one_inv
  split at hz
  ·rename_i a ha
   cases hz
   obtain ⟨pp,vs,rfl,sq,ra⟩:=seq_ok hS q ha
   exact call_len_seq pins s σ H _ us Q I r ⟨pp,vs,rfl,sq,by rw [ra.length]; exact p'.ret RD.mkI hS⟩
  ·split at hz
   ·split at hz
    ·rename_i n kvs hn
     cases hz
     obtain ⟨pp,rfl,hp⟩:=q.refI
     obtain ⟨p2,hp2,vs,hv,rk⟩:=hS.obj _ _ hn
     rw [hp] at hp2; cases hp2
     exact call_lenD pins s σ H _ us Q I r ⟨_,_,rfl,hv,by rw [rk.length]; exact p'.ret RD.mkI hS⟩
    ·cases hz
   ·cases hz
 ·cases hz
noncomputable def fAbs:Sto→List D→Option D
 | _,[.int i]=>some (.int (if i < 0 then -i else i))
 | _,_=>none
theorem xc_abs:CallR X (.builtin "abs") (xC X.K E fAbs):=by
 rintro pins s σ H xs us Q I r ⟨w,S,ds,hS,qs,p⟩
 obtain ⟨z,hz,p'⟩:=p.of
 clear p
 unfold fAbs at hz
 split at hz
 ·cases hz
  obtain ⟨v,rfl,q⟩:=qs.one_inv
  cases q.int
  exact call_abs pins s σ H _ us Q I r ⟨_,rfl,p'.ret RD.mkI hS⟩
 ·cases hz
noncomputable def fMax:Sto→List D→Option D
 | _,[.int i,.int j]=>some (.int (if j > i then j else i))
 | _,_=>none
theorem xc_max (hc:X.calm=true):CallR X (.builtin "max") (xC X.K E fMax):=by
 rintro pins s σ H xs us Q I r ⟨w,S,ds,hS,qs,p⟩
 obtain ⟨z,hz,p'⟩:=p.of
 clear p
 unfold fMax at hz
 split at hz
 ·cases hz
  obtain ⟨v,u,rfl,q,q'⟩:=qs.two_inv
  cases q.int
  cases q'.int
  exact call_max2 hc pins s σ H _ us Q I r ⟨_,_,rfl,p'.ret RD.mkI hS⟩
 ·cases hz
noncomputable def fMin:Sto→List D→Option D
 | _,[.int i,.int j]=>some (.int (if j < i then j else i))
 | _,_=>none
theorem xc_min (hc:X.calm=true):CallR X (.builtin "min") (xC X.K E fMin):=by
 rintro pins s σ H xs us Q I r ⟨w,S,ds,hS,qs,p⟩
 obtain ⟨z,hz,p'⟩:=p.of
 clear p
 unfold fMin at hz
 split at hz
 ·cases hz
  obtain ⟨v,u,rfl,q,q'⟩:=qs.two_inv
  cases q.int
  cases q'.int
  exact call_min2 hc pins s σ H _ us Q I r ⟨_,_,rfl,p'.ret RD.mkI hS⟩
 ·cases hz
noncomputable def fDivmod:Sto→List D→Option D
 | _,[.int i,.int j]=>if 0 < j∧j < 1073741824 then some (.tup [.int (i / j),.int (i % j)]) else none
 | _,_=>none
theorem xc_divmod:CallR X (.builtin "divmod") (xC X.K E fDivmod):=by
 rintro pins s σ H xs us Q I r ⟨w,S,ds,hS,qs,p⟩
 obtain ⟨z,hz,p'⟩:=p.of
 clear p
 unfold fDivmod at hz
 split at hz
 ·split at hz
  ·cases hz
   obtain ⟨v,u,rfl,q,q'⟩:=qs.two_inv
   cases q.int
   cases q'.int
   exact call_divmod pins s σ H _ us Q I r ⟨_,_,rfl,by assumption,fun t ht=>p'.at (Ext.new ht) (RD.newTup hS ht (.cons RD.mkI (.cons RD.mkI .nil))) (hS.new ht)⟩
  ·cases hz
 ·cases hz
noncomputable def fInt:Sto→List D→Option D
 | _,[.int i]=>some (.int i)
 | _,[.bl b]=>some (.int (if b then 1 else 0))
 | _,_=>none
theorem xc_int:CallR X (.type "int") (xC X.K E fInt):=by
 rintro pins s σ H xs us Q I r ⟨w,S,ds,hS,qs,p⟩
 obtain ⟨z,hz,p'⟩:=p.of
 clear p
 unfold fInt at hz
 split at hz
 ·cases hz
  obtain ⟨v,rfl,q⟩:=qs.one_inv
  cases q.int
  exact call_int1 pins s σ H _ us Q I r (.inl ⟨_,rfl,p'.ret RD.mkI hS⟩)
 ·cases hz
  obtain ⟨v,rfl,q⟩:=qs.one_inv
  cases q.bl
  exact call_int1 pins s σ H _ us Q I r (.inr ⟨_,rfl,p'.ret RD.mkI hS⟩)
 ·cases hz
noncomputable def fTuple:Sto→List D→Option D
 | _,[.tup a]=>some (.tup a)
 | S,[d]=>(seqOf S d).map .tup
 | _,_=>none
theorem xc_tuple:CallR X (.type "tuple") (xC X.K E fTuple):=by
 rintro pins s σ H xs us Q I r ⟨w,S,ds,hS,qs,p⟩
 obtain ⟨z,hz,p'⟩:=p.of
 clear p
 unfold fTuple at hz
 split at hz
 ·cases hz
  obtain ⟨v,rfl,q⟩:=qs.one_inv
  obtain ⟨pa,vs,rfl,za,ra⟩:=q.tupI
  exact call_tuple_of pins s σ H _ us Q I r ⟨pa,vs,rfl,.inr ⟨SqT_of za,p'.ret (sameTup za ra) hS⟩⟩
 ·rename_i d hd
  obtain ⟨v,rfl,q⟩:=qs.one_inv
  cases ha:seqOf S d with
  | none=>rw [ha] at hz; cases hz
  | some a=>
   rw [ha] at hz
   cases hz
   have hq:∃ pa vs,v=.ref pa∧SqL X.K H pa vs∧RDs X.K w H a vs:=by
    unfold seqOf at ha
    split at ha
    ·exact (hd _ rfl).elim
    ·cases ha; obtain ⟨p,vs,e,z,r⟩:=q.lstI; exact ⟨p,vs,e,SqL.of z.1,r⟩
    ·cases ha; obtain ⟨p,vs,e,z,r⟩:=q.fzI; exact ⟨p,vs,e,z.sq,r⟩
    ·split at ha
     ·rename_i n b hn
      cases ha
      obtain ⟨p,e,hp⟩:=q.refI
      obtain ⟨p2,hp2,vs,hv,rk⟩:=hS.obj _ _ hn
      rw [hp] at hp2; cases hp2
      exact ⟨p,vs,e,SqL.of hv,rk⟩
     ·rename_i n b hn
      cases ha
      obtain ⟨p,e,hp⟩:=q.refI
      obtain ⟨p2,hp2,o,vs,hv,rk⟩:=hS.obj _ _ hn
      rw [hp] at hp2; cases hp2
      exact ⟨p,vs,e,.inl (.inr ⟨o,hv⟩),rk⟩
     ·cases ha
    ·cases ha
   obtain ⟨pa,vs,rfl,sq,ra⟩:=hq
   exact call_tuple_of pins s σ H _ us Q I r ⟨pa,vs,rfl,.inl ⟨sq,fun t ht=>p'.at (Ext.new ht) (RD.newTup hS ht ra) (hS.new ht)⟩⟩
 ·cases hz
end
end PD
namespace PD
open PySem PySem.Spec PyProof.Rows L2
section
variable {X:Cx} {E:XK}
noncomputable def boolsOf:List D→Option (List Bool)
 | []=>some []
 | .bl b :: r=>(boolsOf r).map (b :: ·)
 | _ :: _=>none
noncomputable def fAll:Sto→List D→Option D
 | _,[.lst a]=>(boolsOf a).map fun bs=>.bl (bs.all id)
 | _,_=>none
theorem bools_ok {K:PySem.W.Frag} {w:Wd} {H:Hp}:∀ {ds:List D} {vs:List V} {us:List Value} {bs:List Bool},RDs K w H ds vs→Vals vs us→boolsOf ds=some bs→LSm.BoolsAre us bs
 | [],_,_,_,q,r,h=>by
  rw [q.nil_inv] at r
  cases r
  unfold boolsOf at h
  cases h
  exact .nil
 | d :: ds,_,_,bs,q,r,h=>by
  obtain ⟨v,vs,rfl,p,t⟩:=q.cons_inv
  cases d with
  | bl b=>
   unfold boolsOf at h
   cases e:boolsOf ds with
   | none=>rw [e] at h; cases h
   | some cs=>
    rw [e] at h; cases h
    cases p.bl
    cases r with
    | cons r1 r2=>
     cases r1
     exact .cons b (bools_ok t r2 e)
  | _=>unfold boolsOf at h; cases h
theorem xc_all (hc:X.calm=true):CallR X (.builtin "all") (xC X.K E fAll):=by
 rintro pins s σ H xs us Q I r ⟨w,S,ds,hS,qs,p⟩
 obtain ⟨z,hz,p'⟩:=p.of
 clear p
 unfold fAll at hz
 split at hz
 ·rename_i a
  cases e:boolsOf a with
  | none=>rw [e] at hz; cases hz
  | some bs=>
   rw [e] at hz; cases hz
   obtain ⟨v,rfl,q⟩:=qs.one_inv
   obtain ⟨pa,vs,rfl,za,ra⟩:=q.lstI
   obtain ⟨u,rfl,ru⟩:=vals1 r
   cases ru
   obtain ⟨its,r1,⟨o,n,ho,hcl,hdn,hd⟩,_⟩:=I.list (SqL.of za.1)
   have hb:=bools_ok ra r1 e
   have hlt:pa < s.heap.objs.size:=Heap.lt_size ho
   have hl:s.heap.IsList pa its.toArray:=⟨o,ho,hcl,n,hd⟩
   refine call_all_walk (wpAny_pyIter_list hl ?_)
   refine ⟨s.heap.objs.size,[s.heap.objs.size,pa],[s.heap.objs.size],its.toArray.size,_,_,fun i=>(bs[i]?).getD true,rfl,Walks.list (A:=X.A.in1) (I.ok.hd hc) _ pa (Nat.ne_of_lt hlt) its.toArray,
    ⟨⟨_,Heap.get?_push_size _ rfl,rfl,rfl⟩,hl.push _⟩,fun i v s' Q' E' hP hQ=>?_,fun h' tk hk=>?_⟩
   ·obtain ⟨b,e,rfl⟩:=hb.get i v (by simpa using hP)
    simp only [e,Option.getD_some] at hQ
    exact wpAny_truthy_bool hQ
   ·have e:((List.range its.toArray.size).all fun i=>(bs[i]?).getD true)=bs.all id:=by
     rw [List.size_toArray,hb.length]; exact LSm.range_all bs
    rw [e]
    exact ⟨.bl _,H,I.kept (LSm.kept_iter hk),rfl,p'.ret RD.mkB hS⟩
 ·cases hz
noncomputable def tyD (S:Sto):D→Option String
 | .non=>some "NoneType"
 | .bl _=>some "bool"
 | .int _=>some "int"
 | .str _=>some "str"
 | .tup _=>some "tuple"
 | .lst _=>some "list"
 | .fz _=>none
 | .dic _=>some "dict"
 | .ref n=>match S[n]? with
  | some (.lst _)=>some "list"
  | some (.dic _)=>some "dict"
  | _=>none
 | .ty _=>none
 | .exc _=>none
 | .cls _=>none
noncomputable def isiTys:List String:=["int","bool","tuple","str","list","dict"]
noncomputable def fIsi:Sto→List D→Option D
 | S,[d,.ty T]=>match tyD S d with
  | some t=>if T ∈ isiTys then some (.bl (t == T || (t == "bool" && T == "int"))) else none
  | none=>none
 | _,_=>none
theorem kit_ok (K:PySem.W.Frag) {t T:String} (ht:t ∈ ["NoneType","bool","int","str","tuple","list","dict"]) (hT:T ∈ isiTys):PySem.W.kitOne K (.type t) (.type T)=some (t == T || (t == "bool" && T == "int")):=by
 unfold isiTys at hT
 simp only [List.mem_cons,List.not_mem_nil,or_false] at ht hT
 rcases ht with rfl | rfl | rfl | rfl | rfl | rfl | rfl <;> rcases hT with rfl | rfl | rfl | rfl | rfl | rfl <;> first | rfl | (with_unfolding_all rfl) | (unfold PySem.W.kitOne PySem.W.kitCls; with_unfolding_all decide)
theorem tyOf_ok {K:PySem.W.Frag} {w:Wd} {H:Hp} {S:Sto} {d:D} {v:V} {t:String} (hS:RS K w H S) (q:RD K w H d v) (h:tyD S d=some t) (hk:∀ a vs,¬ KTup K a vs ∨ True):
  (L2.TyOf K H v (.type t) ∨ ∃ a vs,v=.ref a∧t = "tuple"∧KTup K a vs)∧t ∈ ["NoneType","bool","int","str","tuple","list","dict"]:=by
 cases d with
 | non=>cases q.non; cases h; exact ⟨.inl .non,by simp⟩
 | bl b=>cases q.bl; cases h; exact ⟨.inl (.bl b),by simp⟩
 | int i=>cases q.int; cases h; exact ⟨.inl (.int i),by simp⟩
 | str x=>cases q.str; cases h; exact ⟨.inl (.str x),by simp⟩
 | tup ds=>
  obtain ⟨p,vs,rfl,z,_⟩:=q.tupI
  cases h
  refine ⟨?_,by simp⟩
  rcases z with z | z
  ·exact .inl (.tup z.1)
  ·exact .inr ⟨p,vs,rfl,rfl,z⟩
 | lst ds=>obtain ⟨p,vs,rfl,z,_⟩:=q.lstI; cases h; exact ⟨.inl (.lst z.1),by simp⟩
 | fz ds=>cases h
 | dic kvs=>unfold RD at q; obtain ⟨p,us,rfl,z,_⟩:=q; cases h; exact ⟨.inl (.dK z.1),by simp⟩
 | ref n=>
  obtain ⟨p,rfl,hp⟩:=q.refI
  unfold tyD at h
  simp only at h
  cases e:S[n]? with
  | none=>rw [e] at h; cases h
  | some o=>
   rw [e] at h
   obtain ⟨p',hp',r⟩:=hS.obj n o e
   rw [hp] at hp'; cases hp'
   cases o with
   | lst a=>cases h; obtain ⟨vs,hv,_⟩:=r; exact ⟨.inl (.lst hv),by simp⟩
   | dic a=>cases h; obtain ⟨vs,hv,_⟩:=r; exact ⟨.inl (.dK hv),by simp⟩
   | fdic a=>cases h
   | ins c fs=>cases h
   | flst a=>cases h
 | ty n=>cases h
 | exc c=>cases h
 | cls c=>cases h
theorem xc_isi:CallR X (.builtin "isinstance") (xC X.K E fIsi):=by
 rintro pins s σ H xs us Q I r ⟨w,S,ds,hS,qs,p⟩
 obtain ⟨z,hz,p'⟩:=p.of
 clear p
 unfold fIsi at hz
 split at hz
 ·rename_i d T
  split at hz
  ·rename_i t ht
   split at hz
   ·rename_i hT
    cases hz
    obtain ⟨v,u,rfl,q,q'⟩:=qs.two_inv
    unfold RD at q'
    subst q'
    obtain ⟨v1,v2,rfl,rv,rt⟩:=vals2 r
    cases (show v2=Value.type T from rt)
    obtain ⟨ty,hm⟩:=tyOf_ok hS q ht fun _ _=>.inr trivial
    have kk:=kit_ok X.K hm hT
    rcases ty with ty | ⟨a,vs,rfl,rfl,kt⟩
    ·exact isinst_ok I rv ty kk fun tk=>⟨.bl _,H,I.tok tk,rfl,p'.ret RD.mkB hS⟩
    ·cases (show v1=Value.ref a from rv)
     obtain ⟨o,its,n,e,hcl,_⟩:=kt
     exact PySem.W.kia_one PySem.W.kitx_tuple I.kIn ⟨o,I.kIn _ _ e,hcl⟩ kk (fun z=>nomatch z) fun tk=>⟨.bl _,H,I.tok tk,rfl,p'.ret RD.mkB hS⟩
   ·cases hz
  ·cases hz
 ·cases hz
noncomputable def fPut:Sto→D→D→D→Option Sto
 | S,.ref n,.int i,v=>match S[n]? with
  | some (.lst a)=>(ixN a.length i).map fun j=>S.set n (.lst (a.set j v))
  | _=>none
 | _,_,_,_=>none
theorem xs_put:PSet X (xS X.K fPut):=by
 rintro pins s σ H o i v ov iv u Q I ro ri ru ⟨w,S,x,y,z,S',hS,qx,qy,qz,hf,k⟩
 unfold fPut at hf
 split at hf
 ·rename_i n j
  split at hf
  ·rename_i a hn
   cases e:ixN a.length j with
   | none=>rw [e] at hf; cases hf
   | some m=>
    rw [e] at hf; cases hf
    obtain ⟨p,rfl,hp⟩:=qx.refI
    cases qy.int
    obtain ⟨p',hp',vs,hv,ra⟩:=hS.obj _ _ hn
    rw [hp] at hp'; cases hp'
    have hm:p ∈ w.st:=List.mem_of_getElem? hp
    refine set_list pins s σ H _ _ _ ov iv u Q I ro ri ru ⟨p,vs,j,m,rfl,rfl,hv,by rw [ra.length]; exact e,k w _ (Ext.mut hm hv) ?_⟩
    exact hS.mut hp hv ⟨_,upd_same,RDs.ext (Ext.mut hm hv) _ _ (RDs.set qz m ra)⟩
  ·cases hf
 ·cases hf
noncomputable def xM (K:PySem.W.Frag) (E:XK) (f:Sto→D→List D→R D):V→List V→Hp→VK→Prop:=fun x xs H Q=>∃ w S d ds,RS K w H S∧RD K w H d x∧RDs K w H ds xs∧Post K E (RD K) w H (f S d ds) Q
noncomputable def isL (S:Sto):D→Bool
 | .lst _=>true
 | .fz _=>true
 | .ref n=>match S[n]? with
  | some (.lst _)=>true
  | _=>false
 | _=>false
theorem isL_ok {K:PySem.W.Frag} {w:Wd} {H:Hp} {S:Sto} {d:D} {v:V} (hS:RS K w H S) (q:RD K w H d v) (h:isL S d=true):tyV K "list" v H:=by
 cases d with
 | lst ds=>obtain ⟨p,vs,rfl,z,_⟩:=q.lstI; exact .inl ⟨rfl,vs,SqL.of z.1⟩
 | fz ds=>obtain ⟨p,vs,rfl,z,_⟩:=q.fzI; exact .inl ⟨rfl,vs,z.sq⟩
 | ref n=>
  obtain ⟨p,rfl,hp⟩:=q.refI
  unfold isL at h
  simp only at h
  cases e:S[n]? with
  | none=>rw [e] at h; cases h
  | some o=>
   rw [e] at h
   cases o with
   | lst a=>
    obtain ⟨p',hp',vs,hv,_⟩:=hS.obj n _ e
    rw [hp] at hp'; cases hp'
    exact .inl ⟨rfl,vs,SqL.of hv⟩
   | _=>cases h
 | _=>cases h
noncomputable def eMtL (f:Sto→D→List D→R D) (o:EM) (t:AM):EM:=fun r S=>(o r S).bind fun x S1=>if isL S1 x=true then (t r S1).bind fun ys S2=>f S2 x ys else .bad
theorem se_mtL {o e:Expr} {es:List Expr} {mo:EM} {ms:AM} {name:Str} {apos cpos:Pos} {id:String} {f:Sto→D→List D→R D} (pa:PlainAttrs "list") (slot:Slot "list" name id) (hty:typeOf (.builtin id)=pure (.type "method_descriptor")) (hm:MtR X id (xM X.K E f))
  (ho:SE X E o mo) (ha:SA X E (e :: es) ms) (hbase:autoParam (attributeBase o name X.env (eval o X.env)=eval o X.env) Au.h0._auto_1)
  (hfew:autoParam (((backTo cpos (starEach (e :: es) X.env)).all (fun x=>!x.1) && (backToKw cpos (keywordEach [] X.env)).all (fun x=>x.1.isSome)
   && decide ((e :: es).length + ([]:List Keyword).length + (if ([]:List Keyword).isEmpty then 0 else 1) < 30))=true) Au.h0._auto_1)
  (hline:autoParam ((apos.endLine == cpos.line)=true) Au.h0._auto_1) (hs:autoParam (starEach (e :: es) X.env=(false,eval e X.env) :: starEach es X.env) Au.h0._auto_1) (hplain:autoParam ((backTo cpos (starEach es X.env)).any (·.1)=false) Au.h0._auto_1):
  SE X E (.Call (.Attribute o name apos) (e :: es) [] cpos) (eMtL f mo ms):=⟨
 pe_weak (pe_bm pa slot hty hm ho.out ha.out hbase hfew hline hs hplain) fun s H Q zq=>ex6 zq fun w r S hr hS hp=>⟨w,r,S,hr,hS,hp.bind hS fun d S1 w1 H1 v x1 q1 s1 p1=>by
  by_cases hl:isL S1 d=true
  ·rw [if_pos hl] at p1
   exact ⟨isL_ok s1 q1 hl,w1,r,S1,hr.ext x1,s1,p1.bind s1 fun ds S2 w2 H2 us x2 q2 s2 p2=>⟨w2,S2,d,ds,s2,RD.ext x2 _ _ q1,q2,p2⟩⟩
  ·rw [if_neg hl] at p1
   exact p1.elim⟩⟩
noncomputable def mAppend:Sto→D→List D→R D
 | S,.ref n,[v]=>match S[n]? with
  | some (.lst a)=>if a.length < sizeLine then .ok .non (S.set n (.lst (a ++ [v]))) else .bad
  | _=>.bad
 | _,_,_=>.bad
theorem xm_append:MtR X "list.append" (xM X.K E mAppend):=by
 rintro pins s σ H x xs v us Q I rx rs ⟨w,S,d,ds,hS,qd,qs,p⟩
 unfold mAppend at p
 split at p
 ·rename_i n y
  split at p
  ·rename_i a hn
   split at p
   ·rename_i hl
    obtain ⟨pp,rfl,hp⟩:=qd.refI
    obtain ⟨yv,rfl,qy⟩:=qs.one_inv
    obtain ⟨p',hp',vs,hv,ra⟩:=hS.obj _ _ hn
    rw [hp] at hp'; cases hp'
    have hm:pp ∈ w.st:=List.mem_of_getElem? hp
    refine mt_append pins s σ H _ _ v us Q I rx rs ⟨pp,vs,yv,rfl,rfl,hv,by rw [ra.length]; exact hl,p.at (Ext.mut hm hv) (by unfold RD; rfl) ?_⟩
    exact hS.mut hp hv ⟨_,upd_same,RDs.ext (Ext.mut hm hv) _ _ (ra.append (.cons qy .nil))⟩
   ·exact p.elim
  ·exact p.elim
 ·exact p.elim
end
end PD
namespace PD
open PySem PySem.Spec PyProof.Rows L2
noncomputable def keyPy:Sum Int Str→PyData
 | .inl i=>.int i
 | .inr x=>.str x
mutual
noncomputable def toPy:D→Option PyData
 | .non=>some .none
 | .bl b=>some (.bool b)
 | .int i=>some (.int i)
 | .str x=>some (.str x)
 | .tup ds=>(toPys ds).map .tuple
 | .lst ds=>(toPys ds).map .list
 | .dic kvs=>(toPyk kvs).map .dict
 | .fz _=>none
 | .ref _=>none
 | .ty _=>none
 | .exc _=>none
 | .cls _=>none
noncomputable def toPys:List D→Option (List PyData)
 | []=>some []
 | d :: ds=>match toPy d,toPys ds with
  | some p,some q=>some (p :: q)
  | _,_=>none
noncomputable def toPyk:List (Sum Int Str × D)→Option (List (PyData × PyData))
 | []=>some []
 | (k,d) :: r=>match toPy d,toPyk r with
  | some p,some q=>some ((keyPy k,p) :: q)
  | _,_=>none
end
mutual
noncomputable def noL:D→Bool
 | .tup ds=>noLs ds
 | .lst _=>false
 | .dic kvs=>noLk kvs
 | _=>true
noncomputable def noLs:List D→Bool
 | []=>true
 | d :: ds=>noL d && noLs ds
noncomputable def noLk:List (Sum Int Str × D)→Bool
 | []=>true
 | (_,d) :: r=>noL d && noLk r
end
section
variable {X:Cx} {E:XK}
mutual
theorem reads_ok {pins:List (Addr × Obj)} {σ:L2.St} {H:Hp} {s:Shared} {w:Wd} (I:Inv X pins σ H s):∀ (d:D) (v:V) (u:Value) (p:PyData),RD X.K w H d v→RelV v u→toPy d=some p→∃ as,Reads s.heap u p as∧(noL d=true→sysModules ∉ as)
 | .non,v,u,p,q,r,h=>by cases q.non; cases (show u=Value.none from r); unfold toPy at h; cases h; exact ⟨_,.none,fun _ z=>nomatch z⟩
 | .bl b,v,u,p,q,r,h=>by cases q.bl; cases (show u=Value.bool b from r); unfold toPy at h; cases h; exact ⟨_,.bool b,fun _ z=>nomatch z⟩
 | .int i,v,u,p,q,r,h=>by cases q.int; obtain ⟨t,rfl⟩:=(show ∃ t,u=Value.int i t from r); unfold toPy at h; cases h; exact ⟨_,.int i t,fun _ z=>nomatch z⟩
 | .str x,v,u,p,q,r,h=>by cases q.str; obtain ⟨t,rfl⟩:=(show ∃ t,u=Value.str x t from r); unfold toPy at h; cases h; exact ⟨_,.str x t,fun _ z=>nomatch z⟩
 | .tup ds,v,u,p,q,r,h=>by
  obtain ⟨a,vs,rfl,z,rs⟩:=q.tupI
  cases (show u=Value.ref a from r)
  unfold toPy at h
  cases e:toPys ds with
  | none=>rw [e] at h; cases h
  | some ps=>
   rw [e] at h; cases h
   obtain ⟨its,r1,⟨o,ho,hc,n,hd⟩,_⟩:=I.tuple (SqT_of z)
   obtain ⟨as,ra,hn⟩:=readss_ok I ds vs its ps rs r1 e
   exact ⟨as,.tuple ho hc hd ra,fun z=>hn (by unfold noL at z; exact z)⟩
 | .lst ds,v,u,p,q,r,h=>by
  obtain ⟨a,vs,rfl,z,rs⟩:=q.lstI
  cases (show u=Value.ref a from r)
  unfold toPy at h
  cases e:toPys ds with
  | none=>rw [e] at h; cases h
  | some ps=>
   rw [e] at h; cases h
   obtain ⟨its,r1,⟨o,n,ho,hc,_,hd⟩,_⟩:=I.list (SqL.of z.1)
   obtain ⟨as,ra,hn⟩:=readss_ok I ds vs its ps rs r1 e
   exact ⟨a :: as,.list ho hc hd ra,fun z=>by unfold noL at z; cases z⟩
 | .dic kvs,v,u,p,q,r,h=>by
  unfold RD at q
  obtain ⟨a,us,rfl,z,rk⟩:=q
  cases (show u=Value.ref a from r)
  unfold toPy at h
  cases e:toPyk kvs with
  | none=>rw [e] at h; cases h
  | some ps=>
   rw [e] at h; cases h
   obtain ⟨_,hsys,vs,kv,o,es,ep,ho,hex,hd,_,hp,_⟩:=(show ObjOk X.prog X.w H s.heap a (.dK us) from I.hok a _ z.1)
   obtain ⟨as,bs,ra,rb,hn⟩:=readsk_ok I kvs us vs es.toList ps rk kv hp e
   refine ⟨a :: as ++ bs,.dict ho hex.1 hd ra rb,fun z=>?_⟩
   unfold noL at z
   intro hm
   rcases List.mem_append.mp hm with hm | hm
   ·rcases List.mem_cons.mp hm with hm | hm
    ·rw [← hm] at hsys; simp at hsys
    ·exact (hn z).1 hm
   ·exact (hn z).2 hm
 | .fz _,_,_,_,_,_,h=>by unfold toPy at h; cases h
 | .ref _,_,_,_,_,_,h=>by unfold toPy at h; cases h
 | .ty _,_,_,_,_,_,h=>by unfold toPy at h; cases h
 | .exc _,_,_,_,_,_,h=>by unfold toPy at h; cases h
 | .cls _,_,_,_,_,_,h=>by unfold toPy at h; cases h
theorem readss_ok {pins:List (Addr × Obj)} {σ:L2.St} {H:Hp} {s:Shared} {w:Wd} (I:Inv X pins σ H s):∀ (ds:List D) (vs:List V) (us:List Value) (ps:List PyData),RDs X.K w H ds vs→Vals vs us→toPys ds=some ps→∃ as,ReadsAll s.heap us ps as∧(noLs ds=true→sysModules ∉ as)
 | [],vs,us,ps,q,r,h=>by
  rw [q.nil_inv] at r
  cases r
  unfold toPys at h
  cases h
  exact ⟨_,.nil,fun _ z=>nomatch z⟩
 | d :: ds,_,us,ps,q,r,h=>by
  obtain ⟨v,vs,rfl,p,t⟩:=q.cons_inv
  unfold toPys at h
  cases e1:toPy d with
  | none=>rw [e1] at h; cases h
  | some p1=>
   cases e2:toPys ds with
   | none=>rw [e1,e2] at h; cases h
   | some p2=>
    rw [e1,e2] at h; cases h
    cases r with
    | cons r1 r2=>
     obtain ⟨as,ra,h1⟩:=reads_ok I d v _ p1 p r1 e1
     obtain ⟨bs,rb,h2⟩:=readss_ok I ds vs _ p2 t r2 e2
     refine ⟨as ++ bs,.cons ra rb,fun z=>?_⟩
     unfold noLs at z
     rw [Bool.and_eq_true] at z
     intro hm
     rcases List.mem_append.mp hm with hm | hm
     ·exact h1 z.1 hm
     ·exact h2 z.2 hm
theorem readsk_ok {pins:List (Addr × Obj)} {σ:L2.St} {H:Hp} {s:Shared} {w:Wd} (I:Inv X pins σ H s):∀ (ds:List (Sum Int Str × D)) (us:List (Key × V)) (vs:List (Key × Value)) (es:List DictEntry) (ps:List (PyData × PyData)),RDk X.K w H ds us→KV us vs→Pairs (mixKind X.prog X.w) es vs→toPyk ds=some ps→
  ∃ as bs,ReadsAll s.heap (es.map (·.key)) (ps.map (·.1)) as∧ReadsAll s.heap (es.map (·.val)) (ps.map (·.2)) bs∧(noLk ds=true→sysModules ∉ as∧sysModules ∉ bs)
 | [],us,vs,es,ps,q,r,hp,h=>by
  unfold RDk at q
  subst q
  cases r
  unfold toPyk at h
  cases h
  cases hp
  exact ⟨_,_,.nil,.nil,fun _=>⟨(fun z=>nomatch z),(fun z=>nomatch z)⟩⟩
 | (k,d) :: ds,us,vs,es,ps,q,r,hp,h=>by
  unfold RDk at q
  obtain ⟨v,ur,rfl,p,t⟩:=q
  unfold toPyk at h
  cases e1:toPy d with
  | none=>rw [e1] at h; cases h
  | some p1=>
   cases e2:toPyk ds with
   | none=>rw [e1,e2] at h; cases h
   | some p2=>
    rw [e1,e2] at h; cases h
    cases r with
    | cons r1 r2=>
     cases hp with
     | cons hk hv hr=>
      rename_i q0 vr e0 es0
      obtain ⟨k',v'⟩:=q0
      obtain ⟨ek,rv⟩:=r1
      have ek':k=k':=ek
      subst ek'
      obtain ⟨as,ra,h1⟩:=reads_ok I d v _ p1 p rv e1
      obtain ⟨as2,bs2,ra2,rb2,h2⟩:=readsk_ok I ds ur vr es0 p2 t r2 hr e2
      have hkey:∃ cs,Reads s.heap e0.key (keyPy k) cs∧cs=[]:=by
       rcases keyIs_shape hk with ⟨i,tk,z1,z2⟩ | ⟨x,tk,z1,z2⟩
       ·have z1':k=Sum.inl i:=z1
        subst z1'
        rw [z2]
        exact ⟨_,.int i tk,rfl⟩
       ·have z1':k=Sum.inr x:=z1
        subst z1'
        rw [z2]
        exact ⟨_,.str x tk,rfl⟩
      obtain ⟨cs,rc,ec⟩:=hkey
      subst ec
      have hv':e0.val=v':=hv
      refine ⟨[] ++ as2,as ++ bs2,.cons rc ra2,.cons (by show Reads s.heap e0.val p1 as; rw [hv']; exact ra) rb2,fun z=>?_⟩
      unfold noLk at z
      rw [Bool.and_eq_true] at z
      refine ⟨by rw [List.nil_append]; exact (h2 z.2).1,fun hm=>?_⟩
      rcases List.mem_append.mp hm with hm | hm
      ·exact h1 z.1 hm
      ·exact (h2 z.2).2 hm
end
end
end PD
namespace PD
open PySem PySem.Spec PyProof.Rows L2
section
variable {K:PySem.W.Frag} {w:Wd} {H:Hp}
structure Mv (w:Wd) (H:Hp) (w2:Wd) (H2:Hp):Prop where
 st:∀ (n:Nat) (a:Addr),w.st[n]?=some a→w2.st[n]?=some a
 at_:∀ a o,At w H a o→At w2 H2 a o
mutual
theorem RD.mv {w2:Wd} {H2:Hp} (x:Mv w H w2 H2):∀ (d:D) (v:V),RD K w H d v→RD K w2 H2 d v
 | .non,_,h=>h
 | .bl _,_,h=>h
 | .int _,_,h=>h
 | .str _,_,h=>h
 | .tup ds,v,h=>by
  unfold RD at h ⊢
  obtain ⟨a,vs,e,p,r⟩:=h
  exact ⟨a,vs,e,p.imp (x.at_ _ _) id,RDs.mv x ds vs r⟩
 | .lst ds,v,h=>by
  unfold RD at h ⊢
  obtain ⟨a,vs,e,p,r⟩:=h
  exact ⟨a,vs,e,x.at_ _ _ p,RDs.mv x ds vs r⟩
 | .fz ds,v,h=>by
  unfold RD at h ⊢
  obtain ⟨a,vs,e,p,r⟩:=h
  exact ⟨a,vs,e,p.imp (fun ⟨o,z⟩=>⟨o,x.at_ _ _ z⟩) id,RDs.mv x ds vs r⟩
 | .dic kvs,v,h=>by
  unfold RD at h ⊢
  obtain ⟨a,us,e,p,r⟩:=h
  exact ⟨a,us,e,x.at_ _ _ p,RDk.mv x kvs us r⟩
 | .ref n,v,h=>by
  unfold RD at h ⊢
  obtain ⟨a,e,p⟩:=h
  exact ⟨a,e,x.st n a p⟩
 | .ty _,_,h=>h
 | .exc c,v,h=>by
  unfold RD at h ⊢
  obtain ⟨a,C,o,e,q,p⟩:=h
  exact ⟨a,C,o,e,q,x.at_ _ _ p⟩
 | .cls _,_,h=>h
theorem RDs.mv {w2:Wd} {H2:Hp} (x:Mv w H w2 H2):∀ (ds:List D) (vs:List V),RDs K w H ds vs→RDs K w2 H2 ds vs
 | [],_,h=>h
 | d :: ds,vs,h=>by
  unfold RDs at h ⊢
  obtain ⟨v,r,e,p,q⟩:=h
  exact ⟨v,r,e,RD.mv x d v p,RDs.mv x ds r q⟩
theorem RDk.mv {w2:Wd} {H2:Hp} (x:Mv w H w2 H2):∀ (ds:List (Sum Int Str × D)) (vs:List (Key × V)),RDk K w H ds vs→RDk K w2 H2 ds vs
 | [],_,h=>h
 | (k,d) :: ds,vs,h=>by
  unfold RDk at h ⊢
  obtain ⟨v,r,e,p,q⟩:=h
  exact ⟨v,r,e,RD.mv x d v p,RDk.mv x ds r q⟩
end
theorem RO.mv {w2:Wd} {H2:Hp} (x:Mv w H w2 H2) {a:Addr} {o:SO} (hk:∀ u,H a=some u→H2 a=some u) (r:RO K w H a o):RO K w2 H2 a o:=by
 cases o with
 | lst ds=>obtain ⟨vs,e,q⟩:=r; exact ⟨vs,hk _ e,RDs.mv x _ _ q⟩
 | dic kvs=>obtain ⟨vs,e,q⟩:=r; exact ⟨vs,hk _ e,RDk.mv x _ _ q⟩
 | fdic kvs=>obtain ⟨o,vs,e,q⟩:=r; exact ⟨o,vs,hk _ e,RDk.mv x _ _ q⟩
 | ins c fs=>obtain ⟨C,dx,us,n,e,q1,q2⟩:=r; exact ⟨C,dx,us,n,hk _ e,q1,RDs.mv x _ _ q2⟩
 | flst ds=>obtain ⟨o,vs,e,q⟩:=r; exact ⟨o,vs,hk _ e,RDs.mv x _ _ q⟩
theorem RSt.mv {w2:Wd} {H2:Hp} {r:Rho} {s:L2.St} (x:Mv w H w2 H2) (h:RSt K w H r s):RSt K w2 H2 r s:=
 ⟨h.1,fun i d e=>let ⟨v,e1,q⟩:=h.2 i d e; ⟨v,e1,RD.mv x d v q⟩⟩
theorem Ext.hide {p:Addr} {o:HO} (hp:H p=none):Ext w H (w.hide p) (upd H p o):=
 ⟨fun a u e _=>by rw [upd_ne (ne_of_none e hp)]; exact e,⟨[],by simp [Wd.hide],fun _ z=>nomatch z⟩,fun a h=>List.mem_cons_of_mem _ h,fun a h=>(List.mem_cons.mp h).elim (fun e=>.inr (e ▸ hp)) .inl,fun a o u e=>by rw [upd_ne (ne_of_none e hp)]; exact e⟩
noncomputable def Wd.unhide (w:Wd) (p:Addr):Wd:=⟨w.st,w.hid.filter fun a=>decide (a ≠ p)⟩
theorem Wd.mem_unhide {p a:Addr} (h:a ∈ (w.unhide p).hid):a ∈ w.hid∧a ≠ p:=⟨(List.mem_filter.mp h).1,of_decide_eq_true (List.mem_filter.mp h).2⟩
theorem Mv.write {p:Addr} {o:HO} (hp:p ∈ w.hid):Mv w H w (upd H p o):=
 ⟨fun _ _ z=>z,fun a u h=>⟨by rw [upd_ne (fun z:a=p=>h.2.2 (z ▸ hp))]; exact h.1,h.2⟩⟩
theorem Mv.unhide {p:Addr}:Mv w H (w.unhide p) H:=
 ⟨fun _ _ z=>z,fun a u h=>⟨h.1,h.2.1,fun z=>h.2.2 (Wd.mem_unhide z).1⟩⟩
theorem RS.hide {p:Addr} {o:HO} {S:Sto} (s:RS K w H S) (hp:H p=none):RS K (w.hide p) (upd H p o) S:=by
 refine ⟨s.nd,s.len,fun n so e=>?_,fun a ha=>?_⟩
 ·obtain ⟨a,ha,r⟩:=s.obj n so e
  exact ⟨a,ha,r.ext (Ext.hide hp) fun u z=>by rw [upd_ne (ne_of_none z hp)]; exact z⟩
 ·rcases List.mem_cons.mp ha with z | z
  ·subst z; exact ⟨s.freshS hp,o,upd_same⟩
  ·obtain ⟨h1,u,e⟩:=s.hid a z
   exact ⟨h1,u,by rw [upd_ne (ne_of_none e hp)]; exact e⟩
theorem RS.write {p:Addr} {o:HO} {S:Sto} (s:RS K w H S) (hp:p ∈ w.hid):RS K w (upd H p o) S:=by
 have np:=(s.hid p hp).1
 refine ⟨s.nd,s.len,fun n so e=>?_,fun a ha=>?_⟩
 ·obtain ⟨a,ha,r⟩:=s.obj n so e
  have:a ≠ p:=fun z=>np (z ▸ List.mem_of_getElem? ha)
  exact ⟨a,ha,r.mv (Mv.write hp) fun u z=>by rw [upd_ne this]; exact z⟩
 ·obtain ⟨h1,u,e⟩:=s.hid a ha
  by_cases z:a=p
  ·subst z; exact ⟨h1,o,upd_same⟩
  ·exact ⟨h1,u,by rw [upd_ne z]; exact e⟩
theorem RS.unhide {p:Addr} {S:Sto} (s:RS K w H S):RS K (w.unhide p) H S:=
 ⟨s.nd,s.len,fun n so e=>by
  obtain ⟨a,ha,r⟩:=s.obj n so e
  exact ⟨a,ha,r.mv Mv.unhide fun u z=>z⟩,fun a ha=>s.hid a (Wd.mem_unhide ha).1⟩
theorem cap_rel {r:Rho} {s:L2.St} (k:Nat) (caps:List Nat) (h:RSt K w H r s):RSt K w H (capOf k caps r) (capSt k caps s):=by
 unfold capOf capSt
 refine ⟨by simp,fun i d e=>?_⟩
 by_cases hi:i < k
 ·rw [List.getElem?_append_left (by simpa using hi),List.getElem?_replicate] at e
  split at e <;> cases e
 ·rw [List.getElem?_append_right (by simpa using hi),List.getElem?_map,List.length_replicate] at e
  rw [List.getElem?_append_right (by simpa using hi),List.getElem?_map,List.length_replicate]
  cases ec:caps[i - k]? with
  | none=>rw [ec] at e; cases e
  | some j=>
   rw [ec] at e
   have e':(r[j]?).join=some d:=Option.some.inj e
   have hj:r[j]?=some (some d):=by
    cases q:r[j]? with
    | none=>rw [q] at e'; cases e'
    | some o=>rw [q] at e'; rw [show o=some d from e']
   obtain ⟨v,ev,rv⟩:=h.2 j d hj
   exact ⟨v,by show some ((s[j]?).join)=some (some v); rw [ev]; rfl,rv⟩
end
noncomputable abbrev SIf (X:Cx) (E:XK) (ifs:List Expr) (m:TM):Prop:=Bx (PIfs X ifs (uT X.K E m))
theorem sif_nil {X:Cx} {E:XK}:SIf X E [] tTrue:=⟨fun pins s σ H Q I zq=>ex6 zq fun w r S hr hS hp=>pifs_nil pins s σ H Q I (hp.ret rfl hS)⟩
theorem se_compQ {qb:Bool} {X:Cx} {E:XK} {elt tg iter:Expr} {ifs:List Expr} {scope:Scope} {pos:Pos} {N:List Str} {k:Nat} {caps:List Nat} {it:AM} {g:G} {mt:TM} {me:EM} (hX:Cd qb X) (hxe:∀ e s,¬ X.xe e s) (C:CompScope X N k caps scope)
  (hi:SIb qb X E tg iter it) (hg:∀ cl s0 H0 ex,Cd qb (cxC X N scope cl s0 H0 ex)→SG (cxC X N scope cl s0 H0 ex) tg g) (ht:∀ cl s0 H0 ex,Cd qb (cxC X N scope cl s0 H0 ex)→SIf (cxC X N scope cl s0 H0 ex) E ifs mt) (he:∀ cl s0 H0 ex,Cd qb (cxC X N scope cl s0 H0 ex)→SE (cxC X N scope cl s0 H0 ex) E elt me)
  (hs:autoParam (∀ x,foldedSetIterable iter X.env x=pure x) Au.h4._auto_1):SE X E (.ListComp elt [⟨tg,iter,ifs,0⟩] scope pos) (eComp it k caps g mt me):=⟨
 pe_weak (pe_compQ hX hxe C hi.out (g:=uG X.K g) (fun cl s0 H0 ex z=>(hg cl s0 H0 ex z).out) (tt:=uT X.K E mt) (fun cl s0 H0 ex z=>(ht cl s0 H0 ex z).out) (te:=uE X.K E me) (fun cl s0 H0 ex z=>(he cl s0 H0 ex z).out) hs) fun s H Q zq=>ex6 zq fun w r S hr hS hp=>⟨w,r,S,hr,hS,hp.bind hS fun ds S1 w1 H1 J x1 q1 s1 p1=>by
  intro p hp
  have hr1:=hr.ext x1
  have pno:p ∉ w1.hid:=(s1.fresh hp).2
  have hz:ds.length≤sizeLine:=by
   rcases Nat.lt_or_ge sizeLine ds.length with z | z
   ·rw [if_neg (by omega)] at p1; exact p1.elim
   ·exact z
  rw [if_pos hz] at p1
  -- the list is made at p,which is hidden
  refine ⟨fun i n s' H'=>n=ds.length - i∧i≤ds.length∧∃ w' r' S' ys vs,Ext w1 H1 w' H'∧p ∈ w'.hid∧RSt X.K w' H' r' s'∧RS X.K w' H' S'∧H' p=some (.lst vs)∧RDs X.K w' H' ys vs∧ys.length≤i∧
    Post X.K E (RD X.K) w1 H1 ((compL g mt me (ds.drop i) r' S').bind fun zs S2=>R.ok (.lst (ys ++ zs)) S2) Q,
   ⟨ds.length,by simp,Nat.zero_le _,w1.hide p,capOf k caps r,S1,[],[],Ext.hide hp,List.mem_cons_self,(cap_rel k caps hr1).ext (Ext.hide hp),s1.hide hp,upd_same,.nil,Nat.le_refl _,p1⟩,?_⟩
  rintro i n s2 H2 ⟨rfl,hi.out,w2,r2,S2,ys,vs,x2,hph,hr2,hS2,hpv,ry,hyl,hp2⟩
  have hpn:p ∉ w2.st:=(hS2.hid p hph).1
  by_cases hlt:i < ds.length
  ·obtain ⟨go,yld⟩:=(q1 i w2 H2 x2).1 hlt
   refine .inr ⟨go,fun s' H'=>∃ w' r' S' ys vs,Ext w1 H1 w' H'∧p ∈ w'.hid∧RSt X.K w' H' r' s'∧RS X.K w' H' S'∧H' p=some (.lst vs)∧RDs X.K w' H' ys vs∧ys.length≤i + 1∧
     Post X.K E (RD X.K) w1 H1 ((compL g mt me (ds.drop (i + 1)) r' S').bind fun zs S2=>R.ok (.lst (ys ++ zs)) S2) Q,
    fun s' H' hN=>⟨ds.length - (i + 1),by omega,rfl,hlt,hN⟩,fun x H3 hy=>?_⟩
   obtain ⟨gr,rd⟩:=yld x H3 hy
   obtain ⟨d,ed,qd⟩:=rd S2 hS2
   obtain ⟨x3,s3⟩:=grown_ok gr hS2
   have hdrop:ds.drop i=d :: ds.drop (i + 1):=by
    rw [List.drop_eq_getElem_cons hlt]
    rw [List.getElem?_eq_getElem hlt] at ed
    cases ed; rfl
   rw [hdrop] at hp2
   have hpv3:H3 p=some (.lst vs):=x3.keep _ _ hpv hpn
   have ry3:=RDs.ext x3 _ _ ry
   have x13:Ext w1 H1 w2 H3:=x2.trans' x3 s1 hS2
   unfold compL at hp2
   cases e:g.put d r2 with
   | none=>rw [e] at hp2; exact hp2.elim
   | some r3=>
    rw [e] at hp2
    refine ⟨w2,r2,d,r3,hr2.ext x3,qd,e,fun s4 hr4=>⟨w2,r3,S2,hr4,s3,?_⟩⟩
    -- hp2:(mt r3 S2).bind .. |>.bind ..
    have hass:∀ {A B C:Type} (r:R A) (f:A→Sto→R B) (h:B→Sto→R C),(r.bind f).bind h=r.bind fun a S=>(f a S).bind h:=fun r f h=>by cases r <;> rfl
    simp only [hass] at hp2
    refine Post.bindAt (rel:=RB) hp2 x13 s1 s3 fun c S5 w5 H5 c' x5 q5 s5 p5=>?_
    have ec:c'=c:=q5
    subst ec
    have x15:Ext w1 H1 w5 H5:=x13.trans' x5 s1 s3
    have hph5:p ∈ w5.hid:=x5.hid p hph
    have hpv5:H5 p=some (.lst vs):=x5.keep _ _ hpv3 hpn
    cases c' with
    | false=>
     refine iteF ⟨w5,r3,S5,ys,vs,x15,hph5,hr4.ext x5,s5,hpv5,RDs.ext x5 _ _ ry3,Nat.le_succ_of_le hyl,p5⟩
    | true=>
     refine iteT ⟨w5,r3,S5,hr4.ext x5,s5,?_⟩
     have p5':Post X.K E (RD X.K) w1 H1 (((me r3 S5).bind fun y S2=>(compL g mt me (ds.drop (i + 1)) r3 S2).bind fun ys S3=>R.ok (y :: ys) S3).bind fun zs S2=>R.ok (D.lst (ys ++ zs)) S2) Q:=p5
     simp only [hass] at p5'
     refine Post.bindAt (rel:=RD X.K) p5' x15 s1 s5 fun y S6 w6 H6 yv x6 q6 s6 p6=>?_
     have x16:Ext w1 H1 w6 H6:=x15.trans' x6 s1 s5
     have hph6:p ∈ w6.hid:=x6.hid p hph5
     have hpn5:p ∉ w5.st:=(s5.hid p hph5).1
     have hpn6:p ∉ w6.st:=(s6.hid p hph6).1
     have hpv6:H6 p=some (.lst vs):=x6.keep _ _ hpv5 hpn5
     have ry6:=RDs.ext x6 _ _ (RDs.ext x5 _ _ ry3)
     refine ⟨vs,hpv6,by rw [ry6.length]; omega,w6,r3,S6,ys ++ [y],vs ++ [yv],⟨fun a o h n=>?_,x16.sub,x16.hid,x16.hnew,fun a o u h=>by have z:=x16.frz a o u h; rw [upd_ne (fun e:a=p=>by rw [e,hpv6] at z; cases z)]; exact z⟩,hph6,(hr4.ext x5).ext x6 |>.mv (Mv.write hph6),s6.write hph6,upd_same,(RDs.mv (Mv.write hph6) _ _ ry6).append (.cons (RD.mv (Mv.write hph6) _ _ q6) .nil),by simp; omega,?_⟩
     ·have:a ≠ p:=ne_of_none h hp
      rw [upd_ne this]; exact x16.keep a o h n
     ·have he2:∀ zs:List D,(ys ++ [y]) ++ zs=ys ++ y :: zs:=fun zs=>by simp
      simp only [he2]
      exact p6
  ·have e:i=ds.length:=by omega
   subst e
   rw [List.drop_length] at hp2
   refine .inl ⟨(q1 _ w2 H2 x2).2 (Nat.le_refl _),?_⟩
   have hp3:Post X.K E (RD X.K) w1 H1 (R.ok (D.lst (ys ++ [])) S2) Q:=hp2
   rw [List.append_nil] at hp3
   refine Post.at hp3 (w1:=w2.unhide p) ⟨x2.keep,x2.sub,fun a h=>List.mem_filter.mpr ⟨x2.hid a h,decide_eq_true fun z=>pno (z ▸ h)⟩,fun a h=>x2.hnew a (Wd.mem_unhide h).1,x2.frz⟩ ?_ hS2.unhide
   unfold RD
   exact ⟨p,vs,rfl,⟨hpv,hpn,fun z=>(Wd.mem_unhide z).2 rfl⟩,RDs.mv Mv.unhide _ _ ry⟩⟩⟩
theorem se_comp {X:Cx} {E:XK} {elt tg iter:Expr} {ifs:List Expr} {scope:Scope} {pos:Pos} {N:List Str} {k:Nat} {caps:List Nat} {it:AM} {g:G} {mt:TM} {me:EM} (hX:X.calm=true) (hxe:∀ e s,¬ X.xe e s) (C:CompScope X N k caps scope)
  (hi:SI X E tg iter it) (hg:∀ cl s0 H0 ex,SG (cxC X N scope cl s0 H0 ex) tg g) (ht:∀ cl s0 H0 ex,SIf (cxC X N scope cl s0 H0 ex) E ifs mt) (he:∀ cl s0 H0 ex,SE (cxC X N scope cl s0 H0 ex) E elt me)
  (hs:autoParam (∀ x,foldedSetIterable iter X.env x=pure x) Au.h4._auto_1):SE X E (.ListComp elt [⟨tg,iter,ifs,0⟩] scope pos) (eComp it k caps g mt me):=se_compQ (qb:=false) (.inl hX) hxe C hi (fun a b c d _=>hg a b c d) (fun a b c d _=>ht a b c d) (fun a b c d _=>he a b c d) hs
end PD
namespace PD
open PySem PySem.Spec PyProof.Rows L2
section
variable {K:PySem.W.Frag} {w:Wd} {H:Hp}
end
section
variable {X:Cx} {E:XK} {pos:Pos}
end
end PD
namespace PD
open PySem PySem.Spec PyProof.Rows L2
noncomputable def ALen (m:AM) (n:Nat):Prop:=∀ r S ds S',m r S=.ok ds S'→ds.length=n
theorem alen_nil:ALen aNil 0:=fun r S ds S' h=>by unfold aNil at h; cases h; rfl
theorem alen_cons {a:EM} {t:AM} {n:Nat} (h:ALen t n):ALen (aCons a t) (n + 1):=fun r S ds S' e=>by
 unfold aCons at e
 cases e1:a r S with
 | bad=>rw [e1] at e; cases e
 | err x S1=>rw [e1] at e; cases e
 | ok d S1=>
  rw [e1] at e
  cases e2:t r S1 with
  | bad=>simp only [R.bind_ok,e2,R.bind_bad] at e; cases e
  | err x S2=>simp only [R.bind_ok,e2,R.bind_err] at e; cases e
  | ok es S2=>
   simp only [R.bind_ok,e2] at e
   cases e
   simp [h r S1 es _ e2]
section
variable {X:Cx} {E:XK}
theorem se_gi {x:Str} {i:Int} {pos:Pos} (hm:∃ t,X.mg x=some (.int i t)) (hg:Gl X x) (hd:autoParam ((x == ("__debug__":Str))=false) Au.h3._auto_1):SE X E (.Name x pos) (eC (.int i)):=by
 obtain ⟨t,e⟩:=hm
 exact se_gint hg e hd
end
section
variable {P:Program} {w:World} {K:PySem.W.Frag} {mg:Str→Option Value} {base:Heap}
end
noncomputable def capsOk (N0 N:List Str) (k:Nat) (scope:Scope):List Nat→Nat→Bool
 | [],_=>true
 | i :: r,t=>(match N0[i]?,N[k + t]? with
  | some x,some y=>x == y && scope.names.lookup x == some .free
  | _,_=>false) && capsOk N0 N k scope r (t + 1)
theorem capsOk_get {N0 N:List Str} {k:Nat} {scope:Scope}:∀ {caps:List Nat} {t0:Nat},capsOk N0 N k scope caps t0=true→∀ (t i:Nat),caps[t]?=some i→∃ x,N0[i]?=some x∧N[k + (t0 + t)]?=some x∧scope.names.lookup x=some .free
 | [],_,_,_,_,h=>by simp at h
 | j :: r,t0,h,t,i,e=>by
  unfold capsOk at h
  rw [Bool.and_eq_true] at h
  cases t with
  | zero=>
   simp at e
   subst e
   have h1:=h.1
   cases e1:N0[j]? with
   | none=>rw [e1] at h1; cases h1
   | some x=>
    cases e2:N[k + t0]? with
    | none=>rw [e1,e2] at h1; cases h1
    | some y=>
     rw [e1,e2] at h1
     simp only [Bool.and_eq_true] at h1
     have hxy:x=y:=eq_of_beq h1.1
     subst hxy
     exact ⟨x,rfl,by simpa using e2,eq_of_beq h1.2⟩
  | succ t=>
   obtain ⟨x,a,b,c⟩:=capsOk_get h.2 t i (by simpa using e)
   exact ⟨x,a,by rw [show t0 + (t + 1)=t0 + 1 + t by omega]; exact b,c⟩
theorem cs_mk {X:Cx} {N:List Str} {k:Nat} {caps:List Nat} {scope:Scope} (h1:scope.kind=.function) (h2:scope.names.all (fun x=>x.2 != .cell)=true) (h3:scope.names.all (fun x=>x.2 != .local || scope.names.lookup x.1 == some .local)=true)
  (h4:scope.names.all (fun x=>x.2 != .free || X.env.kindOf x.1 == some .cell || X.env.kindOf x.1 == some .free)=true) (h5:N.length=k + caps.length) (h6:capsOk X.N N k scope caps 0=true):CompScope X N k caps scope:=by
 refine ⟨h1,fun x hx z=>?_,fun x hx z=>?_,fun x hx z=>?_,h5,fun t i e=>?_⟩
 ·have:=List.all_eq_true.mp h2 x hx
  rw [z] at this; simp at this
 ·have:=List.all_eq_true.mp h3 x hx
  rw [z] at this
  simpa using this
 ·have:=List.all_eq_true.mp h4 x hx
  rw [z] at this
  simpa using this
 ·obtain ⟨x,a,b,c⟩:=capsOk_get h6 t i e
  exact ⟨x,a,by simpa using b,c⟩
theorem law_sp {f:FM} (h:∀ ns:List Int,ns.length≤63→∃ S,f [.fz (ns.map .int)] []=.ok (.bl true) S) (K:PySem.W.Frag) (H:Hp) (a:Addr) (ns:List Int) (hn:ns.length≤63) (ho:Only H) (hs:SqL K H a (ns.map V.int)):
  spM K 1 f [.ref a] H (fun v _=>v=.bl true) fun _ _ _=>False:=by
 obtain ⟨S,e⟩:=h ns hn
 have hfz:FzAt K ⟨[],[]⟩ H a (ns.map V.int):=by
  rcases hs with (hs | ⟨o,hs⟩) | hs
  ·rcases ho a with z | ⟨o,xs,z⟩
   ·rw [z] at hs; cases hs
   ·rw [z] at hs; cases hs
  ·exact .inl ⟨o,hs,(fun z=>nomatch z),(fun z=>nomatch z)⟩
  ·exact .inr hs
 have hints:∀ l:List Int,RDs K ⟨[],[]⟩ H (l.map D.int) (l.map V.int):=fun l=>by
  induction l with
  | nil=>exact .nil
  | cons i l ih=>exact .cons RD.mkI ih
 refine ⟨rfl,⟨[],[]⟩,[],[.fz (ns.map .int)],⟨List.nodup_nil,rfl,fun n o z=>?_,(fun a z=>nomatch z)⟩,.cons (by unfold RD; exact ⟨a,_,rfl,hfz,hints ns⟩) .nil,?_⟩
 ·simp at z
 ·rw [e]
  intro w' H' b x q s
  unfold RD at q
  exact q
end PD
namespace PD
open PySem L2
theorem oMul_i {S:Sto} {i j:Int} (h:smallI i ∨ smallI j):oMul S (.int i) (.int j)=some (.int (i * j)):=if_pos h
theorem oShl_i {S:Sto} {i:Nat} (h:i < 1000):oShl S (.int 1) (.int i)=some (.int (2 ^ i)):=by
 have:oShl S (.int 1) (.int i)=some (.int (1 * 2 ^ ((i:Int)).toNat)):=if_pos ⟨by omega,by omega,by decide⟩
 rw [this,Int.toNat_natCast,Int.one_mul]
theorem oPow_i {S:Sto} {i j:Int} (h:0≤j∧j≤1000000∧i.natAbs < 2 ^ 64):oPow S (.int i) (.int j)=some (.int (i ^ j.toNat)):=if_pos h
theorem oPow_10_12 {S:Sto}:oPow S (.int 10) (.int 12)=some (.int 1000000000000):=by
 rw [oPow_i ⟨by decide,by decide,by decide⟩]
 have e:(10:Int) ^ (12:Int).toNat=1000000000000:=by decide
 rw [e]
theorem atI_nat' {A:Type} {xs:List A} {i:Nat} (h:i < xs.length):atI xs (i:Int)=some xs[i]:=atI_nat (List.getElem?_eq_getElem h)
end PD
namespace PD
open PySem PyProof.Rows L2
noncomputable def Sh (nl:Bool) (d:D):Prop:=∃ p,toPy d=some p∧p.showable=true∧p.depth≤3∧p.shown.length≤64∧(if nl=true then noL d=true else p.hasDict=false)
theorem sh_int {nl:Bool} {i:Int} (h:i.natAbs < 10 ^ 30):Sh nl (.int i):=by
 refine ⟨.int i,rfl,?_,by show 0≤3; omega,?_,?_⟩
 ·unfold PyData.showable
  refine decide_eq_true ?_
  have:i.natAbs < 2 ^ 1920:=Nat.lt_trans h (by decide +kernel)
  rcases Nat.eq_zero_or_pos i.natAbs with z | z
  ·rw [z]; decide
  ·exact (Nat.log2_lt (by omega)).mpr this
 ·have e:=PySem.int_text_length_le10 (k:=30) (by decide) h
  show (Str.ofString (toString i)).length≤64
  rw [PySem.ofString_length]; omega
 ·cases nl <;> rfl
theorem shs {nl:Bool}:∀ {xs:List D},(∀ x ∈ xs,Sh nl x)→∃ ps,toPys xs=some ps∧PyData.showableAll ps=true∧PyData.depthAll ps≤3∧((PyData.shownAll ps).map (·.length)).sum≤64 * xs.length∧(PyData.shownAll ps).length=xs.length∧(if nl=true then noLs xs=true else PyData.hasDictAll ps=false)
 | [],_=>⟨[],rfl,rfl,by show 0≤3; omega,by show 0≤_; omega,rfl,by cases nl <;> rfl⟩
 | x :: xs,h=>by
  obtain ⟨p,h1,h2,h3,h4,h5⟩:=h x List.mem_cons_self
  obtain ⟨ps,k1,k2,k3,k4,k5,k6⟩:=shs fun y hy=>h y (List.mem_cons_of_mem _ hy)
  refine ⟨p :: ps,by unfold toPys; rw [h1,k1],by unfold PyData.showableAll; rw [h2,k2]; rfl,by unfold PyData.depthAll; omega,?_,?_,?_⟩
  ·unfold PyData.shownAll
   rw [List.map_cons,List.sum_cons,List.length_cons]
   omega
  ·unfold PyData.shownAll
   rw [List.length_cons,List.length_cons,k5]
  ·cases nl with
   | true=>
    simp only [if_true] at h5 k6 ⊢
    unfold noLs
    rw [h5,k6]; rfl
   | false=>
    simp only [Bool.false_eq_true,if_false] at h5 k6 ⊢
    unfold PyData.hasDictAll
    rw [h5,k6]; rfl
end PD
namespace L2
open PySem PySem.Spec PyProof.Rows
noncomputable def Fly (l:List Env) (H':Hp) (h hs:Heap) (ea:Addr) (cls:Value):Prop:=
 ∃ (B:Heap) (a0:Value),Heap.FlyingW B l ea cls a0 hs∧(∀ b o,h.get? b=some o→b ∉ frs l→∃ o',B.get? b=some o')∧(∀ b u,H' b=some u→∃ o',B.get? b=some o')∧hs.Zat ea
noncomputable def CX1 (P:Program) (w:World):CXT:=fun outer H s E e s'=>
 ∃ ea cls H',e=.ref ea∧s'.os=s.os∧AllBare s'.gens∧Un (frs outer) [] H H' s.heap s'.heap∧HOk P w H' s'.heap∧Fly outer H' s.heap s'.heap ea cls∧E cls none H'
section
variable {P:Program} {w:World} {fs:List Addr} {H H':Hp} {h h1 h2 B:Heap} {l:List Env}
end
section
variable {X:Cx} {pins:List (Addr × Obj)} {σ:St} {H:Hp} {s s':Shared} {E:XK} {e:Value}
end
end L2
namespace PD
open PySem PySem.Spec PyProof.Rows L2
section
variable {X:Cx} {E:XK}
end
section
variable {X:Cx} {E:XK} {x:Str} {a:Expr} {es:List Expr} {ms:AM} {np cpos pos:Pos}
end
section
variable {P:Program} {w:World} {K:PySem.W.Frag} {mg:Str→Option Value} {base:Heap} {N:List Str} {qual:Str} {scope:Scope} {f:Addr} {cdv:Value} {A:Around} {outer:List Env} {s:Shared} {H:Hp} {E:XK}
theorem passes_no {X:Cx}:Passes (CX1 X.prog X.w) X E0:=fun _ _ _ _ _ _ _ zq=>by obtain ⟨_,_,_,_,_,_,_,_,_,z⟩:=zq; exact z.elim
end
noncomputable def spN (K:PySem.W.Frag) (n:Nat) (f:FM):Sp:=fun vs H Q _=>vs.length=n∧∃ w S ds,RS K w H S∧RDs K w H ds vs∧Post K E0 (RD K) w H (f ds S) Q
structure DefN (P:Program) (w:World) (K:PySem.W.Frag) (mg:Str→Option Value) (base:Heap) (x:Str) (k n:Nat) (f:FM):Prop where
 ex:∃ (fa:Addr) (fd:FuncData) (ps:List Str),mg x=some (.ref fa)∧PySem.W.keepIn K (.ref fa)=true∧Binds K fd ps []∧FnOk P w K mg base (CX1 P w) k fa fd ps (spN K n f)
section
variable {X:Cx} {E:XK} {x:Str} {k n:Nat} {f:FM} {a:Expr} {es:List Expr} {ms:AM} {p pos:Pos}
theorem se_fnN (D:DefN X.prog X.w X.K X.mg X.base x k n f) (hr:Room k X.A) (hg:Gl X x) (ha:SA X E0 (a :: es) ms) (hn:ALen ms n) (hdb:autoParam ((x == ("__debug__":Str))=false) Au.h3._auto_1)
  (he:autoParam (starEach (a :: es) X.env=(false,eval a X.env) :: starEach es X.env) Au.h0._auto_1) (hpl:autoParam ((backTo pos (starEach es X.env)).any (·.1)=false) Au.h0._auto_1):
  SE X E0 (.Call (.Name x p) (a :: es) [] pos) (eCall f ms):=by
 obtain ⟨fa,fd,ps,hm,hk,hb,F⟩:=D.ex
 refine ⟨pe_weak (pe_call F hr hg hm hk hb (dvs:=[]) .nil passes_no ha.out hdb he hpl) fun s H Q zq=>?_⟩
 obtain ⟨w,r,S,hr,hS,hp⟩:=zq
 refine ⟨w,r,S,hr,hS,?_⟩
 have hp':Post X.K E0 (RD X.K) w H ((ms r S).bind fun xs S1=>f xs S1) Q:=hp
 cases e:ms r S with
 | bad=>rw [e] at hp'; exact hp'.elim
 | err y S'=>rw [e] at hp'; exact hp'
 | ok ds S'=>
  rw [e] at hp'
  intro w1 H1 vs x1 q1 s1
  rw [List.append_nil]
  exact ⟨by rw [q1.length]; exact hn r S ds S' e,w1,S',ds,s1,q1,Post.ext (r:=f ds S') hp' x1 hS s1⟩
end
section
variable {P:Program} {w:World} {K:PySem.W.Frag} {mg:Str→Option Value} {base:Heap}
theorem fn_okN {x qual:Str} {st:Stmt} {f:Addr} {fd:FuncData} {N ps:List Str} {k:Nat} {m:SM} (F:Fun K x qual st f fd) (S:FnScope N ps (defScope st))
  (hbody:∀ (cdv:Value) (A:Around) (outer:List Env) (s:Shared) (H:Hp) (E:XK),Room k (A.deeper (envOfC qual (defScope st) s.heap.objs.size f cdv))→
   SSs (cxOf (CX1 P w) P w K mg base N qual (defScope st) f cdv A outer s H E).nox E0 (defBody st) m):FnOk P w K mg base (CX1 P w) (k + 1) f fd ps (spN K ps.length (fnM N.length m)):=by
 obtain ⟨oc,od,kV,doc,pm,an,cdv,ct,osl,rfl,lk,hcd⟩:=F.ex
 refine fn_of lk hcd S (fun vs H Q E h=>h.1) fun A outer s H vs Q E hr h=>?_
 obtain ⟨hl,u,T,ds,hT,q,p⟩:=h
 refine ⟨_,(hbody cdv A outer s H E hr).out.nox,u,_,T,start_rel q,hT,?_⟩
 refine Post.bind (rel:=RF K) p hT fun g S1 w1 H1 fv x1 q1 s1 p1=>?_
 cases g with
 | nx r=>obtain ⟨s',rfl,_⟩:=q1; have z:=Post.ret (Q:=Q) (rel:=RD K) (a:=D.non) (b:=V.non) p1 (by unfold RD; rfl) s1; exact z
 | rt d=>obtain ⟨v,rfl,q2⟩:=q1; have z:=Post.ret (Q:=Q) (rel:=RD K) (a:=d) (b:=v) p1 q2 s1; exact z
 | bk r=>exact p1.elim
 | ct r=>exact p1.elim
theorem def_ofN {x:Str} {st:Stmt} {f:Addr} {fd:FuncData} {m:SM} (N ps:List Str) (k k1 n0 n1:Nat) (hk:k1=k + 1) (h0:n0=ps.length) (h1:n1=N.length) (F:Fun K x x st f fd) (hm:mg x=some (.ref f)) (hb:Binds K fd ps []) (S:FnScope N ps (defScope st))
  (hbody:∀ (cdv:Value) (A:Around) (outer:List Env) (s:Shared) (H:Hp) (E:XK),Room k (A.deeper (envOfC x (defScope st) s.heap.objs.size f cdv))→
   SSs (cxOf (CX1 P w) P w K mg base N x (defScope st) f cdv A outer s H E).nox E0 (defBody st) m):DefN P w K mg base x k1 n0 (fnM n1 m):=by
 subst hk h0 h1
 exact ⟨f,fd,ps,hm,F.kp,hb,fn_okN F S hbody⟩
theorem law_ofN {x:Str} {st:Stmt} {f:Addr} {fd:FuncData} {m:SM} (N ps:List Str) (k k1 n0 n1:Nat) (hk:k1=k + 1) (h0:n0=ps.length) (h1:n1=N.length) (F:Fun K x x st f fd) (S:FnScope N ps (defScope st))
  (hbody:∀ (cdv:Value) (A:Around) (outer:List Env) (s:Shared) (H:Hp) (E:XK),Room k (A.deeper (envOfC x (defScope st) s.heap.objs.size f cdv))→
   SSs (cxOf (CX1 P w) P w K mg base N x (defScope st) f cdv A outer s H E).nox E0 (defBody st) m):FnOk P w K mg base (CX1 P w) k1 f fd ps (spN K n0 (fnM n1 m)):=by
 subst hk h0 h1
 exact fn_okN F S hbody
end
end PD
namespace L2
open PySem PySem.Spec PyProof.Rows
section
variable {X:Cx} {pins:List (Addr × Obj)} {σ:St} {H:Hp} {s:Shared}
noncomputable abbrev Cx.with (X:Cx) (p:List (Addr × Obj)) (W:Value→Shared→Prop):Cx:={ X with pn:=p,xe:=W }
end
section
variable {X:Cx} {pins:List (Addr × Obj)} {σ:St} {H H':Hp} {s s':Shared} {B:Heap} {ea:Addr} {cls a0:Value} {h2:Heap}
end
end L2
namespace PD
open PySem PySem.Spec PyProof.Rows L2
section
variable {X:Cx} {E:XK}
end
end PD
namespace L2
open PySem PySem.Spec PyProof.Rows
section
variable {P:Program} {w:World} {K:PySem.W.Frag} {mg:Str→Option Value} {base:Heap}
end
section
variable {X:Cx} {k:Nat} {f:Addr} {fd:FuncData} {ps:List Str} {sp:Sp} {x:Str} {p pos:Pos} {e:Expr} {es:List Expr} {t:TA}
end
end L2
namespace PD
open PySem PySem.Spec PyProof.Rows L2
section
variable {X:Cx} {x:Str} {k n:Nat} {f:FM} {a:Expr} {es:List Expr} {ms:AM} {p pos:Pos}
end
section
variable {P:Program} {w:World} {K:PySem.W.Frag} {mg:Str→Option Value} {base:Heap}
end
end PD
namespace L2
open PySem PySem.Spec PyProof.Rows
section
variable {prog:Program} {w:World} {A:Around} {E:Value→Shared→Prop} {s:Shared} {K:PySem.W.Frag} {ea C:Addr} {ox:Obj} {od:Option Obj}
structure ExK (K:PySem.W.Frag) (C:Addr):Prop where
 ga:PySem.W.findIn K (.ref C) "__getattribute__" = some (some (.builtin "BaseException.__getattribute__"))
 gh:PySem.W.findIn K (.ref C) "__getattr__" = some none
 cl:PySem.W.findIn K (.ref C) "__class__" = some (some (.builtin "object.__class__"))
 bs:PySem.W.mroIn K C (.type "BaseException")=some true
 ob:PySem.W.mroIn K C (.type "object")=some true
 is:(PySem.W.clsIn K C).isSome=true
end
end L2
namespace PD
open PySem PySem.Spec PyProof.Rows L2
structure Cls (K:PySem.W.Frag) (cs ks:List Str) (isa:Str→Str→Bool):Prop where
 gt:PySem.W.specialIn K (.builtin "object.__class__") "__get__" = some (some (.builtin "getset_descriptor.__get__"))
 tk:PySem.W.takesIn K (.builtin "object.__class__")=some true
 ex:∀ c ∈ cs,∃ C,PySem.W.nsIn K mainGlobals c=some (some (.ref C))∧ExK K C∧PySem.W.kitOne K (.ref C) (.type "ValueError")=some true
 isa:∀ c ∈ cs,∀ k ∈ ks,∃ C D,PySem.W.nsIn K mainGlobals c=some (some C)∧PySem.W.nsIn K mainGlobals k=some (some D)∧PySem.W.kitOne K C D=some (isa c k)
section
variable {X:Cx} {E:XK} {cs ks:List Str} {isa:Str→Str→Bool}
end
end PD
namespace PD
open PySem PySem.Spec PyProof.Rows L2
section
variable {X:Cx} {E:XK}
noncomputable def intsOf:List D→Option (List Int)
 | []=>some []
 | .int b :: r=>(intsOf r).map (b :: ·)
 | _ :: _=>none
end
end PD
namespace PD
open PySem PySem.Spec PyProof.Rows L2
section
variable {X:Cx} {E:XK}
end
end PD
namespace PD
open PySem PySem.Spec PyProof.Rows L2
theorem whileL_more (t:TM) (b:SM):∀ (n k:Nat) (r:Rho) (S:Sto),whileL t b n r S ≠ .bad→whileL t b (n + k) r S=whileL t b n r S
 | 0,k,r,S,h=>absurd rfl h
 | n + 1,k,r,S,h=>by
  rw [show n + 1 + k=(n + k) + 1 by omega]
  unfold whileL at h ⊢
  cases e:t r S with
  | bad=>rfl
  | err x S1=>rfl
  | ok c S1=>
   rw [e] at h
   simp only [R.bind_ok] at h ⊢
   cases c with
   | false=>rfl
   | true=>
    simp only [if_true] at h ⊢
    cases e2:b r S1 with
    | bad=>rfl
    | err x S2=>rfl
    | ok f S2=>
     rw [e2] at h
     simp only [R.bind_ok] at h ⊢
     cases f with
     | nx r2=>exact whileL_more t b n k r2 S2 h
     | ct r2=>exact whileL_more t b n k r2 S2 h
     | bk r2=>rfl
     | rt d=>rfl
open Classical in
noncomputable def sWh (t:TM) (b:SM):SM:=fun r S=>if h:∃ n,whileL t b n r S ≠ .bad then whileL t b h.choose r S else .bad
theorem sWh_eq {t:TM} {b:SM} {r:Rho} {S:Sto} (n:Nat) (h:whileL t b n r S ≠ .bad):sWh t b r S=whileL t b n r S:=by
 have hx:∃ n,whileL t b n r S ≠ .bad:=⟨n,h⟩
 unfold sWh
 rw [dif_pos hx]
 have hc:=hx.choose_spec
 rcases Nat.le_total n hx.choose with z | z
 ·obtain ⟨k,e⟩:=Nat.exists_eq_add_of_le z
  rw [e]
  exact whileL_more t b n k r S h
 ·obtain ⟨k,e⟩:=Nat.exists_eq_add_of_le z
  have:=whileL_more t b hx.choose k r S hc
  rw [← e] at this
  exact this.symm
section
variable {X:Cx} {E:XK} {c:Expr} {body:List Stmt} {mt:TM} {m:SM} {pos:Pos}
theorem ss_while (hp:PassesOwn (model X.prog X.w) X.A X.env X.xe) (hc:ST X E c mt) (hb:SSs X E body m):SS X E (.While c body [] pos) (sWh mt m):=⟨
 ps_weak (ps_while hp hc.out hb.out) fun D s H zq=>ex6 zq fun w r S hr hS hp=>by
  have h0:∃ n,Post X.K E (RF X.K) w H (whileL mt m n r S) (FV.to D):=by
   have hp':Post X.K E (RF X.K) w H (sWh mt m r S) (FV.to D):=hp
   unfold sWh at hp'
   split at hp'
   ·exact ⟨_,hp'⟩
   ·exact hp'.elim
  obtain ⟨n0,hp0⟩:=h0
  refine ⟨fun n s' H'=>∃ w' r' S',RSt X.K w' H' r' s'∧RS X.K w' H' S'∧Post X.K E (RF X.K) w' H' (whileL mt m n r' S') (FV.to D),⟨n0,w,r,S,hr,hS,hp0⟩,?_⟩
  rintro n s1 H1 ⟨w1,r1,S1,hr1,hS1,hp1⟩
  cases n with
  | zero=>exact hp1.elim
  | succ n=>
   unfold whileL at hp1
   refine ⟨w1,r1,S1,hr1,hS1,hp1.bind hS1 fun k S2 w2 H2 v x2 q2 s2 p2=>?_⟩
   have e:v=k:=q2
   subst e
   cases v with
   | false=>exact iteF (Post.ret (b:=FV.nx s1) p2 ⟨s1,rfl,hr1.ext x2⟩ s2)
   | true=>
    refine iteT ⟨fun s' H'=>∃ w' r' S',RSt X.K w' H' r' s'∧RS X.K w' H' S'∧Post X.K E (RF X.K) w' H' (whileL mt m n r' S') (FV.to D),fun s' H' hN=>⟨n,Nat.lt_succ_self n,hN⟩,?_⟩
    simp only [if_true] at p2
    refine ⟨w2,r1,S2,hr1.ext x2,s2,Post.bind (rel:=RF X.K) p2 s2 fun f S5 w5 H5 fv x5 q5 s5 p5=>?_⟩
    cases f with
    | nx r6=>obtain ⟨s6,rfl,q6⟩:=q5; exact ⟨w5,r6,S5,q6,s5,p5⟩
    | ct r6=>obtain ⟨s6,rfl,q6⟩:=q5; exact ⟨w5,r6,S5,q6,s5,p5⟩
    | bk r6=>obtain ⟨s6,rfl,q6⟩:=q5; have z:=Post.ret (Q:=FV.to D) (rel:=RF X.K) (a:=F.nx r6) (b:=FV.nx s6) p5 ⟨s6,rfl,q6⟩ s5; exact z
    | rt d6=>obtain ⟨v6,rfl,q6⟩:=q5; have z:=Post.ret (Q:=FV.to D) (rel:=RF X.K) (a:=F.rt d6) (b:=FV.rt v6) p5 ⟨v6,rfl,q6⟩ s5; exact z⟩
end
end PD
namespace PD
open PySem PySem.Spec PyProof.Rows L2
section
variable {X:Cx} {E:XK}
noncomputable def eqP (a b:D):Option Bool:=match eqS a b with
 | some c=>some c
 | none=>match toPy a,toPy b with
  | some p,some q=>if SeqAt.shaped p=true∧SeqAt.shaped q=true then some (PyData.eqv p q) else none
  | _,_=>none
noncomputable def oEqP:Sto→D→D→Option D:=fun _ a b=>(eqP a b).map .bl
noncomputable def oNeP:Sto→D→D→Option D:=fun _ a b=>(eqP a b).map fun c=>.bl (!c)
theorem eqP_cases {a b:D} {c:Bool} (h:eqP a b=some c):eqS a b=some c ∨ ∃ p q,toPy a=some p∧toPy b=some q∧SeqAt.shaped p=true∧SeqAt.shaped q=true∧c=PyData.eqv p q:=by
 unfold eqP at h
 split at h
 ·rename_i c' e; cases h; exact .inl e
 ·split at h
  ·rename_i p q e1 e2
   split at h
   ·rename_i hs; cases h; exact .inr ⟨p,q,e1,e2,hs.1,hs.2,rfl⟩
   ·cases h
  ·cases h
theorem xo_eqP {k:Nat} (hr:Room k X.A):OpR X (compareOp .Eq) (xO X.K E oEqP):=by
 rintro pins s σ H x y v u Q I rx ry ⟨w,S,d,e,hS,qd,qe,p⟩
 obtain ⟨z,hz,p⟩:=p.of
 unfold oEqP at hz
 cases h:eqP d e with
 | none=>rw [h] at hz; cases hz
 | some c=>
  rw [h] at hz; cases hz
  rcases eqP_cases h with h | ⟨a,b,e1,e2,s1,s2,rfl⟩
  ·exact xo_eq pins s σ H x y v u Q I rx ry ⟨w,S,d,e,hS,qd,qe,by unfold oEq; rw [h]; exact p⟩
  ·obtain ⟨as,r1,_⟩:=reads_ok I d x v a qd rx e1
   obtain ⟨bs,r2,_⟩:=reads_ok I e y u b qe ry e2
   exact eq_dataH r1 r2 s1 s2 hr.units ⟨.bl _,H,I,rfl,p.ret RD.mkB hS⟩
theorem xo_neP {k:Nat} (hr:Room k X.A):OpR X (compareOp .NotEq) (xO X.K E oNeP):=by
 rintro pins s σ H x y v u Q I rx ry ⟨w,S,d,e,hS,qd,qe,p⟩
 obtain ⟨z,hz,p⟩:=p.of
 unfold oNeP at hz
 cases h:eqP d e with
 | none=>rw [h] at hz; cases hz
 | some c=>
  rw [h] at hz; cases hz
  rcases eqP_cases h with h | ⟨a,b,e1,e2,s1,s2,rfl⟩
  ·exact xo_ne pins s σ H x y v u Q I rx ry ⟨w,S,d,e,hS,qd,qe,by unfold oNe; rw [h]; exact p⟩
  ·obtain ⟨as,r1,_⟩:=reads_ok I d x v a qd rx e1
   obtain ⟨bs,r2,_⟩:=reads_ok I e y u b qe ry e2
   exact ne_dataH r1 r2 s1 s2 hr.units ⟨.bl _,H,I,rfl,p.ret RD.mkB hS⟩
end
end PD
namespace PD
open PySem PySem.Spec PyProof.Rows L2
theorem law_spN {f:FM} (h:∀ ns:List Int,ns.length≤63→∃ S,f [.fz (ns.map .int)] []=.ok (.bl true) S) (K:PySem.W.Frag) (H:Hp) (a:Addr) (ns:List Int) (hn:ns.length≤63) (ho:Only H) (hs:SqL K H a (ns.map V.int)):
  spN K 1 f [.ref a] H (fun v _=>v=.bl true) fun _ _ _=>False:=law_sp h K H a ns hn ho hs
theorem cx1_no {P:Program} {w:World} {l:List Env} {H:Hp} {s s':Shared} {e:Value} (h:CX1 P w l H s (fun _ _ _=>False) e s'):False:=by
 obtain ⟨_,_,_,_,_,_,_,_,_,z⟩:=h
 exact z
end PD
namespace SQ
open PySem PySem.Spec PyProof.Rows
open Sem (wp)
noncomputable def nm:Bool→String
 | true=>"tuple_iterator"
 | false=>"list_iterator"
noncomputable def Is:Bool→Heap→Addr→Array Value→Prop
 | true,h,a,xs=>h.IsTuple a xs
 | false,h,a,xs=>h.IsList a xs
noncomputable def It (k:Bool) (h:Heap) (it a:Addr) (i:Nat):Prop:=∃ o,h.get? it=some o∧o.cls=.type (nm k)∧o.data=.fields #[.ref a,.int i 0]
theorem It.move {k:Bool} {h h':Heap} {it a:Addr} {i:Nat} (x:It k h it a i) (q:∀ o,h.get? it=some o→h'.get? it=some o):It k h' it a i:=let ⟨o,e,r⟩:=x; ⟨o,q o e,r⟩
theorem Is.move {k:Bool} {h h':Heap} {a:Addr} {xs:Array Value} (x:Is k h a xs) (q:∀ o,h.get? a=some o→h'.get? a=some o):Is k h' a xs:=by
 cases k with
 | true=>obtain ⟨o,e,r⟩:=x; exact ⟨o,q o e,r⟩
 | false=>obtain ⟨o,e,r⟩:=x; exact ⟨o,q o e,r⟩
theorem Is.obj {k:Bool} {h:Heap} {a:Addr} {xs:Array Value} (x:Is k h a xs):∃ o,h.get? a=some o∧(o.cls=.type "tuple" ∨ o.cls=.type "list")∧∃ n,o.data=.seq xs n:=by
 cases k with
 | true=>obtain ⟨o,e,c,n,d⟩:=x; exact ⟨o,e,.inl c,n,d⟩
 | false=>obtain ⟨o,e,c,n,d⟩:=x; exact ⟨o,e,.inr c,n,d⟩
section
variable {prog:Program} {w:World} {A:Around} {E:Value→Shared→Prop} {s:Shared}
theorem iter {k:Bool} {t:Addr} {items} {Q:Value→Shared→Prop} (ht:Is k s.heap t items)
  (hQ:Q (.ref s.heap.objs.size) { s with heap:=s.heap.push { cls:=.type (nm k),data:=.fields #[.ref t,.int 0 0] } }):wpAny (model prog w) A (pyIter (.ref t)) Q E s:=by
 cases k with
 | true=>exact wpAny_pyIter_tuple ht hQ
 | false=>exact wpAny_pyIter_list ht hQ
theorem next_tup {it l:Addr} {i:Nat} {items} {x:Value} {Q:Value→Shared→Prop} (hit:s.heap.IsTupleIter it l i) (hl:s.heap.IsTuple l items) (hx:items[i]?=some x)
  (hQ:∀ h',h'.IsTupleIter it l (i + 1)→Heap.SameBut it s.heap h'→Q x { s with heap:=h' }):wpAny (model prog w) A (Builtin.SmallTypes.nextOf (.ref it)) Q E s:=by
 obtain ⟨o,ho,hc,hd⟩:=id hit; obtain ⟨ol,hol,_,nl,hdl⟩:=hl
 unfold Builtin.SmallTypes.nextOf; refine wpAny_bind (wpAny_callSpecial?_slot (name:=Str.ofString "__next__") hit.typeIs F.slot_tuple_iterator_next (wpAny_call_entry F.slot_tuple_iterator_next hit.typeIs F.entry_tuple_iterator_next ?_ (F.args_tuple_iterator_next_1 _)))
 show wpAny _ _ (field (.ref it) 0 >>= _) _ _ s; refine wpAny_bind (wpAny_field ho hd (x:=.ref l) rfl ?_); show wpAny _ _ (if (Value.ref l == Value.none)=true then _ else _) _ _ s
 rw [if_neg (show ¬ ((Value.ref l == Value.none)=true) from Bool.false_ne_true)]; show wpAny _ _ (field (.ref it) 1 >>= _) _ _ s; refine wpAny_bind (wpAny_field ho hd (x:=.int i 0) rfl ?_)
 show wpAny _ _ (seqItems? (.ref l) >>= _) _ _ s; refine wpAny_bind (wpAny_seqItems hol hdl ?_); simp only [Int.toNat_natCast,hx]
 refine wpAny_bind (wpAny_setField ho hd (by simp) (wpAny_pure ⟨x,rfl,wpAny_pure (hQ _ ?_ (Heap.SameBut.update ..))⟩)); exact ⟨_,Heap.get?_update_self _ ho (Obj.isFreed_of_fields (Obj.data_mapFields hd _)),(Obj.cls_mapFields ..).trans hc,by rw [Obj.data_mapFields hd]; simp [rawInt]⟩
theorem end_tup {it l:Addr} {i:Nat} {items} {Q:Value→Shared→Prop} (hh:A.handled=none) (hit:s.heap.IsTupleIter it l i) (hl:s.heap.IsTuple l items) (hx:items[i]?=none)
  (hE:∀ h' e,Heap.ExtBut it s.heap h'→(∃ o,h'.get? e=some o∧o.cls=.type "StopIteration")→E (.ref e) { s with heap:=h' }):wpAny (model prog w) A (Builtin.SmallTypes.nextOf (.ref it)) Q E s:=by
 obtain ⟨o,ho,hc,hd⟩:=id hit; obtain ⟨ol,hol,_,nl,hdl⟩:=hl
 unfold Builtin.SmallTypes.nextOf; refine wpAny_bind (wpAny_callSpecial?_slot (name:=Str.ofString "__next__") hit.typeIs F.slot_tuple_iterator_next (wpAny_call_entry F.slot_tuple_iterator_next hit.typeIs F.entry_tuple_iterator_next ?_ (F.args_tuple_iterator_next_1 _)))
 show wpAny _ _ (field (.ref it) 0 >>= _) _ _ s; refine wpAny_bind (wpAny_field ho hd (x:=.ref l) rfl ?_); show wpAny _ _ (if (Value.ref l == Value.none)=true then _ else _) _ _ s
 rw [if_neg (show ¬ ((Value.ref l == Value.none)=true) from Bool.false_ne_true)]; show wpAny _ _ (field (.ref it) 1 >>= _) _ _ s; refine wpAny_bind (wpAny_field ho hd (x:=.int i 0) rfl ?_)
 show wpAny _ _ (seqItems? (.ref l) >>= _) _ _ s; refine wpAny_bind (wpAny_seqItems hol hdl ?_); simp only [Int.toNat_natCast,hx]
 refine wpAny_bind (wpAny_rule (wpAny_bind (wpAny_setField ho hd (by simp) ?_))); show wpAny _ _ (newExc (.type "StopIteration") [] >>= _) _ _ _; refine wpAny_bind ?_
 simp only [newExc,newTuple]; refine wpAny_bind (wpAny_newObj_type ?_ (by size_fits)); refine wpAny_bind (m:=firstArgMember _ _) (wpAny_of_eq (a:=Value.none) (by first | rfl | (simp only [firstArgMember]; rfl)) ?_)
 refine wpAny_newObj_type ?_ (by size_fits); simp only [raiseNew]; refine wpAny_bind (wpAny_handled ?_); first | rw [show A.in1.handled=none from hh] | rw [hh]
 refine wpAny_bind (wpAny_pure (wpAny_throw ?_)); exact hE _ _ (((Heap.SameBut.update ..).extBut.push _).push _) ⟨_,Heap.get?_push_size _ rfl,rfl⟩
theorem next {k:Bool} {it l:Addr} {i:Nat} {items} {x:Value} {Q:Value→Shared→Prop} (hit:It k s.heap it l i) (hl:Is k s.heap l items) (hx:items[i]?=some x)
  (hQ:∀ h',It k h' it l (i + 1)→Heap.SameBut it s.heap h'→Q x { s with heap:=h' }):wpAny (model prog w) A (Builtin.SmallTypes.nextOf (.ref it)) Q E s:=by
 cases k with
 | true=>exact next_tup hit hl hx hQ
 | false=>exact wpAny_nextOf_list_item hit hl hx hQ
theorem ends {k:Bool} {it l:Addr} {i:Nat} {items} {Q:Value→Shared→Prop} (hh:A.handled=none) (hit:It k s.heap it l i) (hl:Is k s.heap l items) (hx:items[i]?=none)
  (hE:∀ h' e,Heap.ExtBut it s.heap h'→(∃ o,h'.get? e=some o∧o.cls=.type "StopIteration")→E (.ref e) { s with heap:=h' }):wpAny (model prog w) A (Builtin.SmallTypes.nextOf (.ref it)) Q E s:=by
 cases k with
 | true=>exact end_tup hh hit hl hx hE
 | false=>exact wpAny_nextOf_list_end hh hit hl hx hE
structure Apart (z TI TO i1 i2 l1 l2:Addr):Prop where
 a:TI ≠ z∧TO ≠ z∧i1 ≠ z∧i2 ≠ z∧TI ≠ TO∧TI ≠ i1∧TI ≠ i2
 b:TO ≠ i1∧TO ≠ i2∧i1 ≠ i2
 c:l1 ≠ z∧l1 ≠ TO∧l1 ≠ i1∧l1 ≠ i2
 d:l2 ≠ z∧l2 ≠ TO∧l2 ≠ i1∧l2 ≠ i2
theorem sb {t b:Addr} {h h':Heap} {o:Obj} (hs:Heap.SameBut t h h') (n:b ≠ t) (e:h.get? b=some o):h'.get? b=some o:=(hs.2 b n).trans e
theorem zip_item {k m:Bool} {z TI TO i1 i2 l1 l2:Addr} {k1 k2:Nat} {xs ys:Array Value} {x y a b:Value} {Q:Value→Shared→Prop} (D:Apart z TI TO i1 i2 l1 l2)
  (hz:IsZip s.heap z TI TO .none) (hTI:IsPair s.heap TI (.ref i1) (.ref i2)) (hTO:IsPair s.heap TO a b)
  (h1:It k s.heap i1 l1 k1) (h2:It m s.heap i2 l2 k2) (hl1:Is k s.heap l1 xs) (hl2:Is m s.heap l2 ys) (hx:xs[k1]?=some x) (hy:ys[k2]?=some y)
  (hQ:∀ h',IsZip h' z TI TO (rawInt s.heap.objs.size)→IsPair h' TO x y→It k h' i1 l1 (k1 + 1)→It m h' i2 l2 (k2 + 1)→IsPair h' s.heap.objs.size x y→h'.objs.size=s.heap.objs.size + 1→
   (∀ c o,c ∉ [z,TI,TO,i1,i2]→s.heap.get? c=some o→h'.get? c=some o)→IsPair h' TI (.ref i1) (.ref i2)→Q (.ref s.heap.objs.size) { s with heap:=h' }):
  wpAny (model prog w) A (Builtin.«zip.__next__» ⟨[.ref z],[]⟩) (fun fin s'=>∃ v,fin=.done (.ret v)∧Q v s') E s:=by
 obtain ⟨⟨nTIz,nTOz,n1z,n2z,nTITO,nTI1,nTI2⟩,⟨nTO1,nTO2,n12⟩,⟨p1,p2,p3,p4⟩,⟨q1,q2,q3,q4⟩⟩:=D
 show wpAny _ _ (field (.ref z) 2 >>= _) _ _ _; refine wpAny_bind (wpAny_field hz rfl (x:=.bool false) rfl ?_); show wpAny _ _ (field (.ref z) 3 >>= _) _ _ _
 refine wpAny_bind (wpAny_field hz rfl (x:=.ref TI) rfl ?_); refine wpAny_bind (wpAny_seqItems hTI rfl ?_); show wpAny _ _ (Builtin.SmallTypes.ownedTupleIsFree (.ref z) >>= _) _ _ _
 refine wpAny_bind ?_; unfold Builtin.SmallTypes.ownedTupleIsFree; refine wpAny_bind (wpAny_field hz rfl (x:=.none) rfl (wpAny_pure ?_)); simp only [if_true]
 refine wpAny_bind (wpAny_rule ?_); refine wpAny_bind (wpAny_field hz rfl (x:=.ref TO) rfl ?_); refine wpAny_bind (wpAny_setField_rec hz (by simp) fun h₁ hz₁ s1=>?_)
 replace hz₁:IsZip h₁ z TI TO .ellipsis:=hz₁; refine wpAny_bind ?_; simp only [List.zipIdx_cons,List.zipIdx_nil,List.forIn_cons,List.forIn_nil]
 refine wpAny_bind (wpAny_bind (wpAny_onRaise ?_)); show wpAny _ _ (Builtin.SmallTypes.nextOf (.ref i1) >>= _) _ _ _
 refine wpAny_bind (next (h1.move fun o=>sb s1 n1z) (hl1.move fun o=>sb s1 p1) hx fun h₂ h1₂ s2=>wpAny_pure ?_)
 have hTO₂:IsPair h₂ TO a b:=sb s2 nTO1 (sb s1 nTOz hTO)
 refine wpAny_bind (wpAny_seqItems hTO₂ rfl ?_); refine wpAny_bind (wpAny_updateSeq_pair hTO₂ fun h₃ hTO₃ s3=>?_)
 replace hTO₃:IsPair h₃ TO x b:=hTO₃
 refine wpAny_bind (wpAny_letGo (wpAny_pure ?_)); refine wpAny_bind (wpAny_bind (wpAny_onRaise ?_)); show wpAny _ _ (Builtin.SmallTypes.nextOf (.ref i2) >>= _) _ _ _
 refine wpAny_bind (next (h2.move fun o e=>sb s3 nTO2.symm (sb s2 n12.symm (sb s1 n2z e))) (hl2.move fun o e=>sb s3 q2 (sb s2 q3 (sb s1 q1 e))) hy fun h₄ h2₄ s4=>wpAny_pure ?_)
 have hTO₄:IsPair h₄ TO x b:=sb s4 nTO2 hTO₃
 refine wpAny_bind (wpAny_seqItems hTO₄ rfl ?_); refine wpAny_bind (wpAny_updateSeq_pair hTO₄ fun h₅ hTO₅ s5=>?_)
 replace hTO₅:IsPair h₅ TO x y:=hTO₅
 refine wpAny_bind (wpAny_letGo (wpAny_pure (wpAny_pure ?_))); refine wpAny_bind (wpAny_seqItems hTO₅ rfl ?_); refine wpAny_bind (wpAny_newTuple ?_)
 have hsz:h₅.objs.size=s.heap.objs.size:=by rw [s5.1,s4.1,s3.1,s2.1,s1.1]
 have k5:∀ c o,c ≠ z→c ≠ TO→c ≠ i1→c ≠ i2→s.heap.get? c=some o→h₅.get? c=some o:=fun c o c1 c2 c3 c4 e=>sb s5 c2 (sb s4 c4 (sb s3 c2 (sb s2 c3 (sb s1 c1 e))))
 have hz₅:IsZip h₅ z TI TO .ellipsis:=sb s5 nTOz.symm (sb s4 n2z.symm (sb s3 nTOz.symm (sb s2 n1z.symm hz₁)))
 have h1₅:It k h₅ i1 l1 (k1 + 1):=h1₂.move fun o e=>sb s5 nTO1.symm (sb s4 n12 (sb s3 nTO1.symm e))
 have h2₅:It m h₅ i2 l2 (k2 + 1):=h2₄.move fun o e=>sb s5 nTO2.symm e
 have zlt:z < h₅.objs.size:=Heap.lt_size hz₅
 show wpAny _ _ (Builtin.SmallTypes.ownedTupleHandOut (.ref z) (.ref h₅.objs.size) >>= _) _ _ _; refine wpAny_bind ?_; unfold Builtin.SmallTypes.ownedTupleHandOut
 have hz₆:IsZip (h₅.push { cls:=.type "tuple",data:=.seq #[x,y] }) z TI TO .ellipsis:=Heap.get?_push_of_some _ hz₅
 refine wpAny_bind (wpAny_setField_rec hz₆ (by simp) fun h₇ hz₇ s7=>?_); replace hz₇:IsZip h₇ z TI TO (rawInt h₅.objs.size):=hz₇
 refine wpAny_setField_rec hz₇ (by simp) fun h₈ hz₈ s8=>?_; replace hz₈:IsZip h₈ z TI TO (rawInt h₅.objs.size):=hz₈
 have up:∀ c o,c ≠ z→h₅.get? c=some o→h₈.get? c=some o:=fun c o c1 e=>sb s8 c1 (sb s7 c1 (Heap.get?_push_of_some _ e))
 have hT₈:IsPair h₈ h₅.objs.size x y:=sb s8 (Nat.ne_of_gt zlt) (sb s7 (Nat.ne_of_gt zlt) (Heap.get?_push_size _ rfl))
 have hz8:h₈.objs.size=h₅.objs.size + 1:=by rw [s8.1,s7.1,Heap.size_push]
 rw [hsz] at hz₈ hT₈ hz8; refine wpAny_pure ⟨_,rfl,?_⟩; show Q (.ref h₅.objs.size) _; rw [hsz]
 refine hQ h₈ hz₈ (up _ _ nTOz hTO₅) (h1₅.move fun o e=>up _ o n1z e) (h2₅.move fun o e=>up _ o n2z e) hT₈ hz8 (fun c o hc e=>?_) (up _ _ nTIz (k5 _ _ nTIz nTITO nTI1 nTI2 hTI))
 simp only [List.mem_cons,List.not_mem_nil,or_false,not_or] at hc; exact up c o hc.1 (k5 c o hc.1 hc.2.2.1 hc.2.2.2.1 hc.2.2.2.2 e)
theorem zip_end {k m:Bool} {z TI TO i1 i2 l1 l2:Addr} {k1 k2:Nat} {xs ys:Array Value} {a b:Value} {Q:Fin→Shared→Prop} (hh:A.handled=none) (D:Apart z TI TO i1 i2 l1 l2)
  (hz:IsZip s.heap z TI TO .none) (hTI:IsPair s.heap TI (.ref i1) (.ref i2)) (hTO:IsPair s.heap TO a b)
  (h1:It k s.heap i1 l1 k1) (h2:It m s.heap i2 l2 k2) (hl1:Is k s.heap l1 xs) (hl2:Is m s.heap l2 ys) (hend:xs[k1]?=none ∨ ys[k2]?=none)
  (hE:∀ h' e,(∀ c o,c ∉ [z,TI,TO,i1,i2]→s.heap.get? c=some o→h'.get? c=some o)→(∃ o,h'.get? e=some o∧o.cls=.type "StopIteration")→E (.ref e) { s with heap:=h' }):
  wpAny (model prog w) A (Builtin.«zip.__next__» ⟨[.ref z],[]⟩) Q E s:=by
 obtain ⟨⟨nTIz,nTOz,n1z,n2z,nTITO,nTI1,nTI2⟩,⟨nTO1,nTO2,n12⟩,⟨p1,p2,p3,p4⟩,⟨q1,q2,q3,q4⟩⟩:=D
 show wpAny _ _ (field (.ref z) 2 >>= _) _ _ _; refine wpAny_bind (wpAny_field hz rfl (x:=.bool false) rfl ?_); show wpAny _ _ (field (.ref z) 3 >>= _) _ _ _
 refine wpAny_bind (wpAny_field hz rfl (x:=.ref TI) rfl ?_); refine wpAny_bind (wpAny_seqItems hTI rfl ?_); show wpAny _ _ (Builtin.SmallTypes.ownedTupleIsFree (.ref z) >>= _) _ _ _
 refine wpAny_bind ?_; unfold Builtin.SmallTypes.ownedTupleIsFree; refine wpAny_bind (wpAny_field hz rfl (x:=.none) rfl (wpAny_pure ?_)); simp only [if_true]
 refine wpAny_bind (wpAny_rule ?_); refine wpAny_bind (wpAny_field hz rfl (x:=.ref TO) rfl ?_); refine wpAny_bind (wpAny_setField_rec hz (by simp) fun h₁ hz₁ s1=>?_)
 replace hz₁:IsZip h₁ z TI TO .ellipsis:=hz₁; refine wpAny_bind ?_; simp only [List.zipIdx_cons,List.zipIdx_nil,List.forIn_cons,List.forIn_nil]
 refine wpAny_bind (wpAny_bind (wpAny_onRaise ?_)); show wpAny _ _ (Builtin.SmallTypes.nextOf (.ref i1) >>= _) _ _ _
 cases hx:xs[k1]? with
 | none=>
  refine wpAny_bind (ends hh (h1.move fun o=>sb s1 n1z) (hl1.move fun o=>sb s1 p1) hx fun h₂ e s2 he=>?_)
  obtain ⟨oe,hoe,hce⟩:=he; have hz₂:IsZip h₂ z TI TO .ellipsis:=s2 _ _ n1z.symm hz₁
  have hez:e ≠ z:=fun x=>by subst x; rw [hz₂] at hoe; cases hoe; simp at hce
  refine wpAny_setField_rec hz₂ (by simp) fun h₃ _ s3=>hE h₃ e (fun c o hc x=>?_) ⟨oe,sb s3 hez hoe,hce⟩
  simp only [List.mem_cons,List.not_mem_nil,or_false,not_or] at hc; exact sb s3 hc.1 (s2 _ _ hc.2.2.2.1 (sb s1 hc.1 x))
 | some x=>
  have hy:ys[k2]?=none:=hend.resolve_left fun h=>by rw [hx] at h; cases h
  refine wpAny_bind (next (h1.move fun o=>sb s1 n1z) (hl1.move fun o=>sb s1 p1) hx fun h₂ h1₂ s2=>wpAny_pure ?_)
  have hTO₂:IsPair h₂ TO a b:=sb s2 nTO1 (sb s1 nTOz hTO)
  refine wpAny_bind (wpAny_seqItems hTO₂ rfl ?_); refine wpAny_bind (wpAny_updateSeq_pair hTO₂ fun h₃ hTO₃ s3=>?_)
  refine wpAny_bind (wpAny_letGo (wpAny_pure ?_)); refine wpAny_bind (wpAny_bind (wpAny_onRaise ?_)); show wpAny _ _ (Builtin.SmallTypes.nextOf (.ref i2) >>= _) _ _ _
  refine wpAny_bind (ends hh (h2.move fun o e=>sb s3 nTO2.symm (sb s2 n12.symm (sb s1 n2z e))) (hl2.move fun o e=>sb s3 q2 (sb s2 q3 (sb s1 q1 e))) hy fun h₄ e s4 he=>?_)
  obtain ⟨oe,hoe,hce⟩:=he; have hz₄:IsZip h₄ z TI TO .ellipsis:=s4 _ _ n2z.symm (sb s3 nTOz.symm (sb s2 n1z.symm hz₁))
  have hez:e ≠ z:=fun x=>by subst x; rw [hz₄] at hoe; cases hoe; simp at hce
  refine wpAny_setField_rec hz₄ (by simp) fun h₅ _ s5=>hE h₅ e (fun c o hc x=>?_) ⟨oe,sb s5 hez hoe,hce⟩
  simp only [List.mem_cons,List.not_mem_nil,or_false,not_or] at hc; exact sb s5 hc.1 (s4 _ _ hc.2.2.2.2 (sb s3 hc.2.2.1 (sb s2 hc.2.2.2.1 (sb s1 hc.1 x))))
theorem zip_next {k m:Bool} {z TI TO i1 i2 l1 l2:Addr} {k1 k2:Nat} {xs ys:Array Value} {x y a b:Value} {Q:Option Value→Shared→Prop} (D:Apart z TI TO i1 i2 l1 l2)
  (hz:IsZip s.heap z TI TO .none) (hTI:IsPair s.heap TI (.ref i1) (.ref i2)) (hTO:IsPair s.heap TO a b)
  (h1:It k s.heap i1 l1 k1) (h2:It m s.heap i2 l2 k2) (hl1:Is k s.heap l1 xs) (hl2:Is m s.heap l2 ys) (hx:xs[k1]?=some x) (hy:ys[k2]?=some y)
  (hQ:∀ h',IsZip h' z TI TO (rawInt s.heap.objs.size)→IsPair h' TO x y→It k h' i1 l1 (k1 + 1)→It m h' i2 l2 (k2 + 1)→IsPair h' s.heap.objs.size x y→h'.objs.size=s.heap.objs.size + 1→
   (∀ c o,c ∉ [z,TI,TO,i1,i2]→s.heap.get? c=some o→h'.get? c=some o)→IsPair h' TI (.ref i1) (.ref i2)→Q (some (.ref s.heap.objs.size)) { s with heap:=h' }):wpAny (model prog w) A (pyNext (.ref z)) Q E s:=by
 have hT:s.TypeIs (.ref z) "zip":=⟨_,hz,rfl⟩; unfold pyNext
 exact wpAny_bind (wpAny_attempt (wpAny_callSpecial?_slot (name:=Str.ofString "__next__") hT F.slot_zip_next (wpAny_call_entry F.slot_zip_next hT F.entry_zip_next (zip_item D hz hTI hTO h1 h2 hl1 hl2 hx hy fun h' a1 a2 a3 a4 a5 a6 a7 a8=>wpAny_pure (hQ h' a1 a2 a3 a4 a5 a6 a7 a8)) (F.args_zip_next_1 _))))
theorem zip_stop {k m:Bool} {z TI TO i1 i2 l1 l2:Addr} {k1 k2:Nat} {xs ys:Array Value} {a b:Value} {Q:Option Value→Shared→Prop} (hh:A.handled=none) (D:Apart z TI TO i1 i2 l1 l2)
  (hz:IsZip s.heap z TI TO .none) (hTI:IsPair s.heap TI (.ref i1) (.ref i2)) (hTO:IsPair s.heap TO a b)
  (h1:It k s.heap i1 l1 k1) (h2:It m s.heap i2 l2 k2) (hl1:Is k s.heap l1 xs) (hl2:Is m s.heap l2 ys) (hend:xs[k1]?=none ∨ ys[k2]?=none)
  (hQ:∀ h',(∀ c o,c ∉ [z,TI,TO,i1,i2]→s.heap.get? c=some o→h'.get? c=some o)→Q none { s with heap:=h' }):wpAny (model prog w) A (pyNext (.ref z)) Q E s:=by
 have hT:s.TypeIs (.ref z) "zip":=⟨_,hz,rfl⟩; unfold pyNext
 refine wpAny_bind (wpAny_attempt (wpAny_callSpecial?_slot (name:=Str.ofString "__next__") hT F.slot_zip_next (wpAny_call_entry F.slot_zip_next hT F.entry_zip_next (zip_end hh D hz hTI hTO h1 h2 hl1 hl2 hend fun h' e hk he=>?_) (F.args_zip_next_1 _))))
 obtain ⟨o,ho,hc⟩:=he; refine wpAny_bind (wpAny_isInstance (T:="StopIteration") (b:=true) ⟨o,ho,hc⟩ isSubtype_stop ?_); exact wpAny_pure (hQ _ hk)
end
noncomputable abbrev z1 (k:Bool) (h:Heap) (l1:Addr):Heap:=h.push { cls:=.type (nm k),data:=.fields #[.ref l1,.int 0 0] }
noncomputable abbrev z2 (k m:Bool) (h:Heap) (l1 l2:Addr):Heap:=(z1 k h l1).push { cls:=.type (nm m),data:=.fields #[.ref l2,.int 0 0] }
noncomputable abbrev z3 (k m:Bool) (h:Heap) (l1 l2:Addr):Heap:=(z2 k m h l1 l2).push { cls:=.type "tuple",data:=.seq #[.ref h.objs.size,.ref (z1 k h l1).objs.size] }
noncomputable abbrev z4 (k m:Bool) (h:Heap) (l1 l2:Addr):Heap:=(z3 k m h l1 l2).push { cls:=.type "tuple",data:=.seq #[.none,.none] }
noncomputable abbrev z5 (k m:Bool) (h:Heap) (l1 l2:Addr):Heap:=(z4 k m h l1 l2).push { cls:=.type "zip",data:=.fields #[.none,.bool false,.bool false,.ref (z2 k m h l1 l2).objs.size,.ref (z3 k m h l1 l2).objs.size] }
theorem zip_meets (k m:Bool) (l1 l2:Addr) (xs ys:Array Value):
  Meets (Builtin.«zip.__new__» ⟨[.type "zip",.ref l1,.ref l2],[]⟩) (fun _ R s=>Is k s.heap l1 xs∧Is m s.heap l2 ys∧R (.ok (.ret (.ref (z4 k m s.heap l1 l2).objs.size))) { s with heap:=z5 k m s.heap l1 l2 }):=
 .of_wp fun prog w A R s h=>by
  obtain ⟨hp,g,d,tk,os⟩:=s; obtain ⟨hl1,hl2,h⟩:=h; have hsub:=sub_zip
  have hL1:Is k (Shared.heap ⟨hp,g,d,tk,os⟩) l1 xs:=hl1
  have hL2:Is m (Shared.heap ⟨hp.push { cls:=.type (nm k),data:=.fields #[.ref l1,.int 0 0] },g,d,tk,os⟩) l2 ys:=hl2.move fun o e=>Heap.get?_push_of_some _ e
  wp_walk using iter hL1,iter hL2
  exact ⟨_,rfl,h⟩
section
variable {prog:Program} {w:World} {A:Around} {E:Value→Shared→Prop} {s:Shared}
theorem call_zip {k m:Bool} {l1 l2:Addr} {xs ys:Array Value} {Q:Value→Shared→Prop} (hl1:Is k s.heap l1 xs) (hl2:Is m s.heap l2 ys)
  (h:∀ h',IsZip h' (s.heap.objs.size + 4) (s.heap.objs.size + 2) (s.heap.objs.size + 3) .none→IsPair h' (s.heap.objs.size + 2) (.ref s.heap.objs.size) (.ref (s.heap.objs.size + 1))→
   IsPair h' (s.heap.objs.size + 3) .none .none→It k h' s.heap.objs.size l1 0→It m h' (s.heap.objs.size + 1) l2 0→h'.objs.size=s.heap.objs.size + 5→
   (∀ c o,s.heap.get? c=some o→h'.get? c=some o)→Q (.ref (s.heap.objs.size + 4)) { s with heap:=h' }):wpAny (model prog w) A (call (.type "zip") [.ref l1,.ref l2]) Q E s:=by
 refine callType_new F.called_zip (by decide) (F.typeCall_zip_2 _ _) (F.newCall_zip_2 _ _) (fun obj=>F.args_object_init_3 obj _ _) F.entry_zip_new (zip_meets k m l1 l2 xs ys) ⟨hl1,hl2,?_⟩
 have e1:(z1 k s.heap l1).objs.size=s.heap.objs.size + 1:=Heap.size_push ..
 have e2:(z2 k m s.heap l1 l2).objs.size=s.heap.objs.size + 2:=by rw [Heap.size_push,e1]
 have e3:(z3 k m s.heap l1 l2).objs.size=s.heap.objs.size + 3:=by rw [Heap.size_push,e2]
 have e4:(z4 k m s.heap l1 l2).objs.size=s.heap.objs.size + 4:=by rw [Heap.size_push,e3]
 have e5:(z5 k m s.heap l1 l2).objs.size=s.heap.objs.size + 5:=by rw [Heap.size_push,e4]
 have g5:(z5 k m s.heap l1 l2).get? (z4 k m s.heap l1 l2).objs.size=some _:=Heap.get?_push_size _ rfl
 have g4:(z5 k m s.heap l1 l2).get? (z3 k m s.heap l1 l2).objs.size=some _:=Heap.get?_push_of_some _ (Heap.get?_push_size _ rfl)
 have g3:(z5 k m s.heap l1 l2).get? (z2 k m s.heap l1 l2).objs.size=some _:=Heap.get?_push_of_some _ (Heap.get?_push_of_some _ (Heap.get?_push_size _ rfl))
 have g2:(z5 k m s.heap l1 l2).get? (z1 k s.heap l1).objs.size=some _:=Heap.get?_push_of_some _ (Heap.get?_push_of_some _ (Heap.get?_push_of_some _ (Heap.get?_push_size _ rfl)))
 have g1:(z5 k m s.heap l1 l2).get? s.heap.objs.size=some _:=Heap.get?_push_of_some _ (Heap.get?_push_of_some _ (Heap.get?_push_of_some _ (Heap.get?_push_of_some _ (Heap.get?_push_size _ rfl))))
 show _∧_; rw [e2,e3,e4] at g5; rw [e1,e2] at g3; rw [e3] at g4; rw [e1] at g2; rw [e4]
 exact ⟨⟨_,g5,rfl⟩,h _ g5 g3 g4 ⟨_,g1,rfl,rfl⟩ ⟨_,g2,rfl,rfl⟩ e5 fun c o x=>Heap.get?_push_of_some _ (Heap.get?_push_of_some _ (Heap.get?_push_of_some _ (Heap.get?_push_of_some _ (Heap.get?_push_of_some _ x))))⟩
end
theorem enum_meets (k:Bool) (l:Addr) (items:Array Value) (ob:Obj):
  Meets (Builtin.«enumerate.__new__» ⟨[.type "enumerate",.ref l],[]⟩) (fun _ R s=>Is k s.heap l items∧s.heap.get? l=some ob∧
   R (.ok (.ret (.ref (s.heap.push { cls:=.type (nm k),data:=.fields #[.ref l,.int 0 0] }).objs.size)))
    { s with heap:=(s.heap.push { cls:=.type (nm k),data:=.fields #[.ref l,.int 0 0] }).push { cls:=.type "enumerate",data:=.fields #[.none,.bool false,.ref s.heap.objs.size,rawInt 0,.none,.none] } }):=
 .of_wp fun prog w A R s h=>by
  obtain ⟨hp,g,d,tk,os⟩:=s; obtain ⟨hl,ho,h⟩:=h; have hsub:=sub_enumerate
  have hL:Is k (Shared.heap ⟨hp,g,d,tk,os⟩) l items:=hl
  wp_walk using AutoSeq1.wpAny_loadPart' ho
  refine wpAny_stack_any fun st=>wpAny_pure ?_
  split
  ·rename_i c _ _ _ _ _; cases (c == Value.type "enumerate")
   ·wp_walk using AutoSeq1.wpAny_loadPart' ho,iter hL
    exact ⟨_,rfl,h⟩
   ·wp_walk using AutoSeq1.wpAny_loadPart' ho,iter hL
    exact ⟨_,rfl,h⟩
  ·wp_walk using AutoSeq1.wpAny_loadPart' ho,iter hL
   exact ⟨_,rfl,h⟩
section
variable {prog:Program} {w:World} {A:Around} {E:Value→Shared→Prop} {s:Shared}
theorem call_enum {k:Bool} {l:Addr} {items:Array Value} {Q:Value→Shared→Prop} (hL:Is k s.heap l items)
  (h:∀ h',IsEnum h' (s.heap.objs.size + 1) s.heap.objs.size 0 .none→It k h' s.heap.objs.size l 0→h'.objs.size=s.heap.objs.size + 2→
   (∀ b o,s.heap.get? b=some o→h'.get? b=some o)→Q (.ref (s.heap.objs.size + 1)) { s with heap:=h' }):wpAny (model prog w) A (call (.type "enumerate") [.ref l]) Q E s:=by
 obtain ⟨ob,ho,_,_,_⟩:=hL.obj
 refine callType_new F.called_enumerate (by decide) (F.typeCall_enumerate_1 _) (F.newCall_enumerate_1 _) (fun obj=>F.args_object_init_2 obj _) F.entry_enumerate_new (enum_meets k l items ob) ⟨hL,ho,?_⟩
 have hz:(s.heap.push { cls:=.type (nm k),data:=.fields #[.ref l,.int 0 0] }).objs.size=s.heap.objs.size + 1:=Heap.size_push ..
 show _∧_; rw [hz]
 have he:IsEnum ((s.heap.push { cls:=.type (nm k),data:=.fields #[.ref l,.int 0 0] }).push { cls:=.type "enumerate",data:=.fields #[.none,.bool false,.ref s.heap.objs.size,rawInt 0,.none,.none] }) (s.heap.objs.size + 1) s.heap.objs.size 0 .none:=by
  have:=Heap.get?_push_size (s.heap.push { cls:=.type (nm k),data:=.fields #[.ref l,.int 0 0] }) (o:={ cls:=.type "enumerate",data:=.fields #[.none,.bool false,.ref s.heap.objs.size,rawInt 0,.none,.none] }) rfl
  rw [hz] at this; exact this
 exact ⟨⟨_,he,rfl⟩,h _ he ⟨_,Heap.get?_push_of_some _ (Heap.get?_push_size _ rfl),rfl,rfl⟩ (by rw [Heap.size_push,hz]) fun b o x=>Heap.get?_push_of_some _ (Heap.get?_push_of_some _ x)⟩
end
theorem draws {prog:Program} {w:World} {A:Around} (k:Bool) (hh:A.handled=none) (it l:Addr) (hne:l ≠ it) (items:Array Value):
  Draws prog w A it [it,l] items.size (fun i v=>items[i]?=some v) (fun i h=>It k h it l i∧Is k h l items) where
 live:=fun _ _ st=>let ⟨o,ho,_⟩:=st.1; ⟨o,ho⟩
 frame:=fun _ _ _ st hk=>⟨st.1.move fun o e=>hk it (by simp) o e,st.2.move fun o e=>hk l (by simp) o e⟩
 item:=fun i s Q E hi st hQ=>next st.1 st.2 (x:=items[i]) (by simp [hi]) fun h' hit' hs'=>hQ _ h' s.toks (by simp [hi]) ⟨hit',st.2.move fun o=>sb hs' hne⟩ hs'
 done:=fun s Q E st hE=>ends hh st.1 st.2 (by simp) hE
end SQ
namespace L2
open PySem PySem.Spec PyProof.Rows
section
variable {X:Cx} {pins:List (Addr × Obj)} {σ:St} {H:Hp} {s:Shared} {h':Heap}
theorem Inv.turnedS {t':Nat} {fp:List Addr} (I:Inv X pins σ H s) (k:∀ b o,b ∉ fp→s.heap.get? b=some o→h'.get? b=some o) (hf:∀ b ∈ fp,FpOk X pins H b):Inv X pins σ H { s with heap:=h',toks:=t' }:=by
 refine I.step (g':=s.gens) (d':=s.drawn) (ch:=fp) (fun b hb=>?_) (fun b o _ _ hc e _=>k b o hc e) (fun b o _ _ hc e _=>⟨o.slots,k b o hc e⟩) (fun _ _ _ _ n=>n)
  (fun b o hc e=>⟨o,k b o hc e⟩) (fun _ _ e=>e) (fun _ _ _ e=>e) (fun b ps e=>⟨#[],by rw [e]; simp⟩) (fun m hm=>?_) (fun b u e=>?_) I.bare
 ·obtain ⟨f0,f1,f2,f3,f4,f5⟩:=hf b hb; exact ⟨f3,f1,f4,f5⟩
 ·obtain ⟨o,es,ep,ho,r⟩:=hm
  exact ⟨o,es,ep,k _ o (fun z=>(hf _ z).2.1 rfl) ho,r⟩
 ·refine (I.hok b u e).stay (fun c v hc q=>k c v (fun z=>?_) q) (fun _ q=>q) fun _ _ q=>q
  have hn:=(hf c z).1
  rcases hc with y | y
  ·rw [y,e] at hn; cases hn
  ·rw [y] at hn; cases hn
theorem Inv.turnedP {t':Nat} {fp:List Addr} {x y:V} {u v:Value} (I:Inv X pins σ H s) (hf:∀ b ∈ fp,FpOk X pins H b) (hlt:∀ b ∈ fp,b < s.heap.objs.size) (rx:RelV x u) (ry:RelV y v)
  (k:∀ b o,b ∉ fp→s.heap.get? b=some o→h'.get? b=some o) (hp:IsPair h' s.heap.objs.size u v):Inv X pins σ (upd H s.heap.objs.size (.tup [x,y])) { s with heap:=h',toks:=t' }:=by
 have I1:Inv X pins σ (upd H s.heap.objs.size (.tup [x,y])) { s with heap:=s.heap.push { cls:=.type "tuple",data:=.seq #[u,v] },toks:=t' }:=
  I.laid (t':=t') (fun b u e=>Heap.get?_push_of_some _ e) (Nat.le_refl _) ⟨by show 2≤sizeLine; decide,[u,v],.cons rx (.cons ry .nil),⟨_,Heap.get?_push_size _ rfl,rfl,_,rfl⟩⟩
 refine Inv.turnedS (s:={ s with heap:=s.heap.push { cls:=.type "tuple",data:=.seq #[u,v] },toks:=t' }) (fp:=fp) (t':=t') (h':=h') I1 (fun b o hb e=>?_) fun b hb=>?_
 ·rcases Heap.get?_push_cases e with ⟨rfl,rfl⟩ | e
  ·exact hp
  ·exact k b o hb e
 ·obtain ⟨f0,f1⟩:=hf b hb
  exact ⟨by rw [upd_ne (Nat.ne_of_lt (hlt b hb))]; exact f0,f1⟩
theorem fp_none {fp:List Addr} (hf:∀ b ∈ fp,FpOk X pins H b) (hlt:∀ b ∈ fp,b < s.heap.objs.size) {o:HO}:∀ b ∈ fp,upd H s.heap.objs.size o b=none:=fun b hb=>by
 rw [upd_ne (Nat.ne_of_lt (hlt b hb))]; exact (hf b hb).1
end
noncomputable def SqK (K:PySem.W.Frag):Bool→Hp→Addr→List V→Prop
 | true,H,a,xs=>SqT K H a xs
 | false,H,a,xs=>SqL K H a xs
theorem Inv.sqk {X:Cx} {pins:List (Addr × Obj)} {σ:St} {H:Hp} {s:Shared} {k:Bool} {a:Addr} {xs:List V} (I:Inv X pins σ H s) (h:SqK X.K k H a xs):∃ its:List Value,Vals xs its∧SQ.Is k s.heap a its.toArray∧xs.length≤sizeLine:=by
 cases k with
 | true=>obtain ⟨its,r,p,z⟩:=I.tuple h; exact ⟨its,r,show s.heap.IsTuple a its.toArray from p,z⟩
 | false=>obtain ⟨its,r,p,z⟩:=I.list h; exact ⟨its,r,p.isList,z⟩
theorem Inv.sqk_inj {X:Cx} {pins:List (Addr × Obj)} {σ:St} {H:Hp} {s:Shared} {k:Bool} {a:Addr} {xs ys:List V} (I:Inv X pins σ H s) (h:SqK X.K k H a xs) (h2:SqK X.K k H a ys):xs=ys:=by
 cases k with
 | true=>exact I.tuple_inj h h2
 | false=>exact I.list_inj h h2
noncomputable def Itz (K:PySem.W.Frag) (k m:Bool) (a b:Addr):It:=
  ⟨fun i H=>∃ xs ys x y,SqK K k H a xs∧SqK K m H b ys∧xs[i]?=some x∧ys[i]?=some y,
   fun i H v H'=>∃ p x y,v=.ref p∧H p=none∧H'=upd H p (.tup [x,y])∧∀ xs ys,SqK K k H a xs→SqK K m H b ys→xs[i]?=some x∧ys[i]?=some y,
   fun i H=>∃ xs ys,SqK K k H a xs∧SqK K m H b ys∧(xs.length≤i ∨ ys.length≤i)⟩
noncomputable def Ite (K:PySem.W.Frag) (k:Bool) (a:Addr):It:=
  ⟨fun i H=>∃ xs x,SqK K k H a xs∧xs[i]?=some x,
   fun i H v H'=>∃ p x,v=.ref p∧H p=none∧H'=upd H p (.tup [.int i,x])∧∀ xs,SqK K k H a xs→xs[i]?=some x,
   fun i H=>∃ xs,SqK K k H a xs∧xs.length≤i⟩
structure Zst (k m:Bool) (z TI TO i1 i2 a b:Addr) (i:Nat) (h:Heap):Prop where
 hz:IsZip h z TI TO .none
 hTI:IsPair h TI (.ref i1) (.ref i2)
 hTO:∃ u v,IsPair h TO u v
 h1:SQ.It k h i1 a i
 h2:SQ.It m h i2 b i
structure Znd (z TI TO i1 i2:Addr):Prop where
 a:TI ≠ z∧TO ≠ z∧i1 ≠ z∧i2 ≠ z∧TI ≠ TO∧TI ≠ i1∧TI ≠ i2
 b:TO ≠ i1∧TO ≠ i2∧i1 ≠ i2
theorem turn_zip {P:Program} {w:World} {K:PySem.W.Frag} {es:List Expr} {n:Nat} {pos:Pos} {k m:Bool} (z TI TO i1 i2 a b:Addr) (N:Znd z TI TO i1 i2) (na:a ∉ [z,TI,TO,i1,i2]) (nb:b ∉ [z,TI,TO,i1,i2]):
  Turn false P w K (.Tuple es n pos) (Itz K k m a b) [z,TI,TO,i1,i2] z (Zst k m z TI TO i1 i2 a b) where
 mem:=by simp
 obj:=fun i h st c hc=>by
  obtain ⟨hz,hTI,⟨u,v,hTO⟩,⟨o1,e1,c1,d1⟩,⟨o2,e2,c2,d2⟩⟩:=st
  simp only [List.mem_cons,List.not_mem_nil,or_false] at hc
  rcases hc with rfl | rfl | rfl | rfl | rfl
  ·exact ⟨_,hz,fun v z=>by cases z⟩
  ·exact ⟨_,hTI,fun v z=>by cases z⟩
  ·exact ⟨_,hTO,fun v z=>by cases z⟩
  ·exact ⟨_,e1,fun v z=>by rw [d1] at z; cases z⟩
  ·exact ⟨_,e2,fun v z=>by rw [d2] at z; cases z⟩
 keep:=fun i h h' ⟨hz,hTI,⟨u,v,hTO⟩,h1,h2⟩ q=>⟨q z (by simp) _ hz,q TI (by simp) _ hTI,⟨u,v,q TO (by simp) _ hTO⟩,h1.move fun o e=>q i1 (by simp) o e,h2.move fun o e=>q i2 (by simp) o e⟩
 item:=by
  intro X hP hw hK hc i pins s σ H E I hf st hg
  subst hP hw hK
  obtain ⟨xs,ys,x,y,hq,hr,hx,hy⟩:=hg
  obtain ⟨us,ru,pu,_⟩:=I.sqk hq
  obtain ⟨vs,rv,pv,_⟩:=I.sqk hr
  obtain ⟨u,hu,rxu⟩:=ru.get hx
  obtain ⟨v,hv,ryv⟩:=rv.get hy
  obtain ⟨hz,hTI,⟨u0,v0,hTO⟩,h1,h2⟩:=st
  simp only [List.mem_cons,List.not_mem_nil,or_false,not_or] at na nb
  have D:SQ.Apart z TI TO i1 i2 a b:=⟨N.a,N.b,⟨na.1,na.2.2.1,na.2.2.2.1,na.2.2.2.2⟩,⟨nb.1,nb.2.2.1,nb.2.2.2.1,nb.2.2.2.2⟩⟩
  have hlt:∀ c ∈ [z,TI,TO,i1,i2],c < s.heap.objs.size:=fun c hc=>by
   simp only [List.mem_cons,List.not_mem_nil,or_false] at hc
   rcases hc with rfl | rfl | rfl | rfl | rfl
   ·exact Heap.lt_size hz
   ·exact Heap.lt_size hTI
   ·exact Heap.lt_size hTO
   ·obtain ⟨_,e,_⟩:=h1; exact Heap.lt_size e
   ·obtain ⟨_,e,_⟩:=h2; exact Heap.lt_size e
  refine SQ.zip_next D hz hTI hTO h1 h2 pu pv (x:=u) (y:=v) (by simpa using hu) (by simpa using hv) fun h' a1 a2 a3 a4 a5 a6 a7 a8=>⟨_,rfl,?_⟩
  refine wpAny_letOwnedTupleGo_zip (s:={ s with heap:=h' }) a1 fun h2' hz' hs'=>?_
  have up:∀ c o,c ≠ z→h'.get? c=some o→h2'.get? c=some o:=fun c o n e=>SQ.sb hs' n e
  obtain ⟨⟨nTIz,nTOz,n1z,n2z,_⟩,_⟩:=id N
  refine ⟨.ref s.heap.objs.size,_,I.turnedP (t':=s.toks) (h':=h2') hf hlt rxu ryv (fun c o hc e=>up c o (fun q=>hc (by simp [q])) (a7 c o hc e)) (up _ _ (Nat.ne_of_gt (Heap.lt_size hz)) a5),rfl,
   ⟨_,x,y,rfl,I.fresh,rfl,fun xs' ys' q1 q2=>⟨by rw [I.sqk_inj q1 hq]; exact hx,by rw [I.sqk_inj q2 hr]; exact hy⟩⟩,
   ⟨hz',up _ _ nTIz a8,⟨_,_,up _ _ nTOz a2⟩,a3.move fun o e=>up _ o n1z e,a4.move fun o e=>up _ o n2z e⟩,fp_none hf hlt⟩
 done:=by
  intro X hP hw hK hc i pins s σ H E I hf st hg
  subst hP hw hK
  obtain ⟨xs,ys,hq,hr,hx⟩:=hg
  obtain ⟨us,ru,pu,_⟩:=I.sqk hq
  obtain ⟨vs,rv,pv,_⟩:=I.sqk hr
  obtain ⟨hz,hTI,⟨u0,v0,hTO⟩,h1,h2⟩:=st
  simp only [List.mem_cons,List.not_mem_nil,or_false,not_or] at na nb
  have D:SQ.Apart z TI TO i1 i2 a b:=⟨N.a,N.b,⟨na.1,na.2.2.1,na.2.2.2.1,na.2.2.2.2⟩,⟨nb.1,nb.2.2.1,nb.2.2.2.1,nb.2.2.2.2⟩⟩
  have l1:=ru.length
  have l2:=rv.length
  refine SQ.zip_stop (I.ok.hd hc.cm) D hz hTI hTO h1 h2 pu pv (hx.imp (fun q=>by simp; omega) fun q=>by simp; omega) fun h' kk=>⟨rfl,I.turnedS (t':=s.toks) kk hf⟩
 self:=fun _ _ _ _ _ st h=>wpAny_pyIter_zip st.hz h
structure Est (k:Bool) (e it a:Addr) (i:Nat) (h:Heap):Prop where
 he:∃ old,IsEnum h e it i old
 h1:SQ.It k h it a i
theorem turn_enum {P:Program} {w:World} {K:PySem.W.Frag} {es:List Expr} {n:Nat} {pos:Pos} {k:Bool} (e it a:Addr) (ne:e ≠ it) (na:a ≠ e∧a ≠ it):
  Turn false P w K (.Tuple es n pos) (Ite K k a) [e,it] e (Est k e it a) where
 mem:=by simp
 obj:=fun i h st c hc=>by
  obtain ⟨⟨old,he⟩,⟨o1,e1,c1,d1⟩⟩:=st
  simp only [List.mem_cons,List.not_mem_nil,or_false] at hc
  rcases hc with rfl | rfl
  ·exact ⟨_,he,fun v z=>by cases z⟩
  ·exact ⟨_,e1,fun v z=>by rw [d1] at z; cases z⟩
 keep:=fun i h h' ⟨⟨old,he⟩,h1⟩ q=>⟨⟨old,q e (by simp) _ he⟩,h1.move fun o x=>q it (by simp) o x⟩
 item:=by
  intro X hP hw hK hc i pins s σ H E I hf st hg
  subst hP hw hK
  obtain ⟨xs,x,hq,hx⟩:=hg
  obtain ⟨us,ru,pu,_⟩:=I.sqk hq
  obtain ⟨u,hu,rxu⟩:=ru.get hx
  obtain ⟨⟨old,he⟩,h1⟩:=st
  have hlt:∀ c ∈ [e,it],c < s.heap.objs.size:=fun c hc=>by
   simp only [List.mem_cons,List.not_mem_nil,or_false] at hc
   rcases hc with rfl | rfl
   ·exact Heap.lt_size he
   ·obtain ⟨_,e,_⟩:=h1; exact Heap.lt_size e
  have hi:i < us.toArray.size:=by
   have:=(List.getElem?_eq_some_iff.mp hu).1
   simpa using this
  have D:=SQ.draws (prog:=X.prog) (w:=X.w) (A:=X.A.in1) k (I.ok.hd hc.cm) it a na.2 us.toArray
  refine wpAny_pyNext_enum_itemD D he ⟨h1,pu⟩ hi ne (by simp [ne,Ne.symm na.1]) fun y h' tk hy a1 a2 a3 a4 a5=>⟨_,rfl,?_⟩
  have ey:y=u:=by simpa [hu] using hy.symm
  subst ey
  refine wpAny_letOwnedTupleGo_enum (s:={ s with heap:=h',toks:=tk + 1 }) a1 fun h2' hz' hs'=>?_
  have up:∀ c o,c ≠ e→h'.get? c=some o→h2'.get? c=some o:=fun c o n q=>SQ.sb hs' n q
  refine ⟨.ref s.heap.objs.size,_,Inv.turnedP (s:=s) (t':=tk + 1) (h':=h2') (x:=.int i) (u:=.int i tk) I hf hlt ⟨tk,rfl⟩ rxu (fun c o hc q=>up c o (fun r=>hc (by simp [r])) (a5 c o (fun r=>hc (by simp [r])) (fun r=>hc (by simp [r])) q)) (up _ _ (Nat.ne_of_gt (Heap.lt_size he)) a3),rfl,
   ⟨_,x,rfl,I.fresh,rfl,fun xs' q1=>by rw [I.sqk_inj q1 hq]; exact hx⟩,
   ⟨⟨y,by simpa using hz'⟩,a2.1.move fun o q=>up _ o (Ne.symm ne) q⟩,fp_none hf hlt⟩
 done:=by
  intro X hP hw hK hc i pins s σ H E I hf st hg
  subst hP hw hK
  obtain ⟨xs,hq,hx⟩:=hg
  obtain ⟨us,ru,pu,_⟩:=I.sqk hq
  obtain ⟨⟨old,he⟩,h1⟩:=st
  have l1:=ru.length
  have hT:s.TypeIs (.ref e) "enumerate":=⟨_,he,rfl⟩
  unfold pyNext
  refine wpAny_bind (wpAny_attempt (wpAny_callSpecial?_slot (name:=Str.ofString "__next__") hT F.slot_enumerate_next (wpAny_call_entry F.slot_enumerate_next hT F.entry_enumerate_next ?_ (F.args_enumerate_next_1 _))))
  show wpAny _ _ (field (.ref e) 2 >>= _) _ _ _; refine wpAny_bind (wpAny_field he rfl (x:=.ref it) rfl ?_)
  refine wpAny_bind (SQ.ends (I.ok.hd hc.cm) h1 pu (by simp; omega) fun h' x he' hx'=>?_)
  obtain ⟨o,ho,hcl⟩:=hx'; refine wpAny_bind (wpAny_isInstance (T:="StopIteration") (b:=true) ⟨o,ho,hcl⟩ isSubtype_stop ?_)
  exact wpAny_pure ⟨rfl,I.turnedS (t':=s.toks) (fun b o hb q=>he' b o (fun r=>hb (by simp [r])) q) hf⟩
 self:=fun _ _ _ _ _ st h=>let ⟨⟨_,he⟩,_⟩:=st; wpAny_pyIter_enum he h
end L2
namespace L2
open PySem PySem.Spec PyProof.Rows
section
variable {X:Cx} {es:List Expr} {n:Nat} {tp:Pos}
theorem boot_zip:bootBuiltins "zip" = some (.type "zip"):=by decide +kernel
theorem boot_enumerate:bootBuiltins "enumerate" = some (.type "enumerate"):=by decide +kernel
theorem znd_of (n:Nat):Znd (n + 4) (n + 2) (n + 3) n (n + 1):=by
 have h:((n + 2 ≠ n + 4∧n + 3 ≠ n + 4∧n ≠ n + 4∧n + 1 ≠ n + 4∧n + 2 ≠ n + 3∧n + 2 ≠ n∧n + 2 ≠ n + 1)∧(n + 3 ≠ n∧n + 3 ≠ n + 1∧n ≠ n + 1)):=by omega
 exact ⟨h.1,h.2⟩
theorem zip_below (n a:Nat) (h:a < n):a ∉ [n + 4,n + 2,n + 3,n,n + 1]:=by
 intro hc
 simp only [List.mem_cons,List.not_mem_nil,or_false] at hc
 omega
theorem zip_above (n c:Nat) (hc:c ∈ [n + 4,n + 2,n + 3,n,n + 1]):n≤c:=by
 simp only [List.mem_cons,List.not_mem_nil,or_false] at hc
 omega
theorem enum_ne (n a:Nat) (h:a < n):(n + 1 ≠ n)∧a ≠ n + 1∧a ≠ n:=by omega
theorem enum_above (n c:Nat) (hc:c ∈ [n + 1,n]):n≤c:=by
 simp only [List.mem_cons,List.not_mem_nil,or_false] at hc
 omega
noncomputable def iZip (K:PySem.W.Frag) (ta:TA):TI:=fun σ H R=>ta σ H fun vs H1=>∃ a b k m,vs=[.ref a,.ref b]∧(∃ xs,SqK K k H1 a xs)∧(∃ ys,SqK K m H1 b ys)∧R (Itz K k m a b) H1
noncomputable def iEnum (K:PySem.W.Frag) (ta:TA):TI:=fun σ H R=>ta σ H fun vs H1=>∃ a k,vs=[.ref a]∧(∃ xs,SqK K k H1 a xs)∧R (Ite K k a) H1
theorem pi_zip {a b:Expr} {ta:TA} {p pos:Pos} (hg:Gl X "zip") (hm:X.mg "zip" = none) (ha:PA X [a,b] ta) (hs:autoParam (starEach [a,b] X.env=[(false,eval a X.env),(false,eval b X.env)]) Au.h0._auto_1) (hs2:autoParam (starEach [b] X.env=[(false,eval b X.env)]) Au.h0._auto_1):
  PI X (.Tuple es n tp) (.Call (.Name "zip" p) [a,b] [] pos) (iZip X.K ta):=by
 intro pins s σ H R I h
 refine Call_ (ld_blt I hg hm boot_zip (PyProof.Rows.callWith_type1 (thn (ha pos pins s σ H _ I h) fun us s1 zq=>?_) (by rw [hs,hs2]) (by rw [hs2]; rfl)))
 obtain ⟨vs,H1,I1,r1,q1⟩:=zq
 obtain ⟨a,b,k,m,e,⟨xs,hx⟩,⟨ys,hy⟩,q⟩:=q1
 subst e
 cases r1 with
 | cons r rr=>
  cases rr with
  | cons r' rr=>
   cases rr
   cases r
   cases r'
   obtain ⟨us,ru,pu,_⟩:=I1.sqk hx
   obtain ⟨vs,rv,pv,_⟩:=I1.sqk hy
   refine SQ.call_zip pu pv fun h' a1 a2 a3 a4 a5 a6 a7=>?_
   have I2:Inv X pins σ H1 { s1 with heap:=h' }:=I1.kept (t':=s1.toks) a7
   obtain ⟨oa,ea,_⟩:=pu.obj
   obtain ⟨ob,eb,_⟩:=pv.obj
   have la:=Heap.lt_size ea
   have lb:=Heap.lt_size eb
   refine wpAny_pyIter_zip (s:={ s1 with heap:=h' }) a1 ⟨_,[s1.heap.objs.size + 4,s1.heap.objs.size + 2,s1.heap.objs.size + 3,s1.heap.objs.size,s1.heap.objs.size + 1],_,_,H1,rfl,I2,
    turn_zip (k:=k) (m:=m) _ _ _ _ _ a b (znd_of _) (zip_below _ a la) (zip_below _ b lb),⟨a1,a2,⟨_,_,a3⟩,a4,a5⟩,fun c hc=>?_,q⟩
   exact I1.fpOk (zip_above _ c hc) (I1.hok.fresh (zip_above _ c hc))
theorem pi_enum {a:Expr} {ta:TA} {p pos:Pos} (hg:Gl X "enumerate") (hm:X.mg "enumerate" = none) (ha:PA X [a] ta) (hs:autoParam (starEach [a] X.env=[(false,eval a X.env)]) Au.h0._auto_1):
  PI X (.Tuple es n tp) (.Call (.Name "enumerate" p) [a] [] pos) (iEnum X.K ta):=by
 intro pins s σ H R I h
 refine Call_ (ld_blt I hg hm boot_enumerate (PyProof.Rows.callWith_type1 (thn (ha pos pins s σ H _ I h) fun us s1 zq=>?_) hs rfl))
 obtain ⟨vs,H1,I1,r1,q1⟩:=zq
 obtain ⟨a,k,e,⟨xs,hx⟩,q⟩:=q1
 subst e
 cases r1 with
 | cons r rr=>
  cases rr
  cases r
  obtain ⟨us,ru,pu,_⟩:=I1.sqk hx
  refine SQ.call_enum pu fun h' a1 a2 a3 a4=>?_
  have I2:Inv X pins σ H1 { s1 with heap:=h' }:=I1.kept (t':=s1.toks) a4
  obtain ⟨oa,ea,_⟩:=pu.obj
  have la:=Heap.lt_size ea
  refine wpAny_pyIter_enum (s:={ s1 with heap:=h' }) a1 ⟨_,[s1.heap.objs.size + 1,s1.heap.objs.size],_,_,H1,rfl,I2,turn_enum (k:=k) _ _ a (enum_ne _ a la).1 (enum_ne _ a la).2,⟨⟨_,a1⟩,a2⟩,fun c hc=>?_,q⟩
  exact I1.fpOk (enum_above _ c hc) (I1.hok.fresh (enum_above _ c hc))
end
end L2
namespace PD
open PySem PySem.Spec PyProof.Rows L2
noncomputable def itOf:D→Option (List D)
 | .tup ds=>some ds
 | .lst ds=>some ds
 | .fz ds=>some ds
 | _=>none
noncomputable def zipD:List D→List D→List D
 | x :: xs,y :: ys=>.tup [x,y] :: zipD xs ys
 | _,_=>[]
noncomputable def numbered:Nat→List D→List D
 | _,[]=>[]
 | i,x :: xs=>.tup [.int i,x] :: numbered (i + 1) xs
noncomputable def aZip (t:AM):AM:=fun r S=>(t r S).bind fun xs S1=>match xs with
 | [a,b]=>match itOf a,itOf b with
  | some us,some vs=>.ok (zipD us vs) S1
  | _,_=>.bad
 | _=>.bad
noncomputable def aEnum (t:AM):AM:=fun r S=>(t r S).bind fun xs S1=>match xs with
 | [a]=>match itOf a with
  | some us=>.ok (numbered 0 us) S1
  | _=>.bad
 | _=>.bad
theorem zipD_get:∀ (us vs:List D) (i:Nat),(i < (zipD us vs).length↔i < us.length∧i < vs.length)∧∀ x y,us[i]?=some x→vs[i]?=some y→(zipD us vs)[i]?=some (.tup [x,y])
 | [],vs,i=>by simp [zipD]
 | _ :: _,[],i=>by simp [zipD]
 | u :: us,v :: vs,0=>by simp [zipD]
 | u :: us,v :: vs,i + 1=>by
  have ih:=zipD_get us vs i
  simp only [zipD,List.length_cons,List.getElem?_cons_succ,Nat.add_lt_add_iff_right]
  exact ih
theorem numbered_get:∀ (us:List D) (j i:Nat),(numbered j us).length=us.length∧∀ x,us[i]?=some x→(numbered j us)[i]?=some (.tup [.int ((j + i:Nat):Int),x])
 | [],j,i=>by simp [numbered]
 | u :: us,j,0=>by simp [numbered,(numbered_get us (j + 1) 0).1]
 | u :: us,j,i + 1=>by
  have ih:=numbered_get us (j + 1) i
  simp only [numbered,List.length_cons,List.getElem?_cons_succ,ih.1,true_and]
  intro x hx
  rw [ih.2 x hx]
  congr 4
  omega
theorem seq_of {K:PySem.W.Frag} {w:Wd} {H:Hp} {d:D} {ds:List D} {v:V} (e:itOf d=some ds) (q:RD K w H d v):∃ p k vs,v=.ref p∧RDs K w H ds vs∧∀ w' H',Ext w H w' H'→SqK K k H' p vs:=by
 cases d with
 | tup us=>
  cases e
  unfold RD at q
  obtain ⟨p,vs,rfl,h1,q⟩:=q
  exact ⟨p,true,vs,rfl,q,fun w' H' x'=>SqT_of (h1.imp x'.at id)⟩
 | lst us=>
  cases e
  unfold RD at q
  obtain ⟨p,vs,rfl,h1,q⟩:=q
  exact ⟨p,false,vs,rfl,q,fun w' H' x'=>SqL.of (x'.at h1).1⟩
 | fz us=>
  cases e
  unfold RD at q
  obtain ⟨p,vs,rfl,h1,q⟩:=q
  exact ⟨p,false,vs,rfl,q,fun w' H' x'=>FzAt.sq (w:=w') (h1.imp (fun ⟨o,z⟩=>⟨o,x'.at z⟩) id)⟩
 | _=>cases e
section
variable {X:Cx} {E:XK} {a b:Expr} {pos:Pos}
theorem si_zip {es:List Expr} {n:Nat} {tp:Pos} {ms:AM} {p:Pos} (hg:Gl X "zip") (hm:X.mg "zip" = none) (ha:SA X E [a,b] ms) (hs:autoParam (starEach [a,b] X.env=[(false,eval a X.env),(false,eval b X.env)]) Au.h0._auto_1) (hs2:autoParam (starEach [b] X.env=[(false,eval b X.env)]) Au.h0._auto_1):
  SI X E (.Tuple es n tp) (.Call (.Name "zip" p) [a,b] [] pos) (aZip ms):=⟨
 pi_weak (pi_zip hg hm ha.out hs hs2) fun s H Q zq=>ex6 zq fun w r S hr hS hp=>⟨w,r,S,hr,hS,hp.bind hS fun ds S1 w1 H1 vs x1 q1 s1 p1=>by
  match ds,q1,p1 with
  | [d,e],q1,p1=>
   obtain ⟨v,u,rfl,q2,q3⟩:=q1.two_inv
   change Post X.K E (RI X.K) w1 H1 (match itOf d,itOf e with | some us,some vs=>R.ok (zipD us vs) S1 | _,_=>R.bad) Q at p1
   cases e1:itOf d with
   | none=>rw [e1] at p1; exact p1.elim
   | some us=>
    cases e2:itOf e with
    | none=>rw [e1,e2] at p1; exact p1.elim
    | some vs=>
     rw [e1,e2] at p1
     obtain ⟨pa,k,xs,rfl,ra,sa⟩:=seq_of e1 q2
     obtain ⟨pb,m,ys,rfl,rb,sbb⟩:=seq_of e2 q3
     refine ⟨pa,pb,k,m,rfl,⟨xs,sa _ _ (Ext.refl _ _)⟩,⟨ys,sbb _ _ (Ext.refl _ _)⟩,Post.ret p1 ?_ s1⟩
     intro i w' H' x'
     have ra':=RDs.ext x' _ _ ra
     have rb':=RDs.ext x' _ _ rb
     have la:=ra.length
     have lb:=rb.length
     refine ⟨fun hi=>?_,fun hi=>⟨xs,ys,sa _ _ x',sbb _ _ x',?_⟩⟩
     ·obtain ⟨h1,h2⟩:=(zipD_get us vs i).1.mp hi
      refine ⟨⟨xs,ys,xs[i]'(by omega),ys[i]'(by omega),sa _ _ x',sbb _ _ x',List.getElem?_eq_getElem _,List.getElem?_eq_getElem _⟩,fun v H'' y=>?_⟩
      obtain ⟨p,x,y,rfl,hp,rfl,q⟩:=y
      obtain ⟨qx,qy⟩:=q xs ys (sa _ _ x') (sbb _ _ x')
      obtain ⟨x0,ex,rx⟩:=ra'.get (List.getElem?_eq_getElem h1)
      obtain ⟨y0,ey,ry⟩:=rb'.get (List.getElem?_eq_getElem h2)
      rw [qx] at ex; cases ex
      rw [qy] at ey; cases ey
      refine ⟨.inr ⟨p,_,hp,rfl⟩,fun S hS=>⟨_,(zipD_get us vs i).2 _ _ (List.getElem?_eq_getElem h1) (List.getElem?_eq_getElem h2),?_⟩⟩
      unfold RD
      refine ⟨p,[x,y],rfl,.inl ⟨upd_same,hS.fresh hp⟩,?_⟩
      unfold RDs RDs RDs
      exact ⟨x,[y],rfl,RD.ext (Ext.new hp) _ _ rx,y,[],rfl,RD.ext (Ext.new hp) _ _ ry,rfl⟩
     ·have:=(zipD_get us vs i).1
      omega
  | [],_,p1=>exact p1.elim
  | [_],_,p1=>exact p1.elim
  | _ :: _ :: _ :: _,_,p1=>exact p1.elim⟩⟩
theorem si_enum {es:List Expr} {n:Nat} {tp:Pos} {ms:AM} {p:Pos} (hg:Gl X "enumerate") (hm:X.mg "enumerate" = none) (ha:SA X E [a] ms) (hs:autoParam (starEach [a] X.env=[(false,eval a X.env)]) Au.h0._auto_1):
  SI X E (.Tuple es n tp) (.Call (.Name "enumerate" p) [a] [] pos) (aEnum ms):=⟨
 pi_weak (pi_enum hg hm ha.out hs) fun s H Q zq=>ex6 zq fun w r S hr hS hp=>⟨w,r,S,hr,hS,hp.bind hS fun ds S1 w1 H1 vs x1 q1 s1 p1=>by
  match ds,q1,p1 with
  | [d],q1,p1=>
   obtain ⟨v,rfl,q2⟩:=q1.one_inv
   change Post X.K E (RI X.K) w1 H1 (match itOf d with | some us=>R.ok (numbered 0 us) S1 | _=>R.bad) Q at p1
   cases e1:itOf d with
   | none=>rw [e1] at p1; exact p1.elim
   | some us=>
    rw [e1] at p1
    obtain ⟨pa,k,xs,rfl,ra,sa⟩:=seq_of e1 q2
    refine ⟨pa,k,rfl,⟨xs,sa _ _ (Ext.refl _ _)⟩,Post.ret p1 ?_ s1⟩
    intro i w' H' x'
    have ra':=RDs.ext x' _ _ ra
    have la:=ra.length
    have ln:=(numbered_get us 0 i).1
    refine ⟨fun hi=>?_,fun hi=>⟨xs,sa _ _ x',by omega⟩⟩
    have h1:i < us.length:=by omega
    refine ⟨⟨xs,xs[i]'(by omega),sa _ _ x',List.getElem?_eq_getElem _⟩,fun v H'' y=>?_⟩
    obtain ⟨p,x,rfl,hp,rfl,q⟩:=y
    have qx:=q xs (sa _ _ x')
    obtain ⟨x0,ex,rx⟩:=ra'.get (List.getElem?_eq_getElem h1)
    rw [qx] at ex; cases ex
    refine ⟨.inr ⟨p,_,hp,rfl⟩,fun S hS=>⟨_,(numbered_get us 0 i).2 _ (List.getElem?_eq_getElem h1),?_⟩⟩
    unfold RD
    refine ⟨p,[.int i,x],rfl,.inl ⟨upd_same,hS.fresh hp⟩,?_⟩
    unfold RDs RDs RDs
    exact ⟨.int i,[x],rfl,by unfold RD; simp,x,[],rfl,RD.ext (Ext.new hp) _ _ rx,rfl⟩
  | [],_,p1=>exact p1.elim
  | _ :: _ :: _,_,p1=>exact p1.elim⟩⟩
end
end PD
namespace PD
open PySem PySem.Spec PyProof.Rows L2
noncomputable def insZ (x:Int):List Int→List Int
 | []=>[x]
 | y :: r=>if x≤y then x :: y :: r else y :: insZ x r
noncomputable def sortZ:List Int→List Int
 | []=>[]
 | x :: r=>insZ x (sortZ r)
theorem insZ_perm (x:Int):∀ l:List Int,(insZ x l).Perm (x :: l)
 | []=>.refl _
 | y :: r=>by
  unfold insZ
  split
  ·exact .refl _
  ·exact ((insZ_perm x r).cons y).trans (.swap x y r)
theorem sortZ_perm:∀ l:List Int,(sortZ l).Perm l
 | []=>.refl _
 | x :: r=>(insZ_perm x _).trans ((sortZ_perm r).cons x)
theorem insZ_sorted (x:Int):∀ l:List Int,l.Pairwise (· ≤ ·)→(insZ x l).Pairwise (· ≤ ·)
 | [],_=>List.pairwise_singleton _ _
 | y :: r,h=>by
  obtain ⟨h1,h2⟩:=List.pairwise_cons.mp h
  unfold insZ
  split
  ·rename_i hxy
   exact List.pairwise_cons.mpr ⟨fun z hz=>by
    rcases List.mem_cons.mp hz with rfl | hz
    ·exact hxy
    ·exact Int.le_trans hxy (h1 z hz),h⟩
  ·rename_i hxy
   exact List.pairwise_cons.mpr ⟨fun z hz=>by
    rcases List.mem_cons.mp ((insZ_perm x r).mem_iff.mp hz) with rfl | hz
    ·omega
    ·exact h1 z hz,insZ_sorted x r h2⟩
theorem sortZ_sorted:∀ l:List Int,(sortZ l).Pairwise (· ≤ ·)
 | []=>.nil
 | x :: r=>insZ_sorted x _ (sortZ_sorted r)
theorem sorted_uniq:∀ {a b:List Int},a.Perm b→a.Pairwise (· ≤ ·)→b.Pairwise (· ≤ ·)→a=b
 | [],b,p,_,_=>p.nil_eq
 | x :: r,[],p,_,_=>absurd p.length_eq (by simp)
 | x :: r,y :: t,p,h1,h2=>by
  obtain ⟨a1,a2⟩:=List.pairwise_cons.mp h1
  obtain ⟨b1,b2⟩:=List.pairwise_cons.mp h2
  have e:x=y:=by
   have hx:x ∈ y :: t:=p.mem_iff.mp (.head _)
   have hy:y ∈ x :: r:=p.mem_iff.mpr (.head _)
   rcases List.mem_cons.mp hx with h | h
   ·exact h
   ·rcases List.mem_cons.mp hy with h' | h'
    ·exact h'.symm
    ·exact Int.le_antisymm (a1 y h') (b1 x h)
  subst e
  rw [sorted_uniq (List.Perm.cons_inv p) a2 b2]
end PD
namespace SQ
open PySem PySem.Spec PyProof.Rows
section
variable {prog:Program} {w:World} {A:Around} {E:Value→Shared→Prop} {s:Shared}
theorem collect_tup {l:Addr} {vs:List Value} {Q:List Value→Shared→Prop} (hl:s.heap.IsTuple l vs.toArray)
  (h:Q vs { s with heap:=(s.heap.push (seqObj "list" #[] 0)).update s.heap.objs.size (Obj.mapSeq (· ++ vs.toArray)) }) (hsz:vs.length≤sizeLine):wpAny (model prog w) A (collect (.ref l)) Q E s:=by
 obtain ⟨o,ho,hc,n,hd⟩:=id hl; unfold collect; refine wpAny_bind (wpAny_runValue (codeAny_builtin entry_proto_collect' ?_))
 show wpAny _ _ (do again (.builtin "list.__iadd__" ⟨[← newList [],.ref l],[]⟩)) _ _ s; refine wpAny_bind (wpAny_newList (wpAny_pure ⟨Code.quiet_builtin _ (by decide +kernel),codeAny_builtin entry_list_iadd' ?_⟩))
 show wpAny _ _ (Builtin.List.listExtendWith (.ref s.heap.objs.size) (.ref l) (.ref s.heap.objs.size)) _ _ { s with heap:=s.heap.push (seqObj "list" #[] 0) }; unfold Builtin.List.listExtendWith
 have ho':(s.heap.push (seqObj "list" #[] 0)).get? l=some o:=Heap.get?_push_of_some _ ho
 refine wpAny_bind (wpAny_typeOf (T:="tuple") ⟨o,ho',hc⟩ ?_)
 have ht:(Value.type "tuple" == Value.type "tuple")=true:=by rfl
 rw [if_pos (by rw [ht]; simp)]; refine wpAny_bind (listItems_at ho' hd ?_); refine wpAny_bind (listItems_at (xs:=#[]) (n:=0) (Heap.get?_push_size _ rfl) rfl ?_); rw [if_neg (by simp)]
 refine wpAny_bind (listUpdate_at (xs:=#[]) (n:=0) (Heap.get?_push_size _ rfl) rfl ?_ (Nat.zero_le _) (by show (#[] ++ vs.toArray).size≤sizeLine + 1; simp only [Array.size_append,List.size_toArray,List.length_nil]; omega)); refine wpAny_pure ?_
 show wpAny (model prog w) A (do
   let o ← load s.heap.objs.size
   match o.data with
   | .seq xs _=>pure xs.toList
   | _=>unsupported "internal:collect") Q E { s with heap:=(s.heap.push (seqObj "list" #[] 0)).update s.heap.objs.size (Obj.mapSeq (· ++ vs.toArray)) }
 refine wpAny_bind (wpAny_load (get?_update_seq (Heap.get?_push_size _ rfl) _) ?_); show wpAny _ _ (pure ((#[]:Array Value) ++ vs.toArray).toList) Q E _
 rw [show ((#[]:Array Value) ++ vs.toArray).toList=vs by simp]; exact wpAny_pure h
theorem collects {k:Bool} {l:Addr} {vs:List Value} {Q:List Value→Shared→Prop} (hl:Is k s.heap l vs.toArray)
  (h:Q vs { s with heap:=(s.heap.push (seqObj "list" #[] 0)).update s.heap.objs.size (Obj.mapSeq (· ++ vs.toArray)) }) (hsz:vs.length≤sizeLine):wpAny (model prog w) A (collect (.ref l)) Q E s:=by
 cases k with
 | true=>exact collect_tup hl h hsz
 | false=>exact collect_list hl h hsz
end
end SQ
namespace PD
open PySem PySem.Spec PyProof.Rows L2
section
variable {X:Cx} {E:XK}
theorem ints_are {K:PySem.W.Frag} {w:Wd} {H:Hp}:∀ {ds:List D} {vs:List V} {us:List Value} {ns:List Int},RDs K w H ds vs→Vals vs us→intsOf ds=some ns→IntsAre us ns
 | [],_,_,_,q,r,h=>by
  rw [q.nil_inv] at r
  cases r
  unfold intsOf at h
  cases h
  exact .nil
 | d :: ds,_,_,ns,q,r,h=>by
  obtain ⟨y,vs,rfl,p,t⟩:=q.cons_inv
  cases d with
  | int b=>
   unfold intsOf at h
   cases e':intsOf ds with
   | none=>rw [e'] at h; cases h
   | some cs=>
    rw [e'] at h; cases h
    cases p.int
    cases r with
    | cons r1 r2=>
     obtain ⟨t',rfl⟩:=r1
     exact .cons _ _ (ints_are t r2 e')
  | _=>unfold intsOf at h; cases h
theorem vals_of:∀ {us:List Value} {ns:List Int},IntsAre us ns→Vals (ns.map .int) us
 | _,_,.nil=>.nil
 | _,_,.cons _ _ h=>.cons ⟨_,rfl⟩ (vals_of h)
theorem rds_ints {K:PySem.W.Frag} {w:Wd} {H:Hp}:∀ ns:List Int,RDs K w H (ns.map .int) (ns.map .int)
 | []=>.nil
 | n :: ns=>.cons (by unfold RD; rfl) (rds_ints ns)
end
end PD
namespace PD
open PySem PySem.Spec PyProof.Rows L2
noncomputable def eBR (f:Sto→List D→R D) (t:AM):EM:=fun r S=>(t r S).bind fun xs S1=>f S1 xs
noncomputable def xCR (K:PySem.W.Frag) (E:XK) (f:Sto→List D→R D):List V→Hp→VK→Prop:=fun xs H Q=>∃ w S ds,RS K w H S∧RDs K w H ds xs∧Post K E (RD K) w H (f S ds) Q
section
variable {X:Cx} {E:XK} {a b:Expr} {es:List Expr} {ms:AM} {x:Str} {p pos:Pos}
noncomputable def toPyS (S:Sto) (d:D):Option PyData:=match d with
 | .ref n=>match S[n]? with
  | some (.lst xs)=>(toPys xs).map .list
  | _=>none
 | d=>toPy d
theorem reads_okS {pins:List (Addr × Obj)} {σ:L2.St} {H:Hp} {s:Shared} {w:Wd} {S:Sto} (I:Inv X pins σ H s) (hS:RS X.K w H S) {d:D} {v:V} {u:Value} {p:PyData} (q:RD X.K w H d v) (r:RelV v u) (h:toPyS S d=some p):∃ as,Reads s.heap u p as:=by
 unfold toPyS at h
 split at h
 ·rename_i n
  split at h
  ·rename_i xs hn
   obtain ⟨pp,rfl,hp⟩:=q.refI
   obtain ⟨p',hp',vs,hv,ra⟩:=hS.obj _ _ hn
   rw [hp] at hp'; cases hp'
   cases (show u=Value.ref pp from r)
   cases e:toPys xs with
   | none=>rw [e] at h; cases h
   | some ps=>
    rw [e] at h; cases h
    obtain ⟨its,r1,⟨o,n,ho,hc,_,hd⟩,_⟩:=I.list (SqL.of hv)
    obtain ⟨as,ra,hn⟩:=readss_ok I xs vs its ps ra r1 e
    exact ⟨pp :: as,.list ho hc hd ra⟩
  ·cases h
 ·obtain ⟨as,ra,_⟩:=reads_ok I _ _ _ _ q r h
  exact ⟨as,ra⟩
end
end PD
namespace PD
open PySem PySem.Spec PyProof.Rows L2
section
variable {M:Model} {A:Around} {E:Value→Shared→Prop} {s:Shared}
end
section
variable {X:Cx} {pins:List (Addr × Obj)} {σ:L2.St} {H:Hp} {s:Shared}
end
end PD
namespace PD
open PySem PySem.Spec PyProof.Rows L2
theorem comp_weak {X:Cx} {E:XK} {k:Nat} {caps:List Nat} {it:AM} {g:G} {mt:TM} {me:EM}:∀ s H Q,uE X.K E (eComp it k caps g mt me) s H Q→tComp (uI X.K E it) k caps (uG X.K g) (uT X.K E mt) (uE X.K E me) s H Q:=
 fun s H Q zq=>ex6 zq fun w r S hr hS hp=>⟨w,r,S,hr,hS,hp.bind hS fun ds S1 w1 H1 J x1 q1 s1 p1=>by
  intro p hp
  have hr1:=hr.ext x1
  have pno:p ∉ w1.hid:=(s1.fresh hp).2
  have hz:ds.length≤sizeLine:=by
   rcases Nat.lt_or_ge sizeLine ds.length with z | z
   ·rw [if_neg (by omega)] at p1; exact p1.elim
   ·exact z
  rw [if_pos hz] at p1
  -- the list is made at p,which is hidden
  refine ⟨fun i n s' H'=>n=ds.length - i∧i≤ds.length∧∃ w' r' S' ys vs,Ext w1 H1 w' H'∧p ∈ w'.hid∧RSt X.K w' H' r' s'∧RS X.K w' H' S'∧H' p=some (.lst vs)∧RDs X.K w' H' ys vs∧ys.length≤i∧
    Post X.K E (RD X.K) w1 H1 ((compL g mt me (ds.drop i) r' S').bind fun zs S2=>R.ok (.lst (ys ++ zs)) S2) Q,
   ⟨ds.length,by simp,Nat.zero_le _,w1.hide p,capOf k caps r,S1,[],[],Ext.hide hp,List.mem_cons_self,(cap_rel k caps hr1).ext (Ext.hide hp),s1.hide hp,upd_same,.nil,Nat.le_refl _,p1⟩,?_⟩
  rintro i n s2 H2 ⟨rfl,hi.out,w2,r2,S2,ys,vs,x2,hph,hr2,hS2,hpv,ry,hyl,hp2⟩
  have hpn:p ∉ w2.st:=(hS2.hid p hph).1
  by_cases hlt:i < ds.length
  ·obtain ⟨go,yld⟩:=(q1 i w2 H2 x2).1 hlt
   refine .inr ⟨go,fun s' H'=>∃ w' r' S' ys vs,Ext w1 H1 w' H'∧p ∈ w'.hid∧RSt X.K w' H' r' s'∧RS X.K w' H' S'∧H' p=some (.lst vs)∧RDs X.K w' H' ys vs∧ys.length≤i + 1∧
     Post X.K E (RD X.K) w1 H1 ((compL g mt me (ds.drop (i + 1)) r' S').bind fun zs S2=>R.ok (.lst (ys ++ zs)) S2) Q,
    fun s' H' hN=>⟨ds.length - (i + 1),by omega,rfl,hlt,hN⟩,fun x H3 hy=>?_⟩
   obtain ⟨gr,rd⟩:=yld x H3 hy
   obtain ⟨d,ed,qd⟩:=rd S2 hS2
   obtain ⟨x3,s3⟩:=grown_ok gr hS2
   have hdrop:ds.drop i=d :: ds.drop (i + 1):=by
    rw [List.drop_eq_getElem_cons hlt]
    rw [List.getElem?_eq_getElem hlt] at ed
    cases ed; rfl
   rw [hdrop] at hp2
   have hpv3:H3 p=some (.lst vs):=x3.keep _ _ hpv hpn
   have ry3:=RDs.ext x3 _ _ ry
   have x13:Ext w1 H1 w2 H3:=x2.trans' x3 s1 hS2
   unfold compL at hp2
   cases e:g.put d r2 with
   | none=>rw [e] at hp2; exact hp2.elim
   | some r3=>
    rw [e] at hp2
    refine ⟨w2,r2,d,r3,hr2.ext x3,qd,e,fun s4 hr4=>⟨w2,r3,S2,hr4,s3,?_⟩⟩
    -- hp2:(mt r3 S2).bind .. |>.bind ..
    have hass:∀ {A B C:Type} (r:R A) (f:A→Sto→R B) (h:B→Sto→R C),(r.bind f).bind h=r.bind fun a S=>(f a S).bind h:=fun r f h=>by cases r <;> rfl
    simp only [hass] at hp2
    refine Post.bindAt (rel:=RB) hp2 x13 s1 s3 fun c S5 w5 H5 c' x5 q5 s5 p5=>?_
    have ec:c'=c:=q5
    subst ec
    have x15:Ext w1 H1 w5 H5:=x13.trans' x5 s1 s3
    have hph5:p ∈ w5.hid:=x5.hid p hph
    have hpv5:H5 p=some (.lst vs):=x5.keep _ _ hpv3 hpn
    cases c' with
    | false=>
     refine iteF ⟨w5,r3,S5,ys,vs,x15,hph5,hr4.ext x5,s5,hpv5,RDs.ext x5 _ _ ry3,Nat.le_succ_of_le hyl,p5⟩
    | true=>
     refine iteT ⟨w5,r3,S5,hr4.ext x5,s5,?_⟩
     have p5':Post X.K E (RD X.K) w1 H1 (((me r3 S5).bind fun y S2=>(compL g mt me (ds.drop (i + 1)) r3 S2).bind fun ys S3=>R.ok (y :: ys) S3).bind fun zs S2=>R.ok (D.lst (ys ++ zs)) S2) Q:=p5
     simp only [hass] at p5'
     refine Post.bindAt (rel:=RD X.K) p5' x15 s1 s5 fun y S6 w6 H6 yv x6 q6 s6 p6=>?_
     have x16:Ext w1 H1 w6 H6:=x15.trans' x6 s1 s5
     have hph6:p ∈ w6.hid:=x6.hid p hph5
     have hpn5:p ∉ w5.st:=(s5.hid p hph5).1
     have hpn6:p ∉ w6.st:=(s6.hid p hph6).1
     have hpv6:H6 p=some (.lst vs):=x6.keep _ _ hpv5 hpn5
     have ry6:=RDs.ext x6 _ _ (RDs.ext x5 _ _ ry3)
     refine ⟨vs,hpv6,by rw [ry6.length]; omega,w6,r3,S6,ys ++ [y],vs ++ [yv],⟨fun a o h n=>?_,x16.sub,x16.hid,x16.hnew,fun a o u h=>by have z:=x16.frz a o u h; rw [upd_ne (fun e:a=p=>by rw [e,hpv6] at z; cases z)]; exact z⟩,hph6,(hr4.ext x5).ext x6 |>.mv (Mv.write hph6),s6.write hph6,upd_same,(RDs.mv (Mv.write hph6) _ _ ry6).append (.cons (RD.mv (Mv.write hph6) _ _ q6) .nil),by simp; omega,?_⟩
     ·have:a ≠ p:=ne_of_none h hp
      rw [upd_ne this]; exact x16.keep a o h n
     ·have he2:∀ zs:List D,(ys ++ [y]) ++ zs=ys ++ y :: zs:=fun zs=>by simp
      simp only [he2]
      exact p6
  ·have e:i=ds.length:=by omega
   subst e
   rw [List.drop_length] at hp2
   refine .inl ⟨(q1 _ w2 H2 x2).2 (Nat.le_refl _),?_⟩
   have hp3:Post X.K E (RD X.K) w1 H1 (R.ok (D.lst (ys ++ [])) S2) Q:=hp2
   rw [List.append_nil] at hp3
   refine Post.at hp3 (w1:=w2.unhide p) ⟨x2.keep,x2.sub,fun a h=>List.mem_filter.mpr ⟨x2.hid a h,decide_eq_true fun z=>pno (z ▸ h)⟩,fun a h=>x2.hnew a (Wd.mem_unhide h).1,x2.frz⟩ ?_ hS2.unhide
   unfold RD
   exact ⟨p,vs,rfl,⟨hpv,hpn,fun z=>(Wd.mem_unhide z).2 rfl⟩,RDs.mv Mv.unhide _ _ ry⟩⟩
theorem ps_setC {X:Cx} {elt tg iter:Expr} {ifs:List Expr} {scope:Scope} {pos pos' spos:Pos} {N:List Str} {i0:Nat} {x0:Str} {k:Nat} {caps:List Nat} {wi:TI} {g:TG} {tt:TT} {te:TE} (hN:X.N.Nodup) (hi0:X.N[i0]?=some x0) (hx0:Loc X.env.scope x0) (hX:X.calm=true) (hxe:∀ e s,¬ X.xe e s) (C:CompScope X N k caps scope)
  (hi:PI X tg iter wi) (hg:∀ cl s0 H0 ex,PG (cxC X N scope cl s0 H0 ex) tg g) (ht:∀ cl s0 H0 ex,PIfs (cxC X N scope cl s0 H0 ex) ifs tt) (he:∀ cl s0 H0 ex,PE (cxC X N scope cl s0 H0 ex) elt te)
  (hs:autoParam (∀ x,foldedSetIterable iter X.env x=pure x) Au.h4._auto_1) (hsw:autoParam (swapsWith (.ListComp elt [⟨tg,iter,ifs,0⟩] scope pos) (some (.Name x0 pos')) spos.line X.env=pure true) Au.h0._auto_1) (hf0:autoParam (X.fn x0=true ∨ X.env.scope.names.lookup x0=some .local) Au.h7._auto_1):PS X (.Assign [.Name x0 pos'] (.ListComp elt [⟨tg,iter,ifs,0⟩] scope pos) spos) (tAsg (tComp wi k caps g tt te) (gName i0)):=by
 intro pins s σ H D I h
 have h:tComp wi k caps g tt te σ H (fun v H1=>D.nx (σ.set i0 (some v)) H1):=h
 have noX:∀ {α:Type} {t:Sem α} {Q':α→Shared→Prop} {s':Shared},wpAny (model X.prog X.w) X.A t Q' X.xe s'→wpAny (model X.prog X.w) X.A t Q' (fun _ _=>False) s':=fun h=>wpAny_mono h (fun _ _ x=>x) fun e s z=>hxe e s z
 obtain ⟨cl,hclos,hcl,hcf⟩:=closure_for (scope:=scope) (env:=X.env) fun x hx hf=>I.ok.has _ (C.free x hx hf)
 rw [exec_Assign_Name_used _ _ _ _ hsw]; refine wpAny_bind (wpAny_standAt (wpAny_bind ?_))
 show wpAny _ X.A (do let _ ← comprehension (.ListComp elt [⟨tg,iter,ifs,0⟩] scope pos) scope X.env _ (newList []) false (eval iter X.env) (some (assign (.Name x0 pos') X.env))) _ _ s
 refine wpAny_bind (wpAny_mono (wpAny_comprehension_free (use:=some (assign (.Name x0 pos') X.env)) (Q:=fun _ s'=>∃ σ' H',Inv X pins σ' H' s'∧D.nx σ' H') (cl:=cl) rfl hs hclos C.kind C.names ?_) (fun _ s' hq=>wpAny_pure (wpAny_pure hq)) fun _ _ e=>e)
 refine thn (hi pins s σ H _ I h) fun v s1 h1=>thn h1 fun itv s2 h2=>?_
 obtain ⟨it,fp,tn,J,H2,e,I2,T,st2,f2,q⟩:=h2
 subst e
 refine wpAny_newList (items:=[]) ?_ (by show 0≤sizeLine; exact Nat.zero_le _)
 have hp:H2 s2.heap.objs.size=none:=I2.hok.fresh (Nat.le_refl _)
 obtain ⟨W,⟨m0,w0⟩,turn⟩:=q _ hp
 have I3:Inv X pins σ (upd H2 s2.heap.objs.size (.lst [])) { s2 with heap:=s2.heap.push { cls:=.type "list",data:=.seq ([]:List Value).toArray } }:=
  I2.laid (t':=s2.toks) (fun b u e=>Heap.get?_push_of_some _ e) (Nat.le_refl _) ⟨Nat.zero_le _,[],0,.nil,Heap.get?_push_size _ rfl⟩
 refine wpAny_newFunctionEnv C.nocell (fun x hx=>nomatch hx) (fun h4 hn4 hs4=>?_) C.kind
 have ltfp:∀ b ∈ fp,b < s2.heap.objs.size:=fun b hb=>by
  obtain ⟨o,ho,_⟩:=T.obj _ _ st2 b hb
  exact Heap.lt_size ho
 have hk4:∀ b o,(s2.heap.push { cls:=.type "list",data:=.seq ([]:List Value).toArray }).get? b=some o→h4.get? b=some o:=fun b o e=>by
  have ne:b ≠ (s2.heap.push { cls:=.type "list",data:=.seq ([]:List Value).toArray }).objs.size:=Nat.ne_of_lt (Heap.lt_size e)
  rw [hs4.2 b ne]
  exact Heap.get?_push_of_some _ e
 have f3:∀ b ∈ fp,FpOk X pins (upd H2 s2.heap.objs.size (.lst [])) b:=fun b hb=>by
  obtain ⟨a1,a2⟩:=f2 b hb
  exact ⟨by rw [upd_ne (Nat.ne_of_lt (ltfp b hb))]; exact a1,a2⟩
 have I4:=comp_start (N:=N) (k:=k) (caps:=caps) (scope:=scope) (cl:=cl) (fp:=fp) (t:=s2.toks + 0) I3 C hcl hcf (fun b hb=>⟨f3 b hb,by rw [show ({ s2 with heap:=s2.heap.push { cls:=.type "list",data:=.seq ([]:List Value).toArray } }:Shared).heap.objs.size=s2.heap.objs.size + 1 from Heap.size_push ..]; exact Nat.lt_succ_of_lt (ltfp b hb)⟩) hn4 hk4
 have tn4:tn 0 h4:=T.keep _ _ _ st2 fun b hb o e=>hk4 b o (Heap.get?_push_of_some _ e)
 have loop:codeAny (model X.prog X.w) X.A (.compLoop (.ListComp elt [⟨tg,iter,ifs,0⟩] scope pos) 0 (.ref it) (.ref s2.heap.objs.size) (compEnvC scope cl ({ s2 with heap:=s2.heap.push { cls:=.type "list",data:=.seq ([]:List Value).toArray } }:Shared).heap.objs.size X.env))
   (compPost (model X.prog X.w) X.A X.xe (some (assign (.Name x0 pos') X.env)) (fun _ s'=>∃ σ' H',Inv X pins σ' H' s'∧D.nx σ' H') (.ref s2.heap.objs.size) ({ s2 with heap:=s2.heap.push { cls:=.type "list",data:=.seq ([]:List Value).toArray } }:Shared).heap.objs.size) { s2 with heap:=h4,toks:=s2.toks + 0 }:=by
  generalize hs3:({ s2 with heap:=s2.heap.push { cls:=.type "list",data:=.seq ([]:List Value).toArray } }:Shared)=s3 at *
  have sz3:s2.heap.objs.size≤s3.heap.objs.size:=by rw [← hs3]; show _≤(s2.heap.push _).objs.size; rw [Heap.size_push]; exact Nat.le_succ _
  have k23:∀ b o,s2.heap.get? b=some o→s3.heap.get? b=some o:=fun b o e=>by rw [← hs3]; exact Heap.get?_push_of_some _ e
  have hos:s3.os=s2.os:=by rw [← hs3]
  have stat:∀ {H':Hp},(∀ b ∈ fp,H' b=none)→∀ b ∈ fp,FpOk (cxC X N scope cl s3 (upd H2 s2.heap.objs.size (.lst [])) fp) pins H' b:=fun {H'} hn b hb=>by
   obtain ⟨a1,a2,a3,a4,a5,a6⟩:=f3 b hb
   refine ⟨hn b hb,Nat.ne_of_lt (Nat.lt_of_lt_of_le (ltfp b hb) sz3),fun z=>?_,.inl hb,fun x c e=>a5 x c (hcl x c e),a6⟩
   rcases List.mem_cons.mp (I2.stkSub b z) with q | q
   ·exact a2 q
   ·exact a3 q
  have I4':Inv (cxC X N scope cl s3 (upd H2 s2.heap.objs.size (.lst [])) fp) pins (capSt k caps σ) (upd H2 s2.heap.objs.size (.lst [])) { s2 with heap:=h4,toks:=s2.toks + 0 }:=by subst hs3; exact I4
  refine compLoop_all (fun n s'=>∃ i σ' H',Inv (cxC X N scope cl s3 (upd H2 s2.heap.objs.size (.lst [])) fp) pins σ' H' s'∧tn i s'.heap∧(∀ b ∈ fp,H' b=none)∧W i n σ' H') ?_ m0 ⟨0,_,_,I4',tn4,fun b hb=>(f3 b hb).1,w0⟩
  rintro n s5 ⟨i,σ5,H5,I5,st5,fr5,w5⟩
  rcases turn i n σ5 H5 w5 with ⟨stop,qn⟩ | ⟨go,Nn,hN,step⟩
  ·refine thn (T.done (cxC X N scope cl s3 (upd H2 s2.heap.objs.size (.lst [])) fp) rfl rfl rfl (.inl hX) i pins s5 σ5 H5 _ I5 (stat fr5) st5 stop) fun r s6 zq=>?_
   obtain ⟨hr,I6⟩:=zq
   subst hr
   obtain ⟨m6,hn6,_⟩:=I6.loc
   have u1:Un (frs X.stack) fp H2 (upd H2 s2.heap.objs.size (.lst [])) s2.heap s3.heap:=Un.laid k23 (Nat.le_refl _) hp
   have u2:Un (frs X.stack) fp H2 H5 s2.heap s6.heap:=u1.trans I6.base
   have neC:∀ b o,s2.heap.get? b=some o→b ≠ s3.heap.objs.size:=fun b o e=>Nat.ne_of_lt (Nat.lt_of_lt_of_le (Heap.lt_size e) sz3)
   have hfree:H5 s3.heap.objs.size=none:=I6.free
   have IX:Inv X pins σ H5 s6:=by
    refine I2.call' (s':=s6) (ch:=fp) (by rw [← hos]; exact I6.os) ⟨fun b o e n hb hx=>?_,fun b o e n hb hx=>?_,u2.free,fun b o e hx=>?_,u2.tups,u2.frzs,u2.tbls⟩ (fun b ob e=>?_) I6.bare fun b hb=>?_
    ·exact u2.keep b o e n hb hx
    ·obtain ⟨sl,e1⟩:=u2.slot b o e n hb hx
     exact ⟨sl,e1⟩
    ·obtain ⟨o',e1⟩:=u2.there b o e hx
     exact ⟨o',e1⟩
    ·exact I6.hok b ob e
    ·obtain ⟨a1,a2,a3,a4,a5,a6⟩:=f2 b hb
     exact ⟨a4,a2,a5,a6⟩
   have lC:∀ b o,s2.heap.get? b=some o→b ≠ s3.heap.objs.size:=neC
   have nL:X.env.locals ≠ s3.heap.objs.size:=Nat.ne_of_lt (Nat.lt_of_lt_of_le I2.lt sz3)
   have nc:∀ x c,X.env.cells.lookup x=some c→c ≠ s3.heap.objs.size:=fun x c e=>by
    obtain ⟨v,o,ho,_⟩:=I2.cell x c e
    exact neC c o ho
   show wpAny _ X.A (assign (.Name x0 pos') X.env (.ref s2.heap.objs.size)) _ _ _
   refine wpAny_assign_Name (store_ok2 IX hN hi0 hx0 (v:=.ref s2.heap.objs.size) rfl (fun s8 I8 ⟨a,sa,ha⟩=>⟨m6,hn6.sameBut sa ?_,fun h9 hs9=>⟨_,H5,?_,qn⟩⟩) hf0)
   ·rcases ha with ha | ha
    ·rw [ha]; exact Ne.symm nL
    ·exact Ne.symm (nc _ _ ha)
   ·exact I8.turned (t':=s8.toks) (it:=s3.heap.objs.size) (fun b o n e=>(hs9.2 b n).trans e) hfree (Ne.symm nL) (.inr (Nat.le_trans I2.sz sz3)) nc fun p hp=>neC p.1 p.2 (I2.pin p hp).1
  ·refine thn (T.item (cxC X N scope cl s3 (upd H2 s2.heap.objs.size (.lst [])) fp) rfl rfl rfl (.inl hX) i pins s5 σ5 H5 _ I5 (stat fr5) st5 go) fun r s6 zq=>?_
   obtain ⟨u,hr,h6⟩:=zq
   subst hr
   refine thn h6 fun _ s7 zq=>?_
   obtain ⟨x,H7,I7,r7,y7,st7,fr7⟩:=zq
   have I7':=I7.pinned (stat fr7) (T.obj _ _ st7)
   refine noX (thn (hg cl s3 _ fp _ s7 σ5 H7 x u _ I7' r7 (step x H7 y7)) fun _ s8 zq=>?_)
   obtain ⟨σ8,H8,I8,q8⟩:=zq
   refine noX (thn (ht cl s3 _ fp _ s8 σ8 H8 _ I8 q8) fun ok s9 zq=>?_)
   obtain ⟨H9,I9,q9⟩:=zq
   have again:∀ {s':Shared} {σ':L2.St} {H':Hp},Inv (cxC X N scope cl s3 (upd H2 s2.heap.objs.size (.lst [])) fp) (pins ++ pinsAt fp s7.heap) σ' H' s'→Nn σ' H'→
     ∃ m,m < n∧∃ i σ' H',Inv (cxC X N scope cl s3 (upd H2 s2.heap.objs.size (.lst [])) fp) pins σ' H' s'∧tn i s'.heap∧(∀ b ∈ fp,H' b=none)∧W i m σ' H':=fun {s' σ' H'} I' n'=>by
    obtain ⟨m',hm,w'⟩:=hN σ' H' n'
    refine ⟨m',hm,i + 1,σ',H',I'.unpinned,T.keep _ _ _ st7 fun b hb o e=>(I'.pin (b,o) (List.mem_append_right _ (List.mem_append_right _ (mem_pinsAt hb e)))).1,fun b hb=>?_,w'⟩
    obtain ⟨o,e,d⟩:=T.obj _ _ st7 b hb
    exact (I'.pin (b,o) (List.mem_append_right _ (List.mem_append_right _ (mem_pinsAt hb e)))).2.1
   cases ok with
   | false=>exact again I9 q9
   | true=>
    refine noX (thn (he cl s3 _ fp _ s9 σ8 H9 _ I9 q9) fun y s10 zq=>?_)
    obtain ⟨yv,H10,I10,r10,ys,hys,hlt,q10⟩:=zq
    refine noX (thn (mt_append (X:=cxC X N scope cl s3 (upd H2 s2.heap.objs.size (.lst [])) fp) _ s10 σ8 H10 (.ref s2.heap.objs.size) [yv] _ [y] (fun _ H'=>Nn σ8 H') I10 rfl (.cons r10 .nil) ⟨_,ys,yv,rfl,rfl,hys,hlt,q10⟩) fun _ s11 zq=>?_)
    obtain ⟨_,H11,I11,_,q11⟩:=zq
    exact again I11 q11
 exact codeAny_compStart_list loop (T.self X.A 0 _ _ _ tn4 loop)
theorem ss_setC {X:Cx} {E:XK} {elt tg iter:Expr} {ifs:List Expr} {scope:Scope} {pos pos' spos:Pos} {N:List Str} {k i0:Nat} {x0:Str} {caps:List Nat} {it:AM} {g:G} {mt:TM} {me:EM} (hN:X.N.Nodup) (hi0:X.N[i0]?=some x0) (hx0:Loc X.env.scope x0) (hX:X.calm=true) (hxe:∀ e s,¬ X.xe e s) (C:CompScope X N k caps scope)
  (hi:SI X E tg iter it) (hg:∀ cl s0 H0 ex,SG (cxC X N scope cl s0 H0 ex) tg g) (ht:∀ cl s0 H0 ex,SIf (cxC X N scope cl s0 H0 ex) E ifs mt) (he:∀ cl s0 H0 ex,SE (cxC X N scope cl s0 H0 ex) E elt me)
  (hs:autoParam (∀ x,foldedSetIterable iter X.env x=pure x) Au.h4._auto_1) (hsw:autoParam (swapsWith (.ListComp elt [⟨tg,iter,ifs,0⟩] scope pos) (some (.Name x0 pos')) spos.line X.env=pure true) Au.h0._auto_1) (hf0:autoParam (X.fn x0=true ∨ X.env.scope.names.lookup x0=some .local) Au.h7._auto_1):
  SS X E (.Assign [.Name x0 pos'] (.ListComp elt [⟨tg,iter,ifs,0⟩] scope pos) spos) (sSet i0 (eComp it k caps g mt me)):=⟨
 ps_weak (ps_setC hN hi0 hx0 hX hxe C hi.out (g:=uG X.K g) (fun cl s0 H0 ex=>(hg cl s0 H0 ex).out) (tt:=uT X.K E mt) (fun cl s0 H0 ex=>(ht cl s0 H0 ex).out) (te:=uE X.K E me) (fun cl s0 H0 ex=>(he cl s0 H0 ex).out) hs hsw hf0) fun D s H zq=>ex6 zq fun w r S hr hS hp=>
  comp_weak s H _ ⟨w,r,S,hr,hS,hp.bind hS fun d S1 w1 H1 v x1 q1 s1 p1=>Post.ret (b:=FV.nx (s.set i0 (some v))) p1 ⟨_,rfl,(hr.ext x1).set i0 q1⟩ s1⟩⟩
end PD
namespace PD
open PySem PySem.Spec PyProof.Rows L2
section
variable {K:PySem.W.Frag} {w:Wd} {H:Hp} {S:Sto}
end
section
variable {X:Cx} {E:XK}
end
end PD
namespace L2
open PySem PySem.Spec PyProof.Rows
end L2
namespace PD
open PySem PySem.Spec PyProof.Rows L2
section
variable {X:Cx} {E:XK}
end
end PD
namespace PD
open PySem PySem.Spec PyProof.Rows L2
section
variable {X:Cx} {E:XK}
end
section
variable {K:PySem.W.Frag} {w:Wd} {H:Hp}
theorem Mv.adopt {p:Addr} {o:HO} (hh:p ∈ w.hid):Mv w H ((w.unhide p).add p) (upd H p o):=
  ⟨fun n a h=>by
      show (w.st ++ [p])[n]?=some a
      rw [List.getElem?_append_left (List.getElem?_eq_some_iff.mp h).1]; exact h,
   fun a u h=>⟨by rw [upd_ne (fun z:a=p=>h.2.2 (z ▸ hh))]; exact h.1,fun z=>by
      rcases List.mem_append.mp z with z | z
      · exact h.2.1 z
      · exact h.2.2 (by rw [List.mem_singleton.mp z]; exact hh),fun z=>h.2.2 (Wd.mem_unhide z).1⟩⟩
theorem RS.adopt {p:Addr} {o:HO} {so:SO} {S:Sto} (s:RS K w H S) (hh:p ∈ w.hid) (r:RO K ((w.unhide p).add p) (upd H p o) p so):RS K ((w.unhide p).add p) (upd H p o) (S ++ [so]):=by
 have np:=(s.hid p hh).1
 refine ⟨?_,by simp [Wd.add,Wd.unhide,s.len],fun n so' e=>?_,fun a ha=>?_⟩
 ·show (w.st ++ [p]).Nodup
  rw [List.nodup_append]
  exact ⟨s.nd,by simp,fun a ha b hb=>by
   have:b=p:=by simpa using hb
   subst this
   rintro rfl
   exact np ha⟩
 ·by_cases hn:n < S.length
  ·rw [List.getElem?_append_left hn] at e
   obtain ⟨a,ha,q⟩:=s.obj n so' e
   have ne:a ≠ p:=fun z=>np (z ▸ List.mem_of_getElem? ha)
   exact ⟨a,(Mv.adopt (H:=H) (o:=o) hh).st n a ha,q.mv (Mv.adopt hh) fun u z=>by rw [upd_ne ne]; exact z⟩
  ·have hn':n=S.length:=by
    have:=(List.getElem?_eq_some_iff.mp e).1
    simp at this; omega
   subst hn'
   simp at e; subst e
   exact ⟨p,by show (w.st ++ [p])[S.length]?=some p; rw [← s.len]; simp,r⟩
 ·obtain ⟨h1,h2⟩:=Wd.mem_unhide ha
  obtain ⟨h3,u,e⟩:=s.hid a h1
  refine ⟨?_,u,by rw [upd_ne h2]; exact e⟩
  show a ∉ w.st ++ [p]
  intro z
  rcases List.mem_append.mp z with z | z
  ·exact h3 z
  ·exact h2 (by simpa using z)
end
section
variable {X:Cx} {E:XK} {pos:Pos}
end
end PD
namespace PD
open PySem PySem.Spec PyProof.Rows L2
noncomputable def isLst (S:Sto):D→Option (List D)
 | .lst a=>some a
 | .ref n=>match S[n]? with
  | some (.lst a)=>some a
  | _=>none
 | _=>none
section
variable {X:Cx} {E:XK}
end
end PD
namespace L2
open PySem PySem.Spec PyProof.Rows
section
variable {X:Cx} {tg:Expr}
end
end L2
namespace PD
open PySem PySem.Spec PyProof.Rows L2
section
variable {X:Cx} {E:XK} {a b c:Expr} {pos:Pos}
end
end PD
namespace PySem
open PyProof.Rows
namespace F
end F
section
variable {prog:Program} {w:World} {A:Around} {E:Value→Shared→Prop} {s:Shared}
end
end PySem
namespace L2
open PySem PySem.Spec PyProof.Rows
section
variable {X:Cx} {tg:Expr}
end
end L2
namespace PD
open PySem PySem.Spec PyProof.Rows L2
section
variable {X:Cx} {E:XK} {a:Expr} {pos:Pos}
end
end PD
namespace PD
open PySem PySem.Spec PyProof.Rows L2
section
variable {X:Cx} {E:XK} {pos:Pos}
end
end PD
namespace L2
open PySem PySem.Spec PyProof.Rows
section
variable {X:Cx} {tg:Expr}
end
end L2
namespace PD
open PySem PySem.Spec PyProof.Rows L2
section
variable {X:Cx} {E:XK}
end
end PD
namespace L2
open PySem PySem.Spec PyProof.Rows
end L2
namespace PD
open PySem PySem.Spec PyProof.Rows L2
section
variable {X:Cx} {E:XK}
end
end PD
namespace PySem
open PyProof.Rows
section
variable {prog:Program} {w:World} {A:Around} {E:Value→Shared→Prop} {s:Shared} {K:Type} [DecidableEq K] {knd:KeyKind prog w K}
end
end PySem
namespace PD
open PySem PySem.Spec PyProof.Rows L2
section
variable {X:Cx} {E:XK}
end
end PD
namespace PD
open PySem PySem.Spec PyProof.Rows L2
open AutoSeq1 (wpAny_loadPart')
open MeetsSeq MeetsSeq2 MeetsSeq3 SeqRoads2 PySem.SeqAt
noncomputable def ltZ:List Int→List Int→Bool
 | [],[]=>false
 | [],_ :: _=>true
 | _ :: _,[]=>false
 | x :: xs,y :: ys=>if x=y then ltZ xs ys else decide (x < y)
theorem ltZ_eq {x y:Int} {xs ys:List Int} (h:x=y):ltZ (x :: xs) (y :: ys)=ltZ xs ys:=if_pos h
theorem ltZ_ne {x y:Int} {xs ys:List Int} (h:¬ x=y):ltZ (x :: xs) (y :: ys)=decide (x < y):=if_neg h
theorem intLtAt {A:Around} {s:Shared} {a b:Int} {t u:Tok} (prog:Program) (w:World) {E:Value→Shared→Prop} {Q:Value→Shared→Prop} (h:Q (.bool (decide (a < b))) s):wpAny (model prog w) A (richCompare .Lt (.int a t) (.int b u)) Q E s:=
 richCompare_gives (op:=.Lt) (typeIs_int s _ t) (typeIs_int s _ u) F.slot_int_lt F.entry_int_lt (F.args_int_lt_2 _ _) (gives_int_lt _ _ t u) (fun x=>nomatch x) h
theorem tuple_ltInts (l b:Addr) (items items2:Array Value) (n n2:Nat) (dd dd2:Option Addr) (sl sl2:Array (Option Value)) {xs ys:List Int} (hx:IntsAre items.toList xs) (hy:IntsAre items2.toList ys):
  Meets (Builtin.«tuple.__lt__» ⟨[.ref l,.ref b],[]⟩)
   (fun A R s=>s.heap.get? l=some { cls:=.type "tuple",dict:=dd,data:=.seq items n,slots:=sl }∧s.heap.get? b=some { cls:=.type "tuple",dict:=dd2,data:=.seq items2 n2,slots:=sl2 }∧
    R (.ok (.ret (.bool (ltZ xs ys)))) s):=
 .of_wp fun prog w A R s h=>by
  obtain ⟨hp,g,d,tk,os⟩:=s; obtain ⟨hl,hb,h⟩:=h
  have f2:=AutoSeq1.sub_tuple_tuple
  wp_walk using wpAny_loadPart' hl,wpAny_loadPart' hb,wpAny_forIn_list _ (fun rest b s'=>b.1=none∧s'=⟨hp,g,d,tk,os⟩∧∃ (as bs:List Value) (xs ys:List Int),rest=as.zip bs∧IntsAre as xs∧IntsAre bs ys∧as.length + items2.size=bs.length + items.size∧
   R (.ok (.ret (.bool (ltZ xs ys)))) ⟨hp,g,d,tk,os⟩) _
  case turn=>
   rintro ⟨y,x⟩ rest b s' ⟨hb',rfl,as,bs,xs,ys,hz,h1,h2,hlen,hR⟩
   cases h1 with
   | nil=>cases hz
   | cons a t h1=>
    cases h2 with
    | nil=>cases hz
    | cons c u h2=>
     cases hz
     refine wpAny_bind (EqAt.int_int a t c u prog w _ _ ?_)
     by_cases hac:a=c
     ·have e:(a == c)=true:=by simp [hac]
      rw [e]
      wp_walk
      refine ⟨rfl,rfl,_,_,_,_,rfl,h1,h2,by simp only [List.length_cons] at hlen; omega,?_⟩
      rw [ltZ_eq hac] at hR
      exact hR
     ·have e:(a == c)=false:=by simp [hac]
      rw [ltZ_ne hac] at hR
      rw [e]
      simp only [Bool.not_false,if_true]
      refine wpAny_bind (wpAny_rule ?_)
      refine wpAny_bind (intLtAt prog w ?_)
      wp_walk
      exact ⟨_,rfl,hR⟩
  case fin=>
   rintro ⟨b1,b2⟩ s' ⟨hb',rfl,as,bs,xs,ys,hz,h1,h2,hlen,hR⟩
   simp only at hb'
   subst hb'
   have e:ltZ xs ys=decide (items.size < items2.size):=by
    cases h1 with
    | nil=>
     cases h2 with
     | nil=>simp only [List.length_nil] at hlen; unfold ltZ; exact (decide_eq_false (by omega)).symm
     | cons c u h2=>simp only [List.length_nil,List.length_cons] at hlen; unfold ltZ; exact (decide_eq_true (by omega)).symm
    | cons a t h1=>
     cases h2 with
     | nil=>simp only [List.length_nil,List.length_cons] at hlen; unfold ltZ; exact (decide_eq_false (by omega)).symm
     | cons c u h2=>cases hz
   rw [e] at hR
   wp_walk
   exact ⟨_,rfl,by simpa [Builtin.Tuple.tupleCompareSizes] using hR⟩
  case h=>
   exact ⟨rfl,rfl,_,_,_,_,rfl,hx,hy,by simp [Nat.add_comm],h⟩
theorem tupLtAt {A:Around} {s:Shared} {l b:Addr} {items items2:Array Value} {xs ys:List Int} (hl:s.heap.IsTuple l items) (hb:s.heap.IsTuple b items2) (hx:IntsAre items.toList xs) (hy:IntsAre items2.toList ys) (hu:A.units < cLine) (prog:Program) (w:World) {E:Value→Shared→Prop} {Q:Value→Shared→Prop}
  (h:Q (.bool (ltZ xs ys)) s):wpAny (model prog w) A (richCompare .Lt (.ref l) (.ref b)) Q E s:=by
 obtain ⟨⟨cls,dd,data,sl⟩,ho,hc,n,hd⟩:=id hl
 obtain ⟨⟨cls2,dd2,data2,sl2⟩,ho2,hc2,n2,hd2⟩:=id hb
 simp only at hc hd hc2 hd2
 subst hc hd hc2 hd2
 exact richCompare_meets_room (op:=.Lt) ⟨_,ho,rfl⟩ ⟨_,ho2,rfl⟩ F.slot_tuple_lt F.entry_tuple_lt (F.args_tuple_lt_2 _ _) (tuple_ltInts l b items items2 n n2 dd dd2 sl sl2 hx hy)
  ⟨ho,ho2,show Value.bool (ltZ xs ys) ≠ Value.notImplemented∧Q (.bool (ltZ xs ys)) s from ⟨(fun x=>nomatch x),h⟩⟩ hu
end PD
namespace PD
open PySem PySem.Spec PyProof.Rows L2
section
variable {prog:Program} {w:World} {A:Around} {R:Result→Shared→Prop} {I:Addr} {fp wr:List Addr} {n:Nat} {P:Nat→Value→Prop} {St:Nat→Heap→Prop} {h0:Heap} {bt:Nat→Nat→Bool} {S:Addr} {kw:List (Str × Value)}
end
end PD
namespace PD
open PySem PySem.Spec PyProof.Rows L2
theorem ints_back:∀ {ds:List D} {ns:List Int},intsOf ds=some ns→ds=ns.map .int
 | [],ns,h=>by unfold intsOf at h; cases h; rfl
 | d :: r,ns,h=>by
  unfold intsOf at h
  split at h
  ·rename_i e; cases e
  ·rename_i b r' e
   cases e
   cases e:intsOf r with
   | none=>rw [e] at h; cases h
   | some cs=>rw [e] at h; cases h; rw [ints_back e]; rfl
  ·cases h
section
variable {X:Cx} {E:XK} {pins:List (Addr × Obj)} {σ:L2.St} {H:Hp} {s:Shared}
end
section
variable {prog:Program} {w:World} {A:Around} {E:Value→Shared→Prop} {s:Shared}
end
end PD
namespace PD
open PySem PySem.Spec PyProof.Rows L2
section
variable {prog:Program} {w:World} {A:Around} {E:Value→Shared→Prop} {s:Shared}
end
noncomputable def CallK (X:Cx) (f:Value) (kw:List (Str × Value)) (r:List V→Hp→VK→Prop):Prop:=
 ∀ (pins:List (Addr × Obj)) (s:Shared) (σ:L2.St) (H:Hp) (xs:List V) (us:List Value) (Q:VK),Inv X pins σ H s→Vals xs us→r xs H Q→
  wpAny (model X.prog X.w) X.A (call f us kw) (EP X pins σ Q) X.xe s
section
variable {X:Cx} {E:XK}
variable {a:Expr} {ms:AM} {x:Str} {p pos kp:Pos} {id:String} {nm:Str}
end
end PD
namespace SR
open PySem PyProof.Rows
noncomputable abbrev SM (α:Type):=StateT SortSt Sem α
noncomputable def Up (xs:Array Keyed) (lo hi:Nat):Prop:=∀ i j,lo≤i→i≤j→j < hi→K xs i≤K xs j
noncomputable def Dn (xs:Array Keyed) (lo hi:Nat):Prop:=∀ i j,lo≤i→i≤j→j < hi→K xs j≤K xs i
noncomputable def Num (p:Keyed):Prop:=∃ n t,p.1=.int n t
noncomputable def IK (xs:Array Keyed):Prop:=∀ p ∈ xs.toList,Num p
theorem IK.get {xs:Array Keyed} (h:IK xs) {i:Nat} (hi:i < xs.size):Num xs[i]:=h _ (by simp)
theorem K_get {xs:Array Keyed} {i:Nat} (hi:i < xs.size):K xs i=numOf xs[i].1:=by unfold K; rw [getElem?_pos xs i hi]
section
variable {prog:Program} {w:World} {A:Around} {E:Value→Shared→Prop} {s:Shared}
theorem lt_ok {st:SortSt} {p q:Keyed} {Q:Option Bool→SortSt→Prop} (hk:kindOf st=oneType') (hp:Num p) (hq:Num q) (h:Q (some (decide (numOf p.1 < numOf q.1))) st):wpS (model prog w) A E s (lt' p q) Q st:=by
 obtain ⟨p1,p2⟩:=p
 obtain ⟨q1,q2⟩:=q
 obtain ⟨a,t,e1⟩:=hp
 obtain ⟨b,u,e2⟩:=hq
 dsimp only at e1 e2
 subst e1 e2
 rw [lt'_eq]
 refine wpS_bind (wpS_get ?_)
 rw [hk,keyLt'_oneType]
 exact wpS_bind (wpS_lift (wpAny_attempt (oneLt_int ⟨rfl,wpS_pure h⟩)))
theorem elem_ok {st:SortSt} {xs:Array Keyed} {i:Nat} {Q:Keyed→SortSt→Prop} (hi:i < xs.size) (h:Q xs[i] st):wpS (model prog w) A E s (elem' xs i) Q st:=by
 rw [elem'_eq,getElem?_pos xs i hi]
 exact wpS_pure h
end
noncomputable def gal:Bool→Keyed→Array Keyed→Nat→Nat→Nat→SM (Option Nat):=sortPriv% PySem.Builtin.gallop
noncomputable def by1 (left:Bool) (key:Keyed) (arr:Array Keyed) (z:Nat):SM (Option Bool):=do
 let x ← elem' arr z
 if left then lt' x key else return (← lt' key x).map (!·)
theorem gal_eq (left:Bool) (key:Keyed) (arr:Array Keyed) (base n hint:Nat):gal left key arr base n hint=(do
 let f:Nat→SM (Option Bool):=fun i=>by1 left key arr (base + i)
 let mut l1:=0
 let mut o1:=1
 let mut lo:=0
 let mut hi:=0
 let some rg ← f hint | return none
 if rg then
  let mx:=n - hint
  for _ in [0:n] do
   if o1 ≥ mx then break
   let some b ← f (hint + o1) | return none
   if !b then break
   l1:=o1
   o1:=2 * o1 + 1
  lo:=hint + l1 + 1
  hi:=hint + min o1 mx
 else
  let mx:=hint + 1
  for _ in [0:n] do
   if o1 ≥ mx then break
   let some b ← f (hint - o1) | return none
   if b then break
   l1:=o1
   o1:=2 * o1 + 1
  lo:=hint + 1 - min o1 mx
  hi:=hint - l1
 for _ in [0:n] do
  if lo ≥ hi then break
  let m:=lo + (hi - lo) / 2
  let some b ← f m | return none
  if b then lo:=m + 1 else hi:=m
 return some hi):=rfl
section
variable {prog:Program} {w:World} {A:Around} {E:Value→Shared→Prop} {s:Shared}
noncomputable def bef (left:Bool) (key:Keyed) (arr:Array Keyed) (i:Nat):Bool:=if left=true then decide (K arr i < numOf key.1) else !decide (numOf key.1 < K arr i)
theorem bef_mono {left:Bool} {key:Keyed} {arr:Array Keyed} {lo hi:Nat} (hs:Up arr lo hi) {i j:Nat} (hi1:lo≤i) (hij:i≤j) (hj:j < hi) (h:bef left key arr j=true):bef left key arr i=true:=by
 have z:=hs i j hi1 hij hj
 cases left
 ·simp [bef] at h ⊢; omega
 ·simp [bef] at h ⊢; omega
theorem by1_ok {left:Bool} {key:Keyed} {arr:Array Keyed} {i:Nat} {st:SortSt} {Q:Option Bool→SortSt→Prop} (hk:kindOf st=oneType') (ha:IK arr) (hy:Num key) (hi:i < arr.size) (h:Q (some (bef left key arr i)) st):wpS (model prog w) A E s (by1 left key arr i) Q st:=by
 unfold by1
 refine wpS_bind (elem_ok hi ?_)
 have e:=K_get hi
 cases left
 ·refine wpS_bind (lt_ok hk hy (ha.get hi) (wpS_pure ?_))
  simpa [bef,e] using h
 ·refine lt_ok hk (ha.get hi) hy ?_
  simpa [bef,e] using h
theorem bs_ok {left:Bool} {key:Keyed} {arr:Array Keyed} {base n lo hi:Nat} {st:SortSt} {Q:Option (Option Nat) × Nat × Nat→SortSt→Prop} (hk:kindOf st=oneType') (ha:IK arr) (hy:Num key) (hn:base + n≤arr.size) (hs:Up arr base (base + n))
  (h1:lo≤hi) (h2:hi≤n) (h3:∀ i,i < lo→bef left key arr (base + i)=true) (h4:∀ i,hi≤i→i < n→bef left key arr (base + i)=false)
  (h:∀ l k,k≤n→(∀ i,i < k→bef left key arr (base + i)=true)→(∀ i,k≤i→i < n→bef left key arr (base + i)=false)→Q (none,l,k) st):
  wpS (model prog w) A E s (forIn [0:n] ((none,lo,hi):Option (Option Nat) × Nat × Nat) fun _ c=>
    if c.2.1 ≥ c.2.2 then pure (.done (none,c.2.1,c.2.2)) else do
     match ← by1 left key arr (base + (c.2.1 + (c.2.2 - c.2.1) / 2)) with
     | some b=>if b=true then pure (.yield (none,c.2.1 + (c.2.2 - c.2.1) / 2 + 1,c.2.2)) else pure (.yield (none,c.2.1,c.2.1 + (c.2.2 - c.2.1) / 2))
     | _=>pure (.done (some none,c.2.1,c.2.2))) Q st:=by
 refine wpS_mono (wpS_forRange (I:=fun x c st'=>st'=st∧∃ l u,c=(none,l,u)∧l≤u∧u≤n∧u - l≤n - x∧(∀ i,i < l→bef left key arr (base + i)=true)∧(∀ i,u≤i→i < n→bef left key arr (base + i)=false))
  (Q:=fun c st'=>st'=st∧∃ l u,c=(none,l,u)∧u≤n∧(∀ i,i < u→bef left key arr (base + i)=true)∧(∀ i,u≤i→i < n→bef left key arr (base + i)=false)) ?a ?b ⟨rfl,lo,hi,rfl,h1,h2,by omega,h3,h4⟩) ?c
 case b=>
  rintro c st' ⟨rfl,l,u,rfl,b1,b2,b3,b4,b5⟩
  have:l=u:=by omega
  subst this
  exact ⟨rfl,l,l,rfl,b2,b4,b5⟩
 case c=>
  rintro c st' ⟨rfl,l,u,rfl,b2,b4,b5⟩
  exact h l u b2 b4 b5
 case a=>
  rintro x c st' _ hx ⟨rfl,l,u,rfl,b1,b2,b3,b4,b5⟩
  dsimp only
  by_cases g:l ≥ u
  ·rw [if_pos g]
   have:l=u:=by omega
   subst this
   exact wpS_pure ⟨rfl,l,l,rfl,b2,b4,b5⟩
  ·rw [if_neg g]
   refine wpS_bind (by1_ok hk ha hy (by omega) ?_)
   dsimp only
   cases eb:bef left key arr (base + (l + (u - l) / 2)) with
   | true=>
    rw [if_pos rfl]
    refine wpS_pure ⟨rfl,_,_,rfl,by omega,b2,by omega,fun i hi=>?_,b5⟩
    exact bef_mono hs (by omega) (by omega) (by omega) eb
   | false=>
    rw [if_neg Bool.false_ne_true]
    refine wpS_pure ⟨rfl,_,_,rfl,by omega,by omega,by omega,b4,fun i h1 h2=>?_⟩
    cases e2:bef left key arr (base + i) with
    | false=>rfl
    | true=>
     have:=bef_mono (left:=left) (key:=key) hs (i:=base + (l + (u - l) / 2)) (j:=base + i) (by omega) (by omega) (by omega) e2
     rw [eb] at this
     cases this
theorem gal_ok {left:Bool} {key:Keyed} {arr:Array Keyed} {base n hint:Nat} {st:SortSt} {Q:Option Nat→SortSt→Prop} (hk:kindOf st=oneType') (ha:IK arr) (hy:Num key) (hn:base + n≤arr.size) (hh:hint < n) (hs:Up arr base (base + n))
  (h:∀ k,k≤n→(∀ i,i < k→bef left key arr (base + i)=true)→(∀ i,k≤i→i < n→bef left key arr (base + i)=false)→Q (some k) st):
  wpS (model prog w) A E s (gal left key arr base n hint) Q st:=by
 have no:∀ i j,i≤j→j < n→bef left key arr (base + i)=false→bef left key arr (base + j)=false:=fun i j h1 h2 e=>by
  cases e2:bef left key arr (base + j) with
  | false=>rfl
  | true=>
   have:=bef_mono (left:=left) (key:=key) hs (i:=base + i) (j:=base + j) (by omega) (by omega) (by omega) e2
   rw [e] at this
   cases this
 have ys:∀ i j,i≤j→j < n→bef left key arr (base + j)=true→bef left key arr (base + i)=true:=fun i j h1 h2 e=>
  bef_mono hs (by omega) (by omega) (by omega) e
 rw [gal_eq]
 dsimp only
 refine wpS_bind (by1_ok hk ha hy (by omega) ?_)
 dsimp only
 cases e0:bef left key arr (base + hint) with
 | true=>
  rw [if_pos rfl]
  refine wpS_bind (wpS_mono (wpS_forRange (I:=fun x c st'=>st'=st∧∃ l o,c=(none,l,o)∧l < o∧x + 1≤o∧l < n - hint∧bef left key arr (base + (hint + l))=true)
   (Q:=fun c st'=>st'=st∧∃ l o,c=(none,l,o)∧l < o∧l < n - hint∧bef left key arr (base + (hint + l))=true∧(o < n - hint→bef left key arr (base + (hint + o))=false)) ?a ?b ⟨rfl,0,1,rfl,by omega,by omega,by omega,e0⟩) ?c)
  case b=>
   rintro c st' ⟨rfl,l,o,rfl,b1,b2,b3,b4⟩
   exact ⟨rfl,l,o,rfl,b1,b3,b4,fun z=>by omega⟩
  case a=>
   rintro x c st' _ hx ⟨rfl,l,o,rfl,b1,b2,b3,b4⟩
   dsimp only
   by_cases g:o ≥ n - hint
   ·rw [if_pos g]
    exact wpS_pure ⟨rfl,l,o,rfl,b1,b3,b4,fun z=>by omega⟩
   ·rw [if_neg g]
    refine wpS_bind (by1_ok hk ha hy (by omega) ?_)
    dsimp only
    cases eb:bef left key arr (base + (hint + o)) with
    | false=>
     rw [if_pos (by decide)]
     exact wpS_pure ⟨rfl,l,o,rfl,b1,b3,b4,fun _=>eb⟩
    | true=>
     rw [if_neg (by decide)]
     exact wpS_pure ⟨rfl,o,2 * o + 1,rfl,by omega,by omega,by omega,eb⟩
  case c=>
   rintro c st' ⟨rfl,l,o,rfl,b1,b3,b4,b5⟩
   dsimp only
   refine wpS_bind (bs_ok (lo:=hint + l + 1) (hi:=hint + min o (n - hint)) hk ha hy hn hs (by omega) (by omega) (fun i hi=>?_) (fun i h1 h2=>?_) fun _ k a b c=>wpS_pure (h k a b c))
   ·exact ys i (hint + l) (by omega) (by omega) b4
   ·by_cases g:o < n - hint
    ·exact no (hint + o) i (by omega) h2 (b5 g)
    ·omega
 | false=>
  rw [if_neg Bool.false_ne_true]
  refine wpS_bind (wpS_mono (wpS_forRange (I:=fun x c st'=>st'=st∧∃ l o,c=(none,l,o)∧l < o∧x + 1≤o∧l≤hint∧bef left key arr (base + (hint - l))=false)
   (Q:=fun c st'=>st'=st∧∃ l o,c=(none,l,o)∧l < o∧l≤hint∧bef left key arr (base + (hint - l))=false∧(o≤hint→bef left key arr (base + (hint - o))=true)) ?a ?b ⟨rfl,0,1,rfl,by omega,by omega,by omega,e0⟩) ?c)
  case b=>
   rintro c st' ⟨rfl,l,o,rfl,b1,b2,b3,b4⟩
   exact ⟨rfl,l,o,rfl,b1,b3,b4,fun z=>by omega⟩
  case a=>
   rintro x c st' _ hx ⟨rfl,l,o,rfl,b1,b2,b3,b4⟩
   dsimp only
   by_cases g:o ≥ hint + 1
   ·rw [if_pos g]
    exact wpS_pure ⟨rfl,l,o,rfl,b1,b3,b4,fun z=>by omega⟩
   ·rw [if_neg g]
    refine wpS_bind (by1_ok hk ha hy (by omega) ?_)
    dsimp only
    cases eb:bef left key arr (base + (hint - o)) with
    | true=>
     rw [if_pos rfl]
     exact wpS_pure ⟨rfl,l,o,rfl,b1,b3,b4,fun _=>eb⟩
    | false=>
     rw [if_neg Bool.false_ne_true]
     exact wpS_pure ⟨rfl,o,2 * o + 1,rfl,by omega,by omega,by omega,eb⟩
  case c=>
   rintro c st' ⟨rfl,l,o,rfl,b1,b3,b4,b5⟩
   dsimp only
   refine wpS_bind (bs_ok (lo:=hint + 1 - min o (hint + 1)) (hi:=hint - l) hk ha hy hn hs (by omega) (by omega) (fun i hi=>?_) (fun i h1 h2=>?_) fun _ k a b c=>wpS_pure (h k a b c))
   ·by_cases g:o≤hint
    ·exact ys i (hint - o) (by omega) (by omega) (b5 g)
    ·omega
   ·exact no (hint - l) i (by omega) h2 b4
end
end SR
namespace SR
open PySem PyProof.Rows
noncomputable def mLo:Array Keyed→Array Keyed→SM (Array Keyed):=sortPriv% PySem.Builtin.mergeLo
noncomputable def sMG:Nat→SM Unit:=sortPriv% PySem.Builtin.setMinGallop
theorem mLo_eq (a b:Array Keyed):mLo a b=(do
 rule "list.sort.merge-lo"
 let tt:=a.size + b.size
 let dn (o:Array Keyed) (i j:Nat):=o ++ a.extract i a.size ++ b.extract j b.size
 let la (o:Array Keyed) (i j:Nat):=o ++ b.extract j b.size ++ a.extract i a.size
 let mut o:Array Keyed:=#[← elem' b 0]
 let mut i:=0
 let mut j:=1
 if j == b.size then return dn o i j
 if i + 1 == a.size then return la o i j
 let mut g:=gallopOf (← get)
 for _ in [0:tt] do
  let mut ca:=0
  let mut cb:=0
  for _ in [0:tt] do
   let some v ← lt' (← elem' b j) (← elem' a i) | return dn o i j
   if v then
    o:=o.push (← elem' b j); j:=j + 1; cb:=cb + 1; ca:=0
    if j == b.size then return dn o i j
    if cb ≥ g then break
   else
    o:=o.push (← elem' a i); i:=i + 1; ca:=ca + 1; cb:=0
    if i + 1 == a.size then return la o i j
    if ca ≥ g then break
  rule "list.sort.gallop"
  g:=g + 1
  for _ in [0:tt] do
   if g > 1 then g:=g - 1
   sMG g
   let some k ← gal false (← elem' b j) a i (a.size - i) 0 | return dn o i j
   ca:=k
   if k > 0 then
    o:=o ++ a.extract i (i + k); i:=i + k
    if i + 1 == a.size then return la o i j
    if i == a.size then return dn o i j
   o:=o.push (← elem' b j); j:=j + 1
   if j == b.size then return dn o i j
   let some k ← gal true (← elem' a i) b j (b.size - j) 0 | return dn o i j
   cb:=k
   if k > 0 then
    o:=o ++ b.extract j (j + k); j:=j + k
    if j == b.size then return dn o i j
   o:=o.push (← elem' a i); i:=i + 1
   if i + 1 == a.size then return la o i j
   if ca < 7 && cb < 7 then break
  g:=g + 1
  sMG g
 unsupported "internal:list.sort.merge-bound"):=rfl
noncomputable def ke (p:Keyed):Int:=numOf p.1
noncomputable def Sd (l:List Keyed):Prop:=l.Pairwise fun p q=>ke p≤ke q
structure Ml (tot o X Y:List Keyed):Prop where
 perm:(o ++ (X ++ Y)).Perm tot
 sd:Sd o
 le:∀ p ∈ o,∀ q ∈ X ++ Y,ke p≤ke q
theorem Ml.left {tot o L X Y:List Keyed} (h:Ml tot o (L ++ X) Y) (hs:Sd (L ++ X)) (hl:∀ p ∈ L,∀ q ∈ Y,ke p≤ke q):Ml tot (o ++ L) X Y:=by
 obtain ⟨s1,s2,s3⟩:=List.pairwise_append.mp hs
 refine ⟨by simpa [List.append_assoc] using h.perm,List.pairwise_append.mpr ⟨h.sd,s1,fun p hp q hq=>h.le p hp q (by simp [hq])⟩,fun p hp q hq=>?_⟩
 rcases List.mem_append.mp hp with hp | hp
 ·refine h.le p hp q ?_
  rcases List.mem_append.mp hq with hq | hq <;> simp [hq]
 ·rcases List.mem_append.mp hq with hq | hq
  ·exact s3 p hp q hq
  ·exact hl p hp q hq
theorem Ml.swap {tot o X Y:List Keyed} (h:Ml tot o X Y):Ml tot o Y X:=⟨(List.perm_append_comm.append_left o).trans h.perm,h.sd,fun p hp q hq=>h.le p hp q (by rcases List.mem_append.mp hq with z | z <;> simp [z])⟩
theorem Ml.right {tot o L X Y:List Keyed} (h:Ml tot o X (L ++ Y)) (hs:Sd (L ++ Y)) (hl:∀ p ∈ L,∀ q ∈ X,ke p≤ke q):Ml tot (o ++ L) X Y:=(h.swap.left hs hl).swap
theorem Ml.done {tot o:List Keyed} (h:Ml tot o [] []):o.Perm tot∧Sd o:=⟨by simpa using h.perm,h.sd⟩
noncomputable def Mg (a b o:Array Keyed) (i j:Nat):Prop:=Ml (a.toList ++ b.toList) o.toList (a.toList.drop i) (b.toList.drop j)
noncomputable def Good (a b r:Array Keyed):Prop:=r.toList.Perm (a.toList ++ b.toList)∧Sd r.toList
theorem sd_of {a:Array Keyed} (h:Up a 0 a.size):Sd a.toList:=by
 unfold Sd
 rw [List.pairwise_iff_getElem]
 intro i j hi hj hij
 have hi':i < a.size:=by simpa using hi
 have hj':j < a.size:=by simpa using hj
 have z:=h i j (Nat.zero_le _) (Nat.le_of_lt hij) hj'
 rw [K_get hi',K_get hj'] at z
 simpa [ke] using z
theorem up_of {a:Array Keyed} (h:Sd a.toList):Up a 0 a.size:=by
 intro i j _ hij hj
 by_cases e:i=j
 ·subst e; exact Int.le_refl _
 ·unfold Sd at h
  rw [List.pairwise_iff_getElem] at h
  have z:=h i j (by simpa using (by omega:i < a.size)) (by simpa using hj) (by omega)
  rw [K_get (by omega),K_get hj]
  simpa [ke] using z
theorem Sd.drop {l:List Keyed} (h:Sd l) (i:Nat):Sd (l.drop i):=List.Pairwise.sublist (List.drop_sublist i l) h
theorem drop_get {a:Array Keyed} {i:Nat} (hi:i < a.size):a.toList.drop i=[a[i]] ++ a.toList.drop (i + 1):=by
 rw [List.drop_eq_getElem_cons (by simpa using hi)]
 simp
theorem drop_cut {a:Array Keyed} (i k:Nat):a.toList.drop i=(a.toList.drop i).take k ++ a.toList.drop (i + k):=by
 rw [← List.drop_drop,List.take_append_drop]
theorem ext_list (a:Array Keyed) (i j:Nat):(a.extract i j).toList=(a.toList.drop i).take (j - i):=by
 rw [Array.toList_extract]
theorem mem_drop {a:Array Keyed} {i:Nat} {p:Keyed} (h:p ∈ a.toList.drop i):∃ t,i≤t∧t < a.size∧ke p=K a t:=by
 obtain ⟨n,hn,e⟩:=List.mem_iff_getElem.mp h
 have hl:i + n < a.size:=by simp at hn; omega
 refine ⟨i + n,by omega,hl,?_⟩
 rw [K_get hl,← e]
 simp [ke]
theorem mem_cut {a:Array Keyed} {i k:Nat} {p:Keyed} (h:p ∈ (a.toList.drop i).take k):∃ t,t < k∧i + t < a.size∧ke p=K a (i + t):=by
 obtain ⟨n,hn,e⟩:=List.mem_iff_getElem.mp h
 have hl:n < k∧i + n < a.size:=by simp at hn; omega
 refine ⟨n,hl.1,hl.2,?_⟩
 rw [K_get hl.2,← e]
 simp [ke]
section
variable {a b o:Array Keyed} {i j k:Nat}
theorem Mg.bulkA (ha:Up a 0 a.size) (hb:Up b 0 b.size) (h:Mg a b o i j) (hj:j < b.size) (hk:∀ t,t < k→i + t < a.size→K a (i + t)≤K b j):Mg a b (o ++ a.extract i (i + k)) (i + k) j:=by
 unfold Mg at h ⊢
 have e:(o ++ a.extract i (i + k)).toList=o.toList ++ (a.toList.drop i).take k:=by rw [Array.toList_append,ext_list]; simp
 rw [e]
 rw [drop_cut i k] at h
 refine h.left (by rw [← drop_cut]; exact (sd_of ha).drop i) fun p hp q hq=>?_
 obtain ⟨t,t1,t2,e1⟩:=mem_cut hp
 obtain ⟨u,u1,u2,e2⟩:=mem_drop hq
 have:=hk t t1 t2
 have:=hb j u (Nat.zero_le _) u1 u2
 omega
theorem Mg.bulkB (ha:Up a 0 a.size) (hb:Up b 0 b.size) (h:Mg a b o i j) (hi:i < a.size) (hk:∀ t,t < k→j + t < b.size→K b (j + t)≤K a i):Mg a b (o ++ b.extract j (j + k)) i (j + k):=by
 unfold Mg at h ⊢
 have e:(o ++ b.extract j (j + k)).toList=o.toList ++ (b.toList.drop j).take k:=by rw [Array.toList_append,ext_list]; simp
 rw [e]
 rw [drop_cut j k] at h
 refine h.right (by rw [← drop_cut]; exact (sd_of hb).drop j) fun p hp q hq=>?_
 obtain ⟨t,t1,t2,e1⟩:=mem_cut hp
 obtain ⟨u,u1,u2,e2⟩:=mem_drop hq
 have:=hk t t1 t2
 have:=ha i u (Nat.zero_le _) u1 u2
 omega
theorem Mg.pushA (ha:Up a 0 a.size) (hb:Up b 0 b.size) (h:Mg a b o i j) (hi:i < a.size) (hj:j < b.size) (hk:K a i≤K b j):Mg a b (o.push a[i]) (i + 1) j:=by
 unfold Mg at h ⊢
 rw [drop_get hi] at h
 rw [Array.toList_push]
 refine h.left (by rw [← drop_get hi]; exact (sd_of ha).drop i) fun p hp q hq=>?_
 rw [List.mem_singleton.mp hp]
 obtain ⟨u,u1,u2,e2⟩:=mem_drop hq
 have:=hb j u (Nat.zero_le _) u1 u2
 have e:=K_get hi
 unfold ke at e2 ⊢
 omega
theorem Mg.pushB (ha:Up a 0 a.size) (hb:Up b 0 b.size) (h:Mg a b o i j) (hi:i < a.size) (hj:j < b.size) (hk:K b j≤K a i):Mg a b (o.push b[j]) i (j + 1):=by
 unfold Mg at h ⊢
 rw [drop_get hj] at h
 rw [Array.toList_push]
 refine h.right (by rw [← drop_get hj]; exact (sd_of hb).drop j) fun p hp q hq=>?_
 rw [List.mem_singleton.mp hp]
 obtain ⟨u,u1,u2,e2⟩:=mem_drop hq
 have:=ha i u (Nat.zero_le _) u1 u2
 have e:=K_get hj
 unfold ke at e2 ⊢
 omega
theorem ext_all (a:Array Keyed) (i:Nat):(a.extract i a.size).toList=a.toList.drop i:=by
 rw [ext_list,List.take_of_length_le (by simp)]
theorem Mg.dn (ha:Up a 0 a.size) (hb:Up b 0 b.size) (h:Mg a b o i j) (hz:j=b.size ∨ i=a.size):Good a b (o ++ a.extract i a.size ++ b.extract j b.size):=by
 unfold Mg at h
 unfold Good
 rw [Array.toList_append,Array.toList_append,ext_all,ext_all]
 rcases hz with rfl | rfl
 ·have e:b.toList.drop b.size=[]:=by simp
  rw [e] at h ⊢
  rw [List.append_nil]
  refine Ml.done (Ml.left (by simpa using h) (by simpa using (sd_of ha).drop i) fun p hp q hq=>by cases hq)
 ·have e:a.toList.drop a.size=[]:=by simp
  rw [e] at h ⊢
  rw [List.append_nil]
  refine Ml.done (Ml.right (by simpa using h) (by simpa using (sd_of hb).drop j) fun p hp q hq=>by cases hq)
theorem Mg.la (ha:Up a 0 a.size) (hb:Up b 0 b.size) (h:Mg a b o i j) (hi:i + 1=a.size) (hl:∀ t,t < b.size→K b t≤K a (a.size - 1)):Good a b (o ++ b.extract j b.size ++ a.extract i a.size):=by
 unfold Mg at h
 unfold Good
 rw [Array.toList_append,Array.toList_append,ext_all,ext_all]
 have h1:Ml (a.toList ++ b.toList) (o.toList ++ b.toList.drop j) (a.toList.drop i) []:=by
  refine Ml.right (by simpa using h) (by simpa using (sd_of hb).drop j) fun p hp q hq=>?_
  obtain ⟨t,t1,t2,e1⟩:=mem_drop hp
  obtain ⟨u,u1,u2,e2⟩:=mem_drop hq
  have:=hl t t2
  have:u=a.size - 1:=by omega
  subst this
  omega
 exact Ml.done (Ml.left (by simpa using h1) (by simpa using (sd_of ha).drop i) fun p hp q hq=>by cases hq)
end
section
variable {prog:Program} {w:World} {A:Around} {E:Value→Shared→Prop} {s:Shared}
noncomputable def Sg (st st':SortSt):Prop:=kindOf st'=kindOf st∧arrOf st'=arrOf st∧pendingOf st'=pendingOf st∧failedOf st'=failedOf st
theorem Sg.refl (st:SortSt):Sg st st:=⟨rfl,rfl,rfl,rfl⟩
theorem sMG_ok {st0 st:SortSt} {g:Nat} {Q:Unit→SortSt→Prop} (h0:Sg st0 st) (h:∀ st',Sg st0 st'→Q () st'):wpS (model prog w) A E s (sMG g) Q st:=by
 have e:sMG g=modify fun st=>SortSt.mk' (kindOf st) (arrOf st) (pendingOf st) g (failedOf st):=rfl
 rw [e]
 exact wpS_modify (h _ ⟨h0.1,h0.2.1,h0.2.2.1,h0.2.2.2⟩)
end
end SR
namespace SR
open PySem PyProof.Rows
section
variable {prog:Program} {w:World} {A:Around} {E:Value→Shared→Prop} {s:Shared}
structure Mid (a b o:Array Keyed) (i j:Nat):Prop where
 mg:Mg a b o i j
 ia:i + 1 < a.size
 jb:j < b.size
theorem wp_ite2 {σ α β:Type} {M:Model} {c:Prop} {dc:Decidable c} {T:β→StateT σ Sem α} {p:StateT σ Sem α} {Q:α→σ→Prop} {st:σ} {y x:β} (hp:p=T x) (h:∀ g,wpS M A E s (T g) Q st):wpS M A E s (if c then p else T y) Q st:=by
 split
 ·rw [hp]; exact h x
 ·exact h y
theorem wp_key {σ α β γ:Type} {M:Model} {c:Prop} {dc:Decidable c} {T:β→γ→StateT σ Sem α} {p:StateT σ Sem α} {Q:α→σ→Prop} {st:σ} {I:β→γ→Prop} {y1:β} {y2:γ} (hn:¬ c→I y1 y2)
  (ht:∀ o i,I o i→wpS M A E s (T o i) Q st) (hp:c→(∀ o i,I o i→wpS M A E s (T o i) Q st)→wpS M A E s p Q st):wpS M A E s (if c then p else T y1 y2) Q st:=by
 by_cases hc:c
 ·rw [if_pos hc]; exact hp hc ht
 ·rw [if_neg hc]; exact ht _ _ (hn hc)
theorem mLo_ok {a b:Array Keyed} {st:SortSt} {Q:Array Keyed→SortSt→Prop} (hk:kindOf st=oneType') (ia:IK a) (ib:IK b) (ha:Up a 0 a.size) (hb:Up b 0 b.size) (a1:1≤a.size) (b1:1≤b.size) (h0:K b 0≤K a 0) (hl:∀ t,t < b.size→K b t≤K a (a.size - 1))
  (h:∀ r st',Good a b r→Sg st st'→Q r st'):wpS (model prog w) A E s (mLo a b) Q st:=by
 rw [mLo_eq]
 dsimp only
 refine wpS_bind (wpS_lift (wpAny_rule ⟨rfl,?_⟩))
 refine wpS_bind (elem_ok (by omega) ?_)
 have m0:Mg a b #[b[0]] 0 1:=by
  have z:Mg a b #[] 0 0:=⟨by simp,List.Pairwise.nil,fun p hp=>by cases hp⟩
  exact z.pushB ha hb (by omega) (by omega) h0
 by_cases g1:1=b.size
 ·rw [if_pos (by simpa using g1)]
  exact wpS_pure (h _ _ (m0.dn ha hb (.inl g1)) (Sg.refl st))
 rw [if_neg (by simpa using g1)]
 by_cases g2:0 + 1=a.size
 ·rw [if_pos (by simpa using g2)]
  exact wpS_pure (h _ _ (m0.la ha hb g2 hl) (Sg.refl st))
 rw [if_neg (by simpa using g2)]
 refine wpS_bind (wpS_get ?_)
 have kd:∀ {st'},Sg st st'→kindOf st'=oneType':=fun z=>z.1.trans hk
 refine wpS_bind (wpS_mono (wpS_forRange (I:=fun x c st'=>Sg st st'∧∃ o i j g,c=(none,o,i,j,g)∧Mid a b o i j∧x + 1≤i + j)
  (Q:=fun c st'=>Sg st st'∧∃ r,c.1=some r∧Good a b r) ?step ?fin ⟨Sg.refl st,_,0,1,_,rfl,⟨m0,by omega,by omega⟩,by omega⟩) ?post)
 case fin=>
  rintro c st' ⟨_,o,i,j,g,_,m,hx⟩
  have:=m.ia; have:=m.jb
  omega
 case post=>
  rintro ⟨c,o,i,j,g⟩ st' ⟨z,r,e,hr⟩
  cases e
  exact wpS_pure (h r st' hr z)
 case step=>
  rintro x c st' _ hx ⟨z,o,i,j,g,rfl,m,hp⟩
  dsimp only
  refine wpS_bind (wpS_mono (wpS_forRange (I:=fun y c st'=>Sg st st'∧∃ o' i' j' ca cb,c=(none,o',i',j',ca,cb)∧Mid a b o' i' j'∧i + j + y≤i' + j')
   (Q:=fun c st'=>Sg st st'∧((∃ r,c.1=some r∧Good a b r) ∨ ∃ o' i' j' ca cb,c=(none,o',i',j',ca,cb)∧Mid a b o' i' j'∧i + j + 1≤i' + j')) ?s1 ?f1 ⟨z,o,i,j,0,0,rfl,m,by omega⟩) ?p1)
  case f1=>
   rintro c st' ⟨z,o',i',j',ca,cb,rfl,m,hy⟩
   exact ⟨z,.inr ⟨o',i',j',ca,cb,rfl,m,by omega⟩⟩
  case s1=>
   rintro y c st' _ hy ⟨z,o',i',j',ca,cb,rfl,m,hp'⟩
   dsimp only
   have mi:=m.ia
   have mj:=m.jb
   refine wpS_bind (elem_ok mj ?_)
   refine wpS_bind (elem_ok (by omega) ?_)
   refine wpS_bind (lt_ok (kd z) (ib.get mj) (ia.get (by omega)) ?_)
   dsimp only
   rw [← K_get mj,← K_get (show i' < a.size by omega)]
   by_cases hlt:K b j' < K a i'
   ·rw [if_pos (by simpa using hlt)]
    refine wpS_bind (elem_ok mj ?_)
    have m2:=m.mg.pushB ha hb (by omega) mj (Int.le_of_lt hlt)
    by_cases e1:j' + 1=b.size
    ·rw [if_pos (by simpa using e1)]
     exact wpS_pure ⟨z,.inl ⟨_,rfl,m2.dn ha hb (.inl e1)⟩⟩
    ·rw [if_neg (by simpa using e1)]
     split
     ·exact wpS_pure ⟨z,.inr ⟨_,_,_,_,_,rfl,⟨m2,by omega,by omega⟩,by omega⟩⟩
     ·exact wpS_pure ⟨z,_,_,_,_,_,rfl,⟨m2,by omega,by omega⟩,by omega⟩
   ·rw [if_neg (by simpa using hlt)]
    refine wpS_bind (elem_ok (by omega) ?_)
    have m2:=m.mg.pushA ha hb (by omega) mj (Int.not_lt.mp hlt)
    by_cases e1:i' + 1 + 1=a.size
    ·rw [if_pos (by simpa using e1)]
     exact wpS_pure ⟨z,.inl ⟨_,rfl,m2.la ha hb e1 hl⟩⟩
    ·rw [if_neg (by simpa using e1)]
     split
     ·exact wpS_pure ⟨z,.inr ⟨_,_,_,_,_,rfl,⟨m2,by omega,by omega⟩,by omega⟩⟩
     ·exact wpS_pure ⟨z,_,_,_,_,_,rfl,⟨m2,by omega,by omega⟩,by omega⟩
  case p1=>
   rintro c st' ⟨z,⟨r,e,hr⟩ | ⟨o',i',j',ca,cb,rfl,m,hp'⟩⟩
   ·obtain ⟨c,o',i',j',ca,cb⟩:=c
    cases e
    exact wpS_pure ⟨z,r,rfl,hr⟩
   dsimp only
   refine wpS_bind (wpS_lift (wpAny_rule ⟨rfl,?_⟩))
   refine wpS_bind (wpS_mono (wpS_forRange (I:=fun y c st'=>Sg st st'∧∃ o2 i2 j2 g ca cb,c=(none,o2,i2,j2,g,ca,cb)∧Mid a b o2 i2 j2∧i + j + 1≤i2 + j2)
    (Q:=fun c st'=>Sg st st'∧((∃ r,c.1=some r∧Good a b r) ∨ ∃ o2 i2 j2 g ca cb,c=(none,o2,i2,j2,g,ca,cb)∧Mid a b o2 i2 j2∧i + j + 1≤i2 + j2)) ?s2 ?f2 ⟨z,_,_,_,_,_,_,rfl,m,hp'⟩) ?p2)
   case f2=>
    rintro c st' ⟨z,o2,i2,j2,g2,ca,cb,rfl,m,hy⟩
    exact ⟨z,.inr ⟨o2,i2,j2,g2,ca,cb,rfl,m,hy⟩⟩
   case p2=>
    rintro c st' ⟨z,⟨r,e,hr⟩ | ⟨o2,i2,j2,g2,ca,cb,rfl,m,hp'⟩⟩
    ·obtain ⟨c,o2,i2,j2,g2,ca,cb⟩:=c
     cases e
     exact wpS_pure ⟨z,r,rfl,hr⟩
    dsimp only
    exact wpS_bind (sMG_ok z fun st' z=>wpS_pure ⟨z,_,_,_,_,rfl,m,by omega⟩)
   case s2=>
    rintro y c st' _ hy ⟨z,o2,i2,j2,g2,ca,cb,rfl,m,hp'⟩
    dsimp only
    have mi:=m.ia
    have mj:=m.jb
    have hm:=m.mg
    clear m
    apply wp_ite2 (y:=g2) (x:=g2 - 1)
    case hp=>rfl
    intro g3
    refine wpS_bind (sMG_ok z fun st' z=>?_)
    refine wpS_bind (elem_ok mj ?_)
    refine wpS_bind (gal_ok (kd z) ia (ib.get mj) (by omega) (by omega) (fun p q _ hpq hq=>ha p q (Nat.zero_le _) hpq (by omega)) fun k k1 k2 k3=>?_)
    dsimp only
    have q2:∀ t,t < k→i2 + t < a.size→K a (i2 + t)≤K b j2:=fun t ht _=>by
     have:=k2 t ht
     rw [K_get mj]
     simpa [bef] using this
    have q3:k < a.size - i2→K b j2≤K a (i2 + k):=fun hkk=>by
     have:=k3 k (Nat.le_refl _) hkk
     rw [K_get mj]
     exact Int.le_of_lt (by simpa [bef] using this)
    have hm':=hm.bulkA ha hb mj q2
    apply wp_key (I:=fun o3 i3=>Mg a b o3 i3 j2∧i3 + 1 < a.size∧i2≤i3∧K b j2≤K a i3) (y1:=o2) (y2:=i2)
    case hn=>
     intro hk0
     have hk1:k=0:=by omega
     subst hk1
     have hq3:=q3 (by omega)
     rw [Nat.add_zero] at hq3
     exact ⟨hm,by omega,Nat.le_refl _,hq3⟩
    case hp=>
     intro hk0 key
     split
     ·rename_i e3
      exact wpS_pure ⟨z,.inl ⟨_,rfl,hm'.la ha hb (by simpa using e3) hl⟩⟩
     ·rename_i e3
      split
      ·rename_i e4
       exact wpS_pure ⟨z,.inl ⟨_,rfl,hm'.dn ha hb (.inr (by simpa using e4))⟩⟩
      ·rename_i e4
       simp at e3 e4
       exact key _ _ ⟨hm',by omega,by omega,q3 (by omega)⟩
    intro o3 i3 y3
    obtain ⟨hm3,hi3,le3,hq3⟩:=y3
    have hi4:i3 < a.size:=by omega
    refine wpS_bind (elem_ok mj ?_)
    have m4:=hm3.pushB ha hb (by omega) mj hq3
    by_cases e4:j2 + 1=b.size
    ·rw [if_pos (by simpa using e4)]
     exact wpS_pure ⟨z,.inl ⟨_,rfl,m4.dn ha hb (.inl e4)⟩⟩
    rw [if_neg (by simpa using e4)]
    generalize o3.push b[j2]=o5 at m4 ⊢
    generalize ej:j2 + 1=j5 at m4 e4 ⊢
    refine wpS_bind (elem_ok hi4 ?_)
    refine wpS_bind (gal_ok (kd z) ib (ia.get hi4) (by omega) (by omega) (fun p q _ hpq hq=>hb p q (Nat.zero_le _) hpq (by omega)) fun u u1 u2 u3=>?_)
    dsimp only
    apply wp_key (I:=fun o4 j4=>Mg a b o4 i3 j4∧j4 < b.size∧j2 + 1≤j4∧K a i3≤K b j4) (y1:=o5) (y2:=j5)
    case hn=>
     intro hu
     have hu0:u=0:=by omega
     subst hu0
     have hq6:=u3 0 (Nat.le_refl _) (by omega)
     simp [bef] at hq6
     rw [← K_get hi4] at hq6
     exact ⟨m4,by omega,by omega,hq6⟩
    case hp=>
     intro hu key
     have hm6:=m4.bulkB (k:=u) ha hb hi4 fun t ht _=>by
      have:=u2 t ht
      rw [K_get hi4]
      exact Int.le_of_lt (by simpa [bef] using this)
     split
     ·rename_i e5
      exact wpS_pure ⟨z,.inl ⟨_,rfl,hm6.dn ha hb (.inl (by simpa using e5))⟩⟩
     ·rename_i e5
      simp at e5
      have hq6:=u3 u (Nat.le_refl _) (by omega)
      simp [bef] at hq6
      rw [← K_get hi4] at hq6
      exact key _ _ ⟨hm6,by omega,by omega,hq6⟩
    intro o4 j4 y4
    obtain ⟨hm6,hj6,le6,hq6⟩:=y4
    refine wpS_bind (elem_ok (by omega) ?_)
    have m6:=hm6.pushA ha hb (by omega) hj6 hq6
    split
    ·rename_i e6
     exact wpS_pure ⟨z,.inl ⟨_,rfl,m6.la ha hb (by simpa using e6) hl⟩⟩
    ·rename_i e6
     simp at e6
     split
     ·exact wpS_pure ⟨z,.inr ⟨_,_,_,_,_,_,rfl,⟨m6,by omega,by omega⟩,by omega⟩⟩
     ·exact wpS_pure ⟨z,_,_,_,_,_,_,rfl,⟨m6,by omega,by omega⟩,by omega⟩
end
end SR
namespace SR
open PySem PyProof.Rows
noncomputable def mHi:Array Keyed→Array Keyed→SM (Array Keyed):=sortPriv% PySem.Builtin.mergeHi
theorem mHi_eq (a b:Array Keyed):mHi a b=(do
 rule "list.sort.merge-hi"
 let tt:=a.size + b.size
 let dn (o:Array Keyed) (i j:Nat):=a.extract 0 i ++ b.extract 0 j ++ o.reverse
 let fb (o:Array Keyed) (i j:Nat):=b.extract 0 j ++ a.extract 0 i ++ o.reverse
 let mut i:=a.size - 1
 let mut j:=b.size
 let mut o:Array Keyed:=#[← elem' a i]
 if i == 0 then return dn o i j
 if j == 1 then return fb o i j
 let mut g:=gallopOf (← get)
 for _ in [0:tt] do
  let mut ca:=0
  let mut cb:=0
  for _ in [0:tt] do
   let some v ← lt' (← elem' b (j - 1)) (← elem' a (i - 1)) | return dn o i j
   if v then
    i:=i - 1; o:=o.push (← elem' a i); ca:=ca + 1; cb:=0
    if i == 0 then return dn o i j
    if ca ≥ g then break
   else
    j:=j - 1; o:=o.push (← elem' b j); cb:=cb + 1; ca:=0
    if j == 1 then return fb o i j
    if cb ≥ g then break
  rule "list.sort.gallop"
  g:=g + 1
  for _ in [0:tt] do
   if g > 1 then g:=g - 1
   sMG g
   let some z ← gal false (← elem' b (j - 1)) a 0 i (i - 1) | return dn o i j
   let k:=i - z
   ca:=k
   if k > 0 then
    o:=o ++ (a.extract z i).reverse; i:=z
    if i == 0 then return dn o i j
   j:=j - 1; o:=o.push (← elem' b j)
   if j == 1 then return fb o i j
   let some z ← gal true (← elem' a (i - 1)) b 0 j (j - 1) | return dn o i j
   let k:=j - z
   cb:=k
   if k > 0 then
    o:=o ++ (b.extract z j).reverse; j:=z
    if j == 1 then return fb o i j
    if j == 0 then return dn o i j
   i:=i - 1; o:=o.push (← elem' a i)
   if i == 0 then return dn o i j
   if ca < 7 && cb < 7 then break
  g:=g + 1
  sMG g
 unsupported "internal:list.sort.merge-bound"):=rfl
structure Mr (tot X Y o:List Keyed):Prop where
 perm:(X ++ Y ++ o).Perm tot
 sd:Sd o
 le:∀ q ∈ X ++ Y,∀ p ∈ o,ke q≤ke p
theorem Mr.swap {tot o X Y:List Keyed} (h:Mr tot X Y o):Mr tot Y X o:=⟨(List.perm_append_comm.append_right o).trans h.perm,h.sd,fun q hq=>h.le q (by rcases List.mem_append.mp hq with z | z <;> simp [z])⟩
theorem Mr.left {tot o L X Y:List Keyed} (h:Mr tot Y (X ++ L) o) (hs:Sd (X ++ L)) (hl:∀ q ∈ Y,∀ p ∈ L,ke q≤ke p):Mr tot Y X (L ++ o):=by
 obtain ⟨s1,s2,s3⟩:=List.pairwise_append.mp hs
 refine ⟨by simpa [List.append_assoc] using h.perm,List.pairwise_append.mpr ⟨s2,h.sd,fun p hp q hq=>h.le p (by simp [hp]) q hq⟩,fun q hq p hp=>?_⟩
 rcases List.mem_append.mp hp with hp | hp
 ·rcases List.mem_append.mp hq with hq | hq
  ·exact hl q hq p hp
  ·exact s3 q hq p hp
 ·refine h.le q ?_ p hp
  rcases List.mem_append.mp hq with hq | hq <;> simp [hq]
theorem Mr.right {tot o L X Y:List Keyed} (h:Mr tot (X ++ L) Y o) (hs:Sd (X ++ L)) (hl:∀ q ∈ Y,∀ p ∈ L,ke q≤ke p):Mr tot X Y (L ++ o):=(h.swap.left hs hl).swap
theorem Mr.done {tot o:List Keyed} (h:Mr tot [] [] o):o.Perm tot∧Sd o:=⟨by simpa using h.perm,h.sd⟩
noncomputable def Mt (a b o:Array Keyed) (i j:Nat):Prop:=Mr (a.toList ++ b.toList) (a.toList.take i) (b.toList.take j) o.toList.reverse
theorem Sd.take {l:List Keyed} (h:Sd l) (i:Nat):Sd (l.take i):=List.Pairwise.sublist (List.take_sublist i l) h
theorem mem_take {a:Array Keyed} {i:Nat} {p:Keyed} (h:p ∈ a.toList.take i):∃ t,t < i∧t < a.size∧ke p=K a t:=by
 obtain ⟨t,h1,h2,e⟩:=mem_cut (i:=0) (k:=i) (a:=a) (p:=p) (by simpa using h)
 exact ⟨t,h1,by omega,by simpa using e⟩
theorem take_get {a:Array Keyed} {i:Nat} (hi:i < a.size):a.toList.take (i + 1)=a.toList.take i ++ [a[i]]:=by
 rw [List.take_succ_eq_append_getElem (by simpa using hi)]
 simp
theorem take_cut {a:Array Keyed} {z i:Nat} (hz:z≤i):a.toList.take i=a.toList.take z ++ (a.toList.drop z).take (i - z):=by
 have e:i=z + (i - z):=by omega
 conv=>lhs; rw [e,List.take_add]
theorem ext_take (a:Array Keyed) (i:Nat):(a.extract 0 i).toList=a.toList.take i:=by
 rw [ext_list]; simp
section
variable {a b o:Array Keyed} {i j k z:Nat}
theorem Mt.bulkA (ha:Up a 0 a.size) (hb:Up b 0 b.size) (h:Mt a b o i j) (hj:j≤b.size) (j1:1≤j) (hz:z≤i) (hi:i≤a.size) (hk:∀ t,z≤t→t < i→K b (j - 1)≤K a t):Mt a b (o ++ (a.extract z i).reverse) z j:=by
 unfold Mt at h ⊢
 have e:(o ++ (a.extract z i).reverse).toList.reverse=(a.toList.drop z).take (i - z) ++ o.toList.reverse:=by rw [Array.toList_append,List.reverse_append,Array.toList_reverse,List.reverse_reverse,ext_list]
 rw [e]
 rw [take_cut hz] at h
 refine h.right (by rw [← take_cut hz]; exact (sd_of ha).take i) fun q hq p hp=>?_
 obtain ⟨t,t1,t2,e1⟩:=mem_cut hp
 obtain ⟨u,u1,u2,e2⟩:=mem_take hq
 have:=hk (z + t) (by omega) (by omega)
 have:=hb u (j - 1) (Nat.zero_le _) (by omega) (by omega)
 omega
theorem Mt.bulkB (ha:Up a 0 a.size) (hb:Up b 0 b.size) (h:Mt a b o i j) (hj:j≤b.size) (i1:1≤i) (hz:z≤j) (hi:i≤a.size) (hk:∀ t,z≤t→t < j→K a (i - 1)≤K b t):Mt a b (o ++ (b.extract z j).reverse) i z:=by
 unfold Mt at h ⊢
 have e:(o ++ (b.extract z j).reverse).toList.reverse=(b.toList.drop z).take (j - z) ++ o.toList.reverse:=by rw [Array.toList_append,List.reverse_append,Array.toList_reverse,List.reverse_reverse,ext_list]
 rw [e]
 rw [take_cut hz] at h
 refine h.left (by rw [← take_cut hz]; exact (sd_of hb).take j) fun q hq p hp=>?_
 obtain ⟨t,t1,t2,e1⟩:=mem_cut hp
 obtain ⟨u,u1,u2,e2⟩:=mem_take hq
 have:=hk (z + t) (by omega) (by omega)
 have:=ha u (i - 1) (Nat.zero_le _) (by omega) (by omega)
 omega
theorem Mt.pushA (ha:Up a 0 a.size) (hb:Up b 0 b.size) (h:Mt a b o (i + 1) j) (hi:i < a.size) (hk:∀ t,t < j→t < b.size→K b t≤K a i):Mt a b (o.push a[i]) i j:=by
 unfold Mt at h ⊢
 rw [take_get hi] at h
 rw [Array.toList_push,List.reverse_append]
 refine h.right (by rw [← take_get hi]; exact (sd_of ha).take _) fun q hq p hp=>?_
 rw [List.mem_singleton.mp hp]
 obtain ⟨u,u1,u2,e2⟩:=mem_take hq
 have:=hk u u1 u2
 have e:=K_get hi
 unfold ke at e2 ⊢
 omega
theorem Mt.pushB (ha:Up a 0 a.size) (hb:Up b 0 b.size) (h:Mt a b o i (j + 1)) (hj:j < b.size) (hk:∀ t,t < i→t < a.size→K a t≤K b j):Mt a b (o.push b[j]) i j:=by
 unfold Mt at h ⊢
 rw [take_get hj] at h
 rw [Array.toList_push,List.reverse_append]
 refine h.left (by rw [← take_get hj]; exact (sd_of hb).take _) fun q hq p hp=>?_
 rw [List.mem_singleton.mp hp]
 obtain ⟨u,u1,u2,e2⟩:=mem_take hq
 have:=hk u u1 u2
 have e:=K_get hj
 unfold ke at e2 ⊢
 omega
theorem Mt.dn (ha:Up a 0 a.size) (hb:Up b 0 b.size) (h:Mt a b o i j) (hz:i=0 ∨ j=0):Good a b (a.extract 0 i ++ b.extract 0 j ++ o.reverse):=by
 unfold Mt at h
 unfold Good
 rw [Array.toList_append,Array.toList_append,ext_take,ext_take,Array.toList_reverse]
 rcases hz with rfl | rfl
 ·rw [List.take_zero] at h ⊢
  rw [List.nil_append]
  exact Mr.done (Mr.left (by simpa using h) (by simpa using (sd_of hb).take j) fun q hq=>by cases hq)
 ·rw [List.take_zero] at h ⊢
  rw [List.append_nil]
  exact Mr.done (Mr.right (by simpa using h) (by simpa using (sd_of ha).take i) fun q hq=>by cases hq)
theorem Mt.fb (ha:Up a 0 a.size) (hb:Up b 0 b.size) (h:Mt a b o i j) (hj:j=1) (hl:∀ t,t < a.size→K b 0≤K a t):Good a b (b.extract 0 j ++ a.extract 0 i ++ o.reverse):=by
 subst hj
 unfold Mt at h
 unfold Good
 rw [Array.toList_append,Array.toList_append,ext_take,ext_take,Array.toList_reverse,List.append_assoc]
 have h1:Mr (a.toList ++ b.toList) [] (b.toList.take 1) (a.toList.take i ++ o.toList.reverse):=by
  refine Mr.right (by simpa using h) (by simpa using (sd_of ha).take i) fun q hq p hp=>?_
  obtain ⟨t,t1,t2,e1⟩:=mem_take hp
  obtain ⟨u,u1,u2,e2⟩:=mem_take hq
  have:=hl t t2
  have:u=0:=by omega
  subst this
  omega
 exact Mr.done (Mr.left (by simpa using h1) (by simpa using (sd_of hb).take 1) fun q hq=>by cases hq)
end
section
variable {prog:Program} {w:World} {A:Around} {E:Value→Shared→Prop} {s:Shared}
structure Mie (a b o:Array Keyed) (i j:Nat):Prop where
 mg:Mt a b o i j
 i1:1≤i
 ia:i≤a.size
 j1:2≤j
 jb:j≤b.size
set_option maxHeartbeats 2000000 in
theorem mHi_ok {a b:Array Keyed} {st:SortSt} {Q:Array Keyed→SortSt→Prop} (hk:kindOf st=oneType') (ia:IK a) (ib:IK b) (ha:Up a 0 a.size) (hb:Up b 0 b.size) (a1:1≤a.size) (b1:1≤b.size) (hl:∀ t,t < a.size→K b 0≤K a t) (h0:∀ t,t < b.size→K b t≤K a (a.size - 1))
  (h:∀ r st',Good a b r→Sg st st'→Q r st'):wpS (model prog w) A E s (mHi a b) Q st:=by
 rw [mHi_eq]
 dsimp only
 refine wpS_bind (wpS_lift (wpAny_rule ⟨rfl,?_⟩))
 refine wpS_bind (elem_ok (by omega) ?_)
 have m0:Mt a b #[a[a.size - 1]] (a.size - 1) b.size:=by
  have z:Mt a b #[] (a.size - 1 + 1) b.size:=⟨by rw [show a.size - 1 + 1=a.size by omega,List.take_of_length_le (by simp),List.take_of_length_le (by simp)]; simp,List.Pairwise.nil,fun q hq p hp=>by cases hp⟩
  exact z.pushA ha hb (by omega) fun t _ ht=>h0 t ht
 by_cases g1:a.size - 1=0
 ·rw [if_pos (by simpa using g1)]
  exact wpS_pure (h _ _ (m0.dn ha hb (.inl g1)) (Sg.refl st))
 rw [if_neg (by simpa using g1)]
 by_cases g2:b.size=1
 ·rw [if_pos (by simpa using g2)]
  exact wpS_pure (h _ _ (m0.fb ha hb g2 hl) (Sg.refl st))
 rw [if_neg (by simpa using g2)]
 refine wpS_bind (wpS_get ?_)
 have kd:∀ {st'},Sg st st'→kindOf st'=oneType':=fun z=>z.1.trans hk
 refine wpS_bind (wpS_mono (wpS_forRange (I:=fun x c st'=>Sg st st'∧∃ o i j g,c=(none,i,j,o,g)∧Mie a b o i j∧i + j + x + 1≤a.size + b.size)
  (Q:=fun c st'=>Sg st st'∧∃ r,c.1=some r∧Good a b r) ?step ?fin ⟨Sg.refl st,_,_,_,_,rfl,⟨m0,by omega,by omega,by omega,by omega⟩,by omega⟩) ?post)
 all_goals skip
 case fin=>
  rintro c st' ⟨_,o,i,j,g,_,m,hx⟩
  have:=m.i1
  omega
 case post=>
  rintro ⟨c,i,j,o,g⟩ st' ⟨z,r,e,hr⟩
  cases e
  exact wpS_pure (h r st' hr z)
 case step=>
  rintro x c st' _ hx ⟨z,o,i,j,g,rfl,m,hp⟩
  dsimp only
  refine wpS_bind (wpS_mono (wpS_forRange (I:=fun y c st'=>Sg st st'∧∃ o' i' j' ca cb,c=(none,i',j',o',ca,cb)∧Mie a b o' i' j'∧i' + j' + y≤i + j)
   (Q:=fun c st'=>Sg st st'∧((∃ r,c.1=some r∧Good a b r) ∨ ∃ o' i' j' ca cb,c=(none,i',j',o',ca,cb)∧Mie a b o' i' j'∧i' + j' + 1≤i + j)) ?s1 ?f1 ⟨z,_,_,_,0,0,rfl,m,by omega⟩) ?p1)
  case f1=>
   rintro c st' ⟨z,o',i',j',ca,cb,rfl,m,hy⟩
   exact ⟨z,.inr ⟨o',i',j',ca,cb,rfl,m,by omega⟩⟩
  case s1=>
   rintro y c st' _ hy ⟨z,o',i',j',ca,cb,rfl,⟨mm,mi1,mi,mj1,mj⟩,hp'⟩
   dsimp only
   have hj9:j' - 1 < b.size:=by omega
   have hi9:i' - 1 < a.size:=by omega
   refine wpS_bind (elem_ok hj9 ?_)
   refine wpS_bind (elem_ok hi9 ?_)
   refine wpS_bind (lt_ok (kd z) (ib.get hj9) (ia.get hi9) ?_)
   dsimp only
   rw [← K_get hj9,← K_get hi9]
   by_cases hlt:K b (j' - 1) < K a (i' - 1)
   ·rw [if_pos (by simpa using hlt)]
    refine wpS_bind (elem_ok hi9 ?_)
    have m2:=Mt.pushA (i:=i' - 1) ha hb (by rw [show i' - 1 + 1=i' by omega]; exact mm) hi9 fun t h1 h2=>Int.le_trans (hb t (j' - 1) (Nat.zero_le _) (by omega) hj9) (Int.le_of_lt hlt)
    by_cases e1:i' - 1=0
    ·rw [if_pos (by simpa using e1)]
     exact wpS_pure ⟨z,.inl ⟨_,rfl,m2.dn ha hb (.inl e1)⟩⟩
    ·rw [if_neg (by simpa using e1)]
     split
     ·exact wpS_pure ⟨z,.inr ⟨_,_,_,_,_,rfl,⟨m2,by omega,by omega,by omega,by omega⟩,by omega⟩⟩
     ·exact wpS_pure ⟨z,_,_,_,_,_,rfl,⟨m2,by omega,by omega,by omega,by omega⟩,by omega⟩
   ·rw [if_neg (by simpa using hlt)]
    refine wpS_bind (elem_ok hj9 ?_)
    have m2:=Mt.pushB (j:=j' - 1) ha hb (by rw [show j' - 1 + 1=j' by omega]; exact mm) hj9 fun t h1 h2=>Int.le_trans (ha t (i' - 1) (Nat.zero_le _) (by omega) hi9) (Int.not_lt.mp hlt)
    by_cases e1:j' - 1=1
    ·rw [if_pos (by simpa using e1)]
     exact wpS_pure ⟨z,.inl ⟨_,rfl,m2.fb ha hb e1 hl⟩⟩
    ·rw [if_neg (by simpa using e1)]
     split
     ·exact wpS_pure ⟨z,.inr ⟨_,_,_,_,_,rfl,⟨m2,by omega,by omega,by omega,by omega⟩,by omega⟩⟩
     ·exact wpS_pure ⟨z,_,_,_,_,_,rfl,⟨m2,by omega,by omega,by omega,by omega⟩,by omega⟩
  case p1=>
   rintro c st' ⟨z,⟨r,e,hr⟩ | ⟨o',i',j',ca,cb,rfl,m,hp'⟩⟩
   ·obtain ⟨c,o',i',j',ca,cb⟩:=c
    cases e
    exact wpS_pure ⟨z,r,rfl,hr⟩
   dsimp only
   refine wpS_bind (wpS_lift (wpAny_rule ⟨rfl,?_⟩))
   refine wpS_bind (wpS_mono (wpS_forRange (I:=fun y c st'=>Sg st st'∧∃ o2 i2 j2 g ca cb,c=(none,i2,j2,o2,g,ca,cb)∧Mie a b o2 i2 j2∧i2 + j2 + 1≤i + j)
    (Q:=fun c st'=>Sg st st'∧((∃ r,c.1=some r∧Good a b r) ∨ ∃ o2 i2 j2 g ca cb,c=(none,i2,j2,o2,g,ca,cb)∧Mie a b o2 i2 j2∧i2 + j2 + 1≤i + j)) ?s2 ?f2 ⟨z,_,_,_,_,_,_,rfl,m,hp'⟩) ?p2)
   case f2=>
    rintro c st' ⟨z,o2,i2,j2,g2,ca,cb,rfl,m,hy⟩
    exact ⟨z,.inr ⟨o2,i2,j2,g2,ca,cb,rfl,m,hy⟩⟩
   case p2=>
    rintro c st' ⟨z,⟨r,e,hr⟩ | ⟨o2,i2,j2,g2,ca,cb,rfl,m,hp'⟩⟩
    ·obtain ⟨c,o2,i2,j2,g2,ca,cb⟩:=c
     cases e
     exact wpS_pure ⟨z,r,rfl,hr⟩
    dsimp only
    exact wpS_bind (sMG_ok z fun st' z=>wpS_pure ⟨z,_,_,_,_,rfl,m,by omega⟩)
   case s2=>
    rintro y c st' _ hy ⟨z,o2,i2,j2,g2,ca,cb,rfl,⟨hm,mi1,mi,mj1,mj⟩,hp'⟩
    dsimp only
    have hj9:j2 - 1 < b.size:=by omega
    by_cases hg:g2 > 1
    all_goals (first | rw [if_pos hg] | rw [if_neg hg])
    all_goals
     refine wpS_bind (sMG_ok z fun st' z=>?_)
     refine wpS_bind (elem_ok hj9 ?_)
     refine wpS_bind (gal_ok (kd z) ia (ib.get hj9) (by omega) (by omega) (fun p q _ hpq hq=>ha p q (Nat.zero_le _) hpq (by omega)) fun k k1 k2 k3=>?_)
     dsimp only
     have q2:∀ t,t < k→t < a.size→K a t≤K b (j2 - 1):=fun t ht _=>by
      have:=k2 t ht
      rw [K_get hj9]
      simpa [bef] using this
     have q3:∀ t,k≤t→t < i2→K b (j2 - 1)≤K a t:=fun t h1 h2=>by
      have:=k3 t h1 h2
      rw [K_get hj9]
      exact Int.le_of_lt (by simpa [bef] using this)
     by_cases hk0:i2 - k > 0
     ·rw [if_pos hk0]
      have hm3:=hm.bulkA (z:=k) ha hb mj (by omega) k1 mi q3
      split
      ·rename_i e3
       exact wpS_pure ⟨z,.inl ⟨_,rfl,hm3.dn ha hb (.inl (by simpa using e3))⟩⟩
      ·rename_i e3
       simp at e3
       obtain ⟨i3,hi3⟩:∃ i3,i3=k:=⟨k,rfl⟩
       subst hi3
       have hq3:=q2
       refine wpS_bind (elem_ok (by omega) ?_)
       have m4:=Mt.pushB (j:=j2 - 1) ha hb (by rw [show j2 - 1 + 1=j2 by omega]; exact hm3) (by omega) hq3
       split
       ·rename_i e4
        exact wpS_pure ⟨z,.inl ⟨_,rfl,m4.fb ha hb (by simpa using e4) hl⟩⟩
       rename_i e4
       simp at e4
       have hi4:i3 - 1 < a.size:=by omega
       refine wpS_bind (elem_ok hi4 ?_)
       refine wpS_bind (gal_ok (kd z) ib (ia.get hi4) (by omega) (by omega) (fun p q _ hpq hq=>hb p q (Nat.zero_le _) hpq (by omega)) fun u u1 u2 u3=>?_)
       dsimp only
       have v2:∀ t,t < u→K b t≤K a (i3 - 1):=fun t ht=>by
        have:=u2 t ht
        rw [K_get hi4]
        exact Int.le_of_lt (by simpa [bef] using this)
       have v3:∀ t,u≤t→t < j2 - 1→K a (i3 - 1)≤K b t:=fun t h1 h2=>by
        have:=u3 t h1 h2
        rw [K_get hi4]
        simpa [bef] using this
       by_cases hu:j2 - 1 - u > 0
       ·rw [if_pos hu]
        have hm6:=m4.bulkB (z:=u) ha hb (by omega) (by omega) (by omega) (by omega) v3
        split
        ·rename_i e5
         exact wpS_pure ⟨z,.inl ⟨_,rfl,hm6.fb ha hb (by simpa using e5) hl⟩⟩
        ·rename_i e5
         split
         ·rename_i e7
          exact wpS_pure ⟨z,.inl ⟨_,rfl,hm6.dn ha hb (.inr (by simpa using e7))⟩⟩
         ·rename_i e7
          simp at e5 e7
          have hq6:∀ t,t < u→t < b.size→K b t≤K a (i3 - 1):=fun t h1 _=>v2 t h1
          refine wpS_bind (elem_ok (by omega) ?_)
          have m6:=Mt.pushA (i:=i3 - 1) ha hb (by rw [show i3 - 1 + 1=i3 by omega]; exact hm6) (by omega) hq6
          split
          ·rename_i e6
           exact wpS_pure ⟨z,.inl ⟨_,rfl,m6.dn ha hb (.inl (by simpa using e6))⟩⟩
          ·rename_i e6
           simp at e6
           split
           ·exact wpS_pure ⟨z,.inr ⟨_,_,_,_,_,_,rfl,⟨m6,by omega,by omega,by omega,by omega⟩,by omega⟩⟩
           ·exact wpS_pure ⟨z,_,_,_,_,_,_,rfl,⟨m6,by omega,by omega,by omega,by omega⟩,by omega⟩
       ·rw [if_neg hu]
        have hu0:u=j2 - 1:=by omega
        have hm6:=m4
        have hq6:∀ t,t < j2 - 1→t < b.size→K b t≤K a (i3 - 1):=fun t h1 _=>v2 t (by omega)
        refine wpS_bind (elem_ok (by omega) ?_)
        have m6:=Mt.pushA (i:=i3 - 1) ha hb (by rw [show i3 - 1 + 1=i3 by omega]; exact hm6) (by omega) hq6
        split
        ·rename_i e6
         exact wpS_pure ⟨z,.inl ⟨_,rfl,m6.dn ha hb (.inl (by simpa using e6))⟩⟩
        ·rename_i e6
         simp at e6
         split
         ·exact wpS_pure ⟨z,.inr ⟨_,_,_,_,_,_,rfl,⟨m6,by omega,by omega,by omega,by omega⟩,by omega⟩⟩
         ·exact wpS_pure ⟨z,_,_,_,_,_,_,rfl,⟨m6,by omega,by omega,by omega,by omega⟩,by omega⟩
     ·rw [if_neg hk0]
      have hk1:k=i2:=by omega
      subst hk1
      have hm3:=hm
      obtain ⟨i3,hi3⟩:∃ i3,i3=k:=⟨k,rfl⟩
      subst hi3
      have hq3:=q2
      refine wpS_bind (elem_ok (by omega) ?_)
      have m4:=Mt.pushB (j:=j2 - 1) ha hb (by rw [show j2 - 1 + 1=j2 by omega]; exact hm3) (by omega) hq3
      split
      ·rename_i e4
       exact wpS_pure ⟨z,.inl ⟨_,rfl,m4.fb ha hb (by simpa using e4) hl⟩⟩
      rename_i e4
      simp at e4
      have hi4:i3 - 1 < a.size:=by omega
      refine wpS_bind (elem_ok hi4 ?_)
      refine wpS_bind (gal_ok (kd z) ib (ia.get hi4) (by omega) (by omega) (fun p q _ hpq hq=>hb p q (Nat.zero_le _) hpq (by omega)) fun u u1 u2 u3=>?_)
      dsimp only
      have v2:∀ t,t < u→K b t≤K a (i3 - 1):=fun t ht=>by
       have:=u2 t ht
       rw [K_get hi4]
       exact Int.le_of_lt (by simpa [bef] using this)
      have v3:∀ t,u≤t→t < j2 - 1→K a (i3 - 1)≤K b t:=fun t h1 h2=>by
       have:=u3 t h1 h2
       rw [K_get hi4]
       simpa [bef] using this
      by_cases hu:j2 - 1 - u > 0
      ·rw [if_pos hu]
       have hm6:=m4.bulkB (z:=u) ha hb (by omega) (by omega) (by omega) (by omega) v3
       split
       ·rename_i e5
        exact wpS_pure ⟨z,.inl ⟨_,rfl,hm6.fb ha hb (by simpa using e5) hl⟩⟩
       ·rename_i e5
        split
        ·rename_i e7
         exact wpS_pure ⟨z,.inl ⟨_,rfl,hm6.dn ha hb (.inr (by simpa using e7))⟩⟩
        ·rename_i e7
         simp at e5 e7
         have hq6:∀ t,t < u→t < b.size→K b t≤K a (i3 - 1):=fun t h1 _=>v2 t h1
         refine wpS_bind (elem_ok (by omega) ?_)
         have m6:=Mt.pushA (i:=i3 - 1) ha hb (by rw [show i3 - 1 + 1=i3 by omega]; exact hm6) (by omega) hq6
         split
         ·rename_i e6
          exact wpS_pure ⟨z,.inl ⟨_,rfl,m6.dn ha hb (.inl (by simpa using e6))⟩⟩
         ·rename_i e6
          simp at e6
          split
          ·exact wpS_pure ⟨z,.inr ⟨_,_,_,_,_,_,rfl,⟨m6,by omega,by omega,by omega,by omega⟩,by omega⟩⟩
          ·exact wpS_pure ⟨z,_,_,_,_,_,_,rfl,⟨m6,by omega,by omega,by omega,by omega⟩,by omega⟩
      ·rw [if_neg hu]
       have hu0:u=j2 - 1:=by omega
       have hm6:=m4
       have hq6:∀ t,t < j2 - 1→t < b.size→K b t≤K a (i3 - 1):=fun t h1 _=>v2 t (by omega)
       refine wpS_bind (elem_ok (by omega) ?_)
       have m6:=Mt.pushA (i:=i3 - 1) ha hb (by rw [show i3 - 1 + 1=i3 by omega]; exact hm6) (by omega) hq6
       split
       ·rename_i e6
        exact wpS_pure ⟨z,.inl ⟨_,rfl,m6.dn ha hb (.inl (by simpa using e6))⟩⟩
       ·rename_i e6
        simp at e6
        split
        ·exact wpS_pure ⟨z,.inr ⟨_,_,_,_,_,_,rfl,⟨m6,by omega,by omega,by omega,by omega⟩,by omega⟩⟩
        ·exact wpS_pure ⟨z,_,_,_,_,_,_,rfl,⟨m6,by omega,by omega,by omega,by omega⟩,by omega⟩
end
end SR
namespace SR
open PySem PyProof.Rows
structure SB (a0 A0:Array Keyed) (P:Array (Nat × Nat × Nat)) (lo:Nat) (st:SortSt):Prop where
 perm:(arrOf st).Perm a0
 kind:kindOf st=oneType'
 failed:failedOf st=none
 pend:pendingOf st=P
 low:∀ t,t < lo→K (arrOf st) t=K A0 t
theorem SB.size {a0 A0:Array Keyed} {P:Array (Nat × Nat × Nat)} {lo:Nat} {st:SortSt} (h:SB a0 A0 P lo st):(arrOf st).size=a0.size:=h.perm.size_eq
theorem ik_perm {a b:Array Keyed} (h:IK b) (p:a.Perm b):IK a:=fun x hx=>h x ((Array.perm_iff_toList_perm.mp p).mem_iff.mp hx)
theorem SB.arr {a0 A0:Array Keyed} {P:Array (Nat × Nat × Nat)} {lo:Nat} {st:SortSt} (h:SB a0 A0 P lo st) {xs:Array Keyed} (p:xs.Perm (arrOf st)) (hl:∀ t,t < lo→K xs t=K (arrOf st) t):SB a0 A0 P lo (setArr st xs):=
 ⟨p.trans h.perm,h.kind,h.failed,h.pend,fun t ht=>(hl t ht).trans (h.low t ht)⟩
section
variable {prog:Program} {w:World} {A:Around} {E:Value→Shared→Prop} {s:Shared} {a0 A0:Array Keyed} {P:Array (Nat × Nat × Nat)} {lo:Nat}
theorem at_ok {st:SortSt} {i j:Nat} {Q:Option Bool→SortSt→Prop} (hB:SB a0 A0 P lo st) (h0:IK a0) (hi:i < a0.size) (hj:j < a0.size) (h:Q (some (decide (K (arrOf st) i < K (arrOf st) j))) st):wpS (model prog w) A E s (ltAt' i j) Q st:=by
 have h1:i < (arrOf st).size:=by rw [hB.size]; exact hi
 have h2:j < (arrOf st).size:=by rw [hB.size]; exact hj
 have ik:=ik_perm h0 hB.perm
 rw [ltAt'_eq]
 refine wpS_bind (wpS_get ?_)
 refine wpS_bind (elem_ok h1 (wpS_bind (elem_ok h2 (lt_ok hB.kind (ik.get h1) (ik.get h2) ?_))))
 rw [K_get h1,K_get h2] at h
 exact h
theorem rev_ok {st:SortSt} {i j:Nat} {Q:Unit→SortSt→Prop} (hB:SB a0 A0 P lo st) (hi:lo≤i) (hj:j≤a0.size) (h:SB a0 A0 P lo (setArr st (mirror (arrOf st) i j ((j - i) / 2)))→Q () (setArr st (mirror (arrOf st) i j ((j - i) / 2)))):wpS (model prog w) A E s (reverseSlice' i j) Q st:=by
 rw [reverseSlice'_eq]
 refine wpS_modify (h (hB.arr (mirror_perm _ _ _ _) fun t ht=>?_))
 rw [K_mirror (by rw [hB.size]; exact hj),if_neg (by omega)]
theorem bins_ok {st:SortSt} {n ok:Nat} {Q:Bool→SortSt→Prop} (h0:IK a0) (hn:lo + n≤a0.size) (hB:SB a0 A0 P lo st) (hs:Up (arrOf st) lo (lo + ok)) (hok:ok≤n)
  (h:∀ st',SB a0 A0 P lo st'→Up (arrOf st') lo (lo + n)→Q true st'):wpS (model prog w) A E s (binarySort' lo n ok) Q st:=by
 rw [binarySort'_eq]
 refine wpS_bind (wpS_mono (wpS_forRange (I:=fun k c st'=>c=(none,())∧SB a0 A0 P lo st'∧Up (arrOf st') lo (lo + min k n))
  (Q:=fun c st'=>c=(none,())∧SB a0 A0 P lo st'∧Up (arrOf st') lo (lo + n)) ?ste ?fi ⟨rfl,hB,?ini⟩) ?po)
 case ini=>
  intro i j h1 h2 h3
  by_cases z:ok=0
  ·have:i=j:=by omega
   subst this; exact Int.le_refl _
  ·exact hs i j h1 h2 (by omega)
 case po=>
  rintro c st' ⟨rfl,b1,b2⟩
  exact wpS_pure (h st' b1 b2)
 case fi=>
  rintro c st' ⟨hc,b1,b2⟩
  rw [show min (max (max ok 1) n) n=n by omega] at b2
  exact ⟨hc,b1,b2⟩
 case ste=>
  rintro k c st' hak hkn ⟨rfl,b1,b2⟩
  rw [show min k n=k by omega] at b2
  refine wpS_bind (wpS_mono (wpS_forRange (I:=fun x c st2=>st2=st'∧∃ l r,c=(none,l,r)∧l≤r∧r≤k∧r - l≤k - x∧(∀ i,lo≤i→i < lo + l→K (arrOf st') i≤K (arrOf st') (lo + k))∧(∀ i,lo + r≤i→i < lo + k→K (arrOf st') (lo + k) < K (arrOf st') i))
   (Q:=fun c st2=>st2=st'∧∃ l r,c=(none,l,r)∧l≤k∧(∀ i,lo≤i→i < lo + l→K (arrOf st') i≤K (arrOf st') (lo + k))∧(∀ i,lo + l≤i→i < lo + k→K (arrOf st') (lo + k) < K (arrOf st') i)) ?a ?b ⟨rfl,0,k,rfl,by omega,by omega,by omega,fun i _ hi=>by omega,fun i _ _=>by omega⟩) ?c)
  case b=>
   rintro c st2 ⟨rfl,l,r,rfl,c1,c2,c3,c4,c5⟩
   have:l=r:=by omega
   subst this
   exact ⟨rfl,l,l,rfl,c2,c4,c5⟩
  case a=>
   rintro x c st2 _ hx ⟨rfl,l,r,rfl,c1,c2,c3,c4,c5⟩
   dsimp only
   by_cases g:l ≥ r
   ·rw [if_pos g]
    have:l=r:=by omega
    subst this
    exact wpS_pure ⟨rfl,l,l,rfl,c2,c4,c5⟩
   ·rw [if_neg g]
    refine wpS_bind (at_ok b1 h0 (by omega) (by omega) ?_)
    by_cases hl:K (arrOf st2) (lo + k) < K (arrOf st2) (lo + (l + r) / 2)
    ·simp only [hl,decide_true,if_true]
     exact wpS_pure ⟨rfl,l,(l + r) / 2,rfl,by omega,by omega,by omega,c4,fun i h1 h2=>Int.lt_of_lt_of_le hl (b2 _ _ (by omega) h1 h2)⟩
    ·simp only [hl,decide_false,Bool.false_eq_true,if_false]
     exact wpS_pure ⟨rfl,(l + r) / 2 + 1,r,rfl,by omega,by omega,by omega,fun i h1 h2=>Int.le_trans (b2 i (lo + (l + r) / 2) h1 (by omega) (by omega)) (Int.not_lt.mp hl),c5⟩
  case c=>
   rintro c st2 ⟨rfl,l,r,rfl,c2,c4,c5⟩
   show wpS _ _ _ _ (do moveDown' (lo + k) (lo + l); pure (ForInStep.yield (none,()))) _ _
   rw [moveDown'_eq]
   have hks:lo + k < (arrOf st2).size:=by rw [b1.size]; omega
   have kb:=fun t=>K_bubble (xs:=arrOf st2) (src:=lo + k) (d:=lo + k - (lo + l)) hks (by omega) t
   rw [show lo + k - (lo + k - (lo + l))=lo + l by omega] at kb
   refine wpS_bind (wpS_modify (wpS_pure ⟨rfl,b1.arr (bubble_perm _ _ _) fun t ht=>?_,fun i j h1 h2 h3=>?_⟩))
   ·rw [kb,if_neg (by omega),if_neg (by omega)]
   ·rw [show min (k + 1) n=k + 1 by omega] at h3
    show K (bubble _ _ _) i≤K (bubble _ _ _) j
    rw [kb,kb]
    repeat' split
    all_goals first
     | (exfalso; omega)
     | exact Int.le_refl _
     | exact c4 _ (by omega) (by omega)
     | exact Int.le_of_lt (c5 _ (by omega) (by omega))
     | exact b2 _ _ (by omega) (by omega) (by omega)
end
end SR
namespace SR
open PySem PyProof.Rows
theorem mir {xs:Array Keyed} {i j:Nat} (hj:j≤xs.size) (h:∀ k,i≤k→k < j→K xs k=K xs (j - 1)) (k:Nat):K (mirror xs i j ((j - i) / 2)) k=K xs k:=by
 rw [K_mirror hj]
 split
 ·rw [h _ (by omega) (by omega),h k (by omega) (by omega)]
 ·rfl
section
variable {prog:Program} {w:World} {A:Around} {E:Value→Shared→Prop} {s:Shared} {a0 A0:Array Keyed} {P:Array (Nat × Nat × Nat)} {lo:Nat}
noncomputable abbrev AS:=Option (Option Nat) × Nat
theorem asc_ok {st:SortSt} {a nrem:Nat} {f:Nat→AS→SM (ForInStep AS)} {Q:AS→SortSt→Prop} (h0:IK a0) (hn:lo + nrem≤a0.size) (ha:1≤a) (han:a≤nrem) (hB:SB a0 A0 P lo st) (hs:Up (arrOf st) lo (lo + a))
  (hf:∀ x n (R:ForInStep AS→SortSt→Prop),wpS (model prog w) A E s (ltAt' (lo + n) (lo + n - 1)) (fun r st'=>∃ b,r=some b∧R (if b=true then .done (none,n) else .yield (none,n + 1)) st') st→wpS (model prog w) A E s (f x (none,n)) R st)
  (h:∀ n,a≤n→n≤nrem→Up (arrOf st) lo (lo + n)→(n=nrem ∨ K (arrOf st) (lo + n) < K (arrOf st) (lo + n - 1))→Q (none,n) st):wpS (model prog w) A E s (forIn [a:nrem] ((none,a):AS) f) Q st:=by
 refine wpS_forRange (I:=fun x c st'=>st'=st∧c=(none,x)∧Up (arrOf st) lo (lo + x)) ?a ?b ⟨rfl,rfl,hs⟩
 case b=>
  rintro c st' ⟨rfl,rfl,b1⟩
  rw [show max a nrem=nrem by omega] at b1 ⊢
  exact h nrem han (Nat.le_refl _) b1 (.inl rfl)
 case a=>
  rintro x c st' h1 h2 ⟨rfl,rfl,b1⟩
  refine hf _ _ _ (at_ok hB h0 (by omega) (by omega) ⟨_,rfl,?_⟩)
  by_cases hl:K (arrOf st') (lo + x) < K (arrOf st') (lo + x - 1)
  ·simp only [hl,decide_true,if_true]
   exact h x h1 (by omega) b1 (.inr hl)
  ·simp only [hl,decide_false,Bool.false_eq_true,if_false]
   refine ⟨trivial,trivial,fun i j i1 i2 i3=>?_⟩
   by_cases hj:j < lo + x
   ·exact b1 i j i1 i2 hj
   ·have hj':j=lo + x:=by omega
    subst hj'
    by_cases e:i=lo + x
    ·subst e; exact Int.le_refl _
    ·exact Int.le_trans (b1 i (lo + x - 1) i1 (by omega) (by omega)) (Int.not_lt.mp hl)
set_option maxHeartbeats 2000000 in
theorem run_ok {st:SortSt} {nrem:Nat} {Q:Option Nat→SortSt→Prop} (h0:IK a0) (hn:lo + nrem≤a0.size) (h1:1≤nrem) (hB:SB a0 A0 P lo st)
  (h:∀ m st',SB a0 A0 P lo st'→1≤m→m≤nrem→Up (arrOf st') lo (lo + m)→Q (some m) st'):wpS (model prog w) A E s (countRun' lo nrem) Q st:=by
 rw [countRun'_eq]
 dsimp only
 refine wpS_bind (asc_ok h0 hn (Nat.le_refl 1) h1 hB (fun i j i1 i2 i3=>by rw [show i=j by omega]; exact Int.le_refl _) ?hf fun n n1 n2 u ho=>?_)
 case hf=>
  intro x n R hR
  dsimp only
  refine wpS_bind (wpS_mono hR ?_)
  rintro r st' ⟨b,rfl,hb⟩
  cases b
  ·exact wpS_pure hb
  ·exact wpS_pure hb
 dsimp only
 by_cases e:n=nrem
 ·rw [if_pos (by simpa using e)]
  exact wpS_pure (h n st hB n1 n2 u)
 rw [if_neg (by simpa using e)]
 have hlt:K (arrOf st) (lo + n) < K (arrOf st) (lo + n - 1):=ho.resolve_left e
 by_cases g:n > 1
 ·rw [if_pos g]
  refine wpS_bind (at_ok hB h0 (by omega) (by omega) ?_)
  by_cases hr:K (arrOf st) lo < K (arrOf st) (lo + n - 1)
  ·simp only [hr,decide_true,if_true]
   exact wpS_pure (h n st hB n1 n2 u)
  ·simp only [hr,decide_false,Bool.false_eq_true,if_false]
   have hsz:lo + n≤(arrOf st).size:=by rw [hB.size]; omega
   have all:∀ k,lo≤k→k < lo + n→K (arrOf st) k=K (arrOf st) (lo + n - 1):=fun k k1 k2=>by
    have a1:=u lo k (Nat.le_refl _) k1 k2
    have a2:=u k (lo + n - 1) k1 (by omega) (by omega)
    omega
   refine wpS_bind (rev_ok hB (Nat.le_refl _) (by omega) fun hB1=>?_)
   have hD1:Dn (mirror (arrOf st) lo (lo + n) ((lo + n - lo) / 2)) lo (lo + (n + 1)):=fun i j i1 i2 i3=>by
    rw [mir hsz all,mir hsz all]
    by_cases hj:j < lo + n
    ·rw [all i i1 (by omega),all j (by omega) hj]; exact Int.le_refl _
    ·have hj':j=lo + n:=by omega
     subst hj'
     by_cases e:i=lo + n
     ·subst e; exact Int.le_refl _
     ·rw [all i i1 (by omega)]; exact Int.le_of_lt hlt
   refine wpS_bind (wpS_lift (wpAny_rule ⟨rfl,?_⟩))
   refine wpS_bind (wpS_mono (wpS_forRange (I:=fun x c st'=>∃ neq,c=(none,x,neq)∧SB a0 A0 P lo st'∧Dn (arrOf st') lo (lo + x)∧neq + 1≤x∧(∀ i,lo + x - (neq + 1)≤i→i < lo + x→K (arrOf st') i=K (arrOf st') (lo + x - 1)))
    (Q:=fun c st'=>∃ m neq,c=(none,m,neq)∧n + 1≤m∧m≤nrem∧SB a0 A0 P lo st'∧Dn (arrOf st') lo (lo + m)∧neq + 1≤m∧(∀ i,lo + m - (neq + 1)≤i→i < lo + m→K (arrOf st') i=K (arrOf st') (lo + m - 1))) ?a ?b ⟨0,rfl,hB1,hD1,by omega,fun i i1 i2=>by congr 1; omega⟩) ?c)
   case b=>
    rintro c st' ⟨neq,rfl,b1,b2,b3,b4⟩
    rw [show max (n + 1) nrem=nrem by omega] at b2 b3 b4 ⊢
    exact ⟨nrem,neq,rfl,by omega,Nat.le_refl _,b1,b2,b3,b4⟩
   case a=>
    rintro x c st' x1 x2 ⟨neq,rfl,b1,b2,b3,b4⟩
    dsimp only
    have hsz:lo + x≤(arrOf st').size:=by rw [b1.size]; omega
    refine wpS_bind (at_ok b1 h0 (by omega) (by omega) ?_)
    have more:∀ xs:Array Keyed,(∀ k,K xs k=K (arrOf st') k)→K (arrOf st') (lo + x)≤K (arrOf st') (lo + x - 1)→Dn xs lo (lo + (x + 1)):=by
     intro xs hk hle i j i1 i2 i3
     rw [hk,hk]
     by_cases hj:j < lo + x
     ·exact b2 i j i1 i2 hj
     ·have hj':j=lo + x:=by omega
      subst hj'
      by_cases e:i=lo + x
      ·subst e; exact Int.le_refl _
      ·exact Int.le_trans hle (b2 i (lo + x - 1) i1 (by omega) (by omega))
    by_cases hl:K (arrOf st') (lo + x) < K (arrOf st') (lo + x - 1)
    ·simp only [hl,decide_true,if_true]
     by_cases hq:neq > 0
     ·rw [if_pos hq]
      refine wpS_bind (rev_ok b1 (by omega) (by omega) fun b9=>wpS_pure ⟨0,rfl,b9,more _ (mir hsz b4) (Int.le_of_lt hl),by omega,fun i i1 i2=>by congr 1; omega⟩)
     ·rw [if_neg hq]
      exact wpS_pure ⟨0,rfl,b1,more _ (fun _=>rfl) (Int.le_of_lt hl),by omega,fun i i1 i2=>by congr 1; omega⟩
    ·simp only [hl,decide_false,Bool.false_eq_true,if_false]
     refine wpS_bind (at_ok b1 h0 (by omega) (by omega) ?_)
     by_cases hg:K (arrOf st') (lo + x - 1) < K (arrOf st') (lo + x)
     ·simp only [hg,decide_true,if_true]
      exact wpS_pure ⟨x,neq,rfl,x1,by omega,b1,b2,b3,b4⟩
     ·simp only [hg,decide_false,Bool.false_eq_true,if_false]
      have he:K (arrOf st') (lo + x)=K (arrOf st') (lo + x - 1):=by omega
      refine wpS_pure ⟨neq + 1,rfl,b1,more _ (fun _=>rfl) (by omega),by omega,fun i i1 i2=>?_⟩
      rw [show lo + (x + 1) - 1=lo + x by omega]
      by_cases e:i=lo + x
      ·subst e; rfl
      ·rw [he]; exact b4 i (by omega) (by omega)
   case c=>
    rintro c st' ⟨m,neq,rfl,m1,m2,b1,b2,b3,b4⟩
    dsimp only
    have hsz:lo + m≤(arrOf st').size:=by rw [b1.size]; omega
    have last:∀ st2,SB a0 A0 P lo st2→Dn (arrOf st2) lo (lo + m)→Up (mirror (arrOf st2) lo (lo + m) ((lo + m - lo) / 2)) lo (lo + m):=fun st2 c1 c2 i j i1 i2 i3=>by
     rw [K_mirror (by rw [c1.size]; omega),K_mirror (by rw [c1.size]; omega),if_pos (by omega),if_pos (by omega)]
     exact c2 _ _ (by omega) (by omega) (by omega)
    by_cases hq:neq > 0
    ·rw [if_pos hq]
     refine wpS_bind (rev_ok b1 (by omega) (by omega) fun b9=>?_)
     have d9:Dn (mirror (arrOf st') (lo + m - (neq + 1)) (lo + m) ((lo + m - (lo + m - (neq + 1))) / 2)) lo (lo + m):=fun i j i1 i2 i3=>by
      rw [mir hsz b4,mir hsz b4]; exact b2 i j i1 i2 i3
     refine wpS_bind (rev_ok b9 (Nat.le_refl _) (by omega) fun b8=>?_)
     refine wpS_bind (asc_ok h0 hn (by omega) m2 b8 (last _ b9 d9) ?_ fun n2 n1 n3 u _=>wpS_pure (h n2 _ b8 (by omega) n3 u))
     intro x n R hR
     dsimp only
     refine wpS_bind (wpS_mono hR ?_)
     rintro r st' ⟨b,rfl,hb⟩
     cases b
     ·exact wpS_pure hb
     ·exact wpS_pure hb
    ·rw [if_neg hq]
     refine wpS_bind (rev_ok b1 (Nat.le_refl _) (by omega) fun b8=>?_)
     refine wpS_bind (asc_ok h0 hn (by omega) m2 b8 (last _ b1 b2) ?_ fun n2 n1 n3 u _=>wpS_pure (h n2 _ b8 (by omega) n3 u))
     intro x n R hR
     dsimp only
     refine wpS_bind (wpS_mono hR ?_)
     rintro r st' ⟨b,rfl,hb⟩
     cases b
     ·exact wpS_pure hb
     ·exact wpS_pure hb
 ·rw [if_neg g]
  have hn1:n=1:=by omega
  have hB1:=hB
  have hD1:Dn (arrOf st) lo (lo + (n + 1)):=fun i j i1 i2 i3=>by
   by_cases e:i=j
   ·subst e; exact Int.le_refl _
   ·have e1:i=lo + n - 1:=by omega
    have e2:j=lo + n:=by omega
    rw [e1,e2]
    exact Int.le_of_lt hlt
  refine wpS_bind (wpS_lift (wpAny_rule ⟨rfl,?_⟩))
  refine wpS_bind (wpS_mono (wpS_forRange (I:=fun x c st'=>∃ neq,c=(none,x,neq)∧SB a0 A0 P lo st'∧Dn (arrOf st') lo (lo + x)∧neq + 1≤x∧(∀ i,lo + x - (neq + 1)≤i→i < lo + x→K (arrOf st') i=K (arrOf st') (lo + x - 1)))
   (Q:=fun c st'=>∃ m neq,c=(none,m,neq)∧n + 1≤m∧m≤nrem∧SB a0 A0 P lo st'∧Dn (arrOf st') lo (lo + m)∧neq + 1≤m∧(∀ i,lo + m - (neq + 1)≤i→i < lo + m→K (arrOf st') i=K (arrOf st') (lo + m - 1))) ?a ?b ⟨0,rfl,hB1,hD1,by omega,fun i i1 i2=>by congr 1; omega⟩) ?c)
  case b=>
   rintro c st' ⟨neq,rfl,b1,b2,b3,b4⟩
   rw [show max (n + 1) nrem=nrem by omega] at b2 b3 b4 ⊢
   exact ⟨nrem,neq,rfl,by omega,Nat.le_refl _,b1,b2,b3,b4⟩
  case a=>
   rintro x c st' x1 x2 ⟨neq,rfl,b1,b2,b3,b4⟩
   dsimp only
   have hsz:lo + x≤(arrOf st').size:=by rw [b1.size]; omega
   refine wpS_bind (at_ok b1 h0 (by omega) (by omega) ?_)
   have more:∀ xs:Array Keyed,(∀ k,K xs k=K (arrOf st') k)→K (arrOf st') (lo + x)≤K (arrOf st') (lo + x - 1)→Dn xs lo (lo + (x + 1)):=by
    intro xs hk hle i j i1 i2 i3
    rw [hk,hk]
    by_cases hj:j < lo + x
    ·exact b2 i j i1 i2 hj
    ·have hj':j=lo + x:=by omega
     subst hj'
     by_cases e:i=lo + x
     ·subst e; exact Int.le_refl _
     ·exact Int.le_trans hle (b2 i (lo + x - 1) i1 (by omega) (by omega))
   by_cases hl:K (arrOf st') (lo + x) < K (arrOf st') (lo + x - 1)
   ·simp only [hl,decide_true,if_true]
    by_cases hq:neq > 0
    ·rw [if_pos hq]
     refine wpS_bind (rev_ok b1 (by omega) (by omega) fun b9=>wpS_pure ⟨0,rfl,b9,more _ (mir hsz b4) (Int.le_of_lt hl),by omega,fun i i1 i2=>by congr 1; omega⟩)
    ·rw [if_neg hq]
     exact wpS_pure ⟨0,rfl,b1,more _ (fun _=>rfl) (Int.le_of_lt hl),by omega,fun i i1 i2=>by congr 1; omega⟩
   ·simp only [hl,decide_false,Bool.false_eq_true,if_false]
    refine wpS_bind (at_ok b1 h0 (by omega) (by omega) ?_)
    by_cases hg:K (arrOf st') (lo + x - 1) < K (arrOf st') (lo + x)
    ·simp only [hg,decide_true,if_true]
     exact wpS_pure ⟨x,neq,rfl,x1,by omega,b1,b2,b3,b4⟩
    ·simp only [hg,decide_false,Bool.false_eq_true,if_false]
     have he:K (arrOf st') (lo + x)=K (arrOf st') (lo + x - 1):=by omega
     refine wpS_pure ⟨neq + 1,rfl,b1,more _ (fun _=>rfl) (by omega),by omega,fun i i1 i2=>?_⟩
     rw [show lo + (x + 1) - 1=lo + x by omega]
     by_cases e:i=lo + x
     ·subst e; rfl
     ·rw [he]; exact b4 i (by omega) (by omega)
  case c=>
   rintro c st' ⟨m,neq,rfl,m1,m2,b1,b2,b3,b4⟩
   dsimp only
   have hsz:lo + m≤(arrOf st').size:=by rw [b1.size]; omega
   have last:∀ st2,SB a0 A0 P lo st2→Dn (arrOf st2) lo (lo + m)→Up (mirror (arrOf st2) lo (lo + m) ((lo + m - lo) / 2)) lo (lo + m):=fun st2 c1 c2 i j i1 i2 i3=>by
    rw [K_mirror (by rw [c1.size]; omega),K_mirror (by rw [c1.size]; omega),if_pos (by omega),if_pos (by omega)]
    exact c2 _ _ (by omega) (by omega) (by omega)
   by_cases hq:neq > 0
   ·rw [if_pos hq]
    refine wpS_bind (rev_ok b1 (by omega) (by omega) fun b9=>?_)
    have d9:Dn (mirror (arrOf st') (lo + m - (neq + 1)) (lo + m) ((lo + m - (lo + m - (neq + 1))) / 2)) lo (lo + m):=fun i j i1 i2 i3=>by
     rw [mir hsz b4,mir hsz b4]; exact b2 i j i1 i2 i3
    refine wpS_bind (rev_ok b9 (Nat.le_refl _) (by omega) fun b8=>?_)
    refine wpS_bind (asc_ok h0 hn (by omega) m2 b8 (last _ b9 d9) ?_ fun n2 n1 n3 u _=>wpS_pure (h n2 _ b8 (by omega) n3 u))
    intro x n R hR
    dsimp only
    refine wpS_bind (wpS_mono hR ?_)
    rintro r st' ⟨b,rfl,hb⟩
    cases b
    ·exact wpS_pure hb
    ·exact wpS_pure hb
   ·rw [if_neg hq]
    refine wpS_bind (rev_ok b1 (Nat.le_refl _) (by omega) fun b8=>?_)
    refine wpS_bind (asc_ok h0 hn (by omega) m2 b8 (last _ b1 b2) ?_ fun n2 n1 n3 u _=>wpS_pure (h n2 _ b8 (by omega) n3 u))
    intro x n R hR
    dsimp only
    refine wpS_bind (wpS_mono hR ?_)
    rintro r st' ⟨b,rfl,hb⟩
    cases b
    ·exact wpS_pure hb
    ·exact wpS_pure hb
end
end SR
namespace SR
open PySem PyProof.Rows
noncomputable def wr (xs:Array Keyed) (z:Nat) (l:List (Keyed × Nat)):Array Keyed:=l.foldl (fun a (x:Keyed × Nat)=>match x with | (p,j)=>a.setIfInBounds (z + j) p) xs
theorem wr_get (z:Nat):∀ (m:List Keyed) (k:Nat) (xs:Array Keyed),z + k + m.length≤xs.size→∀ t,(wr xs z (m.zipIdx k))[t]?=if z + k≤t∧t < z + k + m.length then m[t - (z + k)]? else xs[t]?
 | [],k,xs,_,t=>by
  rw [if_neg (by rw [List.length_nil]; omega)]
  rfl
 | p :: m,k,xs,h,t=>by
  rw [List.length_cons] at h
  show (wr (xs.setIfInBounds (z + k) p) z (m.zipIdx (k + 1)))[t]?=_
  rw [wr_get z m (k + 1) _ (by rw [Array.size_setIfInBounds]; omega),List.length_cons,Array.getElem?_setIfInBounds]
  by_cases h1:z + (k + 1)≤t∧t < z + (k + 1) + m.length
  ·rw [if_pos h1,if_pos (by omega)]
   obtain ⟨d,hd⟩:∃ d,t - (z + k)=d + 1:=⟨t - (z + k) - 1,by omega⟩
   rw [hd,List.getElem?_cons_succ]
   congr 1
   omega
  ·rw [if_neg h1]
   by_cases h2:z + k=t
   ·rw [if_pos h2,if_pos (by omega),if_pos (by omega)]
    rw [show t - (z + k)=0 by omega]
    rfl
   ·rw [if_neg h2,if_neg (by omega)]
theorem wr_list {xs:Array Keyed} {z:Nat} {m:List Keyed} (h:z + m.length≤xs.size):(wr xs z m.zipIdx).toList=xs.toList.take z ++ (m ++ xs.toList.drop (z + m.length)):=by
 refine List.ext_getElem? fun t=>?_
 rw [Array.getElem?_toList,wr_get z m 0 xs (by omega)]
 have hlt:(xs.toList.take z).length=z:=by rw [List.length_take]; simp; omega
 by_cases h1:t < z
 ·rw [if_neg (by omega),List.getElem?_append_left (by omega),List.getElem?_take_of_lt h1,Array.getElem?_toList]
 ·rw [List.getElem?_append_right (by omega),hlt]
  by_cases h2:t < z + m.length
  ·rw [if_pos (by omega),List.getElem?_append_left (by omega)]
   rfl
  ·rw [if_neg (by omega),List.getElem?_append_right (by omega),List.getElem?_drop,Array.getElem?_toList]
   congr 1
   omega
noncomputable def Ch (xs:Array Keyed):Nat→List (Nat × Nat × Nat)→Nat→Prop
 | z,[],y=>z=y
 | z,(s,n,_) :: r,y=>s=z∧1≤n∧Up xs z (z + n)∧Ch xs (z + n) r y
theorem Ch.le {xs:Array Keyed}:∀ {l:List (Nat × Nat × Nat)} {z y:Nat},Ch xs z l y→z + l.length≤y
 | [],z,y,h=>by unfold Ch at h; simp; omega
 | (s,n,p) :: r,z,y,h=>by
  obtain ⟨_,h1,_,h2⟩:=h
  have:=h2.le
  rw [List.length_cons]
  omega
theorem Ch.app {xs:Array Keyed}:∀ {l r:List (Nat × Nat × Nat)} {z y:Nat},Ch xs z (l ++ r) y↔∃ m,Ch xs z l m∧Ch xs m r y
 | [],r,z,y=>⟨fun h=>⟨z,rfl,h⟩,fun ⟨m,h1,h2⟩=>by unfold Ch at h1; subst h1; exact h2⟩
 | (s,n,p) :: l,r,z,y=>by
  constructor
  ·rintro ⟨h1,h2,h3,h4⟩
   obtain ⟨m,h5,h6⟩:=Ch.app.mp h4
   exact ⟨m,⟨h1,h2,h3,h5⟩,h6⟩
  ·rintro ⟨m,⟨h1,h2,h3,h5⟩,h6⟩
   exact ⟨h1,h2,h3,Ch.app.mpr ⟨m,h5,h6⟩⟩
theorem Ch.like {xs ys:Array Keyed}:∀ {l:List (Nat × Nat × Nat)} {z y:Nat},Ch xs z l y→(∀ t,z≤t→t < y→K ys t=K xs t)→Ch ys z l y
 | [],z,y,h,_=>h
 | (s,n,p) :: r,z,y,⟨h1,h2,h3,h4⟩,hk=>by
  have:=h4.le
  refine ⟨h1,h2,fun i j i1 i2 i3=>?_,h4.like fun t t1 t2=>hk t (by omega) t2⟩
  rw [hk i i1 (by omega),hk j (by omega) (by omega)]
  exact h3 i j i1 i2 i3
theorem Ch.pow {xs:Array Keyed} (f:Nat × Nat × Nat→Nat × Nat × Nat) (hf:∀ s n p,∃ q,f (s,n,p)=(s,n,q)):∀ {l:List (Nat × Nat × Nat)} {z y:Nat} (k:Nat),Ch xs z l y→Ch xs z (l.modify k f) y
 | [],z,y,k,h=>by simpa using h
 | (s,n,p) :: r,z,y,0,⟨h1,h2,h3,h4⟩=>by
  obtain ⟨q,e⟩:=hf s n p
  rw [List.modify_zero_cons,e]
  exact ⟨h1,h2,h3,h4⟩
 | (s,n,p) :: r,z,y,k + 1,⟨h1,h2,h3,h4⟩=>by
  rw [List.modify_succ_cons]
  exact ⟨h1,h2,h3,Ch.pow f hf k h4⟩
structure Bs (a0:Array Keyed) (st:SortSt):Prop where
 perm:(arrOf st).Perm a0
 kind:kindOf st=oneType'
 failed:failedOf st=none
theorem mergeAt_eq (i:Nat):mergeAt' i=(do
 let s ← get
 let (some (sa,na,pw),some (sb,nb,_)):=((pendingOf s)[i]?,(pendingOf s)[i + 1]?) | unsupported "internal:list.sort.pending"
 set (setPending s (((pendingOf s).setIfInBounds i (sa,na + nb,pw)).eraseIdxIfInBounds (i + 1)))
 let some k ← gal false (← elem' (arrOf s) sb) (arrOf s) sa na 0 | return false
 let (sa,na):=(sa + k,na - k)
 if na == 0 then return true
 let some nb ← gal true (← elem' (arrOf s) (sa + na - 1)) (arrOf s) sb nb (nb - 1) | return false
 if nb == 0 then return true
 let x:=(arrOf s).extract sa sb
 let y:=(arrOf s).extract sb (sb + nb)
 let m ← if na≤nb then mLo x y else mHi x y
 modify fun s=>setArr s (m.toList.zipIdx.foldl (fun a (p,j)=>a.setIfInBounds (sa + j) p) (arrOf s))
 return (failedOf (← get)).isNone):=rfl
section
variable {prog:Program} {w:World} {A:Around} {E:Value→Shared→Prop} {s:Shared} {a0:Array Keyed}
theorem wpS_set {st st1:SortSt} {Q:PUnit→SortSt→Prop} (h:Q ⟨⟩ st1):wpS (model prog w) A E s (set st1:StateT SortSt Sem PUnit) Q st:=by
 unfold wpS; rw [StateT.run_set]; exact wpAny_pure ⟨rfl,h⟩
theorem K_ext {xs:Array Keyed} {i j t:Nat} (ht:i + t < j) (hj:j≤xs.size):K (xs.extract i j) t=K xs (i + t):=by
 unfold K
 rw [Array.getElem?_extract]
 rw [if_pos (by omega)]
theorem ik_ext {xs:Array Keyed} (h:IK xs) (i j:Nat):IK (xs.extract i j):=fun p hp=>h p (by
 rw [ext_list] at hp
 exact List.mem_of_mem_drop (List.mem_of_mem_take hp))
theorem up_ext {xs:Array Keyed} {i j:Nat} (h:Up xs i j) (hj:j≤xs.size):Up (xs.extract i j) 0 (xs.extract i j).size:=by
 have hs:(xs.extract i j).size=j - i:=by rw [Array.size_extract]; omega
 rw [hs]
 intro p q _ h2 h3
 rw [K_ext (by omega) hj,K_ext (by omega) hj]
 exact h _ _ (by omega) (by omega) (by omega)
theorem mat_ok {st:SortSt} {i sa na p sb nb q:Nat} {l1 l2:List (Nat × Nat × Nat)} {y:Nat} {Q:Bool→SortSt→Prop} (h0:IK a0) (hB:Bs a0 st) (hi:i=l1.length) (hP:(pendingOf st).toList=l1 ++ (sa,na,p) :: (sb,nb,q) :: l2) (hC:Ch (arrOf st) 0 (pendingOf st).toList y) (hy:y≤a0.size)
  (h:∀ st',Bs a0 st'→(pendingOf st').toList=l1 ++ (sa,na + nb,p) :: l2→Ch (arrOf st') 0 (pendingOf st').toList y→(∀ t,y≤t→K (arrOf st') t=K (arrOf st) t)→Q true st'):wpS (model prog w) A E s (mergeAt' i) Q st:=by
 have hsz:(arrOf st).size=a0.size:=hB.perm.size_eq
 have ik:=ik_perm h0 hB.perm
 rw [hP] at hC
 obtain ⟨z,c1,e1,n1,u1,e2,n2,u2,c2⟩:=Ch.app.mp hC
 subst e1 e2
 have c2l:=c2.le
 have g1:(pendingOf st)[i]?=some (sa,na,p):=by rw [← Array.getElem?_toList,hP,hi]; simp
 have g2:(pendingOf st)[i + 1]?=some (sa + na,nb,q):=by rw [← Array.getElem?_toList,hP,hi,List.getElem?_append_right (by omega)]; simp
 have hP2:(((pendingOf st).setIfInBounds i (sa,na + nb,p)).eraseIdxIfInBounds (i + 1)).toList=l1 ++ (sa,na + nb,p) :: l2:=by
  have hl:i + 1 < (pendingOf st).size:=by rw [← Array.length_toList,hP,hi,List.length_append,List.length_cons,List.length_cons]; omega
  rw [Array.eraseIdxIfInBounds,dif_pos (by rw [Array.size_setIfInBounds]; exact hl),Array.toList_eraseIdx,Array.toList_setIfInBounds,hP,hi]
  rw [List.set_append_right _ _ (Nat.le_refl _),List.eraseIdx_append_of_length_le (by omega)]
  simp
 rw [mergeAt_eq]
 refine wpS_bind (wpS_get ?_)
 rw [g1,g2]
 dsimp only
 refine wpS_bind (wpS_set ?_)
 have hsb:sa + na < (arrOf st).size:=by omega
 refine wpS_bind (elem_ok hsb ?_)
 refine wpS_bind (gal_ok hB.kind ik (ik.get hsb) (by omega) (by omega) u1 fun k k1 k2 k3=>?_)
 dsimp only
 have q2:∀ t,sa≤t→t < sa + k→K (arrOf st) t≤K (arrOf st) (sa + na):=fun t t1 t2=>by
  have:=k2 (t - sa) (by omega)
  rw [show sa + (t - sa)=t by omega] at this
  rw [K_get hsb]
  simpa [bef] using this
 have q3:∀ t,sa + k≤t→t < sa + na→K (arrOf st) (sa + na)≤K (arrOf st) t:=fun t t1 t2=>by
  have:=k3 (t - sa) (by omega) (by omega)
  rw [show sa + (t - sa)=t by omega] at this
  rw [K_get hsb]
  exact Int.le_of_lt (by simpa [bef] using this)
 -- when nothing is to be moved
 have still:Up (arrOf st) sa (sa + (na + nb))→Q true (setPending st (((pendingOf st).setIfInBounds i (sa,na + nb,p)).eraseIdxIfInBounds (i + 1))):=fun hu=>by
  refine h _ ⟨hB.perm,hB.kind,hB.failed⟩ hP2 ?_ fun t _=>rfl
  show Ch (arrOf st) 0 (((pendingOf st).setIfInBounds i (sa,na + nb,p)).eraseIdxIfInBounds (i + 1)).toList y
  rw [hP2]
  exact Ch.app.mpr ⟨sa,c1,rfl,by omega,hu,by rw [← Nat.add_assoc]; exact c2⟩
 by_cases e1:na - k=0
 ·rw [if_pos (by simpa using e1)]
  refine wpS_pure (still fun i j i1 i2 i3=>?_)
  by_cases hj:j < sa + na
  ·exact u1 i j i1 i2 hj
  ·by_cases hi':i < sa + na
   ·exact Int.le_trans (q2 i i1 (by omega)) (u2 (sa + na) j (Nat.le_refl _) (by omega) (by omega))
   ·exact u2 i j (by omega) i2 (by omega)
 rw [if_neg (by simpa using e1)]
 have hla:sa + k + (na - k) - 1 < (arrOf st).size:=by omega
 refine wpS_bind (elem_ok hla ?_)
 refine wpS_bind (gal_ok hB.kind ik (ik.get hla) (by omega) (by omega) u2 fun m m1 m2 m3=>?_)
 dsimp only
 have v2:∀ t,sa + na≤t→t < sa + na + m→K (arrOf st) t≤K (arrOf st) (sa + na - 1):=fun t t1 t2=>by
  have:=m2 (t - (sa + na)) (by omega)
  rw [show sa + na + (t - (sa + na))=t by omega] at this
  have e:sa + na - 1=sa + k + (na - k) - 1:=by omega
  rw [e,K_get hla]
  exact Int.le_of_lt (by simpa [bef] using this)
 have v3:∀ t,sa + na + m≤t→t < sa + na + nb→K (arrOf st) (sa + na - 1)≤K (arrOf st) t:=fun t t1 t2=>by
  have:=m3 (t - (sa + na)) (by omega) (by omega)
  rw [show sa + na + (t - (sa + na))=t by omega] at this
  have e:sa + na - 1=sa + k + (na - k) - 1:=by omega
  rw [e,K_get hla]
  simpa [bef] using this
 by_cases e2:m=0
 ·rw [if_pos (by simpa using e2)]
  refine wpS_pure (still fun i j i1 i2 i3=>?_)
  by_cases hj:j < sa + na
  ·exact u1 i j i1 i2 hj
  ·by_cases hi':i < sa + na
   ·exact Int.le_trans (u1 i (sa + na - 1) i1 (by omega) (by omega)) (v3 j (by omega) (by omega))
   ·exact u2 i j (by omega) i2 (by omega)
 rw [if_neg (by simpa using e2)]
 have sx:((arrOf st).extract (sa + k) (sa + na)).size=na - k:=by rw [Array.size_extract]; omega
 have sy:((arrOf st).extract (sa + na) (sa + na + m)).size=m:=by rw [Array.size_extract]; omega
 have ux:Up ((arrOf st).extract (sa + k) (sa + na)) 0 ((arrOf st).extract (sa + k) (sa + na)).size:=up_ext (fun i j i1 i2 i3=>u1 i j (by omega) i2 i3) (by omega)
 have uy:Up ((arrOf st).extract (sa + na) (sa + na + m)) 0 ((arrOf st).extract (sa + na) (sa + na + m)).size:=up_ext (fun i j i1 i2 i3=>u2 i j i1 i2 (by omega)) (by omega)
 have hlast:∀ t,t < ((arrOf st).extract (sa + na) (sa + na + m)).size→K ((arrOf st).extract (sa + na) (sa + na + m)) t≤K ((arrOf st).extract (sa + k) (sa + na)) (((arrOf st).extract (sa + k) (sa + na)).size - 1):=fun t ht=>by
  rw [sy] at ht
  rw [sx,K_ext (by omega) (by omega),K_ext (by omega) (by omega),show sa + k + (na - k - 1)=sa + na - 1 by omega]
  exact v2 _ (by omega) (by omega)
 have hfirst:∀ t,t < ((arrOf st).extract (sa + k) (sa + na)).size→K ((arrOf st).extract (sa + na) (sa + na + m)) 0≤K ((arrOf st).extract (sa + k) (sa + na)) t:=fun t ht=>by
  rw [sx] at ht
  rw [K_ext (by omega) (by omega),K_ext (by omega) (by omega),Nat.add_zero]
  exact q3 _ (by omega) (by omega)
 have fin:∀ (r:Array Keyed) (st':SortSt),Good ((arrOf st).extract (sa + k) (sa + na)) ((arrOf st).extract (sa + na) (sa + na + m)) r→Sg (setPending st (((pendingOf st).setIfInBounds i (sa,na + nb,p)).eraseIdxIfInBounds (i + 1))) st'→
   Q true (setArr st' (wr (arrOf st') (sa + k) r.toList.zipIdx)):=by
  rintro r st' ⟨g1,g2⟩ ⟨s1,s2,s3,s4⟩
  have s2:arrOf st'=arrOf st:=s2
  have rl:r.toList.length=na - k + m:=by rw [g1.length_eq,List.length_append,Array.length_toList,Array.length_toList,sx,sy]
  have hw:sa + k + r.toList.length≤(arrOf st).size:=by omega
  have hxy:((arrOf st).extract (sa + k) (sa + na)).toList ++ ((arrOf st).extract (sa + na) (sa + na + m)).toList=((arrOf st).toList.drop (sa + k)).take (na - k + m):=by
   rw [ext_list,ext_list,show sa + na - (sa + k)=na - k by omega,show sa + na + m - (sa + na)=m by omega,List.take_add,List.drop_drop,show sa + k + (na - k)=sa + na by omega]
  rw [hxy] at g1
  have hk:∀ t,K (wr (arrOf st) (sa + k) r.toList.zipIdx) t=if sa + k≤t∧t < sa + na + m then K r (t - (sa + k)) else K (arrOf st) t:=fun t=>by
   have e:=wr_get (sa + k) r.toList 0 (arrOf st) (by omega) t
   rw [rl] at e
   by_cases ht:sa + k≤t∧t < sa + na + m
   ·rw [if_pos ht]
    rw [if_pos (by omega),Array.getElem?_toList] at e
    exact K_congr e
   ·rw [if_neg ht]
    rw [if_neg (by omega)] at e
    exact K_congr e
  have hfrom:∀ t,sa + k≤t→t < sa + na + m→∃ u,sa + k≤u∧u < sa + na + m∧K r (t - (sa + k))=K (arrOf st) u:=fun t t1 t2=>by
   have ht:t - (sa + k) < r.size:=by rw [← Array.length_toList,rl]; omega
   obtain ⟨u,hu1,hu2,hu3⟩:=mem_cut (g1.mem_iff.mp (by simp:r[t - (sa + k)] ∈ r.toList))
   exact ⟨sa + k + u,by omega,by omega,by rw [K_get ht]; exact hu3⟩
  have ur:=up_of g2
  have rs:r.size=na - k + m:=by rw [← Array.length_toList,rl]
  have wu:Up (wr (arrOf st) (sa + k) r.toList.zipIdx) sa (sa + (na + nb)):=by
   intro i j i1 i2 i3
   rw [hk,hk]
   have low:∀ a u,sa≤a→a < sa + k→sa + k≤u→u < sa + na + nb→K (arrOf st) a≤K (arrOf st) u:=fun a u a1 a2 u3 u4=>by
    by_cases hu:u < sa + na
    ·exact u1 a u a1 (by omega) hu
    ·exact Int.le_trans (q2 a a1 a2) (u2 _ _ (Nat.le_refl _) (by omega) u4)
   have high:∀ a u,sa + k≤a→a < sa + na + m→sa + na + m≤u→u < sa + na + nb→K (arrOf st) a≤K (arrOf st) u:=fun a u a1 a2 u3 u4=>by
    by_cases ha:a < sa + na
    ·exact Int.le_trans (u1 a (sa + na - 1) (by omega) (by omega) (by omega)) (v3 u u3 u4)
    ·exact u2 a u (by omega) (by omega) u4
   by_cases hi1:sa + k≤i∧i < sa + na + m
   ·rw [if_pos hi1]
    by_cases hj1:sa + k≤j∧j < sa + na + m
    ·rw [if_pos hj1]
     exact ur _ _ (Nat.zero_le _) (by omega) (by omega)
    ·rw [if_neg hj1]
     obtain ⟨u,w1,w2,w3⟩:=hfrom i hi1.1 hi1.2
     rw [w3]
     exact high u j w1 w2 (by omega) (by omega)
   ·rw [if_neg hi1]
    by_cases hj1:sa + k≤j∧j < sa + na + m
    ·rw [if_pos hj1]
     obtain ⟨u,w1,w2,w3⟩:=hfrom j hj1.1 hj1.2
     rw [w3]
     exact low i u i1 (by omega) w1 (by omega)
    ·rw [if_neg hj1]
     by_cases hil:i < sa + k
     ·by_cases hjl:j < sa + na
      ·exact u1 i j i1 i2 hjl
      ·exact low i j i1 hil (by omega) (by omega)
     ·exact u2 i j (by omega) i2 (by omega)
  have wp:(wr (arrOf st) (sa + k) r.toList.zipIdx).Perm a0:=by
   refine Array.Perm.trans (Array.perm_iff_toList_perm.mpr ?_) hB.perm
   rw [wr_list hw,rl]
   refine List.Perm.trans ((g1.append_right _).append_left _) ?_
   rw [show (arrOf st).toList.drop (sa + k + (na - k + m))=((arrOf st).toList.drop (sa + k)).drop (na - k + m) by rw [List.drop_drop],List.take_append_drop,List.take_append_drop]
  rw [s2]
  refine h _ ⟨wp,s1.trans hB.kind,s4.trans hB.failed⟩ (by show (pendingOf st').toList=_; rw [s3]; exact hP2) ?_ fun t ht=>?_
  ·show Ch (wr (arrOf st) (sa + k) r.toList.zipIdx) 0 (pendingOf st').toList y
   rw [s3]
   show Ch _ 0 (((pendingOf st).setIfInBounds i (sa,na + nb,p)).eraseIdxIfInBounds (i + 1)).toList y
   rw [hP2]
   refine Ch.app.mpr ⟨sa,c1.like fun t t1 t2=>?_,rfl,by omega,wu,?_⟩
   ·rw [hk,if_neg (by omega)]
   ·rw [← Nat.add_assoc]
    exact c2.like fun t t1 t2=>by rw [hk,if_neg (by omega)]
  ·show K (wr (arrOf st) (sa + k) r.toList.zipIdx) t=_
   rw [hk,if_neg (by omega)]
 have endS:∀ (r:Array Keyed) (st':SortSt),Good ((arrOf st).extract (sa + k) (sa + na)) ((arrOf st).extract (sa + na) (sa + na + m)) r→Sg (setPending st (((pendingOf st).setIfInBounds i (sa,na + nb,p)).eraseIdxIfInBounds (i + 1))) st'→
   wpS (model prog w) A E s (do
    modify fun s=>setArr s (r.toList.zipIdx.foldl (fun a (p,j)=>a.setIfInBounds (sa + k + j) p) (arrOf s))
    return (failedOf (← get)).isNone) Q st':=fun r st' g z=>by
  refine wpS_bind (wpS_modify (wpS_bind (wpS_get (wpS_pure ?_))))
  have hf:failedOf st'=none:=z.2.2.2.trans hB.failed
  show Q (failedOf st').isNone (setArr st' (wr (arrOf st') (sa + k) r.toList.zipIdx))
  rw [hf]
  exact fin r st' g z
 by_cases hc:na - k≤m
 ·rw [if_pos hc]
  exact wpS_bind (mLo_ok hB.kind (ik_ext ik _ _) (ik_ext ik _ _) ux uy (by omega) (by omega) (hfirst 0 (by omega)) hlast fun r st' g z=>endS r st' g z)
 ·rw [if_neg hc]
  exact wpS_bind (mHi_ok hB.kind (ik_ext ik _ _) (ik_ext ik _ _) ux uy (by omega) (by omega) hfirst hlast fun r st' g z=>endS r st' g z)
end
end SR
namespace SR
open PySem PyProof.Rows
section
variable {prog:Program} {w:World} {A:Around} {E:Value→Shared→Prop} {s:Shared} {a0:Array Keyed}
structure Al (a0:Array Keyed) (y:Nat) (st:SortSt):Prop where
 bs:Bs a0 st
 ch:Ch (arrOf st) 0 (pendingOf st).toList y
theorem ite_lt {c:Prop} [Decidable c] {n:Nat} (h:2≤n):(if c then n - 2 - 1 else n - 2) + 1 < n:=by split <;> omega
theorem two_at {l:List (Nat × Nat × Nat)} {i:Nat} (h:i + 1 < l.length):∃ l1 sa na p sb nb q l2,l=l1 ++ (sa,na,p) :: (sb,nb,q) :: l2∧i=l1.length:=by
 refine ⟨l.take i,l[i].1,l[i].2.1,l[i].2.2,l[i + 1].1,l[i + 1].2.1,l[i + 1].2.2,l.drop (i + 2),?_,by rw [List.length_take]; omega⟩
 have e1:l.drop i=l[i] :: l.drop (i + 1):=List.drop_eq_getElem_cons (by omega)
 have e2:l.drop (i + 1)=l[i + 1] :: l.drop (i + 2):=List.drop_eq_getElem_cons h
 have e3:=List.take_append_drop i l
 rw [e1,e2] at e3
 exact e3.symm
theorem mg_ok {st:SortSt} {i y:Nat} {Q:Bool→SortSt→Prop} (h0:IK a0) (h1:Al a0 y st) (hy:y≤a0.size) (hi:i + 1 < (pendingOf st).size)
  (h:∀ st',Al a0 y st'→(pendingOf st').size + 1=(pendingOf st).size→(∀ t,y≤t→K (arrOf st') t=K (arrOf st) t)→Q true st'):wpS (model prog w) A E s (mergeAt' i) Q st:=by
 rw [← Array.length_toList] at hi
 obtain ⟨l1,sa,na,p,sb,nb,q,l2,e,el⟩:=two_at hi
 refine mat_ok h0 h1.bs el e h1.ch hy fun st' b1 b2 b3 b4=>h st' ⟨b1,b3⟩ ?_ b4
 rw [← Array.length_toList,← Array.length_toList,b2,e]
 simp [Nat.add_assoc]
set_option maxHeartbeats 2000000 in
theorem all_ok {st:SortSt} {Q:Unit→SortSt→Prop} (h0:IK a0) (hB:Bs a0 st) (hP:pendingOf st = #[]) (h2:1≤a0.size)
  (h:∀ st',(arrOf st').Perm a0→failedOf st'=none→Up (arrOf st') 0 a0.size→Q () st'):wpS (model prog w) A E s sortRuns' Q st:=by
 rw [sortRuns'_eq]
 refine wpS_bind (wpS_get ?_)
 dsimp only
 have hsz:(arrOf st).size=a0.size:=hB.perm.size_eq
 rw [hsz]
 generalize minRun' a0.size a0.size 0=mr
 refine wpS_bind (wpS_mono (wpS_forRange (I:=fun x c st'=>∃ lo,c=(none,lo)∧Al a0 lo st'∧lo≤a0.size∧(x≤lo ∨ lo=a0.size))
  (Q:=fun c st'=>c=(none,a0.size)∧Al a0 a0.size st') ?step ?fin ⟨0,rfl,⟨hB,by rw [hP]; exact rfl⟩,Nat.zero_le _,.inl (Nat.le_refl _)⟩) ?post)
 case fin=>
  rintro c st' ⟨lo,rfl,b1,b2,b3⟩
  have:lo=a0.size:=by omega
  subst this
  exact ⟨rfl,b1⟩
 case step=>
  rintro x c st' _ hx ⟨lo,rfl,b1,b2,b3⟩
  dsimp only
  by_cases g:lo ≥ a0.size
  ·rw [if_pos g]
   have:lo=a0.size:=by omega
   subst this
   exact wpS_pure ⟨rfl,b1⟩
  rw [if_neg g]
  have hSB:SB a0 (arrOf st') (pendingOf st') lo st':=⟨b1.bs.perm,b1.bs.kind,b1.bs.failed,rfl,fun _ _=>rfl⟩
  -- what follows when the run of n is there
  have nxt:∀ (n:Nat) (st2:SortSt),SB a0 (arrOf st') (pendingOf st') lo st2→1≤n→lo + n≤a0.size→Up (arrOf st2) lo (lo + n)→Al a0 lo st2:=fun n st2 c1 _ _ _=>
   ⟨⟨c1.perm,c1.kind,c1.failed⟩,by rw [c1.pend]; exact b1.ch.like fun t _ ht=>c1.low t ht⟩
  refine wpS_bind (run_ok h0 (by omega) (by omega) hSB fun m st2 c1 m1 m2 u=>?_)
  dsimp only
  have last:∀ (n:Nat) (st2:SortSt),Al a0 lo st2→1≤n→lo + n≤a0.size→Up (arrOf st2) lo (lo + n)→Al a0 (lo + n) (setPending st2 ((pendingOf st2).push (lo,n,0))):=fun n st2 d1 d2 d3 d4=>by
   refine ⟨⟨d1.bs.perm,d1.bs.kind,d1.bs.failed⟩,?_⟩
   show Ch (arrOf st2) 0 ((pendingOf st2).push (lo,n,0)).toList (lo + n)
   rw [Array.toList_push]
   exact Ch.app.mpr ⟨lo,d1.ch,rfl,d2,d4,rfl⟩
  by_cases hm:m < mr
  all_goals first | rw [if_pos hm] | rw [if_neg hm]
  ·refine wpS_bind (wpS_lift (wpAny_rule ⟨rfl,?_⟩))
   refine wpS_bind (bins_ok h0 (n:=min (a0.size - lo) mr) (by omega) c1 u (by omega) fun st3 d1 d2=>?_)
   simp only [Bool.not_true,Bool.false_eq_true,if_false]
   refine wpS_bind (wpS_get ?_)
   obtain ⟨n,hn⟩:∃ n,n=min (a0.size - lo) mr:=⟨_,rfl⟩
   rw [← hn] at d2 ⊢
   have n1:1≤n:=by omega
   have n2:lo + n≤a0.size:=by omega
   have al:=nxt n st3 d1 n1 n2 d2
   cases hb:(pendingOf st3).back? with
   | none=>
    dsimp only
    exact wpS_bind (wpS_modify (wpS_pure ⟨lo + n,rfl,last n st3 al n1 n2 d2,n2,by omega⟩))
   | some e=>
    obtain ⟨s1,n3,p3⟩:=e
    dsimp only
    generalize power' a0.size (2 * s1 + n3) (2 * s1 + n3 + n3 + n) a0.size=pw
    refine wpS_bind (wpS_mono (wpS_forRange (I:=fun y c st4=>c=(none,())∧Al a0 lo st4∧Up (arrOf st4) lo (lo + n))
     (Q:=fun c st4=>c=(none,())∧Al a0 lo st4∧Up (arrOf st4) lo (lo + n)) ?a (fun _ _ z=>z) ⟨rfl,al,d2⟩) ?b)
    case a=>
     rintro y c st4 _ _ ⟨rfl,e1,e2⟩
     refine wpS_bind (wpS_get ?_)
     by_cases hp:(pendingOf st4).size > 1
     ·rw [if_pos hp]
      have hg:(pendingOf st4)[(pendingOf st4).size - 2]?=some (pendingOf st4)[(pendingOf st4).size - 2]:=getElem?_pos _ _ (by omega)
      rw [hg]
      dsimp only
      split
      ·exact wpS_pure ⟨rfl,e1,e2⟩
      ·refine wpS_bind (mg_ok h0 e1 (by omega) (by omega) fun st5 f1 _ f3=>?_)
       simp only [Bool.not_true,Bool.false_eq_true,if_false]
       refine wpS_pure ⟨rfl,f1,fun i j i1 i2 i3=>?_⟩
       rw [f3 i i1,f3 j (by omega)]
       exact e2 i j i1 i2 i3
     ·rw [if_neg hp]
      exact wpS_pure ⟨rfl,e1,e2⟩
    case b=>
     rintro c st4 ⟨rfl,e1,e2⟩
     dsimp only
     refine wpS_bind (wpS_modify (wpS_bind (wpS_modify (wpS_pure ⟨lo + n,rfl,last n _ ⟨⟨e1.bs.perm,e1.bs.kind,e1.bs.failed⟩,?_⟩ n1 n2 e2,n2,by omega⟩))))
     show Ch (arrOf st4) 0 ((pendingOf st4).modify ((pendingOf st4).size - 1) _).toList lo
     rw [Array.toList_modify]
     exact Ch.pow _ (fun s n p=>⟨_,rfl⟩) _ e1.ch
  ·refine wpS_bind (wpS_get ?_)
   have n2:lo + m≤a0.size:=by omega
   have al:=nxt m st2 c1 m1 n2 u
   cases hb:(pendingOf st2).back? with
   | none=>
    dsimp only
    exact wpS_bind (wpS_modify (wpS_pure ⟨lo + m,rfl,last m st2 al m1 n2 u,n2,by omega⟩))
   | some e=>
    obtain ⟨s1,n3,p3⟩:=e
    dsimp only
    generalize power' a0.size (2 * s1 + n3) (2 * s1 + n3 + n3 + m) a0.size=pw
    refine wpS_bind (wpS_mono (wpS_forRange (I:=fun y c st4=>c=(none,())∧Al a0 lo st4∧Up (arrOf st4) lo (lo + m))
     (Q:=fun c st4=>c=(none,())∧Al a0 lo st4∧Up (arrOf st4) lo (lo + m)) ?a (fun _ _ z=>z) ⟨rfl,al,u⟩) ?b)
    case a=>
     rintro y c st4 _ _ ⟨rfl,e1,e2⟩
     refine wpS_bind (wpS_get ?_)
     by_cases hp:(pendingOf st4).size > 1
     ·rw [if_pos hp]
      have hg:(pendingOf st4)[(pendingOf st4).size - 2]?=some (pendingOf st4)[(pendingOf st4).size - 2]:=getElem?_pos _ _ (by omega)
      rw [hg]
      dsimp only
      split
      ·exact wpS_pure ⟨rfl,e1,e2⟩
      ·refine wpS_bind (mg_ok h0 e1 (by omega) (by omega) fun st5 f1 _ f3=>?_)
       simp only [Bool.not_true,Bool.false_eq_true,if_false]
       refine wpS_pure ⟨rfl,f1,fun i j i1 i2 i3=>?_⟩
       rw [f3 i i1,f3 j (by omega)]
       exact e2 i j i1 i2 i3
     ·rw [if_neg hp]
      exact wpS_pure ⟨rfl,e1,e2⟩
    case b=>
     rintro c st4 ⟨rfl,e1,e2⟩
     dsimp only
     refine wpS_bind (wpS_modify (wpS_bind (wpS_modify (wpS_pure ⟨lo + m,rfl,last m _ ⟨⟨e1.bs.perm,e1.bs.kind,e1.bs.failed⟩,?_⟩ m1 n2 e2,n2,by omega⟩))))
     show Ch (arrOf st4) 0 ((pendingOf st4).modify ((pendingOf st4).size - 1) _).toList lo
     rw [Array.toList_modify]
     exact Ch.pow _ (fun s n p=>⟨_,rfl⟩) _ e1.ch
 case post=>
  rintro c st' ⟨rfl,b1⟩
  dsimp only
  have hp0:(pendingOf st').size≤a0.size:=by have:=b1.ch.le; rw [Array.length_toList] at this; omega
  refine wpS_bind (wpS_mono (wpS_forRange (I:=fun x c st2=>c=(none,())∧Al a0 a0.size st2∧((pendingOf st2).size + x≤a0.size ∨ (pendingOf st2).size≤1))
   (Q:=fun c st2=>c=(none,())∧Al a0 a0.size st2∧(pendingOf st2).size≤1) ?a ?b ⟨rfl,b1,.inl (by omega)⟩) ?c)
  case b=>
   rintro c st2 ⟨hc,d1,d2⟩
   exact ⟨hc,d1,by omega⟩
  case a=>
   rintro x c st2 _ hx ⟨rfl,d1,d2⟩
   refine wpS_bind (wpS_get ?_)
   by_cases hs:(pendingOf st2).size≤1
   ·rw [if_pos hs]
    exact wpS_pure ⟨rfl,d1,hs⟩
   rw [if_neg hs]
   refine wpS_bind (mg_ok h0 d1 (Nat.le_refl _) (ite_lt (by omega)) fun st5 f1 f2 _=>?_)
   simp only [Bool.not_true,Bool.false_eq_true,if_false]
   exact wpS_pure ⟨rfl,f1,by omega⟩
  case c=>
   rintro c st2 ⟨rfl,d1,d2⟩
   refine wpS_pure (h st2 d1.bs.perm d1.bs.failed ?_)
   have hc:=d1.ch
   rw [← Array.length_toList] at d2
   match hl:(pendingOf st2).toList with
   | []=>rw [hl] at hc; unfold Ch at hc; omega
   | [(z,n,p)]=>
    rw [hl] at hc
    obtain ⟨e1,e2,e3,e4⟩:=hc
    unfold Ch at e4
    rw [Nat.zero_add] at e3 e4
    subst e4
    exact e3
   | _ :: _ :: _=>rw [hl] at d2; simp at d2
end
end SR
namespace SR
open PySem PyProof.Rows
section
variable {prog:Program} {w:World} {A:Around} {E:Value→Shared→Prop} {s:Shared}
theorem ups {xs:Array Keyed} {n:Nat} (h:Up xs 0 n):SortedTo xs n:=fun i j i1 i2=>h i j (Nat.zero_le _) i1 i2
theorem sort_all {a:Addr} {vs:List Value} {ns:List Int} {n:Nat} {P:Fin→Shared→Prop} (ho:s.heap.get? a=some (seqObj "list" vs.toArray n)) (hI:IntsAre vs ns) (hz:vs.length≤sizeLine)
  (h:∀ (out:Array Value) (ns':List Int),IntsAre out.toList ns'→ns'.Perm ns→ns'.Pairwise (· ≤ ·)→P (.done (.ret .none)) { s with heap:=sortedHeap s.heap a vs out }):wpAny (model prog w) A (Builtin.«list.sort» ⟨[.ref a],[]⟩) P E s:=by
 by_cases h64:vs.length < 64
 ·exact list_sort_tree ho hI h64 h
 rw [list_sort_plain]
 have lt:=Heap.lt_size ho
 refine wpAny_bind (listItems_at ho rfl (wpAny_bind (listUpdate_at ho rfl ?_ (hsz:=by simpa using hz) (hsz2:=by simp))))
 obtain ⟨ep,g1⟩:∃ ep,(s.heap.update a (Obj.mapSeq fun _=>#[])).get? a=some (seqObj "list" #[] ep):=⟨_,get?_update_seq ho (fun _=>#[])⟩
 refine wpAny_bind (seqEpoch_at g1 rfl (wpAny_bind (wpAny_newTuple (wpAny_bind (wpAny_newList (wpAny_holding ?_))) (by simpa using hz))))
 have g2:(((s.heap.update a (Obj.mapSeq fun _=>#[])).push (seqObj "tuple" vs.toArray 0)).push (seqObj "list" #[] 0)).get? a=some (seqObj "list" #[] ep):=by
  have z1:(s.heap.update a (Obj.mapSeq fun _=>#[])).objs.size=s.heap.objs.size:=Heap.size_update ..
  rw [Heap.get?_push_ne _ _ _ (by rw [size_push',z1]; exact Nat.ne_of_lt (Nat.lt_succ_of_lt lt)),Heap.get?_push_ne _ _ _ (by rw [z1]; exact Nat.ne_of_lt lt),g1]
 have big:¬ vs.toArray.size < 2:=by simp; omega
 dsimp only
 rw [if_neg big,if_neg big]
 match vs,hI,hz,h64 with
 | [],_,_,h64=>exact absurd (by decide) h64
 | [_],_,_,h64=>exact absurd (by simp) h64
 | v1 :: v2 :: vs,hI,hz,h64=>
  rw [keyKind_ints hI]
  refine wpAny_bind (wpAny_pure (wpAny_bind (wpAny_mono (all_ok (a0:=pairsOf (v1 :: v2 :: vs)) (st:=SortSt.mk' oneType' ((v1 :: v2 :: vs).toArray.zip (v1 :: v2 :: vs).toArray) #[] 7 none)
   (Q:=fun _ st'=>(arrOf st').Perm (pairsOf (v1 :: v2 :: vs))∧failedOf st'=none∧SortedTo (arrOf st') (pairsOf (v1 :: v2 :: vs)).size)
   hI.intKeys ⟨Array.Perm.refl _,rfl,rfl⟩ rfl (by rw [pairsOf_size]; simp) fun st' b1 b2 b3=>⟨b1,b2,ups b3⟩) ?_ fun _ _ e=>e)))
  rintro ⟨⟨⟩,st'⟩ s' ⟨rfl,b1,b2,b3⟩
  have hsz:((arrOf st').map (·.2)).size=(v1 :: v2 :: vs).length:=(Array.size_map ..).trans (b1.size_eq.trans (pairsOf_size _))
  obtain ⟨ns',c1,c2,c3⟩:=sorted_out hI b1 b3
  refine wpAny_bind (seqEpoch_at g2 rfl (wpAny_bind (listUpdate_at g2 rfl ?_ (hsz:=by simp) (hsz2:=by rw [hsz]; omega))))
  rw [b2]
  simp only [bne_self_eq_false,Bool.false_eq_true,if_false]
  exact wpAny_pure (h _ ns' c1 c2 c3)
end
end SR
namespace SQ
open PySem PySem.Spec PyProof.Rows
section
variable {prog:Program} {w:World} {A:Around} {E:Value→Shared→Prop} {s:Shared}
theorem sortedHeap_ok {h:Heap} {a:Addr} {vs:List Value} {n:Nat} {out:Array Value} (ho:h.get? a=some (seqObj "list" vs.toArray n)):(∃ n',(sortedHeap h a vs out).get? a=some (seqObj "list" out n'))∧∀ b o,b ≠ a→h.get? b=some o→(sortedHeap h a vs out).get? b=some o:=by
 unfold sortedHeap
 obtain ⟨k,g⟩:∃ k,(h.update a (Obj.mapSeq fun _=>#[])).get? a=some (seqObj "list" #[] k):=⟨_,get?_update_seq ho _⟩
 refine ⟨⟨_,get?_update_seq (Heap.get?_push_of_some _ (Heap.get?_push_of_some _ g)) _⟩,fun b o hb e=>?_⟩
 exact ((Heap.SameBut.update ..).2 b hb).trans (Heap.get?_push_of_some _ (Heap.get?_push_of_some _ (((Heap.SameBut.update ..).2 b hb).trans e)))
theorem sorted_tail {s:Shared} {vs:List Value} {ns:List Int} {Q:Value→Shared→Prop} (hI:IntsAre vs ns) (hz:vs.length≤sizeLine)
  (h:∀ (h':Heap) (out:Array Value) (ns':List Int) (n:Nat),(∀ b o,s.heap.get? b=some o→h'.get? b=some o)→h'.get? s.heap.objs.size=some (seqObj "list" out n)→IntsAre out.toList ns'→ns'.Perm ns→ns'.Pairwise (· ≤ ·)→Q (.ref s.heap.objs.size) { s with heap:=h' }):
  wpAny (model prog w) A (do
   let l ← newList vs
   let _ ← holding [l] (call (.builtin "list.sort") [l] [])
   ret l) (fun fin s'=>∃ v,fin=.done (.ret v)∧Q v s') E s:=by
 refine wpAny_bind (wpAny_newList ?_ hz)
 have g:(s.heap.push (seqObj "list" vs.toArray 0)).get? s.heap.objs.size=some (seqObj "list" vs.toArray 0):=Heap.get?_push_size _ rfl
 refine wpAny_bind (wpAny_holding (wpAny_call_entry slot_list_sort ⟨_,g,rfl⟩ entry_list_sort (SR.sort_all g hI hz fun out ns' a1 a2 a3=>⟨_,rfl,?_⟩) (args_list_sort _)))
 obtain ⟨⟨n,g1⟩,g2⟩:=sortedHeap_ok (out:=out) g
 exact wpAny_pure ⟨_,rfl,h _ out ns' n (fun b o e=>g2 b o (Nat.ne_of_lt (Heap.lt_size e)) (Heap.get?_push_of_some _ e)) g1 a1 a2 a3⟩
theorem sorted_seq {k:Bool} {l:Addr} {vs:List Value} {ns:List Int} {Q:Value→Shared→Prop} (hl:Is k s.heap l vs.toArray) (hI:IntsAre vs ns) (hz:vs.length≤sizeLine)
  (h:∀ (a:Addr) (h':Heap) (out:Array Value) (ns':List Int) (n:Nat),s.heap.objs.size≤a→(∀ b o,s.heap.get? b=some o→h'.get? b=some o)→h'.get? a=some (seqObj "list" out n)→IntsAre out.toList ns'→ns'.Perm ns→ns'.Pairwise (· ≤ ·)→Q (.ref a) { s with heap:=h' }):
  wpAny (model prog w) A (call (.builtin "sorted") [.ref l]) Q E s:=by
 refine Calls.call_function_entry kind_sorted plain_sorted entry_sorted (args_sorted1 _) ?_
 unfold Builtin.«sorted»
 refine wpAny_bind (m:=checkCount "sorted" 1 1 _) (wpAny_pure ?_)
 refine wpAny_bind (collects hl ?_ hz)
 have kp:∀ b o,s.heap.get? b=some o→((s.heap.push (seqObj "list" #[] 0)).update s.heap.objs.size (Obj.mapSeq (· ++ vs.toArray))).get? b=some o:=fun b o e=>
  ((Heap.SameBut.update ..).2 b (Nat.ne_of_lt (Heap.lt_size e))).trans (Heap.get?_push_of_some _ e)
 refine sorted_tail (s:={ s with heap:=(s.heap.push (seqObj "list" #[] 0)).update s.heap.objs.size (Obj.mapSeq (· ++ vs.toArray)) }) hI hz fun h' out ns' n k1 k2 a1 a2 a3=>h _ h' out ns' n ?_ (fun b o e=>k1 b o (kp b o e)) k2 a1 a2 a3
 show s.heap.objs.size≤((s.heap.push (seqObj "list" #[] 0)).update s.heap.objs.size (Obj.mapSeq (· ++ vs.toArray))).objs.size
 rw [Heap.size_update,size_push']; exact Nat.le_succ _
end
end SQ
namespace PD
open PySem PySem.Spec PyProof.Rows L2
section
variable {X:Cx} {E:XK}
end
end PD
namespace PD
open PySem PySem.Spec PyProof.Rows L2
section
variable {prog:Program} {w:World} {A:Around} {R:Result→Shared→Prop} {I:Addr} {fp wr:List Addr} {n:Nat} {P:Nat→Value→Prop} {St:Nat→Heap→Prop} {h0:Heap} {bt:Nat→Nat→Bool} {S:Addr} {kw:List (Str × Value)}
end
section
variable {prog:Program} {w:World} {A:Around} {E:Value→Shared→Prop} {s:Shared}
end
section
variable {X:Cx} {E:XK}
end
end PD
namespace L2
open PySem PySem.Spec PyProof.Rows
theorem Inv.freezeL {X:Cx} {pins:List (Addr × Obj)} {σ:St} {H:Hp} {s:Shared} {a:Addr} {vs:List V} (I:Inv X pins σ H s) (h:H a=some (.lst vs)):∃ o,Inv X pins σ (upd H a (.frz o (.lst vs))) s:=by
 obtain ⟨z,its,n,r,e⟩:ObjOk X.prog X.w H s.heap a (.lst vs):=I.hok a _ h
 have I2:Inv X pins σ (upd H a (.frz _ (.lst vs))) { s with heap:=s.heap,toks:=s.toks }:=I.write (x:=a) (e:=a) (by rw [h]; exact True.intro) (.inl rfl) (fun b u _ q=>q) ⟨_,e⟩ ⟨e,z,its,n,r,e⟩
 exact ⟨_,I2⟩
section
variable {X:Cx} {tg:Expr}
noncomputable def iFrz (K:PySem.W.Frag) (td:TE):TI:=fun σ H R=>td σ H fun x H1=>∃ a vs,x=.ref a∧((H1 a=some (.lst vs)∧∀ o,R (Itl K a) (upd H1 a (.frz o (.lst vs)))) ∨ ∃ o,H1 a=some (.frz o (.lst vs))∧R (Itl K a) H1)
theorem pi_frz {d:Expr} {td:TE} (hd:PE X d td):PI X tg d (iFrz X.K td):=by
 intro pins s σ H R I h
 refine thn (hd pins s σ H _ I h) fun u s1 zq=>?_
 obtain ⟨x,H1,I1,rx,a,vs,ex,q1⟩:=zq
 subst ex
 obtain rfl:u=Value.ref a:=rx
 have main:∀ (H2:Hp) (o:Obj),Inv X pins σ H2 s1→H2 a=some (.frz o (.lst vs))→R (Itl X.K a) H2→wpAny (model X.prog X.w) X.A (pyIter (.ref a)) (PIE X pins σ tg R) X.xe s1:=fun H2 o I2 hH2 q=>by
  obtain ⟨its,rv,p,hz⟩:=I2.list (xs:=vs) (.inl (.inr ⟨o,hH2⟩))
  refine wpAny_pyIter_list p.isList ?_
  refine ⟨s1.heap.objs.size,[s1.heap.objs.size],_,_,H2,rfl,I2.kept (t':=s1.toks) fun b o e=>Heap.get?_push_of_some _ e,turn_list a _,⟨_,Heap.get?_push_size _ rfl,rfl,rfl⟩,fun b hb=>?_,q⟩
  have e:b=s1.heap.objs.size:=by simpa using hb
  subst e
  exact I2.fpOk (Nat.le_refl _) (I2.hok.fresh (Nat.le_refl _))
 rcases q1 with ⟨hH,q⟩ | ⟨o,hH,q⟩
 ·obtain ⟨o,I2⟩:=I1.freezeL hH
  exact main _ o I2 upd_same (q o)
 ·exact main _ o I1 hH q
end
end L2
namespace PD
open PySem PySem.Spec PyProof.Rows L2
noncomputable def aFrz (m:EM):AM:=fun r S=>(m r S).bind fun d S1=>match d with
 | .ref n=>match S1[n]? with
  | some (.lst xs)=>.ok xs (S1.set n (.flst xs))
  | some (.flst xs)=>.ok xs S1
  | _=>.bad
 | _=>.bad
theorem ri_frz {K:PySem.W.Frag} {w:Wd} {H:Hp} {a:Addr} {o:Obj} {ds:List D} {vs:List V} (hst:∀ w' H',Ext w H w' H'→H' a=some (.frz o (.lst vs))) (q:RDs K w H ds vs):RI K w H ds (Itl K a):=by
 intro i w' H' x'
 have q':=RDs.ext x' _ _ q
 have sq:SqL K H' a vs:=.inl (.inr ⟨o,hst w' H' x'⟩)
 refine ⟨fun hi=>⟨⟨vs,vs[i]'(by rw [q.length]; exact hi),sq,List.getElem?_eq_getElem _⟩,fun x H'' y=>?_⟩,fun hi=>⟨vs,sq,by rw [q.length]; exact hi⟩⟩
 obtain ⟨rfl,y⟩:=y
 refine ⟨.inl rfl,fun S _=>⟨ds[i],List.getElem?_eq_getElem hi,?_⟩⟩
 obtain ⟨v,e,rv⟩:=q'.get (List.getElem?_eq_getElem hi)
 rw [y vs sq] at e
 cases e
 exact rv
section
variable {X:Cx} {E:XK}
theorem si_frz {tg:Expr} {d:Expr} {md:EM} (ha:SE X E d md):SI X E tg d (aFrz md):=⟨
 pi_weak (pi_frz ha.out) fun s H Q zq=>ex6 zq fun w r S hr hS hp=>⟨w,r,S,hr,hS,hp.bind hS fun d S1 w1 H1 v x1 q1 s1 p1=>by
  cases d with
  | ref m=>
   obtain ⟨pp,rfl,hp⟩:=q1.refI
   have hm:pp ∈ w1.st:=List.mem_of_getElem? hp
   cases e:S1[m]? with
   | none=>simp only [e] at p1; exact p1.elim
   | some ob=>
    obtain ⟨p',hp',ro⟩:=s1.obj _ _ e
    rw [hp] at hp'; cases hp'
    cases ob with
    | lst xs=>
     simp only [e] at p1
     obtain ⟨vs,hv,rk⟩:=ro
     refine ⟨pp,vs,rfl,.inl ⟨hv,fun o=>?_⟩⟩
     have rk':=RDs.ext (Ext.mut hm hv (o:=.frz o (.lst vs))) _ _ rk
     exact Post.at p1 (Ext.mut hm hv) (ri_frz (fun w' H' x'=>x'.frz _ _ _ upd_same) rk') (s1.mut hp hv ⟨o,vs,upd_same,rk'⟩)
    | flst xs=>
     simp only [e] at p1
     obtain ⟨o,vs,hv,rk⟩:=ro
     exact ⟨pp,vs,rfl,.inr ⟨o,hv,Post.ret p1 (ri_frz (fun w' H' x'=>x'.frz _ _ _ hv) rk) s1⟩⟩
    | dic xs=>simp only [e] at p1; exact p1.elim
    | fdic xs=>simp only [e] at p1; exact p1.elim
    | ins c fs=>simp only [e] at p1; exact p1.elim
  | _=>exact p1.elim⟩⟩
end
end PD
namespace PD
open PySem PySem.Spec PyProof.Rows L2
section
variable {X:Cx} {E:XK}
end
end PD
namespace PD
open PySem PySem.Spec PyProof.Rows L2
section
variable {X:Cx} {E:XK} {a:Expr} {ma:EM}
end
end PD
namespace PySem
open PyProof.Rows
namespace F
end F
section
variable {prog:Program} {w:World} {A:Around} {E:Value→Shared→Prop} {s:Shared}
open AutoSeq1 (wpAny_loadPart')
end
end PySem
namespace L2
open PySem PySem.Spec PyProof.Rows
section
variable {X:Cx}
end
end L2
namespace PD
open PySem PySem.Spec PyProof.Rows L2
theorem RDs.rev {K:PySem.W.Frag} {w:Wd} {H:Hp}:∀ {ds:List D} {vs:List V},RDs K w H ds vs→RDs K w H ds.reverse vs.reverse
 | [],_,h=>by cases h; exact .nil
 | d :: ds,_,h=>by
  obtain ⟨v,r,rfl,q,qs⟩:=h
  rw [List.reverse_cons,List.reverse_cons]
  exact RDs.append (RDs.rev qs) (.cons q .nil)
section
variable {X:Cx} {E:XK} {a:Expr}
end
end PD
namespace L2
open PySem PySem.Spec PyProof.Rows
section
variable {X:Cx}
end
end L2
namespace PD
open PySem PySem.Spec PyProof.Rows L2
section
variable {X:Cx} {E:XK}
end
end PD
namespace PySem
section
variable {M:Model} {A:Around} {E:Value→Shared→Prop} {s:Shared} {env:Env}
end
end PySem
namespace L2
open PySem PySem.Spec PyProof.Rows
section
variable {X:Cx} {pins:List (Addr × Obj)} {σ:St} {H:Hp} {s:Shared}
end
end L2
namespace PD
open PySem PySem.Spec PyProof.Rows L2
section
variable {X:Cx} {E:XK}
end
end PD
namespace PD
open PySem PySem.Spec PyProof.Rows L2
section
variable {X:Cx} {E:XK}
end
end PD
namespace PD
open PySem PySem.Spec PyProof.Rows L2
section
variable {prog:Program} {w:World} {A:Around} {Ex:Value→Shared→Prop} {s:Shared}
end
section
variable {X:Cx} {E:XK}
end
end PD
namespace L2
open PySem PySem.Spec PyProof.Rows
section
variable {X:Cx}
end
end L2
namespace PD
open PySem PySem.Spec PyProof.Rows L2
section
variable {X:Cx} {E:XK} {a:Expr}
end
end PD
namespace PySem
open PyProof.Rows
open Sem (wp)
namespace F
end F
section
variable {prog:Program} {w:World} {A:Around} {E:Value→Shared→Prop}
end
section
variable {prog:Program} {w:World} {K:Type} [DecidableEq K] {knd:KeyKind prog w K} {A:Around} {R:Result→Shared→Prop}
end
section
variable {prog:Program} {w:World} {K:Type} [DecidableEq K] {knd:KeyKind prog w K} {A:Around} {E:Value→Shared→Prop} {s:Shared}
end
end PySem
namespace L2
open PySem PySem.Spec PyProof.Rows
section
variable {X:Cx}
end
end L2
namespace PD
open PySem PySem.Spec PyProof.Rows L2
section
variable {X:Cx} {E:XK}
end
end PD
namespace L2
open PySem PySem.Spec PyProof.Rows
section
variable {X:Cx}
end
end L2
namespace PD
open PySem PySem.Spec PyProof.Rows L2
section
variable {X:Cx} {E:XK}
variable {d:Expr} {md:EM} {x:Str} {p pos0 apos pos:Pos}
end
section
variable {X:Cx} {E:XK}
end
end PD
namespace PD
open PySem PySem.Spec PyProof.Rows L2
section
variable {K:PySem.W.Frag} {w w':Wd} {H H':Hp}
end
section
variable {X:Cx} {E:XK} {c f m x:Str} {a b o v:Expr} {ma mo mv:EM} {es:List Expr} {ms:AM} {k n:Nat} {F:FM} {p pos apos tpos:Pos}
end
section
variable {P:Program} {w:World} {K:PySem.W.Frag} {mg:Str→Option Value} {base:Heap}
end
end PD
namespace PD
open PySem PySem.Spec PyProof.Rows L2
noncomputable def mPop0:Sto→D→R D
 | S,.ref n=>match S[n]? with
  | some (.lst a)=>match a[a.length - 1]? with
   | some y=>.ok y (S.set n (.lst a.dropLast))
   | none=>.bad
  | _=>.bad
 | _,_=>.bad
noncomputable def ePop0 (o:EM):EM:=fun r S=>(o r S).bind fun x S1=>mPop0 S1 x
section
variable {X:Cx} {E:XK} {o:Expr} {mo:EM} {apos cpos:Pos}
theorem drop_rds {K:PySem.W.Frag} {w:Wd} {H:Hp} {ds:List D} {vs:List V} (q:RDs K w H ds vs):RDs K w H ds.dropLast vs.dropLast:=by
 rw [List.dropLast_eq_take,List.dropLast_eq_take,q.length]
 exact q.take _
theorem se_pop0 (ho:SE X E o mo) (hbase:autoParam (attributeBase o "pop" X.env (eval o X.env)=eval o X.env) Au.h0._auto_1) (hline:autoParam ((apos.endLine == cpos.line)=true) Au.h0._auto_1):SE X E (.Call (.Attribute o "pop" apos) [] [] cpos) (ePop0 mo):=⟨
 pe_weak (pe_bm0 PySem.F.plainAttrs_list PySem.F.slot_list_pop PySem.F.type_list_pop mt_pop ho.out hbase hline) fun s H Q zq=>ex6 zq fun w r S hr hS hp=>⟨w,r,S,hr,hS,hp.bind hS fun d S1 w1 H1 v x1 q1 s1 p1=>by
  unfold mPop0 at p1
  split at p1
  ·rename_i n
   split at p1
   ·rename_i a hn
    split at p1
    ·rename_i y hy
     obtain ⟨pp,rfl,hpp⟩:=q1.refI
     obtain ⟨p',hp',vs,hv,ra⟩:=s1.obj _ _ hn
     rw [hpp] at hp'; cases hp'
     have hm:pp ∈ w1.st:=List.mem_of_getElem? hpp
     obtain ⟨yv,hyv,ry⟩:=ra.get hy
     refine ⟨?_,pp,vs,yv,rfl,rfl,hv,by rw [ra.length]; exact hyv,Post.at p1 (Ext.mut hm hv) (RD.ext (Ext.mut hm hv) _ _ ry) ?_⟩
     ·exact isL_ok s1 (d:=.ref n) (by unfold RD; exact ⟨pp,rfl,hpp⟩) (by simp only [isL,hn])
     ·exact s1.mut hpp hv ⟨_,upd_same,RDs.ext (Ext.mut hm hv) _ _ (drop_rds ra)⟩
    ·exact p1.elim
   ·exact p1.elim
  ·exact p1.elim⟩⟩
end
end PD
namespace PD
open PySem PySem.Spec PyProof.Rows L2
section
variable {X:Cx} {E:XK} {a b c:Expr} {ma mb mc:EM} {pos:Pos}
end
end PD
namespace PD
open PySem PySem.Spec PyProof.Rows L2
noncomputable def eCompR (it:AM) (k:Nat) (caps:List Nat) (g:G) (t:TM) (e:EM):EM:=fun r S=>(it r S).bind fun xs S1=>
 if xs.length≤sizeLine then (compL g t e xs (capOf k caps r) S1).bind fun ys S2=>.ok (.ref S2.length) (S2 ++ [.lst ys]) else .bad
theorem se_compR {qb:Bool} {X:Cx} {E:XK} {elt tg iter:Expr} {ifs:List Expr} {scope:Scope} {pos:Pos} {N:List Str} {k:Nat} {caps:List Nat} {it:AM} {g:G} {mt:TM} {me:EM} (hX:Cd qb X) (hxe:∀ e s,¬ X.xe e s) (C:CompScope X N k caps scope)
  (hi:SIb qb X E tg iter it) (hg:∀ cl s0 H0 ex,Cd qb (cxC X N scope cl s0 H0 ex)→SG (cxC X N scope cl s0 H0 ex) tg g) (ht:∀ cl s0 H0 ex,Cd qb (cxC X N scope cl s0 H0 ex)→SIf (cxC X N scope cl s0 H0 ex) E ifs mt) (he:∀ cl s0 H0 ex,Cd qb (cxC X N scope cl s0 H0 ex)→SE (cxC X N scope cl s0 H0 ex) E elt me)
  (hs:autoParam (∀ x,foldedSetIterable iter X.env x=pure x) Au.h4._auto_1):SE X E (.ListComp elt [⟨tg,iter,ifs,0⟩] scope pos) (eCompR it k caps g mt me):=⟨
 pe_weak (pe_compQ hX hxe C hi.out (g:=uG X.K g) (fun cl s0 H0 ex z=>(hg cl s0 H0 ex z).out) (tt:=uT X.K E mt) (fun cl s0 H0 ex z=>(ht cl s0 H0 ex z).out) (te:=uE X.K E me) (fun cl s0 H0 ex z=>(he cl s0 H0 ex z).out) hs) fun s H Q zq=>ex6 zq fun w r S hr hS hp=>⟨w,r,S,hr,hS,hp.bind hS fun ds S1 w1 H1 J x1 q1 s1 p1=>by
  intro p hp
  have hr1:=hr.ext x1
  have pno:p ∉ w1.hid:=(s1.fresh hp).2
  have hz:ds.length≤sizeLine:=by
   rcases Nat.lt_or_ge sizeLine ds.length with z | z
   ·rw [if_neg (by omega)] at p1; exact p1.elim
   ·exact z
  rw [if_pos hz] at p1
  -- the list is made at p,which is hidden
  refine ⟨fun i n s' H'=>n=ds.length - i∧i≤ds.length∧∃ w' r' S' ys vs,Ext w1 H1 w' H'∧p ∈ w'.hid∧RSt X.K w' H' r' s'∧RS X.K w' H' S'∧H' p=some (.lst vs)∧RDs X.K w' H' ys vs∧ys.length≤i∧
    Post X.K E (RD X.K) w1 H1 ((compL g mt me (ds.drop i) r' S').bind fun zs S2=>R.ok (.ref S2.length) (S2 ++ [SO.lst (ys ++ zs)])) Q,
   ⟨ds.length,by simp,Nat.zero_le _,w1.hide p,capOf k caps r,S1,[],[],Ext.hide hp,List.mem_cons_self,(cap_rel k caps hr1).ext (Ext.hide hp),s1.hide hp,upd_same,.nil,Nat.le_refl _,p1⟩,?_⟩
  rintro i n s2 H2 ⟨rfl,hi.out,w2,r2,S2,ys,vs,x2,hph,hr2,hS2,hpv,ry,hyl,hp2⟩
  have hpn:p ∉ w2.st:=(hS2.hid p hph).1
  by_cases hlt:i < ds.length
  ·obtain ⟨go,yld⟩:=(q1 i w2 H2 x2).1 hlt
   refine .inr ⟨go,fun s' H'=>∃ w' r' S' ys vs,Ext w1 H1 w' H'∧p ∈ w'.hid∧RSt X.K w' H' r' s'∧RS X.K w' H' S'∧H' p=some (.lst vs)∧RDs X.K w' H' ys vs∧ys.length≤i + 1∧
     Post X.K E (RD X.K) w1 H1 ((compL g mt me (ds.drop (i + 1)) r' S').bind fun zs S2=>R.ok (.ref S2.length) (S2 ++ [SO.lst (ys ++ zs)])) Q,
    fun s' H' hN=>⟨ds.length - (i + 1),by omega,rfl,hlt,hN⟩,fun x H3 hy=>?_⟩
   obtain ⟨gr,rd⟩:=yld x H3 hy
   obtain ⟨d,ed,qd⟩:=rd S2 hS2
   obtain ⟨x3,s3⟩:=grown_ok gr hS2
   have hdrop:ds.drop i=d :: ds.drop (i + 1):=by
    rw [List.drop_eq_getElem_cons hlt]
    rw [List.getElem?_eq_getElem hlt] at ed
    cases ed; rfl
   rw [hdrop] at hp2
   have hpv3:H3 p=some (.lst vs):=x3.keep _ _ hpv hpn
   have ry3:=RDs.ext x3 _ _ ry
   have x13:Ext w1 H1 w2 H3:=x2.trans' x3 s1 hS2
   unfold compL at hp2
   cases e:g.put d r2 with
   | none=>rw [e] at hp2; exact hp2.elim
   | some r3=>
    rw [e] at hp2
    refine ⟨w2,r2,d,r3,hr2.ext x3,qd,e,fun s4 hr4=>⟨w2,r3,S2,hr4,s3,?_⟩⟩
    -- hp2:(mt r3 S2).bind .. |>.bind ..
    have hass:∀ {A B C:Type} (r:R A) (f:A→Sto→R B) (h:B→Sto→R C),(r.bind f).bind h=r.bind fun a S=>(f a S).bind h:=fun r f h=>by cases r <;> rfl
    simp only [hass] at hp2
    refine Post.bindAt (rel:=RB) hp2 x13 s1 s3 fun c S5 w5 H5 c' x5 q5 s5 p5=>?_
    have ec:c'=c:=q5
    subst ec
    have x15:Ext w1 H1 w5 H5:=x13.trans' x5 s1 s3
    have hph5:p ∈ w5.hid:=x5.hid p hph
    have hpv5:H5 p=some (.lst vs):=x5.keep _ _ hpv3 hpn
    cases c' with
    | false=>
     refine iteF ⟨w5,r3,S5,ys,vs,x15,hph5,hr4.ext x5,s5,hpv5,RDs.ext x5 _ _ ry3,Nat.le_succ_of_le hyl,p5⟩
    | true=>
     refine iteT ⟨w5,r3,S5,hr4.ext x5,s5,?_⟩
     have p5':Post X.K E (RD X.K) w1 H1 (((me r3 S5).bind fun y S2=>(compL g mt me (ds.drop (i + 1)) r3 S2).bind fun ys S3=>R.ok (y :: ys) S3).bind fun zs S2=>R.ok (D.ref S2.length) (S2 ++ [SO.lst (ys ++ zs)])) Q:=p5
     simp only [hass] at p5'
     refine Post.bindAt (rel:=RD X.K) p5' x15 s1 s5 fun y S6 w6 H6 yv x6 q6 s6 p6=>?_
     have x16:Ext w1 H1 w6 H6:=x15.trans' x6 s1 s5
     have hph6:p ∈ w6.hid:=x6.hid p hph5
     have hpn5:p ∉ w5.st:=(s5.hid p hph5).1
     have hpn6:p ∉ w6.st:=(s6.hid p hph6).1
     have hpv6:H6 p=some (.lst vs):=x6.keep _ _ hpv5 hpn5
     have ry6:=RDs.ext x6 _ _ (RDs.ext x5 _ _ ry3)
     refine ⟨vs,hpv6,by rw [ry6.length]; omega,w6,r3,S6,ys ++ [y],vs ++ [yv],⟨fun a o h n=>?_,x16.sub,x16.hid,x16.hnew,fun a o u h=>by have z:=x16.frz a o u h; rw [upd_ne (fun e:a=p=>by rw [e,hpv6] at z; cases z)]; exact z⟩,hph6,(hr4.ext x5).ext x6 |>.mv (Mv.write hph6),s6.write hph6,upd_same,(RDs.mv (Mv.write hph6) _ _ ry6).append (.cons (RD.mv (Mv.write hph6) _ _ q6) .nil),by simp; omega,?_⟩
     ·have:a ≠ p:=ne_of_none h hp
      rw [upd_ne this]; exact x16.keep a o h n
     ·have he2:∀ zs:List D,(ys ++ [y]) ++ zs=ys ++ y :: zs:=fun zs=>by simp
      simp only [he2]
      exact p6
  ·have e:i=ds.length:=by omega
   subst e
   rw [List.drop_length] at hp2
   refine .inl ⟨(q1 _ w2 H2 x2).2 (Nat.le_refl _),?_⟩
   have hp3:Post X.K E (RD X.K) w1 H1 (R.ok (D.ref S2.length) (S2 ++ [SO.lst (ys ++ [])])) Q:=hp2
   rw [List.append_nil] at hp3
   have eH:upd H2 p (.lst vs)=H2:=funext fun a=>by
    by_cases e:a=p
    ·subst e; rw [upd_same,hpv]
    ·rw [upd_ne e]
   have sA:=hS2.adopt (so:=.lst ys) hph (o:=.lst vs) ⟨vs,upd_same,RDs.mv (Mv.adopt hph) _ _ ry⟩
   rw [eH] at sA
   refine Post.at hp3 (w1:=(w2.unhide p).add p) ⟨fun a o h n=>x2.keep a o h n,?_,fun a h=>List.mem_filter.mpr ⟨x2.hid a h,decide_eq_true fun z=>pno (z ▸ h)⟩,fun a h=>x2.hnew a (Wd.mem_unhide h).1,x2.frz⟩ ?_ sA
   ·obtain ⟨l,e,f⟩:=x2.sub
    exact ⟨l ++ [p],by show w2.st ++ [p]=_; rw [e,List.append_assoc],fun a ha=>(List.mem_append.mp ha).elim (f a) fun z=>by rw [List.mem_singleton.mp z]; exact hp⟩
   ·unfold RD
    exact ⟨p,rfl,by show (w2.st ++ [p])[S2.length]?=some p; rw [← hS2.len]; simp⟩⟩⟩
noncomputable def okPyS (p:PyData):Prop:=p.showable=true∧p.depth≤40∧p.shown.length≤sizeLine∧p.hasDict=false
noncomputable instance (p:PyData):Decidable (okPyS p):=by unfold okPyS; infer_instance
noncomputable def fReprS:Sto→List D→Option D
 | S,[d]=>match toPyS S d with
  | some p=>if okPyS p then some (.str p.shown) else none
  | none=>none
 | _,_=>none
section
variable {X:Cx} {E:XK}
theorem xc_reprS {k:Nat} (hr:Room k X.A):CallR X (.builtin "repr") (xC X.K E fReprS):=by
 rintro pins s σ H xs us Q I r ⟨w,S,ds,hS,qs,p⟩
 obtain ⟨z,hz,p'⟩:=p.of
 clear p
 unfold fReprS at hz
 split at hz
 ·rename_i d
  obtain ⟨v,rfl,q⟩:=qs.one_inv
  obtain ⟨u,rfl,ru⟩:=vals1 r
  cases e:toPyS S d with
  | none=>rw [e] at hz; cases hz
  | some py=>
   rw [e] at hz
   simp only at hz
   split at hz
   ·rename_i ok
    cases hz
    obtain ⟨as,rd⟩:=reads_okS I hS q ru e
    have hu:X.A.units + (py.depth + 1) < cLine:=by have:=hr.un; have:=ok.2.1; omega
    have hsm:py.hasDict=true→sysModules ∉ as:=fun hd=>by
     rw [ok.2.2.2] at hd; cases hd
    have fin:∀ tk h' t,(∀ b o,s.heap.get? b=some o→h'.get? b=some o)→EP X pins σ Q (.str py.shown t) { s with heap:=h',toks:=tk }:=fun tk h' t hk=>⟨.str py.shown,H,I.kept hk,⟨t,rfl⟩,p'.ret RD.mkS hS⟩
    have stay:∀ b o,s.heap.get? b=some o→s.heap.get? b=some o:=fun _ _ z=>z
    cases rd with
    | none=>exact PySem.P.repr_of_none (fin _ _ _ stay)
    | bool b=>
     have z:=fin (s.toks + 1) s.heap s.toks stay
     unfold PyData.shown at z
     refine PySem.P.repr_of_bool ?_
     cases b <;> exact z
    | int i t=>exact PySem.P.repr_of_int (of_decide_eq_true (by have:=ok.1; unfold PyData.showable at this; exact this)) (fin _ _ _ stay)
    | str x t=>exact PySem.P.repr_of_str (fin _ _ _ stay) (by have:=ok.2.2.1; unfold PyData.shown at this; exact this)
    | list h1 h2 h3 h4=>exact repr_of_reads' (.list h1 h2 h3 h4) ok.1 hsm hr.gd hu stay (fun h' u tk hk=>fin tk h' u hk) ok.2.2.1
    | tuple h1 h2 h3 h4=>exact repr_of_reads' (.tuple h1 h2 h3 h4) ok.1 hsm hr.gd hu stay (fun h' u tk hk=>fin tk h' u hk) ok.2.2.1
    | dict h1 h2 h3 h4 h5=>exact repr_of_reads' (.dict h1 h2 h3 h4 h5) ok.1 hsm hr.gd hu stay (fun h' u tk hk=>fin tk h' u hk) ok.2.2.1
   ·cases hz
 ·cases hz
end
end PD
namespace PD
open PySem PySem.Spec PyProof.Rows L2
open AutoSeq1 (wpAny_loadPart')
open MeetsSeq MeetsSeq2 MeetsSeq3 SeqRoads2 PySem.SeqAt
theorem ltZ_refl:∀ xs:List Int,ltZ xs xs=false
 | []=>rfl
 | x :: xs=>by rw [ltZ_eq rfl]; exact ltZ_refl xs
theorem reads_ints {h:Heap}:∀ {vs:List Value} {xs:List Int},IntsAre vs xs→ReadsAll h vs (xs.map PyData.int) []
 | _,_,.nil=>.nil
 | _,_,.cons n t r=>by
  have:=ReadsAll.cons (Reads.int (h:=h) n t) (reads_ints (h:=h) r)
  exact this
theorem lay_ints:∀ xs:List Int,PyData.canLayAll0 (xs.map PyData.int)=true
 | []=>rfl
 | x :: xs=>by
  rw [List.map_cons]
  unfold PyData.canLayAll0
  rw [lay_ints xs]
  rfl
theorem dep_ints:∀ xs:List Int,PyData.depthAll (xs.map PyData.int)=0
 | []=>rfl
 | x :: xs=>by
  rw [List.map_cons]
  unfold PyData.depthAll
  rw [dep_ints xs]
  rfl
theorem eqv_tints:∀ xs ys:List Int,PyData.eqvAll (xs.map PyData.int) (ys.map PyData.int)=decide (xs=ys)
 | [],[]=>by simp [PyData.eqvAll]
 | [],y :: ys=>by simp [PyData.eqvAll]
 | x :: xs,[]=>by simp [PyData.eqvAll]
 | x :: xs,y :: ys=>by
  simp only [List.map_cons,PyData.eqvAll,eqv_tints xs ys,PyData.eqv]
  rw [Bool.eq_iff_iff]
  simp
theorem tup_eqAt {A:Around} {s:Shared} {p q:Addr} {its its2:Array Value} {xs ys:List Int} (hp:s.heap.IsTuple p its) (hq:s.heap.IsTuple q its2) (hx:IntsAre its.toList xs) (hy:IntsAre its2.toList ys) (hu:A.units + 1 < cLine):EqAt A s (.ref p) (.ref q) (decide (xs=ys)):=by
 obtain ⟨o,ho,hc,n,hd⟩:=hp
 obtain ⟨o2,ho2,hc2,n2,hd2⟩:=hq
 have e:=eqAt_reads (.tuple (xs.map .int)) (.tuple (ys.map .int)) A s (.ref p) (.ref q) _ _ (.tuple ho hc hd (reads_ints hx)) (.tuple ho2 hc2 hd2 (reads_ints hy)) (by unfold PyData.canLay0; exact lay_ints xs) (by unfold PyData.canLay0; exact lay_ints ys) (by
  have d1:(PyData.tuple (xs.map .int)).depth≤1:=by unfold PyData.depth; rw [dep_ints]; decide
  have:min (PyData.tuple (xs.map .int)).depth (PyData.tuple (ys.map .int)).depth≤1:=Nat.le_trans (Nat.min_le_left _ _) d1
  omega)
 have e2:PyData.eqv (.tuple (xs.map .int)) (.tuple (ys.map .int))=decide (xs=ys):=by rw [PyData.eqv]; exact eqv_tints xs ys
 rw [e2] at e
 exact e
noncomputable def ltP (p q:Int × List Int):Bool:=if p.1=q.1 then ltZ p.2 q.2 else decide (p.1 < q.1)
noncomputable def PrAt (h:Heap) (v:Value) (n:Int × List Int):Prop:=∃ a t p its,v=.ref a∧h.IsTuple a #[.int n.1 t,.ref p]∧h.IsTuple p its∧IntsAre its.toList n.2
noncomputable def prD (n:Int × List Int):D:=.tup [.int n.1,.tup (n.2.map .int)]
noncomputable def prOf:D→Option (Int × List Int)
 | .tup [.int a,.tup b]=>(intsOf b).map fun n=>(a,n)
 | _=>none
noncomputable def prsOf:List D→Option (List (Int × List Int))
 | []=>some []
 | d :: r=>match prOf d,prsOf r with
  | some n,some ns=>some (n :: ns)
  | _,_=>none
theorem pr_back {d:D} {n:Int × List Int} (h:prOf d=some n):d=prD n∧∃ b,d=.tup [.int n.1,.tup b]∧intsOf b=some n.2:=by
 unfold prOf at h
 split at h
 ·rename_i a b
  cases e:intsOf b with
  | none=>rw [e] at h; cases h
  | some k=>
   rw [e] at h; cases h
   have:=ints_back e
   exact ⟨by rw [this]; rfl,b,rfl,e⟩
 ·cases h
section
variable {X:Cx} {E:XK} {pins:List (Addr × Obj)} {σ:L2.St} {H:Hp} {s:Shared}
theorem pr_are {w:Wd} (I:Inv X pins σ H s) {d:D} {y:V} {v:Value} {n:Int × List Int} (q:RD X.K w H d y) (r:RelV y v) (h:prOf d=some n):PrAt s.heap v n:=by
 obtain ⟨_,b,rfl,e⟩:=pr_back h
 obtain ⟨pa,xs,rfl,za,ra⟩:=q.tupI
 obtain ⟨its,r1,p1,_⟩:=I.tuple (SqT_of za)
 cases r
 obtain ⟨v1,vs1,rfl,q1,ra⟩:=ra.cons_inv
 obtain ⟨v2,vs2,rfl,q2,ra⟩:=ra.cons_inv
 rw [ra.nil_inv] at r1
 cases q1.int
 cases r1 with
 | cons r1 rr=>
  cases rr with
  | cons r2 rr=>
   cases rr
   obtain ⟨t,rfl⟩:=r1
   obtain ⟨pb,xs2,rfl,zb,rb⟩:=q2.tupI
   obtain ⟨its2,r3,p2,_⟩:=I.tuple (SqT_of zb)
   cases r2
   exact ⟨pa,t,pb,its2.toArray,rfl,p1,p2,by simpa using ints_are rb r3 e⟩
theorem prs_are {w:Wd} (I:Inv X pins σ H s):∀ {ds:List D} {vs:List V} {us:List Value} {ns:List (Int × List Int)},RDs X.K w H ds vs→Vals vs us→prsOf ds=some ns→us.length=ns.length∧∀ (i:Nat) (v:Value),us[i]?=some v→PrAt s.heap v (ns.getD i (0,[]))∧∃ y,RelV y v∧RD X.K w H (prD (ns.getD i (0,[]))) y
 | [],_,_,_,q,r,h=>by
  rw [q.nil_inv] at r
  cases r
  unfold prsOf at h
  cases h
  exact ⟨rfl,fun i v h=>by simp at h⟩
 | d :: ds,_,_,ns,q,r,h=>by
  obtain ⟨y,vs,rfl,p,t⟩:=q.cons_inv
  unfold prsOf at h
  split at h
  ·rename_i n ns' e1 e2
   cases h
   cases r with
   | cons rv rr=>
    obtain ⟨l,g⟩:=prs_are I t rr e2
    refine ⟨by simp [l],fun i v hv=>?_⟩
    cases i with
    | zero=>
     cases hv
     exact ⟨pr_are I p rv e1,y,rv,by have:=(pr_back e1).1; subst this; exact p⟩
    | succ i=>exact g i v (by simpa using hv)
  ·cases h
end
section
variable {X:Cx} {E:XK}
end
section
variable {X:Cx} {E:XK}
variable {d:Expr} {md:EM} {x:Str} {p pos0 apos pos:Pos}
end
end PD
namespace PD
open PySem PySem.Spec PyProof.Rows L2
section
variable {X:Cx} {E:XK} {a b:Expr} {pos:Pos}
end
end PD
namespace PySem
open PyProof.Rows
section
variable {prog:Program} {w:World} {A:Around} {E:Value→Shared→Prop} {s:Shared} {K:Type} [DecidableEq K] {knd:KeyKind prog w K}
end
end PySem
namespace PD
open PySem PySem.Spec PyProof.Rows L2
section
variable {X:Cx} {E:XK}
end
end PD
namespace L2
open PySem PySem.Spec PyProof.Rows
section
variable {X:Cx}
end
end L2
namespace PD
open PySem PySem.Spec PyProof.Rows L2
section
variable {X:Cx} {E:XK} {d:Expr} {md:EM} {apos pos:Pos}
end
section
variable {X:Cx} {E:XK}
end
end PD
namespace PD
open PySem PySem.Spec PyProof.Rows L2
section
variable {X:Cx} {E:XK}
end
end PD
namespace L2
open PySem PySem.Spec PyProof.Rows
section
variable {X:Cx}
end
end L2
namespace PD
open PySem PySem.Spec PyProof.Rows L2
section
variable {X:Cx} {E:XK}
end
section
variable {X:Cx} {E:XK}
end
end PD
namespace PD
open PySem PySem.Spec PyProof.Rows L2
end PD
namespace PD
open PySem PySem.Spec PyProof.Rows L2
section
variable {X:Cx} {E:XK}
end
end PD
namespace PySem
section
variable {M:Model} {A:Around} {E:Value→Shared→Prop} {s:Shared} {bs:Heap} {en:Env} {out:List Env} {L e:Addr} {cl a0 fl:Value}
end
end PySem
namespace L2
open PySem PySem.Spec PyProof.Rows
section
variable {X:Cx} {pins:List (Addr × Obj)} {σ:St} {H H':Hp} {s s':Shared} {E:XK} {ea:Addr} {cls:Value}
end
end L2
namespace PD
open PySem PySem.Spec PyProof.Rows L2
section
variable {P:Program} {w:World} {K:PySem.W.Frag} {mg:Str→Option Value} {base:Heap} {N:List Str} {qual:Str} {scope:Scope} {f:Addr} {cdv:Value} {A:Around} {outer:List Env} {s:Shared} {H:Hp} {E:XK}
end
section
variable {prog:Program} {w:World} {A:Around} {R:Result→Shared→Prop} {s:Shared}
end
end PD
namespace HT
open PySem PySem.Spec PyProof.Rows
section
variable {prog:Program} {w:World} {A:Around} {E:Value→Shared→Prop} {s:Shared}
end
end HT
namespace L2
open PySem PySem.Spec PyProof.Rows
section
variable {X:Cx}
noncomputable def RvR (X:Cx) (r:V→Hp→VK→Prop):Prop:=
 ∀ (pins:List (Addr × Obj)) (s:Shared) (σ:St) (H:Hp) (x:V) (v:Value) (t:Tok) (sl:Addr) (Q:VK),Inv X pins σ H s→RelV x v→s.heap.IsSliceOf sl .none .none (.int (-1) t)→r x H Q→
  ∃ T id,typeLookup (.type T) "__getitem__" = pure (some (.builtin id))∧s.TypeIs v T∧wpAny (model X.prog X.w) X.A (getItem v (.ref sl)) (EP X pins σ Q) X.xe s
noncomputable def tRv (r:V→Hp→VK→Prop) (te ts:TE):TE:=fun σ H Q=>te σ H fun x H1=>ts σ H1 fun i H2=>i=.int (-1)∧r x H2 Q
theorem pe_rev {r:V→Hp→VK→Prop} {e st:Expr} {te ts:TE} {p2 pos:Pos} (hr:RvR X r) (he:PE X e te) (hs:PE X st ts):PE X (.Subscript e (.Slice none none (some st) p2) pos) (tRv r te ts):=by
 intro pins s σ H Q I h
 refine Subscript_ (thn (he pins s σ H _ I h) fun v s1 zq=>?_)
 obtain ⟨x,H1,I1,r1,q1⟩:=zq
 refine wpAny_Slice ?_
 rw [evalPart_none]
 refine wpAny_pure (wpAny_pure ?_)
 rw [evalPart_some]
 refine thn (hs pins s1 σ H1 _ I1 q1) fun vk s3 zq=>?_
 obtain ⟨i,H3,I3,r3,ei,q3⟩:=zq
 subst ei
 obtain ⟨t,rfl⟩:=r3
 have I4:Inv X pins σ H3 { s3 with heap:=s3.heap.push { cls:=.type "slice",data:=.fields #[.none,.none,.int (-1) t] } }:=I3.kept (t':=s3.toks) fun b ob q=>Heap.get?_push_of_some _ q
 obtain ⟨T,id,hT,ht,hg⟩:=hr pins { s3 with heap:=s3.heap.push { cls:=.type "slice",data:=.fields #[.none,.none,.int (-1) t] } } σ H3 x v t s3.heap.objs.size Q I4 r1 (Heap.IsSliceOf.new ..) q3
 show wpAny (model X.prog X.w) X.A (subscriptTail e (.Slice none none (some st) p2) v (.ref s3.heap.objs.size)) (EP X pins σ Q) X.xe { s3 with heap:=s3.heap.push { cls:=.type "slice",data:=.fields #[.none,.none,.int (-1) t] } }
 exact tail_any (ops:=[v,.ref s3.heap.objs.size]) ht hT hg (by with_unfolding_all rfl)
end
end L2
namespace PD
open PySem PySem.Spec PyProof.Rows L2
section
variable {X:Cx} {E:XK}
theorem Vals.rev:∀ {xs:List V} {us:List Value},Vals xs us→Vals xs.reverse us.reverse
 | _,_,.nil=>.nil
 | _,_,.cons h t=>by
  rw [List.reverse_cons,List.reverse_cons]
  exact (Vals.rev t).append (.cons h .nil)
end
end PD
namespace SK
open PySem PySem.W PyProof.Rows
noncomputable def run {α:Type} (c:Nat→Nat→Bool):KasT α→α
 | .ret a=>a
 | .ask i j k=>run c (k (c i j))
theorem run_bind {α β:Type} (c:Nat→Nat→Bool) (f:α→KasT β):∀ t:KasT α,run c (t.bind f)=run c (f (run c t))
 | .ret _=>rfl
 | .ask i j k=>run_bind c f (k (c i j))
noncomputable abbrev at' (p:Array Nat) (i:Nat):Nat:=p.getD i 0
theorem at_eq (p:Array Nat) (i:Nat):at' p i=(p[i]?).getD 0:=by
 unfold at'
 rw [Array.getD_eq_getD_getElem?]
theorem at_rev {p:Array Nat} {i j:Nat} (hj:j≤p.size) (k:Nat):at' (kas_rev p i j) k=if i≤k∧k < j then at' p (i + j - 1 - k) else at' p k:=by
 rw [at_eq,at_eq,at_eq]
 unfold kas_rev
 rw [getElem?_mirror_all hj k]
 split <;> rfl
theorem at_bub {p:Array Nat} {k d:Nat} (hk:k < p.size) (hd:d≤k) (i:Nat):at' (bubble p k d) i=if i=k - d then at' p k else if k - d < i∧i≤k then at' p (i - 1) else at' p i:=by
 rw [at_eq,at_eq,at_eq,at_eq,getElem?_bubble hk d hd i]
 repeat' split
 all_goals rfl
structure Ord (c:Nat→Nat→Bool):Prop where
 asym:∀ i j,c i j=true→c j i=false
 trans:∀ i j k,c j i=false→c k j=false→c k i=false
section
variable {c:Nat→Nat→Bool} (O:Ord c)
noncomputable abbrev le (c:Nat→Nat→Bool) (i j:Nat):Prop:=c j i=false
include O
theorem le_refl (i:Nat):le c i i:=by
 show c i i=false
 cases e:c i i with
 | false=>rfl
 | true=>have:=O.asym i i e; rw [e] at this; exact this
theorem le_lt {i j:Nat} (h:c i j=true):le c i j:=O.asym i j h
omit O
noncomputable def Srt (c:Nat→Nat→Bool) (p:Array Nat) (m:Nat):Prop:=∀ i j,i≤j→j < m→le c (at' p i) (at' p j)
noncomputable def Dsc (c:Nat→Nat→Bool) (p:Array Nat) (m:Nat):Prop:=∀ i j,i≤j→j < m→le c (at' p j) (at' p i)
include O
theorem Srt.snoc {p:Array Nat} {n:Nat} (hn:1≤n) (h:Srt c p n) (hl:le c (at' p (n - 1)) (at' p n)):Srt c p (n + 1):=fun i j hij hj=>by
 by_cases e:j=n
 ·subst e
  by_cases e2:i=j
  ·rw [e2]; exact le_refl O _
  ·exact O.trans _ _ _ (h i (j - 1) (by omega) (by omega)) hl
 ·exact h i j hij (by omega)
theorem Dsc.snoc {p:Array Nat} {n:Nat} (hn:1≤n) (h:Dsc c p n) (hl:le c (at' p n) (at' p (n - 1))):Dsc c p (n + 1):=fun i j hij hj=>by
 by_cases e:j=n
 ·subst e
  by_cases e2:i=j
  ·rw [e2]; exact le_refl O _
  ·exact O.trans _ _ _ hl (h i (j - 1) (by omega) (by omega))
 ·exact h i j hij (by omega)
theorem Srt.one (p:Array Nat):Srt c p 1:=fun i j hij hj=>by
 have e:i=j:=by omega
 rw [e]; exact le_refl O _
theorem asc_ok {p:Array Nat}:∀ (f n:Nat),1≤n→Srt c p n→∃ m,run c (kas_asc p f n)=m∧n≤m∧m≤n + f∧Srt c p m∧(m=n + f ∨ c (at' p m) (at' p (m - 1))=true)
 | 0,n,_,h=>⟨n,rfl,Nat.le_refl _,Nat.le_refl _,h,.inl rfl⟩
 | f + 1,n,hn,h=>by
  unfold kas_asc
  show ∃ m,run c (if c (at' p n) (at' p (n - 1))=true then _ else _)=m∧_
  cases e:c (at' p n) (at' p (n - 1)) with
  | true=>exact ⟨n,rfl,Nat.le_refl _,Nat.le_add_right _ _,h,.inr e⟩
  | false=>
   obtain ⟨m,e1,h1,h2,h3,h4⟩:=asc_ok f (n + 1) (by omega) (h.snoc O hn e)
   exact ⟨m,e1,by omega,by omega,h3,h4.elim (fun z=>.inl (by omega)) .inr⟩
omit O in
theorem rev_size (p:Array Nat) (i j:Nat):(kas_rev p i j).size=p.size:=mirror_size _ _ _ _
omit O in
theorem rev_perm (p:Array Nat) (i j:Nat):(kas_rev p i j).Perm p:=mirror_perm _ _ _ _
noncomputable def Eqs (c:Nat→Nat→Bool) (p:Array Nat) (n q:Nat):Prop:=∀ i,n - (q + 1)≤i→i < n→le c (at' p i) (at' p (n - 1))∧le c (at' p (n - 1)) (at' p i)
theorem rev_dsc {p:Array Nat} {n q:Nat} (hn:n≤p.size) (hq:q + 1≤n) (h:Dsc c p n) (he:Eqs c p n q):Dsc c (kas_rev p (n - (q + 1)) n) n∧∀ i,i < n→le c (at' (kas_rev p (n - (q + 1)) n) i) (at' p i)∧le c (at' p i) (at' (kas_rev p (n - (q + 1)) n) i):=by
 have key:∀ i,i < n→le c (at' (kas_rev p (n - (q + 1)) n) i) (at' p i)∧le c (at' p i) (at' (kas_rev p (n - (q + 1)) n) i):=fun i hi=>by
  rw [at_rev hn]
  split
  ·rename_i z
   have a:=he i z.1 hi
   have b:=he (n - (q + 1) + n - 1 - i) (by omega) (by omega)
   exact ⟨O.trans _ _ _ b.1 a.2,O.trans _ _ _ a.1 b.2⟩
  ·exact ⟨le_refl O _,le_refl O _⟩
 exact ⟨fun i j hij hj=>O.trans _ _ _ (key j hj).1 (O.trans _ _ _ (h i j hij hj) (key i (by omega)).2),key⟩
theorem desc_ok:∀ (f:Nat) (p:Array Nat) (n q:Nat),n + f≤p.size→q + 1≤n→Dsc c p n→Eqs c p n q→∃ p' m q',run c (kas_desc f p n q)=(p',m,q')∧p'.Perm p∧p'.size=p.size∧n≤m∧m≤n + f∧q' + 1≤m∧Dsc c p' m∧Eqs c p' m q'
 | 0,p,n,q,_,hq,h,he=>⟨p,n,q,rfl,.rfl,rfl,Nat.le_refl _,Nat.le_refl _,hq,h,he⟩
 | f + 1,p,n,q,hs,hq,h,he=>by
  have one:∀ (x:Array Nat) (m:Nat),1≤m→Eqs c x m 0:=fun x m hm i hi hi2=>by
   have e:i=m - 1:=by omega
   rw [e]; exact ⟨le_refl O _,le_refl O _⟩
  unfold kas_desc
  show ∃ p' m q',run c (if c (at' p n) (at' p (n - 1))=true then _ else _)=(p',m,q')∧_
  cases e:c (at' p n) (at' p (n - 1)) with
  | true=>
   have hlt:=le_lt O e
   simp only [if_true]
   by_cases hq0:q > 0
   ·rw [if_pos hq0]
    obtain ⟨d1,d2⟩:=rev_dsc O (by omega) hq h he
    have hn1:at' (kas_rev p (n - (q + 1)) n) n=at' p n:=by rw [at_rev (by omega),if_neg (by omega)]
    obtain ⟨p',m,q',e1,h1,h2,h3,h4,h5,h6,h7⟩:=desc_ok f (kas_rev p (n - (q + 1)) n) (n + 1) 0 (by rw [rev_size]; omega) (by omega) (d1.snoc O (by omega) (by rw [hn1]; exact O.trans _ _ _ hlt (d2 (n - 1) (by omega)).2)) (one _ _ (by omega))
    exact ⟨p',m,q',e1,h1.trans (rev_perm _ _ _),h2.trans (rev_size _ _ _),by omega,by omega,h5,h6,h7⟩
   ·rw [if_neg hq0]
    obtain ⟨p',m,q',e1,h1,h2,h3,h4,h5,h6,h7⟩:=desc_ok f p (n + 1) 0 (by omega) (by omega) (h.snoc O (by omega) hlt) (one _ _ (by omega))
    exact ⟨p',m,q',e1,h1,h2,by omega,by omega,h5,h6,h7⟩
  | false=>
   simp only [Bool.false_eq_true,if_false]
   show ∃ p' m q',run c (if c (at' p (n - 1)) (at' p n)=true then _ else _)=(p',m,q')∧_
   cases e2:c (at' p (n - 1)) (at' p n) with
   | true=>exact ⟨p,n,q,rfl,.rfl,rfl,Nat.le_refl _,Nat.le_add_right _ _,hq,h,he⟩
   | false=>
    have hE:Eqs c p (n + 1) (q + 1):=fun i hi hi2=>by
     have e9:n + 1 - 1=n:=by omega
     rw [e9]
     by_cases z:i=n
     ·rw [z]; exact ⟨le_refl O _,le_refl O _⟩
     ·have a:=he i (by omega) (by omega)
      exact ⟨O.trans _ _ _ a.1 e,O.trans _ _ _ e2 a.2⟩
    obtain ⟨p',m,q',e1,h1,h2,h3,h4,h5,h6,h7⟩:=desc_ok f p (n + 1) (q + 1) (by omega) (by omega) (h.snoc O (by omega) e2) hE
    exact ⟨p',m,q',e1,h1,h2,by omega,by omega,h5,h6,h7⟩
theorem tail_ok {n nrem:Nat} {p:Array Nat} (h1:1≤n) (hn:n≤nrem) (hz:nrem≤p.size) (h:Dsc c p n):∃ p' m,run c (kas_tail3 n nrem p)=(m,p')∧p'.Perm p∧p'.size=p.size∧1≤m∧m≤nrem∧Srt c p' m:=by
 have hs:Srt c (kas_rev p 0 n) n:=fun i j hij hj=>by
  rw [at_rev (by omega),at_rev (by omega),if_pos (by omega),if_pos (by omega)]
  exact h _ _ (by omega) (by omega)
 obtain ⟨m,e,a1,a2,a3,_⟩:=asc_ok O (p:=kas_rev p 0 n) (nrem - n) n h1 hs
 exact ⟨kas_rev p 0 n,m,by unfold kas_tail3; rw [run_bind,e]; rfl,rev_perm _ _ _,rev_size _ _ _,by omega,by omega,a3⟩
theorem descPart_ok {n nrem:Nat} {p:Array Nat} (h1:1≤n) (hn:n + 1≤nrem) (hz:nrem≤p.size) (h:Dsc c p (n + 1)):∃ p' m,run c (kas_descPart n nrem p)=(m,p')∧p'.Perm p∧p'.size=p.size∧1≤m∧m≤nrem∧Srt c p' m:=by
 obtain ⟨p',m,q',e,b1,b2,b3,b4,b5,b6,b7⟩:=desc_ok O (nrem - (n + 1)) p (n + 1) 0 (by omega) (by omega) h (fun i hi hi2=>by
  have e:i=n + 1 - 1:=by omega
  rw [e]; exact ⟨le_refl O _,le_refl O _⟩)
 unfold kas_descPart
 rw [run_bind,e]
 by_cases hq:q' > 0
 ·obtain ⟨d1,_⟩:=rev_dsc O (by omega) b5 b6 b7
  obtain ⟨p2,m2,e2,f1,f2,f3,f4,f5⟩:=tail_ok O (n:=m) (nrem:=nrem) (p:=kas_rev p' (m - (q' + 1)) m) (by omega) (by omega) (by rw [rev_size]; omega) d1
  refine ⟨p2,m2,?_,f1.trans ((rev_perm _ _ _).trans b1),f2.trans ((rev_size _ _ _).trans b2),f3,f4,f5⟩
  show run c (if q' > 0 then _ else _)=_
  rw [if_pos hq]; exact e2
 ·obtain ⟨p2,m2,e2,f1,f2,f3,f4,f5⟩:=tail_ok O (n:=m) (nrem:=nrem) (p:=p') (by omega) (by omega) (by omega) b6
  refine ⟨p2,m2,?_,f1.trans b1,f2.trans b2,f3,f4,f5⟩
  show run c (if q' > 0 then _ else _)=_
  rw [if_neg hq]; exact e2
theorem count_ok {nrem:Nat} {p:Array Nat} (h1:1≤nrem) (hz:nrem≤p.size):∃ p' m,run c (kas_count nrem p)=(m,p')∧p'.Perm p∧p'.size=p.size∧1≤m∧m≤nrem∧Srt c p' m:=by
 obtain ⟨n,e,a1,a2,a3,a4⟩:=asc_ok O (p:=p) (nrem - 1) 1 (Nat.le_refl _) (Srt.one O p)
 unfold kas_count
 rw [run_bind,e]
 by_cases hn:n=nrem
 ·refine ⟨p,n,?_,.rfl,rfl,a1,by omega,a3⟩
  show run c (if (n == nrem)=true then _ else _)=_
  rw [if_pos (by simpa using hn)]; rfl
 ·have hlt:c (at' p n) (at' p (n - 1))=true:=a4.elim (fun z=>absurd z (by omega)) id
  have hb:¬ ((n == nrem)=true):=by simpa using hn
  by_cases hn1:n > 1
  ·cases e2:c (at' p 0) (at' p (n - 1)) with
   | true=>
    refine ⟨p,n,?_,.rfl,rfl,a1,by omega,a3⟩
    show run c (if (n == nrem)=true then _ else _)=_
    rw [if_neg hb,if_pos hn1]
    show run c (if c (at' p 0) (at' p (n - 1))=true then _ else _)=_
    rw [if_pos e2]; rfl
   | false=>
    have heq:Dsc c (kas_rev p 0 n) n:=fun i j hij hj=>by
     rw [at_rev (by omega),at_rev (by omega),if_pos (by omega),if_pos (by omega)]
     exact a3 _ _ (by omega) (by omega)
    have hlast:at' (kas_rev p 0 n) n=at' p n:=by rw [at_rev (by omega),if_neg (by omega)]
    have hpre:at' (kas_rev p 0 n) (n - 1)=at' p 0:=by rw [at_rev (by omega),if_pos (by omega)]; congr 1; omega
    obtain ⟨p2,m2,e3,f1,f2,f3,f4,f5⟩:=descPart_ok O (n:=n) (nrem:=nrem) (p:=kas_rev p 0 n) a1 (by omega) (by rw [rev_size]; omega) (heq.snoc O a1 (by rw [hlast,hpre]; exact O.trans _ _ _ (le_lt O hlt) e2))
    refine ⟨p2,m2,?_,f1.trans (rev_perm _ _ _),f2.trans (rev_size _ _ _),f3,f4,f5⟩
    show run c (if (n == nrem)=true then _ else _)=_
    rw [if_neg hb,if_pos hn1]
    show run c (if c (at' p 0) (at' p (n - 1))=true then _ else _)=_
    rw [if_neg (by rw [e2]; exact Bool.false_ne_true)]; exact e3
  ·have hn1':n=1:=by omega
   subst hn1'
   obtain ⟨p2,m2,e3,f1,f2,f3,f4,f5⟩:=descPart_ok O (n:=1) (nrem:=nrem) (p:=p) (Nat.le_refl _) (by omega) hz (Dsc.snoc O (n:=1) (Nat.le_refl _) (fun i j hij hj=>by
    have e:i=j:=by omega
    rw [e]; exact le_refl O _) (le_lt O hlt))
   refine ⟨p2,m2,?_,f1,f2,f3,f4,f5⟩
   show run c (if (1 == nrem)=true then _ else _)=_
   rw [if_neg hb,if_neg hn1]; exact e3
theorem place_ok {p:Array Nat} {k:Nat} (hs:Srt c p k):∀ (f l r:Nat),l≤r→r≤k→r - l≤f→(∀ i,i < l→le c (at' p i) (at' p k))→(∀ i,r≤i→i < k→le c (at' p k) (at' p i))→
  ∃ m,run c (kas_place p k f l r)=m∧m≤k∧(∀ i,i < m→le c (at' p i) (at' p k))∧∀ i,m≤i→i < k→le c (at' p k) (at' p i)
 | 0,l,r,h1,h2,h3,h4,h5=>⟨l,rfl,by omega,h4,fun i a b=>h5 i (by omega) b⟩
 | f + 1,l,r,h1,h2,h3,h4,h5=>by
  unfold kas_place
  by_cases hlr:l ≥ r
  ·rw [if_pos hlr]
   exact ⟨l,rfl,by omega,h4,fun i a b=>h5 i (by omega) b⟩
  ·rw [if_neg hlr]
   show ∃ m,run c (if c (at' p k) (at' p ((l + r) / 2))=true then _ else _)=m∧_
   cases e:c (at' p k) (at' p ((l + r) / 2)) with
   | true=>exact place_ok hs f l ((l + r) / 2) (by omega) (by omega) (by omega) h4 fun i a b=>O.trans _ _ _ (le_lt O e) (hs _ _ a b)
   | false=>exact place_ok hs f ((l + r) / 2 + 1) r (by omega) h2 (by omega) (fun i a=>O.trans _ _ _ (hs i ((l + r) / 2) (by omega) (by omega)) e) h5
theorem bin_ok:∀ (f:Nat) (p:Array Nat) (k:Nat),1≤k→k + f≤p.size→Srt c p k→∃ p',run c (kas_bin f p k)=p'∧p'.Perm p∧p'.size=p.size∧Srt c p' (k + f)
 | 0,p,k,_,_,h=>⟨p,rfl,.rfl,rfl,h⟩
 | f + 1,p,k,h1,hz,h=>by
  obtain ⟨m,e,a1,a2,a3⟩:=place_ok O h k 0 k (Nat.zero_le _) (Nat.le_refl _) (by omega) (fun i z=>absurd z (Nat.not_lt_zero _)) fun i a b=>absurd b (by omega)
  have hk:k < p.size:=by omega
  have hs:Srt c (bubble p k (k - m)) (k + 1):=fun i j hij hj=>by
   rw [at_bub hk (by omega),at_bub hk (by omega)]
   have e2:k - (k - m)=m:=by omega
   rw [e2]
   by_cases z1:i=m
   ·rw [if_pos z1]
    by_cases z2:j=m
    ·rw [if_pos z2]; exact le_refl O _
    ·rw [if_neg z2,if_pos (by omega)]; exact a3 _ (by omega) (by omega)
   ·rw [if_neg z1]
    by_cases z3:m < i∧i≤k
    ·rw [if_pos z3,if_neg (by omega),if_pos (by omega)]; exact h _ _ (by omega) (by omega)
    ·rw [if_neg z3]
     by_cases z2:j=m
     ·rw [if_pos z2]; exact a2 _ (by omega)
     ·rw [if_neg z2]
      by_cases z4:m < j∧j≤k
      ·rw [if_pos z4]; exact h _ _ (by omega) (by omega)
      ·rw [if_neg z4]; exact h _ _ hij (by omega)
  obtain ⟨p',e3,b1,b2,b3⟩:=bin_ok f (bubble p k (k - m)) (k + 1) (by omega) (by rw [bubble_size]; omega) hs
  refine ⟨p',?_,b1.trans (bubble_perm _ _ _),b2.trans (bubble_size _ _ _),by rw [show k + (f + 1)=k + 1 + f by omega]; exact b3⟩
  unfold kas_bin
  rw [run_bind,e]; exact e3
theorem sort_ok {n:Nat} (h1:1≤n):∃ p,run c (kas_sort n)=p∧p.Perm (List.range n).toArray∧p.size=n∧Srt c p n:=by
 obtain ⟨p,m,e,a1,a2,a3,a4,a5⟩:=count_ok O (nrem:=n) (p:=(List.range n).toArray) h1 (by simp)
 have hz:p.size=n:=by rw [a2]; simp
 unfold kas_sort
 rw [run_bind,e]
 by_cases hm:m < n
 ·obtain ⟨p',e2,b1,b2,b3⟩:=bin_ok O (n - max m 1) p (max m 1) (by omega) (by omega) (by rw [Nat.max_eq_left a3]; exact a5)
  refine ⟨p',?_,b1.trans a1,by omega,by rw [show max m 1 + (n - max m 1)=n by omega] at b3; exact b3⟩
  show run c (if m < n then _ else _)=_
  rw [if_pos hm]; exact e2
 ·refine ⟨p,?_,a1,hz,by rw [show m=n by omega] at a5; exact a5⟩
  show run c (if m < n then _ else _)=_
  rw [if_neg hm]; rfl
end
end SK
namespace SK
open PySem PySem.W PyProof.Rows
noncomputable def On {α:Type} (n:Nat) (Q:α→Prop):KasT α→Prop
 | .ret a=>Q a
 | .ask i j k=>i < n∧j < n∧∀ b,On n Q (k b)
theorem On.bind {α β:Type} {n:Nat} {Q:α→Prop} {Q':β→Prop} {f:α→KasT β}:∀ {t:KasT α},On n Q t→(∀ a,Q a→On n Q' (f a))→On n Q' (t.bind f)
 | .ret a,h,hf=>hf a h
 | .ask i j k,h,hf=>⟨h.1,h.2.1,fun b=>On.bind (h.2.2 b) hf⟩
theorem run_wp {α:Type} {n:Nat} {P:α→Prop} {c:Nat→Nat→Bool} {cmp:Nat→Nat→(Bool→Shared→Prop)→Shared→Prop} {Q:α→Shared→Prop} {s:Shared} (hc:∀ i j,i < n→j < n→∀ C:Bool→Shared→Prop,C (c i j) s→cmp i j C s):
  ∀ {t:KasT α},On n P t→Q (run c t) s→t.kasWp cmp Q s
 | .ret _,_,q=>q
 | .ask i j k,h,q=>hc i j h.1 h.2.1 _ (run_wp hc (h.2.2 (c i j)) q)
section
variable {n:Nat} (h0:0 < n)
noncomputable abbrev Lt (n:Nat) (p:Array Nat):Prop:=∀ x ∈ p,x < n
include h0
theorem at_lt {p:Array Nat} (h:Lt n p) (i:Nat):at' p i < n:=by
 rw [at_eq]
 cases e:p[i]? with
 | none=>exact h0
 | some x=>exact h x (Array.mem_of_getElem? e)
omit h0 in
theorem Lt.perm {p q:Array Nat} (h:Lt n p) (hp:q.Perm p):Lt n q:=fun x hx=>h x (hp.mem_iff.mp hx)
theorem on_asc {p:Array Nat} (h:Lt n p):∀ (f m:Nat),On n (fun _=>True) (kas_asc p f m)
 | 0,_=>True.intro
 | f + 1,m=>⟨at_lt h0 h _,at_lt h0 h _,fun b=>by
  cases b with
  | true=>exact True.intro
  | false=>exact on_asc h f (m + 1)⟩
theorem on_desc:∀ (f:Nat) (p:Array Nat) (m q:Nat),Lt n p→On n (fun r=>Lt n r.1) (kas_desc f p m q)
 | 0,p,_,_,h=>h
 | f + 1,p,m,q,h=>⟨at_lt h0 h _,at_lt h0 h _,fun b=>by
  cases b with
  | true=>
   show On n _ (if q > 0 then _ else _)
   split
   ·exact on_desc f _ _ _ (h.perm (rev_perm _ _ _))
   ·exact on_desc f _ _ _ h
  | false=>exact ⟨at_lt h0 h _,at_lt h0 h _,fun b=>by
    cases b with
    | true=>exact h
    | false=>exact on_desc f _ _ _ h⟩⟩
theorem on_tail {m nrem:Nat} {p:Array Nat} (h:Lt n p):On n (fun r=>Lt n r.2) (kas_tail3 m nrem p):=
 On.bind (on_asc h0 (h.perm (rev_perm p 0 m)) _ _) fun _ _=>h.perm (rev_perm _ _ _)
theorem on_descPart {m nrem:Nat} {p:Array Nat} (h:Lt n p):On n (fun r=>Lt n r.2) (kas_descPart m nrem p):=
 On.bind (on_desc h0 _ _ _ _ h) fun r hr=>by
  show On n _ (if r.2.2 > 0 then _ else _)
  split
  ·exact on_tail h0 (hr.perm (rev_perm _ _ _))
  ·exact on_tail h0 hr
theorem on_count {nrem:Nat} {p:Array Nat} (h:Lt n p):On n (fun r=>Lt n r.2) (kas_count nrem p):=
 On.bind (on_asc h0 h _ _) fun m _=>by
  show On n _ (if (m == nrem)=true then _ else _)
  split
  ·exact h
  ·split
   ·exact ⟨at_lt h0 h _,at_lt h0 h _,fun b=>by
     cases b with
     | true=>exact h
     | false=>exact on_descPart h0 (h.perm (rev_perm _ _ _))⟩
   ·exact on_descPart h0 h
theorem on_place {p:Array Nat} {k:Nat} (h:Lt n p):∀ (f l r:Nat),On n (fun _=>True) (kas_place p k f l r)
 | 0,_,_=>True.intro
 | f + 1,l,r=>by
  unfold kas_place
  split
  ·exact True.intro
  ·exact ⟨at_lt h0 h _,at_lt h0 h _,fun b=>by
    cases b with
    | true=>exact on_place h f _ _
    | false=>exact on_place h f _ _⟩
theorem on_bin:∀ (f:Nat) (p:Array Nat) (k:Nat),Lt n p→On n (fun r=>Lt n r) (kas_bin f p k)
 | 0,_,_,h=>h
 | f + 1,p,k,h=>On.bind (on_place h0 h _ _ _) fun l _=>on_bin f _ _ (h.perm (bubble_perm _ _ _))
theorem on_sort:On n (fun r=>Lt n r) (kas_sort n):=by
 have h:Lt n (List.toArray (List.range n)):=fun x hx=>by simpa using hx
 exact On.bind (on_count h0 h) fun r hr=>by
  show On n _ (if r.1 < n then _ else _)
  split
  ·exact on_bin h0 _ _ _ hr
  ·exact hr
end
end SK
namespace SK
open PySem PySem.W PySem.Spec PyProof.Rows
open PD (PrAt ltP ltZ tup_eqAt)
section
variable {prog:Program} {w:World} {A:Around} {E:Value→Shared→Prop} {s:Shared}
theorem keyLt_pair {y x:Value} {n m:Int × List Int} {Q:Bool→Shared→Prop} (hy:PrAt s.heap y n) (hx:PrAt s.heap x m) (hu:A.units + 2 < cLine) (h:Q (ltP n m) s):
  wpAny (model prog w) A (keyLt' (tuples' true) y x) Q E s:=by
 obtain ⟨l,t,p,its,rfl,hl,hp,hi⟩:=hy
 obtain ⟨b,u,q,its2,rfl,hb,hq,hi2⟩:=hx
 obtain ⟨⟨cls,dd,data,sl⟩,ho,hc,k1,hd⟩:=id hl
 obtain ⟨⟨cls2,dd2,data2,sl2⟩,ho2,hc2,k2,hd2⟩:=id hb
 simp only at hc hd hc2 hd2
 subst hc hd hc2 hd2
 refine kat_lt ho rfl ho2 rfl ?_
 show KatLex prog w A true _ Q [(.int n.1 t,.int m.1 u),(.ref p,.ref q)] 0 s
 refine kat_cons (wpAny_eqBool_int ?_)
 by_cases h1:n.1=m.1
 ·rw [show (n.1 == m.1)=true by simpa using h1]
  refine kat_yes (kat_cons (tup_eqAt hp hq hi hi2 (by omega) prog w _ _ ?_))
  by_cases h2:n.2=m.2
  ·rw [decide_eq_true h2]
   refine kat_yes (kat_nil ?_)
   have e:ltP n m=false:=by unfold ltP; rw [if_pos h1,h2,PD.ltZ_refl]
   rw [e] at h
   exact h
  ·rw [decide_eq_false h2]
   refine kat_no ?_
   show wpAny _ _ (oneLt' (true && (1 == 0)) _ _) _ _ s
   have e:ltP n m=ltZ n.2 m.2:=by unfold ltP; rw [if_pos h1]
   rw [e] at h
   exact kat_one _ _ (PD.tupLtAt hp hq hi hi2 (by omega) prog w h)
 ·rw [show (n.1 == m.1)=false by simpa using h1]
  refine kat_no ?_
  show wpAny _ _ (oneLt' (true && (0 == 0)) _ _) _ _ s
  have e:ltP n m=decide (n.1 < m.1):=by unfold ltP; rw [if_neg h1]
  rw [e] at h
  exact oneLt_int h
noncomputable def ordOf (b:Bool) (ns:List (Int × List Int)):List Nat:=if ns.length < 2 then List.range ns.length else
 (run (fun i j=>ltP ((katRev b ns).getD i (0,[])) ((katRev b ns).getD j (0,[]))) (kas_sort ns.length)).toList
noncomputable def byOrd {α:Type} (b:Bool) (ns:List (Int × List Int)) (d:α) (xs:List α):List α:=katRev b ((ordOf b ns).map fun i=>(katRev b xs).getD i d)
theorem range_getD {α:Type} (d:α):∀ xs:List α,(List.range xs.length).map (fun i=>xs.getD i d)=xs:=fun xs=>by
 apply List.ext_getElem
 ·simp
 ·intro i h1 h2
  simp at h1 ⊢
  simp [h1]
theorem katRev_len {α:Type} (b:Bool) (l:List α):(katRev b l).length=l.length:=by cases b <;> simp [katRev]
theorem katRev_two {α:Type} (b:Bool) (l:List α):katRev b (katRev b l)=l:=by cases b <;> simp [katRev]
theorem katRev_getD {α β:Type} (b:Bool) {xs:List α} {ys:List β} (h:xs.length=ys.length) {i:Nat} {v:α} (hv:(katRev b xs)[i]?=some v) (d:β):∃ j,xs[j]?=some v∧(katRev b ys).getD i d=ys.getD j d:=by
 cases b with
 | false=>exact ⟨i,hv,rfl⟩
 | true=>
  have hi:i < xs.length:=by
   have:=(List.getElem?_eq_some_iff.mp hv).1
   simpa [katRev] using this
  have e:xs.reverse[i]?=some v:=hv
  rw [List.getElem?_reverse hi] at e
  refine ⟨xs.length - 1 - i,e,?_⟩
  show ys.reverse.getD i d=_
  rw [List.getD_eq_getElem?_getD,List.getElem?_reverse (by omega),List.getD_eq_getElem?_getD,h]
theorem PrAt.keep {h h':Heap} {v:Value} {n:Int × List Int} (x:PrAt h v n) (k:∀ b o,h.get? b=some o→o.cls=.type "tuple"→h'.get? b=some o):PrAt h' v n:=by
 obtain ⟨a,t,p,its,e,⟨o,ho,hc,r⟩,⟨o2,ho2,hc2,r2⟩,hi⟩:=x
 exact ⟨a,t,p,its,e,⟨o,k a o ho hc,hc,r⟩,⟨o2,k p o2 ho2 hc2,hc2,r2⟩,hi⟩
theorem firsts_of {h:Heap}:∀ {vs:List Value} {ns:List (Int × List Int)},vs.length=ns.length→(∀ i v,vs[i]?=some v→PrAt h v (ns.getD i (0,[])))→∃ fs:List Value,fs.length=vs.length∧KatTups h vs fs∧∀ v ∈ fs,∃ i t,v=.int i t
 | [],ns,_,_=>⟨[],rfl,.nil,fun v hv=>nomatch hv⟩
 | v :: vs,[],hl,_=>by simp at hl
 | v :: vs,n :: ns,hl,hp=>by
  obtain ⟨fs,h1,h2,h3⟩:=firsts_of (vs:=vs) (ns:=ns) (by simpa using hl) fun i x hx=>by simpa using hp (i + 1) x (by simpa using hx)
  obtain ⟨a,t,p,its,rfl,⟨o,ho,hc,k,hd⟩,_,_⟩:=hp 0 v (by simp)
  exact ⟨.int n.1 t :: fs,by simp [h1],.cons ho hc hd (by simp) h2,fun x hx=>(List.mem_cons.mp hx).elim (fun e=>⟨_,_,e⟩) (h3 x)⟩
theorem sort_pairs {a:Addr} {vs:List Value} {ns:List (Int × List Int)} {n:Nat} {b:Bool} {P:PySem.Fin→Shared→Prop} (ho:s.heap.get? a=some (seqObj "list" vs.toArray n))
  (hl:vs.length=ns.length) (hP:∀ i v,vs[i]?=some v→PrAt s.heap v (ns.getD i (0,[]))) (hu:A.units + 2 < cLine) (h64:vs.length < 64)
  (h:P (.done (.ret .none)) { s with heap:=sortedHeap s.heap a vs (List.toArray (byOrd b ns Value.none vs)) }):
  wpAny (model prog w) A (Builtin.«list.sort» ⟨[.ref a],[(Str.ofString "reverse",.bool b)]⟩) P E s:=by
 rw [list_sort_rev]
 have ha:a < s.heap.objs.size:=Heap.lt_size ho
 have hszL:vs.toArray.size≤sizeLine:=by rw [List.size_toArray,sizeLine_eq]; omega
 refine wpAny_bind (listItems_at ho rfl ?_)
 refine wpAny_bind (listUpdate_at ho rfl ?_ hszL (Nat.zero_le _))
 obtain ⟨e1,ho1⟩:∃ e1,(s.heap.update a (Obj.mapSeq fun _=>#[])).get? a=some (seqObj "list" #[] e1):=⟨_,get?_update_seq ho (fun _=>#[])⟩
 refine wpAny_bind (seqEpoch_at ho1 rfl ?_)
 refine wpAny_bind (wpAny_newTuple ?_ (by show vs.length≤_; rw [sizeLine_eq]; omega))
 refine wpAny_bind (wpAny_newList ?_ (Nat.zero_le _))
 refine wpAny_holding ?_
 have ho6:(((s.heap.update a (Obj.mapSeq fun _=>#[])).push (seqObj "tuple" vs.toArray 0)).push (seqObj "list" #[] 0)).get? a=some (seqObj "list" #[] e1):=by
  rw [Heap.get?_push_ne _ _ _ (by rw [size_push',Heap.size_update]; exact Nat.ne_of_lt (Nat.lt_succ_of_lt ha)),Heap.get?_push_ne _ _ _ (by rw [Heap.size_update]; exact Nat.ne_of_lt ha)]
  exact ho1
 show wpAny (model prog w) A _ P E { s with heap:=((s.heap.update a (Obj.mapSeq fun _=>#[])).push (seqObj "tuple" vs.toArray 0)).push (seqObj "list" #[] 0) }
 have hP6:∀ i v,vs[i]?=some v→PrAt (((s.heap.update a (Obj.mapSeq fun _=>#[])).push (seqObj "tuple" vs.toArray 0)).push (seqObj "list" #[] 0)) v (ns.getD i (0,[])):=fun i v hv=>PrAt.keep (hP i v hv) fun c o e ht=>by
  have hca:c ≠ a:=fun z=>by
   rw [z,ho] at e
   cases e
   have ht':Value.type "list" = Value.type "tuple":=ht
   injection ht' with y
   exact absurd y (by decide)
  exact Heap.get?_push_of_some _ (Heap.get?_push_of_some _ (((Heap.SameBut.update s.heap a _).2 c hca).trans e))
 have hsz:vs.toArray.size=vs.length:=by simp
 dsimp only
 have step:∀ t:Sem PySem.Fin,wpAny (model prog w) A t P E { s with heap:=((s.heap.update a (Obj.mapSeq fun _=>#[])).push (seqObj "tuple" vs.toArray 0)).push (seqObj "list" #[] 0) }→
   wpAny (model prog w) A (if b=true then (do let _ ← rule "list.sort.reverse"; t) else t) P E { s with heap:=((s.heap.update a (Obj.mapSeq fun _=>#[])).push (seqObj "tuple" vs.toArray 0)).push (seqObj "list" #[] 0) }:=by
  intro t ht
  split
  ·exact wpAny_bind (wpAny_rule ht)
  ·exact ht
 refine step _ ?_
 -- how it ends
 have fin:∀ (st':SortSt) (out:List Value),failedOf st'=none→(if b=true then ((arrOf st').map (·.2)).reverse else (arrOf st').map (·.2))=List.toArray out→out.length=vs.length→out=byOrd b ns Value.none vs→
   wpAny (model prog w) A (do
    let touched:=(← seqEpoch a) != e1
    Builtin.List.listUpdate (.ref a) fun _=>if b then ((arrOf st').map (·.2)).reverse else (arrOf st').map (·.2)
    if let some e:=failedOf st' then rule "list.sort.comparison-raised"; throw e
    if touched then rule "list.sort.modified"; raiseError "ValueError" "list modified during sort"
    ret .none) P E { s with heap:=((s.heap.update a (Obj.mapSeq fun _=>#[])).push (seqObj "tuple" vs.toArray 0)).push (seqObj "list" #[] 0) }:=by
  intro st' out hf ho' hlen he
  refine wpAny_bind (seqEpoch_at ho6 rfl ?_)
  rw [ho']
  refine wpAny_bind (listUpdate_at ho6 rfl ?_ (Nat.zero_le _) (by rw [List.size_toArray,hlen,sizeLine_eq]; omega))
  rw [hf]
  simp only [bne_self_eq_false,Bool.false_eq_true,if_false]
  subst he
  exact wpAny_pure h
 by_cases h2:vs.toArray.size < 2
 ·rw [if_pos h2,if_pos h2]
  refine wpAny_bind (wpAny_pure ?_)
  rw [StateT.run_pure]
  refine wpAny_bind (wpAny_pure ?_)
  refine fin (SortSt.mk' general' (if b=true then (vs.toArray.zip vs.toArray).reverse else vs.toArray.zip vs.toArray) #[] 7 none) vs rfl ?_ rfl ?_
  ·have e:arrOf (SortSt.mk' general' (if b=true then (vs.toArray.zip vs.toArray).reverse else vs.toArray.zip vs.toArray) #[] 7 none)=(if b=true then (vs.toArray.zip vs.toArray).reverse else vs.toArray.zip vs.toArray):=rfl
   rw [e]
   apply Array.toList_inj.mp
   have ez:((vs.toArray.zip vs.toArray).map (·.2))=vs.toArray:=by
    apply Array.toList_inj.mp
    rw [Array.toList_map,ksk_zip]
    exact List.map_snd_zip (Nat.le_refl _)
   cases b with
   | false=>simp only [Bool.false_eq_true,if_false]; rw [ez]
   | true=>simp only [if_true]; rw [Array.map_reverse,Array.reverse_reverse,ez]
  ·unfold byOrd ordOf
   rw [if_pos (by omega),← hl,← katRev_len b vs,range_getD,katRev_two]
 ·rw [if_neg h2,if_neg h2]
  have h2':2≤vs.length:=by omega
  obtain ⟨fs,f1,f2,f3⟩:=firsts_of hl hP6
  refine wpAny_bind (kat_kind (T:=.type "int") (fs:=fs) f2 (by omega) (fun v hv=>?_) rfl ?_)
  ·obtain ⟨i,t,rfl⟩:=f3 v hv
   exact .now
  show wpAny _ _ _ _ _ _
  rw [kat_pairs b rfl]
  have hlr:(katRev b vs).length=vs.length:=katRev_len b vs
  have O:∀ i j,i < vs.length→j < vs.length→∀ C:Bool→Shared→Prop,C (ltP ((katRev b ns).getD i (0,[])) ((katRev b ns).getD j (0,[]))) { s with heap:=((s.heap.update a (Obj.mapSeq fun _=>#[])).push (seqObj "tuple" vs.toArray 0)).push (seqObj "list" #[] 0) }→
    kas_ask prog w A (tuples' true) (katRev b vs) i j C { s with heap:=((s.heap.update a (Obj.mapSeq fun _=>#[])).push (seqObj "tuple" vs.toArray 0)).push (seqObj "list" #[] 0) }:=fun i j hi hj C hC=>by
   have at':∀ i,i < vs.length→PrAt (((s.heap.update a (Obj.mapSeq fun _=>#[])).push (seqObj "tuple" vs.toArray 0)).push (seqObj "list" #[] 0)) ((katRev b vs).getD i Value.none) ((katRev b ns).getD i (0,[])):=fun i hi=>by
    have hi':i < (katRev b vs).length:=by omega
    obtain ⟨k,k1,k2⟩:=katRev_getD b hl (List.getElem?_eq_getElem hi') (0,[])
    rw [k2,List.getD_eq_getElem?_getD,List.getElem?_eq_getElem hi']
    exact hP6 k _ k1
   exact keyLt_pair (at' i hi) (at' j hj) hu hC
  refine wpAny_bind (wpAny_mono (kat_run (ks:=katRev b vs) (vs:=katRev b vs) (Q:=fun st' s'=>s'={ s with heap:=((s.heap.update a (Obj.mapSeq fun _=>#[])).push (seqObj "tuple" vs.toArray 0)).push (seqObj "list" #[] 0) }∧failedOf st'=none∧arrOf st'=(run (fun i j=>ltP ((katRev b ns).getD i (0,[])) ((katRev b ns).getD j (0,[]))) (kas_sort vs.length)).map (kas_item ((katRev b vs).toArray.zip (katRev b vs).toArray))∧(run (fun i j=>ltP ((katRev b ns).getD i (0,[])) ((katRev b ns).getD j (0,[]))) (kas_sort vs.length)).size=vs.length)
   (G:=fun p s'=>s'={ s with heap:=((s.heap.update a (Obj.mapSeq fun _=>#[])).push (seqObj "tuple" vs.toArray 0)).push (seqObj "list" #[] 0) }∧p=run (fun i j=>ltP ((katRev b ns).getD i (0,[])) ((katRev b ns).getD j (0,[]))) (kas_sort vs.length))
   rfl (by omega) (by omega) (fun p st' s' a1 a2 a3 a4=>⟨a4.1,a3,by rw [← a4.2]; exact a2,by rw [← a4.2,a1,hlr]⟩) (by rw [hlr]; exact run_wp O (on_sort (by omega)) ⟨rfl,rfl⟩)) ?_ fun _ _ e=>e)
  rintro ⟨⟨⟩,st'⟩ s' ⟨rfl,hf,har,hz⟩
  have hsn:=kat_snds (ks:=katRev b vs) (vs:=katRev b vs) rfl har
  refine fin st' (katRev b ((run (fun i j=>ltP ((katRev b ns).getD i (0,[])) ((katRev b ns).getD j (0,[]))) (kas_sort vs.length)).toList.map fun i=>(katRev b vs).getD i Value.none)) hf ?_ ?_ ?_
  ·rw [hsn]; exact kat_outs b _
  ·rw [katRev_len,List.length_map,Array.length_toList,hz]
  ·unfold byOrd ordOf
   rw [if_neg (by omega),← hl]
theorem sorted_pairs {k:Bool} {l:Addr} {vs:List Value} {ns:List (Int × List Int)} {b:Bool} {Q:Value→Shared→Prop} (hs:SQ.Is k s.heap l vs.toArray) (hl:vs.length=ns.length) (hP:∀ i v,vs[i]?=some v→PrAt s.heap v (ns.getD i (0,[]))) (hu:A.units + 4 < cLine) (h64:vs.length < 64)
  (h:∀ (a:Addr) (h':Heap) (n:Nat),s.heap.objs.size≤a→(∀ b o,s.heap.get? b=some o→h'.get? b=some o)→h'.get? a=some (seqObj "list" (List.toArray (byOrd b ns Value.none vs)) n)→Q (.ref a) { s with heap:=h' }):
  wpAny (model prog w) A (call (.builtin "sorted") [.ref l] [(Str.ofString "reverse",.bool b)]) Q E s:=by
 refine call_function_entry_kw kind_sorted plain_sorted entry_sorted (args_sorted_rev _ _) ?_
 unfold Builtin.«sorted»
 refine wpAny_bind (m:=checkCount "sorted" 1 1 _) (wpAny_pure ?_)
 have hz:vs.length≤sizeLine:=by rw [sizeLine_eq]; omega
 refine wpAny_bind (SQ.collects hs ?_ hz)
 have kp:∀ b o,s.heap.get? b=some o→((s.heap.push (seqObj "list" #[] 0)).update s.heap.objs.size (Obj.mapSeq (· ++ vs.toArray))).get? b=some o:=fun b o e=>
  ((Heap.SameBut.update ..).2 b (Nat.ne_of_lt (Heap.lt_size e))).trans (Heap.get?_push_of_some _ e)
 generalize hh1:((s.heap.push (seqObj "list" #[] 0)).update s.heap.objs.size (Obj.mapSeq (· ++ vs.toArray)))=h1 at kp ⊢
 have sz1:s.heap.objs.size≤h1.objs.size:=by rw [← hh1,Heap.size_update,size_push']; exact Nat.le_succ _
 refine wpAny_bind (wpAny_newList ?_ hz)
 have g:(h1.push (seqObj "list" vs.toArray 0)).get? h1.objs.size=some (seqObj "list" vs.toArray 0):=Heap.get?_push_size _ rfl
 have kp2:∀ b o,s.heap.get? b=some o→(h1.push (seqObj "list" vs.toArray 0)).get? b=some o:=fun b o e=>Heap.get?_push_of_some _ (kp b o e)
 refine wpAny_bind (wpAny_holding (wpAny_call_entry_kw slot_list_sort ⟨_,g,rfl⟩ entry_list_sort (sort_pairs (s:={ s with heap:=h1.push (seqObj "list" vs.toArray 0) }) g hl (fun i v hv=>PrAt.keep (hP i v hv) fun c o e _=>kp2 c o e) (show A.units + 2 + 2 < cLine by omega) h64 ⟨_,rfl,?_⟩) (args_list_sort_rev _ _)))
 obtain ⟨⟨n,g1⟩,g2⟩:=SQ.sortedHeap_ok (out:=List.toArray (byOrd b ns Value.none vs)) g
 exact wpAny_pure ⟨_,rfl,h _ _ n sz1 (fun b o e=>g2 b o (Nat.ne_of_lt (Nat.lt_of_lt_of_le (Heap.lt_size e) sz1)) (kp2 b o e)) g1⟩
end
end SK
namespace SK
open PySem PySem.W PySem.Spec PyProof.Rows
open PD (ltP ltZ ltZ_eq ltZ_ne)
theorem ltZ_as:∀ {x y:List Int},ltZ x y=true→ltZ y x=false
 | [],[],h=>rfl
 | [],_ :: _,_=>rfl
 | _ :: _,[],h=>by cases h
 | a :: x,b :: y,h=>by
  by_cases e:a=b
  ·rw [ltZ_eq e] at h; rw [ltZ_eq e.symm]; exact ltZ_as h
  ·rw [ltZ_ne e] at h
   have h:=of_decide_eq_true h
   rw [ltZ_ne (fun z=>e z.symm)]
   exact decide_eq_false (by omega)
theorem ltZ_tr:∀ {x y z:List Int},ltZ y x=false→ltZ z y=false→ltZ z x=false
 | [],y,[],_,_=>rfl
 | [],y,_ :: _,_,_=>rfl
 | _ :: _,[],_,h,_=>by cases h
 | _ :: _,_ :: _,[],_,h=>by cases h
 | a :: x,b :: y,c :: z,h1,h2=>by
  by_cases e1:b=a
  ·rw [ltZ_eq e1] at h1
   by_cases e2:c=b
   ·rw [ltZ_eq e2] at h2
    rw [ltZ_eq (e2.trans e1)]
    exact ltZ_tr (x:=x) (y:=y) h1 h2
   ·rw [ltZ_ne e2] at h2
    rw [ltZ_ne (fun e=>e2 (by rw [e,e1]))]
    rw [← e1]; exact h2
  ·rw [ltZ_ne e1] at h1
   have h1:=of_decide_eq_false h1
   by_cases e2:c=b
   ·rw [ltZ_ne (fun e=>e1 (by rw [← e,e2]))]
    exact decide_eq_false (by omega)
   ·rw [ltZ_ne e2] at h2
    have h2:=of_decide_eq_false h2
    rw [ltZ_ne (by omega)]
    exact decide_eq_false (by omega)
theorem ltP_as {p q:Int × List Int} (h:ltP p q=true):ltP q p=false:=by
 unfold ltP at h ⊢
 by_cases e:p.1=q.1
 ·rw [if_pos e] at h; rw [if_pos e.symm]; exact ltZ_as h
 ·rw [if_neg e] at h; rw [if_neg (fun z=>e z.symm)]
  have:=of_decide_eq_true h
  exact decide_eq_false (by omega)
theorem ltP_tr {x y z:Int × List Int} (h1:ltP y x=false) (h2:ltP z y=false):ltP z x=false:=by
 unfold ltP at h1 h2 ⊢
 by_cases e1:y.1=x.1
 ·rw [if_pos e1] at h1
  by_cases e2:z.1=y.1
  ·rw [if_pos e2] at h2; rw [if_pos (e2.trans e1)]; exact ltZ_tr h1 h2
  ·rw [if_neg e2] at h2; rw [if_neg (fun e=>e2 (by rw [e,e1])),← e1]; exact h2
 ·rw [if_neg e1] at h1
  have h1:=of_decide_eq_false h1
  by_cases e2:z.1=y.1
  ·rw [if_neg (fun e=>e1 (by rw [← e,e2]))]; exact decide_eq_false (by omega)
  ·rw [if_neg e2] at h2
   have h2:=of_decide_eq_false h2
   rw [if_neg (by omega)]; exact decide_eq_false (by omega)
theorem ord_P (ns:List (Int × List Int)):Ord (fun i j=>ltP (ns.getD i (0,[])) (ns.getD j (0,[]))):=⟨fun _ _ h=>ltP_as h,fun _ _ _ h1 h2=>ltP_tr h1 h2⟩
theorem ordOf_perm (b:Bool) (ns:List (Int × List Int)):(ordOf b ns).Perm (List.range ns.length):=by
 unfold ordOf
 split
 ·exact .refl _
 ·obtain ⟨p,e,a1,a2,a3⟩:=sort_ok (ord_P (katRev b ns)) (n:=ns.length) (by omega)
  rw [e]
  have:=Array.perm_iff_toList_perm.mp a1
  simpa using this
theorem ordOf_len (b:Bool) (ns:List (Int × List Int)):(ordOf b ns).length=ns.length:=by rw [(ordOf_perm b ns).length_eq,List.length_range]
theorem byOrd_len {α:Type} (b:Bool) (ns:List (Int × List Int)) (d:α) (xs:List α):(byOrd b ns d xs).length=ns.length:=by
 unfold byOrd
 rw [katRev_len,List.length_map,ordOf_len]
theorem katRev_perm {α:Type} (b:Bool) (l:List α):(katRev b l).Perm l:=by
 cases b
 ·exact .refl _
 ·exact List.reverse_perm _
theorem byOrd_perm {α:Type} (b:Bool) {ns:List (Int × List Int)} (d:α) {xs:List α} (h:xs.length=ns.length):(byOrd b ns d xs).Perm xs:=by
 unfold byOrd
 refine (katRev_perm b _).trans (((ordOf_perm b ns).map _).trans ?_)
 rw [← h,← katRev_len b xs,range_getD]
 exact katRev_perm b xs
theorem katRev_map {α β:Type} (f:α→β) (b:Bool) (l:List α):katRev b (l.map f)=(katRev b l).map f:=by cases b <;> simp [katRev]
theorem byOrd_map {α β:Type} (f:α→β) (b:Bool) (ns:List (Int × List Int)) (d:α) (xs:List α):byOrd b ns (f d) (xs.map f)=(byOrd b ns d xs).map f:=by
 unfold byOrd
 rw [← katRev_map f b,List.map_map,katRev_map f b xs]
 congr 1
 exact List.map_congr_left fun i _=>by
  show ((katRev b xs).map f).getD i (f d)=f ((katRev b xs).getD i d)
  rw [List.getD_eq_getElem?_getD,List.getD_eq_getElem?_getD,List.getElem?_map]
  cases (katRev b xs)[i]? <;> rfl
theorem byOrd_sorted (b:Bool) (ns:List (Int × List Int)):(byOrd b ns (0,[]) ns).Pairwise fun p q=>(if b=true then ltP p q else ltP q p)=false:=by
 have key:((ordOf b ns).map fun i=>(katRev b ns).getD i (0,[])).Pairwise fun p q=>ltP q p=false:=by
  unfold ordOf
  split
  ·rename_i h
   rw [← katRev_len b ns,range_getD]
   rw [← katRev_len b ns] at h
   match katRev b ns,h with
   | [],_=>exact .nil
   | [x],_=>exact List.pairwise_singleton _ _
   | _ :: _ :: _,h=>simp at h; omega
  ·obtain ⟨p,e,a1,a2,a3⟩:=sort_ok (ord_P (katRev b ns)) (n:=ns.length) (by omega)
   rw [e,List.pairwise_iff_getElem]
   intro i j hi hj hij
   simp only [List.length_map,Array.length_toList] at hi hj
   have:=a3 i j (by omega) (by omega)
   simp only [List.getElem_map,Array.getElem_toList]
   rw [at_eq,at_eq,Array.getElem?_eq_getElem hi,Array.getElem?_eq_getElem hj] at this
   exact this
 unfold byOrd
 cases b with
 | false=>exact key
 | true=>
  show (List.reverse _).Pairwise _
  rw [List.pairwise_reverse]
  exact key
end SK
namespace PD
open PySem PySem.Spec PyProof.Rows L2
theorem vals_gd:∀ {vs:List V} {us:List Value},Vals vs us→∀ i,RelV (vs.getD i .non) (us.getD i .none)
 | _,_,.nil,i=>rfl
 | _,_,.cons h t,0=>h
 | _,_,.cons h t,i + 1=>by simpa using vals_gd t i
theorem vals_pick {vs:List V} {us:List Value} (h:Vals vs us):∀ l:List Nat,Vals (l.map fun i=>vs.getD i .non) (l.map fun i=>us.getD i .none)
 | []=>.nil
 | i :: l=>.cons (vals_gd h i) (vals_pick h l)
theorem rds_gd {K:PySem.W.Frag} {w:Wd} {H:Hp}:∀ {ds:List D} {vs:List V},RDs K w H ds vs→∀ i,RD K w H (ds.getD i .non) (vs.getD i .non)
 | [],_,h,i=>by unfold RDs at h; subst h; show RD K w H .non .non; unfold RD; rfl
 | d :: ds,_,h,i=>by
  unfold RDs at h
  obtain ⟨v,r,rfl,p,q⟩:=h
  cases i with
  | zero=>exact p
  | succ i=>simpa using rds_gd q i
theorem rds_pick {K:PySem.W.Frag} {w:Wd} {H:Hp} {ds:List D} {vs:List V} (h:RDs K w H ds vs):∀ l:List Nat,RDs K w H (l.map fun i=>ds.getD i .non) (l.map fun i=>vs.getD i .non)
 | []=>.nil
 | i :: l=>.cons (rds_gd h i) (rds_pick h l)
theorem vals_ord (b:Bool) (ns:List (Int × List Int)) {vs:List V} {us:List Value} (h:Vals vs us):Vals (SK.byOrd b ns .non vs) (SK.byOrd b ns .none us):=by
 cases b with
 | false=>exact vals_pick h _
 | true=>exact Vals.rev (vals_pick (Vals.rev h) _)
theorem rds_ord {K:PySem.W.Frag} {w:Wd} {H:Hp} (b:Bool) (ns:List (Int × List Int)) {ds:List D} {vs:List V} (h:RDs K w H ds vs):RDs K w H (SK.byOrd b ns .non ds) (SK.byOrd b ns .non vs):=by
 cases b with
 | false=>exact rds_pick h _
 | true=>exact RDs.rev (rds_pick (RDs.rev h) _)
noncomputable def fSrtR (b:Bool):Sto→List D→Option D
 | _,[.lst ds]=>match prsOf ds with
  | some ns=>if ds.length < 64 then some (.lst (SK.byOrd b ns .non ds)) else none
  | none=>none
 | _,_=>none
section
variable {X:Cx} {E:XK}
theorem xk_srtR {k:Nat} {b:Bool} (hr:Room k X.A):CallK X (.builtin "sorted") [(Str.ofString "reverse",.bool b)] (xC X.K E (fSrtR b)):=by
 rintro pins s σ H xs us Q I r ⟨w,S,ds,hS,qs,p⟩
 obtain ⟨z,hz,p'⟩:=p.of
 clear p
 unfold fSrtR at hz
 split at hz
 ·rename_i a
  obtain ⟨v,rfl,q⟩:=qs.one_inv
  obtain ⟨u,rfl,rx⟩:=vals1 r
  split at hz
  ·rename_i ns e
   split at hz
   ·rename_i h64
    cases hz
    obtain ⟨pa,vs,rfl,za,ra⟩:=q.lstI
    cases rx
    obtain ⟨its,r',pl,_⟩:=I.list (SqL.of za.1)
    obtain ⟨t,g⟩:=prs_are I ra r' e
    have hl:its.length=a.length:=by rw [← r'.length,ra.length]
    refine SK.sorted_pairs (k:=false) pl.isList t (fun i v hv=>(g i v hv).1) (by have:=hr.un; omega) (by omega) fun a1 h' n la k1 k2=>?_
    have hf:H a1=none:=I.hok.fresh la
    have hz:(SK.byOrd b ns V.non vs).length≤sizeLine:=by rw [SK.byOrd_len,sizeLine_eq]; omega
    refine ⟨.ref a1,_,I.laid (t':=s.toks) (a:=a1) (o:=.lst (SK.byOrd b ns V.non vs)) k1 la ⟨hz,_,n,vals_ord b ns r',k2⟩,rfl,?_⟩
    exact p'.at (Ext.new hf) (RD.newLst hS hf (rds_ord b ns ra)) (hS.new hf)
   ·cases hz
  ·cases hz
 ·cases hz
variable {a:Expr} {ms:AM} {x:Str} {p pos kp:Pos} {id:String} {nm:Str}
theorem pe_callBT {r:List V→Hp→VK→Prop} {t:TA} {j:Nat} {cp:Pos} {b:Bool} (hc:CallK X (.builtin id) [(nm,.bool b)] r) (hg:Gl X x) (hm:X.mg x=none) (hv:bootBuiltins x=some (.builtin id)) (ha:PA X [a] t) (hn:autoParam (x ≠ "__name__") Au.h2._auto_1) (hdb:autoParam ((x == ("__debug__":Str))=false) Au.h2._auto_1)
  (he:autoParam (backTo pos (starEach [a] X.env)=(false,eval a X.env) :: backTo pos (starEach [] X.env)) Au.h1._auto_1) (hpl:autoParam ((backTo pos (starEach [a] X.env)).any (·.1)=false) Au.h1._auto_1):PE X (.Call (.Name x p) [a] [⟨some nm,.Constant (.bool b) j cp,kp⟩] pos) (tCB r t):=by
 intro pins s σ H Q I h
 refine wpAny_Call_Name_kw (ld_blt I hg hm hv ?_ hn hdb)
 refine callWith_kw (thn (ha pos pins s σ H _ I h) fun us s1 zq=>ex5 zq fun vs H1 I1 r1 q1=>kws_cons ?_) he hpl
 exact Constant_bool (kws_nil (hc pins s1 σ H1 vs us Q I1 r1 q1))
theorem se_callBT {f:Sto→List D→Option D} {j:Nat} {cp:Pos} {b:Bool} (hc:CallK X (.builtin id) [(nm,.bool b)] (xC X.K E f)) (hg:Gl X x) (hm:X.mg x=none) (hv:bootBuiltins x=some (.builtin id)) (ha:SA X E [a] ms) (hn:autoParam (x ≠ "__name__") Au.h3._auto_1) (hdb:autoParam ((x == ("__debug__":Str))=false) Au.h3._auto_1)
  (he:autoParam (backTo pos (starEach [a] X.env)=(false,eval a X.env) :: backTo pos (starEach [] X.env)) Au.h0._auto_1) (hpl:autoParam ((backTo pos (starEach [a] X.env)).any (·.1)=false) Au.h0._auto_1):SE X E (.Call (.Name x p) [a] [⟨some nm,.Constant (.bool b) j cp,kp⟩] pos) (eB f ms):=⟨
 pe_weak (pe_callBT hc hg hm hv ha.out hn hdb he hpl) fun s H Q zq=>ex6 zq fun w r S hr hS hp=>⟨w,r,S,hr,hS,hp.bind hS fun ds S1 w1 H1 vs x1 q1 s1 p1=>⟨w1,S1,ds,s1,q1,p1⟩⟩⟩
end
end PD
namespace PD
open PySem PySem.Spec PyProof.Rows L2
noncomputable def fSrtN:Sto→List D→R D
 | S,[d]=>match seqOf S d with
  | some a=>match intsOf a with
   | some ns=>if ns.length≤sizeLine then .ok (.ref S.length) (S ++ [.lst ((sortZ ns).map .int)]) else .bad
   | none=>.bad
  | none=>.bad
 | _,_=>.bad
section
variable {X:Cx} {E:XK} {a b:Expr} {es:List Expr} {ms:AM} {x:Str} {p pos:Pos}
theorem se_callBR {id:String} {f:Sto→List D→R D} (hc:CallR X (.builtin id) (xCR X.K E f)) (hg:Gl X x) (hm:X.mg x=none) (hv:bootBuiltins x=some (.builtin id)) (ha:SA X E (a :: es) ms) (hn:autoParam (x ≠ "__name__") Au.h3._auto_1) (hdb:autoParam ((x == ("__debug__":Str))=false) Au.h3._auto_1)
  (he:autoParam (starEach (a :: es) X.env=(false,eval a X.env) :: starEach es X.env) Au.h0._auto_1) (hpl:autoParam ((backTo pos (starEach es X.env)).any (·.1)=false) Au.h0._auto_1):SE X E (.Call (.Name x p) (a :: es) [] pos) (eBR f ms):=⟨
 pe_weak (pe_callB hc hg hm hv ha.out hn hdb he hpl) fun s H Q zq=>ex6 zq fun w r S hr hS hp=>⟨w,r,S,hr,hS,hp.bind hS fun ds S1 w1 H1 vs x1 q1 s1 p1=>⟨w1,S1,ds,s1,q1,p1⟩⟩⟩
theorem xc_srtN:CallR X (.builtin "sorted") (xCR X.K E fSrtN):=by
 rintro pins s σ H xs us Q I r ⟨w,S,ds,hS,qs,p⟩
 unfold fSrtN at p
 split at p
 ·rename_i d
  obtain ⟨v,rfl,q⟩:=qs.one_inv
  split at p
  ·rename_i a ha
   split at p
   ·rename_i ns hns
    split at p
    ·rename_i hlt
     have last:∀ (a:Addr) (h2:Heap) (tk:Nat) (out:Array Value) (ns':List Int) (n:Nat),s.heap.objs.size≤a→(∀ b o,s.heap.get? b=some o→h2.get? b=some o)→h2.get? a=some (seqObj "list" out n)→IntsAre out.toList ns'→ns'.Perm ns→ns'.Pairwise (· ≤ ·)→EP X pins σ Q (.ref a) { s with heap:=h2,toks:=tk }:=fun a h2 tk out ns' n la k1 k2 a1 a2 a3=>by
      have en:ns'=sortZ ns:=sorted_uniq (a2.trans (sortZ_perm ns).symm) a3 (sortZ_sorted ns)
      subst en
      have hf:H a=none:=I.hok.fresh la
      have hz:((sortZ ns).map V.int).length≤sizeLine:=by rw [List.length_map,(sortZ_perm ns).length_eq]; exact hlt
      refine ⟨.ref a,_,I.laid (t':=tk) (a:=a) (o:=.lst ((sortZ ns).map V.int)) k1 la ⟨hz,out.toList,n,vals_of a1,by rw [Array.toArray_toList]; exact k2⟩,rfl,?_⟩
      exact Post.at p (Ext.alloc hf) hS.lastRef (hS.alloc hf ⟨_,upd_same,rds_ints _⟩)
     obtain ⟨pa,vs,rfl,sq,ra⟩:=seq_ok hS q ha
     obtain ⟨u,rfl,rx⟩:=vals1 r
     cases rx
     have main:∀ (k:Bool) (its:List Value),Vals vs its→SQ.Is k s.heap pa its.toArray→wpAny (model X.prog X.w) X.A (call (.builtin "sorted") [.ref pa]) (EP X pins σ Q) X.xe s:=fun k its rv pl=>by
      have hI:=ints_are ra rv hns
      have hl:its.length=ns.length:=hI.length
      exact SQ.sorted_seq pl hI (by omega) fun a h' out ns' n la k1 k2 a1 a2 a3=>last a h' s.toks out ns' n la k1 k2 a1 a2 a3
     rcases sq with hq | hq
     ·obtain ⟨its,r',pl,hz⟩:=I.list hq
      exact main false its r' pl.isList
     ·obtain ⟨its,r',pl,hz⟩:=I.tuple hq
      exact main true its r' pl
    ·exact p.elim
   ·exact p.elim
  ·exact p.elim
 ·exact p.elim
omit X E a b es ms x p pos in
theorem lst_atH {K:PySem.W.Frag} {w:Wd} {H:Hp} {S:Sto} {d:D} {v:V} {a:List D} (s:RS K w H S) (q:RD K w H d v) (h:isLst S d=some a):∃ p vs,v=.ref p∧H p=some (.lst vs)∧RDs K w H a vs:=by
 unfold isLst at h
 split at h
 ·cases h; obtain ⟨p,vs,e,z,r⟩:=q.lstI; exact ⟨p,vs,e,z.1,r⟩
 ·rename_i n
  obtain ⟨p,rfl,hp⟩:=q.refI
  split at h
  ·rename_i e
   cases h
   obtain ⟨p',hp',vs,hv,r⟩:=s.obj _ _ e
   rw [hp] at hp'; cases hp'
   exact ⟨p,vs,rfl,hv,r⟩
  ·cases h
 ·cases h
noncomputable def oAddS:Sto→D→D→Option D:=fun S x y=>match isLst S x,isLst S y with
 | some a,some b=>if a.length + b.length≤sizeLine then some (.lst (a ++ b)) else none
 | _,_=>none
theorem xo_addS:OpR X (binaryOp .Add) (xO X.K E oAddS):=by
 rintro pins s σ H x y v u Q I rx ry ⟨w,S,d,e,hS,qd,qe,p⟩
 obtain ⟨z,hz,p'⟩:=p.of
 clear p
 unfold oAddS at hz
 split at hz
 ·rename_i a b h1 h2
  split at hz
  ·rename_i hl
   cases hz
   obtain ⟨pa,xs,rfl,za,ra⟩:=lst_atH hS qd h1
   obtain ⟨pb,ys,rfl,zb,rb⟩:=lst_atH hS qe h2
   exact op_cat pins s σ H _ _ v u Q I rx ry ⟨pa,pb,xs,ys,rfl,rfl,za,zb,by rw [ra.length,rb.length]; exact hl,fun q hq=>p'.at (Ext.new hq) (RD.newLst hS hq (ra.append rb)) (hS.new hq)⟩
  ·cases hz
 ·cases hz
noncomputable def fRevS (S:Sto) (d:D):Option D:=match isLst S d with
 | some a=>some (.lst a.reverse)
 | none=>none
noncomputable def eRevS (a st:EM):EM:=fun r S=>(a r S).bind fun x S1=>(st r S1).bind fun i S2=>match i with
 | .int (-1)=>R.of S2 (fRevS S2 x)
 | _=>.bad
theorem xv_revS:RvR X (fun x H Q=>∃ w S d,RS X.K w H S∧RD X.K w H d x∧Post X.K E (RD X.K) w H (R.of S (fRevS S d)) Q):=by
 rintro pins s σ H x v t sl Q I rx hs ⟨w,S,d,hS,qd,p⟩
 obtain ⟨z,hz,p'⟩:=p.of
 clear p
 unfold fRevS at hz
 split at hz
 ·rename_i a h1
  cases hz
  obtain ⟨pa,xs,rfl,za,ra⟩:=lst_atH hS qd h1
  cases rx
  obtain ⟨hz,its,n,r,ho⟩:ObjOk X.prog X.w H s.heap pa (.lst xs):=I.hok pa _ za
  have hl:s.heap.IsList pa its.toArray:=⟨_,ho,rfl,_,rfl⟩
  refine ⟨"list",_,list_getitem_lookup,hl.typeIs,?_⟩
  have hn:H s.heap.objs.size=none:=I.hok.fresh (Nat.le_refl _)
  refine wpAny_getItem_list_slice hl hs .none .none (.int (-1) t) (by decide) ⟨.ref s.heap.objs.size,_,I.laid (t':=s.toks) (o:=.lst xs.reverse) (fun b ob q=>Heap.get?_push_of_some _ q) (Nat.le_refl _) ?_,rfl,p'.at (Ext.new hn) (RD.newLst hS hn (RDs.rev ra)) (hS.new hn)⟩ (by rw [List.size_toArray,← r.length]; exact hz)
  refine ⟨by rw [List.length_reverse]; exact hz,its.reverse,0,Vals.rev r,?_⟩
  rw [PySem.W.krv_pick]
  exact Heap.get?_push_size _ rfl
 ·cases hz
theorem se_revS {a st:Expr} {ma ms:EM} {p2 pos:Pos} (ha:SE X E a ma) (hs:SE X E st ms):SE X E (.Subscript a (.Slice none none (some st) p2) pos) (eRevS ma ms):=⟨
 pe_weak (pe_rev (xv_revS (E:=E)) ha.out hs.out) fun s H Q zq=>ex6 zq fun w r S hr hS hp=>⟨w,r,S,hr,hS,hp.bind hS fun d S1 w1 H1 v x1 q1 s1 p1=>
  ⟨w1,r,S1,hr.ext x1,s1,p1.bind s1 fun e S2 w2 H2 u x2 q2 s2 p2=>by
   cases e with
   | int i=>
    by_cases hi:i = -1
    ·subst hi
     exact ⟨q2.int,w2,S2,d,s2,RD.ext x2 d v q1,p2⟩
    ·exfalso
     revert p2
     show ¬ Post _ _ _ _ _ (match D.int i with | .int (-1)=>_ | _=>_) _
     split
     ·rename_i h; cases h; exact absurd rfl hi
     ·exact fun z=>z
   | _=>exact p2.elim⟩⟩⟩
end
end PD
namespace Lw
open PySem PySem.Spec PyProof.Rows L2 PD
noncomputable def raisedX:List Str:=[]
noncomputable def askedX:List Str:=[]
noncomputable def isaX (c k:Str):Bool:=c == k || k == "PlusError"
noncomputable abbrev st__law_whole:Stmt:=top 19
noncomputable def m__law_whole:SM:=(sRet (eAnd (eB fIsi (aCons (eVar 0) (aCons (eC (.ty "int")) aNil))) (eNot (eB fIsi (aCons (eVar 0) (aCons (eC (.ty "bool")) aNil))))))
noncomputable def F__law_whole:FM:=fnM 1 m__law_whole
noncomputable abbrev st__law_are:Stmt:=top 21
noncomputable def m__law_are:SM:=(sSeq (sIf (PD.tOr (PD.tNot (tV (eB fIsi (aCons (eVar 0) (aCons (eC (.ty "tuple")) aNil))))) (tV (eOp oNeP (eB fLen (aCons (eVar 0) aNil)) (eB fLen (aCons (eVar 1) aNil))))) (sRet (eC (.bl false))) sSkip) (sRet (eB fAll (aCons (eComp (aSeq (eVar 0) itSeq) 1 [2] (.nm 0) tTrue (eAnd (eCall F__law_whole (aCons (eVar 0) aNil)) (eOp (oIn false) (eVar 0) (eVar 1)))) aNil))))
noncomputable def F__law_are:FM:=fnM 3 m__law_are
noncomputable abbrev st__law_cell:Stmt:=top 15
noncomputable def m__law_cell:SM:=(sSeq (sIf (tV (eOp oLt (eVar 1) (eB fLen (aCons (eVar 0) aNil)))) (sRet (eOp oIx (eVar 0) (eVar 1))) sSkip) (sRet (eC (.int 0))))
noncomputable def F__law_cell:FM:=fnM 2 m__law_cell
noncomputable abbrev st__law_mix:Stmt:=top 16
noncomputable def m__law_mix:SM:=(sSeq (sSet 2 (eLst (aCons (eC (.int 48271)) (aCons (eC (.int 69621)) (aCons (eC (.int 16807)) (aCons (eC (.int 39373)) (aCons (eC (.int 30269)) (aCons (eC (.int 40014)) (aCons (eC (.int 40692)) (aCons (eC (.int 50021)) (aCons (eC (.int 61687)) (aCons (eC (.int 71993)) (aCons (eC (.int 83869)) (aCons (eC (.int 95561)) (aCons (eC (.int 30307)) aNil))))))))))))))) (sSeq (sSet 3 (eOp oAdd (eOp oAdd (eOp oMul (eOp oAdd (eOp oMod (eVar 0) (eC (.int 2147483647))) (eC (.int 12345))) (eOp oIx (eVar 2) (eOp oMod (eVar 1) (eC (.int 13))))) (eOp oMul (eC (.int 977)) (eVar 1))) (eOp oMul (eC (.int 7919)) (eOp oFdiv (eVar 1) (eC (.int 13)))))) (sSeq (sSet 3 (eOp oMod (eVar 3) (eC (.int 1000000007)))) (sRet (eOp oFdiv (eOp oMod (eOp oAdd (eOp oMul (eVar 3) (eVar 3)) (eOp oMul (eC (.int 48271)) (eVar 1))) (eC (.int 1000000007))) (eC (.int 7)))))))
noncomputable def F__law_mix:FM:=fnM 4 m__law_mix
noncomputable abbrev st__law_box:Stmt:=top 17
noncomputable def m__law_box:SM:=(sSeq (sSet 2 (eCall F__law_cell (aCons (eVar 0) (aCons (eVar 1) aNil)))) (sSeq (sIf (tV (eOp oEqP (eOp oMod (eVar 2) (eC (.int 2))) (eC (.int 0)))) (sRet (eNew (aCons (eOp oFdiv (eB fAbs (aCons (eVar 2) aNil)) (eC (.int 2))) aNil))) sSkip) (sSeq (sSet 3 (eC (.int 0))) (sSeq (sFor (aRange1 (aCons (eC (.int 40)) aNil)) (.nm 4) (sSet 3 (eOp oAdd (eOp oMul (eVar 3) (eC (.int 142857143))) (eCall F__law_mix (aCons (eVar 2) (aCons (eVar 4) aNil)))))) (sRet (eNew (aCons (eVar 3) aNil)))))))
noncomputable def F__law_box:FM:=fnM 5 m__law_box
noncomputable abbrev st__law_due:Stmt:=top 23
noncomputable def m__law_due:SM:=(sSeq (sSet 1 (eBR fSrtN (aCons (eVar 0) aNil))) (sSeq (sSet 2 (eNew (aCons (eB fTuple (aCons (eRevS (eVar 1) (eUn oNeg (eC (.int 1)))) aNil)) aNil))) (sSeq (sWh (tV (eOp oGt (eB fLen (aCons (eVar 1) aNil)) (eC (.int 1)))) (sSeq (sSet 3 (ePop0 (eVar 1))) (sSeq (sSet 4 (ePop0 (eVar 1))) (sSeq (sSet 1 (eBR fSrtN (aCons (eOp oAddS (eVar 1) (eLst (aCons (eOp oSub (eVar 3) (eVar 4)) aNil))) aNil))) (sDrop (eMtL mAppend (eVar 2) (aCons (eB fTuple (aCons (eRevS (eVar 1) (eUn oNeg (eC (.int 1)))) aNil)) aNil))))))) (sRet (eVar 2)))))
noncomputable def F__law_due:FM:=fnM 5 m__law_due
noncomputable abbrev st__law_take:Stmt:=top 18
noncomputable def m__law_take:SM:=(sSeq (sAsg (.tp [(.nm 2),(.nm 3)]) (eB fDivmod (aCons (eOp oIx (eVar 0) (eC (.int 0))) (aCons (eVar 1) aNil)))) (sSeq (sPut fPut (eVar 2) (eVar 0) (eC (.int 0))) (sRet (eVar 3))))
noncomputable def F__law_take:FM:=fnM 4 m__law_take
noncomputable abbrev st__law_row:Stmt:=top 20
noncomputable def m__law_row:SM:=(sSeq (sSet 2 (eCall F__law_take (aCons (eVar 0) (aCons (eOp oAdd (eVar 1) (eC (.int 1))) aNil)))) (sSeq (sSet 3 (eCall F__law_take (aCons (eVar 0) (aCons (eC (.int 7)) aNil)))) (sSeq (sSet 4 (eOp oAdd (eC (.int 1)) (eCall F__law_take (aCons (eVar 0) (aCons (eC (.int 9)) aNil))))) (sSeq (sSet 5 (eNew aNil)) (sSeq (sFor (aRange1 (aCons (eVar 2) aNil)) (.nm 6) (sSeq (sSet 7 (eOp oAdd (eC (.int 1)) (eCall F__law_take (aCons (eVar 0) (aCons (eC (.int 12)) aNil))))) (sSeq (sSet 8 (eLst (aCons (eVar 7) (aCons (eVar 7) (aCons (eVar 4) (aCons (eOp oShl (eC (.int 1)) (eVar 6)) (aCons (eOp oAdd (eVar 4) (eOp oMul (eVar 6) (eVar 7))) (aCons (eOp oMul (eVar 7) (eVar 7)) (aCons (eOp oAdd (eOp oMul (eOp oPow (eC (.int 10)) (eC (.int 12))) (eVar 7)) (eVar 7)) aNil))))))))) (sDrop (eMtL mAppend (eVar 5) (aCons (eOp oIx (eLst (aCons (eOp oIx (eVar 8) (eVar 3)) (aCons (eOp oMul (eVar 4) (eVar 7)) aNil))) (eB fInt (aCons (eOp oEqP (eCall F__law_take (aCons (eVar 0) (aCons (eC (.int 9)) aNil))) (eC (.int 8))) aNil))) aNil)))))) (sRet (eB fTuple (aCons (eVar 5) aNil))))))))
noncomputable def F__law_row:FM:=fnM 9 m__law_row
noncomputable abbrev st__law_worth:Stmt:=top 22
noncomputable def m__law_worth:SM:=(sSeq (sSet 2 (eC (.int 0))) (sSeq (sFor (aRange1 (aCons (eB fLen (aCons (eVar 0) aNil)) aNil)) (.nm 3) (sSet 2 (eOp oAdd (eVar 2) (eOp oMul (eOp oIx (eVar 0) (eVar 3)) (eOp oIx (eVar 1) (eVar 3)))))) (sRet (eVar 2))))
noncomputable def F__law_worth:FM:=fnM 4 m__law_worth
noncomputable abbrev st_difference:Stmt:=top 10
noncomputable def m_difference:SM:=(sSeq (sSet 2 (eComp (aZip (aCons (eOp oIx (eVar 0) (eC (.int 1))) (aCons (eOp oIx (eVar 1) (eC (.int 1))) aNil))) 2 [] (.tp [(.nm 0),(.nm 1)]) tTrue (eOp oSub (eVar 0) (eVar 1)))) (sRet (eTup (aCons (eOp oSub (eOp oIx (eVar 0) (eC (.int 0))) (eOp oIx (eVar 1) (eC (.int 0)))) (aCons (eB fTuple (aCons (eVar 2) aNil)) aNil)))))
noncomputable def F_difference:FM:=fnM 3 m_difference
noncomputable abbrev st_parts_of_one:Stmt:=top 9
noncomputable def m_parts_of_one:SM:=(sRet (eB fTuple (aCons (eComp (aRange1 (aCons (eB fLen (aCons (eVar 1) aNil)) aNil)) 1 [0] (.nm 0) tTrue (eIf (tV (eOp oEqP (eVar 0) (eVar 1))) (eC (.int 1)) (eC (.int 0)))) aNil)))
noncomputable def F_parts_of_one:FM:=fnM 2 m_parts_of_one
noncomputable abbrev st_difference_steps:Stmt:=top 11
noncomputable def m_difference_steps:SM:=(sSeq (sSet 1 (eB (fSrtR true) (aCons (eComp (aEnum (aCons (eVar 0) aNil)) 2 [0] (.tp [(.nm 0),(.nm 1)]) tTrue (eTup (aCons (eVar 1) (aCons (eCall F_parts_of_one (aCons (eVar 0) (aCons (eVar 2) aNil))) aNil)))) aNil))) (sSeq (sSet 2 (eNew (aCons (eVar 1) aNil))) (sSeq (sWh (tV (eOp oGt (eB fLen (aCons (eVar 1) aNil)) (eC (.int 1)))) (sSeq (sSet 1 (eB (fSrtR true) (aCons (eOp oAdd (eSl fSlT (eVar 1) (oPart (eC (.int 2))) oNo) (eLst (aCons (eCall F_difference (aCons (eOp oIx (eVar 1) (eC (.int 0))) (aCons (eOp oIx (eVar 1) (eC (.int 1))) aNil))) aNil))) aNil))) (sDrop (eMtL mAppend (eVar 2) (aCons (eVar 1) aNil))))) (sRet (eVar 2)))))
noncomputable def F_difference_steps:FM:=fnM 3 m_difference_steps
noncomputable abbrev st_is_whole:Stmt:=top 5
noncomputable def m_is_whole:SM:=(sRet (eAnd (eB fIsi (aCons (eVar 0) (aCons (eC (.ty "int")) aNil))) (eNot (eB fIsi (aCons (eVar 0) (aCons (eC (.ty "bool")) aNil))))))
noncomputable def F_is_whole:FM:=fnM 1 m_is_whole
noncomputable abbrev st_is_row:Stmt:=top 6
noncomputable def m_is_row:SM:=(sSeq (sIf (PD.tOr (PD.tNot (tV (eB fIsi (aCons (eVar 0) (aCons (eC (.ty "tuple")) aNil))))) (tV (eOp oGt (eB fLen (aCons (eVar 0) aNil)) (eC (.int (16)))))) (sRet (eC (.bl false))) sSkip) (sRet (eB fAll (aCons (eComp (aSeq (eVar 0) itSeq) 1 [] (.nm 0) tTrue (eAnd (eCall F_is_whole (aCons (eVar 0) aNil)) (eOp oGe (eVar 0) (eC (.int 1))))) aNil))))
noncomputable def F_is_row:FM:=fnM 1 m_is_row
noncomputable abbrev st_need_row_n:Stmt:=top 7
noncomputable def m_need_row_n:SM:=(sIf (PD.tNot (tV (eCall F_is_row (aCons (eVar 0) aNil)))) sBad sSkip)
noncomputable def F_need_row_n:FM:=fnM 1 m_need_row_n
noncomputable abbrev st_difference_signs_n:Stmt:=top 13
noncomputable def m_difference_signs_n:SM:=(sSeq (sDrop (eCall F_need_row_n (aCons (eVar 0) aNil))) (sSeq (sIf (tV (eOp oEqP (eVar 0) (eTup aNil))) (sRet (eTup aNil)) sSkip) (sSeq (sSet 1 (eOp oIx (eOp oIx (eCall F_difference_steps (aCons (eVar 0) aNil)) (eUn oNeg (eC (.int 1)))) (eC (.int 0)))) (sRet (eOp oIx (eVar 1) (eC (.int 1)))))))
noncomputable def F_difference_signs_n:FM:=fnM 2 m_difference_signs_n
noncomputable abbrev st_differences_n:Stmt:=top 12
noncomputable def m_differences_n:SM:=(sSeq (sDrop (eCall F_need_row_n (aCons (eVar 0) aNil))) (sRet (eCompR (aFrz (eCall F_difference_steps (aCons (eVar 0) aNil))) 1 [] (.nm 0) tTrue (eB fTuple (aCons (eComp (aSeq (eVar 0) itSeq) 2 [] (.tp [(.nm 0),(.nm 1)]) tTrue (eVar 0)) aNil)))))
noncomputable def F_differences_n:FM:=fnM 1 m_differences_n
noncomputable abbrev st_law:Stmt:=top 24
noncomputable def m_law:SM:=(sSeq (sFor (aRange1 (aCons (eB fMax (aCons (eC (.int 1)) (aCons (eB fMin (aCons (eB fLen (aCons (eVar 0) aNil)) (aCons (eC (.int 5)) aNil))) aNil))) aNil)) (.nm 1) (sSeq (sSet 2 (eCall F__law_row (aCons (eCall F__law_box (aCons (eVar 0) (aCons (eVar 1) aNil))) (aCons (eC (.int 16)) aNil)))) (sSeq (sSet 3 (eCall F__law_due (aCons (eVar 2) aNil))) (sSeq (sFor (aRange1 (aCons (eC (.int 2)) aNil)) (.nm 4) (sSeq (sSet 6 (eCall F_differences_n (aCons (eVar 2) aNil))) (sSeq (sIf (tV (eOp oNeP (eB fReprS (aCons (eVar 6) aNil)) (eB fReprS (aCons (eVar 3) aNil)))) (sRet (eC (.bl false))) sSkip) (sDrop (eMtL mAppend (eVar 6) (aCons (eTup aNil) aNil)))))) (sSeq (sSet 5 (eCall F_difference_signs_n (aCons (eVar 2) aNil))) (sSeq (sIf (PD.tOr (PD.tNot (tV (eCall F__law_are (aCons (eVar 5) (aCons (eVar 2) (aCons (eTup (aCons (eUn oNeg (eC (.int 1))) (aCons (eC (.int 1)) aNil))) aNil)))))) (tV (eOp oNeP (eCall F_difference_signs_n (aCons (eVar 2) aNil)) (eVar 5)))) (sRet (eC (.bl false))) sSkip) (sIf (tV (eOp oNeP (eCall F__law_worth (aCons (eVar 2) (aCons (eVar 5) aNil))) (eOp oIx (eOp oAdd (eOp oIx (eVar 3) (eUn oNeg (eC (.int 1)))) (eTup (aCons (eC (.int 0)) aNil))) (eC (.int 0))))) (sRet (eC (.bl false))) sSkip))))))) (sRet (eC (.bl true))))
noncomputable def F_law:FM:=fnM 7 m_law
structure Gr (b:Nat) (S S':Sto):Prop where
 bx:∃ n,S'[b]?=some (.lst [.int n])
 oth:∀ i,i ≠ b→i < S.length→S'[i]?=S[i]?
 len:S.length≤S'.length
theorem Gr.trans {b:Nat} {S S1 S2:Sto} (x:Gr b S S1) (y:Gr b S1 S2):Gr b S S2:=
 ⟨y.bx,fun i h l=>(y.oth i h (Nat.lt_of_lt_of_le l x.len)).trans (x.oth i h l),Nat.le_trans x.len y.len⟩
theorem Gr.self {b:Nat} {S S1:Sto} (x:Gr b S S1):Gr b S1 S1:=⟨x.bx,fun _ _ _=>rfl,Nat.le_refl _⟩
theorem Gr.more {b:Nat} {S S1:Sto} (x:Gr b S S1) (l:Sto):Gr b S (S1 ++ l):=by
 obtain ⟨n,hn⟩:=x.bx
 have hb:b < S1.length:=(List.getElem?_eq_some_iff.mp hn).1
 refine ⟨⟨n,by rw [List.getElem?_append_left hb]; exact hn⟩,fun i h hl=>?_,by rw [List.length_append]; have:=x.len; omega⟩
 rw [List.getElem?_append_left (Nat.lt_of_lt_of_le hl x.len)]
 exact x.oth i h hl
theorem take_eq {S:Sto} {b:Nat} {n many:Int} (h:S[b]?=some (.lst [.int n])) (h0:0 < many) (h1:many < 1073741824):F__law_take [.ref b,.int many] S=.ok (.int (n % many)) (S.set b (.lst [.int (n / many)])):=by
 simp [F__law_take,fnM,m__law_take,sSeq,sAsg,sPut,sRet,eB,eOp,eVar,eC,aCons,aNil,R.bind,R.of,oIx,seqOf,h,atI,ixN,fDivmod,h0,h1,G.put,G.puts,fPut]
theorem take_ok {S:Sto} {b:Nat} (h:Gr b S S) {many:Int} (h0:0 < many) (h1:many < 1073741824):∃ q S',F__law_take [.ref b,.int many] S=.ok (.int q) S'∧0≤q∧q < many∧Gr b S S':=by
 obtain ⟨n,hn⟩:=h.bx
 have hb:b < S.length:=(List.getElem?_eq_some_iff.mp hn).1
 refine ⟨_,_,take_eq hn h0 h1,Int.emod_nonneg _ (by omega),Int.emod_lt_of_pos _ h0,⟨n / many,by simp [hb]⟩,fun i hi _=>?_,by simp⟩
 rw [List.getElem?_set_ne (Ne.symm hi)]
theorem cell_eq (ns:List Int) (k:Nat) (S:Sto):F__law_cell [.fz (ns.map .int),.int k] S=.ok (.int (ns.getD k 0)) S:=by
 by_cases hk:k < ns.length
 ·simp [F__law_cell,fnM,m__law_cell,sSeq,sIf,sRet,sSkip,tV,eB,eOp,eVar,eC,aCons,aNil,R.bind,R.of,oIx,seqOf,atI,ixN,oCmp,fLen,hk]
 ·simp [F__law_cell,fnM,m__law_cell,sSeq,sIf,sRet,sSkip,tV,eB,eOp,eVar,eC,aCons,aNil,R.bind,R.of,oIx,seqOf,atI,ixN,oCmp,fLen,hk]
theorem at_map (L:List Int) (k:Nat) (h:k < L.length):atI (L.map D.int) (k:Int)=some (.int L[k]):=by
 have e:ixN (L.map D.int).length (k:Int)=some k:=by
  unfold ixN
  rw [if_pos (Int.natCast_nonneg k),List.length_map,if_pos (Int.ofNat_lt.mpr h),Int.toNat_natCast]
 unfold atI
 rw [e]
 show (L.map D.int)[k]?=_
 rw [List.getElem?_map,List.getElem?_eq_getElem h]
 rfl
theorem mix_ok (cell:Int) (j:Nat) (hj:j < 1000) (S:Sto):∃ m:Int,F__law_mix [.int cell,.int j] S=.ok (.int m) S:=by
 have hix:∃ x:Int,smallI x∧atI [D.int 48271,D.int 69621,D.int 16807,D.int 39373,D.int 30269,D.int 40014,D.int 40692,D.int 50021,D.int 61687,D.int 71993,D.int 83869,D.int 95561,D.int 30307] ((j:Int) % 13)=some (.int x):=by
  have hk:j % 13 < 13:=Nat.mod_lt _ (by decide)
  have ha:∀ x ∈ ([48271,69621,16807,39373,30269,40014,40692,50021,61687,71993,83869,95561,30307]:List Int),smallI x:=by decide
  exact ⟨_,ha _ (List.getElem_mem hk),at_map [48271,69621,16807,39373,30269,40014,40692,50021,61687,71993,83869,95561,30307] (j % 13) hk⟩
 obtain ⟨x,hx,hix⟩:=hix
 have h2:∀ y:Int,smallI (y % 1000000007):=fun y=>by
  have:=Int.emod_nonneg y (show (1000000007:Int) ≠ 0 by decide)
  have:=Int.emod_lt_of_pos y (show (0:Int) < 1000000007 by decide)
  exact ⟨by omega,by omega⟩
 have s1:smallI 977:=by decide
 have s2:smallI 7919:=by decide
 have s3:smallI 48271:=by decide
 have hz:(13:Nat)≤sizeLine:=by decide
 simp [F__law_mix,fnM,m__law_mix,sSeq,sSet,sRet,eLst,eOp,eVar,eC,aCons,aNil,R.bind,R.of,oIx,seqOf,oAdd,oMul,oMod,oFdiv,hix,hx,h2,s1,s2,s3,hz]
theorem box_loop (cell:Int):∀ (l:List Nat) (S:Sto) (a b:Option D) (n:Int) (j:Option D),(∀ i ∈ l,i < 1000)→∃ (n':Int) (j':Option D),
  forL (.nm 4) (sSet 3 (eOp oAdd (eOp oMul (eVar 3) (eC (.int 142857143))) (eCall F__law_mix (aCons (eVar 2) (aCons (eVar 4) aNil))))) (l.map fun (i:Nat)=>D.int i) [a,b,some (.int cell),some (.int n),j] S=.ok (.nx [a,b,some (.int cell),some (.int n'),j']) S
 | [],S,a,b,n,j,_=>⟨n,j,rfl⟩
 | i :: l,S,a,b,n,j,h=>by
  obtain ⟨m,hm⟩:=mix_ok cell i (h i List.mem_cons_self) S
  have s1:smallI 142857143:=by decide
  obtain ⟨n',j',e⟩:=box_loop cell l S a b (n * 142857143 + m) (some (.int i)) fun x hx=>h x (List.mem_cons_of_mem _ hx)
  refine ⟨n',j',?_⟩
  simp only [List.map_cons,forL,G.put]
  simp [sSet,eOp,eVar,eC,eCall,aCons,aNil,R.bind,R.of,oAdd,oMul,hm,s1]
  exact e
theorem box_ok (ns:List Int) (k:Nat) (S:Sto):∃ v:Int,F__law_box [.fz (ns.map .int),.int k] S=.ok (.ref S.length) (S ++ [.lst [.int v]]):=by
 have hz:(1:Nat)≤sizeLine:=by decide
 have hc':=cell_eq ns k S
 generalize ns.getD k 0=c at hc'
 by_cases hc:c % 2=0
 ·refine ⟨(if c < 0 then -c else c) / 2,?_⟩
  simp [F__law_box,fnM,m__law_box,sSeq,sSet,sIf,sRet,sSkip,tV,eNew,eB,eCall,eOp,eVar,eC,aCons,aNil,R.bind,R.of,hc',oMod,oEqP,eqP,eqS,hc,fAbs,oFdiv,hz]
 ·obtain ⟨n',j',e⟩:=box_loop c (List.range 40) S (some (.fz (ns.map .int))) (some (.int k)) 0 none (fun i hi=>by have:=List.mem_range.mp hi; omega)
  refine ⟨n',?_⟩
  have hr:(40:Int).toNat=40:=rfl
  simp [F__law_box,fnM,m__law_box,sSeq,sSet,sIf,sRet,sSkip,tV,eNew,eB,eCall,eOp,eVar,eC,aCons,aNil,R.bind,R.of,hc',oMod,oEqP,eqP,eqS,hc,sFor,aRange1,hz]
  rw [e]
  simp [sRet,hz]
noncomputable def okN (x:Int):Prop:=1≤x∧x < 1000000000000000
noncomputable abbrev rowBody:SM:=(sSeq (sSet 7 (eOp oAdd (eC (.int 1)) (eCall F__law_take (aCons (eVar 0) (aCons (eC (.int 12)) aNil))))) (sSeq (sSet 8 (eLst (aCons (eVar 7) (aCons (eVar 7) (aCons (eVar 4) (aCons (eOp oShl (eC (.int 1)) (eVar 6)) (aCons (eOp oAdd (eVar 4) (eOp oMul (eVar 6) (eVar 7))) (aCons (eOp oMul (eVar 7) (eVar 7)) (aCons (eOp oAdd (eOp oMul (eOp oPow (eC (.int 10)) (eC (.int 12))) (eVar 7)) (eVar 7)) aNil))))))))) (sDrop (eMtL mAppend (eVar 5) (aCons (eOp oIx (eLst (aCons (eOp oIx (eVar 8) (eVar 3)) (aCons (eOp oMul (eVar 4) (eVar 7)) aNil))) (eB fInt (aCons (eOp oEqP (eCall F__law_take (aCons (eVar 0) (aCons (eC (.int 9)) aNil))) (eC (.int 8))) aNil))) aNil)))))
theorem row_eval {S S1 S2:Sto} {b f:Nat} {kind base i q q' G P T y:Int} {M1 M2 M3 M4:Int} {xs:List D} {r1 r2 r7 r8:Option D} (e1:F__law_take [.ref b,.int 12] S=.ok (.int q) S1) (e2:F__law_take [.ref b,.int 9] S1=.ok (.int q') S2) (hG:1 + q=G)
  (hf1:S1[f]?=some (.lst xs)) (hf2:S2[f]?=some (.lst xs)) (zl:xs.length < sizeLine)
  (eShl:∀ S:Sto,oShl S (.int 1) (.int i)=some (.int P)) (ePow:∀ S:Sto,oPow S (.int 10) (.int 12)=some (.int T)) (eM1:∀ S:Sto,oMul S (.int i) (.int G)=some (.int M1)) (eM2:∀ S:Sto,oMul S (.int G) (.int G)=some (.int M2)) (eM3:∀ S:Sto,oMul S (.int base) (.int G)=some (.int M3)) (eM4:∀ S:Sto,oMul S (.int T) (.int G)=some (.int M4))
  (hix:atI [D.int G,D.int G,D.int base,D.int P,D.int (base + M1),D.int M2,D.int (M4 + G)] kind=some (.int y)):
  rowBody [some (.ref b),r1,r2,some (.int kind),some (.int base),some (.ref f),some (.int i),r7,r8] S=.ok (.nx [some (.ref b),r1,r2,some (.int kind),some (.int base),some (.ref f),some (.int i),some (.int G),some (.lst [D.int G,D.int G,D.int base,D.int P,D.int (base + M1),D.int M2,D.int (M4 + G)])]) (S2.set f (.lst (xs ++ [.int (if q'=8 then M3 else y)]))):=by
 have z7:(7:Nat)≤sizeLine:=by decide
 have z2:(2:Nat)≤sizeLine:=by decide
 have hA0:∀ a b:D,atI [a,b] 0=some a:=fun _ _=>rfl
 have hA1:∀ a b:D,atI [a,b] 1=some b:=fun _ _=>rfl
 by_cases h8:q'=8
 ·simp only [rowBody,sSeq,sSet,sDrop,eMtL,eLst,eB,eCall,eOp,eVar,eC,aCons,aNil,R.bind,R.of,e1,hG,eShl,ePow,eM1,eM2,eM3,eM4,oAdd,isL,hf1,oIx,seqOf,hix,e2,oEqP,eqP,eqS,h8,fInt,hA0,hA1,mAppend,hf2,zl,List.length_cons,List.length_nil,List.getElem?_cons_zero,List.getElem?_cons_succ,List.set_cons_zero,List.set_cons_succ,if_true,Nat.reduceAdd,decide_true,Option.map_some,z7,z2]
 ·simp only [rowBody,sSeq,sSet,sDrop,eMtL,eLst,eB,eCall,eOp,eVar,eC,aCons,aNil,R.bind,R.of,e1,hG,eShl,ePow,eM1,eM2,eM3,eM4,oAdd,isL,hf1,oIx,seqOf,hix,e2,oEqP,eqP,eqS,h8,fInt,hA0,hA1,mAppend,hf2,zl,List.length_cons,List.length_nil,List.getElem?_cons_zero,List.getElem?_cons_succ,List.set_cons_zero,List.set_cons_succ,if_true,Nat.reduceAdd,decide_true,decide_false,if_false,Bool.false_eq_true,Option.map_some,z7,z2]
theorem row_turn {S0 S:Sto} {b f i:Nat} {kind base:Int} {xs:List Int} {r1 r2 r7 r8:Option D} (hi:i < 16) (hk:0≤kind∧kind < 7) (hb:1≤base∧base < 10) (g:Gr b S0 S) (hf:S[f]?=some (.lst (xs.map .int))) (hfb:f ≠ b) (hf0:S0.length≤f) (hl:xs.length < 1000):
  ∃ (y:Int) (S':Sto) (r7' r8':Option D),rowBody [some (.ref b),r1,r2,some (.int kind),some (.int base),some (.ref f),some (.int i),r7,r8] S=.ok (.nx [some (.ref b),r1,r2,some (.int kind),some (.int base),some (.ref f),some (.int i),r7',r8']) S'∧
   okN y∧S'[f]?=some (.lst ((xs ++ [y]).map .int))∧Gr b S0 S':=by
 obtain ⟨q,S1,e1,q0,q1,g1⟩:=take_ok g.self (many:=12) (by decide) (by decide)
 obtain ⟨q',S2,e2,q0',q1',g2⟩:=take_ok g1.self (many:=9) (by decide) (by decide)
 have hfl:f < S.length:=(List.getElem?_eq_some_iff.mp hf).1
 have hf1:S1[f]?=some (.lst (xs.map .int)):=by rw [g1.oth f hfb hfl]; exact hf
 have hf2:S2[f]?=some (.lst (xs.map .int)):=by rw [g2.oth f hfb (Nat.lt_of_lt_of_le hfl g1.len)]; exact hf1
 have hfl2:f < S2.length:=(List.getElem?_eq_some_iff.mp hf2).1
 generalize hG:(1:Int) + q=G
 have hG0:1≤G∧G≤12:=by omega
 have sG:smallI G:=⟨by omega,by omega⟩
 have sB:smallI base:=⟨by omega,by omega⟩
 have sI:smallI (i:Int):=⟨by omega,by omega⟩
 have m1:(i:Int) * G≤15 * 12:=Int.mul_le_mul (by omega) hG0.2 (by omega) (by omega)
 have m1':0≤(i:Int) * G:=Int.mul_nonneg (by omega) (by omega)
 have m2:G * G≤12 * 12:=Int.mul_le_mul hG0.2 hG0.2 (by omega) (by omega)
 have m2':1 * 1≤G * G:=Int.mul_le_mul hG0.1 hG0.1 (by omega) (by omega)
 have m3:base * G≤9 * 12:=Int.mul_le_mul (by omega) hG0.2 (by omega) (by omega)
 have m3':1 * 1≤base * G:=Int.mul_le_mul hb.1 hG0.1 (by omega) (by omega)
 have m4:(2:Int) ^ i≤32768:=by
  have h:=Nat.pow_le_pow_right (n:=2) (by decide) (show i≤15 by omega)
  have h':((2 ^ i:Nat):Int)≤((2 ^ 15:Nat):Int):=by exact_mod_cast h
  simpa using h'
 have m4':1≤(2:Int) ^ i:=by
  have h:=Nat.one_le_two_pow (n:=i)
  have h':(1:Int)≤((2 ^ i:Nat):Int):=by exact_mod_cast h
  simpa using h'
 have hix:∃ y:Int,okN y∧atI [D.int G,D.int G,D.int base,D.int (2 ^ i),D.int (base + (i:Int) * G),D.int (G * G),D.int (1000000000000 * G + G)] kind=some (.int y):=by
  have h:kind=0 ∨ kind=1 ∨ kind=2 ∨ kind=3 ∨ kind=4 ∨ kind=5 ∨ kind=6:=by omega
  rcases h with h | h | h | h | h | h | h <;> subst h
  ·exact ⟨_,⟨by omega,by omega⟩,rfl⟩
  ·exact ⟨_,⟨by omega,by omega⟩,rfl⟩
  ·exact ⟨_,⟨by omega,by omega⟩,rfl⟩
  ·exact ⟨_,⟨m4',by omega⟩,rfl⟩
  ·exact ⟨_,⟨by omega,by omega⟩,rfl⟩
  ·exact ⟨_,⟨by omega,by omega⟩,rfl⟩
  ·exact ⟨_,⟨by omega,by omega⟩,rfl⟩
 obtain ⟨y,hy,hix⟩:=hix
 have hev:=row_eval (r1:=r1) (r2:=r2) (r7:=r7) (r8:=r8) (base:=base) (i:=(i:Int)) e1 e2 hG hf1 hf2 (by rw [List.length_map]; exact Nat.lt_trans hl (by decide)) (fun S=>oShl_i (by omega)) (fun S=>oPow_10_12) (fun S=>oMul_i (.inl sI)) (fun S=>oMul_i (.inl sG)) (fun S=>oMul_i (.inl sB)) (fun S=>oMul_i (.inr sG)) hix
 have hy':okN (if q'=8 then base * G else y):=by
  split
  ·exact ⟨by omega,by omega⟩
  ·exact hy
 have g02:=(g.trans g1).trans g2
 obtain ⟨n,hn⟩:=g02.bx
 refine ⟨_,_,_,_,hev,hy',by rw [List.map_append]; simp [hfl2],⟨n,by rw [List.getElem?_set_ne hfb]; exact hn⟩,fun j hj hl=>?_,by simp; exact g02.len⟩
 rw [List.getElem?_set_ne (by omega)]
 exact g02.oth j hj hl
theorem row_loop {S0:Sto} {b f:Nat} {kind base:Int} {r1 r2:Option D} (hk:0≤kind∧kind < 7) (hb:1≤base∧base < 10) (hfb:f ≠ b) (hf0:S0.length≤f):∀ (l:List Nat) (S:Sto) (xs:List Int) (r6 r7 r8:Option D),(∀ i ∈ l,i < 16)→Gr b S0 S→S[f]?=some (.lst (xs.map .int))→xs.length + l.length < 1000→(∀ x ∈ xs,okN x)→
  ∃ (ys:List Int) (S':Sto) (r6' r7' r8':Option D),forL (.nm 6) rowBody (l.map fun (i:Nat)=>D.int i) [some (.ref b),r1,r2,some (.int kind),some (.int base),some (.ref f),r6,r7,r8] S=.ok (.nx [some (.ref b),r1,r2,some (.int kind),some (.int base),some (.ref f),r6',r7',r8']) S'∧
   ys.length=xs.length + l.length∧(∀ y ∈ ys,okN y)∧S'[f]?=some (.lst (ys.map .int))∧Gr b S0 S'
 | [],S,xs,r6,r7,r8,_,g,hf,_,hx=>⟨xs,S,r6,r7,r8,rfl,rfl,hx,hf,g⟩
 | i :: l,S,xs,r6,r7,r8,hl,g,hf,hz,hx=>by
  rw [List.length_cons] at hz
  obtain ⟨y,S1,r7',r8',e,hy,hf1,g1⟩:=row_turn (r1:=r1) (r2:=r2) (r7:=r7) (r8:=r8) (hl i List.mem_cons_self) hk hb g hf hfb hf0 (by omega)
  obtain ⟨ys,S2,a6,a7,a8,e2,h1,h2,h3,h4⟩:=row_loop hk hb hfb hf0 l S1 (xs ++ [y]) (some (.int i)) r7' r8' (fun j hj=>hl j (List.mem_cons_of_mem _ hj)) g1 hf1 (by rw [List.length_append,List.length_cons,List.length_nil]; omega) (fun x h=>by
   rcases List.mem_append.mp h with h | h
   ·exact hx x h
   ·rw [List.mem_singleton.mp h]; exact hy)
  refine ⟨ys,S2,a6,a7,a8,?_,by rw [h1,List.length_append,List.length_cons,List.length_nil,List.length_cons]; omega,h2,h3,h4⟩
  rw [List.map_cons,forL]
  simp only [G.put,List.set_cons_zero,List.set_cons_succ,e,R.bind_ok]
  exact e2
theorem row_ok {S:Sto} {b:Nat} {most:Int} (g:Gr b S S) (hm:0≤most∧most≤16):∃ (xs:List Int) (S':Sto),F__law_row [.ref b,.int most] S=.ok (.tup (xs.map .int)) S'∧(xs.length:Int)≤most∧(∀ x ∈ xs,okN x)∧Gr b S S':=by
 obtain ⟨many,S1,e1,a0,a1,g1⟩:=take_ok g (many:=most + 1) (by omega) (by omega)
 obtain ⟨kind,S2,e2,b0,b1,g2⟩:=take_ok g1.self (many:=7) (by decide) (by decide)
 obtain ⟨bs,S3,e3,c0,c1,g3⟩:=take_ok g2.self (many:=9) (by decide) (by decide)
 have gs:=(g1.trans g2).trans g3
 obtain ⟨n0,hn0⟩:=gs.bx
 have hb3:b < S3.length:=(List.getElem?_eq_some_iff.mp hn0).1
 obtain ⟨ys,S4,r6,r7,r8,e4,h1,h2,h3,h4⟩:=row_loop (S0:=S) (b:=b) (f:=S3.length) (kind:=kind) (base:=1 + bs) (r1:=some (.int most)) (r2:=some (.int many)) ⟨b0,b1⟩ ⟨by omega,by omega⟩ (by omega) gs.len (List.range many.toNat) (S3 ++ [.lst []]) [] none none none (fun i hi=>by have:=List.mem_range.mp hi; omega) (gs.more _) (by simp) (by simp; omega) (fun x h=>nomatch h)
 refine ⟨ys,S4,?_,by rw [h1]; simp; omega,h2,h4⟩
 have z0:(0:Nat)≤sizeLine:=Nat.zero_le _
 have hr:many < 2 ^ 62∧-(2 ^ 62)≤many:=⟨by omega,by omega⟩
 simp only [F__law_row,fnM,m__law_row,sSeq,sSet,sFor,aRange1,eNew,eCall,eOp,eVar,eC,aCons,aNil,R.bind,R.of,oAdd,e1,e2,e3,List.map_cons,List.map_nil,List.length_cons,List.length_nil,List.cons_append,List.nil_append,Nat.reduceAdd,Nat.reduceSub,List.replicate,List.getElem?_cons_zero,List.getElem?_cons_succ,List.set_cons_zero,List.set_cons_succ,z0,if_true,hr,and_self]
 rw [show (sSeq (sSet 7 (eOp oAdd (eC (.int 1)) (eCall F__law_take (aCons (eVar 0) (aCons (eC (.int 12)) aNil))))) _)=rowBody from rfl,e4]
 simp only [sRet,eB,aCons,aNil,eVar,R.bind,R.of,List.getElem?_cons_zero,List.getElem?_cons_succ,fTuple,seqOf,h3,Option.map_some]
noncomputable def shal:D→Bool
 | .fz _=>false
 | .ref _=>false
 | .ty _=>false
 | .exc _=>false
 | .cls _=>false
 | _=>true
noncomputable def isI:D→Bool
 | .int _=>true
 | _=>false
theorem whole_eq {d:D} {S:Sto} (h:shal d=true):F_is_whole [d] S=.ok (.bl (isI d)) S:=by
 cases d <;> first | (cases h; done) | (simp [F_is_whole,fnM,m_is_whole,sRet,eAnd,eNot,eB,eVar,eC,aCons,aNil,R.bind,R.of,fIsi,tyD,isiTys,isI])
noncomputable def rowOk:D→Bool
 | .int i=>decide (1≤i)
 | _=>false
theorem boolsOf_map {A:Type} (f:A→Bool):∀ xs:List A,boolsOf (xs.map fun x=>D.bl (f x))=some (xs.map f)
 | []=>rfl
 | x :: xs=>by rw [List.map_cons,boolsOf,boolsOf_map f xs]; rfl
theorem comp_bool {e:EM} {f:D→Bool} {tl:Rho}:∀ (xs:List D) (r0:Option D) (S:Sto),(∀ x ∈ xs,e (some x :: tl) S=.ok (.bl (f x)) S)→compL (.nm 0) tTrue e xs (r0 :: tl) S=.ok (xs.map fun x=>D.bl (f x)) S
 | [],_,_,_=>rfl
 | x :: xs,r0,S,h=>by
  have h1:=h x List.mem_cons_self
  have h2:=comp_bool xs (some x) S fun y hy=>h y (List.mem_cons_of_mem _ hy)
  rw [compL]
  simp only [G.put,List.set_cons_zero,tTrue,R.bind_ok,if_true,h1,h2,List.map_cons]
noncomputable def isRow:D→Bool
 | .tup xs=>decide (xs.length≤16) && xs.all rowOk
 | _=>false
noncomputable def Okay (d:D):Prop:=shal d=true∧∀ xs,d=.tup xs→(∀ x ∈ xs,shal x=true)∧xs.length≤1000
theorem row_el {x:D} {S:Sto} (h:shal x=true):(eAnd (eCall F_is_whole (aCons (eVar 0) aNil)) (eOp oGe (eVar 0) (eC (.int 1)))) [some x] S=.ok (.bl (rowOk x)) S:=by
 have:=whole_eq (S:=S) h
 cases x <;> first | (cases h; done) | (simp [eAnd,eCall,eOp,eVar,eC,aCons,aNil,R.bind,R.of,this,isI,rowOk,oCmp])
theorem isrow_eq {d:D} {S:Sto} (h:Okay d):F_is_row [d] S=.ok (.bl (isRow d)) S:=by
 cases d with
 | tup xs=>
  obtain ⟨hs,hl⟩:=h.2 xs rfl
  have hc:=comp_bool (tl:=[]) (f:=rowOk) xs none S fun x hx=>row_el (hs x hx)
  have z:xs.length≤sizeLine:=Nat.le_trans hl (by decide)
  by_cases h16:xs.length≤16
  ·have h16':¬ (16:Int) < (xs.length:Int):=by omega
   simp only [F_is_row,fnM,m_is_row,sSeq,sIf,sRet,sSkip,PD.tOr,PD.tNot,tV,eB,eComp,aSeq,itSeq,capOf,eOp,eVar,eC,aCons,aNil,R.bind,R.of,fIsi,tyD,fLen,seqOf,oCmp,fAll,List.map_cons,List.map_nil,List.length_cons,List.length_nil,List.replicate,List.cons_append,List.nil_append,List.append_nil,Nat.reduceAdd,Nat.reduceSub,List.getElem?_cons_zero,h16',decide_false,Bool.false_eq_true,if_false,z,if_true,hc,boolsOf_map,Option.map_some,isRow,h16,decide_true,Bool.true_and]
   simp [isiTys]
   simp [z,hc,boolsOf_map,fAll,R.of,R.bind,sRet,eB,aCons]
  ·have h16':(16:Int) < (xs.length:Int):=by omega
   simp [F_is_row,fnM,m_is_row,sSeq,sIf,sRet,sSkip,PD.tOr,PD.tNot,tV,eB,eOp,eVar,eC,aCons,aNil,R.bind,R.of,fIsi,tyD,fLen,seqOf,oCmp,isiTys,isRow,h16,h16']
 | _=>first | (cases h.1; done) | (simp [F_is_row,fnM,m_is_row,sSeq,sIf,sRet,sSkip,PD.tOr,PD.tNot,tV,eB,eOp,eVar,eC,aCons,aNil,R.bind,R.of,fIsi,tyD,isiTys,isRow])
theorem oNeP_i {S:Sto} {i j:Int}:oNeP S (.int i) (.int j)=some (.bl (!decide (i=j))):=rfl
theorem oEqP_i {S:Sto} {i j:Int}:oEqP S (.int i) (.int j)=some (.bl (decide (i=j))):=rfl
theorem sSeq_go {a b:SM} {r r1:Rho} {S S1:Sto} (h:a r S=.ok (.nx r1) S1):sSeq a b r S=b r1 S1:=by
 unfold sSeq
 rw [h]
 rfl
noncomputable def Row (xs:List Int):Prop:=(∀ x ∈ xs,1≤x)∧xs.length≤16
theorem ints_okay {xs:List Int} (h:xs.length≤1000):Okay (.tup (xs.map .int)):=⟨rfl,fun ys e=>by
 cases e
 refine ⟨fun x hx=>?_,by rw [List.length_map]; exact h⟩
 obtain ⟨i,_,rfl⟩:=List.mem_map.mp hx
 rfl⟩
theorem Row.okay {xs:List Int} (h:Row xs):Okay (.tup (xs.map .int)):=ints_okay (by have:=h.2; omega)
theorem Row.is {xs:List Int} (h:Row xs):isRow (.tup (xs.map .int))=true:=by
 unfold isRow
 rw [Bool.and_eq_true]
 refine ⟨by rw [List.length_map]; exact decide_eq_true h.2,List.all_eq_true.mpr fun x hx=>?_⟩
 obtain ⟨i,hi,rfl⟩:=List.mem_map.mp hx
 exact decide_eq_true (h.1 i hi)
theorem sFor_go {it:AM} {g:PD.G} {b:SM} {r:Rho} {S S1:Sto} {xs:List D} (h:it r S=.ok xs S1):sFor it g b r S=forL g b xs r S1:=by unfold sFor; rw [h,R.bind_ok]
theorem fnM_rt {n:Nat} {b:SM} {ds:List D} {ρ:Rho} {S S1:Sto} {d:D} (hρ:ds.map some ++ List.replicate (n - ds.length) none = ρ) (h:b ρ S=.ok (.rt d) S1):fnM n b ds S=.ok d S1:=by unfold fnM; rw [hρ,h,R.bind_ok]
theorem sSeq_rt {a b:SM} {r:Rho} {S S1:Sto} {d:D} (h:a r S=.ok (.rt d) S1):sSeq a b r S=.ok (.rt d) S1:=by unfold sSeq; rw [h,R.bind_ok]
theorem sSet_go {i:Nat} {a:EM} {r:Rho} {S S1:Sto} {d:D} (h:a r S=.ok d S1):sSet i a r S=.ok (.nx (r.set i (some d))) S1:=by unfold sSet; rw [h,R.bind_ok]
theorem sRet_go {a:EM} {r:Rho} {S S1:Sto} {d:D} (h:a r S=.ok d S1):sRet a r S=.ok (.rt d) S1:=by unfold sRet; rw [h,R.bind_ok]
theorem sIf_t {t:TM} {a b:SM} {r:Rho} {S S1:Sto} (h:t r S=.ok true S1):sIf t a b r S=a r S1:=by unfold sIf; rw [h,R.bind_ok]; exact if_pos rfl
theorem sIf_f {t:TM} {a b:SM} {r:Rho} {S S1:Sto} (h:t r S=.ok false S1):sIf t a b r S=b r S1:=by unfold sIf; rw [h,R.bind_ok]; exact if_neg Bool.false_ne_true
theorem sDrop_go {a:EM} {r:Rho} {S S1:Sto} {d:D} (h:a r S=.ok d S1):sDrop a r S=.ok (.nx r) S1:=by unfold sDrop; rw [h,R.bind_ok]
theorem forL_cons {g:PD.G} {b:SM} {x:D} {xs:List D} {r r1 r2:Rho} {S S1:Sto} (hp:g.put x r=some r1) (h:b r1 S=.ok (.nx r2) S1):forL g b (x :: xs) r S=forL g b xs r2 S1:=by rw [forL]; simp only [hp,h,R.bind_ok]
theorem eCall_go {f:FM} {t:AM} {r:Rho} {S S1:Sto} {xs:List D} (h:t r S=.ok xs S1):eCall f t r S=f xs S1:=by unfold eCall; rw [h,R.bind_ok]
theorem eOp_go {f:Sto→D→D→Option D} {a b:EM} {r:Rho} {S S1 S2:Sto} {x y z:D} (h1:a r S=.ok x S1) (h2:b r S1=.ok y S2) (h3:f S2 x y=some z):eOp f a b r S=.ok z S2:=by unfold eOp; rw [h1,R.bind_ok,h2,R.bind_ok,h3]; rfl
theorem eB_go {f:Sto→List D→Option D} {t:AM} {r:Rho} {S S1:Sto} {xs:List D} {z:D} (h1:t r S=.ok xs S1) (h3:f S1 xs=some z):eB f t r S=.ok z S1:=by unfold eB; rw [h1,R.bind_ok,h3]; rfl
theorem aCons_go {a:EM} {t:AM} {r:Rho} {S S1 S2:Sto} {x:D} {xs:List D} (h1:a r S=.ok x S1) (h2:t r S1=.ok xs S2):aCons a t r S=.ok (x :: xs) S2:=by unfold aCons; rw [h1,R.bind_ok,h2,R.bind_ok]
theorem tV_go {a:EM} {r:Rho} {S S1:Sto} {b:Bool} (h:a r S=.ok (.bl b) S1):tV a r S=.ok b S1:=by unfold tV; rw [h,R.bind_ok]
theorem tNot_go {a:TM} {r:Rho} {S S1:Sto} {b:Bool} (h:a r S=.ok b S1):PD.tNot a r S=.ok (!b) S1:=by unfold PD.tNot; rw [h,R.bind_ok]
theorem eMtL_go {f:Sto→D→List D→R D} {o:EM} {t:AM} {r:Rho} {S S1 S2:Sto} {x:D} {ys:List D} (h1:o r S=.ok x S1) (hl:isL S1 x=true) (h2:t r S1=.ok ys S2):eMtL f o t r S=f S2 x ys:=by unfold eMtL; rw [h1,R.bind_ok,if_pos hl,h2,R.bind_ok]
theorem eIf_t {t:TM} {a b:EM} {r:Rho} {S S1:Sto} (h:t r S=.ok true S1):eIf t a b r S=a r S1:=by unfold eIf; rw [h,R.bind_ok]; exact if_pos rfl
theorem eIf_f {t:TM} {a b:EM} {r:Rho} {S S1:Sto} (h:t r S=.ok false S1):eIf t a b r S=b r S1:=by unfold eIf; rw [h,R.bind_ok]; exact if_neg Bool.false_ne_true
theorem big62 {n:Int} (h0:0≤n) (h:n≤100000):n < 2 ^ 62∧-(2 ^ 62)≤n:=⟨by omega,by omega⟩
theorem aRange1_int {t:AM} {r:Rho} {S S1:Sto} {m:Int} (h:t r S=.ok [.int m] S1) (h0:0≤m) (h1:m≤100000):aRange1 t r S=.ok ((List.range m.toNat).map fun (i:Nat)=>D.int i) S1:=by
 have hr:=big62 h0 h1
 simp only [aRange1,h,R.bind,if_pos hr]
theorem aRange1_ok {t:AM} {r:Rho} {S S1:Sto} {n:Nat} (h:t r S=.ok [.int (n:Int)] S1) (hn:n≤100000):aRange1 t r S=.ok ((List.range n).map fun (i:Nat)=>D.int i) S1:=
 aRange1_int h (Int.natCast_nonneg n) (Int.ofNat_le.mpr hn)
theorem intsOf_map:∀ xs:List Int,intsOf (xs.map .int)=some xs
 | []=>rfl
 | x :: xs=>by rw [List.map_cons,intsOf,intsOf_map xs]; rfl
theorem comp_map {A:Type} {enc out:A→D} {e:EM} {tl:Rho} {S:Sto}:∀ (xs:List A) (r0:Option D),(∀ x ∈ xs,e (some (enc x) :: tl) S=.ok (out x) S)→compL (.nm 0) tTrue e (xs.map enc) (r0 :: tl) S=.ok (xs.map out) S
 | [],_,_=>rfl
 | x :: xs,r0,h=>by
  have h1:=h x List.mem_cons_self
  have h2:=comp_map (out:=out) xs (some (enc x)) fun y hy=>h y (List.mem_cons_of_mem _ hy)
  rw [List.map_cons,compL]
  simp only [G.put,List.set_cons_zero,tTrue,R.bind_ok,if_true,h1,h2,List.map_cons]
theorem eComp_map {A:Type} {enc out:A→D} {e:EM} {it:AM} {caps:List Nat} {tl r:Rho} {S:Sto} (xs:List A) (hi:it r S=.ok (xs.map enc) S) (hl:xs.length≤sizeLine) (hc:caps.map (fun i=>(r[i]?).join)=tl) (h:∀ x ∈ xs,e (some (enc x) :: tl) S=.ok (out x) S):eComp it 1 caps (.nm 0) tTrue e r S=.ok (.lst (xs.map out)) S:=by
 unfold eComp
 rw [hi,R.bind_ok,if_pos (by rw [List.length_map]; exact hl)]
 have:capOf 1 caps r=none :: tl:=by unfold capOf; rw [hc]; rfl
 rw [this,comp_map (out:=out) xs none h,R.bind_ok]
theorem comp_two {A:Type} {x1 x2:A→D} {out:A→D} {e:EM} {tl:Rho} {S:Sto}:∀ (xs:List A) (r0 r1:Option D),(∀ x ∈ xs,e (some (x1 x) :: some (x2 x) :: tl) S=.ok (out x) S)→compL (.tp [.nm 0,.nm 1]) tTrue e (xs.map fun x=>.tup [x1 x,x2 x]) (r0 :: r1 :: tl) S=.ok (xs.map out) S
 | [],_,_,_=>rfl
 | x :: xs,r0,r1,h=>by
  have h1:=h x List.mem_cons_self
  have h2:=comp_two (out:=out) xs (some (x1 x)) (some (x2 x)) fun y hy=>h y (List.mem_cons_of_mem _ hy)
  rw [List.map_cons,compL]
  simp only [G.put,G.puts,List.set_cons_zero,List.set_cons_succ,tTrue,R.bind_ok,if_true,h1,h2,List.map_cons]
theorem eComp_two {A:Type} {x1 x2:A→D} {out:A→D} {e:EM} {it:AM} {caps:List Nat} {tl r:Rho} {S:Sto} (xs:List A) (hi:it r S=.ok (xs.map fun x=>.tup [x1 x,x2 x]) S) (hl:xs.length≤sizeLine) (hc:caps.map (fun i=>(r[i]?).join)=tl) (h:∀ x ∈ xs,e (some (x1 x) :: some (x2 x) :: tl) S=.ok (out x) S):eComp it 2 caps (.tp [.nm 0,.nm 1]) tTrue e r S=.ok (.lst (xs.map out)) S:=by
 unfold eComp
 rw [hi,R.bind_ok,if_pos (by rw [List.length_map]; exact hl)]
 have:capOf 2 caps r=none :: none :: tl:=by unfold capOf; rw [hc]; rfl
 rw [this,comp_two (out:=out) xs none none h,R.bind_ok]
theorem it_var {i:Nat} {r:Rho} {S:Sto} {d:D} {xs:List D} (h:r[i]?=some (some d)) (hx:itSeq S d=some xs):aSeq (eVar i) itSeq r S=.ok xs S:=by
 unfold aSeq eVar
 rw [h]
 show R.bind (.ok d S) _=_
 rw [R.bind_ok,hx]; rfl
theorem eVar_go {i:Nat} {r:Rho} {S:Sto} {d:D} (h:r[i]?=some (some d)):eVar i r S=.ok d S:=by
 unfold eVar; rw [h]
theorem eTup_go {t:AM} {r:Rho} {S S1:Sto} {xs:List D} (h:t r S=.ok xs S1) (hl:xs.length≤sizeLine):eTup t r S=.ok (.tup xs) S1:=by unfold eTup; rw [h,R.bind_ok,if_pos hl]
theorem eLst_go {t:AM} {r:Rho} {S S1:Sto} {xs:List D} (h:t r S=.ok xs S1) (hl:xs.length≤sizeLine):eLst t r S=.ok (.lst xs) S1:=by unfold eLst; rw [h,R.bind_ok,if_pos hl]
theorem eAnd_t {a b:EM} {r:Rho} {S S1:Sto} (h:a r S=.ok (.bl true) S1):eAnd a b r S=b r S1:=by unfold eAnd; rw [h,R.bind_ok]
theorem tOr_f {a b:TM} {r:Rho} {S S1:Sto} (h:a r S=.ok false S1):PD.tOr a b r S=b r S1:=by unfold PD.tOr; rw [h,R.bind_ok]; exact if_neg Bool.false_ne_true
theorem fAll_map {A:Type} {S:Sto} {f:A→Bool} {xs:List A}:fAll S [.lst (xs.map fun x=>D.bl (f x))]=some (.bl (xs.all f)):=by
 show Option.map (fun bs=>D.bl (bs.all id)) (boolsOf (xs.map fun x=>D.bl (f x)))=_
 rw [boolsOf_map,Option.map_some,List.all_map]
 rfl
noncomputable abbrev Pr:=Int × List Int
noncomputable def dif (p q:Pr):Pr:=(p.1 - q.1,List.zipWith (fun a b=>a - b) p.2 q.2)
noncomputable def srtP (l:List Pr):List Pr:=SK.byOrd true l (0,[]) l
noncomputable def fs (l:List Pr):List Int:=l.map (·.1)
theorem srtP_perm (l:List Pr):(srtP l).Perm l:=SK.byOrd_perm true _ rfl
theorem srtP_len (l:List Pr):(srtP l).length=l.length:=(srtP_perm l).length_eq
theorem srt_fst {l:List Pr} {zs:List Int} (h:zs.Perm (fs l)):sortZ zs=(fs (srtP l)).reverse:=by
 refine sorted_uniq ?_ (sortZ_sorted zs) ?_
 ·exact (sortZ_perm zs).trans (h.trans (((srtP_perm l).map _).symm.trans (List.reverse_perm _).symm))
 ·rw [List.pairwise_reverse]
  unfold fs
  rw [List.pairwise_map]
  refine (SK.byOrd_sorted true l).imp ?_
  intro p q hpq
  simp only [if_true] at hpq
  unfold ltP at hpq
  by_cases e:p.1=q.1
  ·omega
  ·rw [if_neg e] at hpq
   have:=of_decide_eq_false hpq
   omega
noncomputable def nxt:List Pr→List Pr
 | a :: b :: r=>srtP (r ++ [dif a b])
 | l=>l
theorem nxt_len {l:List Pr} (h:2≤l.length):(nxt l).length=l.length - 1:=by
 match l,h with
 | a :: b :: r,_=>show (srtP (r ++ [dif a b])).length=_; rw [srtP_len]; simp
noncomputable def dotL (row xs:List Int):Int:=(List.zipWith (fun a b=>a * b) row xs).sum
theorem dotL_sub:∀ (row xs ys:List Int),xs.length=ys.length→dotL row (List.zipWith (fun a b=>a - b) xs ys)=dotL row xs - dotL row ys
 | [],_,_,_=>by simp [dotL]
 | _ :: _,[],[],_=>by simp [dotL]
 | _ :: _,[],_ :: _,h=>by simp at h
 | _ :: _,_ :: _,[],h=>by simp at h
 | r :: row,x :: xs,y :: ys,h=>by
  have ih:=dotL_sub row xs ys (by simpa using h)
  unfold dotL at ih ⊢
  simp only [List.zipWith_cons_cons,List.sum_cons]
  rw [ih,Int.mul_sub]
  omega
structure Good (row:List Int) (l:List Pr):Prop where
 len:∀ p ∈ l,p.2.length=row.length
 val:∀ p ∈ l,p.1=dotL row p.2
 one:∀ i,i < row.length→(l.map fun p=>(p.2.getD i 0).natAbs).sum=1
theorem Good.perm {row:List Int} {l l':List Pr} (g:Good row l) (h:l'.Perm l):Good row l':=
 ⟨fun p hp=>g.len p (h.mem_iff.mp hp),fun p hp=>g.val p (h.mem_iff.mp hp),fun i hi=>by rw [(h.map _).sum_nat]; exact g.one i hi⟩
theorem Good.nxt {row:List Int} {l:List Pr} (g:Good row l):Good row (nxt l):=by
 match l,g with
 | [],g=>exact g
 | [_],g=>exact g
 | a :: b :: r,g=>
  have la:=g.len a (.head _)
  have lb:=g.len b (.tail _ (.head _))
  have g':Good row (r ++ [dif a b]):=by
   refine ⟨fun p hp=>?_,fun p hp=>?_,fun i hi=>?_⟩
   ·rcases List.mem_append.mp hp with h | h
    ·exact g.len p (.tail _ (.tail _ h))
    ·rw [List.mem_singleton.mp h]
     show (List.zipWith _ a.2 b.2).length=_
     rw [List.length_zipWith,la,lb,Nat.min_self]
   ·rcases List.mem_append.mp hp with h | h
    ·exact g.val p (.tail _ (.tail _ h))
    ·rw [List.mem_singleton.mp h]
     show a.1 - b.1=dotL row (List.zipWith _ a.2 b.2)
     rw [dotL_sub row a.2 b.2 (la.trans lb.symm),← g.val a (.head _),← g.val b (.tail _ (.head _))]
   ·have h1:=g.one i hi
    rw [List.map_cons,List.map_cons,List.sum_cons,List.sum_cons] at h1
    rw [List.map_append,List.sum_append,List.map_singleton,List.sum_singleton]
    have e:(dif a b).2.getD i 0=a.2.getD i 0 - b.2.getD i 0:=by
     show (List.zipWith _ a.2 b.2).getD i 0=_
     have ha:i < a.2.length:=by omega
     have hb:i < b.2.length:=by omega
     simp [List.getD_eq_getElem?_getD,List.getElem?_zipWith,ha,hb]
    rw [e]
    omega
  exact g'.perm (srtP_perm _)
noncomputable def unitL (n i:Nat):List Int:=(List.range n).map fun (j:Nat)=>if j=i then 1 else 0
noncomputable def start (row:List Int):List Pr:=row.zipIdx.map fun e=>(e.1,unitL row.length e.2)
theorem start_len (row:List Int):(start row).length=row.length:=by unfold start; simp
theorem unit_at {n i j:Nat} (h:j < n):(unitL n i).getD j 0=if j=i then 1 else 0:=by
 unfold unitL
 simp [List.getD_eq_getElem?_getD,h]
theorem sum_unit (j:Nat):∀ (l:List Int) (k:Nat),k≤j→j < k + l.length→((l.zipIdx k).map fun e:Int × Nat=>(if j=e.2 then (1:Nat) else 0)).sum=1
 | [],k,h1,h2=>by simp at h2; omega
 | x :: l,k,h1,h2=>by
  rw [List.zipIdx_cons,List.map_cons,List.sum_cons]
  by_cases e:j=k
  ·have z:∀ (l:List Int) (m:Nat),k < m→((l.zipIdx m).map fun e:Int × Nat=>(if j=e.2 then (1:Nat) else 0)).sum=0:=by
    intro l
    induction l with
    | nil=>intro m _; rfl
    | cons y l ih=>intro m hm; rw [List.zipIdx_cons,List.map_cons,List.sum_cons,ih (m + 1) (by omega)]; simp; omega
   rw [z l (k + 1) (by omega)]
   simp [e]
  ·rw [sum_unit j l (k + 1) (by omega) (by simp at h2; omega)]
   simp [e]
theorem dot_unit:∀ (row:List Int) (n k i:Nat),i < row.length→(List.zipWith (fun a b=>a * b) row ((List.range' k row.length).map fun (j:Nat)=>(if j=k + i then (1:Int) else 0))).sum=row.getD i 0
 | [],_,_,_,h=>by simp at h
 | x :: row,n,k,0,h=>by
  have z:∀ (row:List Int) (m:Nat),k < m→(List.zipWith (fun a b=>a * b) row ((List.range' m row.length).map fun (j:Nat)=>(if j=k + 0 then (1:Int) else 0))).sum=0:=by
   intro row
   induction row with
   | nil=>intro m _; rfl
   | cons y l ih=>
    intro m hm
    rw [List.length_cons,List.range'_succ,List.map_cons,List.zipWith_cons_cons,List.sum_cons,ih (m + 1) (by omega),if_neg (by omega)]
    omega
  rw [List.length_cons,List.range'_succ,List.map_cons,List.zipWith_cons_cons,List.sum_cons,z row (k + 1) (by omega),if_pos (by omega)]
  simp
 | x :: row,n,k,i + 1,h=>by
  have ih:=dot_unit row n (k + 1) i (by simpa using h)
  rw [List.length_cons,List.range'_succ,List.map_cons,List.zipWith_cons_cons,List.sum_cons,if_neg (by omega)]
  have e:∀ j,(j=k + (i + 1))=(j=k + 1 + i):=fun j=>by rw [show k + (i + 1)=k + 1 + i by omega]
  simp only [e]
  rw [ih]
  simp
theorem good_start (row:List Int):Good row (start row):=by
 refine ⟨fun p hp=>?_,fun p hp=>?_,fun i hi=>?_⟩
 ·obtain ⟨e,_,rfl⟩:=List.mem_map.mp hp
  show (unitL _ _).length=_
  unfold unitL; simp
 ·obtain ⟨e,he,rfl⟩:=List.mem_map.mp hp
  obtain ⟨x,i⟩:=e
  have hm:=List.mem_zipIdx' he
  have h:=dot_unit row row.length 0 i hm.1
  show x=dotL row (unitL row.length i)
  unfold dotL unitL
  rw [List.range_eq_range']
  simp only [Nat.zero_add] at h
  rw [h,hm.2]
  simp [List.getD_eq_getElem?_getD,hm.1]
 ·have h:=sum_unit i row 0 (Nat.zero_le _) (by omega)
  unfold start
  rw [List.map_map]
  rw [← h]
  congr 1
  refine List.map_congr_left fun e _=>?_
  show ((unitL row.length e.2).getD i 0).natAbs=_
  rw [unit_at hi]
  split <;> rfl
noncomputable abbrev tupI (xs:List Int):D:=.tup (xs.map .int)
theorem eSl_go {f:Sto→D→Option Int→Option Int→Option D} {a:EM} {lo hi:OM} {r:Rho} {S S1 S2 S3:Sto} {x z:D} {l u:Option Int} (h1:a r S=.ok x S1) (h2:lo r S1=.ok l S2) (h3:hi r S2=.ok u S3) (h4:f S3 x l u=some z):eSl f a lo hi r S=.ok z S3:=by unfold eSl; rw [h1,R.bind_ok,h2,R.bind_ok,h3,R.bind_ok,h4]; rfl
theorem oPart_go {a:EM} {r:Rho} {S S1:Sto} {i:Int} (h:a r S=.ok (.int i) S1):oPart a r S=.ok (some i) S1:=by unfold oPart; rw [h,R.bind_ok]
theorem cut_drop (xs:List D) (m:Nat) (h:m≤xs.length):PD.cutD xs (some (m:Int)) none=xs.drop m:=by
 unfold PD.cutD
 have e1:HT.sIx xs.length xs.length none=xs.length:=rfl
 have e2:HT.sIx xs.length 0 (some (m:Int))=m:=by
  rw [HT.sIx_nat]; exact Nat.min_eq_left h
 rw [e1,e2,List.take_of_length_le (by rw [List.length_drop]; omega)]
theorem append_go {S:Sto} {f:Nat} {xs:List D} {v:D} (h:S[f]?=some (.lst xs)) (hl:xs.length < sizeLine):mAppend S (.ref f) [v]=.ok .non (S.set f (.lst (xs ++ [v]))):=by
 unfold mAppend
 simp only [h,if_pos hl]
theorem isL_ref {S:Sto} {f:Nat} {xs:List D} (h:S[f]?=some (.lst xs)):isL S (.ref f)=true:=by
 unfold isL
 simp only [h]
theorem z2':(2:Nat)≤sizeLine:=by decide
theorem z1':(1:Nat)≤sizeLine:=by decide
theorem oAdd_l {S:Sto} {a b:List D} (h:a.length + b.length≤sizeLine):oAdd S (.lst a) (.lst b)=some (.lst (a ++ b)):=if_pos h
theorem len_i {S:Sto} (xs:List Int):fLen S [tupI xs]=some (.int xs.length):=by
 show some (D.int ((xs.map D.int).length:Int))=_
 rw [List.length_map]
theorem po_ok {row:List Int} (h:row.length≤1000) (i:Nat) (S:Sto):F_parts_of_one [.int i,tupI row] S=.ok (tupI (unitL row.length i)) S:=by
 have z:(1000:Nat)≤sizeLine:=by decide
 have hc:eComp (aRange1 (aCons (eB fLen (aCons (eVar 1) aNil)) aNil)) 1 [0] (.nm 0) tTrue (eIf (tV (eOp oEqP (eVar 0) (eVar 1))) (eC (.int 1)) (eC (.int 0))) [some (.int i),some (tupI row)] S=.ok (.lst ((List.range row.length).map fun (j:Nat)=>D.int (if j=i then 1 else 0))) S:=
  eComp_map (enc:=fun j:Nat=>D.int j) (tl:=[some (.int i)]) (List.range row.length) (aRange1_ok (aCons_go (t:=aNil) (eB_go (aCons_go (eVar_go rfl) rfl) (len_i row)) rfl) (by omega)) (by rw [List.length_range]; omega) rfl fun j _=>by
   have hc:tV (eOp oEqP (eVar 0) (eVar 1)) [some (.int j),some (.int i)] S=.ok (decide ((j:Int)=(i:Int))) S:=tV_go (eOp_go (eVar_go rfl) (eVar_go rfl) oEqP_i)
   by_cases e:j=i
   ·rw [decide_eq_true (by omega)] at hc
    rw [if_pos e]; exact eIf_t hc
   ·rw [decide_eq_false (by omega)] at hc
    rw [if_neg e]; exact eIf_f hc
 have e:(List.range row.length).map (fun (j:Nat)=>D.int (if j=i then 1 else 0))=(unitL row.length i).map .int:=by
  unfold unitL
  rw [List.map_map]; rfl
 rw [e] at hc
 exact fnM_rt (ρ:=[some (.int i),some (tupI row)]) rfl (sRet_go (eB_go (aCons_go hc rfl) rfl))
theorem zip_ints:∀ xs ys:List Int,zipD (xs.map .int) (ys.map .int)=(xs.zip ys).map fun e=>D.tup [.int e.1,.int e.2]
 | [],_=>by simp [zipD]
 | _ :: _,[]=>by simp [zipD]
 | x :: xs,y :: ys=>by
  have:=zip_ints xs ys
  simp [zipD,this]
theorem zip_sub:∀ xs ys:List Int,(xs.zip ys).map (fun e=>D.int (e.1 - e.2))=(List.zipWith (fun a b=>a - b) xs ys).map .int
 | [],_=>by simp
 | _ :: _,[]=>by simp
 | x :: xs,y :: ys=>by
  have:=zip_sub xs ys
  simp [this]
theorem dif_ok {p q:Pr} (hp:p.2.length≤1000) (S:Sto):F_difference [prD p,prD q] S=.ok (prD (dif p q)) S:=by
 have z:(1000:Nat)≤sizeLine:=by decide
 have hi:aZip (aCons (eOp oIx (eVar 0) (eC (.int 1))) (aCons (eOp oIx (eVar 1) (eC (.int 1))) aNil)) [some (prD p),some (prD q),none] S=.ok ((p.2.zip q.2).map fun e=>D.tup [.int e.1,.int e.2]) S:=by
  unfold aZip
  rw [aCons_go (x:=tupI p.2) (xs:=[tupI q.2]) (eOp_go (eVar_go rfl) rfl rfl) (aCons_go (eOp_go (eVar_go rfl) rfl rfl) rfl),R.bind_ok]
  show R.ok (zipD (p.2.map .int) (q.2.map .int)) S=_
  rw [zip_ints]
 have hc:=eComp_two (x1:=fun e:Int × Int=>D.int e.1) (x2:=fun e=>D.int e.2) (out:=fun e=>D.int (e.1 - e.2)) (e:=eOp oSub (eVar 0) (eVar 1)) (caps:=[]) (tl:=[]) (p.2.zip q.2) hi (by rw [List.length_zip]; omega) rfl fun e _=>eOp_go (eVar_go rfl) (eVar_go rfl) rfl
 rw [zip_sub] at hc
 exact fnM_rt (ρ:=[some (prD p),some (prD q),none]) rfl ((sSeq_go (sSet_go hc)).trans (sRet_go (eTup_go (xs:=[.int (p.1 - q.1),tupI (dif p q).2]) (aCons_go (eOp_go (eOp_go (eVar_go rfl) rfl rfl) (eOp_go (eVar_go rfl) rfl rfl) rfl) (aCons_go (eB_go (aCons_go (eVar_go rfl) rfl) rfl) rfl)) z2')))
theorem prs_map:∀ l:List Pr,prsOf (l.map prD)=some l
 | []=>rfl
 | p :: l=>by
  have h1:prOf (prD p)=some p:=by
   show (intsOf (p.2.map .int)).map (fun n=>(p.1,n))=some p
   rw [intsOf_map]; rfl
  rw [List.map_cons,prsOf,h1,prs_map l]
theorem byOrd_def {α:Type} (b:Bool) {ns:List Pr} (d d':α) {xs:List α} (h:xs.length=ns.length):SK.byOrd b ns d xs=SK.byOrd b ns d' xs:=by
 unfold SK.byOrd
 congr 1
 refine List.map_congr_left fun i hi=>?_
 have hi':i < (PySem.W.katRev b xs).length:=by
  rw [SK.katRev_len,h]
  exact List.mem_range.mp ((SK.ordOf_perm b ns).mem_iff.mp hi)
 rw [List.getD_eq_getElem?_getD,List.getD_eq_getElem?_getD,List.getElem?_eq_getElem hi']
 rfl
noncomputable abbrev encH (l:List Pr):D:=.lst (l.map prD)
theorem srt_ok {l:List Pr} (h:l.length < 64) (S:Sto):fSrtR true S [encH l]=some (encH (srtP l)):=by
 show (match prsOf (l.map prD) with | some ns=>if (l.map prD).length < 64 then some (D.lst (SK.byOrd true ns .non (l.map prD))) else none | none=>none)=_
 rw [prs_map]
 show (if (l.map prD).length < 64 then _ else _)=_
 rw [if_pos (by rw [List.length_map]; exact h),byOrd_def true D.non (prD (0,[])) (by rw [List.length_map]),SK.byOrd_map]
 rfl
theorem numb:∀ (xs:List Int) (k:Nat),numbered k (xs.map .int)=(xs.zipIdx k).map fun e=>D.tup [.int (e.2:Nat),.int e.1]
 | [],_=>rfl
 | x :: xs,k=>by
  have:=numb xs (k + 1)
  rw [List.map_cons,List.zipIdx_cons,List.map_cons,← this]
  rfl
noncomputable abbrev stT:TM:=(tV (eOp oGt (eB fLen (aCons (eVar 1) aNil)) (eC (.int 1))))
noncomputable abbrev stB:SM:=(sSeq (sSet 1 (eB (fSrtR true) (aCons (eOp oAdd (eSl fSlT (eVar 1) (oPart (eC (.int 2))) oNo) (eLst (aCons (eCall F_difference (aCons (eOp oIx (eVar 1) (eC (.int 0))) (aCons (eOp oIx (eVar 1) (eC (.int 1))) aNil))) aNil))) aNil))) (sDrop (eMtL mAppend (eVar 2) (aCons (eVar 1) aNil))))
theorem st_test (l:List Pr) (r0 r2:Option D) (S:Sto):stT [r0,some (encH l),r2] S=.ok (decide ((1:Int) < l.length)) S:=by
 refine tV_go (eOp_go (y:=.int 1) (x:=.int l.length) (eB_go (aCons_go (eVar_go rfl) rfl) ?_) rfl rfl)
 show some (D.int ((l.map prD).length:Int))=_
 rw [List.length_map]
theorem sl2 (a b:Pr) (r:List Pr) (S:Sto):fSlT S (encH (a :: b :: r)) (some 2) none=some (encH r):=by
 show some (D.lst (PD.cutD ((a :: b :: r).map prD) (some ((2:Nat):Int)) none))=_
 rw [cut_drop _ _ (by simp)]
 rfl
theorem ixK {L:List D} {k:Nat} {d:D} (h:L[k]?=some d) (S:Sto):oIx S (.lst L) (.int (k:Int))=some d:=by
 have hk:k < L.length:=(List.getElem?_eq_some_iff.mp h).1
 show atI L (k:Int)=some d
 unfold atI
 have e:ixN L.length (k:Int)=some k:=by
  unfold ixN
  rw [if_pos (by omega)]
  first
   | rfl
   | (rw [if_pos (by omega)]; rfl)
   | simp [hk]
 rw [e]
 exact h
theorem st_body {a b:Pr} {r:List Pr} (h:(a :: b :: r).length≤16) (ha:a.2.length≤1000) {S:Sto} {m:Nat} {acc:List D} (hm:S[m]?=some (.lst acc)) (hl:acc.length≤100) (r0:Option D):
  stB [r0,some (encH (a :: b :: r)),some (.ref m)] S=.ok (.nx [r0,some (encH (nxt (a :: b :: r))),some (.ref m)]) (S.set m (.lst (acc ++ [encH (nxt (a :: b :: r))]))):=by
 have z:(1000:Nat)≤sizeLine:=by decide
 have hadd:oAdd S (encH r) (.lst [prD (dif a b)])=some (encH (r ++ [dif a b])):=by
  show _=some (D.lst ((r ++ [dif a b]).map prD))
  rw [List.map_append]
  refine oAdd_l ?_
  rw [List.length_map]
  simp at h ⊢
  omega
 have h1:eB (fSrtR true) (aCons (eOp oAdd (eSl fSlT (eVar 1) (oPart (eC (.int 2))) oNo) (eLst (aCons (eCall F_difference (aCons (eOp oIx (eVar 1) (eC (.int 0))) (aCons (eOp oIx (eVar 1) (eC (.int 1))) aNil))) aNil))) aNil) [r0,some (encH (a :: b :: r)),some (.ref m)] S=.ok (encH (nxt (a :: b :: r))) S:=
  eB_go (aCons_go (eOp_go (eSl_go (eVar_go rfl) (oPart_go rfl) rfl (sl2 a b r S)) (eLst_go (xs:=[prD (dif a b)]) (aCons_go ((eCall_go (aCons_go (eOp_go (eVar_go rfl) rfl (ixK (k:=0) rfl S)) (aCons_go (eOp_go (eVar_go rfl) rfl (ixK (k:=1) rfl S)) rfl))).trans (dif_ok ha S)) rfl) z1') hadd) rfl) (srt_ok (by simp at h ⊢; omega) S)
 exact (sSeq_go (sSet_go h1)).trans (sDrop_go ((eMtL_go (eVar_go rfl) (isL_ref hm) (aCons_go (eVar_go rfl) rfl)).trans (append_go hm (by omega))))
theorem sWh_go {t:TM} {b:SM} {r:Rho} {S S1:Sto} {x:PD.F} {n:Nat} (h:whileL t b n r S=.ok x S1):sWh t b r S=.ok x S1:=(sWh_eq n (by rw [h]; intro z; cases z)).trans h
theorem while_t {t:TM} {b:SM} {n:Nat} {r r1:Rho} {S S1 S2:Sto} (ht:t r S=.ok true S1) (hb:b r S1=.ok (.nx r1) S2):whileL t b (n + 1) r S=whileL t b n r1 S2:=by
 rw [whileL]
 show ((t r S).bind _)=_
 rw [ht,R.bind_ok,if_pos rfl,hb,R.bind_ok]
theorem while_f {t:TM} {b:SM} {n:Nat} {r:Rho} {S S1:Sto} (ht:t r S=.ok false S1):whileL t b (n + 1) r S=.ok (.nx r) S1:=by unfold whileL; rw [ht,R.bind_ok,if_neg Bool.false_ne_true]
noncomputable def stpT:Nat→List Pr→List (List Pr)
 | 0,_=>[]
 | k + 1,l=>nxt l :: stpT k (nxt l)
noncomputable def finL:Nat→List Pr→List Pr
 | 0,l=>l
 | k + 1,l=>finL k (nxt l)
theorem stpT_len:∀ (k:Nat) (l:List Pr),(stpT k l).length=k
 | 0,_=>rfl
 | k + 1,l=>by show (stpT k (nxt l)).length + 1=_; rw [stpT_len]
theorem fin_last:∀ (k:Nat) (l:List Pr),∃ pre,l :: stpT k l=pre ++ [finL k l]
 | 0,l=>⟨[],rfl⟩
 | k + 1,l=>by
  obtain ⟨pre,e⟩:=fin_last k (nxt l)
  exact ⟨l :: pre,by show l :: (nxt l :: stpT k (nxt l))=_; rw [e]; rfl⟩
theorem Good.fin {row:List Int}:∀ (k:Nat) {l:List Pr},Good row l→Good row (finL k l)
 | 0,_,g=>g
 | k + 1,_,g=>Good.fin k g.nxt
theorem fin_len:∀ (k:Nat) {l:List Pr},l.length=k + 1→(finL k l).length=1
 | 0,_,h=>h
 | k + 1,l,h=>fin_len k (by rw [nxt_len (by omega)]; omega)
theorem set_same {S:Sto} {m:Nat} {o:SO} (h:S[m]?=some o):S.set m o=S:=by
 apply List.ext_getElem?
 intro i
 by_cases e:m=i
 ·subst e
  rw [List.getElem?_set_self (List.getElem?_eq_some_iff.mp h).1,h]
 ·rw [List.getElem?_set_ne e]
theorem st_loop {row:List Int} (hn:row.length≤16) (r0:Option D) {m:Nat}:∀ (k:Nat) (l:List Pr) (S:Sto) (acc:List D),Good row l→(l.length=k + 1 ∨ (k=0∧l=[]))→k≤15→acc.length + k≤100→S[m]?=some (.lst acc)→
  whileL stT stB (k + 1) [r0,some (encH l),some (.ref m)] S=.ok (.nx [r0,some (encH (finL k l)),some (.ref m)]) (S.set m (.lst (acc ++ (stpT k l).map encH)))
 | 0,l,S,acc,g,hl,_,_,hm=>by
  have ht:=st_test l r0 (some (.ref m)) S
  rw [decide_eq_false (by rcases hl with h | ⟨_,h⟩ <;> simp [h])] at ht
  rw [while_f ht]
  show _=R.ok (F.nx _) (S.set m (.lst (acc ++ [])))
  rw [List.append_nil,set_same hm]
  rfl
 | k + 1,l,S,acc,g,hl,hk,ha,hm=>by
  have hl:l.length=k + 2:=hl.elim id fun z=>absurd z.1 (by omega)
  match l,g,hl with
  | a :: b :: r,g,hl=>
   have ht:=st_test (a :: b :: r) r0 (some (.ref m)) S
   rw [decide_eq_true (by rw [hl]; omega)] at ht
   have hb:=st_body (a:=a) (b:=b) (r:=r) (by omega) (by have:=g.len a (.head _); omega) hm (by omega) r0
   rw [while_t ht hb]
   have hm1:(S.set m (.lst (acc ++ [encH (nxt (a :: b :: r))])))[m]?=some (.lst (acc ++ [encH (nxt (a :: b :: r))])):=List.getElem?_set_self (List.getElem?_eq_some_iff.mp hm).1
   rw [st_loop hn r0 k (nxt (a :: b :: r)) _ _ g.nxt (.inl (by rw [nxt_len (by omega)]; omega)) (by omega) (by rw [List.length_append]; show acc.length + 1 + k≤100; omega) hm1]
   rw [List.set_set,List.append_assoc]
   rfl
noncomputable abbrev l0 (row:List Int):List Pr:=srtP (start row)
theorem l0_len (row:List Int):(l0 row).length=row.length:=(srtP_len _).trans (start_len row)
theorem l0_good (row:List Int):Good row (l0 row):=(good_start row).perm (srtP_perm _)
noncomputable def allL (row:List Int):List (List Pr):=l0 row :: stpT (row.length - 1) (l0 row)
theorem first_ok {row:List Int} (hn:row.length≤16) (r1 r2:Option D) (S:Sto):eB (fSrtR true) (aCons (eComp (aEnum (aCons (eVar 0) aNil)) 2 [0] (.tp [(.nm 0),(.nm 1)]) tTrue (eTup (aCons (eVar 1) (aCons (eCall F_parts_of_one (aCons (eVar 0) (aCons (eVar 2) aNil))) aNil)))) aNil) [some (tupI row),r1,r2] S=.ok (encH (l0 row)) S:=by
 have z:(1000:Nat)≤sizeLine:=by decide
 have hi:aEnum (aCons (eVar 0) aNil) [some (tupI row),r1,r2] S=.ok (row.zipIdx.map fun e=>D.tup [.int (e.2:Nat),.int e.1]) S:=by
  unfold aEnum
  rw [aCons_go (x:=tupI row) (xs:=[]) (eVar_go rfl) rfl,R.bind_ok]
  show R.ok (numbered 0 (row.map .int)) S=_
  rw [numb]
 have hc:=eComp_two (x1:=fun e:Int × Nat=>D.int (e.2:Nat)) (x2:=fun e=>D.int e.1) (out:=fun e=>prD (e.1,unitL row.length e.2)) (e:=eTup (aCons (eVar 1) (aCons (eCall F_parts_of_one (aCons (eVar 0) (aCons (eVar 2) aNil))) aNil))) (caps:=[0]) (tl:=[some (tupI row)]) row.zipIdx hi (by simp; omega) rfl fun e _=>
  eTup_go (xs:=[.int e.1,tupI (unitL row.length e.2)]) (aCons_go (eVar_go rfl) (aCons_go ((eCall_go (aCons_go (eVar_go rfl) (aCons_go (eVar_go rfl) rfl))).trans (po_ok (by omega) e.2 S)) rfl)) z2'
 have e:row.zipIdx.map (fun e=>prD (e.1,unitL row.length e.2))=(start row).map prD:=by unfold start; rw [List.map_map]; rfl
 rw [e] at hc
 exact eB_go (aCons_go hc rfl) (srt_ok (by rw [start_len]; omega) S)
theorem steps_ok {row:List Int} (hn:row.length≤16) (S:Sto):F_difference_steps [tupI row] S=.ok (.ref S.length) (S ++ [.lst ((allL row).map encH)]):=by
 have hN:eNew (aCons (eVar 1) aNil) [some (tupI row),some (encH (l0 row)),none] S=.ok (.ref S.length) (S ++ [.lst [encH (l0 row)]]):=by
  unfold eNew
  rw [aCons_go (eVar_go rfl) rfl,R.bind_ok]
  exact if_pos z1'
 have hw:=st_loop hn (some (tupI row)) (m:=S.length) (row.length - 1) (l0 row) (S ++ [.lst [encH (l0 row)]]) [encH (l0 row)] (l0_good row) (by
  have:=l0_len row
  by_cases h:row.length=0
  ·exact .inr ⟨by omega,List.length_eq_zero_iff.mp (by omega)⟩
  ·exact .inl (by omega)) (by omega) (by show 1 + _≤100; omega) (by simp)
 have es:(S ++ [SO.lst [encH (l0 row)]]).set S.length (.lst ([encH (l0 row)] ++ (stpT (row.length - 1) (l0 row)).map encH))=S ++ [.lst ((allL row).map encH)]:=by
  rw [List.set_append_right _ _ (Nat.le_refl _)]
  simp [allL]
 rw [es] at hw
 exact fnM_rt (ρ:=[some (tupI row),none,none]) rfl ((sSeq_go (sSet_go (first_ok hn none none S))).trans ((sSeq_go (sSet_go hN)).trans ((sSeq_go (sWh_go hw)).trans (sRet_go (eVar_go rfl)))))
theorem pop0_go {o:EM} {r:Rho} {S S1:Sto} {n:Nat} {a:List D} {y:D} (h:o r S=.ok (.ref n) S1) (hn:S1[n]?=some (.lst (a ++ [y]))):ePop0 o r S=.ok y (S1.set n (.lst a)):=by
 unfold ePop0
 rw [h,R.bind_ok]
 unfold mPop0
 have e:(a ++ [y])[(a ++ [y]).length - 1]?=some y:=by simp
 simp only [hn,e,List.dropLast_concat]
noncomputable abbrev fT (l:List Pr):D:=tupI (fs l)
theorem isLst_ref {S:Sto} {n:Nat} {L:List D} (h:S[n]?=some (.lst L)):isLst S (.ref n)=some L:=by
 unfold isLst
 simp only [h]
theorem srtN_ok {S:Sto} {d:D} {zs:List Int} {l:List Pr} (hd:seqOf S d=some (zs.map .int)) (hz:zs.Perm (fs l)) (h:zs.length≤1000):fSrtN S [d]=.ok (.ref S.length) (S ++ [.lst ((fs (srtP l)).reverse.map .int)]):=by
 have z:(1000:Nat)≤sizeLine:=by decide
 unfold fSrtN
 simp only [hd,intsOf_map]
 rw [if_pos (by omega),srt_fst hz]
theorem revT {S:Sto} {n:Nat} {l:List Pr} {r:Rho} {i:Nat} (hi:r[i]?=some (some (.ref n))) (h:S[n]?=some (.lst ((fs l).reverse.map .int))):eB fTuple (aCons (eRevS (eVar i) (eUn oNeg (eC (.int 1)))) aNil) r S=.ok (fT l) S:=by
 have h1:eRevS (eVar i) (eUn oNeg (eC (.int 1))) r S=.ok (.lst ((fs l).map .int)) S:=by
  unfold eRevS
  rw [eVar_go hi,R.bind_ok]
  show (R.ok (D.int (-1)) S).bind _=_
  rw [R.bind_ok]
  show R.of S (fRevS S (.ref n))=_
  unfold fRevS
  rw [isLst_ref h]
  show R.ok (D.lst _) S=_
  rw [List.map_reverse,List.reverse_reverse]
 exact eB_go (aCons_go h1 rfl) rfl
noncomputable abbrev duT:TM:=(tV (eOp oGt (eB fLen (aCons (eVar 1) aNil)) (eC (.int 1))))
noncomputable abbrev duB:SM:=(sSeq (sSet 3 (ePop0 (eVar 1))) (sSeq (sSet 4 (ePop0 (eVar 1))) (sSeq (sSet 1 (eBR fSrtN (aCons (eOp oAddS (eVar 1) (eLst (aCons (eOp oSub (eVar 3) (eVar 4)) aNil))) aNil))) (sDrop (eMtL mAppend (eVar 2) (aCons (eB fTuple (aCons (eRevS (eVar 1) (eUn oNeg (eC (.int 1)))) aNil)) aNil))))))
theorem du_test {S:Sto} {h:Nat} {xs:List Int} (hh:S[h]?=some (.lst (xs.map .int))) (r0 r2 r3 r4:Option D):duT [r0,some (.ref h),r2,r3,r4] S=.ok (decide ((1:Int) < xs.length)) S:=by
 refine tV_go (eOp_go (y:=.int 1) (x:=.int xs.length) (eB_go (aCons_go (eVar_go rfl) rfl) ?_) rfl rfl)
 unfold fLen seqOf
 simp only [hh,Option.map_some,List.length_map]
theorem eBR_go {f:Sto→List D→R D} {t:AM} {r:Rho} {S S1:Sto} {xs:List D} (h:t r S=.ok xs S1):eBR f t r S=f S1 xs:=by unfold eBR; rw [h,R.bind_ok]
theorem lt_of_some {A:Type} {l:List A} {i:Nat} {x:A} (h:l[i]?=some x):i < l.length:=(List.getElem?_eq_some_iff.mp h).1
theorem du_body {a b:Pr} {r:List Pr} (hr:r.length≤100) {S:Sto} {h m:Nat} (hne:h ≠ m) (hh:S[h]?=some (.lst ((fs (a :: b :: r)).reverse.map .int))) {acc:List D} (hm:S[m]?=some (.lst acc)) (hl:acc.length≤100) (r0 r3 r4:Option D):
  ∃ S' h' c3 c4,duB [r0,some (.ref h),some (.ref m),r3,r4] S=.ok (.nx [r0,some (.ref h'),some (.ref m),c3,c4]) S'∧h' ≠ m∧S'[h']?=some (.lst ((fs (nxt (a :: b :: r))).reverse.map .int))∧S'[m]?=some (.lst (acc ++ [fT (nxt (a :: b :: r))])):=by
 have z:(1000:Nat)≤sizeLine:=by decide
 have hlt:=lt_of_some hh
 have hmt:=lt_of_some hm
 have e1:(fs (a :: b :: r)).reverse.map D.int=((fs r).reverse.map D.int ++ [.int b.1]) ++ [.int a.1]:=by
  unfold fs
  simp
 rw [e1] at hh
 have p1:ePop0 (eVar 1) [r0,some (.ref h),some (.ref m),r3,r4] S=.ok (.int a.1) (S.set h (.lst ((fs r).reverse.map D.int ++ [.int b.1]))):=pop0_go (eVar_go rfl) hh
 have hh2:(S.set h (.lst ((fs r).reverse.map D.int ++ [.int b.1])))[h]?=some (.lst ((fs r).reverse.map D.int ++ [.int b.1])):=List.getElem?_set_self hlt
 have p2:ePop0 (eVar 1) [r0,some (.ref h),some (.ref m),some (.int a.1),r4] (S.set h (.lst ((fs r).reverse.map D.int ++ [.int b.1])))=.ok (.int b.1) ((S.set h (.lst ((fs r).reverse.map D.int ++ [.int b.1]))).set h (.lst ((fs r).reverse.map D.int))):=pop0_go (eVar_go rfl) hh2
 rw [List.set_set] at p2
 generalize hS2:S.set h (.lst ((fs r).reverse.map D.int))=S2 at p2
 have hh3:S2[h]?=some (.lst ((fs r).reverse.map D.int)):=by rw [← hS2]; exact List.getElem?_set_self hlt
 have hm3:S2[m]?=some (.lst acc):=by rw [← hS2,List.getElem?_set_ne hne]; exact hm
 have l3:S2.length=S.length:=by rw [← hS2,List.length_set]
 have hadd:oAddS S2 (.ref h) (.lst [.int (a.1 - b.1)])=some (.lst (((fs r).reverse ++ [a.1 - b.1]).map .int)):=by
  unfold oAddS
  rw [isLst_ref hh3]
  show (if ((fs r).reverse.map D.int).length + 1≤sizeLine then _ else _)=_
  rw [if_pos (by unfold fs; simp; omega),List.map_append]
  rfl
 have hz:((fs r).reverse ++ [a.1 - b.1]).Perm (fs (r ++ [dif a b])):=by
  unfold fs
  rw [List.map_append]
  exact (List.reverse_perm _).append_right _
 have p3:eBR fSrtN (aCons (eOp oAddS (eVar 1) (eLst (aCons (eOp oSub (eVar 3) (eVar 4)) aNil))) aNil) [r0,some (.ref h),some (.ref m),some (.int a.1),some (.int b.1)] S2=.ok (.ref S2.length) (S2 ++ [.lst ((fs (nxt (a :: b :: r))).reverse.map .int)]):=
  (eBR_go (aCons_go (eOp_go (eVar_go rfl) (eLst_go (xs:=[.int (a.1 - b.1)]) (aCons_go (eOp_go (eVar_go rfl) (eVar_go rfl) rfl) rfl) z1') hadd) rfl)).trans (srtN_ok (l:=r ++ [dif a b]) rfl hz (by unfold fs; simp; omega))
 have hh4:(S2 ++ [SO.lst ((fs (nxt (a :: b :: r))).reverse.map .int)])[S2.length]?=some (.lst ((fs (nxt (a :: b :: r))).reverse.map .int)):=by simp
 have hm4:(S2 ++ [SO.lst ((fs (nxt (a :: b :: r))).reverse.map .int)])[m]?=some (.lst acc):=by rw [List.getElem?_append_left (by omega)]; exact hm3
 refine ⟨(S2 ++ [SO.lst ((fs (nxt (a :: b :: r))).reverse.map .int)]).set m (.lst (acc ++ [fT (nxt (a :: b :: r))])),S2.length,some (.int a.1),some (.int b.1),?_,by omega,?_,?_⟩
 ·exact (sSeq_go (sSet_go p1)).trans ((sSeq_go (sSet_go p2)).trans ((sSeq_go (sSet_go p3)).trans (sDrop_go ((eMtL_go (eVar_go rfl) (isL_ref hm4) (aCons_go (revT (i:=1) rfl hh4) rfl)).trans (append_go hm4 (by omega))))))
 ·rw [List.getElem?_set_ne (by omega)]; exact hh4
 ·exact List.getElem?_set_self (by rw [List.length_append]; omega)
theorem du_loop (r0:Option D) {m:Nat}:∀ (k:Nat) (l:List Pr) (S:Sto) (h:Nat) (acc:List D) (r3 r4:Option D),(l.length=k + 1 ∨ (k=0∧l=[]))→k≤15→acc.length + k≤100→h ≠ m→S[h]?=some (.lst ((fs l).reverse.map .int))→S[m]?=some (.lst acc)→
  ∃ S' c1 c3 c4,whileL duT duB (k + 1) [r0,some (.ref h),some (.ref m),r3,r4] S=.ok (.nx [r0,c1,some (.ref m),c3,c4]) S'∧S'[m]?=some (.lst (acc ++ (stpT k l).map fT))
 | 0,l,S,h,acc,r3,r4,hl,_,_,hne,hh,hm=>by
  have ht:=du_test hh r0 (some (.ref m)) r3 r4
  rw [decide_eq_false (by rcases hl with h | ⟨_,h⟩ <;> simp [fs,h])] at ht
  exact ⟨S,_,_,_,while_f ht,by rw [hm]; show some (SO.lst acc)=some (.lst (acc ++ [])); rw [List.append_nil]⟩
 | k + 1,l,S,h,acc,r3,r4,hl,hk,ha,hne,hh,hm=>by
  have hl:l.length=k + 2:=hl.elim id fun z=>absurd z.1 (by omega)
  match l,hl,hh with
  | a :: b :: r,hl,hh=>
   have ht:=du_test hh r0 (some (.ref m)) r3 r4
   rw [decide_eq_true (by simp [fs]; omega)] at ht
   obtain ⟨S1,h1,c3,c4,e1,n1,q1,q2⟩:=du_body (a:=a) (b:=b) (r:=r) (by simp at hl; omega) hne hh hm (by omega) r0 r3 r4
   obtain ⟨S2,d1,d3,d4,e2,q3⟩:=du_loop r0 k (nxt (a :: b :: r)) S1 h1 _ c3 c4 (.inl (by rw [nxt_len (by omega)]; omega)) (by omega) (by rw [List.length_append]; show acc.length + 1 + k≤100; omega) n1 q1 q2
   exact ⟨S2,d1,d3,d4,(while_t ht e1).trans e2,by rw [q3,List.append_assoc]; rfl⟩
theorem due_ok {row:List Int} (hn:row.length≤16) (S:Sto):∃ S' m,F__law_due [tupI row] S=.ok (.ref m) S'∧S'[m]?=some (.lst ((allL row).map fT)):=by
 have p0:eBR fSrtN (aCons (eVar 0) aNil) [some (tupI row),none,none,none,none] S=.ok (.ref S.length) (S ++ [.lst ((fs (l0 row)).reverse.map .int)]):=
  (eBR_go (aCons_go (eVar_go rfl) rfl)).trans (srtN_ok (l:=start row) (zs:=row) rfl (by
   have:fs (start row)=row:=by
    unfold fs start
    rw [List.map_map]
    exact List.zipIdx_map_fst 0 row
   rw [this]) (by omega))
 have hh:(S ++ [SO.lst ((fs (l0 row)).reverse.map .int)])[S.length]?=some (.lst ((fs (l0 row)).reverse.map .int)):=by simp
 have hN:eNew (aCons (eB fTuple (aCons (eRevS (eVar 1) (eUn oNeg (eC (.int 1)))) aNil)) aNil) [some (tupI row),some (.ref S.length),none,none,none] (S ++ [.lst ((fs (l0 row)).reverse.map .int)])=.ok (.ref (S.length + 1)) (S ++ [.lst ((fs (l0 row)).reverse.map .int)] ++ [.lst [fT (l0 row)]]):=by
  unfold eNew
  rw [aCons_go (revT (i:=1) rfl hh) rfl,R.bind_ok,if_pos (show [fT (l0 row)].length≤sizeLine from z1'),List.length_append]
  rfl
 obtain ⟨S',c1,c3,c4,e,q⟩:=du_loop (some (tupI row)) (m:=S.length + 1) (row.length - 1) (l0 row) (S ++ [.lst ((fs (l0 row)).reverse.map .int)] ++ [.lst [fT (l0 row)]]) S.length [fT (l0 row)] none none (by
  have:=l0_len row
  by_cases h:row.length=0
  ·exact .inr ⟨by omega,List.length_eq_zero_iff.mp (by omega)⟩
  ·exact .inl (by omega)) (by omega) (by show 1 + _≤100; omega) (by omega) (by rw [List.getElem?_append_left (by simp)]; exact hh) (by simp)
 exact ⟨S',S.length + 1,fnM_rt (ρ:=[some (tupI row),none,none,none,none]) rfl ((sSeq_go (sSet_go p0)).trans ((sSeq_go (sSet_go hN)).trans ((sSeq_go (sWh_go e)).trans (sRet_go (eVar_go rfl))))),q⟩
theorem need_row_ok {xs:List Int} (h:Row xs) (S:Sto):F_need_row_n [.tup (xs.map .int)] S=.ok .non S:=by
 have e:=isrow_eq (S:=S) h.okay
 rw [h.is] at e
 simp [F_need_row_n,fnM,m_need_row_n,sIf,sSkip,tNx,R.nx,PD.tNot,tV,eCall,eVar,aCons,aNil,R.bind,e]
structure Sim (d:D) (p:PyData):Prop where
 py:toPy d=some p
 lay:p.canLay0=true
 dep:p.depth≤3
theorem sims:∀ {ds:List D} {f:D→PyData},(∀ d ∈ ds,Sim d (f d))→toPys ds=some (ds.map f)∧PyData.canLayAll0 (ds.map f)=true∧PyData.depthAll (ds.map f)≤3
 | [],f,_=>⟨rfl,rfl,by show 0≤3; omega⟩
 | d :: ds,f,h=>by
  have h1:=h d List.mem_cons_self
  obtain ⟨a,b,c⟩:=sims (ds:=ds) (f:=f) fun x hx=>h x (List.mem_cons_of_mem _ hx)
  refine ⟨by unfold toPys; rw [h1.py,a]; rfl,by unfold List.map PyData.canLayAll0; rw [h1.lay,b]; rfl,?_⟩
  have:=h1.dep
  unfold List.map PyData.depthAll
  omega
theorem shaped_of {p:PyData} (h:p.canLay0=true) (hd:p.depth≤64):SeqAt.shaped p=true:=by
 unfold SeqAt.shaped; rw [h,decide_eq_true hd]; rfl
theorem eqP_tup {xs ys:List D} {f:D→PyData} (hx:∀ d ∈ xs,Sim d (f d)) (hy:∀ d ∈ ys,Sim d (f d)):eqP (.tup xs) (.tup ys)=some (PyData.eqvAll (xs.map f) (ys.map f)):=by
 obtain ⟨a,b,c⟩:=sims hx
 obtain ⟨a',b',c'⟩:=sims hy
 have e1:toPy (.tup xs)=some (.tuple (xs.map f)):=by unfold toPy; rw [a]; rfl
 have e2:toPy (.tup ys)=some (.tuple (ys.map f)):=by unfold toPy; rw [a']; rfl
 have s1:SeqAt.shaped (.tuple (xs.map f))=true:=shaped_of (by unfold PyData.canLay0; exact b) (by unfold PyData.depth; omega)
 have s2:SeqAt.shaped (.tuple (ys.map f))=true:=shaped_of (by unfold PyData.canLay0; exact b') (by unfold PyData.depth; omega)
 unfold eqP
 have e0:eqS (.tup xs) (.tup ys)=none:=rfl
 rw [e0,e1,e2]
 simp only [s1,s2,and_self,if_true]
 rw [PyData.eqv]
noncomputable def pyI:D→PyData
 | .int i=>.int i
 | .tup [.int i,.int j]=>.tuple [.int i,.int j]
 | _=>.none
theorem pyI_i (i:Int):pyI (.int i)=PyData.int i:=rfl
theorem sim_int (i:Int):Sim (.int i) (pyI (.int i)):=⟨rfl,rfl,by show 0≤3; omega⟩
theorem sim_ints {is:List Int}:∀ d ∈ is.map D.int,Sim d (pyI d):=fun d hd=>by
 obtain ⟨i,_,rfl⟩:=List.mem_map.mp hd
 exact sim_int i
theorem eqv_ints:∀ (xs ys:List Int),PyData.eqvAll ((xs.map D.int).map pyI) ((ys.map D.int).map pyI)=decide (xs=ys)
 | [],[]=>by simp [PyData.eqvAll]
 | [],y :: ys=>by simp [PyData.eqvAll]
 | x :: xs,[]=>by simp [PyData.eqvAll]
 | x :: xs,y :: ys=>by
  simp only [List.map_cons,PyData.eqvAll,eqv_ints xs ys,pyI_i,PyData.eqv]
  rw [Bool.eq_iff_iff]
  simp
theorem eqP_tints (xs ys:List Int):eqP (.tup (xs.map .int)) (.tup (ys.map .int))=some (decide (xs=ys)):=by
 rw [eqP_tup sim_ints sim_ints,eqv_ints]
theorem last_ref {S:Sto} {m:Nat} {L:List D} {d:D} (h:S[m]?=some (.lst (L ++ [d]))):oIx S (.ref m) (.int (-1))=some d:=by
 unfold oIx seqOf
 simp only [h]
 have e:ixN (L ++ [d]).length (-1)=some L.length:=by
  rw [List.length_append,List.length_singleton]
  unfold ixN
  rw [if_neg (by decide),if_pos (by omega)]
  congr 1
  omega
 unfold atI
 rw [e]
 show (L ++ [d])[L.length]?=some d
 simp
noncomputable def wor:List Int→List Int→Int
 | x :: xs,q :: p=>x * q + wor xs p
 | _,_=>0
theorem lw_loop (S:Sto) (xs ys:List Int) (hl:ys.length=xs.length) (hy:∀ y ∈ ys,-1≤y∧y≤1):∀ (m i:Nat) (acc:Int) (r3:Option D),i + m=xs.length→∃ r3',
  forL (.nm 3) (sSet 2 (eOp oAdd (eVar 2) (eOp oMul (eOp oIx (eVar 0) (eVar 3)) (eOp oIx (eVar 1) (eVar 3))))) ((List.range' i m).map fun (i:Nat)=>D.int i) [some (.tup (xs.map .int)),some (.tup (ys.map .int)),some (.int acc),r3] S
   = .ok (.nx [some (.tup (xs.map .int)),some (.tup (ys.map .int)),some (.int (acc + wor (xs.drop i) (ys.drop i))),r3']) S
 | 0,i,acc,r3,h=>⟨r3,by
  have e:xs.drop i=[]:=List.drop_eq_nil_of_le (by omega)
  simp [forL,wor,e]⟩
 | m + 1,i,acc,r3,h=>by
  have h1:i < xs.length:=by omega
  have h2:i < ys.length:=by omega
  obtain ⟨r,e⟩:=lw_loop S xs ys hl hy m (i + 1) (acc + xs[i] * ys[i]) (some (.int i)) (by omega)
  refine ⟨r,?_⟩
  have hq:=hy ys[i] (List.getElem_mem h2)
  have hm:oMul S (.int xs[i]) (.int ys[i])=some (.int (xs[i] * ys[i])):=oMul_i (.inr ⟨by omega,by omega⟩)
  have i1:oIx S (.tup (xs.map .int)) (.int (i:Int))=some (.int xs[i]):=by
   show atI (xs.map D.int) (i:Int)=_
   rw [atI_nat' (by rw [List.length_map]; exact h1)]; simp
  have i2:oIx S (.tup (ys.map .int)) (.int (i:Int))=some (.int ys[i]):=by
   show atI (ys.map D.int) (i:Int)=_
   rw [atI_nat' (by rw [List.length_map]; exact h2)]; simp
  have ed:acc + wor (xs.drop i) (ys.drop i)=acc + xs[i] * ys[i] + wor (xs.drop (i + 1)) (ys.drop (i + 1)):=by
   rw [List.drop_eq_getElem_cons h1,List.drop_eq_getElem_cons h2]
   simp only [wor]
   omega
  rw [ed,List.range'_succ,List.map_cons,forL]
  have st:(sSet 2 (eOp oAdd (eVar 2) (eOp oMul (eOp oIx (eVar 0) (eVar 3)) (eOp oIx (eVar 1) (eVar 3))))) [some (.tup (xs.map .int)),some (.tup (ys.map .int)),some (.int acc),some (.int i)] S=.ok (.nx [some (.tup (xs.map .int)),some (.tup (ys.map .int)),some (.int (acc + xs[i] * ys[i])),some (.int i)]) S:=by
   simp only [sSet,eOp,eVar,R.bind,R.of,List.set_cons_zero,List.set_cons_succ,List.getElem?_cons_zero,List.getElem?_cons_succ,i1,i2,hm,oAdd]
  simp only [G.put,List.set_cons_zero,List.set_cons_succ,st,R.bind_ok]
  exact e
theorem lworth_ok {xs ys:List Int} (hl:ys.length=xs.length) (hy:∀ y ∈ ys,-1≤y∧y≤1) (h5:xs.length≤1000) (S:Sto):F__law_worth [tupI xs,tupI ys] S=.ok (.int (wor xs ys)) S:=by
 obtain ⟨r,e⟩:=lw_loop S xs ys hl hy xs.length 0 0 none (by omega)
 rw [← List.range_eq_range'] at e
 simp only [List.drop_zero,Int.zero_add] at e
 have hg:aRange1 (aCons (eB fLen (aCons (eVar 0) aNil)) aNil) [some (.tup (xs.map .int)),some (.tup (ys.map .int)),some (.int 0),none] S=.ok ((List.range xs.length).map fun (i:Nat)=>D.int i) S:=
  aRange1_ok (by simp [aCons,aNil,eB,eVar,R.bind,R.of,fLen,seqOf]) (by omega)
 refine fnM_rt (ρ:=[some (.tup (xs.map .int)),some (.tup (ys.map .int)),none,none]) rfl ?_
 unfold m__law_worth
 exact (sSeq_go (sSet_go (d:=.int 0) rfl)).trans ((sSeq_go ((sFor_go hg).trans e)).trans (sRet_go rfl))
theorem wor_dot:∀ xs ys:List Int,wor xs ys=dotL xs ys
 | [],_=>by simp [wor,dotL]
 | _ :: _,[]=>by simp [wor,dotL]
 | x :: xs,y :: ys=>by
  have:=wor_dot xs ys
  unfold dotL at this ⊢
  simp [wor,this]
noncomputable def ShW (d:D):Prop:=∃ p,toPy d=some p∧p.showable=true∧p.depth≤5∧p.shown.length≤5000∧p.hasDict=false
theorem shw_tup {xs:List Int} (hl:xs.length≤16) (h:∀ x ∈ xs,x.natAbs < 10 ^ 30):ShW (tupI xs):=by
 obtain ⟨ps,k1,k2,k3,k4,k5,k6⟩:=shs (nl:=false) (xs:=xs.map .int) (fun x hx=>by
  obtain ⟨i,hi,rfl⟩:=List.mem_map.mp hx
  exact sh_int (h i hi))
 rw [List.length_map] at k4 k5
 refine ⟨.tuple ps,by unfold toPy; rw [k1]; rfl,by unfold PyData.showable; exact k2,by unfold PyData.depth; omega,?_,by unfold PyData.hasDict; simpa using k6⟩
 unfold PyData.shown
 have:=tupleText_len_le (PyData.shownAll ps)
 omega
theorem shws:∀ {xs:List D},(∀ x ∈ xs,ShW x)→∃ ps,toPys xs=some ps∧PyData.showableAll ps=true∧PyData.depthAll ps≤5∧((PyData.shownAll ps).map (·.length)).sum≤5000 * xs.length∧(PyData.shownAll ps).length=xs.length∧PyData.hasDictAll ps=false
 | [],_=>⟨[],rfl,rfl,by show 0≤5; omega,by show 0≤_; omega,rfl,rfl⟩
 | x :: xs,h=>by
  obtain ⟨p,h1,h2,h3,h4,h5⟩:=h x List.mem_cons_self
  obtain ⟨ps,k1,k2,k3,k4,k5,k6⟩:=shws fun y hy=>h y (List.mem_cons_of_mem _ hy)
  refine ⟨p :: ps,by unfold toPys; rw [h1,k1],by unfold PyData.showableAll; rw [h2,k2]; rfl,by unfold PyData.depthAll; omega,?_,?_,by unfold PyData.hasDictAll; rw [h5,k6]; rfl⟩
  ·unfold PyData.shownAll
   rw [List.map_cons,List.sum_cons,List.length_cons]
   omega
  ·unfold PyData.shownAll
   rw [List.length_cons,List.length_cons,k5]
theorem rep_lst {L:List D} (hl:L.length≤100) (h:∀ x ∈ L,ShW x):∃ t,∀ (S:Sto) (f:Nat),S[f]?=some (.lst L)→fReprS S [.ref f]=some (.str t):=by
 obtain ⟨ps,k1,k2,k3,k4,k5,k6⟩:=shws h
 have z:(1000000:Nat)≤sizeLine:=by decide
 refine ⟨(PyData.list ps).shown,fun S f hf=>?_⟩
 have e2:toPyS S (.ref f)=some (.list ps):=by
  unfold toPyS
  simp only [hf,k1,Option.map_some]
 show (match toPyS S (.ref f) with | some p=>if okPyS p then some (D.str p.shown) else none | none=>none)=_
 rw [e2]
 refine if_pos ⟨by unfold PyData.showable; exact k2,by unfold PyData.depth; omega,?_,by unfold PyData.hasDict; exact k6⟩
 unfold PyData.shown
 have:=listText_len_le (PyData.shownAll ps)
 omega
noncomputable def Bd (M:Nat) (l:List Pr):Prop:=l.length≤16∧∀ p ∈ l,p.1.natAbs≤M
theorem Bd.nxt {M:Nat} {l:List Pr} (h:Bd M l):Bd (2 * M) (nxt l):=by
 match l,h with
 | [],h=>exact ⟨h.1,fun p hp=>nomatch hp⟩
 | [a],h=>exact ⟨h.1,fun p hp=>by have:=h.2 p hp; omega⟩
 | a :: b :: r,h=>
  have h0:=h.1
  refine ⟨by rw [nxt_len (by simp)]; omega,fun p hp=>?_⟩
  have hp':p ∈ r ++ [dif a b]:=(srtP_perm _).mem_iff.mp hp
  rcases List.mem_append.mp hp' with hq | hq
  ·have:=h.2 p (.tail _ (.tail _ hq)); omega
  ·rw [List.mem_singleton.mp hq]
   have h1:=h.2 a (.head _)
   have h2:=h.2 b (.tail _ (.head _))
   show (a.1 - b.1).natAbs≤_
   omega
theorem bd_all:∀ (k:Nat) {M:Nat} {l:List Pr},Bd M l→∀ x ∈ l :: stpT k l,Bd (2 ^ k * M) x
 | 0,M,l,h,x,hx=>by
  have e:x=l:=by simpa [stpT] using hx
  rw [e]; simpa using h
 | k + 1,M,l,h,x,hx=>by
  have up:∀ {N N':Nat} {y:List Pr},N≤N'→Bd N y→Bd N' y:=fun hN hy=>⟨hy.1,fun p hp=>Nat.le_trans (hy.2 p hp) hN⟩
  rcases List.mem_cons.mp hx with rfl | hx
  ·exact up (Nat.le_mul_of_pos_left _ (Nat.pow_pos (by decide))) h
  ·have:=bd_all k h.nxt x hx
   rw [show 2 ^ (k + 1) * M=2 ^ k * (2 * M) by rw [Nat.pow_succ,Nat.mul_assoc]]
   exact this
theorem all_shw {row:List Int} (hn:row.length≤16) (h:∀ x ∈ row,okN x):∀ d ∈ (allL row).map fT,ShW d:=by
 intro d hd
 obtain ⟨l,hl,rfl⟩:=List.mem_map.mp hd
 have h0:Bd 1000000000000000 (l0 row):=⟨by rw [l0_len]; exact hn,fun p hp=>by
  have hp':p ∈ start row:=(srtP_perm _).mem_iff.mp hp
  obtain ⟨e,he,rfl⟩:=List.mem_map.mp hp'
  have hm:e.1 ∈ row:=by
   have:=List.mem_zipIdx' he
   rw [this.2]
   exact List.getElem_mem _
  have:=h e.1 hm
  unfold okN at this
  show e.1.natAbs≤_
  omega⟩
 have hb:=bd_all (row.length - 1) h0 l hl
 refine shw_tup (by unfold fs; rw [List.length_map]; exact hb.1) fun x hx=>?_
 obtain ⟨p,hp,rfl⟩:=List.mem_map.mp hx
 refine Nat.lt_of_le_of_lt (hb.2 p hp) (Nat.lt_of_le_of_lt (Nat.mul_le_mul_right _ (Nat.pow_le_pow_right (by decide) (show row.length - 1≤15 by omega))) (by decide))
theorem fst_ok (l:List Pr) (hl:l.length≤1000) (S:Sto):eB fTuple (aCons (eComp (aSeq (eVar 0) itSeq) 2 [] (.tp [(.nm 0),(.nm 1)]) tTrue (eVar 0)) aNil) [some (encH l)] S=.ok (fT l) S:=by
 have z:(1000:Nat)≤sizeLine:=by decide
 have hc:=eComp_two (x1:=fun p:Pr=>D.int p.1) (x2:=fun p=>tupI p.2) (out:=fun p=>D.int p.1) (e:=eVar 0) (it:=aSeq (eVar 0) itSeq) (caps:=[]) (tl:=[]) (r:=[some (encH l)]) (S:=S) l (it_var rfl rfl) (by omega) rfl fun p _=>eVar_go rfl
 have e:l.map (fun p=>D.int p.1)=(fs l).map .int:=by unfold fs; rw [List.map_map]; rfl
 rw [e] at hc
 exact eB_go (aCons_go hc rfl) rfl
theorem stp_short:∀ (k:Nat) {l:List Pr},l.length≤16→∀ x ∈ l :: stpT k l,x.length≤16
 | 0,l,h,x,hx=>by
  have e:x=l:=by simpa [stpT] using hx
  rw [e]; exact h
 | k + 1,l,h,x,hx=>by
  rcases List.mem_cons.mp hx with rfl | hx
  ·exact h
  ·refine stp_short k ?_ x hx
   match l,h with
   | [],h=>exact h
   | [_],h=>exact h
   | a :: b :: r,h=>rw [nxt_len (by simp)]; omega
theorem diffs_ok {row:List Int} (hr:Row row) (S:Sto):∃ S' f,F_differences_n [tupI row] S=.ok (.ref f) S'∧S'[f]?=some (.lst ((allL row).map fT))∧S.length≤f∧(∀ i,i < S.length→S'[i]?=S[i]?):=by
 have z:(1000:Nat)≤sizeLine:=by decide
 have hn:=hr.2
 have hs:=steps_ok hn S
 have hf:aFrz (eCall F_difference_steps (aCons (eVar 0) aNil)) [some (tupI row)] S=.ok ((allL row).map encH) (S ++ [.flst ((allL row).map encH)]):=by
  unfold aFrz
  rw [(eCall_go (aCons_go (eVar_go rfl) rfl)).trans hs,R.bind_ok]
  have e:(S ++ [SO.lst ((allL row).map encH)])[S.length]?=some (.lst ((allL row).map encH)):=by simp
  simp only [e]
  rw [List.set_append_right _ _ (Nat.le_refl _)]
  simp
 have ll:(allL row).length≤17:=by
  unfold allL
  rw [List.length_cons,stpT_len]; omega
 have hc:=comp_map (enc:=encH) (out:=fT) (e:=eB fTuple (aCons (eComp (aSeq (eVar 0) itSeq) 2 [] (.tp [(.nm 0),(.nm 1)]) tTrue (eVar 0)) aNil)) (tl:=[]) (S:=S ++ [SO.flst ((allL row).map encH)]) (allL row) none fun l hl=>fst_ok l (by
  have:=stp_short (row.length - 1) (l:=l0 row) (by rw [l0_len]; exact hn) l hl
  omega) _
 have hR:eCompR (aFrz (eCall F_difference_steps (aCons (eVar 0) aNil))) 1 [] (.nm 0) tTrue (eB fTuple (aCons (eComp (aSeq (eVar 0) itSeq) 2 [] (.tp [(.nm 0),(.nm 1)]) tTrue (eVar 0)) aNil)) [some (tupI row)] S=.ok (.ref (S.length + 1)) (S ++ [.flst ((allL row).map encH)] ++ [.lst ((allL row).map fT)]):=by
  unfold eCompR
  rw [hf,R.bind_ok,if_pos (by rw [List.length_map]; omega)]
  show ((compL (.nm 0) tTrue _ _ [none] _).bind _)=_
  rw [hc,R.bind_ok,List.length_append]
  rfl
 refine ⟨_,_,fnM_rt (ρ:=[some (tupI row)]) rfl ((sSeq_go (sDrop_go ((eCall_go (aCons_go (eVar_go rfl) rfl)).trans (need_row_ok hr S)))).trans (sRet_go hR)),by simp,by omega,fun i hi=>?_⟩
 rw [List.append_assoc,List.getElem?_append_left hi]
theorem sgn_end {row:List Int} (h0:row ≠ []):∃ p:Pr,finL (row.length - 1) (l0 row)=[p]∧p.2.length=row.length∧p.1=dotL row p.2∧∀ y ∈ p.2,y = -1 ∨ y=1:=by
 have hl:0 < row.length:=List.length_pos_iff.mpr h0
 have g:=Good.fin (row.length - 1) (l0_good row)
 have e:=fin_len (row.length - 1) (l:=l0 row) (by rw [l0_len]; omega)
 obtain ⟨p,hp⟩:=List.length_eq_one_iff.mp e
 rw [hp] at g
 refine ⟨p,hp,g.len p (.head _),g.val p (.head _),fun y hy=>?_⟩
 obtain ⟨i,hi,rfl⟩:=List.mem_iff_getElem.mp hy
 have h1:=g.one i (by rw [← g.len p (.head _)]; exact hi)
 simp [List.getD_eq_getElem?_getD,hi] at h1
 omega
noncomputable def sgnL:List Int→List Int
 | []=>[]
 | x :: xs=>((finL xs.length (l0 (x :: xs))).getD 0 (0,[])).2
theorem signs_ok {row:List Int} (hr:Row row) (S:Sto):∃ S',F_difference_signs_n [tupI row] S=.ok (tupI (sgnL row)) S'∧(∀ i,i < S.length→S'[i]?=S[i]?):=by
 have hq:oEqP S (tupI row) (.tup [])=some (.bl (decide (row=[]))):=by
  have:=eqP_tints row []
  unfold oEqP
  rw [show (D.tup []:D)=.tup (([]:List Int).map .int) from rfl,this]; rfl
 have hc:tV (eOp oEqP (eVar 0) (eTup aNil)) [some (tupI row),none] S=.ok (decide (row=[])) S:=tV_go (eOp_go (eVar_go rfl) (eTup_go (xs:=[]) rfl (Nat.zero_le _)) hq)
 have hnr:=need_row_ok hr S
 by_cases h0:row=[]
 ·rw [decide_eq_true h0] at hc
  subst h0
  refine ⟨S,fnM_rt (ρ:=[some (tupI []),none]) rfl ((sSeq_go (sDrop_go ((eCall_go (aCons_go (eVar_go rfl) rfl)).trans hnr))).trans (sSeq_rt ((sIf_t hc).trans (sRet_go (eTup_go (xs:=[]) rfl (Nat.zero_le _)))))),fun _ _=>rfl⟩
 ·rw [decide_eq_false h0] at hc
  obtain ⟨p,hp,_⟩:=sgn_end h0
  obtain ⟨pre,hpre⟩:=fin_last (row.length - 1) (l0 row)
  have hs:=steps_ok hr.2 S
  have hix:oIx (S ++ [SO.lst ((allL row).map encH)]) (.ref S.length) (.int (-1))=some (encH [p]):=by
   refine last_ref (L:=pre.map encH) ?_
   have:allL row=pre ++ [[p]]:=by show l0 row :: _=_; rw [hpre,hp]
   rw [this]
   simp
  have hy:sgnL row=p.2:=by
   cases row with
   | nil=>exact absurd rfl h0
   | cons x xs=>
    show ((finL xs.length (l0 (x :: xs))).getD 0 (0,[])).2=_
    have hp':finL xs.length (l0 (x :: xs))=[p]:=hp
    rw [hp']; rfl
  rw [hy]
  refine ⟨S ++ [.lst ((allL row).map encH)],fnM_rt (ρ:=[some (tupI row),none]) rfl ((sSeq_go (sDrop_go ((eCall_go (aCons_go (eVar_go rfl) rfl)).trans hnr))).trans ((sSeq_go ((sIf_f hc).trans rfl)).trans ((sSeq_go (sSet_go (d:=prD p) (eOp_go (eOp_go ((eCall_go (aCons_go (eVar_go rfl) rfl)).trans hs) rfl hix) rfl rfl))).trans (sRet_go (eOp_go (eVar_go rfl) rfl rfl))))),fun i hi=>by rw [List.getElem?_append_left hi]⟩
theorem laps_le (ns:List Int) (c:Nat) (hn:ns.length≤63) (hc:1≤c∧c≤63) (r:Rho) (hr:r[0]?=some (some (.fz (ns.map .int)))) (S:Sto):∃ n:Nat,aRange1 (aCons (eB fMax (aCons (eC (.int 1)) (aCons (eB fMin (aCons (eB fLen (aCons (eVar 0) aNil)) (aCons (eC (.int c)) aNil))) aNil))) aNil) r S=.ok ((List.range n).map (fun (i:Nat)=>D.int i)) S∧n≤c:=by
 refine ⟨max 1 (min ns.length c),aRange1_ok ?_ (by omega),by omega⟩
 have e:(if (1:Int) < (if (c:Int) < (ns.length:Int) then (c:Int) else (ns.length:Int)) then (if (c:Int) < (ns.length:Int) then (c:Int) else (ns.length:Int)) else 1)=((max 1 (min ns.length c):Nat):Int):=by
  split <;> split <;> omega
 rw [← e]
 simp [aCons,aNil,eB,eC,eVar,R.bind,R.of,hr,fLen,seqOf,fMin,fMax]
noncomputable abbrev lawB:SM:=(sSeq (sSet 2 (eCall F__law_row (aCons (eCall F__law_box (aCons (eVar 0) (aCons (eVar 1) aNil))) (aCons (eC (.int 16)) aNil)))) (sSeq (sSet 3 (eCall F__law_due (aCons (eVar 2) aNil))) (sSeq (sFor (aRange1 (aCons (eC (.int 2)) aNil)) (.nm 4) (sSeq (sSet 6 (eCall F_differences_n (aCons (eVar 2) aNil))) (sSeq (sIf (tV (eOp oNeP (eB fReprS (aCons (eVar 6) aNil)) (eB fReprS (aCons (eVar 3) aNil)))) (sRet (eC (.bl false))) sSkip) (sDrop (eMtL mAppend (eVar 6) (aCons (eTup aNil) aNil)))))) (sSeq (sSet 5 (eCall F_difference_signs_n (aCons (eVar 2) aNil))) (sSeq (sIf (PD.tOr (PD.tNot (tV (eCall F__law_are (aCons (eVar 5) (aCons (eVar 2) (aCons (eTup (aCons (eUn oNeg (eC (.int 1))) (aCons (eC (.int 1)) aNil))) aNil)))))) (tV (eOp oNeP (eCall F_difference_signs_n (aCons (eVar 2) aNil)) (eVar 5)))) (sRet (eC (.bl false))) sSkip) (sIf (tV (eOp oNeP (eCall F__law_worth (aCons (eVar 2) (aCons (eVar 5) aNil))) (eOp oIx (eOp oAdd (eOp oIx (eVar 3) (eUn oNeg (eC (.int 1)))) (eTup (aCons (eC (.int 0)) aNil))) (eC (.int 0))))) (sRet (eC (.bl false))) sSkip))))))
noncomputable abbrev lapB:SM:=(sSeq (sSet 6 (eCall F_differences_n (aCons (eVar 2) aNil))) (sSeq (sIf (tV (eOp oNeP (eB fReprS (aCons (eVar 6) aNil)) (eB fReprS (aCons (eVar 3) aNil)))) (sRet (eC (.bl false))) sSkip) (sDrop (eMtL mAppend (eVar 6) (aCons (eTup aNil) aNil)))))
theorem oAdd_t {S:Sto} {a b:List D} (h:a.length + b.length≤sizeLine):oAdd S (.tup a) (.tup b)=some (.tup (a ++ b)):=if_pos h
theorem ne_str (S:Sto) (t:Str):oNeP S (.str t) (.str t)=some (.bl false):=by
 unfold oNeP eqP
 simp [eqS]
theorem lwh (i:Int) (S:Sto):F__law_whole [.int i] S=.ok (.bl true) S:=by
 simp [F__law_whole,fnM,m__law_whole,sRet,eAnd,eNot,eB,eVar,eC,aCons,aNil,R.bind,R.of,fIsi,tyD,isiTys]
theorem lap_ok {row:List Int} (hr:Row row) (hb:∀ x ∈ row,okN x) {S:Sto} {m:Nat} (hm:S[m]?=some (.lst ((allL row).map fT))) (r0 r1 r4 r5 r6:Option D):∃ S' c6,lapB [r0,r1,some (tupI row),some (.ref m),r4,r5,r6] S=.ok (.nx [r0,r1,some (tupI row),some (.ref m),r4,r5,c6]) S'∧S'[m]?=some (.lst ((allL row).map fT)):=by
 have z:(1000:Nat)≤sizeLine:=by decide
 have ll:((allL row).map fT).length≤17:=by
  unfold allL
  rw [List.length_map,List.length_cons,stpT_len]; have:=hr.2; omega
 obtain ⟨t,ht⟩:=rep_lst (L:=(allL row).map fT) (by omega) (all_shw hr.2 hb)
 obtain ⟨S1,f,e1,hf,lf,keep⟩:=diffs_ok hr S
 have hmt:=lt_of_some hm
 have hm1:S1[m]?=some (.lst ((allL row).map fT)):=(keep m hmt).trans hm
 refine ⟨S1.set f (.lst ((allL row).map fT ++ [.tup []])),some (.ref f),?_,by rw [List.getElem?_set_ne (by omega)]; exact hm1⟩
 exact (sSeq_go (sSet_go ((eCall_go (aCons_go (eVar_go rfl) rfl)).trans e1))).trans ((sSeq_go ((sIf_f (tV_go (eOp_go (eB_go (aCons_go (eVar_go rfl) rfl) (ht S1 f hf)) (eB_go (aCons_go (eVar_go rfl) rfl) (ht S1 m hm1)) (ne_str S1 t)))).trans rfl)).trans (sDrop_go ((eMtL_go (eVar_go rfl) (isL_ref hf) (aCons_go (eTup_go (xs:=[]) rfl (Nat.zero_le _)) rfl)).trans (append_go hf (by omega)))))
theorem sgn_good (row:List Int):(sgnL row).length=row.length∧∀ y ∈ sgnL row,y = -1 ∨ y=1:=by
 cases row with
 | nil=>exact ⟨rfl,fun y hy=>nomatch hy⟩
 | cons x xs=>
  obtain ⟨p,hp,h1,_,h3⟩:=sgn_end (row:=x :: xs) (by simp)
  have hp':finL xs.length (l0 (x :: xs))=[p]:=hp
  have e:sgnL (x :: xs)=p.2:=by show ((finL xs.length (l0 (x :: xs))).getD 0 (0,[])).2=_; rw [hp']; rfl
  rw [e]; exact ⟨h1,h3⟩
theorem are_ok (row:List Int) (hn:row.length≤16) (S:Sto):F__law_are [tupI (sgnL row),tupI row,.tup [.int (-1),.int 1]] S=.ok (.bl true) S:=by
 have z:(1000:Nat)≤sizeLine:=by decide
 obtain ⟨h1,h2⟩:=sgn_good row
 have hc:=eComp_map (enc:=fun y:Int=>D.int y) (out:=fun _=>D.bl true) (e:=eAnd (eCall F__law_whole (aCons (eVar 0) aNil)) (eOp (oIn false) (eVar 0) (eVar 1))) (it:=aSeq (eVar 0) itSeq) (caps:=[2]) (tl:=[some (.tup [.int (-1),.int 1])]) (r:=[some (tupI (sgnL row)),some (tupI row),some (.tup [.int (-1),.int 1])]) (S:=S) (sgnL row) (it_var rfl rfl) (by omega) rfl fun y hy=>by
  refine (eAnd_t ((eCall_go (aCons_go (eVar_go rfl) rfl)).trans (lwh y S))).trans (eOp_go (eVar_go rfl) (eVar_go rfl) ?_)
  rcases h2 y hy with rfl | rfl <;> rfl
 have ht:tV (eOp oNeP (eB fLen (aCons (eVar 0) aNil)) (eB fLen (aCons (eVar 1) aNil))) [some (tupI (sgnL row)),some (tupI row),some (.tup [.int (-1),.int 1])] S=.ok false S:=by
  refine tV_go (eOp_go (eB_go (aCons_go (eVar_go rfl) rfl) (len_i _)) (eB_go (aCons_go (eVar_go rfl) rfl) (len_i _)) ?_)
  rw [oNeP_i,h1,decide_eq_true rfl]; rfl
 have hall:fAll S [.lst ((sgnL row).map fun _=>D.bl true)]=some (.bl true):=by
  have:=fAll_map (S:=S) (f:=fun _:Int=>true) (xs:=sgnL row)
  rw [this]; simp
 exact fnM_rt (ρ:=[some (tupI (sgnL row)),some (tupI row),some (.tup [.int (-1),.int 1])]) rfl ((sSeq_go ((sIf_f ((tOr_f (tNot_go (b:=true) (tV_go (eB_go (aCons_go (eVar_go rfl) (aCons_go rfl rfl)) rfl)))).trans ht)).trans rfl)).trans (sRet_go (eB_go (aCons_go hc rfl) hall)))
theorem law_turn (ns:List Int) (k:Nat) (S:Sto) (r2 r3 r4 r5 r6:Option D):∃ (S':Sto) (a2 a3 a4 a5 a6:Option D),lawB [some (.fz (ns.map .int)),some (.int k),r2,r3,r4,r5,r6] S=.ok (.nx [some (.fz (ns.map .int)),some (.int k),a2,a3,a4,a5,a6]) S':=by
 have z:(1000:Nat)≤sizeLine:=by decide
 obtain ⟨v,e0⟩:=box_ok ns k S
 have g0:Gr S.length (S ++ [.lst [.int v]]) (S ++ [.lst [.int v]]):=⟨⟨v,by simp⟩,fun _ _ _=>rfl,Nat.le_refl _⟩
 obtain ⟨row,S1,e1,l1,p1,g1⟩:=row_ok g0 (most:=16) ⟨by decide,by decide⟩
 have hr:Row row:=⟨fun x hx=>(p1 x hx).1,by omega⟩
 have hn:=hr.2
 obtain ⟨S2,m,e2,hm⟩:=due_ok hn S1
 obtain ⟨S3,c6,e3,hm3⟩:=lap_ok hr p1 hm (some (.fz (ns.map .int))) (some (.int k)) (some (.int 0)) r5 r6
 obtain ⟨S4,d6,e4,hm4⟩:=lap_ok hr p1 hm3 (some (.fz (ns.map .int))) (some (.int k)) (some (.int 1)) r5 c6
 have el:forL (.nm 4) lapB ((List.range 2).map fun (i:Nat)=>D.int i) [some (.fz (ns.map .int)),some (.int k),some (tupI row),some (.ref m),r4,r5,r6] S2=.ok (.nx [some (.fz (ns.map .int)),some (.int k),some (tupI row),some (.ref m),some (.int 1),r5,d6]) S4:=
  (forL_cons (r1:=[some (.fz (ns.map .int)),some (.int k),some (tupI row),some (.ref m),some (.int 0),r5,r6]) rfl e3).trans ((forL_cons (r1:=[some (.fz (ns.map .int)),some (.int k),some (tupI row),some (.ref m),some (.int 1),r5,c6]) rfl e4).trans rfl)
 obtain ⟨S5,e5,k5⟩:=signs_ok hr S4
 obtain ⟨S6,e6,k6⟩:=signs_ok hr S5
 have hm5:S5[m]?=some (.lst ((allL row).map fT)):=(k5 m (lt_of_some hm4)).trans hm4
 have hm6:S6[m]?=some (.lst ((allL row).map fT)):=(k6 m (lt_of_some hm5)).trans hm5
 obtain ⟨g1',g2⟩:=sgn_good row
 have hsame:oNeP S6 (tupI (sgnL row)) (tupI (sgnL row))=some (.bl false):=by
  unfold oNeP
  rw [eqP_tints,decide_eq_true rfl]; rfl
 have hw:=lworth_ok (xs:=row) (ys:=sgnL row) g1' (fun y hy=>by rcases g2 y hy with h | h <;> omega) (by omega) S6
 obtain ⟨pre,hpre⟩:=fin_last (row.length - 1) (l0 row)
 have hix:oIx S6 (.ref m) (.int (-1))=some (fT (finL (row.length - 1) (l0 row))):=by
  refine last_ref (L:=pre.map fT) ?_
  rw [hm6]
  show some (SO.lst ((l0 row :: stpT (row.length - 1) (l0 row)).map fT))=_
  rw [hpre,List.map_append]; rfl
 have hend:∃ d,oAdd S6 (fT (finL (row.length - 1) (l0 row))) (.tup [.int 0])=some d∧oIx S6 d (.int 0)=some (.int (wor row (sgnL row))):=by
  rw [wor_dot]
  cases row with
  | nil=>exact ⟨_,rfl,rfl⟩
  | cons x xs=>
   obtain ⟨p,hp,_,hv,_⟩:=sgn_end (row:=x :: xs) (by simp)
   have hp':finL xs.length (l0 (x :: xs))=[p]:=hp
   have e:sgnL (x :: xs)=p.2:=by show ((finL xs.length (l0 (x :: xs))).getD 0 (0,[])).2=_; rw [hp']; rfl
   rw [hp,e,← hv]
   exact ⟨.tup [.int p.1,.int 0],oAdd_t (a:=[.int p.1]) (b:=[.int 0]) z2',rfl⟩
 obtain ⟨d,hd1,hd2⟩:=hend
 have hne:oNeP S6 (.int (wor row (sgnL row))) (.int (wor row (sgnL row)))=some (.bl false):=by rw [oNeP_i,decide_eq_true rfl]; rfl
 have hsg:∀ r S0,eTup (aCons (eUn oNeg (eC (.int 1))) (aCons (eC (.int 1)) aNil)) r S0=.ok (.tup [.int (-1),.int 1]) S0:=fun r S0=>eTup_go (xs:=[.int (-1),.int 1]) rfl z2'
 refine ⟨S6,some (tupI row),some (.ref m),some (.int 1),some (tupI (sgnL row)),d6,?_⟩
 refine (sSeq_go (sSet_go ((eCall_go (aCons_go ((eCall_go (aCons_go (eVar_go rfl) (aCons_go (eVar_go rfl) rfl))).trans e0) (aCons_go rfl rfl))).trans e1))).trans ?_
 refine (sSeq_go (sSet_go ((eCall_go (aCons_go (eVar_go rfl) rfl)).trans e2))).trans ?_
 refine (sSeq_go ((sFor_go (aRange1_ok (n:=2) rfl (by decide))).trans el)).trans ?_
 refine (sSeq_go (sSet_go ((eCall_go (aCons_go (eVar_go rfl) rfl)).trans e5))).trans ?_
 refine (sSeq_go ((sIf_f ((tOr_f (tNot_go (b:=true) (tV_go ((eCall_go (aCons_go (eVar_go rfl) (aCons_go (eVar_go rfl) (aCons_go (hsg _ _) rfl)))).trans (are_ok row hn S5))))).trans (tV_go (eOp_go ((eCall_go (aCons_go (eVar_go rfl) rfl)).trans e6) (eVar_go rfl) hsame)))).trans rfl)).trans ?_
 exact (sIf_f (tV_go (eOp_go ((eCall_go (aCons_go (eVar_go rfl) (aCons_go (eVar_go rfl) rfl))).trans hw) (eOp_go (eOp_go (eOp_go (eVar_go rfl) rfl hix) (eTup_go (xs:=[.int 0]) rfl z1') hd1) rfl hd2) hne))).trans rfl
theorem law_loop (ns:List Int):∀ (l:List Nat) (S:Sto) (r1 r2 r3 r4 r5 r6:Option D),∃ (S':Sto) (ρ:Rho),forL (.nm 1) lawB (l.map fun (i:Nat)=>D.int i) [some (.fz (ns.map .int)),r1,r2,r3,r4,r5,r6] S=.ok (.nx ρ) S'
 | [],S,r1,r2,r3,r4,r5,r6=>⟨S,_,rfl⟩
 | k :: l,S,r1,r2,r3,r4,r5,r6=>by
  obtain ⟨S1,a2,a3,a4,a5,a6,e1⟩:=law_turn ns k S r2 r3 r4 r5 r6
  obtain ⟨S2,ρ,e2⟩:=law_loop ns l S1 (some (.int k)) a2 a3 a4 a5 a6
  exact ⟨S2,ρ,(forL_cons (r1:=[some (.fz (ns.map .int)),some (.int k),r2,r3,r4,r5,r6]) rfl e1).trans e2⟩
theorem law_true (ns:List Int) (hn:ns.length≤63):∃ S,F_law [.fz (ns.map .int)] []=.ok (.bl true) S:=by
 obtain ⟨n,hg,hn3⟩:=laps_le ns 5 hn (by decide) [some (.fz (ns.map .int)),none,none,none,none,none,none] rfl []
 obtain ⟨S,ρ,e⟩:=law_loop ns (List.range n) [] none none none none none none
 exact ⟨S,fnM_rt (ρ:=[some (.fz (ns.map .int)),none,none,none,none,none,none]) rfl ((sSeq_go ((sFor_go hg).trans e)).trans (sRet_go rfl))⟩
set_option maxHeartbeats 4000000
theorem boo_abs:bootBuiltins "abs" = some (.builtin "abs"):=by decide +kernel
theorem boo_all:bootBuiltins "all" = some (.builtin "all"):=by decide +kernel
theorem boo_bool:bootBuiltins "bool" = some (.type "bool"):=by decide +kernel
theorem boo_divmod:bootBuiltins "divmod" = some (.builtin "divmod"):=by decide +kernel
theorem boo_int:bootBuiltins "int" = some (.type "int"):=by decide +kernel
theorem boo_isinstance:bootBuiltins "isinstance" = some (.builtin "isinstance"):=by decide +kernel
theorem boo_len:bootBuiltins "len" = some (.builtin "len"):=by decide +kernel
theorem boo_max:bootBuiltins "max" = some (.builtin "max"):=by decide +kernel
theorem boo_min:bootBuiltins "min" = some (.builtin "min"):=by decide +kernel
theorem boo_repr:bootBuiltins "repr" = some (.builtin "repr"):=by decide +kernel
theorem boo_sorted:bootBuiltins "sorted" = some (.builtin "sorted"):=by decide +kernel
theorem boo_tuple:bootBuiltins "tuple" = some (.type "tuple"):=by decide +kernel
structure Txt (K:PySem.W.Frag) (mg:Str→Option Value):Prop where
 cl:Cls K raisedX askedX isaX
 b_abs:mg "abs" = none
 b_all:mg "all" = none
 b_bool:mg "bool" = none
 b_divmod:mg "divmod" = none
 b_enumerate:mg "enumerate" = none
 b_int:mg "int" = none
 b_isinstance:mg "isinstance" = none
 b_len:mg "len" = none
 b_max:mg "max" = none
 b_min:mg "min" = none
 b_range:mg "range" = none
 b_repr:mg "repr" = none
 b_sorted:mg "sorted" = none
 b_tuple:mg "tuple" = none
 b_zip:mg "zip" = none
 c_LONGEST_ROW:∃ t,mg "LONGEST_ROW" = some (.int 16 t)
section
variable {P:Program} {w:World} {K:PySem.W.Frag} {mg:Str→Option Value} {base:Heap}
theorem sc__law_whole:FnScope ["thing"] ["thing"] (defScope st__law_whole):=⟨by kernel_rfl,by kernel_rfl,by kernel_rfl,by decide +kernel,rfl,by decide +kernel,by decide +kernel⟩
theorem ok__law_whole {f:Addr} {fd:FuncData} (F:Fun K "_law_whole" "_law_whole" st__law_whole f fd) (hm:mg "_law_whole" = some (.ref f)) (hb:Binds K fd ["thing"] []) (T:Txt K mg) :DefN P w K mg base "_law_whole" 1 1 F__law_whole:=
 def_ofN ["thing"] ["thing"] 0 1 1 1 rfl rfl rfl F hm hb sc__law_whole (m:=m__law_whole) fun cdv A outer s H E hr=>(ss_one (ss_ret (se_and (se_callB xc_isi (by unfold Gl; kernel_rfl) T.b_isinstance boo_isinstance (sa_cons (se_var 0 (by kernel_rfl) (Or.inl (by kernel_rfl))) (sa_cons (se_ty (by unfold Gl; kernel_rfl) T.b_int boo_int) sa_nil))) (se_one (se_not (se_callB xc_isi (by unfold Gl; kernel_rfl) T.b_isinstance boo_isinstance (sa_cons (se_var 0 (by kernel_rfl) (Or.inl (by kernel_rfl))) (sa_cons (se_ty (by unfold Gl; kernel_rfl) T.b_bool boo_bool) sa_nil))))))))
theorem sc__law_are:FnScope ["thing","row","kinds"] ["thing","row","kinds"] (defScope st__law_are):=⟨by kernel_rfl,by kernel_rfl,by kernel_rfl,by decide +kernel,rfl,by decide +kernel,by decide +kernel⟩
theorem ok__law_are {f:Addr} {fd:FuncData} (F:Fun K "_law_are" "_law_are" st__law_are f fd) (hm:mg "_law_are" = some (.ref f)) (hb:Binds K fd ["thing","row","kinds"] []) (T:Txt K mg) (d__law_whole:DefN P w K mg base "_law_whole" 1 1 F__law_whole):DefN P w K mg base "_law_are" 2 3 F__law_are:=
 def_ofN ["thing","row","kinds"] ["thing","row","kinds"] 1 2 3 3 rfl rfl rfl F hm hb sc__law_are (m:=m__law_are) fun cdv A outer s H E hr=>(ss_cons (ss_if (sw_st (sw_or (st_not (st_val (se_callB xc_isi (by unfold Gl; kernel_rfl) T.b_isinstance boo_isinstance (sa_cons (se_var 0 (by kernel_rfl) (Or.inl (by kernel_rfl))) (sa_cons (se_ty (by unfold Gl; kernel_rfl) T.b_tuple boo_tuple) sa_nil))))) (sw_or1 (st_cmp (xo_neP hr) (se_callB xc_len (by unfold Gl; kernel_rfl) T.b_len boo_len (sa_cons (se_var 0 (by kernel_rfl) (Or.inl (by kernel_rfl))) sa_nil)) (se_callB xc_len (by unfold Gl; kernel_rfl) T.b_len boo_len (sa_cons (se_var 1 (by kernel_rfl) (Or.inl (by kernel_rfl))) sa_nil)))))) (ss_one (ss_ret se_bl)) ss_nil) (ss_one (ss_ret (se_callB (xc_all rfl) (by unfold Gl; kernel_rfl) T.b_all boo_all (sa_cons (se_comp (N:=["part","kinds"]) (k:=1) (caps:=[2]) rfl (fun _ _ z=>z) (cs_mk (by kernel_rfl) (by kernel_rfl) (by kernel_rfl) (by kernel_rfl) rfl (by kernel_rfl)) (si_seq (se_var 0 (by kernel_rfl) (Or.inl (by kernel_rfl)))) (fun _ _ _ _=>(sg_name (show (["part","kinds"]:List Str).Nodup by decide +kernel) (by kernel_rfl) (Or.inl (by kernel_rfl)))) (fun _ _ _ _=>sif_nil) (fun _ _ _ _=>(se_and (se_fnN d__law_whole (hr.mono (by decide)) (by unfold Gl; kernel_rfl) (sa_cons (se_var 0 (by kernel_rfl) (Or.inl (by kernel_rfl))) sa_nil) (alen_cons alen_nil)) (se_one (se_cmp xo_in (se_var 0 (by kernel_rfl) (Or.inl (by kernel_rfl))) (se_var 1 (by kernel_rfl) (Or.inr (Or.inl (by kernel_rfl))))))))) sa_nil)))))
theorem sc__law_cell:FnScope ["script","k"] ["script","k"] (defScope st__law_cell):=⟨by kernel_rfl,by kernel_rfl,by kernel_rfl,by decide +kernel,rfl,by decide +kernel,by decide +kernel⟩
theorem ok__law_cell {f:Addr} {fd:FuncData} (F:Fun K "_law_cell" "_law_cell" st__law_cell f fd) (hm:mg "_law_cell" = some (.ref f)) (hb:Binds K fd ["script","k"] []) (T:Txt K mg) :DefN P w K mg base "_law_cell" 1 2 F__law_cell:=
 def_ofN ["script","k"] ["script","k"] 0 1 2 2 rfl rfl rfl F hm hb sc__law_cell (m:=m__law_cell) fun cdv A outer s H E hr=>(ss_cons (ss_if (st_cmp xo_lt (se_var 1 (by kernel_rfl) (Or.inl (by kernel_rfl))) (se_callB xc_len (by unfold Gl; kernel_rfl) T.b_len boo_len (sa_cons (se_var 0 (by kernel_rfl) (Or.inl (by kernel_rfl))) sa_nil))) (ss_one (ss_ret (se_ix xi_ix (se_var 0 (by kernel_rfl) (Or.inl (by kernel_rfl))) (se_var 1 (by kernel_rfl) (Or.inl (by kernel_rfl)))))) ss_nil) (ss_one (ss_ret se_int)))
theorem sc__law_mix:FnScope ["cell","k","some","stir"] ["cell","k"] (defScope st__law_mix):=⟨by kernel_rfl,by kernel_rfl,by kernel_rfl,by decide +kernel,rfl,by decide +kernel,by decide +kernel⟩
theorem ok__law_mix {f:Addr} {fd:FuncData} (F:Fun K "_law_mix" "_law_mix" st__law_mix f fd) (hm:mg "_law_mix" = some (.ref f)) (hb:Binds K fd ["cell","k"] []) (T:Txt K mg) :DefN P w K mg base "_law_mix" 1 2 F__law_mix:=
 def_ofN ["cell","k","some","stir"] ["cell","k"] 0 1 2 4 rfl rfl rfl F hm hb sc__law_mix (m:=m__law_mix) fun cdv A outer s H E hr=>(ss_cons (ss_set sc__law_mix.nd (by kernel_rfl) (Or.inl (by kernel_rfl)) (se_lst (sa_cons se_int (sa_cons se_int (sa_cons se_int (sa_cons se_int (sa_cons se_int (sa_cons se_int (sa_cons se_int (sa_cons se_int (sa_cons se_int (sa_cons se_int (sa_cons se_int (sa_cons se_int (sa_cons se_int sa_nil))))))))))))))) (ss_cons (ss_set sc__law_mix.nd (by kernel_rfl) (Or.inl (by kernel_rfl)) (se_op xo_add (se_op xo_add (se_op xo_mul (se_op xo_add (se_op xo_mod (se_var 0 (by kernel_rfl) (Or.inl (by kernel_rfl))) se_int) se_int) (se_ix xi_ix (se_var 2 (by kernel_rfl) (Or.inl (by kernel_rfl))) (se_op xo_mod (se_var 1 (by kernel_rfl) (Or.inl (by kernel_rfl))) se_int))) (se_op xo_mul se_int (se_var 1 (by kernel_rfl) (Or.inl (by kernel_rfl))))) (se_op xo_mul se_int (se_op xo_fdiv (se_var 1 (by kernel_rfl) (Or.inl (by kernel_rfl))) se_int)))) (ss_cons (ss_set sc__law_mix.nd (by kernel_rfl) (Or.inl (by kernel_rfl)) (se_op xo_mod (se_var 3 (by kernel_rfl) (Or.inl (by kernel_rfl))) se_int)) (ss_one (ss_ret (se_op xo_fdiv (se_op xo_mod (se_op xo_add (se_op xo_mul (se_var 3 (by kernel_rfl) (Or.inl (by kernel_rfl))) (se_var 3 (by kernel_rfl) (Or.inl (by kernel_rfl)))) (se_op xo_mul se_int (se_var 1 (by kernel_rfl) (Or.inl (by kernel_rfl))))) se_int) se_int))))))
theorem sc__law_box:FnScope ["script","k","cell","number","j"] ["script","k"] (defScope st__law_box):=⟨by kernel_rfl,by kernel_rfl,by kernel_rfl,by decide +kernel,rfl,by decide +kernel,by decide +kernel⟩
theorem ok__law_box {f:Addr} {fd:FuncData} (F:Fun K "_law_box" "_law_box" st__law_box f fd) (hm:mg "_law_box" = some (.ref f)) (hb:Binds K fd ["script","k"] []) (T:Txt K mg) (d__law_cell:DefN P w K mg base "_law_cell" 1 2 F__law_cell) (d__law_mix:DefN P w K mg base "_law_mix" 1 2 F__law_mix):DefN P w K mg base "_law_box" 2 2 F__law_box:=
 def_ofN ["script","k","cell","number","j"] ["script","k"] 1 2 2 5 rfl rfl rfl F hm hb sc__law_box (m:=m__law_box) fun cdv A outer s H E hr=>(ss_cons (ss_set sc__law_box.nd (by kernel_rfl) (Or.inl (by kernel_rfl)) (se_fnN d__law_cell (hr.mono (by decide)) (by unfold Gl; kernel_rfl) (sa_cons (se_var 0 (by kernel_rfl) (Or.inl (by kernel_rfl))) (sa_cons (se_var 1 (by kernel_rfl) (Or.inl (by kernel_rfl))) sa_nil)) (alen_cons (alen_cons alen_nil)))) (ss_cons (ss_if (st_cmp (xo_eqP hr) (se_op xo_mod (se_var 2 (by kernel_rfl) (Or.inl (by kernel_rfl))) se_int) se_int) (ss_one (ss_ret (se_new (sa_cons (se_op xo_fdiv (se_callB xc_abs (by unfold Gl; kernel_rfl) T.b_abs boo_abs (sa_cons (se_var 2 (by kernel_rfl) (Or.inl (by kernel_rfl))) sa_nil)) se_int) sa_nil)))) ss_nil) (ss_cons (ss_set sc__law_box.nd (by kernel_rfl) (Or.inl (by kernel_rfl)) se_int) (ss_cons (ss_for PassesOwn.never rfl (si_range1 (by unfold Gl; kernel_rfl) T.b_range (sa_cons se_int sa_nil)) (sg_name sc__law_box.nd (by kernel_rfl) (Or.inl (by kernel_rfl))) (ss_one (ss_set sc__law_box.nd (by kernel_rfl) (Or.inl (by kernel_rfl)) (se_op xo_add (se_op xo_mul (se_var 3 (by kernel_rfl) (Or.inl (by kernel_rfl))) se_int) (se_fnN d__law_mix (hr.mono (by decide)) (by unfold Gl; kernel_rfl) (sa_cons (se_var 2 (by kernel_rfl) (Or.inl (by kernel_rfl))) (sa_cons (se_var 4 (by kernel_rfl) (Or.inl (by kernel_rfl))) sa_nil)) (alen_cons (alen_cons alen_nil))))))) (ss_one (ss_ret (se_new (sa_cons (se_var 3 (by kernel_rfl) (Or.inl (by kernel_rfl))) sa_nil))))))))
theorem sc__law_due:FnScope ["row","here","found","one","other"] ["row"] (defScope st__law_due):=⟨by kernel_rfl,by kernel_rfl,by kernel_rfl,by decide +kernel,rfl,by decide +kernel,by decide +kernel⟩
theorem ok__law_due {f:Addr} {fd:FuncData} (F:Fun K "_law_due" "_law_due" st__law_due f fd) (hm:mg "_law_due" = some (.ref f)) (hb:Binds K fd ["row"] []) (T:Txt K mg) :DefN P w K mg base "_law_due" 1 1 F__law_due:=
 def_ofN ["row","here","found","one","other"] ["row"] 0 1 1 5 rfl rfl rfl F hm hb sc__law_due (m:=m__law_due) fun cdv A outer s H E hr=>(ss_cons (ss_set sc__law_due.nd (by kernel_rfl) (Or.inl (by kernel_rfl)) (se_callBR xc_srtN (by unfold Gl; kernel_rfl) T.b_sorted boo_sorted (sa_cons (se_var 0 (by kernel_rfl) (Or.inl (by kernel_rfl))) sa_nil))) (ss_cons (ss_set sc__law_due.nd (by kernel_rfl) (Or.inl (by kernel_rfl)) (se_new (sa_cons (se_callTy xc_tuple (by unfold Gl; kernel_rfl) T.b_tuple boo_tuple (sa_cons (se_revS (se_var 1 (by kernel_rfl) (Or.inl (by kernel_rfl))) (se_un xu_neg se_int)) sa_nil)) sa_nil))) (ss_cons (ss_while PassesOwn.never (st_cmp xo_gt (se_callB xc_len (by unfold Gl; kernel_rfl) T.b_len boo_len (sa_cons (se_var 1 (by kernel_rfl) (Or.inl (by kernel_rfl))) sa_nil)) se_int) (ss_cons (ss_set sc__law_due.nd (by kernel_rfl) (Or.inl (by kernel_rfl)) (se_pop0 (se_var 1 (by kernel_rfl) (Or.inl (by kernel_rfl))))) (ss_cons (ss_set sc__law_due.nd (by kernel_rfl) (Or.inl (by kernel_rfl)) (se_pop0 (se_var 1 (by kernel_rfl) (Or.inl (by kernel_rfl))))) (ss_cons (ss_set sc__law_due.nd (by kernel_rfl) (Or.inl (by kernel_rfl)) (se_callBR xc_srtN (by unfold Gl; kernel_rfl) T.b_sorted boo_sorted (sa_cons (se_op xo_addS (se_var 1 (by kernel_rfl) (Or.inl (by kernel_rfl))) (se_lst (sa_cons (se_op xo_sub (se_var 3 (by kernel_rfl) (Or.inl (by kernel_rfl))) (se_var 4 (by kernel_rfl) (Or.inl (by kernel_rfl)))) sa_nil))) sa_nil))) (ss_one (ss_expr (se_mtL PySem.F.plainAttrs_list PySem.F.slot_list_append PySem.F.type_list_append xm_append (se_var 2 (by kernel_rfl) (Or.inl (by kernel_rfl))) (sa_cons (se_callTy xc_tuple (by unfold Gl; kernel_rfl) T.b_tuple boo_tuple (sa_cons (se_revS (se_var 1 (by kernel_rfl) (Or.inl (by kernel_rfl))) (se_un xu_neg se_int)) sa_nil)) sa_nil)))))))) (ss_one (ss_ret (se_var 2 (by kernel_rfl) (Or.inl (by kernel_rfl))))))))
theorem sc__law_take:FnScope ["box","many","left","digit"] ["box","many"] (defScope st__law_take):=⟨by kernel_rfl,by kernel_rfl,by kernel_rfl,by decide +kernel,rfl,by decide +kernel,by decide +kernel⟩
theorem ok__law_take {f:Addr} {fd:FuncData} (F:Fun K "_law_take" "_law_take" st__law_take f fd) (hm:mg "_law_take" = some (.ref f)) (hb:Binds K fd ["box","many"] []) (T:Txt K mg) :DefN P w K mg base "_law_take" 1 2 F__law_take:=
 def_ofN ["box","many","left","digit"] ["box","many"] 0 1 2 4 rfl rfl rfl F hm hb sc__law_take (m:=m__law_take) fun cdv A outer s H E hr=>(ss_cons (ss_asg (se_callB xc_divmod (by unfold Gl; kernel_rfl) T.b_divmod boo_divmod (sa_cons (se_ix xi_ix (se_var 0 (by kernel_rfl) (Or.inl (by kernel_rfl))) se_int) (sa_cons (se_var 1 (by kernel_rfl) (Or.inl (by kernel_rfl))) sa_nil))) (sg_tup rfl (sgs_cons (sg_name sc__law_take.nd (by kernel_rfl) (Or.inl (by kernel_rfl))) (sgs_cons (sg_name sc__law_take.nd (by kernel_rfl) (Or.inl (by kernel_rfl))) sgs_nil)))) (ss_cons (ss_put xs_put (se_var 2 (by kernel_rfl) (Or.inl (by kernel_rfl))) (se_var 0 (by kernel_rfl) (Or.inl (by kernel_rfl))) se_int) (ss_one (ss_ret (se_var 3 (by kernel_rfl) (Or.inl (by kernel_rfl)))))))
theorem sc__law_row:FnScope ["box","most","many","kind","base","found","k","given","some"] ["box","most"] (defScope st__law_row):=⟨by kernel_rfl,by kernel_rfl,by kernel_rfl,by decide +kernel,rfl,by decide +kernel,by decide +kernel⟩
theorem ok__law_row {f:Addr} {fd:FuncData} (F:Fun K "_law_row" "_law_row" st__law_row f fd) (hm:mg "_law_row" = some (.ref f)) (hb:Binds K fd ["box","most"] []) (T:Txt K mg) (d__law_take:DefN P w K mg base "_law_take" 1 2 F__law_take):DefN P w K mg base "_law_row" 2 2 F__law_row:=
 def_ofN ["box","most","many","kind","base","found","k","given","some"] ["box","most"] 1 2 2 9 rfl rfl rfl F hm hb sc__law_row (m:=m__law_row) fun cdv A outer s H E hr=>(ss_cons (ss_set sc__law_row.nd (by kernel_rfl) (Or.inl (by kernel_rfl)) (se_fnN d__law_take (hr.mono (by decide)) (by unfold Gl; kernel_rfl) (sa_cons (se_var 0 (by kernel_rfl) (Or.inl (by kernel_rfl))) (sa_cons (se_op xo_add (se_var 1 (by kernel_rfl) (Or.inl (by kernel_rfl))) se_int) sa_nil)) (alen_cons (alen_cons alen_nil)))) (ss_cons (ss_set sc__law_row.nd (by kernel_rfl) (Or.inl (by kernel_rfl)) (se_fnN d__law_take (hr.mono (by decide)) (by unfold Gl; kernel_rfl) (sa_cons (se_var 0 (by kernel_rfl) (Or.inl (by kernel_rfl))) (sa_cons se_int sa_nil)) (alen_cons (alen_cons alen_nil)))) (ss_cons (ss_set sc__law_row.nd (by kernel_rfl) (Or.inl (by kernel_rfl)) (se_op xo_add se_int (se_fnN d__law_take (hr.mono (by decide)) (by unfold Gl; kernel_rfl) (sa_cons (se_var 0 (by kernel_rfl) (Or.inl (by kernel_rfl))) (sa_cons se_int sa_nil)) (alen_cons (alen_cons alen_nil))))) (ss_cons (ss_set sc__law_row.nd (by kernel_rfl) (Or.inl (by kernel_rfl)) (se_new sa_nil)) (ss_cons (ss_for PassesOwn.never rfl (si_range1 (by unfold Gl; kernel_rfl) T.b_range (sa_cons (se_var 2 (by kernel_rfl) (Or.inl (by kernel_rfl))) sa_nil)) (sg_name sc__law_row.nd (by kernel_rfl) (Or.inl (by kernel_rfl))) (ss_cons (ss_set sc__law_row.nd (by kernel_rfl) (Or.inl (by kernel_rfl)) (se_op xo_add se_int (se_fnN d__law_take (hr.mono (by decide)) (by unfold Gl; kernel_rfl) (sa_cons (se_var 0 (by kernel_rfl) (Or.inl (by kernel_rfl))) (sa_cons se_int sa_nil)) (alen_cons (alen_cons alen_nil))))) (ss_cons (ss_set sc__law_row.nd (by kernel_rfl) (Or.inl (by kernel_rfl)) (se_lst (sa_cons (se_var 7 (by kernel_rfl) (Or.inl (by kernel_rfl))) (sa_cons (se_var 7 (by kernel_rfl) (Or.inl (by kernel_rfl))) (sa_cons (se_var 4 (by kernel_rfl) (Or.inl (by kernel_rfl))) (sa_cons (se_op xo_shl se_int (se_var 6 (by kernel_rfl) (Or.inl (by kernel_rfl)))) (sa_cons (se_op xo_add (se_var 4 (by kernel_rfl) (Or.inl (by kernel_rfl))) (se_op xo_mul (se_var 6 (by kernel_rfl) (Or.inl (by kernel_rfl))) (se_var 7 (by kernel_rfl) (Or.inl (by kernel_rfl))))) (sa_cons (se_op xo_mul (se_var 7 (by kernel_rfl) (Or.inl (by kernel_rfl))) (se_var 7 (by kernel_rfl) (Or.inl (by kernel_rfl)))) (sa_cons (se_op xo_add (se_op xo_mul (se_op xo_pow se_int se_int) (se_var 7 (by kernel_rfl) (Or.inl (by kernel_rfl)))) (se_var 7 (by kernel_rfl) (Or.inl (by kernel_rfl)))) sa_nil))))))))) (ss_one (ss_expr (se_mtL PySem.F.plainAttrs_list PySem.F.slot_list_append PySem.F.type_list_append xm_append (se_var 5 (by kernel_rfl) (Or.inl (by kernel_rfl))) (sa_cons (se_ix xi_ix (se_lst (sa_cons (se_ix xi_ix (se_var 8 (by kernel_rfl) (Or.inl (by kernel_rfl))) (se_var 3 (by kernel_rfl) (Or.inl (by kernel_rfl)))) (sa_cons (se_op xo_mul (se_var 4 (by kernel_rfl) (Or.inl (by kernel_rfl))) (se_var 7 (by kernel_rfl) (Or.inl (by kernel_rfl)))) sa_nil))) (se_callTy xc_int (by unfold Gl; kernel_rfl) T.b_int boo_int (sa_cons (se_cmp (xo_eqP hr) (se_fnN d__law_take (hr.mono (by decide)) (by unfold Gl; kernel_rfl) (sa_cons (se_var 0 (by kernel_rfl) (Or.inl (by kernel_rfl))) (sa_cons se_int sa_nil)) (alen_cons (alen_cons alen_nil))) se_int) sa_nil))) sa_nil))))))) (ss_one (ss_ret (se_callTy xc_tuple (by unfold Gl; kernel_rfl) T.b_tuple boo_tuple (sa_cons (se_var 5 (by kernel_rfl) (Or.inl (by kernel_rfl))) sa_nil)))))))))
theorem sc__law_worth:FnScope ["row","parts","found","at"] ["row","parts"] (defScope st__law_worth):=⟨by kernel_rfl,by kernel_rfl,by kernel_rfl,by decide +kernel,rfl,by decide +kernel,by decide +kernel⟩
theorem ok__law_worth {f:Addr} {fd:FuncData} (F:Fun K "_law_worth" "_law_worth" st__law_worth f fd) (hm:mg "_law_worth" = some (.ref f)) (hb:Binds K fd ["row","parts"] []) (T:Txt K mg) :DefN P w K mg base "_law_worth" 1 2 F__law_worth:=
 def_ofN ["row","parts","found","at"] ["row","parts"] 0 1 2 4 rfl rfl rfl F hm hb sc__law_worth (m:=m__law_worth) fun cdv A outer s H E hr=>(ss_cons (ss_set sc__law_worth.nd (by kernel_rfl) (Or.inl (by kernel_rfl)) se_int) (ss_cons (ss_for PassesOwn.never rfl (si_range1 (by unfold Gl; kernel_rfl) T.b_range (sa_cons (se_callB xc_len (by unfold Gl; kernel_rfl) T.b_len boo_len (sa_cons (se_var 0 (by kernel_rfl) (Or.inl (by kernel_rfl))) sa_nil)) sa_nil)) (sg_name sc__law_worth.nd (by kernel_rfl) (Or.inl (by kernel_rfl))) (ss_one (ss_set sc__law_worth.nd (by kernel_rfl) (Or.inl (by kernel_rfl)) (se_op xo_add (se_var 2 (by kernel_rfl) (Or.inl (by kernel_rfl))) (se_op xo_mul (se_ix xi_ix (se_var 0 (by kernel_rfl) (Or.inl (by kernel_rfl))) (se_var 3 (by kernel_rfl) (Or.inl (by kernel_rfl)))) (se_ix xi_ix (se_var 1 (by kernel_rfl) (Or.inl (by kernel_rfl))) (se_var 3 (by kernel_rfl) (Or.inl (by kernel_rfl))))))))) (ss_one (ss_ret (se_var 2 (by kernel_rfl) (Or.inl (by kernel_rfl)))))))
theorem sc_difference:FnScope ["greater","lesser","parts"] ["greater","lesser"] (defScope st_difference):=⟨by kernel_rfl,by kernel_rfl,by kernel_rfl,by decide +kernel,rfl,by decide +kernel,by decide +kernel⟩
theorem ok_difference {f:Addr} {fd:FuncData} (F:Fun K "difference" "difference" st_difference f fd) (hm:mg "difference" = some (.ref f)) (hb:Binds K fd ["greater","lesser"] []) (T:Txt K mg) :DefN P w K mg base "difference" 1 2 F_difference:=
 def_ofN ["greater","lesser","parts"] ["greater","lesser"] 0 1 2 3 rfl rfl rfl F hm hb sc_difference (m:=m_difference) fun cdv A outer s H E hr=>(ss_cons (ss_setC (i0:=2) (N:=["ahead","behind"]) (k:=2) (caps:=[]) sc_difference.nd (by kernel_rfl) (Or.inl (by kernel_rfl)) rfl (fun _ _ z=>z) (cs_mk (by kernel_rfl) (by kernel_rfl) (by kernel_rfl) (by kernel_rfl) rfl (by kernel_rfl)) (si_zip (by unfold Gl; kernel_rfl) T.b_zip (sa_cons (se_ix xi_ix (se_var 0 (by kernel_rfl) (Or.inl (by kernel_rfl))) se_int) (sa_cons (se_ix xi_ix (se_var 1 (by kernel_rfl) (Or.inl (by kernel_rfl))) se_int) sa_nil))) (fun _ _ _ _=>(sg_tup rfl (sgs_cons (sg_name (show (["ahead","behind"]:List Str).Nodup by decide +kernel) (by kernel_rfl) (Or.inl (by kernel_rfl))) (sgs_cons (sg_name (show (["ahead","behind"]:List Str).Nodup by decide +kernel) (by kernel_rfl) (Or.inl (by kernel_rfl))) sgs_nil)))) (fun _ _ _ _=>sif_nil) (fun _ _ _ _=>(se_op xo_sub (se_var 0 (by kernel_rfl) (Or.inl (by kernel_rfl))) (se_var 1 (by kernel_rfl) (Or.inl (by kernel_rfl)))))) (ss_one (ss_ret (se_tup (sa_cons (se_op xo_sub (se_ix xi_ix (se_var 0 (by kernel_rfl) (Or.inl (by kernel_rfl))) se_int) (se_ix xi_ix (se_var 1 (by kernel_rfl) (Or.inl (by kernel_rfl))) se_int)) (sa_cons (se_callTy xc_tuple (by unfold Gl; kernel_rfl) T.b_tuple boo_tuple (sa_cons (se_var 2 (by kernel_rfl) (Or.inl (by kernel_rfl))) sa_nil)) sa_nil))))))
theorem sc_parts_of_one:FnScope ["place","row"] ["place","row"] (defScope st_parts_of_one):=⟨by kernel_rfl,by kernel_rfl,by kernel_rfl,by decide +kernel,rfl,by decide +kernel,by decide +kernel⟩
theorem ok_parts_of_one {f:Addr} {fd:FuncData} (F:Fun K "parts_of_one" "parts_of_one" st_parts_of_one f fd) (hm:mg "parts_of_one" = some (.ref f)) (hb:Binds K fd ["place","row"] []) (T:Txt K mg) :DefN P w K mg base "parts_of_one" 1 2 F_parts_of_one:=
 def_ofN ["place","row"] ["place","row"] 0 1 2 2 rfl rfl rfl F hm hb sc_parts_of_one (m:=m_parts_of_one) fun cdv A outer s H E hr=>(ss_one (ss_ret (se_callTy xc_tuple (by unfold Gl; kernel_rfl) T.b_tuple boo_tuple (sa_cons (se_comp (N:=["other","place"]) (k:=1) (caps:=[0]) rfl (fun _ _ z=>z) (cs_mk (by kernel_rfl) (by kernel_rfl) (by kernel_rfl) (by kernel_rfl) rfl (by kernel_rfl)) (si_range1 (by unfold Gl; kernel_rfl) T.b_range (sa_cons (se_callB xc_len (by unfold Gl; kernel_rfl) T.b_len boo_len (sa_cons (se_var 1 (by kernel_rfl) (Or.inl (by kernel_rfl))) sa_nil)) sa_nil)) (fun _ _ _ _=>(sg_name (show (["other","place"]:List Str).Nodup by decide +kernel) (by kernel_rfl) (Or.inl (by kernel_rfl)))) (fun _ _ _ _=>sif_nil) (fun _ _ _ _=>(se_if (st_cmp (xo_eqP hr) (se_var 0 (by kernel_rfl) (Or.inl (by kernel_rfl))) (se_var 1 (by kernel_rfl) (Or.inr (Or.inl (by kernel_rfl))))) se_int se_int))) sa_nil))))
theorem sc_difference_steps:FnScope ["row","held","steps"] ["row"] (defScope st_difference_steps):=⟨by kernel_rfl,by kernel_rfl,by kernel_rfl,by decide +kernel,rfl,by decide +kernel,by decide +kernel⟩
theorem ok_difference_steps {f:Addr} {fd:FuncData} (F:Fun K "difference_steps" "difference_steps" st_difference_steps f fd) (hm:mg "difference_steps" = some (.ref f)) (hb:Binds K fd ["row"] []) (T:Txt K mg) (d_difference:DefN P w K mg base "difference" 1 2 F_difference) (d_parts_of_one:DefN P w K mg base "parts_of_one" 1 2 F_parts_of_one):DefN P w K mg base "difference_steps" 2 1 F_difference_steps:=
 def_ofN ["row","held","steps"] ["row"] 1 2 1 3 rfl rfl rfl F hm hb sc_difference_steps (m:=m_difference_steps) fun cdv A outer s H E hr=>(ss_cons (ss_set sc_difference_steps.nd (by kernel_rfl) (Or.inl (by kernel_rfl)) (se_callBT (xk_srtR hr) (by unfold Gl; kernel_rfl) T.b_sorted boo_sorted (sa_cons (se_comp (N:=["place","number","row"]) (k:=2) (caps:=[0]) rfl (fun _ _ z=>z) (cs_mk (by kernel_rfl) (by kernel_rfl) (by kernel_rfl) (by kernel_rfl) rfl (by kernel_rfl)) (si_enum (by unfold Gl; kernel_rfl) T.b_enumerate (sa_cons (se_var 0 (by kernel_rfl) (Or.inr (Or.inl (by kernel_rfl)))) sa_nil)) (fun _ _ _ _=>(sg_tup rfl (sgs_cons (sg_name (show (["place","number","row"]:List Str).Nodup by decide +kernel) (by kernel_rfl) (Or.inl (by kernel_rfl))) (sgs_cons (sg_name (show (["place","number","row"]:List Str).Nodup by decide +kernel) (by kernel_rfl) (Or.inl (by kernel_rfl))) sgs_nil)))) (fun _ _ _ _=>sif_nil) (fun _ _ _ _=>(se_tup (sa_cons (se_var 1 (by kernel_rfl) (Or.inl (by kernel_rfl))) (sa_cons (se_fnN d_parts_of_one (hr.mono (by decide)) (by unfold Gl; kernel_rfl) (sa_cons (se_var 0 (by kernel_rfl) (Or.inl (by kernel_rfl))) (sa_cons (se_var 2 (by kernel_rfl) (Or.inr (Or.inl (by kernel_rfl)))) sa_nil)) (alen_cons (alen_cons alen_nil))) sa_nil))))) sa_nil))) (ss_cons (ss_set sc_difference_steps.nd (by kernel_rfl) (Or.inl (by kernel_rfl)) (se_new (sa_cons (se_var 1 (by kernel_rfl) (Or.inl (by kernel_rfl))) sa_nil))) (ss_cons (ss_while PassesOwn.never (st_cmp xo_gt (se_callB xc_len (by unfold Gl; kernel_rfl) T.b_len boo_len (sa_cons (se_var 1 (by kernel_rfl) (Or.inl (by kernel_rfl))) sa_nil)) se_int) (ss_cons (ss_set sc_difference_steps.nd (by kernel_rfl) (Or.inl (by kernel_rfl)) (se_callBT (xk_srtR hr) (by unfold Gl; kernel_rfl) T.b_sorted boo_sorted (sa_cons (se_op xo_add (se_sl xl_tup (se_var 1 (by kernel_rfl) (Or.inl (by kernel_rfl))) (so_some se_int) so_none) (se_lst (sa_cons (se_fnN d_difference (hr.mono (by decide)) (by unfold Gl; kernel_rfl) (sa_cons (se_ix xi_ix (se_var 1 (by kernel_rfl) (Or.inl (by kernel_rfl))) se_int) (sa_cons (se_ix xi_ix (se_var 1 (by kernel_rfl) (Or.inl (by kernel_rfl))) se_int) sa_nil)) (alen_cons (alen_cons alen_nil))) sa_nil))) sa_nil))) (ss_one (ss_expr (se_mtL PySem.F.plainAttrs_list PySem.F.slot_list_append PySem.F.type_list_append xm_append (se_var 2 (by kernel_rfl) (Or.inl (by kernel_rfl))) (sa_cons (se_var 1 (by kernel_rfl) (Or.inl (by kernel_rfl))) sa_nil)))))) (ss_one (ss_ret (se_var 2 (by kernel_rfl) (Or.inl (by kernel_rfl))))))))
theorem sc_is_whole:FnScope ["thing"] ["thing"] (defScope st_is_whole):=⟨by kernel_rfl,by kernel_rfl,by kernel_rfl,by decide +kernel,rfl,by decide +kernel,by decide +kernel⟩
theorem ok_is_whole {f:Addr} {fd:FuncData} (F:Fun K "is_whole" "is_whole" st_is_whole f fd) (hm:mg "is_whole" = some (.ref f)) (hb:Binds K fd ["thing"] []) (T:Txt K mg) :DefN P w K mg base "is_whole" 1 1 F_is_whole:=
 def_ofN ["thing"] ["thing"] 0 1 1 1 rfl rfl rfl F hm hb sc_is_whole (m:=m_is_whole) fun cdv A outer s H E hr=>(ss_one (ss_ret (se_and (se_callB xc_isi (by unfold Gl; kernel_rfl) T.b_isinstance boo_isinstance (sa_cons (se_var 0 (by kernel_rfl) (Or.inl (by kernel_rfl))) (sa_cons (se_ty (by unfold Gl; kernel_rfl) T.b_int boo_int) sa_nil))) (se_one (se_not (se_callB xc_isi (by unfold Gl; kernel_rfl) T.b_isinstance boo_isinstance (sa_cons (se_var 0 (by kernel_rfl) (Or.inl (by kernel_rfl))) (sa_cons (se_ty (by unfold Gl; kernel_rfl) T.b_bool boo_bool) sa_nil))))))))
theorem sc_is_row:FnScope ["thing"] ["thing"] (defScope st_is_row):=⟨by kernel_rfl,by kernel_rfl,by kernel_rfl,by decide +kernel,rfl,by decide +kernel,by decide +kernel⟩
theorem ok_is_row {f:Addr} {fd:FuncData} (F:Fun K "is_row" "is_row" st_is_row f fd) (hm:mg "is_row" = some (.ref f)) (hb:Binds K fd ["thing"] []) (T:Txt K mg) (d_is_whole:DefN P w K mg base "is_whole" 1 1 F_is_whole):DefN P w K mg base "is_row" 2 1 F_is_row:=
 def_ofN ["thing"] ["thing"] 1 2 1 1 rfl rfl rfl F hm hb sc_is_row (m:=m_is_row) fun cdv A outer s H E hr=>(ss_cons (ss_if (sw_st (sw_or (st_not (st_val (se_callB xc_isi (by unfold Gl; kernel_rfl) T.b_isinstance boo_isinstance (sa_cons (se_var 0 (by kernel_rfl) (Or.inl (by kernel_rfl))) (sa_cons (se_ty (by unfold Gl; kernel_rfl) T.b_tuple boo_tuple) sa_nil))))) (sw_or1 (st_cmp xo_gt (se_callB xc_len (by unfold Gl; kernel_rfl) T.b_len boo_len (sa_cons (se_var 0 (by kernel_rfl) (Or.inl (by kernel_rfl))) sa_nil)) (se_gi T.c_LONGEST_ROW (by unfold Gl; kernel_rfl)))))) (ss_one (ss_ret se_bl)) ss_nil) (ss_one (ss_ret (se_callB (xc_all rfl) (by unfold Gl; kernel_rfl) T.b_all boo_all (sa_cons (se_comp (N:=["number"]) (k:=1) (caps:=[]) rfl (fun _ _ z=>z) (cs_mk (by kernel_rfl) (by kernel_rfl) (by kernel_rfl) (by kernel_rfl) rfl (by kernel_rfl)) (si_seq (se_var 0 (by kernel_rfl) (Or.inl (by kernel_rfl)))) (fun _ _ _ _=>(sg_name (show (["number"]:List Str).Nodup by decide +kernel) (by kernel_rfl) (Or.inl (by kernel_rfl)))) (fun _ _ _ _=>sif_nil) (fun _ _ _ _=>(se_and (se_fnN d_is_whole (hr.mono (by decide)) (by unfold Gl; kernel_rfl) (sa_cons (se_var 0 (by kernel_rfl) (Or.inl (by kernel_rfl))) sa_nil) (alen_cons alen_nil)) (se_one (se_cmp xo_ge (se_var 0 (by kernel_rfl) (Or.inl (by kernel_rfl))) se_int))))) sa_nil)))))
theorem sc_need_row_n:FnScope ["thing"] ["thing"] (defScope st_need_row_n):=⟨by kernel_rfl,by kernel_rfl,by kernel_rfl,by decide +kernel,rfl,by decide +kernel,by decide +kernel⟩
theorem ok_need_row_n {f:Addr} {fd:FuncData} (F:Fun K "need_row" "need_row" st_need_row_n f fd) (hm:mg "need_row" = some (.ref f)) (hb:Binds K fd ["thing"] []) (T:Txt K mg) (d_is_row:DefN P w K mg base "is_row" 2 1 F_is_row):DefN P w K mg base "need_row" 3 1 F_need_row_n:=
 def_ofN ["thing"] ["thing"] 2 3 1 1 rfl rfl rfl F hm hb sc_need_row_n (m:=m_need_row_n) fun cdv A outer s H E hr=>(ss_one (ss_if (st_not (st_val (se_fnN d_is_row (hr.mono (by decide)) (by unfold Gl; kernel_rfl) (sa_cons (se_var 0 (by kernel_rfl) (Or.inl (by kernel_rfl))) sa_nil) (alen_cons alen_nil)))) (ss_one ss_never) ss_nil))
theorem sc_difference_signs_n:FnScope ["row","last"] ["row"] (defScope st_difference_signs_n):=⟨by kernel_rfl,by kernel_rfl,by kernel_rfl,by decide +kernel,rfl,by decide +kernel,by decide +kernel⟩
theorem ok_difference_signs_n {f:Addr} {fd:FuncData} (F:Fun K "difference_signs" "difference_signs" st_difference_signs_n f fd) (hm:mg "difference_signs" = some (.ref f)) (hb:Binds K fd ["row"] []) (T:Txt K mg) (d_difference_steps:DefN P w K mg base "difference_steps" 2 1 F_difference_steps) (d_need_row_n:DefN P w K mg base "need_row" 3 1 F_need_row_n):DefN P w K mg base "difference_signs" 4 1 F_difference_signs_n:=
 def_ofN ["row","last"] ["row"] 3 4 1 2 rfl rfl rfl F hm hb sc_difference_signs_n (m:=m_difference_signs_n) fun cdv A outer s H E hr=>(ss_cons (ss_expr (se_fnN d_need_row_n (hr.mono (by decide)) (by unfold Gl; kernel_rfl) (sa_cons (se_var 0 (by kernel_rfl) (Or.inl (by kernel_rfl))) sa_nil) (alen_cons alen_nil))) (ss_cons (ss_if (st_cmp (xo_eqP hr) (se_var 0 (by kernel_rfl) (Or.inl (by kernel_rfl))) (se_tup sa_nil)) (ss_one (ss_ret (se_tup sa_nil))) ss_nil) (ss_cons (ss_set sc_difference_signs_n.nd (by kernel_rfl) (Or.inl (by kernel_rfl)) (se_ix xi_ix (se_ix xi_ix (se_fnN d_difference_steps (hr.mono (by decide)) (by unfold Gl; kernel_rfl) (sa_cons (se_var 0 (by kernel_rfl) (Or.inl (by kernel_rfl))) sa_nil) (alen_cons alen_nil)) (se_un xu_neg se_int)) se_int)) (ss_one (ss_ret (se_ix xi_ix (se_var 1 (by kernel_rfl) (Or.inl (by kernel_rfl))) se_int))))))
theorem sc_differences_n:FnScope ["row"] ["row"] (defScope st_differences_n):=⟨by kernel_rfl,by kernel_rfl,by kernel_rfl,by decide +kernel,rfl,by decide +kernel,by decide +kernel⟩
theorem ok_differences_n {f:Addr} {fd:FuncData} (F:Fun K "differences" "differences" st_differences_n f fd) (hm:mg "differences" = some (.ref f)) (hb:Binds K fd ["row"] []) (T:Txt K mg) (d_difference_steps:DefN P w K mg base "difference_steps" 2 1 F_difference_steps) (d_need_row_n:DefN P w K mg base "need_row" 3 1 F_need_row_n):DefN P w K mg base "differences" 4 1 F_differences_n:=
 def_ofN ["row"] ["row"] 3 4 1 1 rfl rfl rfl F hm hb sc_differences_n (m:=m_differences_n) fun cdv A outer s H E hr=>(ss_cons (ss_expr (se_fnN d_need_row_n (hr.mono (by decide)) (by unfold Gl; kernel_rfl) (sa_cons (se_var 0 (by kernel_rfl) (Or.inl (by kernel_rfl))) sa_nil) (alen_cons alen_nil))) (ss_one (ss_ret (se_compR (qb:=false) (N:=["held"]) (k:=1) (caps:=[]) (.inl rfl) (fun _ _ z=>z) (cs_mk (by kernel_rfl) (by kernel_rfl) (by kernel_rfl) (by kernel_rfl) rfl (by kernel_rfl)) (si_frz (se_fnN d_difference_steps (hr.mono (by decide)) (by unfold Gl; kernel_rfl) (sa_cons (se_var 0 (by kernel_rfl) (Or.inl (by kernel_rfl))) sa_nil) (alen_cons alen_nil))) (fun _ _ _ _ _=>(sg_name (show (["held"]:List Str).Nodup by decide +kernel) (by kernel_rfl) (Or.inl (by kernel_rfl)))) (fun _ _ _ _ _=>sif_nil) (fun _ _ _ _ _=>(se_callTy xc_tuple (by unfold Gl; kernel_rfl) T.b_tuple boo_tuple (sa_cons (se_comp (N:=["number","parts"]) (k:=2) (caps:=[]) rfl (fun _ _ z=>z) (cs_mk (by kernel_rfl) (by kernel_rfl) (by kernel_rfl) (by kernel_rfl) rfl (by kernel_rfl)) (si_seq (se_var 0 (by kernel_rfl) (Or.inl (by kernel_rfl)))) (fun _ _ _ _=>(sg_tup rfl (sgs_cons (sg_name (show (["number","parts"]:List Str).Nodup by decide +kernel) (by kernel_rfl) (Or.inl (by kernel_rfl))) (sgs_cons (sg_name (show (["number","parts"]:List Str).Nodup by decide +kernel) (by kernel_rfl) (Or.inl (by kernel_rfl))) sgs_nil)))) (fun _ _ _ _=>sif_nil) (fun _ _ _ _=>(se_var 0 (by kernel_rfl) (Or.inl (by kernel_rfl))))) sa_nil)))))))
theorem sc_law:FnScope ["script","k","row","due","lap","signs","found"] ["script"] (defScope st_law):=⟨by kernel_rfl,by kernel_rfl,by kernel_rfl,by decide +kernel,rfl,by decide +kernel,by decide +kernel⟩
end
/-! what the top has written -/
theorem cls_mk {K:PySem.W.Frag}
  (gt:PySem.W.specialIn K (.builtin "object.__class__") "__get__" = some (some (.builtin "getset_descriptor.__get__")))
  (tk:PySem.W.takesIn K (.builtin "object.__class__")=some true):Cls K raisedX askedX isaX:=
 ⟨gt,tk,fun c hc=>by simp [raisedX] at hc,
  fun c hc k hk=>by simp [raisedX,askedX] at hc hk⟩
theorem us1 {p:List Value → Prop} (h:∀ a,p [a]) (us:List Value) (e:us.length=1):p us:=by
 rcases us with _ | ⟨a,_ | ⟨b,r⟩⟩
 · simp at e
 · exact h a
 · simp at e
theorem us2 {p:List Value → Prop} (h:∀ a b,p [a,b]) (us:List Value) (e:us.length=2):p us:=by
 rcases us with _ | ⟨a,_ | ⟨b,_ | ⟨c,r⟩⟩⟩
 · simp at e
 · simp at e
 · exact h a b
 · simp at e
theorem us3 {p:List Value → Prop} (h:∀ a b c,p [a,b,c]) (us:List Value) (e:us.length=3):p us:=by
 rcases us with _ | ⟨a,_ | ⟨b,_ | ⟨c,_ | ⟨d,r⟩⟩⟩⟩
 · simp at e
 · simp at e
 · simp at e
 · exact h a b c
 · simp at e
theorem all_mk {P:Program} {w:World} {K:PySem.W.Frag} {h:Heap} {mg:Str→Option Value} {fa:Addr} (X:K.In h) (G:h.Ns mainGlobals mg) (hfa:mg "law" = some (.ref fa))  {f0:Addr} {od0 an0:Option Addr} {sl0:Array (Option Value)} {oc0 kV0 dc0 pm0 cd0 ct0:Value} {f1:Addr} {od1 an1:Option Addr} {sl1:Array (Option Value)} {oc1 kV1 dc1 pm1 cd1 ct1:Value} {f2:Addr} {od2 an2:Option Addr} {sl2:Array (Option Value)} {oc2 kV2 dc2 pm2 cd2 ct2:Value} {f3:Addr} {od3 an3:Option Addr} {sl3:Array (Option Value)} {oc3 kV3 dc3 pm3 cd3 ct3:Value} {f4:Addr} {od4 an4:Option Addr} {sl4:Array (Option Value)} {oc4 kV4 dc4 pm4 cd4 ct4:Value} {f5:Addr} {od5 an5:Option Addr} {sl5:Array (Option Value)} {oc5 kV5 dc5 pm5 cd5 ct5:Value} {f6:Addr} {od6 an6:Option Addr} {sl6:Array (Option Value)} {oc6 kV6 dc6 pm6 cd6 ct6:Value} {f7:Addr} {od7 an7:Option Addr} {sl7:Array (Option Value)} {oc7 kV7 dc7 pm7 cd7 ct7:Value} {f8:Addr} {od8 an8:Option Addr} {sl8:Array (Option Value)} {oc8 kV8 dc8 pm8 cd8 ct8:Value} {f9:Addr} {od9 an9:Option Addr} {sl9:Array (Option Value)} {oc9 kV9 dc9 pm9 cd9 ct9:Value} {f10:Addr} {od10 an10:Option Addr} {sl10:Array (Option Value)} {oc10 kV10 dc10 pm10 cd10 ct10:Value} {f11:Addr} {od11 an11:Option Addr} {sl11:Array (Option Value)} {oc11 kV11 dc11 pm11 cd11 ct11:Value} {f12:Addr} {od12 an12:Option Addr} {sl12:Array (Option Value)} {oc12 kV12 dc12 pm12 cd12 ct12:Value} {f13:Addr} {od13 an13:Option Addr} {sl13:Array (Option Value)} {oc13 kV13 dc13 pm13 cd13 ct13:Value} {f14:Addr} {od14 an14:Option Addr} {sl14:Array (Option Value)} {oc14 kV14 dc14 pm14 cd14 ct14:Value} {f15:Addr} {od15 an15:Option Addr} {sl15:Array (Option Value)} {oc15 kV15 dc15 pm15 cd15 ct15:Value} {f16:Addr} {od16 an16:Option Addr} {sl16:Array (Option Value)} {oc16 kV16 dc16 pm16 cd16 ct16:Value} {f17:Addr} {od17 an17:Option Addr} {sl17:Array (Option Value)} {oc17 kV17 dc17 pm17 cd17 ct17:Value} {t_LONGEST_ROW:Tok}
  (a0:PySem.W.nsIn K mainGlobals "_law_whole" = some (some (.ref f0))) (l0:K.lookup f0=some ⟨oc0,od0,.func (PySem.W.fnOf "_law_whole" "_law_whole" (defArgs st__law_whole) (defBody st__law_whole) (defScope st__law_whole) .none kV0 dc0 pm0 an0 cd0 ct0),sl0⟩) (c0:PySem.W.codeIn K cd0 "_law_whole" = true) (k0:PySem.W.keepIn K (.ref f0)=true)
  (a1:PySem.W.nsIn K mainGlobals "_law_are" = some (some (.ref f1))) (l1:K.lookup f1=some ⟨oc1,od1,.func (PySem.W.fnOf "_law_are" "_law_are" (defArgs st__law_are) (defBody st__law_are) (defScope st__law_are) .none kV1 dc1 pm1 an1 cd1 ct1),sl1⟩) (c1:PySem.W.codeIn K cd1 "_law_are" = true) (k1:PySem.W.keepIn K (.ref f1)=true)
  (a2:PySem.W.nsIn K mainGlobals "_law_cell" = some (some (.ref f2))) (l2:K.lookup f2=some ⟨oc2,od2,.func (PySem.W.fnOf "_law_cell" "_law_cell" (defArgs st__law_cell) (defBody st__law_cell) (defScope st__law_cell) .none kV2 dc2 pm2 an2 cd2 ct2),sl2⟩) (c2:PySem.W.codeIn K cd2 "_law_cell" = true) (k2:PySem.W.keepIn K (.ref f2)=true)
  (a3:PySem.W.nsIn K mainGlobals "_law_mix" = some (some (.ref f3))) (l3:K.lookup f3=some ⟨oc3,od3,.func (PySem.W.fnOf "_law_mix" "_law_mix" (defArgs st__law_mix) (defBody st__law_mix) (defScope st__law_mix) .none kV3 dc3 pm3 an3 cd3 ct3),sl3⟩) (c3:PySem.W.codeIn K cd3 "_law_mix" = true) (k3:PySem.W.keepIn K (.ref f3)=true)
  (a4:PySem.W.nsIn K mainGlobals "_law_box" = some (some (.ref f4))) (l4:K.lookup f4=some ⟨oc4,od4,.func (PySem.W.fnOf "_law_box" "_law_box" (defArgs st__law_box) (defBody st__law_box) (defScope st__law_box) .none kV4 dc4 pm4 an4 cd4 ct4),sl4⟩) (c4:PySem.W.codeIn K cd4 "_law_box" = true) (k4:PySem.W.keepIn K (.ref f4)=true)
  (a5:PySem.W.nsIn K mainGlobals "_law_due" = some (some (.ref f5))) (l5:K.lookup f5=some ⟨oc5,od5,.func (PySem.W.fnOf "_law_due" "_law_due" (defArgs st__law_due) (defBody st__law_due) (defScope st__law_due) .none kV5 dc5 pm5 an5 cd5 ct5),sl5⟩) (c5:PySem.W.codeIn K cd5 "_law_due" = true) (k5:PySem.W.keepIn K (.ref f5)=true)
  (a6:PySem.W.nsIn K mainGlobals "_law_take" = some (some (.ref f6))) (l6:K.lookup f6=some ⟨oc6,od6,.func (PySem.W.fnOf "_law_take" "_law_take" (defArgs st__law_take) (defBody st__law_take) (defScope st__law_take) .none kV6 dc6 pm6 an6 cd6 ct6),sl6⟩) (c6:PySem.W.codeIn K cd6 "_law_take" = true) (k6:PySem.W.keepIn K (.ref f6)=true)
  (a7:PySem.W.nsIn K mainGlobals "_law_row" = some (some (.ref f7))) (l7:K.lookup f7=some ⟨oc7,od7,.func (PySem.W.fnOf "_law_row" "_law_row" (defArgs st__law_row) (defBody st__law_row) (defScope st__law_row) .none kV7 dc7 pm7 an7 cd7 ct7),sl7⟩) (c7:PySem.W.codeIn K cd7 "_law_row" = true) (k7:PySem.W.keepIn K (.ref f7)=true)
  (a8:PySem.W.nsIn K mainGlobals "_law_worth" = some (some (.ref f8))) (l8:K.lookup f8=some ⟨oc8,od8,.func (PySem.W.fnOf "_law_worth" "_law_worth" (defArgs st__law_worth) (defBody st__law_worth) (defScope st__law_worth) .none kV8 dc8 pm8 an8 cd8 ct8),sl8⟩) (c8:PySem.W.codeIn K cd8 "_law_worth" = true) (k8:PySem.W.keepIn K (.ref f8)=true)
  (a9:PySem.W.nsIn K mainGlobals "difference" = some (some (.ref f9))) (l9:K.lookup f9=some ⟨oc9,od9,.func (PySem.W.fnOf "difference" "difference" (defArgs st_difference) (defBody st_difference) (defScope st_difference) .none kV9 dc9 pm9 an9 cd9 ct9),sl9⟩) (c9:PySem.W.codeIn K cd9 "difference" = true) (k9:PySem.W.keepIn K (.ref f9)=true)
  (a10:PySem.W.nsIn K mainGlobals "parts_of_one" = some (some (.ref f10))) (l10:K.lookup f10=some ⟨oc10,od10,.func (PySem.W.fnOf "parts_of_one" "parts_of_one" (defArgs st_parts_of_one) (defBody st_parts_of_one) (defScope st_parts_of_one) .none kV10 dc10 pm10 an10 cd10 ct10),sl10⟩) (c10:PySem.W.codeIn K cd10 "parts_of_one" = true) (k10:PySem.W.keepIn K (.ref f10)=true)
  (a11:PySem.W.nsIn K mainGlobals "difference_steps" = some (some (.ref f11))) (l11:K.lookup f11=some ⟨oc11,od11,.func (PySem.W.fnOf "difference_steps" "difference_steps" (defArgs st_difference_steps) (defBody st_difference_steps) (defScope st_difference_steps) .none kV11 dc11 pm11 an11 cd11 ct11),sl11⟩) (c11:PySem.W.codeIn K cd11 "difference_steps" = true) (k11:PySem.W.keepIn K (.ref f11)=true)
  (a12:PySem.W.nsIn K mainGlobals "is_whole" = some (some (.ref f12))) (l12:K.lookup f12=some ⟨oc12,od12,.func (PySem.W.fnOf "is_whole" "is_whole" (defArgs st_is_whole) (defBody st_is_whole) (defScope st_is_whole) .none kV12 dc12 pm12 an12 cd12 ct12),sl12⟩) (c12:PySem.W.codeIn K cd12 "is_whole" = true) (k12:PySem.W.keepIn K (.ref f12)=true)
  (a13:PySem.W.nsIn K mainGlobals "is_row" = some (some (.ref f13))) (l13:K.lookup f13=some ⟨oc13,od13,.func (PySem.W.fnOf "is_row" "is_row" (defArgs st_is_row) (defBody st_is_row) (defScope st_is_row) .none kV13 dc13 pm13 an13 cd13 ct13),sl13⟩) (c13:PySem.W.codeIn K cd13 "is_row" = true) (k13:PySem.W.keepIn K (.ref f13)=true)
  (a14:PySem.W.nsIn K mainGlobals "need_row" = some (some (.ref f14))) (l14:K.lookup f14=some ⟨oc14,od14,.func (PySem.W.fnOf "need_row" "need_row" (defArgs st_need_row_n) (defBody st_need_row_n) (defScope st_need_row_n) .none kV14 dc14 pm14 an14 cd14 ct14),sl14⟩) (c14:PySem.W.codeIn K cd14 "need_row" = true) (k14:PySem.W.keepIn K (.ref f14)=true)
  (a15:PySem.W.nsIn K mainGlobals "difference_signs" = some (some (.ref f15))) (l15:K.lookup f15=some ⟨oc15,od15,.func (PySem.W.fnOf "difference_signs" "difference_signs" (defArgs st_difference_signs_n) (defBody st_difference_signs_n) (defScope st_difference_signs_n) .none kV15 dc15 pm15 an15 cd15 ct15),sl15⟩) (c15:PySem.W.codeIn K cd15 "difference_signs" = true) (k15:PySem.W.keepIn K (.ref f15)=true)
  (a16:PySem.W.nsIn K mainGlobals "differences" = some (some (.ref f16))) (l16:K.lookup f16=some ⟨oc16,od16,.func (PySem.W.fnOf "differences" "differences" (defArgs st_differences_n) (defBody st_differences_n) (defScope st_differences_n) .none kV16 dc16 pm16 an16 cd16 ct16),sl16⟩) (c16:PySem.W.codeIn K cd16 "differences" = true) (k16:PySem.W.keepIn K (.ref f16)=true)
  (a17:PySem.W.nsIn K mainGlobals "law" = some (some (.ref f17))) (l17:K.lookup f17=some ⟨oc17,od17,.func (PySem.W.fnOf "law" "law" (defArgs st_law) (defBody st_law) (defScope st_law) .none kV17 dc17 pm17 an17 cd17 ct17),sl17⟩) (c17:PySem.W.codeIn K cd17 "law" = true) (k17:PySem.W.keepIn K (.ref f17)=true)
  (z_abs:PySem.W.nsIn K mainGlobals "abs" = some none)
  (z_all:PySem.W.nsIn K mainGlobals "all" = some none)
  (z_bool:PySem.W.nsIn K mainGlobals "bool" = some none)
  (z_divmod:PySem.W.nsIn K mainGlobals "divmod" = some none)
  (z_enumerate:PySem.W.nsIn K mainGlobals "enumerate" = some none)
  (z_int:PySem.W.nsIn K mainGlobals "int" = some none)
  (z_isinstance:PySem.W.nsIn K mainGlobals "isinstance" = some none)
  (z_len:PySem.W.nsIn K mainGlobals "len" = some none)
  (z_max:PySem.W.nsIn K mainGlobals "max" = some none)
  (z_min:PySem.W.nsIn K mainGlobals "min" = some none)
  (z_range:PySem.W.nsIn K mainGlobals "range" = some none)
  (z_repr:PySem.W.nsIn K mainGlobals "repr" = some none)
  (z_sorted:PySem.W.nsIn K mainGlobals "sorted" = some none)
  (z_tuple:PySem.W.nsIn K mainGlobals "tuple" = some none)
  (z_zip:PySem.W.nsIn K mainGlobals "zip" = some none)
  (z_LONGEST_ROW:PySem.W.nsIn K mainGlobals "LONGEST_ROW" = some (some (.int 16 t_LONGEST_ROW)))
  (gt:PySem.W.specialIn K (.builtin "object.__class__") "__get__" = some (some (.builtin "getset_descriptor.__get__")))
  (tk:PySem.W.takesIn K (.builtin "object.__class__")=some true):
  ∃ fd:FuncData,(∀ (s:Shared) (v:Value),BindsTo s fd ⟨[v],[]⟩ [("script",v)])∧∀ base:Heap,K.In base→base.Ns mainGlobals mg→FnOk P w K mg base (CX1 P w) 5 fa fd ["script"] (spN K 1 F_law):=by
 have e:=hfa.symm.trans (PySem.W.mg_of X G a17)
 cases e
 have T:Txt K mg:=⟨cls_mk gt tk,PySem.W.mg_none_of X G z_abs,PySem.W.mg_none_of X G z_all,PySem.W.mg_none_of X G z_bool,PySem.W.mg_none_of X G z_divmod,PySem.W.mg_none_of X G z_enumerate,PySem.W.mg_none_of X G z_int,PySem.W.mg_none_of X G z_isinstance,PySem.W.mg_none_of X G z_len,PySem.W.mg_none_of X G z_max,PySem.W.mg_none_of X G z_min,PySem.W.mg_none_of X G z_range,PySem.W.mg_none_of X G z_repr,PySem.W.mg_none_of X G z_sorted,PySem.W.mg_none_of X G z_tuple,PySem.W.mg_none_of X G z_zip,⟨_,PySem.W.mg_of X G z_LONGEST_ROW⟩⟩
 have F0:=fun_mk (st:=st__law_whole) l0 c0 k0
 have b0:=F0.binds (ps:=["thing"]) fun _ _ _ _ _ _=>us1 fun _=>rfl
 have F1:=fun_mk (st:=st__law_are) l1 c1 k1
 have b1:=F1.binds (ps:=["thing","row","kinds"]) fun _ _ _ _ _ _=>us3 fun _ _ _=>rfl
 have F2:=fun_mk (st:=st__law_cell) l2 c2 k2
 have b2:=F2.binds (ps:=["script","k"]) fun _ _ _ _ _ _=>us2 fun _ _=>rfl
 have F3:=fun_mk (st:=st__law_mix) l3 c3 k3
 have b3:=F3.binds (ps:=["cell","k"]) fun _ _ _ _ _ _=>us2 fun _ _=>rfl
 have F4:=fun_mk (st:=st__law_box) l4 c4 k4
 have b4:=F4.binds (ps:=["script","k"]) fun _ _ _ _ _ _=>us2 fun _ _=>rfl
 have F5:=fun_mk (st:=st__law_due) l5 c5 k5
 have b5:=F5.binds (ps:=["row"]) fun _ _ _ _ _ _=>us1 fun _=>rfl
 have F6:=fun_mk (st:=st__law_take) l6 c6 k6
 have b6:=F6.binds (ps:=["box","many"]) fun _ _ _ _ _ _=>us2 fun _ _=>rfl
 have F7:=fun_mk (st:=st__law_row) l7 c7 k7
 have b7:=F7.binds (ps:=["box","most"]) fun _ _ _ _ _ _=>us2 fun _ _=>rfl
 have F8:=fun_mk (st:=st__law_worth) l8 c8 k8
 have b8:=F8.binds (ps:=["row","parts"]) fun _ _ _ _ _ _=>us2 fun _ _=>rfl
 have F9:=fun_mk (st:=st_difference) l9 c9 k9
 have b9:=F9.binds (ps:=["greater","lesser"]) fun _ _ _ _ _ _=>us2 fun _ _=>rfl
 have F10:=fun_mk (st:=st_parts_of_one) l10 c10 k10
 have b10:=F10.binds (ps:=["place","row"]) fun _ _ _ _ _ _=>us2 fun _ _=>rfl
 have F11:=fun_mk (st:=st_difference_steps) l11 c11 k11
 have b11:=F11.binds (ps:=["row"]) fun _ _ _ _ _ _=>us1 fun _=>rfl
 have F12:=fun_mk (st:=st_is_whole) l12 c12 k12
 have b12:=F12.binds (ps:=["thing"]) fun _ _ _ _ _ _=>us1 fun _=>rfl
 have F13:=fun_mk (st:=st_is_row) l13 c13 k13
 have b13:=F13.binds (ps:=["thing"]) fun _ _ _ _ _ _=>us1 fun _=>rfl
 have F14:=fun_mk (st:=st_need_row_n) l14 c14 k14
 have b14:=F14.binds (ps:=["thing"]) fun _ _ _ _ _ _=>us1 fun _=>rfl
 have F15:=fun_mk (st:=st_difference_signs_n) l15 c15 k15
 have b15:=F15.binds (ps:=["row"]) fun _ _ _ _ _ _=>us1 fun _=>rfl
 have F16:=fun_mk (st:=st_differences_n) l16 c16 k16
 have b16:=F16.binds (ps:=["row"]) fun _ _ _ _ _ _=>us1 fun _=>rfl
 have F17:=fun_mk (st:=st_law) l17 c17 k17
 have b17:=F17.binds (ps:=["script"]) fun _ _ _ _ _ _=>us1 fun _=>rfl
 refine ⟨PySem.W.fnOf "law" "law" (defArgs st_law) (defBody st_law) (defScope st_law) .none kV17 dc17 pm17 an17 cd17 ct17,fun s v=>.of_eq rfl,fun base _ _=>?_⟩
 have d__law_whole:DefN P w K mg base "_law_whole" 1 1 F__law_whole:=ok__law_whole F0 (PySem.W.mg_of X G a0) b0 T
 have d__law_are:DefN P w K mg base "_law_are" 2 3 F__law_are:=ok__law_are F1 (PySem.W.mg_of X G a1) b1 T d__law_whole
 have d__law_cell:DefN P w K mg base "_law_cell" 1 2 F__law_cell:=ok__law_cell F2 (PySem.W.mg_of X G a2) b2 T
 have d__law_mix:DefN P w K mg base "_law_mix" 1 2 F__law_mix:=ok__law_mix F3 (PySem.W.mg_of X G a3) b3 T
 have d__law_box:DefN P w K mg base "_law_box" 2 2 F__law_box:=ok__law_box F4 (PySem.W.mg_of X G a4) b4 T d__law_cell d__law_mix
 have d__law_due:DefN P w K mg base "_law_due" 1 1 F__law_due:=ok__law_due F5 (PySem.W.mg_of X G a5) b5 T
 have d__law_take:DefN P w K mg base "_law_take" 1 2 F__law_take:=ok__law_take F6 (PySem.W.mg_of X G a6) b6 T
 have d__law_row:DefN P w K mg base "_law_row" 2 2 F__law_row:=ok__law_row F7 (PySem.W.mg_of X G a7) b7 T d__law_take
 have d__law_worth:DefN P w K mg base "_law_worth" 1 2 F__law_worth:=ok__law_worth F8 (PySem.W.mg_of X G a8) b8 T
 have d_difference:DefN P w K mg base "difference" 1 2 F_difference:=ok_difference F9 (PySem.W.mg_of X G a9) b9 T
 have d_parts_of_one:DefN P w K mg base "parts_of_one" 1 2 F_parts_of_one:=ok_parts_of_one F10 (PySem.W.mg_of X G a10) b10 T
 have d_difference_steps:DefN P w K mg base "difference_steps" 2 1 F_difference_steps:=ok_difference_steps F11 (PySem.W.mg_of X G a11) b11 T d_difference d_parts_of_one
 have d_is_whole:DefN P w K mg base "is_whole" 1 1 F_is_whole:=ok_is_whole F12 (PySem.W.mg_of X G a12) b12 T
 have d_is_row:DefN P w K mg base "is_row" 2 1 F_is_row:=ok_is_row F13 (PySem.W.mg_of X G a13) b13 T d_is_whole
 have d_need_row_n:DefN P w K mg base "need_row" 3 1 F_need_row_n:=ok_need_row_n F14 (PySem.W.mg_of X G a14) b14 T d_is_row
 have d_difference_signs_n:DefN P w K mg base "difference_signs" 4 1 F_difference_signs_n:=ok_difference_signs_n F15 (PySem.W.mg_of X G a15) b15 T d_difference_steps d_need_row_n
 have d_differences_n:DefN P w K mg base "differences" 4 1 F_differences_n:=ok_differences_n F16 (PySem.W.mg_of X G a16) b16 T d_difference_steps d_need_row_n
 exact law_ofN ["script","k","row","due","lap","signs","found"] ["script"] 4 5 1 7 rfl rfl rfl (m:=m_law) F17 sc_law fun cdv A outer s H E hr=>(ss_cons (ss_for PassesOwn.never rfl (si_range1 (by unfold Gl; kernel_rfl) T.b_range (sa_cons (se_callB (xc_max rfl) (by unfold Gl; kernel_rfl) T.b_max boo_max (sa_cons se_int (sa_cons (se_callB (xc_min rfl) (by unfold Gl; kernel_rfl) T.b_min boo_min (sa_cons (se_callB xc_len (by unfold Gl; kernel_rfl) T.b_len boo_len (sa_cons (se_var 0 (by kernel_rfl) (Or.inl (by kernel_rfl))) sa_nil)) (sa_cons se_int sa_nil))) sa_nil))) sa_nil)) (sg_name sc_law.nd (by kernel_rfl) (Or.inl (by kernel_rfl))) (ss_cons (ss_set sc_law.nd (by kernel_rfl) (Or.inl (by kernel_rfl)) (se_fnN d__law_row (hr.mono (by decide)) (by unfold Gl; kernel_rfl) (sa_cons (se_fnN d__law_box (hr.mono (by decide)) (by unfold Gl; kernel_rfl) (sa_cons (se_var 0 (by kernel_rfl) (Or.inl (by kernel_rfl))) (sa_cons (se_var 1 (by kernel_rfl) (Or.inl (by kernel_rfl))) sa_nil)) (alen_cons (alen_cons alen_nil))) (sa_cons se_int sa_nil)) (alen_cons (alen_cons alen_nil)))) (ss_cons (ss_set sc_law.nd (by kernel_rfl) (Or.inl (by kernel_rfl)) (se_fnN d__law_due (hr.mono (by decide)) (by unfold Gl; kernel_rfl) (sa_cons (se_var 2 (by kernel_rfl) (Or.inl (by kernel_rfl))) sa_nil) (alen_cons alen_nil))) (ss_cons (ss_for PassesOwn.never rfl (si_range1 (by unfold Gl; kernel_rfl) T.b_range (sa_cons se_int sa_nil)) (sg_name sc_law.nd (by kernel_rfl) (Or.inl (by kernel_rfl))) (ss_cons (ss_set sc_law.nd (by kernel_rfl) (Or.inl (by kernel_rfl)) (se_fnN d_differences_n (hr.mono (by decide)) (by unfold Gl; kernel_rfl) (sa_cons (se_var 2 (by kernel_rfl) (Or.inl (by kernel_rfl))) sa_nil) (alen_cons alen_nil))) (ss_cons (ss_if (st_cmp (xo_neP hr) (se_callB (xc_reprS hr) (by unfold Gl; kernel_rfl) T.b_repr boo_repr (sa_cons (se_var 6 (by kernel_rfl) (Or.inl (by kernel_rfl))) sa_nil)) (se_callB (xc_reprS hr) (by unfold Gl; kernel_rfl) T.b_repr boo_repr (sa_cons (se_var 3 (by kernel_rfl) (Or.inl (by kernel_rfl))) sa_nil))) (ss_one (ss_ret se_bl)) ss_nil) (ss_one (ss_expr (se_mtL PySem.F.plainAttrs_list PySem.F.slot_list_append PySem.F.type_list_append xm_append (se_var 6 (by kernel_rfl) (Or.inl (by kernel_rfl))) (sa_cons (se_tup sa_nil) sa_nil))))))) (ss_cons (ss_set sc_law.nd (by kernel_rfl) (Or.inl (by kernel_rfl)) (se_fnN d_difference_signs_n (hr.mono (by decide)) (by unfold Gl; kernel_rfl) (sa_cons (se_var 2 (by kernel_rfl) (Or.inl (by kernel_rfl))) sa_nil) (alen_cons alen_nil))) (ss_cons (ss_if (sw_st (sw_or (st_not (st_val (se_fnN d__law_are (hr.mono (by decide)) (by unfold Gl; kernel_rfl) (sa_cons (se_var 5 (by kernel_rfl) (Or.inl (by kernel_rfl))) (sa_cons (se_var 2 (by kernel_rfl) (Or.inl (by kernel_rfl))) (sa_cons (se_tup (sa_cons (se_un xu_neg se_int) (sa_cons se_int sa_nil))) sa_nil))) (alen_cons (alen_cons (alen_cons alen_nil)))))) (sw_or1 (st_cmp (xo_neP hr) (se_fnN d_difference_signs_n (hr.mono (by decide)) (by unfold Gl; kernel_rfl) (sa_cons (se_var 2 (by kernel_rfl) (Or.inl (by kernel_rfl))) sa_nil) (alen_cons alen_nil)) (se_var 5 (by kernel_rfl) (Or.inl (by kernel_rfl))))))) (ss_one (ss_ret se_bl)) ss_nil) (ss_one (ss_if (st_cmp (xo_neP hr) (se_fnN d__law_worth (hr.mono (by decide)) (by unfold Gl; kernel_rfl) (sa_cons (se_var 2 (by kernel_rfl) (Or.inl (by kernel_rfl))) (sa_cons (se_var 5 (by kernel_rfl) (Or.inl (by kernel_rfl))) sa_nil)) (alen_cons (alen_cons alen_nil))) (se_ix xi_ix (se_op xo_add (se_ix xi_ix (se_var 3 (by kernel_rfl) (Or.inl (by kernel_rfl))) (se_un xu_neg se_int)) (se_tup (sa_cons se_int sa_nil))) se_int)) (ss_one (ss_ret se_bl)) ss_nil)))))))) (ss_one (ss_ret se_bl)))
theorem walk {l:PySem.W.OpenLaw} {q:Program} {loose:List Str} {XP:(Str→Option Value)→Heap→Prop} {YP:World→Heap→Prop} {d:DefRec} {K:Params→PySem.W.Frag} (hn:l.most=some 63) (hdf:d.params.defaults=[])
  (hY:∀ (w:World) (h:Heap),YP w h→(K w.params).In h)
  (F:∀ (w:World) (mg:Str→Option Value) (fa:Addr) (h:Heap),(K w.params).In h→h.Ns mainGlobals mg→mg d.name=some (.ref fa)→
   ∃ fd:FuncData,(∀ (s:Shared) (u:Value),BindsTo s fd ⟨[u],[]⟩ [("script",u)])∧∀ base:Heap,(K w.params).In base→base.Ns mainGlobals mg→FnOk l.prog w (K w.params) mg base (CX1 l.prog w) 5 fa fd ["script"] (spN (K w.params) 1 F_law)):
  PySem.W.WalkO q loose XP YP l.row.toRowW d [] (fun f vs=>PySem.call f vs):=
 L2.walk_of (n:=63) (k:=5) (x:="script") (CX:=fun w=>CX1 l.prog w) (sp:=fun w=>spN (K w.params) 1 F_law) hn (by decide) hdf ⟨rfl,by decide,by decide,rfl⟩ hY F (fun w H a ns hl ho hS=>law_spN law_true (K w.params) H a ns hl ho hS) fun _ _ _ _ _ z=>cx1_no z
end Lw
open PySem PySem.W PyProof.Rows
set_option maxRecDepth 100000 in
set_option maxHeartbeats 0 in
theorem PySem.Challenge.cw_plusless_k25_differences_holds : PySem.Challenge.rw_plusless_k25_differences.Holds := by
  w_on; o_law
  refine holds_open (q := Lw.hV) (loose := []) (Xt := Lw.hX) (XP := XL Lw.hV []) (Yf := Hook.obs (kHook Lw.hK Lw.hA Lw.hKA)) (Ya := Hook.val (kHook Lw.hK Lw.hA Lw.hKA)) (YP := Hook.says (kHook Lw.hK Lw.hA Lw.hKA)) (N := 2088) Lw.left (Hook.of (kHook Lw.hK Lw.hA Lw.hKA)) (Hook.keeps (kHook Lw.hK Lw.hA Lw.hKA)) (fun s e => xl_of s (Bool.and_eq_true_iff.mp e).1) XL.keeps (by rfl) (by rfl) (by rfl) (fun s e => recFacts_of (Bool.and_eq_true_iff.mp e).2) (by rfl) (by first | assumption | decide +kernel) (by decide +kernel) ⟨rfl, rfl, rfl, rfl, rfl, by decide +kernel⟩ ?hw ?hc
  case hw => w_witness2
  k_fill
  refine Lw.walk (l := PySem.Challenge.rw_plusless_k25_differences) rfl rfl (fun w h Y => by first | exact PySem.W.kIn_of Y | exact Y.1) ?F
  case F =>
    intro w mg fa h KX G hmg
    refine' Lw.all_mk KX G hmg ?a0 ?l0 ?c0 ?k0 ?a1 ?l1 ?c1 ?k1 ?a2 ?l2 ?c2 ?k2 ?a3 ?l3 ?c3 ?k3 ?a4 ?l4 ?c4 ?k4 ?a5 ?l5 ?c5 ?k5 ?a6 ?l6 ?c6 ?k6 ?a7 ?l7 ?c7 ?k7 ?a8 ?l8 ?c8 ?k8 ?a9 ?l9 ?c9 ?k9 ?a10 ?l10 ?c10 ?k10 ?a11 ?l11 ?c11 ?k11 ?a12 ?l12 ?c12 ?k12 ?a13 ?l13 ?c13 ?k13 ?a14 ?l14 ?c14 ?k14 ?a15 ?l15 ?c15 ?k15 ?a16 ?l16 ?c16 ?k16 ?a17 ?l17 ?c17 ?k17 ?z_abs ?z_all ?z_bool ?z_divmod ?z_enumerate ?z_int ?z_isinstance ?z_len ?z_max ?z_min ?z_range ?z_repr ?z_sorted ?z_tuple ?z_zip ?z_LONGEST_ROW ?gt ?tk
    (case a0 => k_is)
    (case l0 => k_is)
    (case c0 => k_is)
    (case k0 => k_is)
    (case a1 => k_is)
    (case l1 => k_is)
    (case c1 => k_is)
    (case k1 => k_is)
    (case a2 => k_is)
    (case l2 => k_is)
    (case c2 => k_is)
    (case k2 => k_is)
    (case a3 => k_is)
    (case l3 => k_is)
    (case c3 => k_is)
    (case k3 => k_is)
    (case a4 => k_is)
    (case l4 => k_is)
    (case c4 => k_is)
    (case k4 => k_is)
    (case a5 => k_is)
    (case l5 => k_is)
    (case c5 => k_is)
    (case k5 => k_is)
    (case a6 => k_is)
    (case l6 => k_is)
    (case c6 => k_is)
    (case k6 => k_is)
    (case a7 => k_is)
    (case l7 => k_is)
    (case c7 => k_is)
    (case k7 => k_is)
    (case a8 => k_is)
    (case l8 => k_is)
    (case c8 => k_is)
    (case k8 => k_is)
    (case a9 => k_is)
    (case l9 => k_is)
    (case c9 => k_is)
    (case k9 => k_is)
    (case a10 => k_is)
    (case l10 => k_is)
    (case c10 => k_is)
    (case k10 => k_is)
    (case a11 => k_is)
    (case l11 => k_is)
    (case c11 => k_is)
    (case k11 => k_is)
    (case a12 => k_is)
    (case l12 => k_is)
    (case c12 => k_is)
    (case k12 => k_is)
    (case a13 => k_is)
    (case l13 => k_is)
    (case c13 => k_is)
    (case k13 => k_is)
    (case a14 => k_is)
    (case l14 => k_is)
    (case c14 => k_is)
    (case k14 => k_is)
    (case a15 => k_is)
    (case l15 => k_is)
    (case c15 => k_is)
    (case k15 => k_is)
    (case a16 => k_is)
    (case l16 => k_is)
    (case c16 => k_is)
    (case k16 => k_is)
    (case a17 => k_is)
    (case l17 => k_is)
    (case c17 => k_is)
    (case k17 => k_is)
    (case z_abs => k_is)
    (case z_all => k_is)
    (case z_bool => k_is)
    (case z_divmod => k_is)
    (case z_enumerate => k_is)
    (case z_int => k_is)
    (case z_isinstance => k_is)
    (case z_len => k_is)
    (case z_max => k_is)
    (case z_min => k_is)
    (case z_range => k_is)
    (case z_repr => k_is)
    (case z_sorted => k_is)
    (case z_tuple => k_is)
    (case z_zip => k_is)
    (case z_LONGEST_ROW => k_is)
    (case gt => k_is)
    (case tk => k_is)
