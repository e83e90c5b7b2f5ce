import PyProof.Rows.All
import Wide.All
import OpenK.AllK
import Wide.FinOn
import PyProof.EqAt
import PyProof.EqKinds
import PyProof.TupleCall
import PyProof.ZipIter
import PyProof.EnumMake
import PyProof.Draws
import PyProof.LayNew
import PyProof.Rows.SortShell
import PyProof.IsRules
import PyProof.ListIndex
import PyProof.Cells
import PyProof.CompUse
import PyProof.DictItems
import PyProof.DictItemsLoops
import PyProof.Rows.MinMaxN
import PyProof.Rows.Range3
import KE.KRevIter
import PyProof.DictWalks
import PyProof.NeKinds
import PyProof.DictList
import PyProof.DictUpdate
import PyProof.Rows.Tup
import PyProof.FactsAll.tuple_2
import PyProof.Rows.CallKwBuiltin
import KE.KDictSum
import KE.KSortTup
import KE.KRevSl
import KE.KUnpack
import PyProof.Rows.SetFrom
import Lean
import PySem.Challenge.RW_plusless_k11_layers_told
set_option Elab.async false
set_option linter.all false
set_option maxRecDepth 100000
set_option genSizeOf false
theorem Au.h2 (h:True:=by decide):True:=h
theorem Au.h5 (h:True:=by intro _; rfl):True:=h
theorem Au.h1 (h:True:=by rfl):True:=h
theorem Au.h8 (h:True:=by intro _ _ z; cases z):True:=h
theorem Au.h0 (h:True:=by kernel_rfl):True:=h
theorem Au.h3 (h:True:=by decide +kernel):True:=h
theorem Au.h9 (h:True:=by first | exact L2.nomark _ | kernel_rfl):True:=h
theorem Au.h4 (h:True:=by intro _; kernel_rfl):True:=h
theorem Au.h7 (h:True:=by first | left; rfl | right; kernel_rfl):True:=h
theorem ex5 {α β:Type} {a b c:α→β→Prop} {P:Prop} (z:∃ x y,a x y∧b x y∧c x y) (f:∀ x y,a x y→b x y→c x y→P):P:=by
 obtain ⟨x,y,u,v,w⟩:=z
 exact f x y u v w
namespace Lw
open PySem
noncomputable def top (i:Nat):Stmt:=PySem.Challenge.pw_plusless_k11_layers_told.main.body.getD i (.Pass ⟨0,0,0,0⟩)
noncomputable def hdI (s:Stmt) (j:Nat):Stmt:=match s with
 | .ClassDef _ _ _ body _ _ _ _ _ _ _=>body.getD j (.Pass ⟨0,0,0,0⟩)
 | _=>.Pass ⟨0,0,0,0⟩
noncomputable def hdA (s:Stmt):Arguments:=match s with
 | .FunctionDef _ a _ _ _ _ _ _ _ _=>a
 | _=>{posonlyargs:=[],args:=[],vararg:=none,kwonlyargs:=[],kw_defaults:=[],kwarg:=none,defaults:=[]}
noncomputable def hdB (s:Stmt):List Stmt:=match s with
 | .FunctionDef _ _ b _ _ _ _ _ _ _=>b
 | _=>[]
noncomputable def hdS (s:Stmt):Scope:=match s with
 | .FunctionDef _ _ _ _ _ _ sc _ _ _=>sc
 | _=>{kind:=.function,names:=[],isGenerator:=false,isCoroutine:=false}
noncomputable def hE (P:Params) (n:Str) (t:Tok) (v:Value):DictEntry:={hash:=PyData.keyHash P n,key:=.str n t,val:=v}
noncomputable def hF (n:Str) (i:Nat) (m:Str) (t:Tok) (c:Addr):Obj:={cls:=.type "function",data:=.func {name:=n,qualname:=n,params:=hdA (top i),body:=.stmts (hdB (top i)),scope:=hdS (top i),globals:=3,closure:=[],defaults:=.none,kwdefaults:=.none,pyModule:=.str m t,code:=.ref c}}
noncomputable def hC (n:Str) (t0 t1 t2:Tok) (a b c d e:Int) (r0:Value) (f:Int) (r1 r2 r3 r4 r5:Value) (g h:Int) (t3:Tok):Obj:={cls:=.type "code",data:=.fields #[.str n t0,.str n t1,.str "/claim/cut.py" t2,.int a 0,.int b 0,.int c 0,.int d 0,.int e 0,r0,.bool true,.int f 0,r1,r2,r3,r4,r5,.int g 0,.int h 0,.str "/claim/cut.py" t3]}
noncomputable def hK:Params→PySem.W.Frag:=fun P=>(nat_lit 2,{ cls:=.none,data:=.dict #[] })::
 (nat_lit 3,{ cls:=.type "dict",data:=.dict #[hE P "__name__" 165 (.str "law_plusless_k11_layers_told" 373),hE P "__doc__" 166 .none,hE P "__package__" 167 .none,hE P "__loader__" 168 (.builtin "__main__.__loader__#opaque"),hE P "__spec__" 169 .none,hE P "__annotations__" 170 (.ref 6),hE P "__builtins__" 171 (.ref 4),hE P "__file__" 173 (.str "/claim/cut.py" 172),hE P "__cached__" 174 .none,hE P "PlusError" 206 (.ref 24),hE P "NoRow" 222 (.ref 37),hE P "NoNumber" 238 (.ref 49),hE P "TooMany" 254 (.ref 61),hE P "LONGEST_ROW" 258 (.int 16 257),hE P "is_whole" 265 (.ref 70),hE P "is_row" 271 (.ref 75),hE P "need_row" 278 (.ref 82),hE P "need_number" 285 (.ref 89),hE P "need_row_and_number" 293 (.ref 96),hE P "LONGEST_TABLED" 297 (.int 10 296),hE P "SIGNS" 301 (.ref 97),hE P "PARTS" 306 (.ref 98),hE P "need_few" 313 (.ref 105),hE P "need_few_and_number" 321 (.ref 112),hE P "stepped" 335 (.ref 119),hE P "least_layers" 346 (.ref 126),hE P "least_without" 356 (.ref 133),hE P "layers_for" 364 (.ref 140),hE P "wide_layers_for" 372 (.ref 147),hE P "_law_cell" 382 (.ref 154),hE P "_law_mix" 392 (.ref 161),hE P "_law_box" 403 (.ref 168),hE P "_law_take" 413 (.ref 175),hE P "_law_row" 428 (.ref 182),hE P "_law_number" 439 (.ref 189),hE P "_law_layers" 445 (.ref 194),hE P "law" 462 (.ref 201)] 37 })::
 (nat_lit 69,hC "is_whole" 259 260 261 12 1 0 0 3 (.ref 64) 181 (.ref 65) .none (.ref 66) (.ref 67) (.ref 68) 263 12 264)::
 (nat_lit 70,hF "is_whole" 7 "plusless.rows" 255 69)::
 (nat_lit 74,hC "is_row" 266 267 268 14 1 0 0 3 (.ref 71) 181 (.ref 72) .none .none .none (.ref 73) 269 14 270)::
 (nat_lit 75,hF "is_row" 8 "plusless.rows" 255 74)::
 (nat_lit 81,hC "need_row" 272 273 274 18 1 0 0 3 (.ref 76) 181 (.ref 77) .none (.ref 78) (.ref 79) (.ref 80) 276 18 277)::
 (nat_lit 82,hF "need_row" 9 "plusless.rows" 255 81)::
 (nat_lit 88,hC "need_number" 279 280 281 21 1 0 0 3 (.ref 83) 181 (.ref 84) .none (.ref 85) (.ref 86) (.ref 87) 283 21 284)::
 (nat_lit 89,hF "need_number" 10 "plusless.rows" 255 88)::
 (nat_lit 95,hC "need_row_and_number" 286 287 288 24 2 0 0 3 (.ref 90) 181 (.ref 91) .none (.ref 92) (.ref 93) (.ref 94) 291 24 292)::
 (nat_lit 96,hF "need_row_and_number" 11 "plusless.rows" 255 95)::
 (nat_lit 97,{ cls:=.type "tuple",data:=.seq #[.int (-1) 299,.int 1 300] })::
 (nat_lit 98,{ cls:=.type "tuple",data:=.seq #[.int (-1) 303,.int 0 304,.int 1 305] })::
 (nat_lit 104,hC "need_few" 307 308 309 31 1 0 0 3 (.ref 99) 181 (.ref 100) .none (.ref 101) (.ref 102) (.ref 103) 311 31 312)::
 (nat_lit 105,hF "need_few" 16 "plusless.tables" 294 104)::
 (nat_lit 111,hC "need_few_and_number" 314 315 316 35 2 0 0 3 (.ref 106) 181 (.ref 107) .none (.ref 108) (.ref 109) (.ref 110) 319 35 320)::
 (nat_lit 112,hF "need_few_and_number" 17 "plusless.tables" 294 111)::
 (nat_lit 118,hC "stepped" 322 323 324 38 3 0 0 3 (.ref 113) 181 (.ref 114) .none (.ref 115) (.ref 116) (.ref 117) 333 38 334)::
 (nat_lit 119,hF "stepped" 18 "plusless.tables" 294 118)::
 (nat_lit 125,hC "least_layers" 336 337 338 45 2 0 0 3 (.ref 120) 181 (.ref 121) .none (.ref 122) (.ref 123) (.ref 124) 344 45 345)::
 (nat_lit 126,hF "least_layers" 19 "plusless.tables" 294 125)::
 (nat_lit 132,hC "least_without" 347 348 349 52 3 0 0 3 (.ref 127) 181 (.ref 128) .none (.ref 129) (.ref 130) (.ref 131) 354 52 355)::
 (nat_lit 133,hF "least_without" 20 "plusless.tables" 294 132)::
 (nat_lit 139,hC "layers_for" 357 358 359 55 2 0 0 3 (.ref 134) 181 (.ref 135) .none (.ref 136) (.ref 137) (.ref 138) 362 55 363)::
 (nat_lit 140,hF "layers_for" 21 "plusless.tables" 294 139)::
 (nat_lit 146,hC "wide_layers_for" 365 366 367 58 2 0 0 3 (.ref 141) 181 (.ref 142) .none (.ref 143) (.ref 144) (.ref 145) 370 58 371)::
 (nat_lit 147,hF "wide_layers_for" 22 "plusless.tables" 294 146)::
 (nat_lit 153,hC "_law_cell" 375 376 377 62 2 0 0 3 (.ref 148) 181 (.ref 149) .none (.ref 150) (.ref 151) (.ref 152) 380 62 381)::
 (nat_lit 154,hF "_law_cell" 24 "law_plusless_k11_layers_told" 373 153)::
 (nat_lit 160,hC "_law_mix" 383 384 385 66 2 0 0 3 (.ref 155) 181 (.ref 156) .none (.ref 157) (.ref 158) (.ref 159) 390 66 391)::
 (nat_lit 161,hF "_law_mix" 25 "law_plusless_k11_layers_told" 373 160)::
 (nat_lit 167,hC "_law_box" 393 394 395 71 2 0 0 3 (.ref 162) 181 (.ref 163) .none (.ref 164) (.ref 165) (.ref 166) 401 71 402)::
 (nat_lit 168,hF "_law_box" 26 "law_plusless_k11_layers_told" 373 167)::
 (nat_lit 174,hC "_law_take" 404 405 406 79 2 0 0 3 (.ref 169) 181 (.ref 170) .none (.ref 171) (.ref 172) (.ref 173) 411 79 412)::
 (nat_lit 175,hF "_law_take" 27 "law_plusless_k11_layers_told" 373 174)::
 (nat_lit 181,hC "_law_row" 414 415 416 83 2 0 0 3 (.ref 176) 181 (.ref 177) .none (.ref 178) (.ref 179) (.ref 180) 426 83 427)::
 (nat_lit 182,hF "_law_row" 28 "law_plusless_k11_layers_told" 373 181)::
 (nat_lit 188,hC "_law_number" 429 430 431 93 2 0 0 3 (.ref 183) 181 (.ref 184) .none (.ref 185) (.ref 186) (.ref 187) 437 93 438)::
 (nat_lit 189,hF "_law_number" 29 "law_plusless_k11_layers_told" 373 188)::
 (nat_lit 193,hC "_law_layers" 440 441 442 98 2 0 0 3 (.ref 190) 181 (.ref 191) .none .none .none (.ref 192) 443 98 444)::
 (nat_lit 194,hF "_law_layers" 30 "law_plusless_k11_layers_told" 373 193)::
 (nat_lit 200,hC "law" 446 447 448 106 1 0 0 3 (.ref 195) 181 (.ref 196) .none (.ref 197) (.ref 198) (.ref 199) 460 106 461)::
 (nat_lit 201,hF "law" 31 "law_plusless_k11_layers_told" 373 200)::[]
noncomputable def hA:List Addr:=[2,3,69,70,74,75,81,82,88,89,95,96,97,98,104,105,111,112,118,119,125,126,132,133,139,140,146,147,153,154,160,161,167,168,174,175,181,182,188,189,193,194,200,201]
noncomputable def hV:Program:={PySem.Challenge.pw_plusless_k11_layers_told with main:={PySem.Challenge.pw_plusless_k11_layers_told.main with body:=[top 1,top 2,top 3,top 4,top 6,top 7,top 8,top 9,top 10,top 11,top 13,top 14,top 15,top 16,top 17,top 18,top 19,top 20,top 21,top 22,top 24,top 25,top 26,top 27,top 28,top 29,top 30,top 31]}}
theorem hKA (P:Params):hA=(hK P).map (·.1):=by kernel_rfl
noncomputable abbrev hX (s:Shared):Bool:=PySem.W.xlAt hV [] s && PySem.W.recOk (PySem.W.RowW.records PySem.Challenge.rw_plusless_k11_layers_told.row.toRowW) s
set_option maxHeartbeats 0 in
theorem left:PySem.W.LeftO PySem.Challenge.rw_plusless_k11_layers_told.row.prog hV [] hX (PySem.W.Hook.obs (PySem.W.kHook hK hA hKA)) (PySem.W.Hook.val (PySem.W.kHook hK hA hKA)) 3204:=fun w=>by kernel_rfl
end Lw
section
set_option Elab.async false
set_option linter.all false
set_option maxRecDepth 100000
namespace PySem
noncomputable def ZO (o:Obj):Prop:=∃ fs:Array Value,o.data=.fields fs∧fs[2]?=some .none
noncomputable def Heap.Zat (h:Heap) (e:Addr):Prop:=∃ o,h.get? e=some o∧ZO o
section
variable {M:Model} {A:Around} {E:Value→Shared→Prop} {s:Shared} {bs:Heap} {en:Env} {out:List Env} {L e:Addr} {cl a0:Value}
end
end PySem
namespace PySem
open PyProof.Rows
theorem entry_unchain:entryFor table "proto.unchain" = some Builtin.«proto.unchain»:=entryFor_of_tree (by kernel_rfl)
theorem plain_unchain:plainId "proto.unchain" = true:=by decide +kernel
section
variable {prog:Program} {w:World} {A:Around} {E:Value→Shared→Prop} {s:Shared}
theorem unchainZ {ea ha:Addr} {Q:Value→Shared→Prop} (z:s.heap.Zat ha) (h:Q .none s):wpAny (model prog w) A (runValue (.builtin "proto.unchain" ⟨[.ref ea,.ref ha,.ref ha,.bool false],[]⟩)) Q E s:=by
 obtain ⟨o,ho,fs,hd,h2⟩:=z
 refine wpAny_runValue (codeAny_builtin entry_unchain ?_)
 rw [Around.under_plainId plain_unchain _]
 unfold Builtin.«proto.unchain»
 refine wpAny_bind (wpAny_field ho hd h2 ?_)
 rw [if_pos (by rfl)]
 refine wpAny_bind (wpAny_pure ?_)
 exact wpAny_pure h
theorem raiseNewZ {α:Type} {ea ha:Addr} {o:Obj} {fs:Array Value} {Q:α→Shared→Prop} (hh:A.handled=some (.ref ha)) (z:s.heap.Zat ha) (ne:ha ≠ ea) (he:s.heap.get? ea=some o) (hd:o.data=.fields fs) (hs:2 < fs.size)
  (h:E (.ref ea) { s with heap:=s.heap.update ea (Obj.mapFields (fun y=>y.setIfInBounds 2 (.ref ha))) }):wpAny (model prog w) A (raiseNew (.ref ea):Sem α) Q E s:=by
 unfold raiseNew
 refine wpAny_bind (wpAny_handled ?_)
 rw [hh]
 dsimp only
 rw [if_pos (by simpa using ne)]
 refine wpAny_bind (wpAny_holding (unchainZ z ?_))
 refine wpAny_bind ?_
 show wpAny _ _ (setField (.ref ea) 2 (.ref ha)) _ _ s
 exact wpAny_setField he hd hs (wpAny_throw h)
theorem rangeEndZ {it ha:Addr} {x left step:Int} {Q:Option Value→Shared→Prop} (hh:A.handled=some (.ref ha)) (z:s.heap.Zat ha) (hit:IsRangeIter s.heap it x left step) (hl:left≤0)
  (k:∀ h',Heap.ExtBut it s.heap h'→Q none { s with heap:=h' }):wpAny (model prog w) A (pyNext (.ref it)) Q E s:=by
 have ty:s.TypeIs (.ref it) "range_iterator":=⟨_,hit,rfl⟩
 have lta:ha < s.heap.objs.size:=let ⟨o,q,_⟩:=z; Heap.lt_size q
 unfold pyNext
 refine wpAny_bind (wpAny_attempt (wpAny_callSpecial?_slot (name:=Str.ofString "__next__") ty F.slot_range_iterator_next (wpAny_call_entry F.slot_range_iterator_next ty F.entry_range_iterator_next ?_ (F.args_range_iterator_next_1 _))))
 show wpAny _ _ (field (.ref it) 0 >>= _) _ _ s
 refine wpAny_bind (wpAny_field hit rfl (x:=rawInt x) rfl ?_)
 show wpAny _ _ (field (.ref it) 1 >>= _) _ _ s
 refine wpAny_bind (wpAny_field hit rfl (x:=rawInt left) rfl ?_)
 show wpAny _ _ (field (.ref it) 2 >>= _) _ _ s
 refine wpAny_bind (wpAny_field hit rfl (x:=rawInt step) rfl ?_)
 show wpAny _ _ (if left≤0 then _ else _) _ _ s
 rw [if_pos hl]
 refine wpAny_bind (wpAny_rule ?_)
 refine wpAny_bind ?_
 show wpAny _ _ (newExc (.type "StopIteration") [] >>= _) _ _ _
 refine wpAny_bind ?_
 simp only [newExc,newTuple]
 refine wpAny_bind (wpAny_newObj_type ?_ (by size_fits))
 refine wpAny_bind (m:=firstArgMember _ _) (wpAny_of_eq (a:=Value.none) (by first | rfl | (simp only [firstArgMember]; rfl)) ?_)
 refine wpAny_newObj_type ?_ (by size_fits)
 refine raiseNewZ (ha:=ha) (by first | exact hh | (show A.in1.handled=_; exact hh)) ?_ ?_ (Heap.get?_push_size _ rfl) rfl ?_ ?_
 ·obtain ⟨o,q,r⟩:=z
  exact ⟨o,Heap.get?_push_of_some _ (Heap.get?_push_of_some _ q),r⟩
 ·exact Nat.ne_of_lt (Nat.lt_of_lt_of_le lta (by rw [Heap.size_push]; exact Nat.le_succ _))
 ·rw [Array.size_append]; exact Nat.lt_of_lt_of_le (show 2 < 6 by decide) (Nat.le_add_right _ _)
 ·dsimp only
  generalize hfn:Obj.mapFields (fun y=>y.setIfInBounds 2 (Value.ref ha))=fn
  generalize hg:s.heap.push { cls:=Value.type "tuple",data:=Data.seq #[] }=g
  generalize hex:({ cls:=Value.type "StopIteration",data:=Data.fields (#[Value.ref s.heap.objs.size,Value.none,Value.none,Value.none,Value.bool false,Value.none] ++ ownMembersOf (Value.type "StopIteration") []) }:Obj)=ex
  have c0:ex.cls=.type "StopIteration":=by rw [← hex]
  have d0:∃ fs,ex.data=.fields fs:=⟨_,by rw [← hex]⟩
  obtain ⟨fs,d0⟩:=d0
  have p0:(g.push ex).get? g.objs.size=some ex:=Heap.get?_push_size g (Obj.isFreed_of_fields d0)
  have d1:(fn ex).data=.fields (fs.setIfInBounds 2 (.ref ha)):=by rw [← hfn]; exact Obj.data_mapFields d0 _
  have c1:(fn ex).cls=.type "StopIteration":=by rw [← hfn]; exact (Obj.cls_mapFields _ _).trans c0
  have e1:((g.push ex).update g.objs.size fn).get? g.objs.size=some (fn ex):=Heap.get?_update_self fn p0 (Obj.isFreed_of_fields d1)
  refine wpAny_bind (wpAny_isInstance (T:="StopIteration") (b:=true) ⟨fn ex,e1,c1⟩ isSubtype_stop ?_)
  refine wpAny_pure (k _ fun b o _ q=>?_)
  have q1:g.get? b=some o:=by rw [← hg]; exact Heap.get?_push_of_some _ q
  rw [Heap.get?_update_other (g.push ex) fn (Nat.ne_of_gt (Heap.lt_size q1))]
  exact Heap.get?_push_of_some ex q1
end
end PySem
namespace L2
open PySem PySem.Spec PyProof.Rows
noncomputable abbrev Key:=Sum Int Str
noncomputable def keyIs:Key→Value→Bool
 | .inl k,v=>Value.isInt k v
 | .inr x,v=>Value.isStrOf x v
noncomputable def keyH (w:World):Key→Int
 | .inl k=>hashInt k
 | .inr x=>hashStr w x
theorem keyIs_shape:∀ {k:Key} {v:Value},keyIs k v=true→(∃ i t,k=Sum.inl i∧v=Value.int i t) ∨ (∃ x t,k=Sum.inr x∧v=Value.str x t)
 | .inl i,v,h=>by
  obtain ⟨t,e⟩:=Value.isInt_shape (k:=i) (v:=v) h
  exact .inl ⟨i,t,rfl,e⟩
 | .inr x,v,h=>by
  obtain ⟨t,e⟩:=Value.isStrOf_shape (x:=x) (v:=v) h
  exact .inr ⟨x,t,rfl,e⟩
theorem keyIs_int (i:Int) (t:Tok):keyIs (.inl i) (.int i t)=true:=by simp [keyIs,Value.isInt]
theorem keyIs_str (x:Str) (t:Tok):keyIs (.inr x) (.str x t)=true:=by simp [keyIs,Value.isStrOf]
theorem key_ll (a b:Int):decide ((Sum.inl a:Key)=Sum.inl b)=(a == b):=by
 by_cases e:a=b
 ·subst e; simp
 ·have h:¬ (Sum.inl a:Key)=Sum.inl b:=fun q=>e (Sum.inl.inj q)
  rw [decide_eq_false h]
  exact (beq_eq_false_iff_ne.mpr e).symm
theorem key_rr (a b:Str):decide ((Sum.inr a:Key)=Sum.inr b)=decide (a=b):=by
 by_cases e:a=b
 ·subst e; simp
 ·have h:¬ (Sum.inr a:Key)=Sum.inr b:=fun q=>e (Sum.inr.inj q)
  rw [decide_eq_false h,decide_eq_false e]
theorem key_lr (a:Int) (b:Str):decide ((Sum.inl a:Key)=Sum.inr b)=false:=decide_eq_false (fun q=>nomatch q)
theorem key_rl (a:Str) (b:Int):decide ((Sum.inr a:Key)=Sum.inl b)=false:=decide_eq_false (fun q=>nomatch q)
noncomputable def mixKind (prog:Program) (w:World):PySem.KeyKind prog w Key where
 is:=keyIs
 hash:=keyH w
 inj:=fun v a b ha hb=>by
  rcases keyIs_shape ha with ⟨i,t,rfl,rfl⟩ | ⟨x,t,rfl,rfl⟩
  ·rcases keyIs_shape hb with ⟨j,u,rfl,e⟩ | ⟨y,u,rfl,e⟩
   ·injection e with e1 _; rw [e1]
   ·exact nomatch e
  ·rcases keyIs_shape hb with ⟨j,u,rfl,e⟩ | ⟨y,u,rfl,e⟩
   ·exact nomatch e
   ·injection e with e1 _; rw [e1]
 byValue:=fun k v h=>by
  rcases keyIs_shape h with ⟨i,t,rfl,rfl⟩ | ⟨x,t,rfl,rfl⟩ <;> rfl
 pyHash:=fun hv h=>by
  rcases keyIs_shape hv with ⟨i,t,rfl,rfl⟩ | ⟨x,t,rfl,rfl⟩
  ·exact wpAny_pyHash_int h
  ·exact wpAny_pyHash_str h
 eqBool:=fun hu hv h=>by
  rcases keyIs_shape hu with ⟨i,t,rfl,rfl⟩ | ⟨x,t,rfl,rfl⟩
  ·rcases keyIs_shape hv with ⟨j,u,rfl,rfl⟩ | ⟨y,u,rfl,rfl⟩
   ·rw [key_ll] at h; exact wpAny_eqBool_int h
   ·rw [key_lr] at h; exact SeqAt.EqAt.int_str i t y u _ _ _ _ h
  ·rcases keyIs_shape hv with ⟨j,u,rfl,rfl⟩ | ⟨y,u,rfl,rfl⟩
   ·rw [key_rl] at h; exact SeqAt.EqAt.str_int x t j u _ _ _ _ h
   ·rw [key_rr] at h; exact wpAny_eqBool_str h
 «strs»:=fun k x t v h=>by
  rcases keyIs_shape h with ⟨i,u,rfl,e⟩ | ⟨y,u,rfl,e⟩
  ·exact nomatch e
  ·injection e with e1 _
   subst e1
   cases v <;> rfl
theorem mixKind_is (prog:Program) (w:World) (k:Key) (v:Value):(mixKind prog w).is k v=keyIs k v:=rfl
theorem mixKind_int (prog:Program) (w:World) (i:Int) (t:Tok):(mixKind prog w).is (.inl i) (.int i t)=true:=keyIs_int i t
theorem mixKind_str (prog:Program) (w:World) (x:Str) (t:Tok):(mixKind prog w).is (.inr x) (.str x t)=true:=keyIs_str x t
end L2
namespace L2
open PySem PySem.Spec PyProof.Rows
inductive V where
 | non | bl (b:Bool) | int (i:Int) | str (x:Str) | byt (b:Array UInt8) | flt (b:UInt64) | ref (a:Addr) | ty (n:String)
 deriving DecidableEq
noncomputable def RelV:V→Value→Prop
 | .non,u=>u=Value.none
 | .bl b,u=>u=Value.bool b
 | .int i,u=>∃ t,u=Value.int i t
 | .str x,u=>∃ t,u=Value.str x t
 | .byt b,u=>∃ t,u=Value.bytes b t
 | .flt b,u=>∃ t,u=Value.float b t
 | .ref a,u=>u=Value.ref a
 | .ty n,u=>u=Value.type n
noncomputable abbrev Vals:List V→List Value→Prop:=Paired RelV
theorem Vals.length {xs:List V} {us:List Value} (r:Vals xs us):xs.length=us.length:=Paired.length r
theorem Vals.get:∀ {xs:List V} {us:List Value} {i:Nat} {x:V},Vals xs us→xs[i]?=some x→∃ u,us[i]?=some u∧RelV x u
 | _,_,_,_,.nil,e=>by simp at e
 | _,_,0,_,.cons r _,e=>by simp at e; subst e; exact ⟨_,rfl,r⟩
 | _,_,i + 1,x,.cons _ t,e=>by
  obtain ⟨u,h1,h2⟩:=Vals.get (i:=i) (x:=x) t (by simpa using e)
  exact ⟨u,by simpa using h1,h2⟩
theorem Vals.set {x:V} {u:Value} (r:RelV x u):∀ {xs:List V} {us:List Value} (i:Nat),Vals xs us→Vals (xs.set i x) (us.set i u)
 | _,_,_,.nil=>.nil
 | _,_,0,.cons _ t=>.cons r t
 | _,_,i + 1,.cons q t=>.cons q (Vals.set r i t)
theorem Vals.append:∀ {xs ys:List V} {us ws:List Value},Vals xs us→Vals ys ws→Vals (xs ++ ys) (us ++ ws)
 | _,_,_,_,.nil,s=>s
 | _,_,_,_,.cons r t,s=>.cons r (Vals.append t s)
noncomputable def RelO:Option V→Option Value→Prop
 | some v,some u=>RelV v u
 | none,none=>True
 | _,_=>False
noncomputable def KV {κ:Type}:List (κ × V)→List (κ × Value)→Prop:=Paired fun (p:κ × V) (q:κ × Value)=>p.1=q.1∧RelV p.2 q.2
noncomputable def kV:Key→V
 | .inl i=>.int i
 | .inr x=>.str x
set_option genInjectivity false in
inductive HO where
 /-- a list -/
 | lst (xs:List V)
 /-- a tuple (never changes) -/
 | tup (xs:List V)
 /-- a dict whose keys are ints and texts; one whose keys are tuples of ints and texts (the empty one is both) -/
 | dK (kvs:List (Key × V)) | dT (kvs:List (List Key × V))
 /-- a set of ints: its members,its size -/
 | set (S:Int→Bool) (n:Nat)
 /-- an instance of the class at C,its dict at dx,its attributes -/
 | ins (C dx:Addr) (fs:List (Str × V))
 /-- the dict of the instance at x -/
 | own (x:Addr)
 /-- the dict of an exception -/
 | xd (fs:List (Str × V))
 /-- a bound method,f of x -/
 | met (f x:Addr)
 /-- a range object lo,lo + 1,.. below hi -/
 | rng (lo hi:Int)
 /-- a thing that is known to the object (the script; a dict while a loop walks it): read,never written while it is so -/
 | frz (o:Obj) (u:HO)
 /-- a code object's table -/
 | tbl (ps:Array Value)
 /-- any other thing,by what is true of its one object (a def of one's own: SetO a S n:=HO.ext fun h=>..) -/
 | ext (φ:Heap→Prop)
noncomputable abbrev Hp:=Addr→Option HO
noncomputable def upd (H:Hp) (a:Addr) (o:HO):Hp:=fun b=>if b=a then some o else H b
theorem upd_same {H:Hp} {a:Addr} {o:HO}:upd H a o a=some o:=by unfold upd; rw [if_pos rfl]
theorem upd_ne {H:Hp} {a b:Addr} {o:HO} (h:b ≠ a):upd H a o b=H b:=by unfold upd; rw [if_neg h]
theorem ne_of {H:Hp} {a b:Addr} {o u:HO} (h:H a=some o) (h':H b=some u) (d:o ≠ u):a ≠ b:=by
 intro e; subst e; rw [h] at h'; exact d (Option.some.inj h')
theorem ne_of_none {H:Hp} {a b:Addr} {o:HO} (h:H a=some o) (h':H b=none):a ≠ b:=by
 intro e; subst e; rw [h] at h'; cases h'
section
variable (P:Program) (w:World)
noncomputable def ObjOk (H:Hp) (h:Heap) (a:Addr):HO→Prop
 | .lst xs=>xs.length≤sizeLine∧∃ (its:List Value) (n:Nat),Vals xs its∧h.get? a=some { cls:=.type "list",data:=.seq its.toArray n }
 | .tup xs=>xs.length≤sizeLine∧∃ its:List Value,Vals xs its∧IsTup h a its.toArray
 | .dK kvs=>kvs.length≤sizeLine∧(a == sysModules)=false∧∃ vs,KV kvs vs∧h.DictOf (mixKind P w) a vs
 | .dT kvs=>kvs.length≤sizeLine∧(a == sysModules)=false∧∃ xs:List (List Key × Addr × Value),
   Paired (fun (p:List Key × V) (q:List Key × Addr × Value)=>p.1=q.1∧H q.2.1=some (.tup (p.1.map kV))∧RelV p.2 q.2.2) kvs xs∧
   ∃ o es ep,h.get? a=some o∧o.ExactDict∧o.data=.dict es ep∧es.toList=xs.map (entryOfKey (tupleKind (mixKind P w)))∧(xs.map (·.1)).Nodup
 | .set S n=>h.SetOf (intKind P w) a S n
 | .ins C dx fs=>H dx=some (.own a)∧fs.length≤1000∧dx ≠ a∧h.get? a=some (PySem.W.instObj C dx)∧
   ∃ mA,h.Ns1 dx mA∧(∀ f,RelO (fs.lookup f) (mA f))∧PySem.Within mA (fs.map (·.1))
 | .own _=>∃ o,h.get? a=some o
 | .xd fs=>∃ mA,h.Ns1 a mA∧∀ f,RelO (fs.lookup f) (mA f)
 | .rng lo hi=>∃ t u v,h.get? a=some { cls:=.type "range",data:=.fields #[.int lo t,.int hi u,.int 1 v] }
 | .frz o u=>h.get? a=some o∧ObjOk H h a u
 | .tbl ps=>h.get? a=some { cls:=.none,data:=.fields ps }
 | .met f x=>h.get? a=some (PySem.W.methodObj (.ref f) (.ref x))
 | .ext φ=>φ h∧(∃ o,h.get? a=some o)∧∀ h1 h2:Heap,φ h1→(∀ o,h1.get? a=some o→h2.get? a=some o)→φ h2
noncomputable def HOk (H:Hp) (h:Heap):Prop:=∀ a o,H a=some o→ObjOk P w H h a o
end
section
variable {P:Program} {w:World} {H H':Hp} {h h':Heap} {a:Addr} {o:HO}
theorem ObjOk.lt (x:ObjOk P w H h a o):a < h.objs.size:=by
 cases o with
 | lst xs=>obtain ⟨_,_,_,_,e⟩:=x; exact Heap.lt_size e
 | tup xs=>obtain ⟨_,_,_,p⟩:=x; exact p.lt
 | dK kvs=>obtain ⟨_,_,_,_,o,_,_,e,_⟩:=x; exact Heap.lt_size e
 | dT kvs=>obtain ⟨_,_,_,_,o,_,_,e,_⟩:=x; exact Heap.lt_size e
 | set S n=>obtain ⟨o,_,_,_,e,_⟩:=x; exact Heap.lt_size e
 | ins C dx fs=>obtain ⟨_,_,_,e,_⟩:=x; exact Heap.lt_size e
 | own y=>obtain ⟨_,e⟩:=x; exact Heap.lt_size e
 | xd fs=>obtain ⟨_,⟨_,_,_,e,_⟩,_⟩:=x; exact Heap.lt_size e
 | rng lo hi=>obtain ⟨_,_,_,e⟩:=x; exact Heap.lt_size e
 | frz ob u=>obtain ⟨e,_⟩:=x; exact Heap.lt_size e
 | tbl ps=>exact Heap.lt_size (show h.get? a=some _ from x)
 | met f y=>exact Heap.lt_size (show h.get? a=some _ from x)
 | ext φ=>obtain ⟨_,⟨_,e⟩,_⟩:=x; exact Heap.lt_size e
theorem Paired.mapP {α β:Type} {F G:α→β→Prop}:∀ {l₁:List α} {l₂:List β},Paired F l₁ l₂→(∀ a b,F a b→G a b)→Paired G l₁ l₂
 | _,_,.nil,_=>.nil
 | _,_,.cons r t,f=>.cons (f _ _ r) (Paired.mapP t f)
theorem ObjOk.stay (x:ObjOk P w H h a o) (k:∀ b u,(b=a ∨ H b=some (.own a))→h.get? b=some u→h'.get? b=some u)
  (ho:∀ b,H b=some (.own a)→H' b=some (.own a)) (ht:∀ b xs,H b=some (.tup xs)→H' b=some (.tup xs)):ObjOk P w H' h' a o:=by
 induction o with
 | lst xs=>obtain ⟨z,its,n,r,e⟩:=x; exact ⟨z,its,n,r,k _ _ (.inl rfl) e⟩
 | tup xs=>obtain ⟨z,its,r,ob,e,c⟩:=x; exact ⟨z,its,r,ob,k _ _ (.inl rfl) e,c⟩
 | dK kvs=>obtain ⟨z,y,vs,r,ob,es,ep,e,c⟩:=x; exact ⟨z,y,vs,r,ob,es,ep,k _ _ (.inl rfl) e,c⟩
 | dT kvs=>
  obtain ⟨z,y,xs,r,ob,es,ep,e,c⟩:=x
  exact ⟨z,y,xs,Paired.mapP r fun p q z=>⟨z.1,ht _ _ z.2.1,z.2.2⟩,ob,es,ep,k _ _ (.inl rfl) e,c⟩
 | set S n=>obtain ⟨ob,es,ep,t,e,c⟩:=x; exact ⟨ob,es,ep,t,k _ _ (.inl rfl) e,c⟩
 | ins C dx fs=>
  obtain ⟨d,z,ne,e,mA,⟨od,es,ep,e2,c⟩,r⟩:=x
  exact ⟨ho _ d,z,ne,k _ _ (.inl rfl) e,mA,⟨od,es,ep,k _ _ (.inr d) e2,c⟩,r⟩
 | own y=>obtain ⟨ob,e⟩:=x; exact ⟨ob,k _ _ (.inl rfl) e⟩
 | xd fs=>obtain ⟨mA,⟨od,es,ep,e,c⟩,r⟩:=x; exact ⟨mA,⟨od,es,ep,k _ _ (.inl rfl) e,c⟩,r⟩
 | rng lo hi=>obtain ⟨t,u,v,e⟩:=x; exact ⟨t,u,v,k _ _ (.inl rfl) e⟩
 | frz ob u ih=>obtain ⟨e,q⟩:=x; exact ⟨k _ _ (.inl rfl) e,ih q⟩
 | tbl ps=>
  have e:h.get? a=some { cls:=.none,data:=.fields ps }:=x
  show h'.get? a=some { cls:=.none,data:=.fields ps }
  exact k a _ (.inl rfl) e
 | met f y=>
  have e:h.get? a=some (PySem.W.methodObj (.ref f) (.ref y)):=x
  show h'.get? a=some (PySem.W.methodObj (.ref f) (.ref y))
  exact k a _ (.inl rfl) e
 | ext φ=>obtain ⟨p,⟨o,e⟩,st⟩:=x; exact ⟨st _ _ p fun o q=>k _ _ (.inl rfl) q,⟨o,k _ _ (.inl rfl) e⟩,st⟩
theorem HOk.lt (x:HOk P w H h) (e:H a=some o):a < h.objs.size:=(x a o e).lt
theorem HOk.fresh (x:HOk P w H h) (e:h.objs.size≤a):H a=none:=by
 cases q:H a with
 | none=>rfl
 | some u=>exact absurd (Nat.lt_of_lt_of_le (x.lt q) e) (Nat.lt_irrefl _)
theorem HOk.kept (x:HOk P w H h) (k:∀ b u,h.get? b=some u→h'.get? b=some u):HOk P w H h':=fun a o e=>
 (x a o e).stay (fun b u _ q=>k b u q) (fun _ q=>q) fun _ _ q=>q
theorem HOk.laid (x:HOk P w H h) (k:∀ b u,h.get? b=some u→h'.get? b=some u) (hp:h.objs.size≤a) (new:ObjOk P w (upd H a o) h' a o):HOk P w (upd H a o) h':=fun b u e=>by
 have hn:=x.fresh hp
 by_cases hb:b=a
 ·subst hb; rw [upd_same] at e; cases e; exact new
 ·rw [upd_ne hb] at e
  exact (x b u e).stay (fun c v _ q=>k c v q) (fun c q=>by rw [upd_ne (ne_of_none q hn)]; exact q) fun c xs q=>by rw [upd_ne (ne_of_none q hn)]; exact q
end
noncomputable def Rd (H:Hp) (a:Addr) (u:HO):Prop:=H a=some u ∨ ∃ o,H a=some (.frz o u)
theorem Rd.ok {P:Program} {w:World} {H:Hp} {h:Heap} {a:Addr} {u:HO} (r:Rd H a u) (x:HOk P w H h):ObjOk P w H h a u:=by
 rcases r with r | ⟨o,r⟩
 ·exact x a u r
 ·obtain ⟨_,q⟩:=x a _ r
  exact q
noncomputable def Mut:Option HO→Prop
 | some (.lst _)=>True
 | some (.dK _)=>True
 | some (.dT _)=>True
 | some (.set _ _)=>True
 | some (.ins _ _ _)=>True
 | some (.ext _)=>True
 | _=>False
section
variable {P:Program} {w:World} {H:Hp} {h h':Heap} {x e:Addr} {o':HO}
theorem HOk.write (ok:HOk P w H h) (mu:Mut (H x)) (he:e=x ∨ H e=some (.own x)) (k:∀ b u,b ≠ e→h.get? b=some u→h'.get? b=some u) (heo:∃ u,h'.get? e=some u)
  (new:ObjOk P w (upd H x o') h' x o'):HOk P w (upd H x o') h':=fun b u q=>by
 have nown:∀ c y,H c=some (.own y)→c ≠ x:=fun c y r z=>by subst z; rw [r] at mu; exact mu
 have ntup:∀ c xs,H c=some (.tup xs)→c ≠ x:=fun c xs r z=>by subst z; rw [r] at mu; exact mu
 by_cases hb:b=x
 ·subst hb; rw [upd_same] at q; cases q; exact new
 ·rw [upd_ne hb] at q
  by_cases hbe:b=e
  ·have q':H b=some (.own x):=by
    rcases he with z | z
    ·exact absurd (hbe.trans z) hb
    ·rw [hbe]; exact z
   rw [q] at q'; cases q'
   obtain ⟨v,hv⟩:=heo
   exact ⟨v,by rw [hbe]; exact hv⟩
  ·refine (ok b u q).stay (fun c v hc r=>k c v ?_ r) (fun c r=>by rw [upd_ne (nown c b r)]; exact r) fun c xs r=>by rw [upd_ne (ntup c xs r)]; exact r
   rcases hc with rfl | hc
   ·exact hbe
   ·rintro rfl
    rcases he with z | z
    ·exact nown c b hc z
    ·rw [hc] at z; cases z; exact hb rfl
end
structure Un (fs ex:List Addr) (H H':Hp) (h h':Heap):Prop where
 keep:∀ b o,h.get? b=some o→H b=none→b ∉ fs→b ∉ ex→h'.get? b=some o
 slot:∀ b o,h.get? b=some o→H b=none→b ∈ fs→b ∉ ex→∃ sl,h'.get? b=some { o with slots:=sl }
 free:∀ b o,h.get? b=some o→H b=none→b ∉ ex→H' b=none
 there:∀ b o,h.get? b=some o→b ∉ ex→∃ o',h'.get? b=some o'
 tups:∀ b xs,H b=some (.tup xs)→H' b=some (.tup xs)
 frzs:∀ b o u,H b=some (.frz o u)→H' b=some (.frz o u)
 tbls:∀ b ps,H b=some (.tbl ps)→∃ more,H' b=some (.tbl (ps ++ more))
section
variable {fs fs' ex ex':List Addr} {H H1 H2:Hp} {h h1 h2 h':Heap} {a x e:Addr} {o:HO}
theorem Un.any (u:Un fs ex H H1 h h1) {b:Addr} {ob:Obj} (q:h.get? b=some ob) (n:H b=none) (hx:b ∉ ex):∃ sl,h1.get? b=some { ob with slots:=sl }:=by
 by_cases hb:b ∈ fs
 ·exact u.slot b ob q n hb hx
 ·exact ⟨ob.slots,u.keep b ob q n hb hx⟩
theorem Un.trans (a:Un fs ex H H1 h h1) (b:Un fs ex H1 H2 h1 h2):Un fs ex H H2 h h2 where
 keep:=fun c ob q n hc hx=>b.keep c ob (a.keep c ob q n hc hx) (a.free c ob q n hx) hc hx
 slot:=fun c ob q n hc hx=>by
  obtain ⟨sl,e1⟩:=a.slot c ob q n hc hx
  obtain ⟨sl',e2⟩:=b.slot c _ e1 (a.free c ob q n hx) hc hx
  exact ⟨sl',e2⟩
 free:=fun c ob q n hx=>by
  obtain ⟨o',e1⟩:=a.there c ob q hx
  exact b.free c o' e1 (a.free c ob q n hx) hx
 there:=fun c ob q hx=>by
  obtain ⟨o',e1⟩:=a.there c ob q hx
  exact b.there c o' e1 hx
 tups:=fun c xs q=>b.tups c xs (a.tups c xs q)
 frzs:=fun c ob xs q=>b.frzs c ob xs (a.frzs c ob xs q)
 tbls:=fun c ps q=>by
  obtain ⟨m1,e1⟩:=a.tbls c ps q
  obtain ⟨m2,e2⟩:=b.tbls c _ e1
  exact ⟨m1 ++ m2,by rw [e2,Array.append_assoc]⟩
theorem Un.kept (k:∀ b u,h.get? b=some u→h'.get? b=some u):Un fs ex H H h h':=
 ⟨fun b ob q _ _ _=>k b ob q,fun b ob q _ _ _=>⟨ob.slots,k b ob q⟩,fun _ _ _ n _=>n,fun b ob q _=>⟨ob,k b ob q⟩,fun _ _ q=>q,fun _ _ _ q=>q,fun _ ps q=>⟨#[],by rw [q]; simp⟩⟩
theorem Un.refl:Un fs ex H H h h:=Un.kept fun _ _ q=>q
theorem Un.laid (k:∀ b u,h.get? b=some u→h'.get? b=some u) (hp:h.objs.size≤a) (hn:H a=none):Un fs ex H (upd H a o) h h' where
 keep:=fun b u q _ _ _=>k b u q
 slot:=fun b u q _ _ _=>⟨u.slots,k b u q⟩
 free:=fun b u q n _=>by rw [upd_ne (Nat.ne_of_lt (Nat.lt_of_lt_of_le (Heap.lt_size q) hp))]; exact n
 there:=fun b u q _=>⟨u,k b u q⟩
 tups:=fun b xs q=>by rw [upd_ne (ne_of_none q hn)]; exact q
 frzs:=fun b u xs q=>by rw [upd_ne (ne_of_none q hn)]; exact q
 tbls:=fun b ps q=>⟨#[],by rw [upd_ne (ne_of_none q hn),q]; simp⟩
theorem Un.write (mu:Mut (H x)) (he:e=x ∨ H e=some (.own x)) (k:∀ b u,b ≠ e→h.get? b=some u→h'.get? b=some u) (heo:∃ u,h'.get? e=some u):Un fs ex H (upd H x o) h h':=by
 have hx:∀ b,H b=none→b ≠ x:=fun b n z=>by subst z; rw [n] at mu; exact mu
 have hb:∀ b,H b=none→b ≠ e:=fun b n z=>by
  subst z
  rcases he with r | r
  ·exact hx b n r
  ·rw [n] at r; cases r
 have hm:∀ b u,H b=some u→¬ Mut (some u)→b ≠ x:=fun b u q nm z=>by subst z; rw [q] at mu; exact nm mu
 refine ⟨fun b u q n _ _=>k b u (hb b n) q,fun b u q n _ _=>⟨u.slots,k b u (hb b n) q⟩,fun b u q n _=>by rw [upd_ne (hx b n)]; exact n,fun b u q _=>?_,
  fun b xs q=>by rw [upd_ne (hm b _ q fun z=>z)]; exact q,fun b u xs q=>by rw [upd_ne (hm b _ q fun z=>z)]; exact q,fun b ps q=>⟨#[],by rw [upd_ne (hm b _ q fun z=>z),q]; simp⟩⟩
 by_cases hbe:b=e
 ·subst hbe; exact heo
 ·exact ⟨u,k b u hbe q⟩
end
noncomputable def trk (h:Heap) (H:Hp):List Addr:=(List.range h.objs.size).filter fun a=>(H a).isSome
noncomputable def hidT (h:Heap) (H:Hp):Heap:=PySem.W.hideAll h (trk h H)
theorem hidT_size (h:Heap) (H:Hp):(hidT h H).objs.size=h.objs.size:=PySem.W.hideAll_size _ _
theorem hidT_get {h:Heap} {H:Hp} {b:Addr} {o:Obj} (e:h.get? b=some o) (n:H b=none):(hidT h H).get? b=some o:=
 PySem.W.hideAll_get _ e fun hm=>by
  have q:(H b).isSome=true:=(List.mem_filter.mp hm).2
  rw [n] at q; simp at q
theorem of_hidT {h:Heap} {H:Hp} {b:Addr} {o:Obj} (e:(hidT h H).get? b=some o):h.get? b=some o∧H b=none:=by
 have e':h.get? b=some o:=PySem.W.of_hideAll (trk h H) e
 refine ⟨e',?_⟩
 cases q:H b with
 | none=>rfl
 | some x=>
  have hm:b ∈ trk h H:=List.mem_filter.mpr ⟨List.mem_range.mpr (Heap.lt_size e'),by simp [q]⟩
  have z:(hidT h H).get? b=none:=PySem.W.hideAll_none (trk h H) hm
  rw [z] at e; cases e
end L2
namespace L2
open PySem PySem.Spec PyProof.Rows
structure Mod (K:PySem.W.Frag) (mg:Str→Option Value) (base:Heap):Prop where
 kin:K.In base
 glob:base.Ns mainGlobals mg
 blt:∃ mb,base.Ns builtinsNs mb∧∀ x:Str,x ≠ "__name__"→mb x=bootBuiltins x
 nolimit:base.NoLimit
structure Cx where
 prog:Program
 w:World
 K:PySem.W.Frag
 mg:Str→Option Value
 base:Heap
 A:Around
 N:List Str
 s₀:Shared
 H₀:Hp
 env:Env
 outer:List Env
 stack:List Env
 ex:List Addr
 fn:Str→Bool
 calm:Bool
 pn:List (Addr × Obj)
 xe:Value→Shared→Prop
noncomputable def frs (l:List Env):List Addr:=l.filterMap (·.frame)
noncomputable abbrev Cx.fs (X:Cx):List Addr:=frs X.outer
noncomputable def Vis (sc:Scope) (x:Str):Prop:=sc.names.lookup x=some .local ∨ sc.names.lookup x=some .cell ∨ sc.names.lookup x=some .free
noncomputable def Loc (sc:Scope) (x:Str):Prop:=sc.names.lookup x=some .local ∨ sc.names.lookup x=some .cell
noncomputable def Look (env:Env) (h:Heap) (m:Str→Option Value) (x:Str) (u:Value):Prop:=
 (env.kindOf x=some .local∧m x=some u) ∨ ((env.kindOf x=some .cell ∨ env.kindOf x=some .free)∧∃ c,env.cells.lookup x=some c∧h.IsCell c (some u))
structure Cx.Ok (X:Cx):Prop where
 mod:Mod X.K X.mg X.base
 kind:X.env.scope.kind=.function
 glob:X.env.globals=mainGlobals
 blt:X.env.builtins=builtinsNs
 above:X.s₀.heap.objs.size≤X.env.locals
 inj:∀ x y c,X.env.cells.lookup x=some c→X.env.cells.lookup y=some c→x=y
 has:∀ x,(X.env.kindOf x=some .cell ∨ X.env.kindOf x=some .free)→∃ c,X.env.cells.lookup x=some c
 cab:∀ x c,X.fn x=true→X.env.cells.lookup x=some c→X.s₀.heap.objs.size≤c
 hd:X.calm=true→X.A.handled=none
 frames:X.A.frames=some X.stack
 stk:X.stack=X.outer ∨ (X.stack=X.env :: X.outer∧X.env.frame=some X.env.locals)
 exf:∀ b ∈ X.ex,b ≠ X.env.locals∧∀ x c,X.env.cells.lookup x=some c→c ≠ b
 bs:∀ b o,X.base.get? b=some o→X.s₀.heap.get? b=some o∧X.H₀ b=none
 bsz:X.base.objs.size≤X.s₀.heap.objs.size
 noex:∀ b o,X.base.get? b=some o→b ∉ X.ex
 exfs:∀ b ∈ X.ex,b ∉ X.fs
 funs:X.s₀.heap.FunFrames X.base X.outer
 frf:∀ b ∈ X.fs,X.H₀ b=none
structure Inv (X:Cx) (pins:List (Addr × Obj)) (σ:List (Option V)) (H:Hp) (s:Shared):Prop where
 ok:X.Ok
 os:s.os=X.s₀.os
 bare:AllBare s.gens
 base:Un X.fs X.ex X.H₀ H X.s₀.heap s.heap
 loc:∃ m,s.heap.Ns X.env.locals m∧∀ (i:Nat) (x:Str) (v:V),X.N[i]?=some x→σ[i]?=some (some v)→Vis X.env.scope x→∃ u,RelV v u∧Look X.env s.heap m x u
 cell:∀ x c,X.env.cells.lookup x=some c→∃ v,s.heap.IsCell c v
 free:H X.env.locals=none
 freeC:∀ x c,X.env.cells.lookup x=some c→H c=none
 pin:∀ p ∈ X.pn ++ pins,s.heap.get? p.1=some p.2∧H p.1=none∧p.1 ≠ X.env.locals∧p.1 ∉ X.fs∧∀ v,p.2.data ≠ .cell v
 hok:HOk X.prog X.w H s.heap
 len:σ.length=X.N.length
section
variable {X:Cx} {pins:List (Addr × Obj)} {σ:List (Option V)} {H H':Hp} {s:Shared} {h':Heap}
theorem Cx.Ok.nofr (ok:X.Ok) {b:Addr} {o:Obj} (e:X.base.get? b=some o):b ∉ X.fs:=fun hb=>by
 have:=(ok.funs.mem hb).1
 rw [e] at this; cases this
theorem Inv.bs (I:Inv X pins σ H s):∀ b o,X.base.get? b=some o→s.heap.get? b=some o∧H b=none:=fun b o e=>
 ⟨I.base.keep b o (I.ok.bs b o e).1 (I.ok.bs b o e).2 (I.ok.nofr e) (I.ok.noex b o e),I.base.free b o (I.ok.bs b o e).1 (I.ok.bs b o e).2 (I.ok.noex b o e)⟩
theorem Inv.bk (I:Inv X pins σ H s):∀ b o,X.base.get? b=some o→s.heap.get? b=some o:=fun b o e=>(I.bs b o e).1
theorem Inv.mod (I:Inv X pins σ H s):Mod X.K X.mg X.base:=I.ok.mod
theorem Inv.kIn (I:Inv X pins σ H s):X.K.In s.heap:=I.ok.mod.kin.keeps I.bk
theorem Inv.lt (I:Inv X pins σ H s):X.env.locals < s.heap.objs.size:=let ⟨_,hn,_⟩:=I.loc; hn.lt
theorem Inv.sz (I:Inv X pins σ H s):X.s₀.heap.objs.size≤s.heap.objs.size:=Nat.le_trans I.ok.above (Nat.le_of_lt I.lt)
theorem Inv.nofs (I:Inv X pins σ H s) {a:Addr} (h:s.heap.objs.size≤a):a ∉ X.fs:=fun hb=>by
 obtain ⟨_,o,ho,_⟩:=I.ok.funs.mem hb
 exact absurd (Nat.lt_of_lt_of_le (Heap.lt_size ho) (Nat.le_trans I.sz h)) (Nat.lt_irrefl _)
theorem Inv.cne (I:Inv X pins σ H s):∀ x c,X.env.cells.lookup x=some c→c ≠ X.env.locals:=fun x c e z=>by
 obtain ⟨v,o,ho,hd⟩:=I.cell x c e
 obtain ⟨m,⟨o',es,ep,ho',hd',_⟩,_⟩:=I.loc
 rw [z,ho'] at ho; cases ho; rw [hd'] at hd; cases hd
theorem Inv.funs (I:Inv X pins σ H s):s.heap.FunFrames X.base X.outer:=by
 have all:∀ (l:List Env),(∀ b ∈ frs l,b ∈ X.fs)→X.s₀.heap.FunFrames X.base l→s.heap.FunFrames X.base l:=by
  intro l
  induction l with
  | nil=>intro _ _; trivial
  | cons env r ih=>
   intro hs hl
   obtain ⟨hk,⟨L,o,hf,hn,ho,hd⟩,hr⟩:=hl
   have hL:L ∈ X.fs:=hs L (by unfold frs; rw [List.filterMap_cons,hf]; exact List.mem_cons_self)
   obtain ⟨sl,e⟩:=I.base.slot L o ho (I.ok.frf L hL) hL fun z=>I.ok.exfs L z hL
   exact ⟨hk,⟨L,_,hf,hn,e,hd⟩,ih (fun b hb=>hs b (by unfold frs; rw [List.filterMap_cons,hf]; exact List.mem_cons_of_mem _ hb)) hr⟩
 exact all X.outer (fun _ hb=>hb) I.ok.funs
theorem Inv.stack (I:Inv X pins σ H s):s.heap.FunFrames X.base X.stack:=by
 rcases I.ok.stk with e | ⟨e,hf⟩
 ·rw [e]; exact I.funs
 ·rw [e]
  obtain ⟨m,hn,_⟩:=I.loc
  refine .cons (by rw [I.ok.kind]; decide) hf hn ?_ I.funs
  exact Heap.get?_none_of_le (Nat.le_trans I.ok.bsz I.ok.above)
theorem Inv.stkSub (I:Inv X pins σ H s):∀ b ∈ frs X.stack,b ∈ X.env.locals :: X.fs:=fun b hb=>by
 rcases I.ok.stk with e | ⟨e,hf⟩
 ·rw [e] at hb; exact List.mem_cons_of_mem _ hb
 ·rw [e] at hb
  unfold frs at hb
  rw [List.filterMap_cons,hf] at hb
  exact hb
theorem Inv.stkFree (I:Inv X pins σ H s):∀ b ∈ frs X.stack,H b=none:=fun b hb=>by
 rcases List.mem_cons.mp (I.stkSub b hb) with e | hb
 ·rw [e]; exact I.free
 ·obtain ⟨_,o,ho,_⟩:=I.ok.funs.mem hb
  exact I.base.free b o ho (I.ok.frf b hb) fun z=>I.ok.exfs b z hb
theorem Inv.step {g':Array GenState} {t':Nat} {d':Drawn} {ch:List Addr} (I:Inv X pins σ H s)
  (hch:∀ b ∈ ch,(b ∈ X.ex ∨ X.s₀.heap.objs.size≤b)∧b ≠ X.env.locals∧(∀ x c,X.env.cells.lookup x=some c→c ≠ b)∧∀ p ∈ X.pn ++ pins,p.1 ≠ b)
  (keep:∀ b o,b ≠ X.env.locals→b ∉ X.fs→b ∉ ch→s.heap.get? b=some o→H b=none→h'.get? b=some o)
  (slot:∀ b o,b ≠ X.env.locals→b ∈ X.fs→b ∉ ch→s.heap.get? b=some o→H b=none→∃ sl,h'.get? b=some { o with slots:=sl }) (free:∀ b o,b ∉ ch→s.heap.get? b=some o→H b=none→H' b=none)
  (there:∀ b o,b ∉ ch→s.heap.get? b=some o→∃ o',h'.get? b=some o')
  (tups:∀ b xs,H b=some (.tup xs)→H' b=some (.tup xs)) (frzs:∀ b o u,H b=some (.frz o u)→H' b=some (.frz o u)) (tbls:∀ b ps,H b=some (.tbl ps)→∃ more,H' b=some (.tbl (ps ++ more)))
  (ns:∀ m,s.heap.Ns X.env.locals m→h'.Ns X.env.locals m) (hok:HOk X.prog X.w H' h') (hg:AllBare g'):
  Inv X pins σ H' { s with heap:=h',gens:=g',drawn:=d',toks:=t' }:=by
 have neL:∀ b o,X.s₀.heap.get? b=some o→b ≠ X.env.locals:=fun b o e=>Nat.ne_of_lt (Nat.lt_of_lt_of_le (Heap.lt_size e) I.ok.above)
 have neC:∀ b o,X.s₀.heap.get? b=some o→b ∉ X.ex→b ∉ ch:=fun b o e hx hb=>by
  rcases (hch b hb).1 with z | z
  ·exact hx z
  ·exact absurd (Nat.lt_of_lt_of_le (Heap.lt_size e) z) (Nat.lt_irrefl _)
 have cellK:∀ x c,X.env.cells.lookup x=some c→∀ v,s.heap.IsCell c v→h'.IsCell c v:=fun x c e v ⟨o,ho,hd⟩=>by
  have nch:c ∉ ch:=fun z=>(hch c z).2.2.1 x c e rfl
  by_cases hc:c ∈ X.fs
  ·obtain ⟨sl,q⟩:=slot c o (I.cne x c e) hc nch ho (I.freeC x c e)
   exact ⟨_,q,hd⟩
  ·exact ⟨o,keep c o (I.cne x c e) hc nch ho (I.freeC x c e),hd⟩
 refine ⟨I.ok,I.os,hg,⟨fun b o e n hb hx=>?_,fun b o e n hb hx=>?_,fun b o e n hx=>?_,fun b o e hx=>?_,fun b xs e=>tups b xs (I.base.tups b xs e),fun b o xs e=>frzs b o xs (I.base.frzs b o xs e),fun b ps e=>?_⟩,?_,fun x c e=>?_,?_,fun x c e=>?_,fun p hp=>?_,hok,I.len⟩
 ·exact keep b o (neL b o e) hb (neC b o e hx) (I.base.keep b o e n hb hx) (I.base.free b o e n hx)
 ·obtain ⟨sl,e1⟩:=I.base.slot b o e n hb hx
  obtain ⟨sl',e2⟩:=slot b _ (neL b o e) hb (neC b o e hx) e1 (I.base.free b o e n hx)
  exact ⟨sl',e2⟩
 ·obtain ⟨o',e1⟩:=I.base.there b o e hx
  exact free b o' (neC b o e hx) e1 (I.base.free b o e n hx)
 ·obtain ⟨o',e1⟩:=I.base.there b o e hx
  exact there b o' (neC b o e hx) e1
 ·obtain ⟨m1,e1⟩:=I.base.tbls b ps e
  obtain ⟨m2,e2⟩:=tbls b _ e1
  exact ⟨m1 ++ m2,by rw [e2,Array.append_assoc]⟩
 ·obtain ⟨m,hn,hl⟩:=I.loc
  refine ⟨m,ns m hn,fun i x v e1 e2 e3=>?_⟩
  obtain ⟨u,r,l⟩:=hl i x v e1 e2 e3
  refine ⟨u,r,?_⟩
  rcases l with l | ⟨k,c,e,z⟩
  ·exact .inl l
  ·exact .inr ⟨k,c,e,cellK x c e _ z⟩
 ·obtain ⟨v,z⟩:=I.cell x c e
  exact ⟨v,cellK x c e v z⟩
 ·obtain ⟨m,⟨o,_,_,ho,_⟩,_⟩:=I.loc
  exact free _ o (fun z=>(hch _ z).2.1 rfl) ho I.free
 ·obtain ⟨v,o,ho,hd⟩:=I.cell x c e
  exact free c o (fun z=>(hch c z).2.2.1 x c e rfl) ho (I.freeC x c e)
 ·obtain ⟨e,n,ne,nf,d⟩:=I.pin p hp
  have nch:p.1 ∉ ch:=fun z=>(hch p.1 z).2.2.2 p hp rfl
  exact ⟨keep p.1 p.2 ne nf nch e n,free p.1 p.2 nch e n,ne,nf,d⟩
theorem Inv.un {t':Nat} (I:Inv X pins σ H s) (u:Un X.fs [] H H' s.heap h') (hok:HOk X.prog X.w H' h'):Inv X pins σ H' { s with heap:=h',toks:=t' }:=by
 obtain ⟨m,⟨o,es,ep,ho,r⟩,_⟩:=id I.loc
 obtain ⟨sl,hL⟩:=u.any ho I.free (by simp)
 exact I.step (g':=s.gens) (d':=s.drawn) (ch:=[]) (fun _ z=>nomatch z) (fun b o _ hb _ e n=>u.keep b o e n hb (by simp)) (fun b o _ hb _ e n=>u.slot b o e n hb (by simp)) (fun b o _ e n=>u.free b o e n (by simp)) (fun b o _ e=>u.there b o e (by simp)) u.tups u.frzs u.tbls (fun m' hm=>by
  obtain ⟨o',es',ep',ho',r'⟩:=hm
  rw [ho] at ho'; cases ho'
  exact ⟨_,es',ep',hL,r'⟩) hok I.bare
theorem Inv.call {g':Array GenState} {t':Nat} {d':Drawn} {ch:List Addr} (I:Inv X pins σ H s) (u:Un (frs X.stack) ch H H' s.heap h') (hok:HOk X.prog X.w H' h') (hg:AllBare g')
  (hch:∀ b ∈ ch,(b ∈ X.ex ∨ X.s₀.heap.objs.size≤b)∧b ≠ X.env.locals∧(∀ x c,X.env.cells.lookup x=some c→c ≠ b)∧∀ p ∈ X.pn ++ pins,p.1 ≠ b):
  Inv X pins σ H' { s with heap:=h',gens:=g',drawn:=d',toks:=t' }:=by
 obtain ⟨m,⟨o,es,ep,ho,r⟩,_⟩:=id I.loc
 obtain ⟨sl,hL⟩:=u.any ho I.free fun z=>(hch _ z).2.1 rfl
 exact I.step (ch:=ch) hch (fun b o hL hb hc e n=>u.keep b o e n (fun z=>(List.mem_cons.mp (I.stkSub b z)).elim hL hb) hc) (fun b o _ _ hc e n=>u.any e n hc) (fun b o hc e n=>u.free b o e n hc) (fun b o hc e=>u.there b o e hc) u.tups u.frzs u.tbls (fun m' hm=>by
  obtain ⟨o',es',ep',ho',r'⟩:=hm
  rw [ho] at ho'; cases ho'
  exact ⟨_,es',ep',hL,r'⟩) hok hg
theorem Inv.turned {t':Nat} {it:Addr} (I:Inv X pins σ H s) (k:∀ b o,b ≠ it→s.heap.get? b=some o→h'.get? b=some o) (hn:H it=none) (hL:it ≠ X.env.locals)
  (h1:it ∈ X.ex ∨ X.s₀.heap.objs.size≤it) (h2:∀ x c,X.env.cells.lookup x=some c→c ≠ it) (h3:∀ p ∈ X.pn ++ pins,p.1 ≠ it):Inv X pins σ H { s with heap:=h',toks:=t' }:=by
 have nit:∀ b u,H b=some u→b ≠ it:=fun b u e z=>by rw [z,hn] at e; cases e
 refine I.step (g':=s.gens) (d':=s.drawn) (ch:=[it]) (fun b hb=>?_) (fun b o _ _ hc e _=>k b o (fun z=>hc (by simp [z])) e) (fun b o _ _ hc e _=>⟨o.slots,k b o (fun z=>hc (by simp [z])) e⟩) (fun _ _ _ _ n=>n)
  (fun b o hc e=>⟨o,k b o (fun z=>hc (by simp [z])) e⟩) (fun _ _ e=>e) (fun _ _ _ e=>e) (fun b ps e=>⟨#[],by rw [e]; simp⟩) (fun m hm=>?_) (fun b u e=>?_) I.bare
 ·have e:b=it:=by simpa using hb
  subst e
  exact ⟨h1,hL,h2,h3⟩
 ·obtain ⟨o,es,ep,ho,r⟩:=hm
  exact ⟨o,es,ep,k _ o (Ne.symm hL) ho,r⟩
 ·refine (I.hok b u e).stay (fun c v hc q=>k c v ?_ q) (fun _ q=>q) fun _ _ q=>q
  rcases hc with z | z
  ·rw [z]; exact nit b u e
  ·exact nit c _ z
theorem Inv.tok (I:Inv X pins σ H s) (t:Nat):Inv X pins σ H { s with toks:=t }:=I.un (h':=s.heap) (t':=t) Un.refl I.hok
theorem Inv.kept {t':Nat} (I:Inv X pins σ H s) (k:∀ b u,s.heap.get? b=some u→h'.get? b=some u):Inv X pins σ H { s with heap:=h',toks:=t' }:=I.un (Un.kept k) (I.hok.kept k)
theorem Inv.laid {a:Addr} {o:HO} {t':Nat} (I:Inv X pins σ H s) (k:∀ b u,s.heap.get? b=some u→h'.get? b=some u) (hp:s.heap.objs.size≤a) (new:ObjOk X.prog X.w (upd H a o) h' a o):
  Inv X pins σ (upd H a o) { s with heap:=h',toks:=t' }:=I.un (Un.laid k hp (I.hok.fresh hp)) (I.hok.laid k hp new)
theorem Inv.write {x e:Addr} {o:HO} {t':Nat} (I:Inv X pins σ H s) (mu:Mut (H x)) (he:e=x ∨ H e=some (.own x)) (k:∀ b u,b ≠ e→s.heap.get? b=some u→h'.get? b=some u) (heo:∃ u,h'.get? e=some u)
  (new:ObjOk X.prog X.w (upd H x o) h' x o):Inv X pins σ (upd H x o) { s with heap:=h',toks:=t' }:=I.un (Un.write mu he k heo) (I.hok.write mu he k heo new)
theorem Inv.pins_of {pins':List (Addr × Obj)} (I:Inv X pins σ H s) (h:∀ p ∈ pins',s.heap.get? p.1=some p.2∧H p.1=none∧p.1 ≠ X.env.locals∧p.1 ∉ X.fs∧∀ v,p.2.data ≠ .cell v):Inv X pins' σ H s:=
 ⟨I.ok,I.os,I.bare,I.base,I.loc,I.cell,I.free,I.freeC,fun p hp=>(List.mem_append.mp hp).elim (fun z=>I.pin p (List.mem_append_left _ z)) (h p),I.hok,I.len⟩
theorem nodup_ix {N:List Str} (hN:N.Nodup) {i j:Nat} {x:Str} (a:N[i]?=some x) (b:N[j]?=some x):i=j:=by
 obtain ⟨h1,e1⟩:=List.getElem?_eq_some_iff.mp a
 obtain ⟨h2,e2⟩:=List.getElem?_eq_some_iff.mp b
 exact (List.getElem_inj hN).mp (e1.trans e2.symm)
theorem store_ok2 {M:Model} {A:Around} {E:Value→Shared→Prop} {i:Nat} {x:Str} {v:V} {u:Value} {Q:Unit→Shared→Prop} (I:Inv X pins σ H s) (hN:X.N.Nodup) (hi:X.N[i]?=some x) (hx:Loc X.env.scope x) (r:RelV v u)
  (h:∀ s',Inv X pins (σ.set i (some v)) H s'→(∃ a,Heap.SameBut a s.heap s'.heap∧(a=X.env.locals ∨ X.env.cells.lookup x=some a))→Q () s') (hf:X.fn x=true ∨ X.env.scope.names.lookup x=some .local):wpAny M A (storeName X.env x u) Q E s:=by
 obtain ⟨m,hn,hl⟩:=id I.loc
 have hcls:(X.env.scope.kind == .class || (X.env.scope.kind == .module && X.env.locals != X.env.globals))=false:=by rw [I.ok.kind]; rfl
 have hiσ:i < σ.length:=by rw [I.len]; exact (List.getElem?_eq_some_iff.mp hi).1
 have cne:=I.cne
 have tracked:∀ {a:Addr} {h':Heap},(∃ o,s.heap.get? a=some o∧H a=none)→Heap.SameBut a s.heap h'→HOk X.prog X.w H h':=fun {a h'} ha hs b ob e=>by
  obtain ⟨_,_,hfree⟩:=ha
  refine (I.hok b ob e).stay (fun c w' hc q=>(hs.2 c ?_).trans q) (fun _ q=>q) fun _ _ q=>q
  rintro rfl
  rcases hc with rfl | hc
  ·rw [hfree] at e; cases e
  ·rw [hfree] at hc; cases hc
 rcases hx with hk | hk
 ·refine wpAny_storeName_local hk hn (fun h' hn' hs=>?_) hcls
  obtain ⟨oL,_,_,hoL,_⟩:=id hn
  refine h _ ⟨I.ok,I.os,I.bare,⟨fun b o e n hb hx=>?_,fun b o e n hb hx=>?_,I.base.free,fun b o e hx=>?_,I.base.tups,I.base.frzs,I.base.tbls⟩,⟨_,hn',fun j y v' e1 e2 e3=>?_⟩,fun y c e=>?_,I.free,I.freeC,fun p hp=>?_,tracked ⟨oL,hoL,I.free⟩ hs,by simpa using I.len⟩ ⟨_,hs,.inl rfl⟩
  ·exact (hs.2 b (Nat.ne_of_lt (Nat.lt_of_lt_of_le (Heap.lt_size e) I.ok.above))).trans (I.base.keep b o e n hb hx)
  ·obtain ⟨sl,e1⟩:=I.base.slot b o e n hb hx
   exact ⟨sl,(hs.2 b (Nat.ne_of_lt (Nat.lt_of_lt_of_le (Heap.lt_size e) I.ok.above))).trans e1⟩
  ·obtain ⟨o',e1⟩:=I.base.there b o e hx
   exact ⟨o',(hs.2 b (Nat.ne_of_lt (Nat.lt_of_lt_of_le (Heap.lt_size e) I.ok.above))).trans e1⟩
  ·by_cases hj:j=i
   ·subst hj
    rw [hi] at e1; cases e1
    rw [List.getElem?_set_self hiσ] at e2
    cases e2
    exact ⟨u,r,.inl ⟨hk,by simp⟩⟩
   ·rw [List.getElem?_set_ne (Ne.symm hj)] at e2
    obtain ⟨u',r',q⟩:=hl j y v' e1 e2 e3
    refine ⟨u',r',?_⟩
    rcases q with ⟨k,e⟩ | ⟨k,c,e,z⟩
    ·refine .inl ⟨k,?_⟩
     have:y ≠ x:=fun e=>hj (nodup_ix hN e1 (e ▸ hi))
     simp [this,e]
    ·exact .inr ⟨k,c,e,z.sameBut hs (cne y c e)⟩
  ·obtain ⟨w',z⟩:=I.cell y c e
   exact ⟨w',z.sameBut hs (cne y c e)⟩
  ·obtain ⟨e,n,ne,nf,d⟩:=I.pin p hp
   exact ⟨(hs.2 p.1 ne).trans e,n,ne,nf,d⟩
 ·have hfn:X.fn x=true:=by
   rcases hf with z | z
   ·exact z
   ·rw [z] at hk; cases hk
  obtain ⟨c,hc⟩:=I.ok.has x (.inl hk)
  obtain ⟨w',z⟩:=I.cell x c hc
  refine wpAny_storeName_cell I.ok.kind hk hc z (fun h' hc' hs=>?_)
  obtain ⟨oc,hoc,hocd⟩:=id z
  refine h { s with heap:=h' } ⟨I.ok,I.os,I.bare,⟨fun b o e n hb hx=>?_,fun b o e n hb hx=>?_,I.base.free,fun b o e hx=>?_,I.base.tups,I.base.frzs,I.base.tbls⟩,⟨m,hn.sameBut hs (Ne.symm (cne x c hc)),fun j y v' e1 e2 e3=>?_⟩,fun y c' e=>?_,I.free,I.freeC,fun p hp=>?_,tracked ⟨oc,hoc,I.freeC x c hc⟩ hs,by simpa using I.len⟩ ⟨c,hs,.inr hc⟩
  ·exact (hs.2 b (Nat.ne_of_lt (Nat.lt_of_lt_of_le (Heap.lt_size e) (I.ok.cab x c hfn hc)))).trans (I.base.keep b o e n hb hx)
  ·obtain ⟨sl,e1⟩:=I.base.slot b o e n hb hx
   exact ⟨sl,(hs.2 b (Nat.ne_of_lt (Nat.lt_of_lt_of_le (Heap.lt_size e) (I.ok.cab x c hfn hc)))).trans e1⟩
  ·obtain ⟨o',e1⟩:=I.base.there b o e hx
   exact ⟨o',(hs.2 b (Nat.ne_of_lt (Nat.lt_of_lt_of_le (Heap.lt_size e) (I.ok.cab x c hfn hc)))).trans e1⟩
  ·by_cases hj:j=i
   ·subst hj
    rw [hi] at e1; cases e1
    rw [List.getElem?_set_self hiσ] at e2
    cases e2
    exact ⟨u,r,.inr ⟨.inl hk,c,hc,hc'⟩⟩
   ·rw [List.getElem?_set_ne (Ne.symm hj)] at e2
    obtain ⟨u',r',q⟩:=hl j y v' e1 e2 e3
    refine ⟨u',r',?_⟩
    rcases q with q | ⟨k,c',e,z'⟩
    ·exact .inl q
    ·refine .inr ⟨k,c',e,z'.sameBut hs ?_⟩
     rintro rfl
     exact hj (nodup_ix hN e1 (I.ok.inj _ _ _ e hc ▸ hi))
  ·by_cases hcc:c'=c
   ·subst hcc; exact ⟨_,hc'⟩
   ·obtain ⟨w2,z2⟩:=I.cell y c' e
    exact ⟨w2,z2.sameBut hs hcc⟩
  ·obtain ⟨e,n,ne,nf,d⟩:=I.pin p hp
   refine ⟨(hs.2 p.1 ?_).trans e,n,ne,nf,d⟩
   intro q
   rw [q,hoc] at e
   have q':oc=p.2:=Option.some.inj e
   exact d w' (by rw [← q']; exact hocd)
theorem store_ok {M:Model} {A:Around} {E:Value→Shared→Prop} {i:Nat} {x:Str} {v:V} {u:Value} {Q:Unit→Shared→Prop} (I:Inv X pins σ H s) (hN:X.N.Nodup) (hi:X.N[i]?=some x) (hx:Loc X.env.scope x) (r:RelV v u)
  (h:∀ s',Inv X pins (σ.set i (some v)) H s'→Q () s') (hf:X.fn x=true ∨ X.env.scope.names.lookup x=some .local):wpAny M A (storeName X.env x u) Q E s:=
 store_ok2 I hN hi hx r (fun s' I' _=>h s' I') hf
theorem Inv.call' {s':Shared} {ch:List Addr} (I:Inv X pins σ H s) (ho:s'.os=s.os) (u:Un (frs X.stack) ch H H' s.heap s'.heap) (hok:HOk X.prog X.w H' s'.heap) (hg:AllBare s'.gens)
  (hch:∀ b ∈ ch,(b ∈ X.ex ∨ X.s₀.heap.objs.size≤b)∧b ≠ X.env.locals∧(∀ x c,X.env.cells.lookup x=some c→c ≠ b)∧∀ p ∈ X.pn ++ pins,p.1 ≠ b):Inv X pins σ H' s':=by
 obtain ⟨h',g',d',t',o'⟩:=s'
 have e:o'=s.os:=ho
 subst e
 exact I.call (g':=g') (t':=t') (d':=d') u hok hg hch
end
noncomputable abbrev XK:=Value→Option Addr→Hp→Prop
noncomputable abbrev St:=List (Option V)
noncomputable abbrev VK:=V→Hp→Prop
noncomputable abbrev TE:=St→Hp→VK→Prop
noncomputable abbrev TT:=St→Hp→(Bool→Hp→Prop)→Prop
noncomputable abbrev TA:=St→Hp→(List V→Hp→Prop)→Prop
set_option genInjectivity false in
structure Ends where
 nx:St→Hp→Prop
 rt:VK
 bk:St→Hp→Prop:=fun _ _=>False
 ct:St→Hp→Prop:=fun _ _=>False
noncomputable abbrev TS:=Ends→St→Hp→Prop
noncomputable def EP (X:Cx) (pins:List (Addr × Obj)) (σ:St) (Q:VK) (u:Value) (s':Shared):Prop:=∃ v H',Inv X pins σ H' s'∧RelV v u∧Q v H'
noncomputable def TP (X:Cx) (pins:List (Addr × Obj)) (σ:St) (Q:Bool→Hp→Prop) (b:Bool) (s':Shared):Prop:=∃ H',Inv X pins σ H' s'∧Q b H'
noncomputable def AP (X:Cx) (pins:List (Addr × Obj)) (σ:St) (Q:List V→Hp→Prop) (us:List Value) (s':Shared):Prop:=∃ vs H',Inv X pins σ H' s'∧Vals vs us∧Q vs H'
noncomputable def SP (X:Cx) (pins:List (Addr × Obj)) (D:Ends) (f:Flow) (s':Shared):Prop:=
 match f with
 | .next=>∃ σ' H',Inv X pins σ' H' s'∧D.nx σ' H'
 | .brk=>∃ σ' H',Inv X pins σ' H' s'∧D.bk σ' H'
 | .cont=>∃ σ' H',Inv X pins σ' H' s'∧D.ct σ' H'
 | .ret u=>∃ v σ' H',Inv X pins σ' H' s'∧RelV v u∧D.rt v H'
noncomputable def PE (X:Cx) (e:Expr) (t:TE):Prop:=
 ∀ (pins:List (Addr × Obj)) (s:Shared) (σ:St) (H:Hp) (Q:VK),Inv X pins σ H s→t σ H Q→wpAny (model X.prog X.w) X.A (eval e X.env) (EP X pins σ Q) X.xe s
noncomputable def PT (X:Cx) (e:Expr) (t:TT):Prop:=
 ∀ (pins:List (Addr × Obj)) (s:Shared) (σ:St) (H:Hp) (Q:Bool→Hp→Prop),Inv X pins σ H s→t σ H Q→wpAny (model X.prog X.w) X.A (isTrue e X.env (eval e X.env)) (TP X pins σ Q) X.xe s
noncomputable def PW (X:Cx) (e:Expr) (t:TT):Prop:=
 ∀ (whole:Sem Value) (pins:List (Addr × Obj)) (s:Shared) (σ:St) (H:Hp) (Q:Bool→Hp→Prop),Inv X pins σ H s→t σ H Q→wpAny (model X.prog X.w) X.A (isTrue e X.env whole) (TP X pins σ Q) X.xe s
theorem PW.pt {X:Cx} {e:Expr} {t:TT} (h:PW X e t):PT X e t:=h _
noncomputable def PA (X:Cx) (es:List Expr) (t:TA):Prop:=
 ∀ (pos:Pos) (pins:List (Addr × Obj)) (s:Shared) (σ:St) (H:Hp) (Q:List V→Hp→Prop),Inv X pins σ H s→t σ H Q→wpAny (model X.prog X.w) X.A (spliced (backTo pos (starEach es X.env))) (AP X pins σ Q) X.xe s
noncomputable def PS (X:Cx) (st:Stmt) (t:TS):Prop:=
 ∀ (pins:List (Addr × Obj)) (s:Shared) (σ:St) (H:Hp) (D:Ends),Inv X pins σ H s→t D σ H→wpAny (model X.prog X.w) X.A (exec st X.env) (SP X pins D) X.xe s
noncomputable def PSs (X:Cx) (st:List Stmt) (t:TS):Prop:=
 ∀ (pins:List (Addr × Obj)) (s:Shared) (σ:St) (H:Hp) (D:Ends),Inv X pins σ H s→t D σ H→wpAny (model X.prog X.w) X.A (execs st X.env) (SP X pins D) X.xe s
theorem thn {α:Type} {t:Sem α} {Q Q':α→Shared→Prop} {M:Model} {A:Around} {E:Value→Shared→Prop} {s:Shared} (h:wpAny M A t Q E s) (hQ:∀ a s,Q a s→Q' a s):wpAny M A t Q' E s:=wpAny_mono h hQ fun _ _ x=>x
end L2
namespace L2
open PySem PySem.Spec PyProof.Rows
section
variable {X:Cx}
noncomputable def tVar (i:Nat):TE:=fun σ H Q=>∃ v,σ[i]?=some (some v)∧Q v H
noncomputable def tC (v:V):TE:=fun _ H Q=>Q v H
theorem pe_var {i:Nat} {x:Str} {pos:Pos} (hN:X.N[i]?=some x) (hv:Vis X.env.scope x) (hd:autoParam ((x == ("__debug__":Str))=false) Au.h2._auto_1) (hcd:autoParam ((x == ("__classdict__":Str))=false) Au.h2._auto_1):PE X (.Name x pos) (tVar i):=by
 intro pins s σ H Q I h
 obtain ⟨v,e,h⟩:=h
 obtain ⟨m,hn,hl⟩:=I.loc
 obtain ⟨u,r,l⟩:=hl i x v hN e hv
 have fin:EP X pins σ Q u s:=⟨v,H,I,r,h⟩
 rcases l with ⟨hk,hm⟩ | ⟨hk,c,hc,hcell⟩
 ·exact wpAny_Name (wpAny_loadName_local I.ok.kind hk hn hm fin) hd
 ·rcases hk with hk | hk
  ·exact wpAny_Name (wpAny_loadName_cell I.ok.kind hk hc hcell fin) hd
  ·exact wpAny_Name (wpAny_loadName_free I.ok.kind hk hc hcell fin hcd) hd
theorem pe_int {i j pos}:PE X (.Constant (.int i) j pos) (tC (.int i)):=fun _ _ _ H _ I h=>wpAny_Constant_int ⟨.int i,H,I.tok _,⟨_,rfl⟩,h⟩
theorem pe_bl {b j pos}:PE X (.Constant (.bool b) j pos) (tC (.bl b)):=fun _ _ _ H _ I h=>Constant_bool ⟨.bl b,H,I,rfl,h⟩
theorem pe_non {j pos}:PE X (.Constant .none j pos) (tC .non):=fun _ _ _ H _ I h=>Constant_none ⟨.non,H,I,rfl,h⟩
noncomputable def Gl (X:Cx) (x:Str):Prop:=X.env.kindOf x=some .globalImplicit
theorem ld_glob {E:Value→Shared→Prop} {pins:List (Addr × Obj)} {s:Shared} {σ:St} {H:Hp} {x:Str} {u:Value} {pos:Pos} {Q:Value→Shared→Prop} (I:Inv X pins σ H s) (hg:Gl X x) (hm:X.mg x=some u) (h:Q u s)
  (hd:autoParam ((x == ("__debug__":Str))=false) Au.h2._auto_1):wpAny (model X.prog X.w) X.A (eval (.Name x pos) X.env) Q E s:=
 Calls.Name_function_global I.ok.kind hg (Calls.loadGlobal_global (by rw [I.ok.glob]; exact I.mod.glob.keeps I.bk) hm h) hd
theorem ld_blt {E:Value→Shared→Prop} {pins:List (Addr × Obj)} {s:Shared} {σ:St} {H:Hp} {x:Str} {u:Value} {pos:Pos} {Q:Value→Shared→Prop} (I:Inv X pins σ H s) (hg:Gl X x) (hm:X.mg x=none) (hv:bootBuiltins x=some u) (h:Q u s)
  (hn:autoParam (x ≠ "__name__") Au.h2._auto_1) (hd:autoParam ((x == ("__debug__":Str))=false) Au.h2._auto_1):wpAny (model X.prog X.w) X.A (eval (.Name x pos) X.env) Q E s:=by
 obtain ⟨mb,h1,h2⟩:=I.mod.blt
 exact Calls.Name_function_global I.ok.kind hg (Calls.loadGlobal_builtin (by rw [I.ok.glob]; exact I.mod.glob.keeps I.bk) hm (by rw [I.ok.blt]; exact h1.keeps I.bk) ((h2 x hn).trans hv) h) hd
theorem pe_glob {x:Str} {v:V} {u:Value} {pos:Pos} (hg:Gl X x) (hm:X.mg x=some u) (r:RelV v u) (hd:autoParam ((x == ("__debug__":Str))=false) Au.h2._auto_1):PE X (.Name x pos) (tC v):=
 fun _ _ _ H _ I h=>ld_glob I hg hm ⟨v,H,I,r,h⟩ hd
theorem pe_bltn {x:Str} {v:V} {u:Value} {pos:Pos} (hg:Gl X x) (hm:X.mg x=none) (hv:bootBuiltins x=some u) (r:RelV v u) (hn:autoParam (x ≠ "__name__") Au.h2._auto_1) (hd:autoParam ((x == ("__debug__":Str))=false) Au.h2._auto_1):PE X (.Name x pos) (tC v):=
 fun _ _ _ H _ I h=>ld_blt I hg hm hv ⟨v,H,I,r,h⟩ hn hd
variable {a b:Expr} {ta tb:TE} {pos:Pos}
noncomputable def tB (t:TE):TT:=fun σ H Q=>t σ H fun x H1=>∃ c,x=.bl c∧Q c H1
theorem pt_val {e:Expr} {t:TE} (h:PE X e t) (he:autoParam (∀ whole,isTrue e X.env whole=(do let v ← whole; standAt e.pos; holding [v] (truthy v))) Au.h5._auto_1):PT X e (tB t):=by
 intro pins s σ H Q I hw
 refine isTrue_plain (thn (h pins s σ H _ I hw) fun v s1 zq=>?_) (he _)
 obtain ⟨x,H1,I1,r1,q1⟩:=zq
 obtain ⟨d,rfl,q⟩:=q1
 cases r1
 exact wpAny_truthy_bool ⟨H1,I1,q⟩
variable {tA tB':TT} {rest:List Expr}
noncomputable def tOr (t u:TT):TT:=fun σ H Q=>t σ H fun c H1=>if c=true then Q true H1 else u σ H1 Q
noncomputable def tNot (t:TT):TT:=fun σ H Q=>t σ H fun c H1=>Q (!c) H1
theorem pw_or1 (ha:PT X a tA):PW X (.BoolOp .Or [a] pos) tA:=by
 intro wh pins s σ H Q I h
 refine isTrue_or (thn (ha pins s σ H Q I h) fun c s1 e=>?_)
 cases c with
 | false=>exact isTrue_or_nil e
 | true=>exact e
theorem pw_or (ha:PT X a tA) (hb:PW X (.BoolOp .Or (b :: rest) pos) tB'):PW X (.BoolOp .Or (a :: b :: rest) pos) (tOr tA tB'):=by
 intro wh pins s σ H Q I h
 refine isTrue_or (thn (ha pins s σ H _ I h) fun c s1 zq=>?_)
 obtain ⟨H1,I1,q1⟩:=zq
 cases c with
 | true=>exact ⟨H1,I1,q1⟩
 | false=>exact hb wh pins s1 σ H1 Q I1 q1
theorem pt_not (ha:PT X a tA):PT X (.UnaryOp .Not a pos) (tNot tA):=by
 intro pins s σ H Q I h
 exact isTrue_not (ha pins s σ H (fun c H1=>Q (!c) H1) I h)
noncomputable def tAndV (ta tb:TE):TE:=fun σ H Q=>ta σ H fun x H1=>∃ c,x=.bl c∧if c=true then tb σ H1 Q else Q (.bl false) H1
noncomputable def tNotV (ta:TE):TE:=fun σ H Q=>ta σ H fun x H1=>∃ c,x=.bl c∧Q (.bl (!c)) H1
theorem pe_one {op} {t:TE} (h:PE X a t):PE X (.BoolOp op [a] pos) t:=fun pins s σ H Q I hw=>BoolOp_one (h pins s σ H Q I hw)
theorem pe_and (ha:PE X a ta) (hb:PE X (.BoolOp .And (b :: rest) pos) tb):PE X (.BoolOp .And (a :: b :: rest) pos) (tAndV ta tb):=by
 intro pins s σ H Q I h
 refine BoolOp_and (thn (ha pins s σ H _ I h) fun v s1 zq=>?_)
 obtain ⟨x,H1,I1,r1,q1⟩:=zq
 obtain ⟨c,rfl,q1⟩:=q1
 cases r1
 refine wpAny_truthy_bool ?_
 cases c with
 | true=>exact hb pins s1 σ H1 Q I1 q1
 | false=>exact ⟨.bl false,H1,I1,rfl,q1⟩
theorem pe_not (ha:PE X a ta):PE X (.UnaryOp .Not a pos) (tNotV ta):=by
 intro pins s σ H Q I h
 refine UnaryOp_ (thn (ha pins s σ H _ I h) fun v s1 zq=>?_)
 obtain ⟨x,H1,I1,r1,q1⟩:=zq
 obtain ⟨c,rfl,q1⟩:=q1
 cases r1
 exact not_of (wpAny_truthy_bool ⟨.bl (!c),H1,I1,rfl,q1⟩)
noncomputable def tIf (t:TT) (ta tb:TE):TE:=fun σ H Q=>t σ H fun c H1=>if c=true then ta σ H1 Q else tb σ H1 Q
theorem pe_ifExp {c:Expr} (hc:PT X c tA) (ha:PE X a ta) (hb:PE X b tb):PE X (.IfExp c a b pos) (tIf tA ta tb):=by
 intro pins s σ H Q I h
 refine wpAny_IfExp (thn (hc pins s σ H _ I h) fun d s1 zq=>?_)
 obtain ⟨H1,I1,q1⟩:=zq
 cases d with
 | true=>exact ha pins s1 σ H1 Q I1 q1
 | false=>exact hb pins s1 σ H1 Q I1 q1
end
end L2
namespace L2
open PySem PySem.Spec PyProof.Rows
noncomputable def SqL (K:PySem.W.Frag) (H:Hp) (a:Addr) (xs:List V):Prop:=
 Rd H a (.lst xs) ∨
  ∃ (o:Obj) (its:Array Value) (n:Nat),K.lookup a=some o∧o.cls=.type "list"∧o.dict=none∧o.data=.seq its n∧its.size≤sizeLine∧Vals xs its.toList
noncomputable def SqT (K:PySem.W.Frag) (H:Hp) (a:Addr) (xs:List V):Prop:=
 Rd H a (.tup xs) ∨
  ∃ (o:Obj) (its:Array Value) (n:Nat),K.lookup a=some o∧o.cls=.type "tuple"∧o.data=.seq its n∧its.size≤sizeLine∧Vals xs its.toList
noncomputable def absV:Value→Option V
 | .none=>some .non
 | .bool b=>some (.bl b)
 | .int i _=>some (.int i)
 | .str x _=>some (.str x)
 | .bytes b _=>some (.byt b)
 | .float b _=>some (.flt b)
 | .ref a=>some (.ref a)
 | .type n=>some (.ty n)
 | _=>none
theorem RelV.abs {x:V} {u:Value} (r:RelV x u):absV u=some x:=by
 cases x with
 | non=>cases r; rfl
 | bl _=>cases r; rfl
 | int _=>obtain ⟨t,rfl⟩:=r; rfl
 | str _=>obtain ⟨t,rfl⟩:=r; rfl
 | byt _=>obtain ⟨t,rfl⟩:=r; rfl
 | flt _=>obtain ⟨t,rfl⟩:=r; rfl
 | ref _=>cases r; rfl
 | ty _=>cases r; rfl
theorem RelV.inj {x y:V} {u:Value} (r:RelV x u) (q:RelV y u):x=y:=Option.some.inj (r.abs.symm.trans q.abs)
theorem Vals.inj:∀ {xs ys:List V} {us:List Value},Vals xs us→Vals ys us→xs=ys
 | _,_,_,.nil,.nil=>rfl
 | _,_,_,.cons r t,.cons r' t'=>by rw [r.inj r',Vals.inj t t']
section
variable {X:Cx} {pins:List (Addr × Obj)} {σ:St} {H:Hp} {s:Shared} {a:Addr} {xs ys:List V}
theorem SqL.of {K:PySem.W.Frag} (h:H a=some (.lst xs)):SqL K H a xs:=.inl (.inl h)
theorem SqT.of {K:PySem.W.Frag} (h:H a=some (.tup xs)):SqT K H a xs:=.inl (.inl h)
theorem Inv.list (I:Inv X pins σ H s) (h:SqL X.K H a xs):∃ its:List Value,Vals xs its∧PlainL s.heap a its.toArray∧xs.length≤sizeLine:=by
 rcases h with h | ⟨o,its,n,hk,hc,hd,hs,hz,r⟩
 ·obtain ⟨z,its,n,r,e⟩:=h.ok I.hok
  exact ⟨its,r,⟨_,n,e,rfl,rfl,rfl⟩,z⟩
 ·refine ⟨its.toList,r,⟨o,n,I.kIn a o hk,hc,hd,by simpa using hs⟩,?_⟩
  have e:=r.length
  simp only [Array.length_toList] at e
  omega
theorem Inv.tuple (I:Inv X pins σ H s) (h:SqT X.K H a xs):∃ its:List Value,Vals xs its∧IsTup s.heap a its.toArray∧xs.length≤sizeLine:=by
 rcases h with h | ⟨o,its,n,hk,hc,hs,hz,r⟩
 ·obtain ⟨z,its,r,p⟩:=h.ok I.hok
  exact ⟨its,r,p,z⟩
 ·refine ⟨its.toList,r,⟨o,I.kIn a o hk,hc,n,by simpa using hs⟩,?_⟩
  have e:=r.length
  simp only [Array.length_toList] at e
  omega
theorem Inv.list_inj (I:Inv X pins σ H s) (h:SqL X.K H a xs) (h':SqL X.K H a ys):xs=ys:=by
 obtain ⟨its,r,⟨o,n,e,_,_,d⟩,_⟩:=I.list h
 obtain ⟨its',r',⟨o',n',e',_,_,d'⟩,_⟩:=I.list h'
 rw [e] at e'; cases e'
 rw [d] at d'
 injection d' with d1 _
 have:its=its':=by simpa using congrArg Array.toList d1
 subst this
 exact r.inj r'
theorem Inv.tuple_inj (I:Inv X pins σ H s) (h:SqT X.K H a xs) (h':SqT X.K H a ys):xs=ys:=by
 obtain ⟨its,r,⟨o,e,_,n,d⟩,_⟩:=I.tuple h
 obtain ⟨its',r',⟨o',e',_,n',d'⟩,_⟩:=I.tuple h'
 rw [e] at e'; cases e'
 rw [d] at d'
 injection d' with d1 _
 have:its=its':=by simpa using congrArg Array.toList d1
 subst this
 exact r.inj r'
end
noncomputable abbrev Cx.wish (X:Cx) (E:Value→Shared→Prop):Cx:={ X with xe:=E }
noncomputable abbrev Cx.nox (X:Cx):Cx:=X.wish fun _ _=>False
theorem Cx.Ok.wish {X:Cx} (ok:X.Ok) (E:Value→Shared→Prop):(X.wish E).Ok:=
 ⟨ok.mod,ok.kind,ok.glob,ok.blt,ok.above,ok.inj,ok.has,ok.cab,ok.hd,ok.frames,ok.stk,ok.exf,ok.bs,ok.bsz,ok.noex,ok.exfs,ok.funs,ok.frf⟩
theorem Cx.Ok.unwish {X:Cx} {E:Value→Shared→Prop} (ok:(X.wish E).Ok):X.Ok:=
 ⟨ok.mod,ok.kind,ok.glob,ok.blt,ok.above,ok.inj,ok.has,ok.cab,ok.hd,ok.frames,ok.stk,ok.exf,ok.bs,ok.bsz,ok.noex,ok.exfs,ok.funs,ok.frf⟩
section
variable {X:Cx} {pins:List (Addr × Obj)} {σ:St} {H:Hp} {s:Shared} {E:Value→Shared→Prop}
theorem Inv.wish (I:Inv X pins σ H s) (E:Value→Shared→Prop):Inv (X.wish E) pins σ H s:=⟨I.ok.wish E,I.os,I.bare,I.base,I.loc,I.cell,I.free,I.freeC,I.pin,I.hok,I.len⟩
theorem Inv.unwish (I:Inv (X.wish E) pins σ H s):Inv X pins σ H s:=⟨I.ok.unwish,I.os,I.bare,I.base,I.loc,I.cell,I.free,I.freeC,I.pin,I.hok,I.len⟩
theorem SP.unwish {D:Ends} {f:Flow} {s':Shared} (h:SP (X.wish E) pins D f s'):SP X pins D f s':=by
 cases f with
 | next=>obtain ⟨σ',H',I,q⟩:=h; exact ⟨σ',H',I.unwish,q⟩
 | brk=>obtain ⟨σ',H',I,q⟩:=h; exact ⟨σ',H',I.unwish,q⟩
 | cont=>obtain ⟨σ',H',I,q⟩:=h; exact ⟨σ',H',I.unwish,q⟩
 | ret u=>obtain ⟨v,σ',H',I,r,q⟩:=h; exact ⟨v,σ',H',I.unwish,r,q⟩
theorem PSs.nox {st:List Stmt} {t:TS} (h:PSs X.nox st t):PSs X st t:=fun pins s σ H D I hw=>
 wpAny_mono (h pins s σ H D (I.wish _) hw) (fun _ _ q=>q.unwish) fun _ _ z=>False.elim z
end
section
variable {X:Cx} {st:Stmt} {rest:List Stmt} {t u:TS} {e:Expr} {te:TE} {pos:Pos}
noncomputable def tNext:TS:=fun D σ H=>D.nx σ H
noncomputable def tSeq (t u:TS):TS:=fun D σ H=>t { D with nx:=u D } σ H
theorem pss_nil:PSs X [] tNext:=fun _ _ σ H _ I h=>wpAny_execs_nil ⟨σ,H,I,h⟩
theorem pss_cons (h1:PS X st t) (h2:PSs X rest u):PSs X (st :: rest) (tSeq t u):=by
 intro pins s σ H D I h
 refine wpAny_execs_cons (thn (h1 pins s σ H { D with nx:=u D } I h) fun f s1 q=>?_)
 cases f with
 | next=>
  obtain ⟨σ',H',I',q⟩:=q
  exact h2 pins s1 σ' H' D I' q
 | ret v=>exact q
 | brk=>exact q
 | cont=>exact q
theorem pss_one (h1:PS X st t):PSs X [st] t:=by
 intro pins s σ H D I h
 refine wpAny_execs_cons (thn (h1 pins s σ H D I h) fun f s1 q=>?_)
 cases f with
 | next=>exact wpAny_execs_nil q
 | ret v=>exact q
 | brk=>exact q
 | cont=>exact q
theorem Inv.quiet {pins:List (Addr × Obj)} {σ:St} {H:Hp} {s:Shared} (I:Inv X pins σ H s):interactive X.env=false:=by simp [interactive,I.ok.kind]
noncomputable def tDrop (te:TE):TS:=fun D σ H=>te σ H fun _ H1=>D.nx σ H1
theorem ps_expr (he:PE X e te) (hs:autoParam (swapsWith e none pos.line X.env=pure false) Au.h1._auto_1):PS X (.Expr e pos) (tDrop te):=by
 intro pins s σ H D I h
 exact wpAny_Expr_any (thn (he pins s σ H _ I h) fun v s1 zq=>ex5 zq fun x H1 I1 r1 q1=>⟨σ,H1,I1,q1⟩) I.quiet hs
noncomputable def tRet (te:TE):TS:=fun D σ H=>te σ H D.rt
theorem ps_ret (he:PE X e te):PS X (.Return (some e) pos) (tRet te):=by
 intro pins s σ H D I h
 exact wpAny_Return_some (thn (he pins s σ H _ I h) fun v s1 zq=>ex5 zq fun x H1 I1 r1 q1=>⟨x,σ,H1,I1,r1,q1⟩)
noncomputable def tIfS (c:TT) (t u:TS):TS:=fun D σ H=>c σ H fun b H1=>if b=true then t D σ H1 else u D σ H1
theorem ps_if {c:Expr} {a b:List Stmt} {tc:TT} (hc:PT X c tc) (ha:PSs X a t) (hb:PSs X b u):PS X (.If c a b pos) (tIfS tc t u):=by
 intro pins s σ H D I h
 refine wpAny_If (thn (hc pins s σ H _ I h) fun d s1 zq=>?_)
 obtain ⟨H1,I1,q1⟩:=zq
 cases d with
 | true=>exact ha pins s1 σ H1 D I1 q1
 | false=>exact hb pins s1 σ H1 D I1 q1
noncomputable def tNever:TS:=fun _ _ _=>False
theorem ps_never:PS X st tNever:=fun _ _ _ _ _ _ h=>h.elim
end
noncomputable abbrev TG:=V→St→Hp→(St→Hp→Prop)→Prop
noncomputable abbrev TGs:=List V→St→Hp→(St→Hp→Prop)→Prop
noncomputable def PG (X:Cx) (target:Expr) (t:TG):Prop:=
 ∀ (pins:List (Addr × Obj)) (s:Shared) (σ:St) (H:Hp) (v:V) (u:Value) (Q:St→Hp→Prop),Inv X pins σ H s→RelV v u→t v σ H Q→
  wpAny (model X.prog X.w) X.A (assign target X.env u) (fun _ s'=>∃ σ' H',Inv X pins σ' H' s'∧Q σ' H') X.xe s
noncomputable def PGs (X:Cx) (ts:List Expr) (t:TGs):Prop:=
 ∀ (pins:List (Addr × Obj)) (s:Shared) (σ:St) (H:Hp) (vs:List V) (us:List Value) (Q:St→Hp→Prop),Inv X pins σ H s→Vals vs us→t vs σ H Q→
  wpAny (model X.prog X.w) X.A (assignInOrder ((assignEach ts X.env).map (·.2)) us) (fun _ s'=>∃ σ' H',Inv X pins σ' H' s'∧Q σ' H') X.xe s
noncomputable abbrev TSet:=V→V→V→Hp→(Hp→Prop)→Prop
noncomputable def PSet (X:Cx) (t:TSet):Prop:=
 ∀ (pins:List (Addr × Obj)) (s:Shared) (σ:St) (H:Hp) (o i v:V) (ov iv u:Value) (Q:Hp→Prop),Inv X pins σ H s→RelV o ov→RelV i iv→RelV v u→t o i v H Q→
  wpAny (model X.prog X.w) X.A (setItem ov iv u) (fun _ s'=>∃ H',Inv X pins σ H' s'∧Q H') X.xe s
section
variable {X:Cx} {pos:Pos}
noncomputable def gName (i:Nat):TG:=fun v σ H Q=>Q (σ.set i (some v)) H
theorem pg_name {i:Nat} {x:Str} (hN:X.N.Nodup) (hi:X.N[i]?=some x) (hx:Loc X.env.scope x) (hf:X.fn x=true ∨ X.env.scope.names.lookup x=some .local):PG X (.Name x pos) (gName i):=by
 intro pins s σ H v u Q I r h
 exact wpAny_assign_Name (store_ok I hN hi hx r (fun s' I'=>⟨_,H,I',h⟩) hf)
noncomputable def gNil:TGs:=fun vs σ H Q=>vs=[]∧Q σ H
noncomputable def gCons (t:TG) (u:TGs):TGs:=fun vs σ H Q=>∃ v r,vs=v :: r∧t v σ H fun σ' H'=>u r σ' H' Q
theorem pgs_nil:PGs X [] gNil:=by
 intro pins s σ H vs us Q I r h
 obtain ⟨e,h⟩:=h
 subst e
 cases r
 exact assignInOrder_nil ⟨σ,H,I,h⟩
theorem pgs_cons {e:Expr} {es:List Expr} {t:TG} {u:TGs} (h1:PG X e t) (h2:PGs X es u)
  (hs:autoParam ((assignEach (e :: es) X.env).map (·.2)=assign e X.env :: (assignEach es X.env).map (·.2)) Au.h1._auto_1):PGs X (e :: es) (gCons t u):=by
 intro pins s σ H vs us Q I r h
 obtain ⟨v,vr,e1,h⟩:=h
 subst e1
 cases r with
 | cons r rr=>
  rw [hs]
  refine assignInOrder_cons (thn (h1 pins s σ H _ _ _ I r h) fun _ s1 zq=>?_)
  obtain ⟨σ1,H1,I1,q1⟩:=zq
  exact h2 pins s1 σ1 H1 _ _ Q I1 rr q1
noncomputable def gTup (K:PySem.W.Frag) (n:Nat) (t:TGs):TG:=fun v σ H Q=>∃ a xs,v=.ref a∧SqT K H a xs∧xs.length=n∧t xs σ H Q
theorem pg_tup {es:List Expr} {k:Nat} {t:TGs} {n:Nat} (hc:X.calm=true) (h:PGs X es t)
  (hn:autoParam ((assignEach es X.env).length=n) Au.h1._auto_1) (hst:autoParam ((assignEach es X.env).findIdx? (·.1)=none) Au.h1._auto_1):PG X (.Tuple es k pos) (gTup X.K n t):=by
 intro pins s σ H v u Q I r hw
 obtain ⟨a,xs,e1,hq,hl,hw⟩:=hw
 subst e1
 cases r
 obtain ⟨its,rv,ht,hz⟩:=I.tuple hq
 refine assign_Tuple_tuple (I.ok.hd hc) ht (by simp [hn,← hl,rv.length]) hst fun h' hx=>?_
 have I1:Inv X pins σ H { s with heap:=h' }:=I.kept (t':=s.toks) fun b o e=>hx b o (Nat.ne_of_lt (Heap.lt_size e)) e
 exact h pins _ σ H xs _ Q I1 (by simpa using rv) hw
noncomputable def gSub (to ti:TE) (t:TSet):TG:=fun v σ H Q=>to σ H fun o H1=>ti σ H1 fun i H2=>t o i v H2 fun H3=>Q σ H3
theorem pg_sub {o i:Expr} {to ti:TE} {t:TSet} (ho:PE X o to) (hi:PE X i ti) (hs:PSet X t)
  (ha:autoParam (∀ v,assign (.Subscript o i pos) X.env v=(do
   let ov ← holding [v] (eval o X.env)
   let iv ← holding [v,ov] (eval i X.env)
   standAt pos
   holding [v,ov,iv] (setItem ov iv v)
   release [v,ov,iv] [])) Au.h5._auto_1):PG X (.Subscript o i pos) (gSub to ti t):=by
 intro pins s σ H v u Q I r h
 rw [ha]
 refine wpAny_bind (wpAny_holding (thn (ho pins s σ H _ I h) fun ov s1 zq=>?_))
 obtain ⟨x,H1,I1,r1,q1⟩:=zq
 refine wpAny_bind (wpAny_holding (thn (hi pins s1 σ H1 _ I1 q1) fun iv s2 zq=>?_))
 obtain ⟨y,H2,I2,r2,q2⟩:=zq
 refine wpAny_bind (wpAny_standAt (wpAny_bind (wpAny_holding (thn (hs pins s2 σ H2 x y v ov iv u _ I2 r1 r2 r q2) fun _ s3 zq=>?_))))
 obtain ⟨H3,I3,q3⟩:=zq
 exact wpAny_release ⟨σ,H3,I3,q3⟩
noncomputable def tAsg (te:TE) (g:TG):TS:=fun D σ H=>te σ H fun x H1=>g x σ H1 D.nx
theorem ps_asg {tg e:Expr} {te:TE} {g:TG} (he:PE X e te) (hg:PG X tg g) (hs:autoParam (swapsWithSole [tg] e pos.line X.env=pure false) Au.h1._auto_1) (hw:autoParam (swappedStores [tg] e X.env=pure none) Au.h1._auto_1)
  (h1:autoParam ((assignEach [tg] X.env).map (·.2)=[assign tg X.env]) Au.h1._auto_1):PS X (.Assign [tg] e pos) (tAsg te g):=by
 intro pins s σ H D I h
 refine wpAny_Assign_stores (thn (he pins s σ H _ I h) fun v s1 zq=>?_) hs hw
 obtain ⟨x,H1,I1,r1,q1⟩:=zq
 rw [h1]
 exact thn (hg pins s1 σ H1 x v _ I1 r1 q1) fun _ s2 q=>q
theorem ps_set {i:Nat} {x:Str} {e:Expr} {te:TE} {pos':Pos} (hN:X.N.Nodup) (hi:X.N[i]?=some x) (hx:Loc X.env.scope x) (he:PE X e te) (hs:autoParam (swapsWith e (some (.Name x pos')) pos.line X.env=pure false) Au.h1._auto_1) (hf:X.fn x=true ∨ X.env.scope.names.lookup x=some .local):
  PS X (.Assign [.Name x pos'] e pos) (tAsg te (gName i)):=by
 intro pins s σ H D I h
 refine wpAny_Assign_Name (thn (he pins s σ H _ I h) fun v s1 zq=>?_) hs
 obtain ⟨y,H1,I1,r1,q1⟩:=zq
 exact store_ok I1 hN hi hx r1 (fun s2 I2=>⟨_,H1,I2,q1⟩) hf
end
section
variable {X:Cx} {pos:Pos}
end
set_option genInjectivity false in
structure It where
 go:Nat→Hp→Prop
 yld:Nat→Hp→V→Hp→Prop
 stop:Nat→Hp→Prop
noncomputable def FpOk (X:Cx) (pins:List (Addr × Obj)) (H:Hp) (b:Addr):Prop:=
 H b=none∧b ≠ X.env.locals∧b ∉ X.fs∧(b ∈ X.ex ∨ X.s₀.heap.objs.size≤b)∧(∀ x c,X.env.cells.lookup x=some c→c ≠ b)∧∀ p ∈ X.pn ++ pins,p.1 ≠ b
theorem Inv.fpOk {X:Cx} {pins:List (Addr × Obj)} {σ:St} {H H':Hp} {s:Shared} {b:Addr} (I:Inv X pins σ H s) (hb:s.heap.objs.size≤b) (hn:H' b=none):FpOk X pins H' b:=by
 refine ⟨hn,Nat.ne_of_gt (Nat.lt_of_lt_of_le I.lt hb),I.nofs hb,.inr (Nat.le_trans I.sz hb),fun x c e z=>?_,fun p hp z=>?_⟩
 ·obtain ⟨v,q⟩:=I.cell x c e
  exact absurd (Nat.lt_of_lt_of_le q.lt (by rw [z]; exact hb)) (Nat.lt_irrefl _)
 ·exact absurd (Nat.lt_of_lt_of_le (Heap.lt_size (I.pin p hp).1) (by rw [z]; exact hb)) (Nat.lt_irrefl _)
noncomputable def QtH (X:Cx):Prop:=X.A.handled=none ∨ ∃ a o u,X.A.handled=some (.ref a)∧X.H₀ a=some (.frz o u)∧ZO o
noncomputable def Cd (qb:Bool) (X:Cx):Prop:=X.calm=true ∨ (qb=true∧QtH X)
theorem Cd.cm {X:Cx} (h:Cd false X):X.calm=true:=h.elim id fun z=>nomatch z.1
theorem Inv.qt {X:Cx} {pins:List (Addr × Obj)} {σ:List (Option V)} {H:Hp} {s:Shared} {qb:Bool} (I:Inv X pins σ H s) (h:Cd qb X):X.A.handled=none ∨ ∃ a,X.A.handled=some (.ref a)∧s.heap.Zat a:=by
 rcases h with h | ⟨_,h | ⟨a,o,u,e,q,z⟩⟩
 ·exact .inl (I.ok.hd h)
 ·exact .inl h
 ·exact .inr ⟨a,e,o,(I.hok a _ (I.base.frzs a o u q)).1,z⟩
structure Turn (qb:Bool) (P:Program) (w:World) (K:PySem.W.Frag) (tg:Expr) (J:It) (fp:List Addr) (it:Addr) (tn:Nat→Heap→Prop):Prop where
 mem:it ∈ fp
 obj:∀ i h,tn i h→∀ b ∈ fp,∃ o,h.get? b=some o∧∀ v,o.data ≠ .cell v
 keep:∀ i h h',tn i h→(∀ b ∈ fp,∀ o,h.get? b=some o→h'.get? b=some o)→tn i h'
 item:∀ (X:Cx),X.prog=P→X.w=w→X.K=K→Cd qb X→∀ (i:Nat) (pins:List (Addr × Obj)) (s:Shared) (σ:St) (H:Hp) (E:Value→Shared→Prop),Inv X pins σ H s→(∀ b ∈ fp,FpOk X pins H b)→tn i s.heap→J.go i H→
  wpAny (model P w) X.A (pyNext (.ref it)) (fun r s1=>∃ u,r=some u∧
   wpAny (model P w) X.A (letOwnedTupleGo tg (.ref it) u) (fun _ s2=>∃ x H',Inv X pins σ H' s2∧RelV x u∧J.yld i H x H'∧tn (i + 1) s2.heap∧∀ b ∈ fp,H' b=none) E s1) E s
 done:∀ (X:Cx),X.prog=P→X.w=w→X.K=K→Cd qb X→∀ (i:Nat) (pins:List (Addr × Obj)) (s:Shared) (σ:St) (H:Hp) (E:Value→Shared→Prop),Inv X pins σ H s→(∀ b ∈ fp,FpOk X pins H b)→tn i s.heap→J.stop i H→
  wpAny (model P w) X.A (pyNext (.ref it)) (fun r s1=>r=none∧Inv X pins σ H s1) E s
 self:∀ (A:Around) (i:Nat) (s:Shared) (Q:Value→Shared→Prop) (E:Value→Shared→Prop),tn i s.heap→Q (.ref it) s→wpAny (model P w) A (pyIter (.ref it)) Q E s
noncomputable abbrev TI:=St→Hp→(It→Hp→Prop)→Prop
noncomputable def PIEb (qb:Bool) (X:Cx) (pins:List (Addr × Obj)) (σ:St) (tg:Expr) (R:It→Hp→Prop) (itv:Value) (s2:Shared):Prop:=
 ∃ (it:Addr) (fp:List Addr) (tn:Nat→Heap→Prop) (J:It) (H':Hp),itv=.ref it∧Inv X pins σ H' s2∧Turn qb X.prog X.w X.K tg J fp it tn∧tn 0 s2.heap∧(∀ b ∈ fp,FpOk X pins H' b)∧R J H'
noncomputable def PIb (qb:Bool) (X:Cx) (tg iter:Expr) (wi:TI):Prop:=
 ∀ (pins:List (Addr × Obj)) (s:Shared) (σ:St) (H:Hp) (R:It→Hp→Prop),Inv X pins σ H s→wi σ H R→
  wpAny (model X.prog X.w) X.A (eval iter X.env) (fun v s1=>wpAny (model X.prog X.w) X.A (pyIter v) (PIEb qb X pins σ tg R) X.xe s1) X.xe s
noncomputable abbrev PIE:=PIEb false
noncomputable abbrev PI:=PIb false
theorem go_of {M:Model} {A:Around} {E:Value→Shared→Prop} {s:Shared} {tg:Expr} {it:Addr} {u:Value} {o:Obj} {n:String} {vs:Array Value} {Q:Unit→Shared→Prop} (ho:s.heap.get? it=some o) (hc:o.cls=.type n) (hd:o.data=.fields vs)
    (hn:["enumerate","zip","dict_itemiterator","dict_reverseitemiterator","odict_iterator","itertools.zip_longest","itertools.pairwise"].contains n=false) (hQ:Q () s):wpAny M A (letOwnedTupleGo tg (.ref it) u) Q E s:=by
  unfold letOwnedTupleGo
  cases tg <;> first
    | exact wpAny_pure hQ
    | (cases u <;> first
        | exact wpAny_pure hQ
        | (refine wpAny_bind (wpAny_load ho ?_)
           rw [hc,hd]
           show wpAny M A (if (["enumerate","zip","dict_itemiterator","dict_reverseitemiterator","odict_iterator","itertools.zip_longest","itertools.pairwise"].contains n && vs[0]? == some (rawInt _))=true then _ else _) Q E s
           rw [if_neg (by intro h; rw [hn,Bool.false_and] at h; cases h)]
           exact wpAny_pure hQ))
noncomputable def Itl (K:PySem.W.Frag) (a:Addr):It:=
 ⟨fun i H=>∃ xs x,SqL K H a xs∧xs[i]?=some x,fun i H x H'=>H'=H∧∀ xs,SqL K H a xs→xs[i]?=some x,fun i H=>∃ xs,SqL K H a xs∧xs.length≤i⟩
noncomputable def Itt (K:PySem.W.Frag) (a:Addr):It:=
 ⟨fun i H=>∃ xs x,SqT K H a xs∧xs[i]?=some x,fun i H x H'=>H'=H∧∀ xs,SqT K H a xs→xs[i]?=some x,fun i H=>∃ xs,SqT K H a xs∧xs.length≤i⟩
noncomputable def Itr (lo:Int) (n:Nat):It:=⟨fun i _=>i < n,fun i H x H'=>H'=H∧x=.int (lo + i),fun i _=>n≤i⟩
theorem turn_list {P:Program} {w:World} {K:PySem.W.Frag} {tg:Expr} (a it:Addr):Turn false P w K tg (Itl K a) [it] it (fun i h=>h.IsListIter it a i) where
 mem:=by simp
 obj:=fun i h st b hb=>by
  have e:b=it:=by simpa using hb
  subst e
  obtain ⟨o,e,c,d⟩:=st
  exact ⟨o,e,fun v z=>by rw [d] at z; cases z⟩
 keep:=fun i h h' st k=>st.at fun o e=>k it (by simp) o e
 item:=by
  intro X hP hw hK hc i pins s σ H E I hf st hg
  subst hP hw hK
  obtain ⟨xs,x,hq,hx⟩:=hg
  obtain ⟨its,rv,p,hz⟩:=I.list hq
  obtain ⟨u,hu,ru⟩:=rv.get hx
  obtain ⟨f0,f1,f2,f3,f4,f5⟩:=hf it (by simp)
  refine wpAny_pyNext_list_item st p.isList (x:=u) (by simpa using hu) fun h' st' sb=>?_
  have I1:Inv X pins σ H { s with heap:=h' }:=I.turned (t':=s.toks) (fun b o hb e=>(sb.2 b hb).trans e) f0 f1 f3 f4 f5
  obtain ⟨o,e,c,d⟩:=id st'
  exact ⟨u,rfl,go_of (s:={ s with heap:=h' }) e c d (by decide) ⟨x,H,I1,ru,⟨rfl,fun ys hy=>by rw [I.list_inj hy hq]; exact hx⟩,st',fun b hb=>(hf b hb).1⟩⟩
 done:=by
  intro X hP hw hK hc i pins s σ H E I hf st hg
  subst hP hw hK
  obtain ⟨xs,hq,hx⟩:=hg
  obtain ⟨its,rv,p,hz⟩:=I.list hq
  obtain ⟨f0,f1,f2,f3,f4,f5⟩:=hf it (by simp)
  have hl:=rv.length
  exact wpAny_pyNext_list_end (I.ok.hd hc.cm) st p.isList (by simp; omega) fun h' eb=>⟨rfl,I.turned (t':=s.toks) (fun b o hb e=>eb b o hb e) f0 f1 f3 f4 f5⟩
 self:=fun _ _ _ _ _ st h=>wpAny_pyIter_listiter st h
theorem turn_tuple {P:Program} {w:World} {K:PySem.W.Frag} {tg:Expr} (a it:Addr):Turn false P w K tg (Itt K a) [it] it (fun i h=>h.IsTupleIter it a i) where
 mem:=by simp
 obj:=fun i h st b hb=>by
  have e:b=it:=by simpa using hb
  subst e
  obtain ⟨o,e,c,d⟩:=st
  exact ⟨o,e,fun v z=>by rw [d] at z; cases z⟩
 keep:=fun i h h' st k=>st.at fun o e=>k it (by simp) o e
 item:=by
  intro X hP hw hK hc i pins s σ H E I hf st hg
  subst hP hw hK
  obtain ⟨xs,x,hq,hx⟩:=hg
  obtain ⟨its,rv,p,hz⟩:=I.tuple hq
  obtain ⟨u,hu,ru⟩:=rv.get hx
  obtain ⟨f0,f1,f2,f3,f4,f5⟩:=hf it (by simp)
  refine wpAny_pyNext_tuple_item st (show s.heap.IsTuple a its.toArray from p) (x:=u) (by simpa using hu) fun h' st' sb=>?_
  have I1:Inv X pins σ H { s with heap:=h' }:=I.turned (t':=s.toks) (fun b o hb e=>(sb.2 b hb).trans e) f0 f1 f3 f4 f5
  obtain ⟨o,e,c,d⟩:=id st'
  exact ⟨u,rfl,go_of (s:={ s with heap:=h' }) e c d (by decide) ⟨x,H,I1,ru,⟨rfl,fun ys hy=>by rw [I.tuple_inj hy hq]; exact hx⟩,st',fun b hb=>(hf b hb).1⟩⟩
 done:=by
  intro X hP hw hK hc i pins s σ H E I hf st hg
  subst hP hw hK
  obtain ⟨xs,hq,hx⟩:=hg
  obtain ⟨its,rv,p,hz⟩:=I.tuple hq
  obtain ⟨f0,f1,f2,f3,f4,f5⟩:=hf it (by simp)
  have hl:=rv.length
  exact wpAny_pyNext_tuple_end (I.ok.hd hc.cm) st (show s.heap.IsTuple a its.toArray from p) (by simp; omega) fun h' eb=>⟨rfl,I.turned (t':=s.toks) (fun b o hb e=>eb b o hb e) f0 f1 f3 f4 f5⟩
 self:=fun _ _ _ _ _ st h=>wpAny_pyIter_tupleiter st h
theorem turn_range {qb:Bool} {P:Program} {w:World} {K:PySem.W.Frag} {tg:Expr} (it:Addr) (lo:Int) (n:Nat):Turn qb P w K tg (Itr lo n) [it] it (fun i h=>IsRangeIter h it (lo + (i:Nat) * 1) ((n:Int) - (i:Nat)) 1) where
 mem:=by simp
 obj:=fun i h st b hb=>by
  have e:b=it:=by simpa using hb
  subst e
  exact ⟨_,st,fun v z=>by
   have z':Data.fields _=Data.cell v:=z
   cases z'⟩
 keep:=fun i h h' st k=>k it (by simp) _ st
 item:=by
  intro X hP hw hK hc i pins s σ H E I hf st hg
  subst hP hw hK
  obtain ⟨f0,f1,f2,f3,f4,f5⟩:=hf it (by simp)
  have hg':(i:Nat) < n:=hg
  refine wpAny_pyNext_range_item st (by omega) fun h' st' kk=>?_
  have I1:Inv X pins σ H { s with heap:=h',toks:=s.toks + 1 }:=I.turned (fun b o hb e=>(kk.2 b hb).trans e) f0 f1 f3 f4 f5
  have st2:IsRangeIter h' it (lo + ((i + 1:Nat):Int) * 1) ((n:Int) - ((i + 1:Nat):Int)) 1:=by
   have e1:lo + ((i + 1:Nat):Int) * 1=lo + (i:Nat) * 1 + 1:=by omega
   have e2:(n:Int) - ((i + 1:Nat):Int)=(n:Int) - (i:Nat) - 1:=by omega
   rw [e1,e2]; exact st'
  refine ⟨_,rfl,go_of (s:={ s with heap:=h',toks:=s.toks + 1 }) (n:="range_iterator") st2 rfl rfl (by decide) ⟨.int (lo + i),H,I1,⟨s.toks,?_⟩,⟨rfl,rfl⟩,st2,fun b hb=>(hf b hb).1⟩⟩
  rw [Int.mul_one]
 done:=by
  intro X hP hw hK hc i pins s σ H E I hf st hg
  subst hP hw hK
  obtain ⟨f0,f1,f2,f3,f4,f5⟩:=hf it (by simp)
  have hg':n≤i:=hg
  rcases I.qt hc with hh | ⟨ha,hh,z⟩
  ·exact wpAny_pyNext_range_end hh st (by omega) fun h' eb=>⟨rfl,I.turned (t':=s.toks) (fun b o hb e=>eb b o hb e) f0 f1 f3 f4 f5⟩
  ·exact rangeEndZ hh z st (by omega) fun h' eb=>⟨rfl,I.turned (t':=s.toks) (fun b o hb e=>eb b o hb e) f0 f1 f3 f4 f5⟩
 self:=fun _ _ _ _ _ st h=>wpAny_pyIter_rangeiter st h
end L2
namespace L2
open PySem PySem.Spec PyProof.Rows
section
variable {X:Cx} {tg:Expr}
noncomputable def iList (K:PySem.W.Frag) (tl:TE):TI:=fun σ H R=>tl σ H fun x H1=>∃ a,x=.ref a∧(∃ xs,SqL K H1 a xs)∧R (Itl K a) H1
noncomputable def iTup (K:PySem.W.Frag) (tl:TE):TI:=fun σ H R=>tl σ H fun x H1=>∃ a,x=.ref a∧(∃ xs,SqT K H1 a xs)∧R (Itt K a) H1
theorem pi_list {l:Expr} {tl:TE} (hl:PE X l tl):PI X tg l (iList X.K tl):=by
 intro pins s σ H R I h
 refine thn (hl pins s σ H _ I h) fun v s1 zq=>?_
 obtain ⟨x,H1,I1,r1,q1⟩:=zq
 obtain ⟨a,e,⟨xs,hq⟩,q⟩:=q1
 subst e
 cases r1
 obtain ⟨its,rv,p,hz⟩:=I1.list hq
 refine wpAny_pyIter_list p.isList ?_
 refine ⟨s1.heap.objs.size,[s1.heap.objs.size],_,_,H1,rfl,I1.kept (t':=s1.toks) fun b o e=>Heap.get?_push_of_some _ e,turn_list a _,⟨_,Heap.get?_push_size _ rfl,rfl,rfl⟩,fun b hb=>?_,q⟩
 have e:b=s1.heap.objs.size:=by simpa using hb
 subst e
 exact I1.fpOk (Nat.le_refl _) (I1.hok.fresh (Nat.le_refl _))
theorem pi_tup {l:Expr} {tl:TE} (hl:PE X l tl):PI X tg l (iTup X.K tl):=by
 intro pins s σ H R I h
 refine thn (hl pins s σ H _ I h) fun v s1 zq=>?_
 obtain ⟨x,H1,I1,r1,q1⟩:=zq
 obtain ⟨a,e,⟨xs,hq⟩,q⟩:=q1
 subst e
 cases r1
 obtain ⟨its,rv,p,hz⟩:=I1.tuple hq
 refine wpAny_pyIter_tuple (show s1.heap.IsTuple a its.toArray from p) ?_
 refine ⟨s1.heap.objs.size,[s1.heap.objs.size],_,_,H1,rfl,I1.kept (t':=s1.toks) fun b o e=>Heap.get?_push_of_some _ e,turn_tuple a _,⟨_,Heap.get?_push_size _ rfl,rfl,rfl⟩,fun b hb=>?_,q⟩
 have e:b=s1.heap.objs.size:=by simpa using hb
 subst e
 exact I1.fpOk (Nat.le_refl _) (I1.hok.fresh (Nat.le_refl _))
theorem range_it {qb:Bool} {pins:List (Addr × Obj)} {σ:St} {H:Hp} {s:Shared} {R:It→Hp→Prop} {E:Value→Shared→Prop} {lo hi:Int} {t u v:Tok} {tk:Nat} (I:Inv X pins σ H s) (h1:-(2 ^ 62)≤lo) (h2:lo < 2 ^ 62) (h3:-(2 ^ 62)≤hi) (h4:hi < 2 ^ 62)
  (q:R (Itr lo (hi - lo).toNat) H):wpAny (model X.prog X.w) X.A (pyIter (.ref s.heap.objs.size)) (PIEb qb X pins σ tg R) E { s with heap:=s.heap.push { cls:=.type "range",data:=.fields #[.int lo t,.int hi u,.int 1 v] },toks:=tk }:=by
 refine wpAny_pyIter_range (IsRange.new ..) (small_one h1 h2 h3 h4) ?_
 have I1:Inv X pins σ H { s with heap:=s.heap.push { cls:=.type "range",data:=.fields #[.int lo t,.int hi u,.int 1 v] },toks:=tk }:=I.kept fun b o e=>Heap.get?_push_of_some _ e
 refine ⟨(s.heap.push { cls:=.type "range",data:=.fields #[.int lo t,.int hi u,.int 1 v] }).objs.size,[(s.heap.push { cls:=.type "range",data:=.fields #[.int lo t,.int hi u,.int 1 v] }).objs.size],_,_,H,rfl,
  I1.kept (t':=tk) fun b o e=>Heap.get?_push_of_some _ e,turn_range _ lo (hi - lo).toNat,?_,fun b hb=>?_,q⟩
 ·have e1:lo + ((0:Nat):Int) * 1=lo:=by simp
  have e2:(((hi - lo).toNat:Nat):Int) - ((0:Nat):Int)=Builtin.Range.rangeSize lo hi 1:=by rw [rangeSize_one]; split <;> omega
  show IsRangeIter _ _ (lo + ((0:Nat):Int) * 1) ((((hi - lo).toNat:Nat):Int) - ((0:Nat):Int)) 1
  rw [e1,e2]
  exact Heap.get?_push_size _ rfl
 ·have e:b=(s.heap.push { cls:=.type "range",data:=.fields #[.int lo t,.int hi u,.int 1 v] }).objs.size:=by simpa using hb
  subst e
  exact I1.fpOk (Nat.le_refl _) (I1.hok.fresh (Nat.le_refl _))
noncomputable def iRng1 (ta:TA):TI:=fun σ H R=>ta σ H fun vs H1=>∃ j:Int,vs=[.int j]∧-(2 ^ 62)≤j∧j < 2 ^ 62∧R (Itr 0 j.toNat) H1
theorem pi_range1 {qb:Bool} {a:Expr} {ta:TA} {p pos:Pos} (hg:Gl X "range") (hm:X.mg "range" = none) (ha:PA X [a] ta) (hs:autoParam (starEach [a] X.env=[(false,eval a X.env)]) Au.h1._auto_1):PIb qb X tg (.Call (.Name "range" p) [a] [] pos) (iRng1 ta):=by
 intro pins s σ H R I h
 refine Call_ (ld_blt I hg hm boot_range (PyProof.Rows.callWith_type1 (thn (ha pos pins s σ H _ I h) fun us s1 zq=>?_) hs rfl))
 obtain ⟨vs,H1,I1,r1,q1⟩:=zq
 obtain ⟨j,e,q1,q2,q⟩:=q1
 subst e
 cases r1 with
 | cons r rr=>
  cases rr
  obtain ⟨t,rfl⟩:=r
  exact call_range_1 (range_it I1 (by omega) (by omega) q1 q2 (by simpa using q))
noncomputable def tFor (wi:TI) (g:TG) (tb:TS):TS:=fun D σ H=>wi σ H fun J H1=>∃ W:Nat→Nat→St→Hp→Prop,(∃ m,W 0 m σ H1)∧∀ i m σ H,W i m σ H→
 (J.stop i H∧D.nx σ H) ∨ (J.go i H∧∃ N:St→Hp→Prop,(∀ σ' H',N σ' H'→∃ m',m' < m∧W (i + 1) m' σ' H')∧∀ x H',J.yld i H x H'→g x σ H' fun σ2 H2=>tb { D with nx:=N,ct:=N,bk:=D.nx } σ2 H2)
noncomputable def pinsAt (fp:List Addr) (h:Heap):List (Addr × Obj):=fp.filterMap fun b=>(h.get? b).map fun o=>(b,o)
theorem mem_pinsAt {fp:List Addr} {h:Heap} {b:Addr} {o:Obj} (hb:b ∈ fp) (e:h.get? b=some o):(b,o) ∈ pinsAt fp h:=List.mem_filterMap.mpr ⟨b,hb,by rw [e]; rfl⟩
theorem of_pinsAt {fp:List Addr} {h:Heap} {p:Addr × Obj} (hp:p ∈ pinsAt fp h):p.1 ∈ fp∧h.get? p.1=some p.2:=by
 obtain ⟨b,hb,e⟩:=List.mem_filterMap.mp hp
 cases q:h.get? b with
 | none=>rw [q] at e; cases e
 | some o=>
  rw [q] at e
  have e':(b,o)=p:=Option.some.inj e
  subst e'
  exact ⟨hb,q⟩
theorem Inv.pinned {pins:List (Addr × Obj)} {σ:St} {H:Hp} {s:Shared} {fp:List Addr} (I:Inv X pins σ H s) (hf:∀ b ∈ fp,FpOk X pins H b) (ho:∀ b ∈ fp,∃ o,s.heap.get? b=some o∧∀ v,o.data ≠ .cell v):Inv X (pins ++ pinsAt fp s.heap) σ H s:=
 I.pins_of fun p hp=>(List.mem_append.mp hp).elim (fun z=>I.pin p (List.mem_append_right _ z)) fun z=>by
  obtain ⟨hb,e⟩:=of_pinsAt z
  obtain ⟨f0,f1,f2,_⟩:=hf p.1 hb
  obtain ⟨o,e',d⟩:=ho p.1 hb
  rw [e] at e'; cases e'
  exact ⟨e,f0,f1,f2,d⟩
theorem Inv.unpinned {pins pl:List (Addr × Obj)} {σ:St} {H:Hp} {s:Shared} (I:Inv X (pins ++ pl) σ H s):Inv X pins σ H s:=I.pins_of fun p hp=>I.pin p (List.mem_append_right _ (List.mem_append_left _ hp))
theorem ps_for {iter:Expr} {body:List Stmt} {wi:TI} {g:TG} {tb:TS} {pos:Pos} (hp:PassesOwn (model X.prog X.w) X.A X.env X.xe) (hc:X.calm=true) (hi:PI X tg iter wi) (hg:PG X tg g) (hb:PSs X body tb)
  (hs:autoParam (∀ x,foldedSetIterable iter X.env x=pure x) Au.h5._auto_1):PS X (.For tg iter body [] pos) (tFor wi g tb):=by
 intro pins s σ H D I h
 refine wpAny_For (thn (hi pins s σ H _ I h) fun v s1 h1=>thn h1 fun itv s2 h2=>?_) hs
 obtain ⟨it,fp,tn,J,H2,e,I2,T,st2,f2,W,⟨m0,w0⟩,turn⟩:=h2
 subst e
 -- what stays true of the iterator's objects through the loop
 have stat:∀ {H':Hp},(∀ b ∈ fp,H' b=none)→∀ b ∈ fp,FpOk X pins H' b:=fun hn b hb=>⟨hn b hb,(f2 b hb).2⟩
 refine codeAny_forLoop_any (fun n s'=>∃ i σ' H',Inv X pins σ' H' s'∧tn i s'.heap∧(∀ b ∈ fp,H' b=none)∧W i n σ' H') ?_ m0 ⟨0,σ,H2,I2,st2,fun b hb=>(f2 b hb).1,w0⟩
 rintro n s3 ⟨i,σ3,H3,I3,st3,fr3,w3⟩
 rcases turn i n σ3 H3 w3 with ⟨stop,qn⟩ | ⟨go,N,hN,step⟩
 ·refine wpAny_passesOwn hp (thn (T.done X rfl rfl rfl (.inl hc) i pins s3 σ3 H3 X.xe I3 (stat fr3) st3 stop) fun r s4 zq=>?_)
  obtain ⟨hr,I4⟩:=zq
  subst hr
  exact wpAny_execs_nil ⟨σ3,H3,I4,qn⟩
 ·refine wpAny_passesOwn hp (thn (T.item X rfl rfl rfl (.inl hc) i pins s3 σ3 H3 X.xe I3 (stat fr3) st3 go) fun r s4 zq=>?_)
  obtain ⟨u,hr,h4⟩:=zq
  subst hr
  refine wpAny_passesOwn hp (thn h4 fun _ s5 zq=>?_)
  obtain ⟨x,H5,I5,r5,y5,st5,fr5⟩:=zq
  have I5':=I5.pinned (stat fr5) (T.obj _ _ st5)
  refine wpAny_passesOwn hp (thn (hg _ s5 σ3 H5 x u _ I5' r5 (step x H5 y5)) fun _ s6 zq=>?_)
  obtain ⟨σ6,H6,I6,q6⟩:=zq
  refine wpAny_passesOwn hp (thn (hb _ s6 σ6 H6 _ I6 q6) fun f s7 q7=>?_)
  have again:∀ {σ7:St} {H7:Hp},Inv X (pins ++ pinsAt fp s5.heap) σ7 H7 s7→N σ7 H7→∃ m,m < n∧∃ i σ' H',Inv X pins σ' H' s7∧tn i s7.heap∧(∀ b ∈ fp,H' b=none)∧W i m σ' H':=fun {σ7 H7} I7 n7=>by
   obtain ⟨m',hm,w7⟩:=hN σ7 H7 n7
   refine ⟨m',hm,i + 1,σ7,H7,I7.unpinned,T.keep _ _ _ st5 fun b hb o e=>(I7.pin (b,o) (List.mem_append_right _ (List.mem_append_right _ (mem_pinsAt hb e)))).1,fun b hb=>?_,w7⟩
   obtain ⟨o,e,d⟩:=T.obj _ _ st5 b hb
   exact (I7.pin (b,o) (List.mem_append_right _ (List.mem_append_right _ (mem_pinsAt hb e)))).2.1
  cases f with
  | next=>obtain ⟨σ7,H7,I7,n7⟩:=q7; exact again I7 n7
  | cont=>obtain ⟨σ7,H7,I7,n7⟩:=q7; exact again I7 n7
  | brk=>obtain ⟨σ7,H7,I7,q7⟩:=q7; exact ⟨σ7,H7,I7.unpinned,q7⟩
  | ret v=>obtain ⟨x7,σ7,H7,I7,r7,q7⟩:=q7; exact ⟨x7,σ7,H7,I7.unpinned,r7,q7⟩
end
end L2
namespace L2
open PySem PySem.Spec PyProof.Rows
noncomputable abbrev R2:=V→V→Hp→VK→Prop
noncomputable def OpR (X:Cx) (f:Value→Value→Sem Value) (r:R2):Prop:=
 ∀ (pins:List (Addr × Obj)) (s:Shared) (σ:St) (H:Hp) (x y:V) (v u:Value) (Q:VK),Inv X pins σ H s→RelV x v→RelV y u→r x y H Q→
  wpAny (model X.prog X.w) X.A (f v u) (EP X pins σ Q) X.xe s
noncomputable def UnR (X:Cx) (f:Value→Sem Value) (r:V→Hp→VK→Prop):Prop:=
 ∀ (pins:List (Addr × Obj)) (s:Shared) (σ:St) (H:Hp) (x:V) (v:Value) (Q:VK),Inv X pins σ H s→RelV x v→r x H Q→
  wpAny (model X.prog X.w) X.A (f v) (EP X pins σ Q) X.xe s
noncomputable def CallR (X:Cx) (f:Value) (r:List V→Hp→VK→Prop):Prop:=
 ∀ (pins:List (Addr × Obj)) (s:Shared) (σ:St) (H:Hp) (xs:List V) (us:List Value) (Q:VK),Inv X pins σ H s→Vals xs us→r xs H Q→
  wpAny (model X.prog X.w) X.A (call f us) (EP X pins σ Q) X.xe s
noncomputable def tOp (r:R2) (ta tb:TE):TE:=fun σ H Q=>ta σ H fun x H1=>tb σ H1 fun y H2=>r x y H2 Q
noncomputable def tUn (r:V→Hp→VK→Prop) (ta:TE):TE:=fun σ H Q=>ta σ H fun x H1=>r x H1 Q
noncomputable def rI (C:Int→Int→Prop) (g:Int→Int→V):R2:=fun x y H Q=>∃ i j,x=.int i∧y=.int j∧C i j∧Q (g i j) H
noncomputable def rI0 (g:Int→Int→V):R2:=fun x y H Q=>∃ i j,x=.int i∧y=.int j∧Q (g i j) H
noncomputable def rU (g:Int→V):V→Hp→VK→Prop:=fun x H Q=>∃ i,x=.int i∧Q (g i) H
section
variable {X:Cx} {a b c:Expr} {ta tb tc:TE} {pos:Pos}
theorem binT (ha:PE X a ta) (hb:PE X b tb) {pins:List (Addr × Obj)} {s:Shared} {σ:St} {H:Hp} {R:V→V→Hp→Prop} (I:Inv X pins σ H s)
  (h:ta σ H fun x H1=>tb σ H1 fun y H2=>R x y H2) {Q:Value→Shared→Prop} {f:Value→Value→Sem Value}
  (hf:∀ v u s2 x y H2,Inv X pins σ H2 s2→RelV x v→RelV y u→R x y H2→wpAny (model X.prog X.w) X.A (f v u) Q X.xe s2):
  wpAny (model X.prog X.w) X.A (eval a X.env) (fun v s₁=>wpAny (model X.prog X.w) X.A (eval b X.env) (fun u s₂=>wpAny (model X.prog X.w) X.A (f v u) Q X.xe s₂) X.xe s₁) X.xe s:=by
 refine thn (ha pins s σ H _ I h) fun v s1 zq=>?_
 obtain ⟨x,H1,I1,r1,q1⟩:=zq
 refine thn (hb pins s1 σ H1 _ I1 q1) fun u s2 zq=>?_
 obtain ⟨y,H2,I2,r2,q2⟩:=zq
 exact hf v u s2 x y H2 I2 r1 r2 q2
theorem pe_op {op:Operator} {r:R2} (ho:OpR X (binaryOp op) r) (ha:PE X a ta) (hb:PE X b tb):PE X (.BinOp a op b pos) (tOp r ta tb):=by
 intro pins s σ H Q I h
 exact wpAny_BinOp (binT ha hb I h fun v u s2 x y H2 I2 rx ry q=>ho pins s2 σ H2 x y v u Q I2 rx ry q)
theorem pe_un {op:UnaryOp} {r:V→Hp→VK→Prop} (ho:UnR X (unaryOp op) r) (ha:PE X a ta):PE X (.UnaryOp op a pos) (tUn r ta):=by
 intro pins s σ H Q I h
 exact UnaryOp_ (thn (ha pins s σ H _ I h) fun v s1 zq=>ex5 zq fun x H1 I1 r1 q1=>ho pins s1 σ H1 x v Q I1 r1 q1)
theorem opI {f:Value→Value→Sem Value} {C:Int→Int→Prop} {g:Int→Int→Int}
  (rule:∀ (i j:Int) (t u:Tok) (s:Shared) (Q:Value→Shared→Prop) (E:Value→Shared→Prop),C i j→Q (.int (g i j) s.toks) { s with toks:=s.toks + 1 }→wpAny (model X.prog X.w) X.A (f (.int i t) (.int j u)) Q E s):
  OpR X f (rI C fun i j=>.int (g i j)):=by
 intro pins s σ H x y v u Q I rx ry h
 obtain ⟨i,j,rfl,rfl,hc,q⟩:=h
 obtain ⟨t,rfl⟩:=rx
 obtain ⟨t',rfl⟩:=ry
 exact rule i j t t' s _ _ hc ⟨.int (g i j),H,I.tok _,⟨_,rfl⟩,q⟩
theorem opI0 {f:Value→Value→Sem Value} {g:Int→Int→Int}
  (rule:∀ (i j:Int) (t u:Tok) (s:Shared) (Q:Value→Shared→Prop) (E:Value→Shared→Prop),Q (.int (g i j) s.toks) { s with toks:=s.toks + 1 }→wpAny (model X.prog X.w) X.A (f (.int i t) (.int j u)) Q E s):
  OpR X f (rI0 fun i j=>.int (g i j)):=by
 intro pins s σ H x y v u Q I rx ry h
 obtain ⟨i,j,rfl,rfl,q⟩:=h
 obtain ⟨t,rfl⟩:=rx
 obtain ⟨t',rfl⟩:=ry
 exact rule i j t t' s _ _ ⟨.int (g i j),H,I.tok _,⟨_,rfl⟩,q⟩
theorem opB0 {f:Value→Value→Sem Value} {g:Int→Int→Bool}
  (rule:∀ (i j:Int) (t u:Tok) (s:Shared) (Q:Value→Shared→Prop) (E:Value→Shared→Prop),Q (.bool (g i j)) s→wpAny (model X.prog X.w) X.A (f (.int i t) (.int j u)) Q E s):
  OpR X f (rI0 fun i j=>.bl (g i j)):=by
 intro pins s σ H x y v u Q I rx ry h
 obtain ⟨i,j,rfl,rfl,q⟩:=h
 obtain ⟨t,rfl⟩:=rx
 obtain ⟨t',rfl⟩:=ry
 exact rule i j t t' s _ _ ⟨.bl (g i j),H,I,rfl,q⟩
noncomputable def CDiv (i j:Int):Prop:=0 < j∧j < 1073741824
noncomputable def CPow (i j:Int):Prop:=0≤j∧j≤1000000∧i.natAbs < 2 ^ 64
noncomputable def CMul (i j:Int):Prop:=(-(2 ^ 64) < i∧i < 2 ^ 64) ∨ (-(2 ^ 64) < j∧j < 2 ^ 64)
theorem CMul.ok {i j:Int} (h:CMul i j):IntMulOk i j:=by
 rcases h with ⟨h1,h2⟩ | ⟨h1,h2⟩
 ·exact .of_left (intBits_le_64 h1 h2)
 ·exact .of_right (intBits_le_64 h1 h2)
theorem op_add:OpR X (binaryOp .Add) (rI0 fun i j=>.int (i + j)):=opI0 fun _ _ _ _ _ _ _ q=>add_int q
theorem op_sub:OpR X (binaryOp .Sub) (rI0 fun i j=>.int (i - j)):=opI0 fun _ _ _ _ _ _ _ q=>sub_int q
theorem op_mul:OpR X (binaryOp .Mult) (rI CMul fun i j=>.int (i * j)):=opI fun _ _ _ _ _ _ _ hc q=>mul_int q hc.ok
theorem op_fdiv:OpR X (binaryOp .FloorDiv) (rI CDiv fun i j=>.int (i / j)):=opI fun i j _ _ _ _ _ hc q=>by
 have h1:(0:Int) < j:=hc.1
 have h2:j < 1073741824:=hc.2
 exact floordiv_int (by omega) (by rw [Int.fdiv_eq_ediv_of_nonneg i (by omega)]; exact q) (.inl (PyProof.noPylong_small (by omega)))
theorem op_mod:OpR X (binaryOp .Mod) (rI (fun _ j=>0 < j) fun i j=>.int (i % j)):=opI fun i j _ _ _ _ _ hc q=>by
 have h1:(0:Int) < j:=hc
 exact mod_int' (by omega) (by rw [Int.fmod_eq_emod_of_nonneg i (by omega)]; exact q)
theorem op_pow:OpR X (binaryOp .Pow) (rI CPow fun i j=>.int (i ^ j.toNat)):=opI fun _ _ _ _ _ _ _ hc q=>pow_int_small hc.1 hc.2.1 hc.2.2 q
theorem op_shl:OpR X (binaryOp .LShift) (rI CPow fun i j=>.int (i * 2 ^ j.toNat)):=opI fun _ _ _ _ _ _ _ hc q=>lshift_int_small hc.1 hc.2.1 hc.2.2 q
theorem unI {f:Value→Sem Value} {g:Int→Int}
  (rule:∀ (i:Int) (t:Tok) (s:Shared) (Q:Value→Shared→Prop) (E:Value→Shared→Prop),Q (.int (g i) s.toks) { s with toks:=s.toks + 1 }→wpAny (model X.prog X.w) X.A (f (.int i t)) Q E s):
  UnR X f (rU fun i=>.int (g i)):=by
 intro pins s σ H x v Q I rx h
 obtain ⟨i,rfl,q⟩:=h
 obtain ⟨t,rfl⟩:=rx
 exact rule i t s _ _ ⟨.int (g i),H,I.tok _,⟨_,rfl⟩,q⟩
theorem un_neg:UnR X (unaryOp .USub) (rU fun i=>.int (-i)):=unI fun _ _ _ _ _ q=>neg_int q
end
noncomputable def scal:V→V→Bool
 | .non,.non=>true | .non,.int _=>true | .int _,.non=>true | .non,.bl _=>true | .bl _,.non=>true | .non,.str _=>true | .str _,.non=>true
 | .int _,.int _=>true | .bl _,.bl _=>true | .str _,.str _=>true | .byt _,.byt _=>true
 | .int _,.str _=>true | .str _,.int _=>true | .bl _,.str _=>true | .str _,.bl _=>true
 | _,_=>false
noncomputable def rEq:R2:=fun x y H Q=>scal x y=true∧Q (.bl (decide (x=y))) H
noncomputable def rNe:R2:=fun x y H Q=>scal x y=true∧Q (.bl (!decide (x=y))) H
theorem dec_int {i j:Int}:decide (V.int i=V.int j)=(i == j):=by
 rw [Bool.eq_iff_iff]
 simp
theorem dec_bl {i j:Bool}:decide (V.bl i=V.bl j)=(i == j):=by
 rw [Bool.eq_iff_iff]
 simp
theorem dec_str {i j:Str}:decide (V.str i=V.str j)=(i == j):=by
 rw [Bool.eq_iff_iff]
 simp
theorem dec_byt {i j:Array UInt8}:decide (V.byt i=V.byt j)=(i.toList == j.toList):=by
 rw [Bool.eq_iff_iff]
 cases i
 cases j
 simp
section
variable {X:Cx} {a b c:Expr} {ta tb tc:TE} {pos:Pos}
theorem fin_bl {pins:List (Addr × Obj)} {σ:St} {H:Hp} {s:Shared} {Q:VK} {k k':Bool} (I:Inv X pins σ H s) (q:Q (.bl k) H) (e:k=k'):EP X pins σ Q (.bool k') s:=by
 subst e
 exact ⟨.bl k,H,I,rfl,q⟩
theorem op_eq:OpR X (compareOp .Eq) rEq:=by
 intro pins s σ H x y v u Q I rx ry h
 obtain ⟨hs,q⟩:=h
 cases x with
 | non=>
  cases rx
  cases y with
  | non=>cases ry; exact PySem.EqNone.eq_none_none (fin_bl I q (by simp))
  | bl j=>cases ry; exact PySem.EqNone.eq_none_bool (fin_bl I q (by simp))
  | int j=>obtain ⟨t',rfl⟩:=ry; exact PySem.EqNone.eq_none_int (fin_bl I q (by simp))
  | str j=>obtain ⟨t',rfl⟩:=ry; exact PySem.EqNone.eq_none_str (fin_bl I q (by simp))
  | _=>exact absurd (show false=true from hs) Bool.false_ne_true
 | bl i=>
  cases rx
  cases y with
  | non=>cases ry; exact PySem.EqNone.eq_bool_none (fin_bl I q (by simp))
  | bl j=>cases ry; exact eq_bool (fin_bl I q dec_bl)
  | str j=>obtain ⟨t',rfl⟩:=ry; exact PySem.EqMixed.eq_bool_str (fin_bl I q (by simp))
  | _=>exact absurd (show false=true from hs) Bool.false_ne_true
 | int i=>
  obtain ⟨t,rfl⟩:=rx
  cases y with
  | non=>cases ry; exact PySem.EqNone.eq_int_none (fin_bl I q (by simp))
  | int j=>obtain ⟨t',rfl⟩:=ry; exact eq_int (fin_bl I q dec_int)
  | str j=>obtain ⟨t',rfl⟩:=ry; exact PySem.EqMixed.eq_int_str (fin_bl I q (by simp))
  | _=>exact absurd (show false=true from hs) Bool.false_ne_true
 | str i=>
  obtain ⟨t,rfl⟩:=rx
  cases y with
  | non=>cases ry; exact PySem.EqNone.eq_str_none (fin_bl I q (by simp))
  | bl j=>cases ry; exact PySem.EqMixed.eq_str_bool (fin_bl I q (by simp))
  | int j=>obtain ⟨t',rfl⟩:=ry; exact PySem.EqMixed.eq_str_int (fin_bl I q (by simp))
  | str j=>obtain ⟨t',rfl⟩:=ry; exact eq_str (fin_bl I q dec_str)
  | _=>exact absurd (show false=true from hs) Bool.false_ne_true
 | byt i=>
  obtain ⟨t,rfl⟩:=rx
  cases y with
  | byt j=>obtain ⟨t',rfl⟩:=ry; exact PySem.W.eq_bytes (fin_bl I q dec_byt)
  | _=>exact absurd (show false=true from hs) Bool.false_ne_true
 | _=>cases y <;> exact absurd (show false=true from hs) Bool.false_ne_true
theorem op_ne:OpR X (compareOp .NotEq) rNe:=by
 intro pins s σ H x y v u Q I rx ry h
 obtain ⟨hs,q⟩:=h
 cases x with
 | non=>
  cases rx
  cases y with
  | non=>cases ry; exact PySem.EqNone.ne_none_none (fin_bl I q (by simp))
  | bl j=>cases ry; exact PySem.EqNone.ne_none_bool (fin_bl I q (by simp))
  | int j=>obtain ⟨t',rfl⟩:=ry; exact PySem.EqNone.ne_none_int (fin_bl I q (by simp))
  | str j=>obtain ⟨t',rfl⟩:=ry; exact PySem.EqNone.ne_none_str (fin_bl I q (by simp))
  | _=>exact absurd (show false=true from hs) Bool.false_ne_true
 | bl i=>
  cases rx
  cases y with
  | non=>cases ry; exact PySem.EqNone.ne_bool_none (fin_bl I q (by simp))
  | bl j=>cases ry; exact ne_bool (fin_bl I q (congrArg not dec_bl))
  | str j=>obtain ⟨t',rfl⟩:=ry; exact PySem.EqMixed.ne_bool_str (fin_bl I q (by simp))
  | _=>exact absurd (show false=true from hs) Bool.false_ne_true
 | int i=>
  obtain ⟨t,rfl⟩:=rx
  cases y with
  | non=>cases ry; exact PySem.EqNone.ne_int_none (fin_bl I q (by simp))
  | int j=>obtain ⟨t',rfl⟩:=ry; exact ne_int (fin_bl I q (congrArg not dec_int))
  | str j=>obtain ⟨t',rfl⟩:=ry; exact PySem.EqMixed.ne_int_str (fin_bl I q (by simp))
  | _=>exact absurd (show false=true from hs) Bool.false_ne_true
 | str i=>
  obtain ⟨t,rfl⟩:=rx
  cases y with
  | non=>cases ry; exact PySem.EqNone.ne_str_none (fin_bl I q (by simp))
  | bl j=>cases ry; exact PySem.EqMixed.ne_str_bool (fin_bl I q (by simp))
  | int j=>obtain ⟨t',rfl⟩:=ry; exact PySem.EqMixed.ne_str_int (fin_bl I q (by simp))
  | str j=>obtain ⟨t',rfl⟩:=ry; exact ne_str (fin_bl I q (congrArg not dec_str))
  | _=>exact absurd (show false=true from hs) Bool.false_ne_true
 | byt i=>
  obtain ⟨t,rfl⟩:=rx
  cases y with
  | byt j=>obtain ⟨t',rfl⟩:=ry; exact PySem.W.ne_bytes (fin_bl I q (congrArg not dec_byt))
  | _=>exact absurd (show false=true from hs) Bool.false_ne_true
 | _=>cases y <;> exact absurd (show false=true from hs) Bool.false_ne_true
theorem op_lt:OpR X (compareOp .Lt) (rI0 fun i j=>.bl (decide (i < j))):=opB0 fun _ _ _ _ _ _ _ q=>lt_int q
theorem op_gt:OpR X (compareOp .Gt) (rI0 fun i j=>.bl (decide (j < i))):=opB0 fun _ _ _ _ _ _ _ q=>gt_int q
theorem op_ge:OpR X (compareOp .GtE) (rI0 fun i j=>.bl (decide (j≤i))):=opB0 fun _ _ _ _ _ _ _ q=>ge_int q
theorem nomark (b:Expr) {op:CmpOp} (h:autoParam (op ≠ .In) Au.h2._auto_1) (h2:autoParam (op ≠ .NotIn) Au.h2._auto_1):behindInMarks op b=false:=by
 have e1:(op == CmpOp.In)=false:=by cases op <;> first | rfl | exact absurd rfl h
 have e2:(op == CmpOp.NotIn)=false:=by cases op <;> first | rfl | exact absurd rfl h2
 cases b <;> simp [behindInMarks,e1,e2]
theorem pe_cmpR {op:CmpOp} {r:R2} (ho:OpR X (compareOp op) r) (ha:PE X a ta) (hb:PE X b tb) (hm:behindInMarks op b=false):PE X (.Compare a [op] [b] pos) (tOp r ta tb):=by
 intro pins s σ H Q I h
 exact wpAny_Compare1 (binT ha hb I h fun v u s2 x y H2 I2 rx ry q=>ho pins s2 σ H2 x y v u Q I2 rx ry q) hm
noncomputable def tTest (t:TE):TT:=fun σ H Q=>t σ H fun x H'=>∃ k,x=.bl k∧Q k H'
theorem pt_cmpR {op:CmpOp} {r:R2} (ho:OpR X (compareOp op) r) (ha:PE X a ta) (hb:PE X b tb) (hm:behindInMarks op b=false):PT X (.Compare a [op] [b] pos) (tTest (tOp r ta tb)):=by
 intro pins s σ H Q I h
 refine wpAny_isTrue_Compare1 (thn (ha pins s σ H _ I h) fun v s1 zq=>ex5 zq fun x H1 I1 r1 q1=>thn (hb pins s1 σ H1 _ I1 q1) fun u s2 zq=>ex5 zq fun y H2 I2 r2 q2=>
  thn (ho pins s2 σ H2 x y v u _ I2 r1 r2 q2) fun c s3 ⟨z,H3,I3,r3,k,e,q3⟩=>?_) hm
 subst e
 cases r3
 exact wpAny_truthy_bool ⟨H3,I3,q3⟩
theorem line63:(sizeLine:Nat) < 2 ^ 63:=by rw [sizeLine_eq]; decide
theorem op_add_str:OpR X (binaryOp .Add) (fun x y H Q=>∃ i j,x=.str i∧y=.str j∧i.length + j.length≤sizeLine∧Q (.str (i ++ j)) H):=by
 intro pins s σ H x y v u Q I rx ry h
 obtain ⟨i,j,rfl,rfl,hz,q⟩:=h
 obtain ⟨t,rfl⟩:=rx
 obtain ⟨t',rfl⟩:=ry
 exact add_str (fun t' tk=>⟨.str (i ++ j),H,I.tok _,⟨_,rfl⟩,q⟩) hz
theorem vals1 {x:V} {us:List Value} (r:Vals [x] us):∃ u,us=[u]∧RelV x u:=by
 cases r with
 | cons r1 r2=>cases r2; exact ⟨_,rfl,r1⟩
theorem vals2 {x y:V} {us:List Value} (r:Vals [x,y] us):∃ u w',us=[u,w']∧RelV x u∧RelV y w':=by
 cases r with
 | cons r1 r2=>
  cases r2 with
  | cons r3 r4=>cases r4; exact ⟨_,_,rfl,r1,r3⟩
theorem call_abs:CallR X (.builtin "abs") (fun xs H Q=>∃ i,xs=[.int i]∧Q (.int (if i < 0 then -i else i)) H):=by
 intro pins s σ H xs us Q I r h
 obtain ⟨i,rfl,q⟩:=h
 obtain ⟨u,rfl,t,rfl⟩:=vals1 r
 exact call_abs_int fun u tk=>⟨.int (if i < 0 then -i else i),H,I.tok _,⟨_,rfl⟩,q⟩
theorem call_max2 (hc:X.calm=true):CallR X (.builtin "max") (fun xs H Q=>∃ i j,xs=[.int i,.int j]∧Q (.int (if j > i then j else i)) H):=by
 intro pins s σ H xs us Q I r h
 obtain ⟨i,j,rfl,q⟩:=h
 obtain ⟨u,w',rfl,⟨t,rfl⟩,⟨t',rfl⟩⟩:=vals2 r
 refine max_two_ints (I.ok.hd hc) fun h' tk k=>⟨_,H,I.kept k,?_,q⟩
 by_cases hj:j > i
 ·rw [if_pos hj,if_pos hj]; exact ⟨_,rfl⟩
 ·rw [if_neg hj,if_neg hj]; exact ⟨_,rfl⟩
theorem call_min2 (hc:X.calm=true):CallR X (.builtin "min") (fun xs H Q=>∃ i j,xs=[.int i,.int j]∧Q (.int (if j < i then j else i)) H):=by
 intro pins s σ H xs us Q I r h
 obtain ⟨i,j,rfl,q⟩:=h
 obtain ⟨u,w',rfl,⟨t,rfl⟩,⟨t',rfl⟩⟩:=vals2 r
 refine min_two_ints (I.ok.hd hc) fun h' tk k=>⟨_,H,I.kept k,?_,q⟩
 by_cases hj:j < i
 ·rw [if_pos hj,if_pos hj]; exact ⟨_,rfl⟩
 ·rw [if_neg hj,if_neg hj]; exact ⟨_,rfl⟩
theorem call_int1:CallR X (.type "int") (fun xs H Q=>(∃ i,xs=[.int i]∧Q (.int i) H) ∨ ∃ k,xs=[.bl k]∧Q (.int (if k then 1 else 0)) H):=by
 intro pins s σ H xs us Q I r h
 rcases h with ⟨i,rfl,q⟩ | ⟨k,rfl,q⟩
 ·obtain ⟨u,rfl,t,rfl⟩:=vals1 r
  exact call_int_int ⟨.int i,H,I,⟨_,rfl⟩,q⟩
 ·obtain ⟨u,rfl,r1⟩:=vals1 r
  cases r1
  exact call_int_bool ⟨.int (if k then 1 else 0),H,I.tok _,⟨_,rfl⟩,q⟩
theorem call_divmod:CallR X (.builtin "divmod") (fun xs H Q=>∃ i j,xs=[.int i,.int j]∧CDiv i j∧∀ p,H p=none→Q (.ref p) (upd H p (.tup [.int (i / j),.int (i % j)]))):=by
 intro pins s σ H xs us Q I r h
 obtain ⟨i,j,rfl,⟨h1,h2⟩,q⟩:=h
 obtain ⟨u,w',rfl,⟨t,rfl⟩,⟨t',rfl⟩⟩:=vals2 r
 refine divmod_int (by omega) ?_ (.inl (PyProof.noPylong_small (by omega)))
 rw [Int.fdiv_eq_ediv_of_nonneg i (by omega),Int.fmod_eq_emod_of_nonneg i (by omega)]
 have hn:H s.heap.objs.size=none:=I.hok.fresh (Nat.le_refl _)
 refine ⟨.ref s.heap.objs.size,_,?_,rfl,q _ hn⟩
 refine I.laid (fun b o e=>Heap.get?_push_of_some _ e) (Nat.le_refl _) ⟨by simp only [List.length_cons,List.length_nil]; rw [sizeLine_eq]; decide,[.int (i / j) s.toks,.int (i % j) (s.toks + 1)],.cons ⟨_,rfl⟩ (.cons ⟨_,rfl⟩ .nil),?_⟩
 exact ⟨_,Heap.get?_push_size s.heap rfl,rfl,0,rfl⟩
end
end L2
namespace L2
open PySem PySem.Spec PyProof.Rows
structure ObjM (h:Heap) (x dx C:Addr) (mA:Str→Option Value):Prop where
 obj:h.get? x=some (PySem.W.instObj C dx)
 ns:h.Ns1 dx mA
 ne:dx ≠ x
theorem lookIn_ns {h:Heap} {dx:Addr} {mA:Str→Option Value} (n:h.Ns1 dx mA):∃ od,h.get? dx=some od∧∀ name,PySem.W.lookIn name od=some (mA name):=by
 obtain ⟨o,es,ep,ho,hd,hk,_,hm⟩:=n
 refine ⟨o,ho,fun name=>?_⟩
 have e:=hm name
 unfold nsFind findBy at e
 rw [← Array.find?_toList] at e
 unfold PySem.W.lookIn
 rw [hd]
 dsimp only
 split
 ·rename_i y q
  rw [q] at e
  exact congrArg some e
 ·rename_i q
  rw [q] at e
  have a:es.toList.any (·.refKey)=false:=by
   rw [List.any_eq_false]
   intro y hy
   obtain ⟨z,t,hkey⟩:=hk y (Array.mem_toList_iff.mp hy)
   simp [DictEntry.refKey,hkey]
  have a':¬ es.toList.any (·.refKey)=true:=by rw [a]; exact Bool.false_ne_true
  rw [if_neg a']
  exact congrArg some e
theorem ObjM.look {h:Heap} {x dx C:Addr} {mA:Str→Option Value} (I:ObjM h x dx C mA):∃ od,PySem.W.InstAt h x (PySem.W.instObj C dx) C (some od)∧∀ name,PySem.W.lookIn name od=some (mA name):=
 let ⟨od,ho,hl⟩:=lookIn_ns I.ns
 ⟨od,⟨I.obj,rfl,rfl,ho⟩,hl⟩
section
variable {prog:Program} {w:World} {A:Around} {E:Value→Shared→Prop} {s:Shared} {K:PySem.W.Frag} {x dx C f:Addr} {mA:Str→Option Value} {name:Str} {v:Value}
end
section
variable {P:Program} {w:World} {H H':Hp} {h h':Heap} {a C dx:Addr} {fs fs':List (Str × V)}
theorem ins_get (hok:HOk P w H h) (e:H a=some (.ins C dx fs)):∃ mA,ObjM h a dx C mA∧(∀ f,RelO (fs.lookup f) (mA f))∧PySem.Within mA (fs.map (·.1))∧fs.length≤1000∧H dx=some (.own a):=by
 obtain ⟨d,z,ne,ob,mA,n,r,q⟩:=(show ObjOk P w H h a (.ins C dx fs) from hok a _ e)
 exact ⟨mA,⟨ob,n,ne⟩,r,q,z,d⟩
end
structure Cls (K:PySem.W.Frag) (C:Addr):Prop where
 pg:PySem.W.plainGet K C Str.empty=true
 hd:PySem.W.hasDictIn K C=true
 po:PySem.W.plainOver K C=true
 sa:PySem.W.findIn K (.ref C) "__setattr__" = some (some (.builtin "object.__setattr__"))
theorem Cls.get {K:PySem.W.Frag} {C:Addr} (c:Cls K C) (f:Str):PySem.W.plainGet K C f=true:=c.pg
section
variable {X:Cx} {pins:List (Addr × Obj)} {σ:St} {H:Hp} {s:Shared} {a C dx:Addr} {fs:List (Str × V)} {f:Str} {v:V} {A:Around} {E:Value→Shared→Prop}
end
section
variable {X:Cx} {o e value:Expr} {f:Str} {pos pos' tpos:Pos} {ta tv:TE}
end
section
variable {X:Cx} {pins:List (Addr × Obj)} {σ:St} {H:Hp} {s:Shared} {A:Around} {E:Value→Shared→Prop} {Q:Value→Shared→Prop} {c:Value} {b:Bool}
inductive TyOf (K:PySem.W.Frag) (H:Hp):V→Value→Prop where
 | non:TyOf K H .non (.type "NoneType")
 | bl (x:Bool):TyOf K H (.bl x) (.type "bool")
 | int (i:Int):TyOf K H (.int i) (.type "int")
 | str (x:Str):TyOf K H (.str x) (.type "str")
 | flt (x:UInt64):TyOf K H (.flt x) (.type "float")
 | lst {a:Addr} {xs:List V} (e:H a=some (.lst xs)):TyOf K H (.ref a) (.type "list")
 | frz {a:Addr} {o:Obj} {xs:List V} (e:H a=some (.frz o (.lst xs))):TyOf K H (.ref a) (.type "list")
 | tup {a:Addr} {xs:List V} (e:H a=some (.tup xs)):TyOf K H (.ref a) (.type "tuple")
 | dK {a:Addr} {kvs:List (Key × V)} (e:H a=some (.dK kvs)):TyOf K H (.ref a) (.type "dict")
 | dT {a:Addr} {kvs:List (List Key × V)} (e:H a=some (.dT kvs)):TyOf K H (.ref a) (.type "dict")
 | ins {a C dx:Addr} {fs:List (Str × V)} (e:H a=some (.ins C dx fs)) (cl:Cls K C) (ha:PySem.W.findIn K (.ref C) "__class__" = some (some (.builtin "object.__class__")))
   (hn:PySem.W.specialIn K (.builtin "object.__class__") "__get__" = some (some (.builtin "getset_descriptor.__get__"))) (htk:PySem.W.takesIn K (.builtin "object.__class__")=some true)
   (hm:PySem.W.mroIn K C (.type "object")=some true):TyOf K H (.ref a) (.ref C)
theorem isinst_ok {x:V} {u t:Value} (I:Inv X pins σ H s) (rx:RelV x u) (ty:TyOf X.K H x t) (e:PySem.W.kitOne X.K t c=some b) (h:∀ tk,Q (.bool b) { s with toks:=tk }):
  wpAny (model X.prog X.w) A (call (.builtin "isinstance") [u,c]) Q E s:=by
 cases ty with
 | non=>cases (show u=Value.none from rx); exact PySem.W.kia_one PySem.W.kitx_none I.kIn True.intro e (fun z=>nomatch z) h
 | bl y=>cases (show u=Value.bool y from rx); exact PySem.W.kia_one PySem.W.kitx_bool I.kIn True.intro e (fun z=>nomatch z) h
 | int i=>obtain ⟨t,q⟩:=(show ∃ t,u=Value.int i t from rx); cases q; exact PySem.W.kia_one PySem.W.kitx_int I.kIn True.intro e (fun z=>nomatch z) h
 | str y=>obtain ⟨t,q⟩:=(show ∃ t,u=Value.str y t from rx); cases q; exact PySem.W.kia_one PySem.W.kitx_str I.kIn True.intro e (fun z=>nomatch z) h
 | flt y=>obtain ⟨t,q⟩:=(show ∃ t,u=Value.float y t from rx); cases q; exact PySem.W.kia_one PySem.W.kitx_float I.kIn True.intro e (fun z=>nomatch z) h
 | @lst a xs ea=>
  cases (show u=Value.ref a from rx)
  obtain ⟨_,_,n,_,h1⟩:=(show ObjOk X.prog X.w H s.heap a (.lst xs) from I.hok a _ ea)
  exact PySem.W.kia_one PySem.W.kitx_list I.kIn ⟨_,h1,rfl⟩ e (fun z=>nomatch z) h
 | @frz a ob xs ea=>
  cases (show u=Value.ref a from rx)
  obtain ⟨_,_,_,n,_,h1⟩:=(show ObjOk X.prog X.w H s.heap a (.frz ob (.lst xs)) from I.hok a _ ea)
  exact PySem.W.kia_one PySem.W.kitx_list I.kIn ⟨_,h1,rfl⟩ e (fun z=>nomatch z) h
 | @tup a xs ea=>
  cases (show u=Value.ref a from rx)
  obtain ⟨_,_,_,p⟩:=(show ObjOk X.prog X.w H s.heap a (.tup xs) from I.hok a _ ea)
  obtain ⟨o,h1,h2,_⟩:=p
  exact PySem.W.kia_one PySem.W.kitx_tuple I.kIn ⟨o,h1,h2⟩ e (fun z=>nomatch z) h
 | @dK a kvs ea=>
  cases (show u=Value.ref a from rx)
  obtain ⟨_,_,vs,_,p⟩:=(show ObjOk X.prog X.w H s.heap a (.dK kvs) from I.hok a _ ea)
  obtain ⟨o,es,ep,h1,h2,_⟩:=p
  exact PySem.W.kia_one PySem.W.kitx_dict I.kIn ⟨o,h1,h2.1⟩ e (fun z=>nomatch z) h
 | @dT a kvs ea=>
  cases (show u=Value.ref a from rx)
  obtain ⟨_,_,xs,_,o,es,ep,h1,h2,_⟩:=(show ObjOk X.prog X.w H s.heap a (.dT kvs) from I.hok a _ ea)
  exact PySem.W.kia_one PySem.W.kitx_dict I.kIn ⟨o,h1,h2.1⟩ e (fun z=>nomatch z) h
 | @ins a C dx fs ea cl ha hn htk hm=>
  cases (show u=Value.ref a from rx)
  obtain ⟨mA,O,_⟩:=ins_get I.hok ea
  obtain ⟨od,J,_⟩:=O.look
  exact PySem.W.kia_one (PySem.W.kitx_own (cl.get _) cl.hd ha hn htk hm) I.kIn J e (fun z=>nomatch z) h
end
end L2
namespace L2
open PySem PySem.Spec PyProof.Rows
structure Room (k:Nat) (A:Around):Prop where
 hd:A.handled=none
 dp:A.depth + 3 * k + 5 < recursionLimit
 un:A.units + 16 * k + 200 < cLine
 gd:A.guards=some []
theorem Room.mono {j k:Nat} {A:Around} (r:Room k A) (h:j≤k):Room j A:=⟨r.hd,by have:=r.dp; omega,by have:=r.un; omega,r.gd⟩
theorem Room.deeper {k:Nat} {A:Around} (r:Room (k + 1) A) (env:Env):Room k (A.deeper env):=
 ⟨r.hd,by have:=r.dp; show A.depth + 1 + 3 * k + 5 < _; omega,by have:=r.un; show A.units + 3 + 16 * k + 200 < _; omega,r.gd⟩
theorem Room.depth {k:Nat} {A:Around} (r:Room k A):A.depth < recursionLimit:=by have:=r.dp; omega
theorem Room.units {k:Nat} {A:Around} (r:Room k A):A.units + 64 < cLine:=by have:=r.un; omega
noncomputable def tNil:TA:=fun _ H Q=>Q [] H
noncomputable def tCons (ta:TE) (tr:TA):TA:=fun σ H Q=>ta σ H fun x H1=>tr σ H1 fun xs H2=>Q (x :: xs) H2
section
variable {X:Cx} {e:Expr} {es:List Expr} {te:TE} {t:TA} {pos:Pos}
theorem pa_nil:PA X [] tNil:=fun _ _ _ _ H Q I h=>Calls.spliced_nil ⟨[],H,I,.nil,h⟩
theorem pa_cons (ha:PE X e te) (hr:PA X es t) (hs:autoParam (starEach (e :: es) X.env=(false,eval e X.env) :: starEach es X.env) Au.h1._auto_1):PA X (e :: es) (tCons te t):=by
 intro pos pins s σ H Q I h
 rw [hs]
 show wpAny _ _ (spliced ((false,eval e X.env) :: backTo pos (starEach es X.env))) _ _ s
 refine Calls.spliced_cons (thn (ha pins s σ H _ I h) fun u s1 zq=>?_)
 obtain ⟨x,H1,I1,r1,q1⟩:=zq
 exact thn (hr pos pins s1 σ H1 _ I1 q1) fun us s2 zq=>ex5 zq fun xs H2 I2 r2 q2=>⟨x :: xs,H2,I2,.cons r1 r2,q2⟩
noncomputable def tTup (t:TA):TE:=fun σ H Q=>t σ H fun xs H1=>xs.length≤sizeLine∧∀ p,H1 p=none→Q (.ref p) (upd H1 p (.tup xs))
noncomputable def tLst (t:TA):TE:=fun σ H Q=>t σ H fun xs H1=>xs.length≤sizeLine∧∀ p,H1 p=none→Q (.ref p) (upd H1 p (.lst xs))
theorem pe_tup {x1} (h:PA X es t):PE X (.Tuple es x1 pos) (tTup t):=by
 intro pins s σ H Q I hq
 refine wpAny_Tuple_spliced (thn (h pos pins s σ H _ I hq) fun us s1 ⟨xs,H1,I1,r,z,q⟩=>⟨by rw [← r.length]; exact z,?_⟩)
 have hf:H1 s1.heap.objs.size=none:=I1.hok.fresh (Nat.le_refl _)
 refine ⟨.ref s1.heap.objs.size,upd H1 s1.heap.objs.size (.tup xs),I1.laid (t':=s1.toks) (fun b u e=>Heap.get?_push_of_some _ e) (Nat.le_refl _) ?_,rfl,q _ hf⟩
 exact ⟨z,us,r,⟨_,Heap.get?_push_size _ rfl,rfl,_,rfl⟩⟩
theorem pe_lst (h:PA X es t):PE X (.List es pos) (tLst t):=by
 intro pins s σ H Q I hq
 refine wpAny_List_spliced (thn (h pos pins s σ H _ I hq) fun us s1 ⟨xs,H1,I1,r,z,q⟩=>⟨by rw [← r.length]; exact z,?_⟩)
 have hf:H1 s1.heap.objs.size=none:=I1.hok.fresh (Nat.le_refl _)
 refine ⟨.ref s1.heap.objs.size,upd H1 s1.heap.objs.size (.lst xs),I1.laid (t':=s1.toks) (fun b u e=>Heap.get?_push_of_some _ e) (Nat.le_refl _) ?_,rfl,q _ hf⟩
 exact ⟨z,us,0,r,Heap.get?_push_size _ rfl⟩
end
noncomputable abbrev Sp:=List V→Hp→VK→XK→Prop
noncomputable abbrev CXT:=List Env→Hp→Shared→XK→Value→Shared→Prop
structure Env0 (P:Program) (w:World) (K:PySem.W.Frag) (mg:Str→Option Value) (base:Heap) (A:Around) (outer:List Env) (s:Shared) (H:Hp):Prop where
 frames:A.frames=some outer
 mod:Mod K mg base
 bs:∀ b o,base.get? b=some o→s.heap.get? b=some o∧H b=none
 bsz:base.objs.size≤s.heap.objs.size
 funs:s.heap.FunFrames base outer
 frf:∀ b ∈ frs outer,H b=none
 hok:HOk P w H s.heap
 bare:AllBare s.gens
noncomputable def CE (outer:List Env) (P:Program) (w:World) (H:Hp) (s:Shared) (Q:VK) (u:Value) (s':Shared):Prop:=
 ∃ v H',s'.os=s.os∧AllBare s'.gens∧Un (frs outer) [] H H' s.heap s'.heap∧HOk P w H' s'.heap∧RelV v u∧Q v H'
noncomputable def CR (CX:CXT) (outer:List Env) (P:Program) (w:World) (H:Hp) (s:Shared) (Q:VK) (E:XK) (r:Result) (s':Shared):Prop:=
 match r with
 | .ok (.ret u)=>CE outer P w H s Q u s'
 | .ok _=>False
 | .error e=>CX outer H s E e s'
structure FnOk (P:Program) (w:World) (K:PySem.W.Frag) (mg:Str→Option Value) (base:Heap) (CX:CXT) (k:Nat) (f:Addr) (fd:FuncData) (ps:List Str) (sp:Sp):Prop where
 len:∀ vs H Q E,sp vs H Q E→vs.length=ps.length
 run:∀ (A:Around) (outer:List Env) (s:Shared) (H:Hp) (args:Args) (us:List Value) (vs:List V) (Q:VK) (E:XK),Room k A→Env0 P w K mg base A outer s H→BindsTo s fd args (ps.zip us)→Vals vs us→sp vs H Q E→
  codeAny (model P w) A (.call (.ref f) args) (CR CX outer P w H s Q E) s
section
variable {X:Cx} {pins:List (Addr × Obj)} {σ:St} {H:Hp} {s s':Shared}
theorem Inv.env0 (I:Inv X pins σ H s):Env0 X.prog X.w X.K X.mg X.base X.A X.stack s H:=
 ⟨I.ok.frames,I.ok.mod,I.bs,Nat.le_trans I.ok.bsz I.sz,I.stack,I.stkFree,I.hok,I.bare⟩
theorem Inv.after {Q:VK} {u:Value} (I:Inv X pins σ H s) (h:CE X.stack X.prog X.w H s Q u s'):EP X pins σ Q u s':=by
 obtain ⟨v,H',os,bare,un,hok,r,q⟩:=h
 obtain ⟨hh,g,d,t,os'⟩:=s'
 obtain rfl:os'=s.os:=os
 exact ⟨v,H',I.call (h':=hh) (g':=g) (d':=d) (t':=t) (ch:=[]) un hok bare (fun b z=>absurd z (by simp)),r,q⟩
end
noncomputable def tCall (sp:Sp) (dvs:List V) (E:XK) (t:TA):TE:=fun σ H Q=>t σ H fun vs H1=>sp (vs ++ dvs) H1 Q E
noncomputable def Binds (K:PySem.W.Frag) (fd:FuncData) (ps:List Str) (ds:List Value):Prop:=
 ∀ (s:Shared) (us:List Value),K.In s.heap→(us ++ ds).length=ps.length→BindsTo s fd ⟨us,[]⟩ (ps.zip (us ++ ds))
theorem Binds.all {K:PySem.W.Frag} {fd:FuncData} {ps:List Str} (h:∀ us:List Value,us.length=ps.length→bindArgs fd ⟨us,[]⟩=pure (ps.zip us)):Binds K fd ps []:=fun s us _ hl=>by
 rw [List.append_nil] at hl ⊢
 exact .of_eq (h us hl)
noncomputable def Passes (CX:CXT) (X:Cx) (E:XK):Prop:=∀ (pins:List (Addr × Obj)) (σ:St) (H:Hp) (s:Shared) (e:Value) (s':Shared),Inv X pins σ H s→CX X.stack H s E e s'→X.xe e s'
section
variable {X:Cx} {CX:CXT} {k:Nat} {f C:Addr} {fd:FuncData} {ps:List Str} {sp:Sp} {dvs:List V} {ds:List Value} {E:XK} {x m:Str} {p pos apos:Pos} {e o:Expr} {es:List Expr} {ta:TE} {t:TA}
theorem run_fn {pins:List (Addr × Obj)} {σ:St} {H:Hp} {s:Shared} {Q:VK} {us:List Value} {vs:List V} (F:FnOk X.prog X.w X.K X.mg X.base CX k f fd ps sp) (hr:Room k X.A) (hb:Binds X.K fd ps ds) (hd:Vals dvs ds) (hx:Passes CX X E)
  (I:Inv X pins σ H s) (r:Vals vs us) (h:sp (vs ++ dvs) H Q E):wpAny (model X.prog X.w) X.A (call (.ref f) us) (EP X pins σ Q) X.xe s:=by
 have r2:Vals (vs ++ dvs) (us ++ ds):=r.append hd
 have hl:(us ++ ds).length=ps.length:=by rw [← r2.length]; exact F.len _ _ _ _ h
 refine wpAny_call (codeAny_mono (F.run X.A X.stack s H ⟨us,[]⟩ (us ++ ds) (vs ++ dvs) Q E hr I.env0 (hb s us I.kIn hl) r2 h) fun r s' hq=>?_)
 cases r with
 | error e=>exact hx pins σ H s e s' I hq
 | ok fl=>
  cases fl with
  | ret u=>exact I.after hq
  | next=>exact False.elim hq
  | brk=>exact False.elim hq
  | cont=>exact False.elim hq
theorem pe_call (F:FnOk X.prog X.w X.K X.mg X.base CX k f fd ps sp) (hr:Room k X.A) (hg:Gl X x) (hm:X.mg x=some (.ref f)) (hk:PySem.W.keepIn X.K (.ref f)=true) (hb:Binds X.K fd ps ds) (hd:Vals dvs ds) (hx:Passes CX X E)
  (ha:PA X (e :: es) t) (hdb:autoParam ((x == ("__debug__":Str))=false) Au.h2._auto_1) (he:autoParam (starEach (e :: es) X.env=(false,eval e X.env) :: starEach es X.env) Au.h1._auto_1) (hpl:autoParam ((backTo pos (starEach es X.env)).any (·.1)=false) Au.h1._auto_1):
  PE X (.Call (.Name x p) (e :: es) [] pos) (tCall sp dvs E t):=by
 intro pins s σ H Q I h
 refine wpAny_Call_Name_kw (ld_glob I hg hm ?_ hdb)
 refine PySem.W.callWith_K (h₀:=X.base) I.ok.mod.kin hk (thn (ha pos pins s σ H _ I h) fun us s1 zq=>ex5 zq fun vs H1 I1 r q=>⟨I1.kIn,?_⟩) he hpl
 exact run_fn F hr hb hd hx I1 r q
end
section
variable {X:Cx} {CX:CXT} {k:Nat} {f C:Addr} {fd:FuncData} {ps ks:List Str} {sp:Sp} {E:XK} {x m:Str} {p pos apos kpos:Pos} {e o:Expr} {es:List Expr} {kws:List Keyword} {te ta:TE} {t tk:TA} {nm:Option Str}
variable {g:List Value→List Value→List Value} {gV:List V→List V→List V}
end
structure FnScope (N P:List Str) (sc:Scope):Prop where
 kind:sc.kind=.function
 co:sc.isCoroutine=false
 gen:sc.isGenerator=false
 nd:N.Nodup
 pre:N.take P.length=P
 par:∀ x ∈ P,sc.names.lookup x=some .local ∨ sc.names.lookup x=some .cell
 nofree:∀ y ∈ sc.names,y.2 ≠ .free
theorem bindL_out {kindOf:Str→Option NameKind} {x:Str}:∀ {binds:List (Str × Value)} {m:Str→Option Value},(∀ v,(x,v) ∉ binds)→bindL kindOf binds m x=m x
 | [],_,_=>rfl
 | (n,v) :: r,m,h=>by
  unfold bindL
  rw [bindL_out fun w hw=>h w (List.mem_cons_of_mem _ hw)]
  split
  ·have:x ≠ n:=by rintro rfl; exact h v List.mem_cons_self
   simp [this]
  ·rfl
theorem bindC_out {kindOf:Str→Option NameKind} {x:Str}:∀ {binds:List (Str × Value)} {m:Str→Option Value},(∀ v,(x,v) ∉ binds)→bindC kindOf binds m x=m x
 | [],_,_=>rfl
 | (n,v) :: r,m,h=>by
  unfold bindC
  rw [bindC_out fun w hw=>h w (List.mem_cons_of_mem _ hw)]
  split
  ·rfl
  ·have:x ≠ n:=by rintro rfl; exact h v List.mem_cons_self
   simp [this]
theorem bindL_get {kindOf:Str→Option NameKind} {x:Str} {v:Value}:∀ {P:List Str} {vs:List Value} {i:Nat} {m:Str→Option Value},P.Nodup→P[i]?=some x→vs[i]?=some v→kindOf x=some .local→
  bindL kindOf (P.zip vs) m x=some v
 | [],_,_,_,_,h,_,_=>by simp at h
 | _ :: _,[],_,_,_,_,h,_=>by simp at h
 | p :: P,w :: vs,0,m,nd,h1,h2,hk=>by
  simp at h1 h2; subst h1; subst h2
  show bindL kindOf ((p,w) :: P.zip vs) m p=_
  unfold bindL
  rw [bindL_out fun v hv=>(List.nodup_cons.mp nd).1 (List.of_mem_zip hv).1,if_pos hk]
  simp
 | p :: P,w :: vs,i + 1,m,nd,h1,h2,hk=>by
  show bindL kindOf ((p,w) :: P.zip vs) m x=_
  unfold bindL
  exact bindL_get (i:=i) (List.nodup_cons.mp nd).2 (by simpa using h1) (by simpa using h2) hk
theorem bindC_get {kindOf:Str→Option NameKind} {x:Str} {v:Value}:∀ {P:List Str} {vs:List Value} {i:Nat} {m:Str→Option Value},P.Nodup→P[i]?=some x→vs[i]?=some v→kindOf x ≠ some .local→
  bindC kindOf (P.zip vs) m x=some v
 | [],_,_,_,_,h,_,_=>by simp at h
 | _ :: _,[],_,_,_,_,h,_=>by simp at h
 | p :: P,w :: vs,0,m,nd,h1,h2,hk=>by
  simp at h1 h2; subst h1; subst h2
  show bindC kindOf ((p,w) :: P.zip vs) m p=_
  unfold bindC
  rw [bindC_out fun v hv=>(List.nodup_cons.mp nd).1 (List.of_mem_zip hv).1,if_neg hk]
  simp
 | p :: P,w :: vs,i + 1,m,nd,h1,h2,hk=>by
  show bindC kindOf ((p,w) :: P.zip vs) m x=_
  unfold bindC
  exact bindC_get (i:=i) (List.nodup_cons.mp nd).2 (by simpa using h1) (by simpa using h2) hk
noncomputable def start (N:List Str) (vs:List V):St:=vs.map some ++ List.replicate (N.length - vs.length) none
noncomputable def cxOf (CX:CXT) (P:Program) (w:World) (K:PySem.W.Frag) (mg:Str→Option Value) (base:Heap) (N:List Str) (qual:Str) (scope:Scope) (f:Addr) (cd:Value) (A:Around) (outer:List Env) (s:Shared) (H:Hp) (E:XK):Cx where
 prog:=P
 w:=w
 K:=K
 mg:=mg
 base:=base
 A:=A.deeper (envOfC qual scope s.heap.objs.size f cd)
 N:=N
 s₀:=s
 H₀:=H
 env:=envOfC qual scope s.heap.objs.size f cd
 outer:=outer
 stack:=envOfC qual scope s.heap.objs.size f cd :: outer
 ex:=[]
 calm:=true
 fn:=fun _=>true
 pn:=[]
 xe:=fun e s'=>wpAny (model P w) (A.deeper (envOfC qual scope s.heap.objs.size f cd)) (leaving (envOfC qual scope s.heap.objs.size f cd) e) (fun _ s''=>CX outer H s E e s'') (fun e' s''=>CX outer H s E e' s'') s'
theorem cell_has {sc:Scope} {n:Nat} {x:Str} (h:sc.names.lookup x=some .cell):∃ c,(cellsFrom n sc.names []).lookup x=some c:=by
 have q:=PySem.W.cellsFrom_some sc.names n [] (.inl h)
 exact Option.isSome_iff_exists.mp q
theorem inv_start {CX:CXT} {P:Program} {w:World} {K:PySem.W.Frag} {mg:Str→Option Value} {base:Heap} {N ps:List Str} {qual:Str} {scope:Scope} {f:Addr} {cd:Value} {A:Around} {outer:List Env} {s s1:Shared} {H:Hp} {E:XK} {us:List Value} {vs:List V}
  (S:FnScope N ps scope) (hd:A.handled=none) (e0:Env0 P w K mg base A outer s H) (hl:vs.length=ps.length) (r:Vals vs us)
  (x:InCallC s s.heap.objs.size (bindL (envOfC qual scope s.heap.objs.size f cd).kindOf (ps.zip us) fun _=>none) (cellsFrom (s.heap.objs.size + 1) scope.names []) (bindC (envOfC qual scope s.heap.objs.size f cd).kindOf (ps.zip us) fun _=>none) s1):
  Inv (cxOf CX P w K mg base N qual scope f cd A outer s H E) [] (start N vs) H s1:=by
 have hpl:ps.length≤N.length:=by have:=congrArg List.length S.pre; rw [List.length_take] at this; omega
 obtain ⟨h1,tk,rfl,hk⟩:=x.done
 have noA:∀ b:Addr,b ∉ (cxOf CX P w K mg base N qual scope f cd A outer s H E).ex:=fun b z=>absurd (show b ∈ ([]:List Addr) from z) (by simp)
 refine ⟨⟨e0.mod,S.kind,rfl,rfl,Nat.le_refl _,fun y z c h1 h2=>?_,fun y hy=>?_,fun y c _ h=>?_,fun _=>hd,Around.frames_deeper e0.frames,.inr ⟨rfl,rfl⟩,fun b z=>absurd z (noA b),e0.bs,e0.bsz,fun b _ _=>noA b,fun b z=>absurd z (noA b),e0.funs,e0.frf⟩,
  rfl,e0.bare,Un.kept hk,⟨_,x.toInCall.ns,fun i y v h1 h2 h3=>?_⟩,fun y c h=>⟨_,x.cell y c h⟩,e0.hok.fresh (Nat.le_refl _),fun y c h=>?_,fun p hp=>absurd (show p ∈ ([]:List (Addr × Obj)) from hp) (by simp),e0.hok.kept hk,?_⟩
 ·exact name_of_addr x.apart (PySem.mem_of_lookup h1) (PySem.mem_of_lookup h2)
 ·have hy:scope.names.lookup y=some .cell ∨ scope.names.lookup y=some .free:=hy
  rcases hy with hy | hy
  ·exact cell_has hy
  ·exact absurd rfl (S.nofree _ (PySem.mem_of_lookup hy))
 ·exact Nat.le_of_lt (x.above y c (PySem.mem_of_lookup h))
 ·have hi:i < vs.length:=by
   unfold start at h2
   by_cases hi:i < vs.length
   ·exact hi
   ·rw [List.getElem?_append_right (by simpa using hi)] at h2
    rw [List.getElem?_replicate] at h2
    split at h2 <;> cases h2
  have ha:vs[i]?=some v:=by
   unfold start at h2
   rw [List.getElem?_append_left (by simpa using hi),List.getElem?_map] at h2
   cases e:vs[i]? with
   | none=>rw [e] at h2; cases h2
   | some a=>rw [e] at h2; cases h2; rfl
  obtain ⟨u,hu,rv⟩:=r.get ha
  have hp:ps[i]?=some y:=by
   rw [← S.pre,List.getElem?_take_of_lt (by omega)]; exact h1
  have ndP:ps.Nodup:=by rw [← S.pre]; exact S.nd.sublist (List.take_sublist _ _)
  refine ⟨u,rv,?_⟩
  rcases S.par y (List.mem_of_getElem? hp) with k | k
  ·exact .inl ⟨k,bindL_get ndP hp hu k⟩
  ·obtain ⟨c,e⟩:=cell_has (n:=s.heap.objs.size + 1) k
   refine .inr ⟨.inl k,c,e,?_⟩
   have q:=x.cell y c e
   rw [bindC_get ndP hp hu (by show scope.names.lookup y ≠ _; rw [k]; decide)] at q
   exact q
 ·exact e0.hok.fresh (Nat.le_of_lt (x.above y c (PySem.mem_of_lookup h)))
 ·unfold start
  show _=N.length
  rw [List.length_append,List.length_map,List.length_replicate]
  omega
theorem fn_of {CX:CXT} {P:Program} {w:World} {K:PySem.W.Frag} {mg:Str→Option Value} {base:Heap} {k:Nat} {f:Addr} {name qual:Str} {params:Arguments} {body:List Stmt} {scope:Scope} {dV kV doc pm cdv ct oc:Value} {an od:Option Addr}
  {osl:Array (Option Value)} {N ps:List Str} {sp:Sp} (lk:K.lookup f=some ⟨oc,od,.func (PySem.W.fnOf name qual params body scope dV kV doc pm an cdv ct),osl⟩) (hcd:PySem.W.codeIn K cdv qual=true) (S:FnScope N ps scope)
  (len:∀ vs H Q E,sp vs H Q E→vs.length=ps.length)
  (hbody:∀ (A:Around) (outer:List Env) (s:Shared) (H:Hp) (vs:List V) (Q:VK) (E:XK),Room k (A.deeper (envOfC qual scope s.heap.objs.size f cdv))→sp vs H Q E→
   ∃ t,PSs (cxOf CX P w K mg base N qual scope f cdv A outer s H E) body t∧t { nx:=fun _ H'=>Q .non H',rt:=Q } (start N vs) H):
  FnOk P w K mg base CX (k + 1) f (PySem.W.fnOf name qual params body scope dV kV doc pm an cdv ct) ps sp:=by
 refine ⟨len,fun A outer s H args us vs Q E hr e0 hb r hsp=>?_⟩
 have hl:=len _ _ _ _ hsp
 have KX:K.In s.heap:=e0.mod.kin.keeps fun b o e=>(e0.bs b o e).1
 have lim:s.heap.NoLimit:=e0.mod.nolimit.keeps fun b o e=>(e0.bs b o e).1
 have hkind:∀ y ∈ ps.zip us,scope.names.lookup y.1=some .local ∨ (scope.names.lookup y.1=some .cell∧((cellsFrom (s.heap.objs.size + 1) scope.names []).lookup y.1).isSome=true):=fun ⟨n,v⟩ hy=>by
  rcases S.par n (List.of_mem_zip hy).1 with q | q
  ·exact .inl q
  ·exact .inr ⟨q,PySem.W.cellsFrom_some _ _ _ (.inl q)⟩
 refine codeAny_call_function hr.depth (KX _ _ lk) rfl S.co S.gen rfl (PySem.W.codeRec_of KX hcd) (hb _ _ _ _ ?_)
 refine wpAny_newFunctionEnv_cells S.kind hkind fun env he s1 x=>?_
 subst he
 refine ⟨lim.keeps x.toInCall.keep,codeAny_func ?_⟩
 obtain ⟨t,ht,hq⟩:=hbody A outer s H vs Q E (hr.deeper _) hsp
 have I:Inv (cxOf CX P w K mg base N qual scope f cdv A outer s H E) [] (start N vs) H s1:=inv_start S hr.hd e0 hl r x
 refine wpAny_mono (ht [] s1 (start N vs) H _ I hq) (fun fl s' hs=>?_) fun e s' hs=>hs
 have fin:∀ {σ':St} {H':Hp} {v:V} {u:Value},Inv (cxOf CX P w K mg base N qual scope f cdv A outer s H E) [] σ' H' s'→RelV v u→Q v H'→CE outer P w H s Q u s':=
  fun {σ' H' v u} J rv q=>⟨v,H',J.os,J.bare,J.base,J.hok,rv,q⟩
 cases fl with
 | ret u=>
  obtain ⟨v,σ',H',J,rv,q⟩:=hs
  exact fin J rv q
 | next=>
  obtain ⟨σ',H',J,q⟩:=hs
  exact fin (v:=V.non) (u:=Value.none) J rfl q
 | brk=>
  obtain ⟨_,_,_,q⟩:=hs
  exact False.elim q
 | cont=>
  obtain ⟨_,_,_,q⟩:=hs
  exact False.elim q
end L2
namespace L2
open PySem PySem.Spec PyProof.Rows
section
variable {X:Cx} {x:Str} {p pos:Pos} {e:Expr} {es:List Expr} {t:TA} {id T:String} {r:List V→Hp→VK→Prop}
noncomputable def tCB (r:List V→Hp→VK→Prop) (t:TA):TE:=fun σ H Q=>t σ H fun vs H1=>r vs H1 Q
theorem pe_callB (hc:CallR X (.builtin id) r) (hg:Gl X x) (hm:X.mg x=none) (hv:bootBuiltins x=some (.builtin id)) (ha:PA X (e :: es) t) (hn:autoParam (x ≠ "__name__") Au.h2._auto_1) (hdb:autoParam ((x == ("__debug__":Str))=false) Au.h2._auto_1)
  (he:autoParam (starEach (e :: es) X.env=(false,eval e X.env) :: starEach es X.env) Au.h1._auto_1) (hpl:autoParam ((backTo pos (starEach es X.env)).any (·.1)=false) Au.h1._auto_1):PE X (.Call (.Name x p) (e :: es) [] pos) (tCB r t):=by
 intro pins s σ H Q I h
 refine wpAny_Call_Name_kw (ld_blt I hg hm hv ?_ hn hdb)
 exact PyProof.Rows.callWith_builtin1 (thn (ha pos pins s σ H _ I h) fun us s1 zq=>ex5 zq fun vs H1 I1 r1 q1=>hc pins s1 σ H1 vs us Q I1 r1 q1) he hpl
theorem pe_callTy (hc:CallR X (.type T) r) (hg:Gl X x) (hm:X.mg x=none) (hv:bootBuiltins x=some (.type T)) (ha:PA X (e :: es) t) (hn:autoParam (x ≠ "__name__") Au.h2._auto_1) (hdb:autoParam ((x == ("__debug__":Str))=false) Au.h2._auto_1)
  (he:autoParam (starEach (e :: es) X.env=(false,eval e X.env) :: starEach es X.env) Au.h1._auto_1) (hpl:autoParam ((backTo pos (starEach es X.env)).any (·.1)=false) Au.h1._auto_1):PE X (.Call (.Name x p) (e :: es) [] pos) (tCB r t):=by
 intro pins s σ H Q I h
 refine wpAny_Call_Name_kw (ld_blt I hg hm hv ?_ hn hdb)
 exact PyProof.Rows.callWith_type1 (thn (ha pos pins s σ H _ I h) fun us s1 zq=>ex5 zq fun vs H1 I1 r1 q1=>hc pins s1 σ H1 vs us Q I1 r1 q1) he hpl
end
end L2
namespace HT
open PySem PyProof.Rows
section
open PySem.SeqAt
open PySem.AutoSeq1 (wpAny_loadPart')
open PySem.MeetsSeq PySem.MeetsSeq2 PySem.MeetsSeq3
end
section
variable {prog:Program} {w:World} {A:Around} {E:Value→Shared→Prop} {s:Shared}
theorem cat_tup {t b:Addr} {vs ws:List Value} {Q:Value→Shared→Prop} (ht:IsTup s.heap t vs.toArray) (hb:IsTup s.heap b ws.toArray) (hv:vs ≠ [])
  (h1:ws=[]→Q (.ref t) s) (h2:ws ≠ []→Q (.ref s.heap.objs.size) { s with heap:=s.heap.push { cls:=.type "tuple",data:=.seq (vs ++ ws).toArray } })
  (hsz:vs.length + ws.length≤sizeLine):wpAny (model prog w) A (binaryOp .Add (.ref t) (.ref b)) Q E s:=by
 obtain ⟨⟨cls,dd,data,sl⟩,ho,hc,n,hd⟩:=id ht
 obtain ⟨⟨cls2,dd2,data2,sl2⟩,ho2,hc2,n2,hd2⟩:=id hb
 simp only at hc hd hc2 hd2
 subst hc hd hc2 hd2
 have e:vs.toArray ++ ws.toArray=(vs ++ ws).toArray:=by simp
 by_cases hw:ws=[]
 ·exact concat_meets ⟨_,ho,rfl⟩ ⟨_,ho2,rfl⟩ noFill_tuple_add seq_tuple_add PySem.F.slot_tuple_add PySem.F.entry_tuple_add (PySem.F.args_tuple_add_2 _ _)
   (tuple_addW1 t b vs.toArray ws.toArray n n2 dd dd2 sl sl2 (by simpa using hv) (by simp [hw])) ⟨ho,ho2,h1 hw⟩
 ·refine concat_meets ⟨_,ho,rfl⟩ ⟨_,ho2,rfl⟩ noFill_tuple_add seq_tuple_add PySem.F.slot_tuple_add PySem.F.entry_tuple_add (PySem.F.args_tuple_add_2 _ _)
   (tuple_addW2 t b vs.toArray ws.toArray n n2 dd dd2 sl sl2 (by simpa using hv) (by simpa using hw) (by rw [List.size_toArray,List.size_toArray]; exact hsz)) ⟨ho,ho2,?_⟩
  rw [e]
  exact h2 hw
end
end HT
namespace L2
open PySem PySem.Spec PyProof.Rows
noncomputable abbrev TO:=St→Hp→(Option Int→Hp→Prop)→Prop
section
variable {X:Cx} {e:Expr} {te:TE} {lo hi:Option Expr} {tl th:TO} {pos p2:Pos}
noncomputable def rCatT (K:PySem.W.Frag):R2:=fun x y H Q=>∃ a b xs ys,x=.ref a∧y=.ref b∧SqT K H a xs∧SqT K H b ys∧xs ≠ []∧xs.length + ys.length≤sizeLine∧
 (ys=[]→Q (.ref a) H)∧(ys ≠ []→∀ p,H p=none→Q (.ref p) (upd H p (.tup (xs ++ ys))))
theorem Vals.nil_iff {xs:List V} {us:List Value} (r:Vals xs us):us=[]↔xs=[]:=by
 cases r with
 | nil=>simp
 | cons _ _=>simp
theorem op_catT:OpR X (binaryOp .Add) (rCatT X.K):=by
 intro pins s σ H x y v u Q I rx ry h
 obtain ⟨a,b,xs,ys,rfl,rfl,ha,hb,hx,hz,q1,q2⟩:=h
 cases rx
 cases ry
 obtain ⟨its,r1,p1,_⟩:=I.tuple ha
 obtain ⟨its2,r2,p2,_⟩:=I.tuple hb
 refine HT.cat_tup p1 p2 (fun z=>hx (r1.nil_iff.mp z)) (fun z=>⟨.ref a,H,I,rfl,q1 (r2.nil_iff.mp z)⟩) (fun z=>?_) (by rw [← r1.length,← r2.length]; exact hz)
 refine ⟨.ref s.heap.objs.size,_,I.laid (t':=s.toks) (o:=.tup (xs ++ ys)) (fun b ob q=>Heap.get?_push_of_some _ q) (Nat.le_refl _) ?_,rfl,q2 (fun w=>z (r2.nil_iff.mpr w)) _ (I.hok.fresh (Nat.le_refl _))⟩
 exact ⟨by rw [List.length_append]; exact hz,_,r1.append r2,IsTup.new _ _⟩
end
end L2
namespace L2
open PySem PySem.Spec PyProof.Rows
noncomputable def ixN (n:Nat) (i:Int):Option Nat:=if 0≤i then (if i < n then some i.toNat else none) else if -(n:Int)≤i then some (i + n).toNat else none
noncomputable def atI {α:Type} (xs:List α) (i:Int):Option α:=(ixN xs.length i).bind fun j=>xs[j]?
theorem ixN_seq {n:Nat} {i:Int} {j:Nat} (h:ixN n i=some j):seqIndex? i n=some j∧j < n∧-(n:Int)≤i∧i < n:=by
 unfold ixN at h
 by_cases h0:0≤i
 ·rw [if_pos h0] at h
  by_cases h1:i < n
  ·rw [if_pos h1] at h
   have e:i.toNat=j:=Option.some.inj h
   exact ⟨by rw [seqIndex_of h0 h1,e],by omega,by omega,h1⟩
  ·rw [if_neg h1] at h; cases h
 ·rw [if_neg h0] at h
  by_cases h1:-(n:Int)≤i
  ·rw [if_pos h1] at h
   have e:(i + n).toNat=j:=Option.some.inj h
   exact ⟨by rw [seqIndex_neg (by omega) h1,e],by omega,h1,by omega⟩
  ·rw [if_neg h1] at h; cases h
theorem atI_get {α:Type} {xs:List α} {i:Int} {v:α} (h:atI xs i=some v):∃ j,seqIndex? i xs.length=some j∧xs[j]?=some v∧j < xs.length∧-(xs.length:Int)≤i∧i < xs.length:=by
 unfold atI at h
 cases e:ixN xs.length i with
 | none=>rw [e] at h; cases h
 | some j=>
  rw [e] at h
  obtain ⟨h1,h2,h3,h4⟩:=ixN_seq e
  exact ⟨j,h1,h,h2,h3,h4⟩
theorem atI_nat {α:Type} {xs:List α} {j:Nat} {v:α} (h:xs[j]?=some v):atI xs (j:Int)=some v:=by
 have hj:j < xs.length:=(List.getElem?_eq_some_iff.mp h).1
 have e:ixN xs.length (j:Int)=some j:=by
  unfold ixN
  rw [if_pos (by omega),if_pos (by omega)]; simp
 unfold atI; rw [e]; exact h
noncomputable def PlainIx (b:Expr):Prop:=∀ o i,subscripted b false o i=operate [o,i] (getItem o i)
noncomputable def IxR (X:Cx) (r:R2):Prop:=
 ∀ (value slice:Expr) (pins:List (Addr × Obj)) (s:Shared) (σ:St) (H:Hp) (x y:V) (v u:Value) (Q:VK),Inv X pins σ H s→RelV x v→RelV y u→r x y H Q→
  subscripted slice false v u=operate [v,u] (getItem v u)→wpAny (model X.prog X.w) X.A (subscriptTail value slice v u) (EP X pins σ Q) X.xe s
noncomputable def MtR (X:Cx) (id:String) (r:V→List V→Hp→VK→Prop):Prop:=
 ∀ (pins:List (Addr × Obj)) (s:Shared) (σ:St) (H:Hp) (x:V) (xs:List V) (v:Value) (us:List Value) (Q:VK),Inv X pins σ H s→RelV x v→Vals xs us→r x xs H Q→
  wpAny (model X.prog X.w) X.A (call (.builtin id) (v :: us)) (EP X pins σ Q) X.xe s
section
variable {X:Cx} {a b:Expr} {ta tb:TE} {pos:Pos}
theorem IxR.or {r r':R2} (h:IxR X r) (h':IxR X r'):IxR X (fun x y H Q=>r x y H Q ∨ r' x y H Q):=by
 intro value slice pins s σ H x y v u Q I rx ry q hs
 rcases q with q | q
 ·exact h value slice pins s σ H x y v u Q I rx ry q hs
 ·exact h' value slice pins s σ H x y v u Q I rx ry q hs
theorem pe_ix {r:R2} (hr:IxR X r) (ha:PE X a ta) (hb:PE X b tb) (hs:PlainIx b):PE X (.Subscript a b pos) (tOp r ta tb):=by
 intro pins s σ H Q I h
 exact Subscript_ (binT ha hb I h fun v u s2 x y H2 I2 rx ry q=>hr a b pins s2 σ H2 x y v u Q I2 rx ry q (hs _ _))
noncomputable def rIxL (K:PySem.W.Frag):R2:=fun x y H Q=>∃ p xs i v,x=.ref p∧y=.int i∧SqL K H p xs∧atI xs i=some v∧Q v H
noncomputable def rIxT (K:PySem.W.Frag):R2:=fun x y H Q=>∃ p xs i v,x=.ref p∧y=.int i∧SqT K H p xs∧atI xs i=some v∧Q v H
noncomputable def rIxS:R2:=fun x y H Q=>∃ z i c,x=.str z∧y=.int i∧z.length≤sizeLine∧atI z.cps.toList i=some c∧Q (.str ⟨#[c]⟩) H
theorem ix_list:IxR X (rIxL X.K):=by
 intro value slice pins s σ H x y v u Q I rx ry h hs
 obtain ⟨p,xs,i,z,rfl,rfl,hq,he,q⟩:=h
 cases rx
 obtain ⟨t,rfl⟩:=ry
 obtain ⟨its,r,pl,hz⟩:=I.list hq
 obtain ⟨j,h1,h2,h3,h4,h5⟩:=atI_get he
 obtain ⟨w,ew,rw'⟩:=r.get h2
 have hl:=r.length
 have hn:=line63
 have fin:EP X pins σ Q w s:=⟨z,H,I,rw',q⟩
 by_cases h0:0≤i
 ·have hj:i.toNat=j:=by
   rw [seqIndex_of h0 h5] at h1
   exact Option.some.inj h1
  exact item_listR pl.isList h0 (by omega) (by rw [hj]; simpa using ew) fin hs
 ·have hj:(i + (its.toArray.size:Int)).toNat=j:=by
   rw [seqIndex_neg (by omega) h4] at h1
   rw [List.size_toArray,← hl]
   exact Option.some.inj h1
  exact subscriptTail_builtinR (x:=w) pl.isList.typeIs slot_list_getitem.lookup
   (wpAny_getItem_list_neg (Q:=fun r s'=>r=w∧EP X pins σ Q r s') pl.isList (by omega) (by rw [List.size_toArray] <;> omega) (by omega) (by rw [hj]; simpa using ew) ⟨rfl,fin⟩) hs
theorem ix_tup:IxR X (rIxT X.K):=by
 intro value slice pins s σ H x y v u Q I rx ry h hs
 obtain ⟨p,xs,i,z,rfl,rfl,hq,he,q⟩:=h
 cases rx
 obtain ⟨t,rfl⟩:=ry
 obtain ⟨its,r,pl,hz⟩:=I.tuple hq
 obtain ⟨j,h1,h2,h3,h4,h5⟩:=atI_get he
 obtain ⟨w,ew,rw'⟩:=r.get h2
 have hl:=r.length
 have hn:=line63
 have fin:EP X pins σ Q w s:=⟨z,H,I,rw',q⟩
 exact subscriptTail_builtinR (x:=w) pl.typeIs slot_tuple_getitem.lookup
  (getItem_tuple (j:=j) (Q:=fun r s'=>r=w∧EP X pins σ Q r s') pl (by omega) (by omega) (by rw [List.size_toArray,← hl]; exact h1) (by simpa using ew) ⟨rfl,fin⟩) hs
theorem ix_str:IxR X rIxS:=by
 intro value slice pins s σ H x y v u Q I rx ry h hs
 obtain ⟨z,i,c,rfl,rfl,hz,he,q⟩:=h
 obtain ⟨t,rfl⟩:=rx
 obtain ⟨t',rfl⟩:=ry
 obtain ⟨j,h1,h2,h3,h4,h5⟩:=atI_get he
 have hl:z.cps.toList.length=z.length:=by simp [Str.length]
 rw [hl] at h1 h4 h5
 have hn:=line63
 exact tail_any (typeIs_str s z t) slot_str_getitem.lookup (getItem_str (c:=c) (by
  have e1:decide (i < -(2 ^ 63:Int))=false:=decide_eq_false (by omega)
  have e2:decide (i ≥ 2 ^ 63)=false:=decide_eq_false (by omega)
  rw [e1,e2,Bool.or_false]) (by rw [h1]; simpa using h2) ⟨.str ⟨#[c]⟩,H,I.tok _,⟨_,rfl⟩,q⟩) hs
noncomputable def rIx (K:PySem.W.Frag):R2:=fun x y H Q=>rIxL K x y H Q ∨ rIxT K x y H Q ∨ rIxS x y H Q
theorem ix_seq:IxR X (rIx X.K):=ix_list.or (ix_tup.or ix_str)
theorem mapSeq_set (its:List Value) (n j:Nat) (u:Value):Obj.mapSeq (·.setIfInBounds j u) { cls:=.type "list",data:=.seq its.toArray n }={ cls:=.type "list",data:=.seq (its.set j u).toArray n }:=by
 simp [Obj.mapSeq]
theorem Inv.lst {pins:List (Addr × Obj)} {σ:St} {H:Hp} {s:Shared} {p:Addr} {xs:List V} (I:Inv X pins σ H s) (h:H p=some (.lst xs)):
  ∃ (its:List Value) (n:Nat),Vals xs its∧s.heap.get? p=some { cls:=.type "list",data:=.seq its.toArray n }∧xs.length≤sizeLine:=by
 obtain ⟨z,its,n,r,e⟩:=I.hok p _ h
 exact ⟨its,n,r,e,z⟩
theorem Inv.lstUpd {pins:List (Addr × Obj)} {σ:St} {H:Hp} {s:Shared} {p:Addr} {xs ys:List V} {its its':List Value} {n n':Nat} {f:Obj→Obj} (I:Inv X pins σ H s) (h:H p=some (.lst xs))
  (ho:s.heap.get? p=some { cls:=.type "list",data:=.seq its.toArray n }) (hf:f { cls:=.type "list",data:=.seq its.toArray n }={ cls:=.type "list",data:=.seq its'.toArray n' }) (r:Vals ys its') (hz:ys.length≤sizeLine) (t:Nat):
  Inv X pins σ (upd H p (.lst ys)) { s with heap:=s.heap.update p f,toks:=t }:=by
 have e:(s.heap.update p f).get? p=some { cls:=.type "list",data:=.seq its'.toArray n' }:=by
  rw [Heap.get?_update_self f ho (by rw [hf] <;> rfl),hf]
 refine I.write (x:=p) (e:=p) (by rw [h]; trivial) (.inl rfl) (fun b u hb q=>(Heap.get?_update_other _ _ (Ne.symm hb)).trans q) ⟨_,e⟩ ?_
 exact ⟨hz,its',n',r,e⟩
noncomputable def rSetL:V→V→V→Hp→(Hp→Prop)→Prop:=fun o i v H Q=>∃ p xs k j,o=.ref p∧i=.int k∧H p=some (.lst xs)∧ixN xs.length k=some j∧Q (upd H p (.lst (xs.set j v)))
theorem set_list:PSet X rSetL:=by
 intro pins s σ H o i v ov iv u Q I ro ri rv h
 obtain ⟨p,xs,k,j,rfl,rfl,hp,hj,q⟩:=h
 cases ro
 obtain ⟨t,rfl⟩:=ri
 obtain ⟨its,n,r,ho,hz⟩:=I.lst hp
 obtain ⟨h1,h2,h3,h4⟩:=ixN_seq hj
 have hl:=r.length
 have hn:=line63
 have I':Inv X pins σ (upd H p (.lst (xs.set j v))) { s with heap:=s.heap.update p (Obj.mapSeq (·.setIfInBounds j u)) }:=
  I.lstUpd hp ho (mapSeq_set its n j u) (r.set rv j) (by rw [List.length_set]; exact hz) s.toks
 by_cases h0:0≤k
 ·have hk:k.toNat=j:=by
   rw [seqIndex_of h0 h4] at h1
   exact Option.some.inj h1
  exact PySem.W.ki_setAt ho h0 (by omega) (by rw [List.size_toArray,← hl]; exact h4) (by rw [hk]; exact ⟨_,I',q⟩)
 ·have hk:(k + (its.toArray.size:Int)).toNat=j:=by
   rw [seqIndex_neg (by omega) h3] at h1
   rw [List.size_toArray,← hl]
   exact Option.some.inj h1
  exact PySem.W.ki_setBack ho (by omega) (by rw [List.size_toArray,← hl]; exact h3) (by omega) (by rw [hk]; exact ⟨_,I',q⟩)
noncomputable def flatV:V→Bool
 | .non=>true
 | .bl _=>true
 | .int _=>true
 | .str _=>true
 | _=>false
noncomputable def eqV:V→V→Bool
 | .non,.non=>true
 | .bl a,.bl b=>a == b
 | .bl a,.int b=>(if a then 1 else 0) == b
 | .int a,.bl b=>a == (if b then 1 else 0)
 | .int a,.int b=>a == b
 | .str a,.str b=>a == b
 | _,_=>false
theorem eqAt_V {A:Around} {s:Shared} {y x:V} {u v:Value} (ry:RelV y u) (rx:RelV x v) (fy:flatV y=true) (fx:flatV x=true):SeqAt.EqAt A s u v (eqV y x):=by
 cases y with
 | non=>
  cases ry
  cases x with
  | non=>cases rx; exact SeqAt.EqAt.same _
  | bl b=>cases rx; exact SeqAt.EqAt.none_bool b
  | int b=>obtain ⟨t,rfl⟩:=rx; exact SeqAt.EqAt.none_int b t
  | str b=>obtain ⟨t,rfl⟩:=rx; exact SeqAt.EqAt.none_str b t
  | _=>exact absurd (show false=true from fx) Bool.false_ne_true
 | bl a=>
  cases ry
  cases x with
  | non=>cases rx; exact SeqAt.EqAt.bool_none a
  | bl b=>cases rx; exact SeqAt.EqAt.bool_bool a b
  | int b=>obtain ⟨t,rfl⟩:=rx; exact SeqAt.EqAt.bool_int a b t
  | str b=>obtain ⟨t,rfl⟩:=rx; exact SeqAt.EqAt.bool_str a b t
  | _=>exact absurd (show false=true from fx) Bool.false_ne_true
 | int a=>
  obtain ⟨t',rfl⟩:=ry
  cases x with
  | non=>cases rx; exact SeqAt.EqAt.int_none a t'
  | bl b=>cases rx; exact SeqAt.EqAt.int_bool a t' b
  | int b=>obtain ⟨t,rfl⟩:=rx; exact SeqAt.EqAt.int_int a t' b t
  | str b=>obtain ⟨t,rfl⟩:=rx; exact SeqAt.EqAt.int_str a t' b t
  | _=>exact absurd (show false=true from fx) Bool.false_ne_true
 | str a=>
  obtain ⟨t',rfl⟩:=ry
  cases x with
  | non=>cases rx; exact SeqAt.EqAt.str_none a t'
  | bl b=>cases rx; exact SeqAt.EqAt.str_bool a t' b
  | int b=>obtain ⟨t,rfl⟩:=rx; exact SeqAt.EqAt.str_int a t' b t
  | str b=>obtain ⟨t,rfl⟩:=rx; exact SeqAt.EqAt.str_str a t' b t
  | _=>exact absurd (show false=true from fx) Bool.false_ne_true
 | _=>exact absurd (show false=true from fy) Bool.false_ne_true
noncomputable def eqU (x:V) (u:Value):Bool:=match u with
 | .none=>eqV .non x
 | .bool b=>eqV (.bl b) x
 | .int i _=>eqV (.int i) x
 | .str z _=>eqV (.str z) x
 | _=>false
theorem eqU_of {x y:V} {u:Value} (r:RelV y u) (f:flatV y=true):eqU x u=eqV y x:=by
 cases y with
 | non=>cases r; rfl
 | bl b=>cases r; rfl
 | int i=>obtain ⟨t,rfl⟩:=r; rfl
 | str z=>obtain ⟨t,rfl⟩:=r; rfl
 | _=>exact absurd (show false=true from f) Bool.false_ne_true
theorem any_eqU {x:V}:∀ {xs:List V} {us:List Value},Vals xs us→xs.all flatV=true→us.any (eqU x)=xs.any fun y=>eqV y x
 | _,_,.nil,_=>rfl
 | y :: xs,u :: us,.cons r t,f=>by
  rw [List.all_cons,Bool.and_eq_true] at f
  rw [List.any_cons,List.any_cons,eqU_of r f.1,any_eqU t f.2]
theorem mem_eqAt {A:Around} {s:Shared} {x:V} {v:Value} (rx:RelV x v) (fx:flatV x=true):∀ {xs:List V} {us:List Value},Vals xs us→xs.all flatV=true→∀ u ∈ us,SeqAt.EqAt A s u v (eqU x u)
 | _,_,.nil,_=>fun u hu=>by cases hu
 | y :: xs,u :: us,.cons r t,f=>fun u' hu=>by
  rw [List.all_cons,Bool.and_eq_true] at f
  rcases List.mem_cons.mp hu with rfl | hu
  ·rw [eqU_of r f.1]; exact eqAt_V r rx f.1 fx
  ·exact mem_eqAt rx fx t f.2 u' hu
noncomputable def inV (x:V) (xs:List V):Bool:=xs.any fun y=>eqV y x
noncomputable def rIn (K:PySem.W.Frag) (neg:Bool):R2:=fun x y H Q=>∃ p xs,y=.ref p∧(SqL K H p xs ∨ SqT K H p xs)∧flatV x=true∧xs.all flatV=true∧Q (.bl (if neg then !inV x xs else inV x xs)) H
theorem op_in_seq:OpR X (compareOp .In) (rIn X.K false):=by
 intro pins s σ H x y v u Q I rx ry h
 obtain ⟨p,xs,rfl,hq,fx,fs,q⟩:=h
 cases ry
 rcases hq with hq | hq
 ·obtain ⟨its,r,pl,hz⟩:=I.list hq
  refine SeqAt.in_listAt (eqU x) pl.isList (fun w hw=>mem_eqAt rx fx r fs w (by simpa using hw)) ⟨.bl _,H,I,rfl,?_⟩
  rw [show its.toArray.any (eqU x)=its.any (eqU x) by simp,any_eqU r fs]
  exact q
 ·obtain ⟨its,r,pl,hz⟩:=I.tuple hq
  refine SeqAt.in_tupleAt (eqU x) pl (fun w hw=>mem_eqAt rx fx r fs w (by simpa using hw)) ⟨.bl _,H,I,rfl,?_⟩
  rw [show its.toArray.any (eqU x)=its.any (eqU x) by simp,any_eqU r fs]
  exact q
theorem call_len_seq:CallR X (.builtin "len") (fun xs H Q=>∃ p ys,xs=[.ref p]∧(SqL X.K H p ys ∨ SqT X.K H p ys)∧Q (.int ys.length) H):=by
 intro pins s σ H xs us Q I r h
 obtain ⟨p,ys,rfl,hq,q⟩:=h
 obtain ⟨u,rfl,rx⟩:=vals1 r
 cases rx
 have hn:=line63
 rcases hq with hq | hq
 ·obtain ⟨its,r',pl,hz⟩:=I.list hq
  have hlen:=r'.length
  exact Calls.call_len_list pl.isList (by simp only [List.size_toArray] <;> omega) ⟨.int ys.length,H,I.tok _,⟨s.toks + 1,by rw [List.size_toArray,hlen]⟩,q⟩
 ·obtain ⟨its,r',pl,hz⟩:=I.tuple hq
  have hlen:=r'.length
  exact len_tuple pl (by simp only [List.size_toArray] <;> omega) ⟨.int ys.length,H,I.tok _,⟨s.toks + 1,by rw [List.size_toArray,hlen]⟩,q⟩
theorem call_len_str:CallR X (.builtin "len") (fun xs H Q=>∃ z,xs=[.str z]∧z.length≤sizeLine∧Q (.int z.length) H):=by
 intro pins s σ H xs us Q I r h
 obtain ⟨z,rfl,hz,q⟩:=h
 obtain ⟨u,rfl,t,rfl⟩:=vals1 r
 have hn:=line63
 exact len_str (by omega) ⟨.int z.length,H,I.tok _,⟨_,rfl⟩,q⟩
theorem call_tuple_of:CallR X (.type "tuple") (fun xs H Q=>∃ p ys,xs=[.ref p]∧((SqL X.K H p ys∧∀ l,H l=none→Q (.ref l) (upd H l (.tup ys))) ∨ (SqT X.K H p ys∧Q (.ref p) H))):=by
 intro pins s σ H xs us Q I r h
 obtain ⟨p,ys,rfl,h⟩:=h
 obtain ⟨u,rfl,rx⟩:=vals1 r
 cases rx
 rcases h with ⟨hq,q⟩ | ⟨hq,q⟩
 ·obtain ⟨its,r',pl,hz⟩:=I.list hq
  have hlen:=r'.length
  refine call_tuple_list pl.isList (fun h' kp=>?_) (by simp only [List.size_toArray] <;> omega)
  have I1:Inv X pins σ H { s with heap:=h' }:=I.kept (t':=s.toks) kp
  have I2:Inv X pins σ (upd H h'.objs.size (.tup ys)) { s with heap:=h'.push { cls:=.type "tuple",data:=.seq its.toArray } }:=
   I1.laid (t':=s.toks) (fun b o e=>Heap.get?_push_of_some _ e) (Nat.le_refl _) (show ObjOk X.prog X.w _ _ _ (.tup ys) from ⟨hz,its,r',IsTup.new _ _⟩)
  exact ⟨.ref h'.objs.size,_,I2,rfl,q _ (I1.hok.fresh (Nat.le_refl _))⟩
 ·obtain ⟨its,r',pl,hz⟩:=I.tuple hq
  exact call_tuple_same pl ⟨.ref p,H,I,rfl,q⟩
noncomputable def tyV (K:PySem.W.Frag) (T:String) (x:V) (H:Hp):Prop:=match x with
 | .str _=>T = "str"
 | .int _=>T = "int"
 | .ref p=>(T = "list"∧∃ xs,SqL K H p xs) ∨ (T = "tuple"∧∃ o,K.lookup p=some o∧o.cls=.type "tuple"∧o.dict=none) ∨
   (T = "dict"∧((∃ kvs,H p=some (.dK kvs)) ∨ ∃ kvs,H p=some (.dT kvs))) ∨ (T = "set"∧∃ S n,H p=some (.set S n))
 | _=>False
theorem tyV_is {pins:List (Addr × Obj)} {σ:St} {H:Hp} {s:Shared} {T:String} {x:V} {v:Value} (I:Inv X pins σ H s) (r:RelV x v) (ty:tyV X.K T x H):
  s.TypeIs v T∧∀ a,v=.ref a→∃ ob,s.heap.get? a=some ob∧ob.dict=none:=by
 cases x with
 | str z=>
  obtain ⟨t,rfl⟩:=r
  cases (show T = "str" from ty)
  exact ⟨typeIs_str s z t,fun _ e=>nomatch e⟩
 | int i=>
  obtain ⟨t,rfl⟩:=r
  cases (show T = "int" from ty)
  exact ⟨typeIs_int s i t,fun _ e=>nomatch e⟩
 | ref p=>
  cases r
  rcases ty with ⟨rfl,xs,hq⟩ | ⟨rfl,o,hk,hc,hd⟩ | ⟨rfl,hk⟩ | ⟨rfl,S,n,hk⟩
  ·obtain ⟨its,_,pl,_⟩:=I.list hq
   refine ⟨pl.isList.typeIs,fun a e=>?_⟩
   cases e
   obtain ⟨o,n,e,c,hd,_⟩:=pl
   exact ⟨o,e,hd⟩
  ·refine ⟨⟨o,I.kIn p o hk,hc⟩,fun a e=>?_⟩
   cases e
   exact ⟨o,I.kIn _ o hk,hd⟩
  ·have z:∃ o,s.heap.get? p=some o∧o.ExactDict:=by
    rcases hk with ⟨kvs,hk⟩ | ⟨kvs,hk⟩
    ·obtain ⟨_,_,_,_,o,_,_,e,ex,_⟩:=I.hok p _ hk
     exact ⟨o,e,ex⟩
    ·obtain ⟨_,_,_,_,o,_,_,e,ex,_⟩:=I.hok p _ hk
     exact ⟨o,e,ex⟩
   obtain ⟨o,e,ex⟩:=z
   refine ⟨⟨o,e,ex.1⟩,fun a e2=>?_⟩
   cases e2
   exact ⟨o,e,ex.2.1⟩
  ·obtain ⟨o,_,_,_,e,ex,_⟩:=I.hok p _ hk
   refine ⟨⟨o,e,ex.1⟩,fun a e2=>?_⟩
   cases e2
   exact ⟨o,e,ex.2.1⟩
 | _=>exact False.elim ty
noncomputable def tBM (K:PySem.W.Frag) (T:String) (r:V→List V→Hp→VK→Prop) (to:TE) (t:TA):TE:=fun σ H Q=>to σ H fun x H1=>tyV K T x H1∧t σ H1 fun xs H2=>r x xs H2 Q
variable {o e:Expr} {es:List Expr} {to:TE} {t:TA} {name:Str} {apos cpos:Pos} {T id:String} {r:V→List V→Hp→VK→Prop}
theorem pe_bm (pa:PlainAttrs T) (slot:Slot T name id) (hty:typeOf (.builtin id)=pure (.type "method_descriptor")) (hm:MtR X id r) (ho:PE X o to) (ha:PA X (e :: es) t)
  (hbase:autoParam (attributeBase o name X.env (eval o X.env)=eval o X.env) Au.h1._auto_1)
  (hfew:autoParam (((backTo cpos (starEach (e :: es) X.env)).all (fun x=>!x.1) && (backToKw cpos (keywordEach [] X.env)).all (fun x=>x.1.isSome)
   && decide ((e :: es).length + ([]:List Keyword).length + (if ([]:List Keyword).isEmpty then 0 else 1) < 30))=true) Au.h1._auto_1)
  (hline:autoParam ((apos.endLine == cpos.line)=true) Au.h1._auto_1) (hs:autoParam (starEach (e :: es) X.env=(false,eval e X.env) :: starEach es X.env) Au.h1._auto_1) (hplain:autoParam ((backTo cpos (starEach es X.env)).any (·.1)=false) Au.h1._auto_1):
  PE X (.Call (.Attribute o name apos) (e :: es) [] cpos) (tBM X.K T r to t):=by
 intro pins s σ H Q I h
 refine wpAny_Call_method_late hbase hfew hline rfl (thn (ho pins s σ H _ I h) fun v s1 zq=>?_)
 obtain ⟨x,H1,I1,r1,ty,q1⟩:=zq
 obtain ⟨h1,h2⟩:=tyV_is I1 r1 ty
 refine ⟨T,id,pa,slot,hty,h1,h2,?_⟩
 have hA:=ha cpos pins s1 σ H1 _ I1 q1
 rw [hs] at hA ⊢
 refine Calls.callWith_builtin (by show (false || (backTo cpos (starEach es X.env)).any (·.1))=false; rw [hplain] <;> rfl) (Calls.evalArgs_plain ?_)
 exact thn hA fun us s2 zq=>ex5 zq fun vs H2 I2 r2 q2=>hm pins s2 σ H2 x vs v us Q I2 r1 r2 q2
end
end L2
namespace L2
open PySem PySem.Spec PyProof.Rows
noncomputable def MtM (X:Cx) (id:String) (r:V→List V→Hp→VK→Prop):Prop:=
 ∀ (pins:List (Addr × Obj)) (s:Shared) (σ:St) (H:Hp) (x:V) (xs:List V) (v:Value) (us:List Value) (Q:VK),Inv X pins σ H s→RelV x v→Vals xs us→r x xs H Q→
  wpAny (model X.prog X.w) X.A (call (.builtin id) (v :: us)) (EP X pins σ Q) X.xe s
theorem Vals.one:∀ {x:V} {us:List Value},Vals [x] us→∃ u,us=[u]∧RelV x u
 | _,_,.cons r .nil=>⟨_,rfl,r⟩
theorem Vals.rep {xs:List V} {us:List Value} (h:Vals xs us):∀ k:Nat,Vals (List.replicate k xs).flatten (List.replicate k us).flatten
 | 0=>.nil
 | k + 1=>by
  rw [List.replicate_succ,List.replicate_succ,List.flatten_cons,List.flatten_cons]
  exact Vals.append h (Vals.rep h k)
theorem foldl_rep (its:List Value):∀ (k:Nat) (acc:List Value),
  List.foldl (fun x1 x2=>x1 ++ x2) acc.toArray (List.replicate k its.toArray)=(acc ++ (List.replicate k its).flatten).toArray
 | 0,acc=>by simp
 | k + 1,acc=>by
  have e:acc.toArray ++ its.toArray=(acc ++ its).toArray:=by simp
  have e2:(acc ++ its) ++ (List.replicate k its).flatten=acc ++ (List.replicate (k + 1) its).flatten:=by
   rw [List.replicate_succ,List.flatten_cons,List.append_assoc]
  rw [← e2,← foldl_rep its k (acc ++ its),← e,List.replicate_succ,List.foldl_cons]
section
variable {X:Cx} {pins:List (Addr × Obj)} {σ:St} {H:Hp} {s:Shared} {l b:Addr} {xs ys zs:List V}
theorem Inv.lset {its its':List Value} {n:Nat} {f:Array Value→Array Value} {t':Nat} (I:Inv X pins σ H s) (hH:H l=some (.lst xs))
  (e:s.heap.get? l=some { cls:=.type "list",data:=.seq its.toArray n }) (hf:f its.toArray=its'.toArray) (hv:Vals ys its') (hz:ys.length≤sizeLine):
  Inv X pins σ (upd H l (.lst ys)) { s with heap:=s.heap.update l (Obj.mapSeq f),toks:=t' }:=by
 have q:=PySem.IsL.update e f
 rw [hf] at q
 refine I.write (x:=l) (e:=l) (by rw [hH]; exact trivial) (.inl rfl) (fun b' u hb hu=>(Heap.get?_update_other s.heap (Obj.mapSeq f) (Ne.symm hb)).trans hu) ⟨_,q⟩ ?_
 exact ⟨hz,its',_,hv,q⟩
theorem Inv.lnew {its:List Value} {t':Nat} (I:Inv X pins σ H s) (hv:Vals ys its) (hz:ys.length≤sizeLine):
  Inv X pins σ (upd H s.heap.objs.size (.lst ys)) { s with heap:=s.heap.push { cls:=.type "list",data:=.seq its.toArray },toks:=t' }:=
 I.laid (fun _ _ q=>Heap.get?_push_of_some _ q) (Nat.le_refl _) ⟨hz,its,0,hv,Heap.get?_push_size _ rfl⟩
theorem Inv.fresh (I:Inv X pins σ H s):H s.heap.objs.size=none:=I.hok.fresh (Nat.le_refl _)
theorem Inv.lstM (I:Inv X pins σ H s) (hH:H l=some (.lst xs)):xs.length≤sizeLine∧∃ (its:List Value) (n:Nat),Vals xs its∧xs.length=its.length∧s.heap.get? l=some { cls:=.type "list",data:=.seq its.toArray n }:=by
 obtain ⟨z,its,n,r,e⟩:=I.hok l _ hH
 exact ⟨z,its,n,r,r.length,e⟩
theorem notLongL {n:Nat} (h:n≤sizeLine):Builtin.List.listTooLong n=false:=by
 unfold Builtin.List.listTooLong
 exact decide_eq_false (by omega)
end
section
variable {X:Cx}
noncomputable def rAppend:V→List V→Hp→VK→Prop:=fun x vs H Q=>∃ l xs y,x=.ref l∧vs=[y]∧H l=some (.lst xs)∧xs.length < sizeLine∧Q .non (upd H l (.lst (xs ++ [y])))
theorem mt_append:MtM X "list.append" rAppend:=by
 intro pins s σ H x vs v us Q I rx rv h
 obtain ⟨l,xs,y,rfl,rfl,hH,hz,q⟩:=h
 cases rx
 obtain ⟨u,rfl,ru⟩:=rv.one
 obtain ⟨z,its,n,r,hl,e⟩:=I.lstM hH
 refine call_meets F.slot_list_append ⟨_,e,rfl⟩ F.entry_list_append (F.args_list_append_2 _ _) (PySem.list_append l its.toArray n u (by rw [List.size_toArray]; omega)) ⟨e,?_⟩
 refine ⟨.non,_,I.lset (its':=its ++ [u]) hH e (by simp) (r.append (.cons ru .nil)) ?_,rfl,q⟩
 rw [List.length_append,List.length_singleton]
 omega
noncomputable def rCat:R2:=fun x y H Q=>∃ l b xs zs,x=.ref l∧y=.ref b∧H l=some (.lst xs)∧H b=some (.lst zs)∧xs.length + zs.length≤sizeLine∧∀ p,H p=none→Q (.ref p) (upd H p (.lst (xs ++ zs)))
theorem op_cat:OpR X (binaryOp .Add) rCat:=by
 intro pins s σ H x y v u Q I rx ry h
 obtain ⟨l,b,xs,zs,rfl,rfl,hH,hB,hz,q⟩:=h
 cases rx
 cases ry
 obtain ⟨z,its,n,r,hl,e⟩:=I.lstM hH
 obtain ⟨z2,its2,n2,r2,hl2,e2⟩:=I.lstM hB
 refine PySem.P.add_list e e2 ?_ (by rw [List.size_toArray,List.size_toArray]; omega)
 have ea:its.toArray ++ its2.toArray=(its ++ its2).toArray:=by simp
 rw [ea]
 exact ⟨.ref _,_,I.lnew (t':=s.toks) (r.append r2) (by rw [List.length_append]; omega),rfl,q _ I.fresh⟩
noncomputable def rRep:R2:=fun x y H Q=>∃ l k xs,x=.ref l∧y=.int k∧H l=some (.lst xs)∧-(2 ^ 63)≤k∧k < 2 ^ 63∧xs.length * k.toNat≤sizeLine∧
 ∀ p,H p=none→Q (.ref p) (upd H p (.lst (List.replicate k.toNat xs).flatten))
theorem len_rep {α:Type} (xs:List α) (k:Nat):(List.replicate k xs).flatten.length=k * xs.length:=by
 induction k with
 | zero=>simp
 | succ k ih=>rw [List.replicate_succ,List.flatten_cons,List.length_append,ih,Nat.succ_mul,Nat.add_comm]
theorem op_rep:OpR X (binaryOp .Mult) rRep:=by
 intro pins s σ H x y v u Q I rx ry h
 obtain ⟨l,k,xs,rfl,rfl,hH,h1,h2,hz,q⟩:=h
 cases rx
 obtain ⟨t,rfl⟩:=ry
 obtain ⟨z,its,n,r,hl,e⟩:=I.lstM hH
 have hlen:its.toArray.size * k.toNat≤sizeLine:=by rw [List.size_toArray,← hl]; exact hz
 have hcap:¬ its.toArray.size * k.toNat > (2 ^ 63 - 1) / 8:=by
  have:(sizeLine:Nat)≤(2 ^ 63 - 1) / 8:=by decide
  omega
 have hfit:¬ (!Builtin.List.listFitsIndex k)=true:=by
  rw [fitsIndex_both h1 h2]
  exact Bool.false_ne_true
 have hlong:¬ Builtin.List.listTooLong (its.toArray.size * k.toNat)=true:=by
  rw [notLongL hlen]
  exact Bool.false_ne_true
 have hnew:List.foldl (fun x1 x2=>x1 ++ x2) #[] (List.replicate (if its.toArray.isEmpty=true then 0 else k.toNat) its.toArray)=(List.replicate k.toNat its).flatten.toArray:=by
  have f0:∀ m:Nat,List.foldl (fun x1 x2=>x1 ++ x2) #[] (List.replicate m its.toArray)=(List.replicate m its).flatten.toArray:=fun m=>by
   have:=foldl_rep its m []
   rw [List.nil_append] at this
   exact this
  rw [f0]
  cases its with
  | nil=>simp
  | cons a r'=>rw [if_neg (by simp)]
 refine wpAny_binaryOp_repeat_ref (T:="list") (U:="int") (by decide) ⟨_,e,rfl⟩ (fun s'=>typeIs_int s' k t) noFill_list_mul F.fills_int_mul F.slot_int_rmul repeat_list F.slot_int_index.lookup
  (call_meets F.slot_int_rmul (typeIs_int s k t) F.entry_int_rmul (F.args_int_rmul_2 _ _) (int___rmul___int_list k t l its.toArray n)
   ⟨e,rfl,⟨_,e,rfl⟩,call_meets F.slot_list_mul ⟨_,e,rfl⟩ F.entry_list_mul (F.args_list_mul_2 _ _) (AutoListH.list___mul___list_int_3 l its.toArray n k t hfit hcap hlong) ⟨e,?_⟩⟩)
 rw [hnew]
 exact ⟨.ref _,_,I.lnew (t':=s.toks) (r.rep k.toNat) (by rw [len_rep,Nat.mul_comm]; exact hz),rfl,q _ I.fresh⟩
end
section
variable {prog:Program} {w:World} {A:Around} {E:Value→Shared→Prop} {s:Shared}
end
section
variable {X:Cx}
end
end L2
namespace L2
open PySem PySem.Spec PyProof.Rows
section
variable {κ:Type} [DecidableEq κ]
noncomputable def valV (kvs:List (κ × V)) (k:κ):Option V:=(kvs.find? fun kv=>decide (kv.1=k)).map (·.2)
noncomputable def putK (kvs:List (κ × V)) (k:κ) (v:V):List (κ × V):=
 if (kvs.any fun kv=>decide (kv.1=k))=true then kvs.map (fun kv=>if kv.1=k then (kv.1,v) else kv) else kvs ++ [(k,v)]
theorem valV_pos {p:κ × V} {r:List (κ × V)} {k:κ} (e:p.1=k):valV (p :: r) k=some p.2:=by simp [valV,List.find?_cons,e]
theorem valV_neg {p:κ × V} {r:List (κ × V)} {k:κ} (e:¬ p.1=k):valV (p :: r) k=valV r k:=by simp [valV,List.find?_cons,e]
theorem valV_any (k:κ):∀ kvs:List (κ × V),(kvs.any fun kv=>decide (kv.1=k))=(valV kvs k).isSome
 | []=>rfl
 | p :: r=>by
  rw [List.any_cons]
  by_cases e:p.1=k
  ·simp only [valV_pos e,decide_eq_true e,Bool.true_or,Option.isSome_some]
  ·rw [valV_neg e,decide_eq_false e,Bool.false_or]; exact valV_any k r
theorem length_putK (kvs:List (κ × V)) (k:κ) (v:V):(putK kvs k v).length≤kvs.length + 1:=by
 unfold putK
 split
 ·rw [List.length_map]; omega
 ·rw [List.length_append,List.length_cons,List.length_nil]; omega
theorem RelO.isSome_eq {o:Option V} {u:Option Value} (r:RelO o u):o.isSome=u.isSome:=by
 cases o with
 | none=>cases u with
  | none=>rfl
  | some _=>exact (show False from r).elim
 | some _=>cases u with
  | none=>exact (show False from r).elim
  | some _=>rfl
theorem RelO.getD {o:Option V} {u:Option Value} {d:V} {d':Value} (r:RelO o u) (rd:RelV d d'):RelV (o.getD d) (u.getD d'):=by
 cases o with
 | none=>cases u with
  | none=>exact rd
  | some _=>exact (show False from r).elim
 | some _=>cases u with
  | none=>exact (show False from r).elim
  | some _=>exact r
theorem KV.val {kvs:List (κ × V)} {vs:List (κ × Value)} (r:KV kvs vs) (k:κ):RelO (valV kvs k) (valueAt vs k):=by
 unfold KV at r
 induction r with
 | nil=>exact True.intro
 | @cons p q ps qs h t ih=>
  obtain ⟨h1,h2⟩:=h
  by_cases e:p.1=k
  ·have e':q.1=k:=h1.symm.trans e
   have b:valueAt (q :: qs) k=some q.2:=by simp [valueAt,List.find?_cons,e']
   rw [valV_pos e,b]; exact h2
  ·have e':¬ q.1=k:=fun z=>e (h1.trans z)
   have b:valueAt (q :: qs) k=valueAt qs k:=by simp [valueAt,List.find?_cons,e']
   rw [valV_neg e,b]; exact ih
theorem KV.any {kvs:List (κ × V)} {vs:List (κ × Value)} (r:KV kvs vs) (k:κ):(kvs.any fun kv=>decide (kv.1=k))=vs.any fun kv=>decide (kv.1=k):=by
 unfold KV at r
 induction r with
 | nil=>rfl
 | cons h t ih=>rw [List.any_cons,List.any_cons,ih,h.1]
theorem KV.repl {kvs:List (κ × V)} {vs:List (κ × Value)} (r:KV kvs vs) (k:κ) {y:V} {u:Value} (ry:RelV y u):
  KV (kvs.map fun kv=>if kv.1=k then (kv.1,y) else kv) (vs.map fun kv=>if kv.1=k then (kv.1,u) else kv):=by
 unfold KV at r ⊢
 induction r with
 | nil=>exact .nil
 | @cons p q ps qs h t ih=>
  rw [List.map_cons,List.map_cons]
  refine .cons ?_ ih
  obtain ⟨h1,h2⟩:=h
  by_cases e:p.1=k
  ·rw [if_pos e,if_pos (h1.symm.trans e)]; exact ⟨h1,ry⟩
  ·rw [if_neg e,if_neg (fun z=>e (h1.trans z))]; exact ⟨h1,h2⟩
theorem KV.put {kvs:List (κ × V)} {vs:List (κ × Value)} (r:KV kvs vs) (k:κ) {y:V} {u:Value} (ry:RelV y u):KV (putK kvs k y) (stored vs k u):=by
 unfold putK stored
 rw [r.any k]
 by_cases e:(vs.any fun kv=>decide (kv.1=k))=true
 ·rw [if_pos e,if_pos e]; exact r.repl k ry
 ·rw [if_neg e,if_neg e]; exact Paired.snoc r ⟨rfl,ry⟩
theorem KV.keys {kvs:List (κ × V)} {vs:List (κ × Value)} (r:KV kvs vs):kvs.map (·.1)=vs.map (·.1):=by
 unfold KV at r
 induction r with
 | nil=>rfl
 | cons h t ih=>rw [List.map_cons,List.map_cons,ih,h.1]
theorem KV.length {kvs:List (κ × V)} {vs:List (κ × Value)} (r:KV kvs vs):kvs.length=vs.length:=Paired.length r
end
theorem kV_is {P:Program} {w:World} {k:Key} {u:Value} (r:RelV (kV k) u):(mixKind P w).is k u=true:=by
 cases k with
 | inl i=>obtain ⟨t,e⟩:=(show ∃ t,u=Value.int i t from r); subst e; exact mixKind_int P w i t
 | inr x=>obtain ⟨t,e⟩:=(show ∃ t,u=Value.str x t from r); subst e; exact mixKind_str P w x t
theorem items_are {P:Program} {w:World}:∀ {ks:List Key} {us:List Value},Vals (ks.map kV) us→ItemsAre (mixKind P w) ks us
 | [],_,r=>by rw [List.map_nil] at r; cases r; exact .nil
 | k :: ks,_,r=>by
  rw [List.map_cons] at r
  cases r with
  | cons h t=>exact .cons (kV_is h) (items_are t)
noncomputable abbrev KT (H:Hp):List (List Key × V)→List (List Key × Addr × Value)→Prop:=Paired fun p q=>p.1=q.1∧H q.2.1=some (.tup (p.1.map kV))∧RelV p.2 q.2.2
theorem KT.val {H:Hp} {kvs:List (List Key × V)} {xs:List (List Key × Addr × Value)} (r:KT H kvs xs) (k:List Key):RelO (valV kvs k) ((atKey xs k).map (·.2)):=by
 induction r with
 | nil=>exact True.intro
 | @cons p q ps qs h t ih=>
  obtain ⟨h1,_,h2⟩:=h
  by_cases e:p.1=k
  ·have e':q.1=k:=h1.symm.trans e
   have b:atKey (q :: qs) k=some q.2:=by simp [atKey,List.find?_cons,e']
   rw [valV_pos e,b]; exact h2
  ·have e':¬ q.1=k:=fun z=>e (h1.trans z)
   have b:atKey (q :: qs) k=atKey qs k:=by simp [atKey,List.find?_cons,e']
   rw [valV_neg e,b]; exact ih
theorem KT.repl {H:Hp} {kvs:List (List Key × V)} {xs:List (List Key × Addr × Value)} (r:KT H kvs xs) (k:List Key) {y:V} {u:Value} (ry:RelV y u):
  KT H (kvs.map fun kv=>if kv.1=k then (kv.1,y) else kv) (xs.map (putAt k u)):=by
 induction r with
 | nil=>exact .nil
 | @cons p q ps qs h t ih=>
  rw [List.map_cons,List.map_cons]
  refine .cons ?_ ih
  obtain ⟨h1,h2,h3⟩:=h
  unfold putAt
  by_cases e:p.1=k
  ·rw [if_pos e,if_pos (h1.symm.trans e)]; exact ⟨h1,h2,ry⟩
  ·rw [if_neg e,if_neg (fun z=>e (h1.trans z))]; exact ⟨h1,h2,h3⟩
theorem KT.put {H:Hp} {kvs:List (List Key × V)} {xs:List (List Key × Addr × Value)} (r:KT H kvs xs) (k:List Key) {b:Addr} {y:V} {u:Value} (hb:H b=some (.tup (k.map kV))) (ry:RelV y u):
  KT H (putK kvs k y) (storedH xs k b u):=by
 have e:(kvs.any fun kv=>decide (kv.1=k))=(atKey xs k).isSome:=by
  rw [valV_any,(r.val k).isSome_eq,Option.isSome_map]
 unfold putK storedH
 rw [e]
 by_cases q:(atKey xs k).isSome=true
 ·rw [if_pos q,if_pos q]; exact r.repl k ry
 ·rw [if_neg q,if_neg q]; exact Paired.snoc r ⟨rfl,hb,ry⟩
theorem KT.keeps {H H':Hp} {kvs:List (List Key × V)} {xs:List (List Key × Addr × Value)} (r:KT H kvs xs) (ht:∀ b ys,H b=some (.tup ys)→H' b=some (.tup ys)):KT H' kvs xs:=
 Paired.mapP r fun _ _ z=>⟨z.1,ht _ _ z.2.1,z.2.2⟩
section
variable {P:Program} {w:World} {H:Hp} {h:Heap} {a:Addr}
theorem rd_of {u:HO} (ok:HOk P w H h) (e:Rd H a u):ObjOk P w H h a u:=e.ok ok
theorem dk_rd {kvs:List (Key × V)} (ok:HOk P w H h) (e:Rd H a (.dK kvs)):kvs.length≤sizeLine∧(a == sysModules)=false∧∃ vs,KV kvs vs∧h.DictOf (mixKind P w) a vs:=
 show ObjOk P w H h a (.dK kvs) from rd_of ok e
theorem dk_of {kvs:List (Key × V)} (ok:HOk P w H h) (e:H a=some (.dK kvs)):kvs.length≤sizeLine∧(a == sysModules)=false∧∃ vs,KV kvs vs∧h.DictOf (mixKind P w) a vs:=dk_rd ok (.inl e)
theorem key_of {ks:List Key} (ok:HOk P w H h) (e:H a=some (.tup (ks.map kV))):(tupleKind (mixKind P w)).is h ks a:=by
 obtain ⟨_,its,r,o,h1,h2,n,h3⟩:=(show ObjOk P w H h a (.tup (ks.map kV)) from ok a _ e)
 exact ⟨o,its.toArray,n,h1,h2,h3,by simpa using items_are r⟩
theorem dt_rd {kvs:List (List Key × V)} (ok:HOk P w H h) (e:Rd H a (.dT kvs)):kvs.length≤sizeLine∧(a == sysModules)=false∧
  ∃ xs,KT H kvs xs∧h.DictOfH (tupleKind (mixKind P w)) a xs:=by
 obtain ⟨z,y,xs,r,o,es,ep,h1,h2,h3,h4,h5⟩:=(show ObjOk P w H h a (.dT kvs) from rd_of ok e)
 refine ⟨z,y,xs,r,o,es,ep,h1,h2,h3,h4,fun x hx=>?_,h5⟩
 have all:∀ {l:List (List Key × V)} {m:List (List Key × Addr × Value)},KT H l m→∀ x ∈ m,(tupleKind (mixKind P w)).is h x.1 x.2.1:=by
  intro l m q
  induction q with
  | nil=>intro x hx; exact nomatch hx
  | @cons p q ps qs hq t ih=>
   intro x hx
   rcases List.mem_cons.mp hx with e | hx
   ·subst e
    exact key_of ok (by rw [← hq.1]; exact hq.2.1)
   ·exact ih x hx
 exact all r x hx
theorem dt_of {kvs:List (List Key × V)} (ok:HOk P w H h) (e:H a=some (.dT kvs)):kvs.length≤sizeLine∧(a == sysModules)=false∧
  ∃ xs,KT H kvs xs∧h.DictOfH (tupleKind (mixKind P w)) a xs:=dt_rd ok (.inl e)
end
noncomputable def DGet (H:Hp) (a:Addr) (y:V) (r:Option V):Prop:=
 (∃ kvs k,Rd H a (.dK kvs)∧y=kV k∧r=valV kvs k) ∨ ∃ kvs k b,Rd H a (.dT kvs)∧y=.ref b∧H b=some (.tup (k.map kV))∧r=valV kvs k
noncomputable def DPut (H:Hp) (a:Addr) (y v:V) (H':Hp):Prop:=
 (∃ kvs k,H a=some (.dK kvs)∧y=kV k∧kvs.length < sizeLine∧H'=upd H a (.dK (putK kvs k v))) ∨
 ∃ kvs k b,H a=some (.dT kvs)∧y=.ref b∧H b=some (.tup (k.map kV))∧kvs.length < sizeLine∧H'=upd H a (.dT (putK kvs k v))
theorem DPut.k {H:Hp} {a:Addr} {kvs:List (Key × V)} {k:Key} {v:V} (e:H a=some (.dK kvs)) (hl:kvs.length < sizeLine):DPut H a (kV k) v (upd H a (.dK (putK kvs k v))):=.inl ⟨kvs,k,e,rfl,hl,rfl⟩
section
variable {X:Cx} {pins:List (Addr × Obj)} {σ:St} {H:Hp} {s:Shared} {a:Addr} {y v:V} {u r:Value} {o:Option V} {A:Around} {E:Value→Shared→Prop}
theorem Inv.big (I:Inv X pins σ H s):sysModules < s.heap.objs.size:=by
 have h:mainGlobals < s.heap.objs.size:=(I.mod.glob.keeps I.bk).lt
 exact Nat.lt_trans (by decide) h
theorem d_write {h':Heap} {t':Nat} {ob:HO} (I:Inv X pins σ H s) (mu:Mut (H a)) (hs:Heap.SameBut a s.heap h') (he:∃ q,h'.get? a=some q) (new:ObjOk X.prog X.w (upd H a ob) h' a ob):
  Inv X pins σ (upd H a ob) { s with heap:=h',toks:=t' }:=
 I.write (x:=a) (e:=a) mu (.inl rfl) (fun b q hb z=>(hs.2 b hb).trans z) he new
theorem dk_new {P:Program} {w:World} {H':Hp} {h':Heap} {kvs:List (Key × V)} {vs:List (Key × Value)} (z:kvs.length≤sizeLine) (hd:(a == sysModules)=false) (rel:KV kvs vs) (dd:h'.DictOf (mixKind P w) a vs):
  ObjOk P w H' h' a (.dK kvs):=⟨z,hd,vs,rel,dd⟩
theorem d_setItem {H':Hp} {Q:Unit→Shared→Prop} (hu:A.units + 1 < cLine) (I:Inv X pins σ H s) (g:DPut H a y v H') (ry:RelV y u) (rv:RelV v r) (h:∀ s',Inv X pins σ H' s'→Q () s'):
  wpAny (model X.prog X.w) A (setItem (.ref a) u r) Q E s:=by
 rcases g with ⟨kvs,k,e,ey,l,eH⟩ | ⟨kvs,k,b,e,ey,eb,l,eH⟩
 ·subst ey eH
  obtain ⟨z,hd,vs,rel,dd⟩:=dk_of I.hok e
  have hz:vs.length≤sizeLine:=by rw [← rel.length]; exact z
  have hl:(putK kvs k v).length≤sizeLine:=by have:=length_putK kvs k v; omega
  refine wpAny_setItem_pairs (hsz:=hz) (kV_is ry) dd fun h' dd' hs=>h _ ?_
  have he:∃ q,h'.get? a=some q:=let ⟨q,_,_,hq,_⟩:=dd'; ⟨q,hq⟩
  exact d_write I (by rw [e]; exact True.intro) hs he (dk_new hl hd (rel.put k rv) dd')
 ·subst ey eH
  cases (show u=Value.ref b from ry)
  obtain ⟨z,hd,xs,rel,dd⟩:=dt_of I.hok e
  have hz:xs.length≤sizeLine:=by rw [← Paired.length rel]; exact z
  have hl:(putK kvs k v).length≤sizeLine:=by have:=length_putK kvs k v; omega
  refine wpAny_setItem_heap (hsz:=hz) (tupleKind_room_in1 hu) (key_of I.hok eb) dd fun h' dd' hs=>h _ ?_
  obtain ⟨q,es,ep,hq,h2,h3,h4,_,h5⟩:=dd'
  refine d_write I (by rw [e]; exact True.intro) hs ⟨q,hq⟩ ⟨hl,hd,_,(rel.put k eb rv).keeps fun c ys ec=>?_,q,es,ep,hq,h2,h3,h4,h5⟩
  rw [upd_ne (ne_of ec e (fun z=>nomatch z))]
  exact ec
end
section
variable {X:Cx} {pins:List (Addr × Obj)} {σ:St} {H:Hp} {s:Shared} {a:Addr} {kvs:List (Key × V)} {k:Key} {u:Value} {A:Around} {E:Value→Shared→Prop}
theorem d_len {Q:Value→Shared→Prop} (I:Inv X pins σ H s) (e:Rd H a (.dK kvs)) (h:∀ t s',Inv X pins σ H s'→Q (.int kvs.length t) s'):wpAny (model X.prog X.w) A (call (.builtin "len") [.ref a]) Q E s:=by
 obtain ⟨z,hd,vs,rel,dd⟩:=dk_rd I.hok e
 refine call_len_dict hd dd (by rw [← rel.length]; rw [sizeLine_eq] at z; omega) ?_
 rw [← rel.length]
 exact h _ _ (I.tok _)
end
section
variable {X:Cx} {o i e value:Expr} {pos pos' tpos:Pos} {td ty tv:TE}
end
theorem dk_empty {P:Program} {w:World} {H:Hp} (h:Heap) (hb:sysModules < h.objs.size):ObjOk P w H (h.push { cls:=.type "dict",data:=.dict #[] }) h.objs.size (.dK []):=
 ⟨Nat.zero_le _,beq_eq_false_iff_ne.mpr (Ne.symm (Nat.ne_of_lt hb)),[],.nil,Heap.DictOf.new h⟩
noncomputable def tDNewK:TE:=fun _ H Q=>∀ p,H p=none→Q (.ref p) (upd H p (.dK []))
section
variable {X:Cx} {pos:Pos}
theorem pe_dnewK:PE X (.Dict [] [] pos) tDNewK:=fun pins s σ H Q I h=>
 wpAny_Dict_empty ⟨.ref s.heap.objs.size,_,I.laid (a:=s.heap.objs.size) (o:=.dK []) (t':=s.toks) (fun _ _ q=>Heap.get?_push_of_some _ q) (Nat.le_refl _) (dk_empty s.heap I.big),rfl,h _ (I.hok.fresh (Nat.le_refl _))⟩
end
noncomputable def tPairs:List (TE × TE)→St→Hp→(List (V × V)→Hp→Prop)→Prop
 | [],_,H,Q=>Q [] H
 | (tk,tv) :: r,σ,H,Q=>tk σ H fun x H1=>tv σ H1 fun y H2=>tPairs r σ H2 fun ps H3=>Q ((x,y) :: ps) H3
noncomputable abbrev VV:List (V × V)→List (Value × Value)→Prop:=Paired fun p q=>RelV p.1 q.1∧RelV p.2 q.2
noncomputable def PPs (X:Cx) (pos:Pos) (keys:List (Option Expr)) (values:List Expr) (trs:List (TE × TE)):Prop:=
 ∀ (pins:List (Addr × Obj)) (s:Shared) (σ:St) (H:Hp) (Q:List (V × V)→Hp→Prop),Inv X pins σ H s→tPairs trs σ H Q→
  wpAny (model X.prog X.w) X.A (evalPairs (pairTrees keys values X.env pos)) (fun vs s'=>∃ ps H',Inv X pins σ H' s'∧VV ps vs∧Q ps H') X.xe s
theorem pps_nil {X:Cx} {pos:Pos}:PPs X pos [] [] []:=fun pins s σ H Q I h=>pairTrees_nil_walk ⟨[],H,I,.nil,h⟩
theorem pps_cons {X:Cx} {pos:Pos} {k v:Expr} {ks:List (Option Expr)} {vs:List Expr} {tk tv:TE} {trs:List (TE × TE)} (hk:PE X k tk) (hv:PE X v tv) (hr:PPs X pos ks vs trs):
  PPs X pos (some k :: ks) (v :: vs) ((tk,tv) :: trs):=fun pins s σ H Q I h=>
 pairTrees_cons_walk (thn (hk pins s σ H _ I h) fun u s1 zq=>ex5 zq fun x H1 I1 rx q1=>thn (hv pins s1 σ H1 _ I1 q1) fun w2 s2 zq=>ex5 zq fun y H2 I2 ry q2=>
  thn (hr pins s2 σ H2 _ I2 q2) fun ws s3 zq=>ex5 zq fun ps H3 I3 rel q3=>⟨(x,y) :: ps,H3,I3,.cons ⟨rx,ry⟩ rel,q3⟩)
noncomputable def mergeK (kvs more:List (Key × V)):List (Key × V):=more.foldl (fun acc kv=>putK acc kv.1 kv.2) kvs
theorem KV.merge:∀ {more:List (Key × V)} {rs:List (Key × Value)} {kvs:List (Key × V)} {vs:List (Key × Value)},KV more rs→KV kvs vs→KV (mergeK kvs more) (merged vs rs):=by
 intro more rs kvs vs r
 unfold KV at r
 induction r generalizing kvs vs with
 | nil=>intro q; exact q
 | @cons p q ps qs h t ih=>
  intro r0
  have e:KV (putK kvs p.1 p.2) (stored vs q.1 q.2):=by
   have:=r0.put p.1 h.2
   rw [← h.1]; exact this
  exact ih e
theorem length_mergeK:∀ (more kvs:List (Key × V)),(mergeK kvs more).length≤kvs.length + more.length
 | [],kvs=>by show kvs.length≤kvs.length + 0; omega
 | p :: r,kvs=>by
  have h1:=length_mergeK r (putK kvs p.1 p.2)
  have h2:=length_putK kvs p.1 p.2
  show (mergeK (putK kvs p.1 p.2) r).length≤_
  rw [List.length_cons]; omega
theorem carries_of {P:Program} {w:World}:∀ {kvs:List (Key × V)} {ws:List (Value × Value)},VV (kvs.map fun kv=>(kV kv.1,kv.2)) ws→∃ rs,Carries (mixKind P w) ws rs∧KV kvs rs
 | [],_,r=>by rw [List.map_nil] at r; cases r; exact ⟨[],True.intro,.nil⟩
 | p :: kvs,_,r=>by
  rw [List.map_cons] at r
  cases r with
  | @cons a b as bs h t=>
   obtain ⟨rs,c,q⟩:=carries_of (P:=P) (w:=w) t
   obtain ⟨b1,b2⟩:=b
   exact ⟨(p.1,b2) :: rs,⟨kV_is h.1,rfl,c⟩,.cons ⟨rfl,h.2⟩ q⟩
noncomputable def tDisp (trs:List (TE × TE)):TE:=fun σ H Q=>∀ p,H p=none→tPairs trs σ (upd H p (.dK [])) fun ps H2=>H2 p=some (.dK [])∧∃ kvs:List (Key × V),ps=kvs.map (fun kv=>(kV kv.1,kv.2))∧kvs.length≤15∧Q (.ref p) (upd H2 p (.dK (mergeK [] kvs)))
theorem pe_disp {X:Cx} {pos:Pos} {keys:List (Option Expr)} {values:List Expr} {trs:List (TE × TE)} (h:PPs X pos keys values trs) (hall:keys.all (·.isSome)=true) (hl:keys.length=values.length) (h0:keys ≠ [])
  (h15:keys.length≤15):PE X (.Dict keys values pos) (tDisp trs):=by
 intro pins s σ H Q I q
 have hn:=I.hok.fresh (Nat.le_refl s.heap.objs.size)
 have I1:=I.laid (a:=s.heap.objs.size) (o:=.dK []) (h':=s.heap.push { cls:=.type "dict",data:=.dict #[] }) (t':=s.toks) (fun _ _ q=>Heap.get?_push_of_some _ q) (Nat.le_refl _) (dk_empty s.heap I.big)
 refine wpAny_Dict_walk (knd:=mixKind X.prog X.w) hall hl h0 h15 (thn (h pins _ σ _ _ I1 (q _ hn)) fun ws s2 zq=>?_)
 obtain ⟨ps,H2,I2,rel,e,kvs,ep,lk,q2⟩:=zq
 subst ep
 obtain ⟨rs,c,rk⟩:=carries_of (P:=X.prog) (w:=X.w) rel
 obtain ⟨z,hd,vs0,r0,dd⟩:=dk_of I2.hok e
 cases r0
 refine ⟨rs,c,dd,fun h' dd' hs=>⟨.ref s.heap.objs.size,_,?_,rfl,q2⟩⟩
 have hz:(mergeK [] kvs).length≤sizeLine:=by
  have h1:=length_mergeK kvs []
  rw [List.length_nil] at h1
  rw [sizeLine_eq]; omega
 have he:∃ q,h'.get? s.heap.objs.size=some q:=let ⟨q,_,_,hq,_⟩:=dd'; ⟨q,hq⟩
 exact d_write I2 (by rw [e]; exact True.intro) hs he (dk_new hz hd (rk.merge .nil) dd')
structure M2 (X:Cx) (o:Expr) (m:Str) (apos:Pos) (e f:Expr) (cpos:Pos):Prop where
 base:attributeBase o m X.env (eval o X.env)=eval o X.env
 few:((backTo cpos (starEach [e,f] X.env)).all (fun x=>!x.1) && (backToKw cpos (keywordEach [] X.env)).all (fun x=>x.1.isSome)
  && decide (([e,f]:List Expr).length + ([]:List Keyword).length + (if ([]:List Keyword).isEmpty then 0 else 1) < 30))=true
 line:(apos.endLine == cpos.line)=true
 trees:backTo cpos (starEach [e,f] X.env)=[(false,eval e X.env),(false,eval f X.env)]
noncomputable def IsD (H:Hp) (a:Addr):Prop:=(∃ kvs,Rd H a (.dK kvs)) ∨ ∃ kvs,Rd H a (.dT kvs)
theorem isD_at {X:Cx} {pins:List (Addr × Obj)} {σ:St} {H:Hp} {s:Shared} {a:Addr} (I:Inv X pins σ H s) (d:IsD H a):
  s.TypeIs (.ref a) "dict"∧(∀ b,Value.ref a=.ref b→∃ ob,s.heap.get? b=some ob∧ob.dict=none)∧(a == sysModules)=false:=by
 rcases d with ⟨kvs,e⟩ | ⟨kvs,e⟩
 ·obtain ⟨_,hd,vs,_,dd⟩:=dk_rd I.hok e
  refine ⟨dd.typeIs,fun b q=>?_,hd⟩
  cases q
  obtain ⟨ob,_,_,h1,h2,_⟩:=dd
  exact ⟨ob,h1,h2.2.1⟩
 ·obtain ⟨_,hd,xs,_,dd⟩:=dt_rd I.hok e
  refine ⟨dd.typeIs,fun b q=>?_,hd⟩
  cases q
  obtain ⟨ob,_,_,h1,h2,_⟩:=dd
  exact ⟨ob,h1,h2.2.1⟩
section
variable {X:Cx} {pins:List (Addr × Obj)} {σ:St} {H:Hp} {s:Shared} {a:Addr} {y d:V} {u r:Value} {o:Option V} {A:Around} {E:Value→Shared→Prop}
theorem d_get2 {Q:Value→Shared→Prop} (hu:A.units + 1 < cLine) (I:Inv X pins σ H s) (g:DGet H a y o) (ry:RelV y u) (rd:RelV d r) (h:∀ w' s',Inv X pins σ H s'→RelV (o.getD d) w'→Q w' s'):
  wpAny (model X.prog X.w) A (call (.builtin "dict.get") [.ref a,u,r]) Q E s:=by
 rcases g with ⟨kvs,k,e,ey,l⟩ | ⟨kvs,k,b,e,ey,eb,l⟩
 ·subst ey
  obtain ⟨z,hd,vs,rel,dd⟩:=dk_rd I.hok e
  refine call_meetsIn PySem.F.slot_dict_get dd.typeIs PySem.F.entry_dict_get (PySem.F.args_dict_get_3 _ _ _) (meets_dict_get_default (mixKind X.prog X.w) a (kV_is ry) hd r) ⟨_,dd.mapOf,h _ _ (I.tok _) ?_⟩
  rw [l]
  exact (rel.val k).getD rd
 ·subst ey
  cases (show u=Value.ref b from ry)
  obtain ⟨z,hd,xs,rel,dd⟩:=dt_rd I.hok e
  refine call_meetsIn PySem.F.slot_dict_get dd.typeIs PySem.F.entry_dict_get (PySem.F.args_dict_get_3 _ _ _) (meetsH_dict_get_default (tupleKind (mixKind X.prog X.w)) a b hd r) ⟨tupleKind_room_in1 hu,k,xs,key_of I.hok eb,dd,h _ _ (I.tok _) ?_⟩
  rw [l]
  exact (rel.val k).getD rd
end
noncomputable def tDGet2 (td ty tx:TE):TE:=fun σ H Q=>td σ H fun x H1=>∃ a,x=.ref a∧IsD H1 a∧ty σ H1 fun y H2=>tx σ H2 fun z H3=>∃ o,DGet H3 a y o∧Q (o.getD z) H3
section
variable {X:Cx} {o e f:Expr} {apos cpos:Pos} {td ty tx:TE}
theorem pe_dget2 (hu:X.A.units + 1 < cLine) (ho:PE X o td) (he:PE X e ty) (hf:PE X f tx) (m:M2 X o "get" apos e f cpos):PE X (.Call (.Attribute o "get" apos) [e,f] [] cpos) (tDGet2 td ty tx):=by
 intro pins s σ H Q I h
 refine wpAny_Call_method m.base m.few m.line PySem.F.plainAttrs_dict PySem.F.slot_dict_get PySem.F.type_dict_get (thn (ho pins s σ H _ I h) fun u s1 zq=>?_)
 obtain ⟨x,H1,I1,rx,a,ex,d,q1⟩:=zq
 subst ex
 obtain rfl:u=Value.ref a:=rx
 obtain ⟨t1,t2,_⟩:=isD_at I1 d
 refine ⟨t1,t2,?_⟩
 rw [m.trees]
 refine Calls.callWith_builtin rfl (Calls.evalArgs_plain (Calls.spliced_cons (thn (he pins s1 σ H1 _ I1 q1) fun iv s2 zq=>ex5 zq fun y H2 I2 ry q2=>
  Calls.spliced_cons (thn (hf pins s2 σ H2 _ I2 q2) fun fv s3 ⟨z,H3,I3,rz,ov,g,q3⟩=>Calls.spliced_nil ?_))))
 exact d_get2 hu I3 g ry rz fun w' s4 I4 rw'=>⟨_,H3,I4,rw',q3⟩
end
section
variable {X:Cx} {pins:List (Addr × Obj)} {σ:St} {H:Hp} {s:Shared} {a:Addr} {kvs:List (Key × V)} {A:Around} {E:Value→Shared→Prop}
end
section
variable {X:Cx} {pins:List (Addr × Obj)} {σ:St} {H:Hp} {s:Shared} {a:Addr} {y:V} {u:Value} {A:Around} {E:Value→Shared→Prop}
end
end L2
namespace Att
open PySem PySem.W PySem.Calls PyProof.Rows
theorem ints_of_wellAll {P:Params} {h:Heap}:∀ (ns:List Int) (vs:List Value),WellAll P h vs (ns.map WData.int)→IntsAre vs ns:=by
 intro ns
 induction ns with
 | nil=>
  intro vs w
  rw [List.map_nil] at w
  cases w
  exact .nil
 | cons n ns ih=>
  intro vs w
  rw [List.map_cons] at w
  cases w with
  | cons a b=>
   cases a
   exact .cons _ _ (ih _ b)
theorem script_of {l:OpenLaw} {n:Nat} (hn:l.most=some n) {P:Params} {h:Heap} {args:List WData} {vals:List Value}
  (hpre:l.row.toRowW.claim.pre args=true) (hwl:WellAll P h vals args):
  ∃ a vs ns,vals=[Value.ref a]∧args=[WData.list (ns.map WData.int)]∧h.get? a=some { cls:=.type "list",data:=.seq vs.toArray }∧IntsAre vs ns∧ns.length≤n:=by
 have hsh:WShape.hasAll [] args [.list .int]=true:=(pre_splitW hpre).1
 have hc:l.pre.holds [] { args:=args }=true:=(pre_splitW hpre).2
 obtain ⟨d,r,rfl,h1,h2⟩:=hasAllW_cons hsh
 obtain rfl:=hasAllW_nil h2
 obtain ⟨xs,rfl,h3⟩:=hasW_list h1
 obtain ⟨ns,rfl⟩:=items_int h3
 have hlen:ns.length≤n:=by
  unfold OpenLaw.pre at hc
  have h4:(WTm.not (.lt (.lit (.int (n:Int))) (.len (.arg 0)))).holds [] { args:=[.list (ns.map .int)] }=true:=by
   have h4:=(holds_andW hc).1
   rw [hn] at h4
   exact h4
  have h5:=condW_of h4 (w_not (w_lt w_lit (w_len_list (w_arg rfl))))
  rw [List.length_map] at h5
  refine Nat.le_of_not_lt fun q=>?_
  have q':(n:Int) < ((ns.length:Nat):Int):=by omega
  first
   | (rw [decide_eq_true q'] at h5; exact absurd h5 (by decide))
   | (simp at h5; omega)
 cases hwl with
 | cons w1 w2=>
  cases w2
  cases w1 with
  | list ho hall=>exact ⟨_,_,ns,rfl,rfl,ho,ints_of_wellAll ns _ hall,hlen⟩
theorem post_true (l:OpenLaw) (args:List WData):l.row.toRowW.claim.post args (.bool true) args=true:=
 postW_of (r:=l.row.toRowW) (X:=(true == true))
  (show WShape.has [] (.bool true) .bool=true by first | rfl | decide | simp [WShape.has,WShape.arms,WShape.armsAll])
  (show (WTm.eq .res (.lit (.bool true))).value [] { args:=args,res:=some (.bool true),after:=args }=some (.bool (true == true)) from w_eq_bool (w_res rfl) w_lit) rfl
theorem attach_call {l:OpenLaw} {n:Nat} {q:Program} {loose:List Str} {XP:(Str→Option Value)→Heap→Prop} {YP:World→Heap→Prop} {d:DefRec}
  (hn:l.most=some n) (hdf:d.params.defaults=[])
  (call:∀ (w:World) (s₀ s₁:Shared) (mg mb:Str→Option Value) (fa:Addr) (o:Obj) (pm cd doc:Value) (a:Addr) (vs:List Value) (ns:List Int),
   Ground q loose [] XP w s₀ mg mb s₁.heap→YP w s₁.heap→
   s₁.heap.get? fa=some o→o.data=.func (docDef d.name d.params d.body d.scope pm cd doc)→s₁.heap.CodeRec cd d.name→mg d.name=some (.ref fa)→
   s₁.heap.get? a=some { cls:=.type "list",data:=.seq vs.toArray }→IntsAre vs ns→ns.length≤n→s₁.gens = #[]→
   codeAny (model l.prog w) callerA (.call (.ref fa) ⟨[.ref a],[]⟩) (fun r s'=>r=.ok (.ret (.bool true))∧OldK s₁.heap s'.heap∧s'.os=s₁.os∧AllBare s'.gens) s₁):
  WalkO q loose XP YP l.row.toRowW d [] (fun f vs=>PySem.call f vs):=by
 intro w s₀ s₁ mg mb G Y fa o pm cd doc dV kV ho hd hcd hD hmg hg args vals as hpre hlay hrd hwl hlo
 obtain rfl:dV=.none:=Dflts.none hD hdf
 obtain rfl:kV=.none:=Dflts.noKw hD
 obtain ⟨a,vs,ns,rfl,rfl,hobj,hints,hlen⟩:=script_of hn hpre hwl
 refine enter_call (codeAny_mono (call w s₀ s₁ mg mb fa o pm cd doc a vs ns G Y ho (fd_plain hd) hcd hmg hobj hints hlen hg) fun r s' hq=>?_)
 obtain ⟨rfl,h2,h3,h4⟩:=hq
 exact ⟨.inl ⟨.bool true,.bool true,[],rfl,fun _=>rfl,.bool true,post_true l _,fun _=>⟨List.Pairwise.nil,fun _ hm=>(nomatch hm)⟩⟩,h2,h3,h4⟩
section
variable {prog:Program} {w:World} {A:Around} {E:Value→Shared→Prop} {s:Shared} {K:Frag}
end
end Att
namespace L2
open PySem PySem.Spec PyProof.Rows
theorem vals_ints:∀ {vs:List Value} {ns:List Int},IntsAre vs ns→Vals (ns.map V.int) vs
 | _,_,.nil=>.nil
 | _,_,.cons n t h=>.cons ⟨t,rfl⟩ (vals_ints h)
noncomputable def Only (H:Hp):Prop:=∀ b,H b=none ∨ ∃ o xs,H b=some (.frz o (.lst xs))
theorem law_call {P:Program} {w:World} {K:PySem.W.Frag} {mg mb:Str→Option Value} {CX:CXT} {k:Nat} {fa a:Addr} {fd:FuncData} {x:Str} {sp:Sp} {s₁:Shared} {vs:List Value} {ns:List Int}
  (KX:K.In s₁.heap) (hns:s₁.heap.Ns mainGlobals mg) (hb:s₁.heap.Ns builtinsNs mb) (hbb:∀ x:Str,x ≠ "__name__"→mb x=bootBuiltins x) (hlim:s₁.heap.NoLimit) (hg:s₁.gens = #[])
  (ha:s₁.heap.get? a=some { cls:=.type "list",data:=.seq vs.toArray }) (hi:IntsAre vs ns) (hl:ns.length≤sizeLine) (hr:Room k callerA)
  (F:∀ base:Heap,K.In base→base.Ns mainGlobals mg→FnOk P w K mg base CX k fa fd [x] sp) (hbind:∀ (s:Shared) (u:Value),BindsTo s fd ⟨[u],[]⟩ [(x,u)])
  (hsp:∀ H:Hp,Only H→SqL K H a (ns.map V.int)→sp [.ref a] H (fun v _=>v=.bl true) fun _ _ _=>False)
  (hCX:∀ H e s',CX [] H s₁ (fun _ _ _=>False) e s'→False):
  codeAny (model P w) callerA (.call (.ref fa) ⟨[.ref a],[]⟩) (fun r s'=>r=.ok (.ret (.bool true))∧OldK s₁.heap s'.heap∧s'.os=s₁.os∧AllBare s'.gens) s₁:=by
 have rv:=vals_ints hi
 have lenV:=hi.length
 -- from an abstract heap in which nothing but the script may be tracked
 have core:∀ H:Hp,Only H→SqL K H a (ns.map V.int)→HOk P w H s₁.heap→(∀ b,H b ≠ none→b=a)→(H a ≠ none→K.lookup a=none)→
   codeAny (model P w) callerA (.call (.ref fa) ⟨[.ref a],[]⟩) (fun r s'=>r=.ok (.ret (.bool true))∧OldK s₁.heap s'.heap∧s'.os=s₁.os∧AllBare s'.gens) s₁:=by
  intro H hO hS hok hA hK
  have base_of:∀ {b:Addr} {o:Obj},s₁.heap.get? b=some o→H b=none→(hidT s₁.heap H).get? b=some o:=fun e n=>hidT_get e n
  have noA:∀ {b:Addr} {o:Obj} {es:Array DictEntry} {ep:Nat},s₁.heap.get? b=some o→o.data=.dict es ep→H b=none:=fun {b o es ep} e d=>by
   cases q:H b with
   | none=>rfl
   | some u=>
    have e':b=a:=hA b (by rw [q]; simp)
    subst e'
    rw [ha] at e; cases e
    have d':Data.seq vs.toArray _=Data.dict es ep:=d
    cases d'
  have nsK:∀ {b:Addr} {m:Str→Option Value},s₁.heap.Ns b m→(hidT s₁.heap H).Ns b m:=fun {b m} ⟨o,es,ep,e,d,r⟩=>⟨o,es,ep,base_of e (noA e d),d,r⟩
  have hKb:K.In (hidT s₁.heap H):=fun b o e=>base_of (KX b o e) (by
   cases q:H b with
   | none=>rfl
   | some u=>
    have e':b=a:=hA b (by rw [q]; simp)
    subst e'
    rw [hK (by rw [q]; simp)] at e; cases e)
  have hM:Mod K mg (hidT s₁.heap H):=⟨hKb,nsK hns,⟨mb,nsK hb,hbb⟩,let ⟨mc,h1,h2⟩:=hlim; ⟨mc,nsK h1,h2⟩⟩
  have e0:Env0 P w K mg (hidT s₁.heap H) callerA [] s₁ H:=⟨rfl,hM,fun b o e=>of_hidT e,Nat.le_of_eq (hidT_size _ _),trivial,fun b hb=>absurd (show b ∈ ([]:List Addr) from hb) (by simp),hok,.of_eq hg⟩
  refine codeAny_mono ((F _ hKb (nsK hns)).run callerA [] s₁ H ⟨[.ref a],[]⟩ [.ref a] [.ref a] _ _ hr e0 (hbind s₁ (.ref a)) (.cons rfl .nil) (hsp H hO hS)) fun r s' h=>?_
  cases r with
  | error e=>exact (hCX H e s' h).elim
  | ok fl=>
   cases fl with
   | next=>exact False.elim h
   | brk=>exact False.elim h
   | cont=>exact False.elim h
   | ret u=>
    obtain ⟨v,H',os,bare,un,hok',r',q⟩:=h
    have q':v=.bl true:=q
    subst q'
    obtain rfl:u=Value.bool true:=r'
    refine ⟨rfl,OldK.of_keep fun b o e=>?_,os,bare⟩
    cases q:H b with
    | none=>exact un.keep b o e q (by intro z; exact absurd (show b ∈ ([]:List Addr) from z) (by simp)) (by simp)
    | some u=>
     rcases hO b with z | ⟨ob,xs,z⟩
     ·rw [q] at z; cases z
     ·have z2:=un.frzs b ob _ z
      obtain ⟨e1,_⟩:=hok b _ z
      obtain ⟨e2,_⟩:=hok' b _ z2
      rw [e] at e1; cases e1
      exact e2
 cases hk:K.lookup a with
 | some o=>
  -- the script is one of the module's own objects
  have e:=KX a o hk
  rw [ha] at e
  cases e
  refine core (fun _=>none) (fun _=>.inl rfl) (.inr ⟨_,vs.toArray,_,hk,rfl,rfl,rfl,by rw [List.size_toArray,lenV]; exact hl,by simpa using rv⟩) (fun b u z=>by have z':(none:Option HO)=some u:=z; cases z') (fun b z=>absurd rfl z) fun z=>absurd rfl z
 | none=>
  refine core (fun b=>if b=a then some (.frz { cls:=.type "list",data:=.seq vs.toArray } (.lst (ns.map V.int))) else none) (fun b=>?_) (.inl (.inr ⟨{ cls:=.type "list",data:=.seq vs.toArray },if_pos rfl⟩)) (fun b u z=>?_) (fun b z=>?_) fun _=>hk
  ·by_cases hb:b=a
   ·exact .inr ⟨_,_,if_pos hb⟩
   ·exact .inl (if_neg hb)
  ·by_cases hb:b=a
   ·have z':=(if_pos hb).symm.trans z
    cases z'
    subst hb
    exact ⟨ha,by rw [List.length_map]; exact hl,vs,_,rv,ha⟩
   ·have z':=(if_neg hb).symm.trans z
    cases z'
  ·by_cases hb:b=a
   ·exact hb
   ·exact absurd (if_neg hb) z
end L2
namespace L2
open PySem PySem.Spec PyProof.Rows
theorem walk_of {l:PySem.W.OpenLaw} {n k:Nat} {q:Program} {loose:List Str} {XP:(Str→Option Value)→Heap→Prop} {YP:World→Heap→Prop} {d:DefRec} {K:Params→PySem.W.Frag} {CX:World→CXT} {sp:World→Sp} {x:Str}
  (hn:l.most=some n) (hn2:n≤sizeLine) (hdf:d.params.defaults=[]) (hr:Room k callerA)
  (hY:∀ (w:World) (h:Heap),YP w h→(K w.params).In h)
  (F:∀ (w:World) (mg:Str→Option Value) (fa:Addr) (h:Heap),(K w.params).In h→h.Ns mainGlobals mg→mg d.name=some (.ref fa)→
   ∃ fd:FuncData,(∀ (s:Shared) (u:Value),BindsTo s fd ⟨[u],[]⟩ [(x,u)])∧
    ∀ base:Heap,(K w.params).In base→base.Ns mainGlobals mg→FnOk l.prog w (K w.params) mg base (CX w) k fa fd [x] (sp w))
  (hsp:∀ (w:World) (H:Hp) (a:Addr) (ns:List Int),ns.length≤n→Only H→SqL (K w.params) H a (ns.map V.int)→sp w [.ref a] H (fun v _=>v=.bl true) fun _ _ _=>False)
  (hCX:∀ (w:World) (H:Hp) (s:Shared) (e:Value) (s':Shared),CX w [] H s (fun _ _ _=>False) e s'→False):
  PySem.W.WalkO q loose XP YP l.row.toRowW d [] (fun f vs=>PySem.call f vs):=by
 refine Att.attach_call hn hdf fun w s₀ s₁ mg mb fa o pm cd doc a vs ns G Y ho hd hcd hmg hobj hints hlen hg=>?_
 have KX:=hY w _ Y
 obtain ⟨fd,hb,hF⟩:=F w mg fa _ KX G.T.g hmg
 exact law_call KX G.T.g G.T.b G.T.builtins G.T.nolimit hg hobj hints (Nat.le_trans hlen hn2) hr hF hb (fun H hO hS=>hsp w H a ns hlen hO hS) fun H e s'=>hCX w H s₁ e s'
end L2
namespace L2
open PySem PySem.Spec PyProof.Rows
noncomputable def defArgs (s:Stmt):Arguments:=match s with
 | .FunctionDef _ a _ _ _ _ _ _ _ _=>a
 | _=>{ posonlyargs:=[],args:=[],vararg:=none,kwonlyargs:=[],kw_defaults:=[],kwarg:=none,defaults:=[] }
noncomputable def defBody (s:Stmt):List Stmt:=match s with
 | .FunctionDef _ _ b _ _ _ _ _ _ _=>b
 | _=>[]
noncomputable def defScope (s:Stmt):Scope:=match s with
 | .FunctionDef _ _ _ _ _ _ sc _ _ _=>sc
 | _=>{ kind:=.function,names:=[],isGenerator:=false,isCoroutine:=false }
noncomputable abbrev E0:XK:=fun _ _ _=>False
structure Fun (K:PySem.W.Frag) (x qual:Str) (st:Stmt) (f:Addr) (fd:FuncData):Prop where
 ex:∃ (oc:Value) (od:Option Addr) (kV doc pm:Value) (an:Option Addr) (cdv ct:Value) (osl:Array (Option Value)),
  fd=PySem.W.fnOf x qual (defArgs st) (defBody st) (defScope st) .none kV doc pm an cdv ct∧K.lookup f=some ⟨oc,od,.func fd,osl⟩∧PySem.W.codeIn K cdv qual=true
 kp:PySem.W.keepIn K (.ref f)=true
section
variable {P:Program} {w:World} {K:PySem.W.Frag} {mg:Str→Option Value} {base:Heap}
theorem Fun.binds {x qual:Str} {st:Stmt} {f:Addr} {fd:FuncData} {ps:List Str} (F:Fun K x qual st f fd)
  (h:∀ (kV doc pm:Value) (an:Option Addr) (cdv ct:Value) (us:List Value),us.length=ps.length→bindArgs (PySem.W.fnOf x qual (defArgs st) (defBody st) (defScope st) .none kV doc pm an cdv ct) ⟨us,[]⟩=pure (ps.zip us)):Binds K fd ps []:=by
 obtain ⟨oc,od,kV,doc,pm,an,cdv,ct,osl,rfl,lk,hcd⟩:=F.ex
 exact .all (h kV doc pm an cdv ct)
theorem fun_mk {x qual:Str} {st:Stmt} {f:Addr} {oc:Value} {od an:Option Addr} {osl:Array (Option Value)} {kV doc pm cdv ct:Value} (l:K.lookup f=some ⟨oc,od,.func (PySem.W.fnOf x qual (defArgs st) (defBody st) (defScope st) .none kV doc pm an cdv ct),osl⟩)
  (c:PySem.W.codeIn K cdv qual=true) (k:PySem.W.keepIn K (.ref f)=true):Fun K x qual st f (PySem.W.fnOf x qual (defArgs st) (defBody st) (defScope st) .none kV doc pm an cdv ct):=⟨⟨oc,od,kV,doc,pm,an,cdv,ct,osl,rfl,l,c⟩,k⟩
end
section
variable {X:Cx}
theorem pv (i:Nat) {x:Str} {pos:Pos} (hN:autoParam (X.N[i]?=some x) Au.h1._auto_1) (hv:Vis X.env.scope x) (hd:autoParam ((x == ("__debug__":Str))=false) Au.h2._auto_1)
  (hcd:autoParam ((x == ("__classdict__":Str))=false) Au.h2._auto_1):PE X (.Name x pos) (tVar i):=pe_var hN hv hd hcd
end
theorem iteF {A B:Prop} (h:B):if false=true then A else B:=by
 rw [if_neg Bool.false_ne_true]
 exact h
theorem iteT {A B:Prop} (h:A):if true=true then A else B:=by
 rw [if_pos rfl]
 exact h
end L2
namespace L2
open PySem PySem.Spec PyProof.Rows
section
variable {X:Cx}
theorem call_lenD:CallR X (.builtin "len") (fun xs H Q=>∃ a kvs,xs=[V.ref a]∧H a=some (.dK kvs)∧Q (.int kvs.length) H):=by
 intro pins s σ H xs us Q I r h
 obtain ⟨a,kvs,rfl,ha,q⟩:=h
 obtain ⟨u,rfl,ru⟩:=vals1 r
 cases ru
 exact d_len I (.inl ha) fun t s' I'=>⟨.int kvs.length,H,I',⟨t,rfl⟩,q⟩
end
section
variable {κ:Type} [DecidableEq κ]
end
end L2
end
set_option autoImplicit false
namespace PD
open PySem
inductive D where
 | non | bl (b:Bool) | int (i:Int) | str (x:Str)
 | tup (xs:List D) | lst (xs:List D) | fz (xs:List D) | dic (kvs:List (Sum Int Str × D)) | ref (n:Nat) | ty (n:String)
 /-- a caught exception of an own class; an own class -/
 | exc (c:Str) | cls (c:Str)
 deriving Inhabited
inductive SO where
 | lst (xs:List D) | dic (kvs:List (Sum Int Str × D)) | ins (c:Str) (fs:List (Str × D))
 /-- a dict that has been walked: read,changed no more -/
 | fdic (kvs:List (Sum Int Str × D))
 /-- a list that has been walked: read,changed no more -/
 | flst (xs:List D)
 deriving Inhabited
noncomputable abbrev Sto:=List SO
set_option genInjectivity false in
structure XD where
 cls:Str
 arg:D
 deriving Inhabited
inductive R (A:Type) where
 | ok (a:A) (S:Sto) | err (x:XD) (S:Sto) | bad
noncomputable def R.bind {A B:Type} (r:R A) (f:A→Sto→R B):R B:=match r with
 | .ok a S=>f a S | .err x S=>.err x S | .bad=>.bad
theorem R.bind_ok {A B:Type} (a:A) (S:Sto) (f:A→Sto→R B):(R.ok a S).bind f=f a S:=rfl
theorem R.bind_err {A B:Type} (x:XD) (S:Sto) (f:A→Sto→R B):(R.err (A:=A) x S).bind f=.err x S:=rfl
theorem R.bind_bad {A B:Type} (f:A→Sto→R B):(R.bad (A:=A)).bind f=.bad:=rfl
noncomputable def R.of {A:Type} (S:Sto):Option A→R A
 | some a=>.ok a S | none=>.bad
theorem R.of_some {A:Type} (S:Sto) (a:A):R.of S (some a)=.ok a S:=rfl
noncomputable abbrev Rho:=List (Option D)
noncomputable abbrev EM:=Rho→Sto→R D
noncomputable abbrev TM:=Rho→Sto→R Bool
noncomputable abbrev AM:=Rho→Sto→R (List D)
set_option genInjectivity false in
inductive F where
 | nx (r:Rho) | rt (d:D) | bk (r:Rho) | ct (r:Rho)
noncomputable abbrev SM:=Rho→Sto→R F
noncomputable abbrev FM:=List D→Sto→R D
noncomputable def eVar (i:Nat):EM:=fun r S=>match r[i]? with
 | some (some d)=>.ok d S
 | _=>.bad
noncomputable def eC (d:D):EM:=fun _ S=>.ok d S
noncomputable def eUn (f:Sto→D→Option D) (a:EM):EM:=fun r S=>(a r S).bind fun x S1=>R.of S1 (f S1 x)
noncomputable def eOp (f:Sto→D→D→Option D) (a b:EM):EM:=fun r S=>(a r S).bind fun x S1=>(b r S1).bind fun y S2=>R.of S2 (f S2 x y)
noncomputable def eChain (f g:Sto→D→D→Option D) (a b c:EM):EM:=fun r S=>(a r S).bind fun x S1=>(b r S1).bind fun y S2=>match f S2 x y with
 | some (.bl true)=>(c r S2).bind fun z S3=>R.of S3 (g S3 y z)
 | some (.bl false)=>.ok (.bl false) S2
 | _=>.bad
noncomputable def eAnd (a b:EM):EM:=fun r S=>(a r S).bind fun x S1=>match x with
 | .bl true=>b r S1
 | .bl false=>.ok (.bl false) S1
 | _=>.bad
noncomputable def eOr (a b:EM):EM:=fun r S=>(a r S).bind fun x S1=>match x with
 | .bl true=>.ok (.bl true) S1
 | .bl false=>b r S1
 | _=>.bad
noncomputable def eNot (a:EM):EM:=fun r S=>(a r S).bind fun x S1=>match x with
 | .bl b=>.ok (.bl (!b)) S1
 | _=>.bad
noncomputable def eIf (t:TM) (a b:EM):EM:=fun r S=>(t r S).bind fun c S1=>if c=true then a r S1 else b r S1
noncomputable def aNil:AM:=fun _ S=>.ok [] S
noncomputable def aCons (a:EM) (t:AM):AM:=fun r S=>(a r S).bind fun x S1=>(t r S1).bind fun xs S2=>.ok (x :: xs) S2
noncomputable def eTup (t:AM):EM:=fun r S=>(t r S).bind fun xs S1=>if xs.length≤sizeLine then .ok (.tup xs) S1 else .bad
noncomputable def eLst (t:AM):EM:=fun r S=>(t r S).bind fun xs S1=>if xs.length≤sizeLine then .ok (.lst xs) S1 else .bad
noncomputable def eNew (t:AM):EM:=fun r S=>(t r S).bind fun xs S1=>if xs.length≤sizeLine then .ok (.ref S1.length) (S1 ++ [.lst xs]) else .bad
noncomputable def eCall (f:FM) (t:AM):EM:=fun r S=>(t r S).bind fun xs S1=>f xs S1
noncomputable def eB (f:Sto→List D→Option D) (t:AM):EM:=fun r S=>(t r S).bind fun xs S1=>R.of S1 (f S1 xs)
noncomputable def eBN (f:Sto→List D→Option SO) (t:AM):EM:=fun r S=>(t r S).bind fun xs S1=>match f S1 xs with
 | some o=>.ok (.ref S1.length) (S1 ++ [o])
 | none=>.bad
noncomputable def tV (a:EM):TM:=fun r S=>(a r S).bind fun x S1=>match x with
 | .bl b=>.ok b S1
 | _=>.bad
noncomputable def tAnd (a b:TM):TM:=fun r S=>(a r S).bind fun c S1=>if c=true then b r S1 else .ok false S1
noncomputable def tOr (a b:TM):TM:=fun r S=>(a r S).bind fun c S1=>if c=true then .ok true S1 else b r S1
noncomputable def tNot (a:TM):TM:=fun r S=>(a r S).bind fun c S1=>.ok (!c) S1
noncomputable def R.nx {A:Type}:R A→R A
 | .err _ _=>.bad
 | r=>r
noncomputable def eNx (a:EM):EM:=fun r S=>(a r S).nx
noncomputable def tNx (a:TM):TM:=fun r S=>(a r S).nx
noncomputable def aNx (a:AM):AM:=fun r S=>(a r S).nx
noncomputable def sSkip:SM:=fun r S=>.ok (.nx r) S
noncomputable def sBad:SM:=fun _ _=>.bad
noncomputable def sSeq (a b:SM):SM:=fun r S=>(a r S).bind fun f S1=>match f with
 | .nx r1=>b r1 S1
 | g=>.ok g S1
noncomputable def sRet (a:EM):SM:=fun r S=>(a r S).bind fun x S1=>.ok (.rt x) S1
noncomputable def sRetN:SM:=fun _ S=>.ok (.rt .non) S
noncomputable def sDrop (a:EM):SM:=fun r S=>(a r S).bind fun _ S1=>.ok (.nx r) S1
noncomputable def sIf (t:TM) (a b:SM):SM:=fun r S=>(t r S).bind fun c S1=>if c=true then a r S1 else b r S1
noncomputable def sBreak:SM:=fun r S=>.ok (.bk r) S
noncomputable def sCont:SM:=fun r S=>.ok (.ct r) S
set_option genInjectivity false in
inductive G where
 | nm (i:Nat) | tp (gs:List G)
mutual
noncomputable def G.put:G→D→Rho→Option Rho
 | .nm i,d,r=>some (r.set i (some d))
 | .tp gs,d,r=>match d with
  | .tup xs=>G.puts gs xs r
  | _=>none
noncomputable def G.puts:List G→List D→Rho→Option Rho
 | [],[],r=>some r
 | g :: gs,x :: xs,r=>match G.put g x r with
  | some r1=>G.puts gs xs r1
  | none=>none
 | _,_,_=>none
end
noncomputable def sSet (i:Nat) (a:EM):SM:=fun r S=>(a r S).bind fun x S1=>.ok (.nx (r.set i (some x))) S1
noncomputable def sAsg (g:G) (a:EM):SM:=fun r S=>(a r S).bind fun x S1=>match g.put x r with
 | some r1=>.ok (.nx r1) S1
 | none=>.bad
noncomputable def sPar (i j:Nat) (t:AM):SM:=fun r S=>(t r S).bind fun xs S1=>match xs with
 | [x,y]=>.ok (.nx ((r.set i (some x)).set j (some y))) S1
 | _=>.bad
noncomputable def sPut (f:Sto→D→D→D→Option Sto) (e o i:EM):SM:=fun r S=>(e r S).bind fun v S1=>(o r S1).bind fun x S2=>(i r S2).bind fun y S3=>match f S3 x y v with
 | some S4=>.ok (.nx r) S4
 | none=>.bad
noncomputable def sMut (f:Sto→D→List D→Option Sto) (o:EM) (t:AM):SM:=fun r S=>(o r S).bind fun x S1=>(t r S1).bind fun ys S2=>match f S2 x ys with
 | some S3=>.ok (.nx r) S3
 | none=>.bad
noncomputable def sNx (a:SM):SM:=fun r S=>(a r S).nx
noncomputable def sRaise (c:Str) (t:AM):SM:=fun r S=>(t r S).bind fun xs S1=>if xs.length≤sizeLine then .err ⟨c,.tup xs⟩ S1 else .bad
noncomputable def sTry (cs:List Str) (i n:Nat) (b h:SM):SM:=fun r S=>match b r S with
 | .err x S1=>if cs.contains x.cls=true then (h ((List.replicate n none).set i (some (.exc x.cls))) S1).nx.bind fun f S2=>match f with
   | .rt d=>.ok (.rt d) S2
   | _=>.bad
  else .bad
 | .ok f S1=>.ok f S1
 | .bad=>.bad
noncomputable def forL (g:G) (b:SM):List D→SM
 | []=>fun r S=>.ok (.nx r) S
 | x :: xs=>fun r S=>match g.put x r with
  | none=>.bad
  | some r1=>(b r1 S).bind fun f S1=>match f with
   | .nx r2=>forL g b xs r2 S1
   | .ct r2=>forL g b xs r2 S1
   | .bk r2=>.ok (.nx r2) S1
   | .rt d=>.ok (.rt d) S1
noncomputable def sFor (it:AM) (g:G) (b:SM):SM:=fun r S=>(it r S).bind fun xs S1=>forL g b xs r S1
noncomputable def whileL (t:TM) (b:SM):Nat→SM
 | 0=>fun _ _=>.bad
 | n + 1=>fun r S=>(t r S).bind fun c S1=>if c=true then (b r S1).bind fun f S2=>match f with
   | .nx r2=>whileL t b n r2 S2
   | .ct r2=>whileL t b n r2 S2
   | .bk r2=>.ok (.nx r2) S2
   | .rt d=>.ok (.rt d) S2
  else .ok (.nx r) S1
noncomputable def capOf (k:Nat) (caps:List Nat) (r:Rho):Rho:=List.replicate k none ++ caps.map fun i=>(r[i]?).join
noncomputable def compL (g:G) (t:TM) (e:EM):List D→Rho→Sto→R (List D)
 | [],_,S=>.ok [] S
 | x :: xs,r,S=>match g.put x r with
  | none=>.bad
  | some r1=>(t r1 S).bind fun c S1=>if c=true then (e r1 S1).bind fun y S2=>(compL g t e xs r1 S2).bind fun ys S3=>.ok (y :: ys) S3
    else compL g t e xs r1 S1
noncomputable def eComp (it:AM) (k:Nat) (caps:List Nat) (g:G) (t:TM) (e:EM):EM:=fun r S=>(it r S).bind fun xs S1=>
 if xs.length≤sizeLine then (compL g t e xs (capOf k caps r) S1).bind fun ys S2=>.ok (.lst ys) S2 else .bad
noncomputable def tTrue:TM:=fun _ S=>.ok true S
noncomputable def fnM (n:Nat) (b:SM):FM:=fun ds S=>(b (ds.map some ++ List.replicate (n - ds.length) none) S).bind fun f S1=>match f with
 | .rt d=>.ok d S1
 | .nx _=>.ok .non S1
 | _=>.bad
end PD
namespace PD
open PySem PySem.Spec PyProof.Rows L2
set_option genInjectivity false in
structure Wd where
 st:List Addr
 hid:List Addr
noncomputable def Wd.no (w:Wd) (a:Addr):Prop:=a ∉ w.st∧a ∉ w.hid
noncomputable def Wd.add (w:Wd) (p:Addr):Wd:=⟨w.st ++ [p],w.hid⟩
noncomputable def Wd.hide (w:Wd) (p:Addr):Wd:=⟨w.st,p :: w.hid⟩
noncomputable def At (w:Wd) (H:Hp) (a:Addr) (o:HO):Prop:=H a=some o∧w.no a
noncomputable def KTup (K:PySem.W.Frag) (a:Addr) (vs:List V):Prop:=
 ∃ (o:Obj) (its:Array Value) (n:Nat),K.lookup a=some o∧o.cls=.type "tuple"∧o.data=.seq its n∧its.size≤sizeLine∧Vals vs its.toList
noncomputable def KLst (K:PySem.W.Frag) (a:Addr) (vs:List V):Prop:=
 ∃ (o:Obj) (its:Array Value) (n:Nat),K.lookup a=some o∧o.cls=.type "list"∧o.dict=none∧o.data=.seq its n∧its.size≤sizeLine∧Vals vs its.toList
noncomputable def FzAt (K:PySem.W.Frag) (w:Wd) (H:Hp) (a:Addr) (vs:List V):Prop:=(∃ o,At w H a (.frz o (.lst vs))) ∨ KLst K a vs
theorem FzAt.sq {K:PySem.W.Frag} {w:Wd} {H:Hp} {a:Addr} {vs:List V} (h:FzAt K w H a vs):SqL K H a vs:=h.elim (fun ⟨o,z⟩=>.inl (.inr ⟨o,z.1⟩)) .inr
noncomputable def ExcAt (a:Addr) (C:Value):Heap→Prop:=fun h=>∃ o,h.get? a=some o∧o.cls=C
mutual
noncomputable def RD (K:PySem.W.Frag) (w:Wd) (H:Hp):D→V→Prop
 | .non,v=>v=.non
 | .bl b,v=>v=.bl b
 | .int i,v=>v=.int i
 | .str x,v=>v=.str x
 | .tup ds,v=>∃ a vs,v=.ref a∧(At w H a (.tup vs) ∨ KTup K a vs)∧RDs K w H ds vs
 | .lst ds,v=>∃ a vs,v=.ref a∧At w H a (.lst vs)∧RDs K w H ds vs
 | .fz ds,v=>∃ a vs,v=.ref a∧FzAt K w H a vs∧RDs K w H ds vs
 | .dic kvs,v=>∃ a us,v=.ref a∧At w H a (.dK us)∧RDk K w H kvs us
 | .ref n,v=>∃ a,v=.ref a∧w.st[n]?=some a
 | .ty n,v=>v=.ty n
 | .exc c,v=>∃ a C o,v=.ref a∧PySem.W.nsIn K mainGlobals c=some (some C)∧At w H a (.frz o (.ext (ExcAt a C)))
 | .cls c,v=>∃ C,PySem.W.nsIn K mainGlobals c=some (some (.ref C))∧v=.ref C
noncomputable def RDs (K:PySem.W.Frag) (w:Wd) (H:Hp):List D→List V→Prop
 | [],vs=>vs=[]
 | d :: ds,vs=>∃ v r,vs=v :: r∧RD K w H d v∧RDs K w H ds r
noncomputable def RDk (K:PySem.W.Frag) (w:Wd) (H:Hp):List (Sum Int Str × D)→List (Key × V)→Prop
 | [],us=>us=[]
 | (k,d) :: ds,us=>∃ v r,us=(k,v) :: r∧RD K w H d v∧RDk K w H ds r
end
structure Ext (w:Wd) (H:Hp) (w':Wd) (H':Hp):Prop where
 keep:∀ a o,H a=some o→a ∉ w.st→H' a=some o
 sub:∃ l,w'.st=w.st ++ l∧∀ a ∈ l,H a=none
 hid:∀ a,a ∈ w.hid→a ∈ w'.hid
 hnew:∀ a,a ∈ w'.hid→a ∈ w.hid ∨ H a=none
 frz:∀ a o u,H a=some (.frz o u)→H' a=some (.frz o u)
theorem Ext.refl (w:Wd) (H:Hp):Ext w H w H:=⟨fun _ _ h _=>h,⟨[],by simp,fun _ h=>nomatch h⟩,fun _ h=>h,fun _ h=>.inl h,fun _ _ _ h=>h⟩
theorem Ext.out {w w':Wd} {H H':Hp} (x:Ext w H w' H') {a:Addr} {o:HO} (h:H a=some o) (n:a ∉ w.st):a ∉ w'.st:=by
 obtain ⟨l,e,f⟩:=x.sub
 rw [e]
 intro z
 rcases List.mem_append.mp z with z | z
 ·exact n z
 ·rw [f a z] at h; cases h
theorem Ext.at {w w':Wd} {H H':Hp} (x:Ext w H w' H') {a:Addr} {o:HO} (h:At w H a o):At w' H' a o:=⟨x.keep a o h.1 h.2.1,x.out h.1 h.2.1,fun z=>(x.hnew a z).elim h.2.2 fun e=>by rw [h.1] at e; cases e⟩
theorem Ext.get {w w':Wd} {H H':Hp} (x:Ext w H w' H') {n:Nat} {a:Addr} (h:w.st[n]?=some a):w'.st[n]?=some a:=by
 obtain ⟨l,e,f⟩:=x.sub
 rw [e,List.getElem?_append_left (List.getElem?_eq_some_iff.mp h).1]
 exact h
theorem Ext.trans {w w1 w2:Wd} {H H1 H2:Hp} (x:Ext w H w1 H1) (y:Ext w1 H1 w2 H2) (fr:∀ a ∈ w.st,∃ o,H a=some o∧∃ o',H1 a=some o'):Ext w H w2 H2:=by
 have hno:∀ a,H1 a=none→H a=none:=fun a z=>by
  cases e:H a with
  | none=>rfl
  | some o=>
   by_cases hw:a ∈ w.st
   ·obtain ⟨_,_,o',e'⟩:=fr a hw
    rw [z] at e'; cases e'
   ·have:=x.keep a o e hw
    rw [z] at this; cases this
 refine ⟨fun a o h n=>y.keep a o (x.keep a o h n) (x.out h n),?_,fun a h=>y.hid a (x.hid a h),fun a h=>(y.hnew a h).elim (x.hnew a) fun z=>.inr (hno a z),fun a o u h=>y.frz a o u (x.frz a o u h)⟩
 obtain ⟨l,e1,f⟩:=x.sub
 obtain ⟨l2,e2,f2⟩:=y.sub
 refine ⟨l ++ l2,by rw [e2,e1]; simp,fun a ha=>?_⟩
 rcases List.mem_append.mp ha with z | z
 ·exact f a z
 ·exact hno a (f2 a z)
section
variable {K:PySem.W.Frag} {w w':Wd} {H H':Hp}
mutual
theorem RD.ext (x:Ext w H w' H'):∀ (d:D) (v:V),RD K w H d v→RD K w' H' d v
 | .non,_,h=>h
 | .bl _,_,h=>h
 | .int _,_,h=>h
 | .str _,_,h=>h
 | .tup ds,v,h=>by
  unfold RD at h ⊢
  obtain ⟨a,vs,e,p,r⟩:=h
  exact ⟨a,vs,e,p.imp x.at id,RDs.ext x ds vs r⟩
 | .lst ds,v,h=>by
  unfold RD at h ⊢
  obtain ⟨a,vs,e,p,r⟩:=h
  exact ⟨a,vs,e,x.at p,RDs.ext x ds vs r⟩
 | .fz ds,v,h=>by
  unfold RD at h ⊢
  obtain ⟨a,vs,e,p,r⟩:=h
  exact ⟨a,vs,e,p.imp (fun ⟨o,z⟩=>⟨o,x.at z⟩) id,RDs.ext x ds vs r⟩
 | .dic kvs,v,h=>by
  unfold RD at h ⊢
  obtain ⟨a,us,e,p,r⟩:=h
  exact ⟨a,us,e,x.at p,RDk.ext x kvs us r⟩
 | .ref n,v,h=>by
  unfold RD at h ⊢
  obtain ⟨a,e,p⟩:=h
  exact ⟨a,e,x.get p⟩
 | .ty _,_,h=>h
 | .exc c,v,h=>by
  unfold RD at h ⊢
  obtain ⟨a,C,o,e,q,p⟩:=h
  exact ⟨a,C,o,e,q,x.at p⟩
 | .cls _,_,h=>h
theorem RDs.ext (x:Ext w H w' H'):∀ (ds:List D) (vs:List V),RDs K w H ds vs→RDs K w' H' ds vs
 | [],_,h=>h
 | d :: ds,vs,h=>by
  unfold RDs at h ⊢
  obtain ⟨v,r,e,p,q⟩:=h
  exact ⟨v,r,e,RD.ext x d v p,RDs.ext x ds r q⟩
theorem RDk.ext (x:Ext w H w' H'):∀ (ds:List (Sum Int Str × D)) (vs:List (Key × V)),RDk K w H ds vs→RDk K w' H' ds vs
 | [],_,h=>h
 | (k,d) :: ds,vs,h=>by
  unfold RDk at h ⊢
  obtain ⟨v,r,e,p,q⟩:=h
  exact ⟨v,r,e,RD.ext x d v p,RDk.ext x ds r q⟩
end
end
noncomputable def RDf (K:PySem.W.Frag) (w:Wd) (H:Hp) (fs:List (Str × D)) (us:List (Str × V)):Prop:=fs.map (·.1)=us.map (·.1)∧RDs K w H (fs.map (·.2)) (us.map (·.2))
noncomputable def RO (K:PySem.W.Frag) (w:Wd) (H:Hp) (a:Addr):SO→Prop
 | .lst ds=>∃ vs,H a=some (.lst vs)∧RDs K w H ds vs
 | .dic kvs=>∃ us,H a=some (.dK us)∧RDk K w H kvs us
 | .fdic kvs=>∃ o us,H a=some (.frz o (.dK us))∧RDk K w H kvs us
 | .ins c fs=>∃ C dx us,PySem.W.nsIn K mainGlobals c=some (some (.ref C))∧H a=some (.ins C dx us)∧RDf K w H fs us
 | .flst ds=>∃ o vs,H a=some (.frz o (.lst vs))∧RDs K w H ds vs
structure RS (K:PySem.W.Frag) (w:Wd) (H:Hp) (S:Sto):Prop where
 nd:w.st.Nodup
 len:w.st.length=S.length
 obj:∀ (n:Nat) (o:SO),S[n]?=some o→∃ a:Addr,w.st[n]?=some a∧RO K w H a o
 hid:∀ a ∈ w.hid,a ∉ w.st∧∃ o,H a=some o
section
variable {K:PySem.W.Frag} {w w':Wd} {H H':Hp} {S:Sto}
theorem RS.there (s:RS K w H S) {a:Addr} (ha:a ∈ w.st):∃ o,H a=some o:=by
 obtain ⟨n,hn⟩:=List.mem_iff_getElem?.mp ha
 have hl:n < S.length:=by rw [← s.len]; exact (List.getElem?_eq_some_iff.mp hn).1
 obtain ⟨b,hb,r⟩:=s.obj n S[n] (List.getElem?_eq_getElem hl)
 rw [hn] at hb; cases hb
 revert r
 cases S[n] with
 | lst ds=>rintro ⟨vs,e,_⟩; exact ⟨_,e⟩
 | dic kvs=>rintro ⟨vs,e,_⟩; exact ⟨_,e⟩
 | fdic kvs=>rintro ⟨o,vs,e,_⟩; exact ⟨_,e⟩
 | ins c fs=>rintro ⟨C,dx,us,_,e,_⟩; exact ⟨_,e⟩
 | flst ds=>rintro ⟨o,vs,e,_⟩; exact ⟨_,e⟩
theorem RS.freshS (s:RS K w H S) {a:Addr} (h:H a=none):a ∉ w.st:=fun z=>by
 obtain ⟨o,e⟩:=s.there z
 rw [h] at e; cases e
theorem RS.fresh (s:RS K w H S) {a:Addr} (h:H a=none):w.no a:=⟨s.freshS h,fun z=>by
 obtain ⟨_,o,e⟩:=s.hid a z
 rw [h] at e; cases e⟩
theorem Ext.trans' {w1 w2:Wd} {H1 H2:Hp} {S1:Sto} (x:Ext w H w1 H1) (y:Ext w1 H1 w2 H2) (s:RS K w H S) (s1:RS K w1 H1 S1):Ext w H w2 H2:=
 x.trans y fun a ha=>by
  obtain ⟨o,e⟩:=s.there ha
  obtain ⟨l,el,_⟩:=x.sub
  obtain ⟨o',e'⟩:=s1.there (a:=a) (by rw [el]; exact List.mem_append_left _ ha)
  exact ⟨o,e,o',e'⟩
theorem Ext.new {p:Addr} {o:HO} (hp:H p=none):Ext w H w (upd H p o):=
 ⟨fun a u e _=>by rw [upd_ne (ne_of_none e hp)]; exact e,⟨[],by simp,fun _ z=>nomatch z⟩,fun _ h=>h,fun _ h=>.inl h,fun a o u e=>by rw [upd_ne (ne_of_none e hp)]; exact e⟩
theorem RO.ext (x:Ext w H w' H') {a:Addr} {o:SO} (hk:∀ u,H a=some u→H' a=some u) (r:RO K w H a o):RO K w' H' a o:=by
 cases o with
 | lst ds=>obtain ⟨vs,e,q⟩:=r; exact ⟨vs,hk _ e,RDs.ext x _ _ q⟩
 | dic kvs=>obtain ⟨vs,e,q⟩:=r; exact ⟨vs,hk _ e,RDk.ext x _ _ q⟩
 | fdic kvs=>obtain ⟨o,vs,e,q⟩:=r; exact ⟨o,vs,hk _ e,RDk.ext x _ _ q⟩
 | ins c fs=>obtain ⟨C,dx,us,n,e,q1,q2⟩:=r; exact ⟨C,dx,us,n,hk _ e,q1,RDs.ext x _ _ q2⟩
 | flst ds=>obtain ⟨o,vs,e,q⟩:=r; exact ⟨o,vs,hk _ e,RDs.ext x _ _ q⟩
theorem RS.new {p:Addr} {o:HO} (s:RS K w H S) (hp:H p=none):RS K w (upd H p o) S:=
  ⟨s.nd,s.len,fun n so e=>by
    obtain ⟨a,ha,r⟩:=s.obj n so e
    exact ⟨a,ha,r.ext (Ext.new hp) fun u q=>by rw [upd_ne (ne_of_none q hp)]; exact q⟩,
   fun a ha=>by
    obtain ⟨h1,u,e⟩:=s.hid a ha
    exact ⟨h1,u,by rw [upd_ne (ne_of_none e hp)]; exact e⟩⟩
theorem Ext.alloc {p:Addr} {o:HO} (hp:H p=none):Ext w H (w.add p) (upd H p o):=
 ⟨fun a u e _=>by rw [upd_ne (ne_of_none e hp)]; exact e,⟨[p],rfl,fun a ha=>by
  have:a=p:=by simpa using ha
  subst this; exact hp⟩,fun _ h=>h,fun _ h=>.inl h,fun a o u e=>by rw [upd_ne (ne_of_none e hp)]; exact e⟩
theorem RS.alloc {p:Addr} {o:HO} {so:SO} (s:RS K w H S) (hp:H p=none) (r:RO K (w.add p) (upd H p o) p so):RS K (w.add p) (upd H p o) (S ++ [so]):=by
 have np:=s.freshS hp
 refine ⟨?_,by simp [Wd.add,s.len],fun n so' e=>?_,fun a ha=>?_⟩
 ·show (w.st ++ [p]).Nodup
  rw [List.nodup_append]
  exact ⟨s.nd,by simp,fun a ha b hb=>by
   have:b=p:=by simpa using hb
   subst this
   rintro rfl
   exact np ha⟩
 ·by_cases hn:n < S.length
  ·rw [List.getElem?_append_left hn] at e
   obtain ⟨a,ha,q⟩:=s.obj n so' e
   exact ⟨a,(Ext.alloc (o:=o) hp).get ha,q.ext (Ext.alloc hp) fun u z=>by rw [upd_ne (ne_of_none z hp)]; exact z⟩
  ·have hn':n=S.length:=by
    have:=(List.getElem?_eq_some_iff.mp e).1
    simp at this; omega
   subst hn'
   simp at e; subst e
   exact ⟨p,by show (w.st ++ [p])[S.length]?=some p; rw [← s.len]; simp,r⟩
 ·obtain ⟨h1,u,e⟩:=s.hid a ha
  refine ⟨?_,u,by rw [upd_ne (ne_of_none e hp)]; exact e⟩
  show a ∉ w.st ++ [p]
  intro z
  rcases List.mem_append.mp z with z | z
  ·exact h1 z
  ·have:a=p:=by simpa using z
   subst this
   rw [hp] at e; cases e
theorem Ext.mut {p:Addr} {o u0:HO} (hp:p ∈ w.st) (h0:H p=some u0) (hu:autoParam (∀ o u,u0 ≠ .frz o u) Au.h8._auto_1):Ext w H w (upd H p o):=
 ⟨fun a u e n=>by rw [upd_ne (fun z:a=p=>n (z ▸ hp))]; exact e,⟨[],by simp,fun _ z=>nomatch z⟩,fun _ h=>h,fun _ h=>.inl h,fun a o u e=>by
  rw [upd_ne (fun z:a=p=>by rw [z,h0] at e; exact hu o u (Option.some.inj e))]; exact e⟩
theorem RS.mut {p:Addr} {o:HO} {so:SO} {n:Nat} (s:RS K w H S) (hp:w.st[n]?=some p) {u0:HO} (h0:H p=some u0) (r:RO K w (upd H p o) p so) (hu:autoParam (∀ o u,u0 ≠ .frz o u) Au.h8._auto_1):RS K w (upd H p o) (S.set n so):=by
 have hm:p ∈ w.st:=List.mem_of_getElem? hp
 refine ⟨s.nd,by simp [s.len],fun m so' e=>?_,fun a ha=>?_⟩
 ·by_cases hn:m=n
  ·subst hn
   have hl:m < S.length:=by rw [← s.len]; exact (List.getElem?_eq_some_iff.mp hp).1
   rw [List.getElem?_set_self hl] at e
   cases e
   exact ⟨p,hp,r⟩
  ·rw [List.getElem?_set_ne (Ne.symm hn)] at e
   obtain ⟨a,ha,q⟩:=s.obj m so' e
   refine ⟨a,ha,q.ext (Ext.mut hm h0 hu) fun u z=>?_⟩
   have:a ≠ p:=fun z=>by
    subst z
    obtain ⟨h1,e1⟩:=List.getElem?_eq_some_iff.mp ha
    obtain ⟨h2,e2⟩:=List.getElem?_eq_some_iff.mp hp
    exact hn ((List.getElem_inj s.nd).mp (e1.trans e2.symm))
   rw [upd_ne this]; exact z
 ·obtain ⟨h1,u,e⟩:=s.hid a ha
  exact ⟨h1,u,by rw [upd_ne (fun z:a=p=>h1 (z ▸ hm))]; exact e⟩
end
noncomputable def RSt (K:PySem.W.Frag) (w:Wd) (H:Hp) (r:Rho) (s:L2.St):Prop:=
 s.length=r.length∧∀ (i:Nat) (d:D),r[i]?=some (some d)→∃ v,s[i]?=some (some v)∧RD K w H d v
theorem RSt.ext {K:PySem.W.Frag} {w w':Wd} {H H':Hp} {r:Rho} {s:L2.St} (h:RSt K w H r s) (x:Ext w H w' H'):RSt K w' H' r s:=
 ⟨h.1,fun i d e=>let ⟨v,e1,q⟩:=h.2 i d e; ⟨v,e1,RD.ext x d v q⟩⟩
theorem RSt.set {K:PySem.W.Frag} {w:Wd} {H:Hp} {r:Rho} {s:L2.St} (h:RSt K w H r s) (i:Nat) {d:D} {v:V} (q:RD K w H d v):RSt K w H (r.set i (some d)) (s.set i (some v)):=by
 refine ⟨by simp [h.1],fun j d' e=>?_⟩
 by_cases hj:j=i
 ·subst hj
  have hl:j < r.length:=by
   have:=(List.getElem?_eq_some_iff.mp e).1
   simpa using this
  rw [List.getElem?_set_self hl] at e
  cases e
  exact ⟨v,List.getElem?_set_self (by rw [h.1]; exact hl),q⟩
 ·rw [List.getElem?_set_ne (Ne.symm hj)] at e
  obtain ⟨v',e',q'⟩:=h.2 j d' e
  exact ⟨v',by rw [List.getElem?_set_ne (Ne.symm hj)]; exact e',q'⟩
section
variable {K:PySem.W.Frag} {w:Wd} {H:Hp}
theorem RDs.nil:RDs K w H [] []:=by unfold RDs; rfl
theorem RDs.cons {d:D} {v:V} {ds:List D} {vs:List V} (r:RD K w H d v) (q:RDs K w H ds vs):RDs K w H (d :: ds) (v :: vs):=by unfold RDs; exact ⟨v,vs,rfl,r,q⟩
theorem RDs.nil_inv {vs:List V} (h:RDs K w H [] vs):vs=[]:=by unfold RDs at h; exact h
theorem RDs.cons_inv {d:D} {ds:List D} {vs:List V} (h:RDs K w H (d :: ds) vs):∃ v r,vs=v :: r∧RD K w H d v∧RDs K w H ds r:=by unfold RDs at h; exact h
theorem RDs.one_inv {d:D} {vs:List V} (h:RDs K w H [d] vs):∃ v,vs=[v]∧RD K w H d v:=by
 obtain ⟨v,r,rfl,h1,h2⟩:=h.cons_inv
 rw [h2.nil_inv]
 exact ⟨v,rfl,h1⟩
theorem RDs.two_inv {d e:D} {vs:List V} (h:RDs K w H [d,e] vs):∃ v u,vs=[v,u]∧RD K w H d v∧RD K w H e u:=by
 obtain ⟨v,r,rfl,h1,h2⟩:=h.cons_inv
 obtain ⟨u,rfl,h3⟩:=h2.one_inv
 exact ⟨v,u,rfl,h1,h3⟩
theorem RDs.length:∀ {ds:List D} {vs:List V},RDs K w H ds vs→vs.length=ds.length
 | [],_,h=>by rw [h.nil_inv]; rfl
 | _ :: _,_,h=>by
  obtain ⟨v,r,rfl,_,q⟩:=h.cons_inv
  simp [q.length]
theorem RDs.get:∀ {ds:List D} {vs:List V} {i:Nat} {d:D},RDs K w H ds vs→ds[i]?=some d→∃ v,vs[i]?=some v∧RD K w H d v
 | [],_,_,_,_,e=>by simp at e
 | _ :: _,_,0,_,h,e=>by
  obtain ⟨v,r,rfl,p,_⟩:=h.cons_inv
  simp at e; subst e
  exact ⟨v,rfl,p⟩
 | _ :: ds,_,i + 1,d,h,e=>by
  obtain ⟨v,r,rfl,_,q⟩:=h.cons_inv
  obtain ⟨u,e1,q1⟩:=q.get (i:=i) (d:=d) (by simpa using e)
  exact ⟨u,by simpa using e1,q1⟩
theorem RDs.append:∀ {ds es:List D} {vs us:List V},RDs K w H ds vs→RDs K w H es us→RDs K w H (ds ++ es) (vs ++ us)
 | [],_,_,_,h,q=>by rw [h.nil_inv]; exact q
 | _ :: _,_,_,_,h,q=>by
  obtain ⟨v,r,rfl,p,t⟩:=h.cons_inv
  exact .cons p (t.append q)
theorem RDs.set {d:D} {v:V} (r:RD K w H d v):∀ {ds:List D} {vs:List V} (i:Nat),RDs K w H ds vs→RDs K w H (ds.set i d) (vs.set i v)
 | [],_,_,h=>by rw [h.nil_inv]; exact .nil
 | _ :: _,_,0,h=>by
  obtain ⟨_,_,rfl,_,t⟩:=h.cons_inv
  exact .cons r t
 | _ :: _,_,i + 1,h=>by
  obtain ⟨_,_,rfl,p,t⟩:=h.cons_inv
  exact .cons p (RDs.set r i t)
end
end PD
namespace PD
open PySem PySem.Spec PyProof.Rows L2
noncomputable def RX (K:PySem.W.Frag) (w:Wd) (H:Hp) (x:XD) (c:Value) (da:Option Addr):Prop:=PySem.W.nsIn K mainGlobals x.cls=some (some c)
noncomputable def Post {A B:Type} (K:PySem.W.Frag) (E:XK) (rel:Wd→Hp→A→B→Prop) (w:Wd) (H:Hp) (r:R A) (Q:B→Hp→Prop):Prop:=match r with
 | .ok a S'=>∀ w' H' b,Ext w H w' H'→rel w' H' a b→RS K w' H' S'→Q b H'
 | .err x S'=>∀ w' H' c da,Ext w H w' H'→RS K w' H' S'→RX K w' H' x c da→E c da H'
 | .bad=>False
section
variable {A B A2 B2:Type} {K:PySem.W.Frag} {E:XK} {rel:Wd→Hp→A→B→Prop} {rel2:Wd→Hp→A2→B2→Prop} {w w1:Wd} {H H1:Hp} {S S1:Sto}
theorem Post.ext {r:R A} {Q:B→Hp→Prop} (h:Post K E rel w H r Q) (x:Ext w H w1 H1) (s:RS K w H S) (s1:RS K w1 H1 S1):Post K E rel w1 H1 r Q:=by
 cases r with
 | ok a S'=>exact fun w' H' b y q t=>h w' H' b (x.trans' y s s1) q t
 | err e S'=>exact fun w' H' c da y t q=>h w' H' c da (x.trans' y s s1) t q
 | bad=>exact h
theorem Post.bind {r:R A} {f:A→Sto→R A2} {Q':B→Hp→Prop} {Q:B2→Hp→Prop} (h:Post K E rel2 w H (r.bind f) Q) (s:RS K w H S)
  (k:∀ a S1 w1 H1 b,Ext w H w1 H1→rel w1 H1 a b→RS K w1 H1 S1→Post K E rel2 w1 H1 (f a S1) Q→Q' b H1):Post K E rel w H r Q':=by
 cases r with
 | ok a S'=>exact fun w1 H1 b x q s1=>k a S' w1 H1 b x q s1 (Post.ext (r:=f a S') h x s s1)
 | err e S'=>exact h
 | bad=>exact h
theorem Post.bindAt {w0:Wd} {H0:Hp} {S0:Sto} {r:R A} {f:A→Sto→R A2} {Q':B→Hp→Prop} {Q:B2→Hp→Prop} (h:Post K E rel2 w0 H0 (r.bind f) Q) (x:Ext w0 H0 w H) (s0:RS K w0 H0 S0) (s:RS K w H S)
  (k:∀ a S1 w1 H1 b,Ext w H w1 H1→rel w1 H1 a b→RS K w1 H1 S1→Post K E rel2 w0 H0 (f a S1) Q→Q' b H1):Post K E rel w H r Q':=by
 cases r with
 | ok a S'=>exact fun w1 H1 b y q s1=>k a S' w1 H1 b y q s1 h
 | err e S'=>exact fun w' H' c da y t q=>h w' H' c da (x.trans' y s0 s) t q
 | bad=>exact h
theorem Post.ret {a:A} {b:B} {Q:B→Hp→Prop} (h:Post K E rel w H (.ok a S) Q) (q:rel w H a b) (s:RS K w H S):Q b H:=h w H b (Ext.refl w H) q s
theorem Post.at {a:A} {b:B} {Q:B→Hp→Prop} (h:Post K E rel w H (.ok a S) Q) (x:Ext w H w1 H1) (q:rel w1 H1 a b) (s:RS K w1 H1 S):Q b H1:=h w1 H1 b x q s
theorem Post.of {o:Option A} {Q:B→Hp→Prop} (h:Post K E rel w H (R.of S o) Q):∃ a,o=some a∧Post K E rel w H (.ok a S) Q:=by
 cases o with
 | some a=>exact ⟨a,rfl,h⟩
 | none=>exact h.elim
end
set_option genInjectivity false in
inductive FV where
 | nx (s:L2.St) | rt (v:V) | bk (s:L2.St) | ct (s:L2.St)
noncomputable def FV.to (D:Ends):FV→Hp→Prop
 | .nx s,H=>D.nx s H
 | .rt v,H=>D.rt v H
 | .bk s,H=>D.bk s H
 | .ct s,H=>D.ct s H
noncomputable def RF (K:PySem.W.Frag) (w:Wd) (H:Hp):F→FV→Prop
 | .nx r,f=>∃ s,f=.nx s∧RSt K w H r s
 | .rt d,f=>∃ v,f=.rt v∧RD K w H d v
 | .bk r,f=>∃ s,f=.bk s∧RSt K w H r s
 | .ct r,f=>∃ s,f=.ct s∧RSt K w H r s
noncomputable def RB (w:Wd) (H:Hp) (a b:Bool):Prop:=b=a
noncomputable def uE (K:PySem.W.Frag) (E:XK) (m:EM):TE:=fun s H Q=>∃ w r S,RSt K w H r s∧RS K w H S∧Post K E (RD K) w H (m r S) Q
noncomputable def uT (K:PySem.W.Frag) (E:XK) (m:TM):TT:=fun s H Q=>∃ w r S,RSt K w H r s∧RS K w H S∧Post K E RB w H (m r S) Q
noncomputable def uA (K:PySem.W.Frag) (E:XK) (m:AM):TA:=fun s H Q=>∃ w r S,RSt K w H r s∧RS K w H S∧Post K E (RDs K) w H (m r S) Q
noncomputable def uS (K:PySem.W.Frag) (E:XK) (m:SM):TS:=fun D s H=>∃ w r S,RSt K w H r s∧RS K w H S∧Post K E (RF K) w H (m r S) (FV.to D)
theorem ex6 {K:PySem.W.Frag} {H:Hp} {s:L2.St} {c:Wd→Rho→Sto→Prop} {P:Prop} (z:∃ w r S,RSt K w H r s∧RS K w H S∧c w r S) (f:∀ w r S,RSt K w H r s→RS K w H S→c w r S→P):P:=by
 obtain ⟨w,r,S,x,y,z⟩:=z
 exact f w r S x y z
theorem ex8.{u} {α:Type u} {a:Wd→Rho→Prop} {b:Wd→Rho→α→Rho→Prop} {c:Wd→Rho→α→Rho→Prop} {d:Wd→Rho→α→Rho→Prop} {P:Prop} (z:∃ w r e r',a w r∧b w r e r'∧c w r e r'∧d w r e r') (f:∀ w r e r',a w r→b w r e r'→c w r e r'→d w r e r'→P):P:=by
 obtain ⟨w,r,e,r',x,y,z,t⟩:=z
 exact f w r e r' x y z t
structure Bx (p:Prop):Prop where
 out:p
noncomputable abbrev SE (X:Cx) (E:XK) (e:Expr) (m:EM):Prop:=Bx (PE X e (uE X.K E m))
noncomputable abbrev ST (X:Cx) (E:XK) (e:Expr) (m:TM):Prop:=Bx (PT X e (uT X.K E m))
noncomputable abbrev SW (X:Cx) (E:XK) (e:Expr) (m:TM):Prop:=Bx (PW X e (uT X.K E m))
noncomputable abbrev SA (X:Cx) (E:XK) (es:List Expr) (m:AM):Prop:=Bx (PA X es (uA X.K E m))
noncomputable abbrev SS (X:Cx) (E:XK) (st:Stmt) (m:SM):Prop:=Bx (PS X st (uS X.K E m))
noncomputable abbrev SSs (X:Cx) (E:XK) (st:List Stmt) (m:SM):Prop:=Bx (PSs X st (uS X.K E m))
theorem pe_weak {X:Cx} {e:Expr} {t t':TE} (h:PE X e t) (k:∀ s H Q,t' s H Q→t s H Q):PE X e t':=fun pins s σ H Q I q=>h pins s σ H Q I (k σ H Q q)
theorem pt_weak {X:Cx} {e:Expr} {t t':TT} (h:PT X e t) (k:∀ s H Q,t' s H Q→t s H Q):PT X e t':=fun pins s σ H Q I q=>h pins s σ H Q I (k σ H Q q)
theorem pw_weak {X:Cx} {e:Expr} {t t':TT} (h:PW X e t) (k:∀ s H Q,t' s H Q→t s H Q):PW X e t':=fun wh pins s σ H Q I q=>h wh pins s σ H Q I (k σ H Q q)
theorem pa_weak {X:Cx} {e:List Expr} {t t':TA} (h:PA X e t) (k:∀ s H Q,t' s H Q→t s H Q):PA X e t':=fun p pins s σ H Q I q=>h p pins s σ H Q I (k σ H Q q)
theorem ps_weak {X:Cx} {e:Stmt} {t t':TS} (h:PS X e t) (k:∀ D s H,t' D s H→t D s H):PS X e t':=fun pins s σ H Q I q=>h pins s σ H Q I (k Q σ H q)
theorem pss_weak {X:Cx} {e:List Stmt} {t t':TS} (h:PSs X e t) (k:∀ D s H,t' D s H→t D s H):PSs X e t':=fun pins s σ H Q I q=>h pins s σ H Q I (k Q σ H q)
section
variable {X:Cx} {E:XK} {a b c:Expr} {ma mb mc:EM} {pos:Pos}
theorem se_var (i:Nat) {x:Str} {pos:Pos} (hN:autoParam (X.N[i]?=some x) Au.h0._auto_1) (hv:Vis X.env.scope x) (hd:autoParam ((x == ("__debug__":Str))=false) Au.h3._auto_1)
  (hcd:autoParam ((x == ("__classdict__":Str))=false) Au.h3._auto_1):SE X E (.Name x pos) (eVar i):=⟨
 pe_weak (pv i hN hv hd hcd) fun s H Q zq=>ex6 zq fun w r S hr hS hp=>by
  unfold eVar at hp
  split at hp
  ·rename_i d e
   obtain ⟨v,e',q⟩:=hr.2 i d e
   exact ⟨v,e',hp.ret q hS⟩
  ·exact hp.elim⟩
theorem se_c {e:Expr} {v:V} {d:D} (h:PE X e (tC v)) (q:∀ w H,RD X.K w H d v):SE X E e (eC d):=⟨
 pe_weak h fun s H Q zq=>ex6 zq fun w r S hr hS hp=>hp.ret (q w H) hS⟩
theorem se_int {i j pos}:SE X E (.Constant (.int i) j pos) (eC (.int i)):=se_c pe_int fun _ _=>by unfold RD; rfl
theorem se_bl {i j pos}:SE X E (.Constant (.bool i) j pos) (eC (.bl i)):=se_c pe_bl fun _ _=>by unfold RD; rfl
theorem se_non {j pos}:SE X E (.Constant .none j pos) (eC .non):=se_c pe_non fun _ _=>by unfold RD; rfl
theorem se_gint {x:Str} {i:Int} {t:Tok} {pos:Pos} (hg:Gl X x) (hm:X.mg x=some (.int i t)) (hd:autoParam ((x == ("__debug__":Str))=false) Au.h3._auto_1):SE X E (.Name x pos) (eC (.int i)):=
 se_c (pe_glob hg hm (v:=.int i) ⟨t,rfl⟩ hd) fun _ _=>by unfold RD; rfl
theorem se_ty {x:Str} {T:String} {pos:Pos} (hg:Gl X x) (hm:X.mg x=none) (hv:bootBuiltins x=some (.type T)) (hn:autoParam (x ≠ "__name__") Au.h3._auto_1) (hd:autoParam ((x == ("__debug__":Str))=false) Au.h3._auto_1):SE X E (.Name x pos) (eC (.ty T)):=
 se_c (pe_bltn hg hm hv (v:=.ty T) rfl hn hd) fun _ _=>by unfold RD; rfl
noncomputable def xO (K:PySem.W.Frag) (E:XK) (f:Sto→D→D→Option D):R2:=fun x y H Q=>∃ w S d e,RS K w H S∧RD K w H d x∧RD K w H e y∧Post K E (RD K) w H (R.of S (f S d e)) Q
noncomputable def xU (K:PySem.W.Frag) (E:XK) (f:Sto→D→Option D):V→Hp→VK→Prop:=fun x H Q=>∃ w S d,RS K w H S∧RD K w H d x∧Post K E (RD K) w H (R.of S (f S d)) Q
noncomputable def xC (K:PySem.W.Frag) (E:XK) (f:Sto→List D→Option D):List V→Hp→VK→Prop:=fun xs H Q=>∃ w S ds,RS K w H S∧RDs K w H ds xs∧Post K E (RD K) w H (R.of S (f S ds)) Q
theorem se_op {op:Operator} {f:Sto→D→D→Option D} (ho:OpR X (binaryOp op) (xO X.K E f)) (ha:SE X E a ma) (hb:SE X E b mb):SE X E (.BinOp a op b pos) (eOp f ma mb):=⟨
 pe_weak (pe_op ho ha.out hb.out) fun s H Q zq=>ex6 zq fun w r S hr hS hp=>⟨w,r,S,hr,hS,hp.bind hS fun d S1 w1 H1 v x1 q1 s1 p1=>
  ⟨w1,r,S1,hr.ext x1,s1,p1.bind s1 fun e S2 w2 H2 u x2 q2 s2 p2=>⟨w2,S2,d,e,s2,RD.ext x2 d v q1,q2,p2⟩⟩⟩⟩
theorem se_un {op:UnaryOp} {f:Sto→D→Option D} (ho:UnR X (unaryOp op) (xU X.K E f)) (ha:SE X E a ma):SE X E (.UnaryOp op a pos) (eUn f ma):=⟨
 pe_weak (pe_un ho ha.out) fun s H Q zq=>ex6 zq fun w r S hr hS hp=>⟨w,r,S,hr,hS,hp.bind hS fun d S1 w1 H1 v x1 q1 s1 p1=>⟨w1,S1,d,s1,q1,p1⟩⟩⟩
theorem se_cmp {op:CmpOp} {f:Sto→D→D→Option D} (ho:OpR X (compareOp op) (xO X.K E f)) (ha:SE X E a ma) (hb:SE X E b mb) (hm:autoParam (behindInMarks op b=false) Au.h9._auto_1):
  SE X E (.Compare a [op] [b] pos) (eOp f ma mb):=⟨
 pe_weak (pe_cmpR ho ha.out hb.out hm) fun s H Q zq=>ex6 zq fun w r S hr hS hp=>⟨w,r,S,hr,hS,hp.bind hS fun d S1 w1 H1 v x1 q1 s1 p1=>
  ⟨w1,r,S1,hr.ext x1,s1,p1.bind s1 fun e S2 w2 H2 u x2 q2 s2 p2=>⟨w2,S2,d,e,s2,RD.ext x2 d v q1,q2,p2⟩⟩⟩⟩
theorem se_one {op} (h:SE X E a ma):SE X E (.BoolOp op [a] pos) ma:=⟨pe_one h.out⟩
theorem se_and {rest:List Expr} (ha:SE X E a ma) (hb:SE X E (.BoolOp .And (b :: rest) pos) mb):SE X E (.BoolOp .And (a :: b :: rest) pos) (eAnd ma mb):=⟨
 pe_weak (pe_and ha.out hb.out) fun s H Q zq=>ex6 zq fun w r S hr hS hp=>⟨w,r,S,hr,hS,hp.bind hS fun d S1 w1 H1 v x1 q1 s1 p1=>by
  cases d with
  | bl k=>
   unfold RD at q1
   subst q1
   refine ⟨k,rfl,?_⟩
   cases k with
   | true=>exact iteT ⟨w1,r,S1,hr.ext x1,s1,p1⟩
   | false=>exact iteF (Post.ret p1 (by unfold RD; rfl) s1)
  | _=>exact p1.elim⟩⟩
theorem se_not (ha:SE X E a ma):SE X E (.UnaryOp .Not a pos) (eNot ma):=⟨
 pe_weak (pe_not ha.out) fun s H Q zq=>ex6 zq fun w r S hr hS hp=>⟨w,r,S,hr,hS,hp.bind hS fun d S1 w1 H1 v x1 q1 s1 p1=>by
  cases d with
  | bl k=>
   unfold RD at q1
   subst q1
   exact ⟨k,rfl,Post.ret p1 (by unfold RD; rfl) s1⟩
  | _=>exact p1.elim⟩⟩
theorem se_if {mt:TM} (hc:ST X E c mt) (ha:SE X E a ma) (hb:SE X E b mb):SE X E (.IfExp c a b pos) (eIf mt ma mb):=⟨
 pe_weak (pe_ifExp hc.out ha.out hb.out) fun s H Q zq=>ex6 zq fun w r S hr hS hp=>⟨w,r,S,hr,hS,hp.bind hS fun k S1 w1 H1 v x1 q1 s1 p1=>by
  have e:v=k:=q1
  subst e
  cases v with
  | true=>exact iteT ⟨w1,r,S1,hr.ext x1,s1,p1⟩
  | false=>exact iteF ⟨w1,r,S1,hr.ext x1,s1,p1⟩⟩⟩
theorem uT_of {s:L2.St} {H:Hp} {Q:Bool→Hp→Prop} (h:uT X.K E (tV ma) s H Q):uE X.K E ma s H fun x H1=>∃ k,x=.bl k∧Q k H1:=by
 obtain ⟨w,r,S,hr,hS,hp⟩:=h
 exact ⟨w,r,S,hr,hS,hp.bind hS fun d S1 w1 H1 v x1 q1 s1 p1=>by
  cases d with
  | bl k=>
   unfold RD at q1
   exact ⟨k,q1,Post.ret p1 rfl s1⟩
  | _=>exact p1.elim⟩
theorem st_val (h:SE X E a ma) (he:autoParam (∀ whole,isTrue a X.env whole=(do let v ← whole; standAt a.pos; holding [v] (truthy v))) Au.h4._auto_1):ST X E a (tV ma):=⟨
 pt_weak (pt_val h.out he) fun s H Q q=>uT_of q⟩
theorem st_cmp {op:CmpOp} {f:Sto→D→D→Option D} (ho:OpR X (compareOp op) (xO X.K E f)) (ha:SE X E a ma) (hb:SE X E b mb) (hm:autoParam (behindInMarks op b=false) Au.h9._auto_1):
  ST X E (.Compare a [op] [b] pos) (tV (eOp f ma mb)):=⟨
 pt_weak (pt_cmpR ho ha.out hb.out hm) fun s H Q q=>by
  obtain ⟨w,r,S,hr,hS,hp⟩:=uT_of q
  exact ⟨w,r,S,hr,hS,hp.bind hS fun d S1 w1 H1 v x1 q1 s1 p1=>
   ⟨w1,r,S1,hr.ext x1,s1,p1.bind s1 fun e S2 w2 H2 u x2 q2 s2 p2=>⟨w2,S2,d,e,s2,RD.ext x2 d v q1,q2,p2⟩⟩⟩⟩
theorem sw_or1 {mt:TM} (ha:ST X E a mt):SW X E (.BoolOp .Or [a] pos) mt:=⟨pw_or1 ha.out⟩
theorem sw_or {mt mu:TM} {rest:List Expr} (ha:ST X E a mt) (hb:SW X E (.BoolOp .Or (b :: rest) pos) mu):SW X E (.BoolOp .Or (a :: b :: rest) pos) (PD.tOr mt mu):=⟨
 pw_weak (pw_or ha.out hb.out) fun s H Q zq=>ex6 zq fun w r S hr hS hp=>⟨w,r,S,hr,hS,hp.bind hS fun k S1 w1 H1 v x1 q1 s1 p1=>by
  have e:v=k:=q1
  subst e
  cases v with
  | false=>exact iteF ⟨w1,r,S1,hr.ext x1,s1,p1⟩
  | true=>exact iteT (Post.ret p1 rfl s1)⟩⟩
theorem sw_st {mt:TM} (h:SW X E a mt):ST X E a mt:=⟨PW.pt h.out⟩
theorem st_not {mt:TM} (ha:ST X E a mt):ST X E (.UnaryOp .Not a pos) (PD.tNot mt):=⟨
 pt_weak (pt_not ha.out) fun s H Q zq=>ex6 zq fun w r S hr hS hp=>⟨w,r,S,hr,hS,hp.bind hS fun k S1 w1 H1 v x1 q1 s1 p1=>by
  have e:v=k:=q1
  subst e
  exact Post.ret p1 rfl s1⟩⟩
theorem sa_nil:SA X E [] aNil:=⟨pa_weak pa_nil fun s H Q zq=>ex6 zq fun w r S hr hS hp=>Post.ret hp RDs.nil hS⟩
theorem sa_cons {es:List Expr} {ms:AM} (ha:SE X E a ma) (hrr:SA X E es ms) (hs:autoParam (starEach (a :: es) X.env=(false,eval a X.env) :: starEach es X.env) Au.h0._auto_1):SA X E (a :: es) (aCons ma ms):=⟨
 pa_weak (pa_cons ha.out hrr.out hs) fun s H Q zq=>ex6 zq fun w r S hr hS hp=>⟨w,r,S,hr,hS,hp.bind hS fun d S1 w1 H1 v x1 q1 s1 p1=>
  ⟨w1,r,S1,hr.ext x1,s1,p1.bind s1 fun e S2 w2 H2 u x2 q2 s2 p2=>Post.ret p2 (RDs.cons (RD.ext x2 d v q1) q2) s2⟩⟩⟩
theorem se_tup {es:List Expr} {ms:AM} {k} (h:SA X E es ms):SE X E (.Tuple es k pos) (eTup ms):=⟨
 pe_weak (pe_tup h.out) fun s H Q zq=>ex6 zq fun w r S hr hS hp=>⟨w,r,S,hr,hS,hp.bind hS fun ds S1 w1 H1 vs x1 q1 s1 p1=>by
  by_cases hl:ds.length≤sizeLine
  ·rw [if_pos hl] at p1
   refine ⟨by rw [q1.length]; exact hl,fun p hp=>?_⟩
   exact Post.at p1 (Ext.new hp) (by unfold RD; exact ⟨p,vs,rfl,.inl ⟨upd_same,s1.fresh hp⟩,RDs.ext (Ext.new hp) _ _ q1⟩) (s1.new hp)
  ·rw [if_neg hl] at p1; exact p1.elim⟩⟩
theorem se_lst {es:List Expr} {ms:AM} (h:SA X E es ms):SE X E (.List es pos) (eLst ms):=⟨
 pe_weak (pe_lst h.out) fun s H Q zq=>ex6 zq fun w r S hr hS hp=>⟨w,r,S,hr,hS,hp.bind hS fun ds S1 w1 H1 vs x1 q1 s1 p1=>by
  by_cases hl:ds.length≤sizeLine
  ·rw [if_pos hl] at p1
   refine ⟨by rw [q1.length]; exact hl,fun p hp=>?_⟩
   exact Post.at p1 (Ext.new hp) (by unfold RD; exact ⟨p,vs,rfl,⟨upd_same,s1.fresh hp⟩,RDs.ext (Ext.new hp) _ _ q1⟩) (s1.new hp)
  ·rw [if_neg hl] at p1; exact p1.elim⟩⟩
theorem RS.lastRef {K:PySem.W.Frag} {w:Wd} {H:Hp} {S:Sto} (s:RS K w H S) {p:Addr} {H':Hp}:RD K (w.add p) H' (.ref S.length) (.ref p):=by
 unfold RD
 exact ⟨p,rfl,by show (w.st ++ [p])[S.length]?=some p; rw [← s.len]; simp⟩
theorem se_new {es:List Expr} {ms:AM} (h:SA X E es ms):SE X E (.List es pos) (eNew ms):=⟨
 pe_weak (pe_lst h.out) fun s H Q zq=>ex6 zq fun w r S hr hS hp=>⟨w,r,S,hr,hS,hp.bind hS fun ds S1 w1 H1 vs x1 q1 s1 p1=>by
  by_cases hl:ds.length≤sizeLine
  ·rw [if_pos hl] at p1
   refine ⟨by rw [q1.length]; exact hl,fun p hp=>?_⟩
   exact Post.at p1 (Ext.alloc hp) s1.lastRef (s1.alloc hp ⟨vs,upd_same,RDs.ext (Ext.alloc hp) _ _ q1⟩)
  ·rw [if_neg hl] at p1; exact p1.elim⟩⟩
noncomputable def spM (K:PySem.W.Frag) (n:Nat) (f:FM):Sp:=fun vs H Q E=>vs.length=n∧∃ w S ds,RS K w H S∧RDs K w H ds vs∧Post K E (RD K) w H (f ds S) Q
variable {CX:CXT} {k n:Nat} {fa:Addr} {fd:FuncData} {ps:List Str} {f:FM} {x:Str} {p:Pos} {es:List Expr} {ms:AM}
theorem se_callB {id:String} {f:Sto→List D→Option D} (hc:CallR X (.builtin id) (xC X.K E f)) (hg:Gl X x) (hm:X.mg x=none) (hv:bootBuiltins x=some (.builtin id)) (ha:SA X E (a :: es) ms) (hn:autoParam (x ≠ "__name__") Au.h3._auto_1) (hdb:autoParam ((x == ("__debug__":Str))=false) Au.h3._auto_1)
  (he:autoParam (starEach (a :: es) X.env=(false,eval a X.env) :: starEach es X.env) Au.h0._auto_1) (hpl:autoParam ((backTo pos (starEach es X.env)).any (·.1)=false) Au.h0._auto_1):SE X E (.Call (.Name x p) (a :: es) [] pos) (eB f ms):=⟨
 pe_weak (pe_callB hc hg hm hv ha.out hn hdb he hpl) fun s H Q zq=>ex6 zq fun w r S hr hS hp=>⟨w,r,S,hr,hS,hp.bind hS fun ds S1 w1 H1 vs x1 q1 s1 p1=>⟨w1,S1,ds,s1,q1,p1⟩⟩⟩
theorem se_callTy {T:String} {f:Sto→List D→Option D} (hc:CallR X (.type T) (xC X.K E f)) (hg:Gl X x) (hm:X.mg x=none) (hv:bootBuiltins x=some (.type T)) (ha:SA X E (a :: es) ms) (hn:autoParam (x ≠ "__name__") Au.h3._auto_1) (hdb:autoParam ((x == ("__debug__":Str))=false) Au.h3._auto_1)
  (he:autoParam (starEach (a :: es) X.env=(false,eval a X.env) :: starEach es X.env) Au.h0._auto_1) (hpl:autoParam ((backTo pos (starEach es X.env)).any (·.1)=false) Au.h0._auto_1):SE X E (.Call (.Name x p) (a :: es) [] pos) (eB f ms):=⟨
 pe_weak (pe_callTy hc hg hm hv ha.out hn hdb he hpl) fun s H Q zq=>ex6 zq fun w r S hr hS hp=>⟨w,r,S,hr,hS,hp.bind hS fun ds S1 w1 H1 vs x1 q1 s1 p1=>⟨w1,S1,ds,s1,q1,p1⟩⟩⟩
variable {st:Stmt} {rest:List Stmt} {m m':SM}
theorem ss_nil:SSs X E [] sSkip:=⟨pss_weak pss_nil fun D s H zq=>ex6 zq fun w r S hr hS hp=>Post.ret (b:=FV.nx s) hp ⟨s,rfl,hr⟩ hS⟩
theorem ss_cons (h1:SS X E st m) (h2:SSs X E rest m'):SSs X E (st :: rest) (sSeq m m'):=⟨
 pss_weak (pss_cons h1.out h2.out) fun D s H zq=>ex6 zq fun w r S hr hS hp=>⟨w,r,S,hr,hS,hp.bind hS fun f S1 w1 H1 fv x1 q1 s1 p1=>by
  cases f with
  | nx r1=>obtain ⟨s',rfl,q⟩:=q1; exact ⟨w1,r1,S1,q,s1,p1⟩
  | rt d=>obtain ⟨v,rfl,q⟩:=q1; have z:=Post.ret (Q:=FV.to D) (rel:=RF X.K) (a:=F.rt d) (b:=FV.rt v) p1 ⟨v,rfl,q⟩ s1; exact z
  | bk r1=>obtain ⟨s',rfl,q⟩:=q1; have z:=Post.ret (Q:=FV.to D) (rel:=RF X.K) (a:=F.bk r1) (b:=FV.bk s') p1 ⟨s',rfl,q⟩ s1; exact z
  | ct r1=>obtain ⟨s',rfl,q⟩:=q1; have z:=Post.ret (Q:=FV.to D) (rel:=RF X.K) (a:=F.ct r1) (b:=FV.ct s') p1 ⟨s',rfl,q⟩ s1; exact z⟩⟩
theorem ss_one (h1:SS X E st m):SSs X E [st] m:=⟨pss_one h1.out⟩
theorem ss_never:SS X E st sBad:=⟨ps_weak ps_never fun D s H zq=>ex6 zq fun w r S hr hS hp=>hp.elim⟩
theorem ss_expr (ha:SE X E a ma) (hs:autoParam (swapsWith a none pos.line X.env=pure false) Au.h0._auto_1):SS X E (.Expr a pos) (sDrop ma):=⟨
 ps_weak (ps_expr ha.out hs) fun D s H zq=>ex6 zq fun w r S hr hS hp=>⟨w,r,S,hr,hS,hp.bind hS fun d S1 w1 H1 v x1 q1 s1 p1=>Post.ret (b:=FV.nx s) p1 ⟨s,rfl,hr.ext x1⟩ s1⟩⟩
theorem ss_ret (ha:SE X E a ma):SS X E (.Return (some a) pos) (sRet ma):=⟨
 ps_weak (ps_ret ha.out) fun D s H zq=>ex6 zq fun w r S hr hS hp=>⟨w,r,S,hr,hS,hp.bind hS fun d S1 w1 H1 v x1 q1 s1 p1=>Post.ret (b:=FV.rt v) p1 ⟨v,rfl,q1⟩ s1⟩⟩
theorem ss_if {mt:TM} {sa sb:List Stmt} (hc:ST X E c mt) (ha:SSs X E sa m) (hb:SSs X E sb m'):SS X E (.If c sa sb pos) (sIf mt m m'):=⟨
 ps_weak (ps_if hc.out ha.out hb.out) fun D s H zq=>ex6 zq fun w r S hr hS hp=>⟨w,r,S,hr,hS,hp.bind hS fun k S1 w1 H1 v x1 q1 s1 p1=>by
  have e:v=k:=q1
  subst e
  cases v with
  | true=>exact iteT ⟨w1,r,S1,hr.ext x1,s1,p1⟩
  | false=>exact iteF ⟨w1,r,S1,hr.ext x1,s1,p1⟩⟩⟩
theorem ss_set {i:Nat} {x:Str} {pos':Pos} (hN:X.N.Nodup) (hi:X.N[i]?=some x) (hx:Loc X.env.scope x) (ha:SE X E a ma) (hs:autoParam (swapsWith a (some (.Name x pos')) pos.line X.env=pure false) Au.h0._auto_1) (hf:autoParam (X.fn x=true ∨ X.env.scope.names.lookup x=some .local) Au.h7._auto_1):
  SS X E (.Assign [.Name x pos'] a pos) (sSet i ma):=⟨
 ps_weak (ps_set hN hi hx ha.out hs hf) fun D s H zq=>ex6 zq fun w r S hr hS hp=>⟨w,r,S,hr,hS,hp.bind hS fun d S1 w1 H1 v x1 q1 s1 p1=>
  Post.ret (b:=FV.nx (s.set i (some v))) p1 ⟨_,rfl,(hr.ext x1).set i q1⟩ s1⟩⟩
end
end PD
namespace PD
open PySem PySem.Spec PyProof.Rows L2
noncomputable def uG (K:PySem.W.Frag) (g:G):TG:=fun v s H Q=>∃ w r d r',RSt K w H r s∧RD K w H d v∧g.put d r=some r'∧∀ s',RSt K w H r' s'→Q s' H
noncomputable def uGs (K:PySem.W.Frag) (gs:List G):TGs:=fun vs s H Q=>∃ w r ds r',RSt K w H r s∧RDs K w H ds vs∧G.puts gs ds r=some r'∧∀ s',RSt K w H r' s'→Q s' H
noncomputable abbrev SG (X:Cx) (e:Expr) (g:G):Prop:=Bx (PG X e (uG X.K g))
noncomputable abbrev SGs (X:Cx) (es:List Expr) (gs:List G):Prop:=Bx (PGs X es (uGs X.K gs))
theorem pg_weak {X:Cx} {e:Expr} {t t':TG} (h:PG X e t) (k:∀ v s H Q,t' v s H Q→t v s H Q):PG X e t':=fun pins s σ H v u Q I r q=>h pins s σ H v u Q I r (k v σ H Q q)
theorem pgs_weak {X:Cx} {e:List Expr} {t t':TGs} (h:PGs X e t) (k:∀ v s H Q,t' v s H Q→t v s H Q):PGs X e t':=fun pins s σ H v u Q I r q=>h pins s σ H v u Q I r (k v σ H Q q)
theorem puts_len:∀ {gs:List G} {ds:List D} {r r':Rho},G.puts gs ds r=some r'→ds.length=gs.length
 | [],[],_,_,_=>rfl
 | [],_ :: _,_,_,h=>by simp [G.puts] at h
 | _ :: _,[],_,_,h=>by simp [G.puts] at h
 | g :: gs,d :: ds,r,r',h=>by
  unfold G.puts at h
  cases e:G.put g d r with
  | none=>rw [e] at h; cases h
  | some r1=>
   rw [e] at h
   have:=puts_len h
   simp [this]
section
variable {X:Cx} {E:XK} {a b c:Expr} {ma mb mc:EM} {pos:Pos}
theorem sg_name {i:Nat} {x:Str} (hN:X.N.Nodup) (hi:X.N[i]?=some x) (hx:Loc X.env.scope x) (hf:autoParam (X.fn x=true ∨ X.env.scope.names.lookup x=some .local) Au.h7._auto_1):SG X (.Name x pos) (.nm i):=⟨
 pg_weak (pg_name hN hi hx hf) fun v s H Q zq=>ex8 zq fun w r d r' hr q e k=>by
  unfold G.put at e
  cases e
  exact k _ (hr.set i q)⟩
theorem sgs_nil:SGs X [] []:=⟨
 pgs_weak pgs_nil fun v s H Q zq=>ex8 zq fun w r ds r' hr q e k=>by
  cases ds with
  | nil=>
   unfold G.puts at e
   cases e
   exact ⟨q.nil_inv,k s hr⟩
  | cons d ds=>simp [G.puts] at e⟩
theorem sgs_cons {e:Expr} {es:List Expr} {g:G} {gs:List G} (h1:SG X e g) (h2:SGs X es gs)
  (hs:autoParam ((assignEach (e :: es) X.env).map (·.2)=assign e X.env :: (assignEach es X.env).map (·.2)) Au.h0._auto_1):SGs X (e :: es) (g :: gs):=⟨
 pgs_weak (pgs_cons h1.out h2.out hs) fun v s H Q zq=>ex8 zq fun w r ds r' hr q e k=>by
  cases ds with
  | nil=>simp [G.puts] at e
  | cons d ds=>
   obtain ⟨v1,vs,rfl,q1,q2⟩:=q.cons_inv
   unfold G.puts at e
   cases e1:G.put g d r with
   | none=>rw [e1] at e; cases e
   | some r1=>
    rw [e1] at e
    exact ⟨v1,vs,rfl,w,r,d,r1,hr,q1,e1,fun s' hs'=>⟨w,r1,ds,r',hs',q2,e,k⟩⟩⟩
theorem SqT_of {K:PySem.W.Frag} {w:Wd} {H:Hp} {p:Addr} {vs:List V} (h:At w H p (.tup vs) ∨ KTup K p vs):SqT K H p vs:=h.elim (fun z=>SqT.of z.1) .inr
theorem sg_tup {es:List Expr} {k:Nat} {gs:List G} (hc:X.calm=true) (h:SGs X es gs)
  (hn:autoParam ((assignEach es X.env).length=gs.length) Au.h0._auto_1) (hst:autoParam ((assignEach es X.env).findIdx? (·.1)=none) Au.h0._auto_1):SG X (.Tuple es k pos) (.tp gs):=⟨
 pg_weak (pg_tup hc h.out hn hst) fun v s H Q zq=>ex8 zq fun w r d r' hr q e k=>by
  cases d with
  | tup ds=>
   unfold RD at q
   obtain ⟨p,vs,rfl,h1,q1⟩:=q
   unfold G.put at e
   exact ⟨p,vs,rfl,SqT_of h1,by rw [q1.length]; exact puts_len e,w,r,ds,r',hr,q1,e,k⟩
  | _=>simp [G.put] at e⟩
theorem ss_asg {tg:Expr} {g:G} (ha:SE X E a ma) (hg:SG X tg g) (hs:autoParam (swapsWithSole [tg] a pos.line X.env=pure false) Au.h0._auto_1) (hw:autoParam (swappedStores [tg] a X.env=pure none) Au.h0._auto_1)
  (h1:autoParam ((assignEach [tg] X.env).map (·.2)=[assign tg X.env]) Au.h0._auto_1):SS X E (.Assign [tg] a pos) (sAsg g ma):=⟨
 ps_weak (ps_asg ha.out hg.out hs hw h1) fun D s H zq=>ex6 zq fun w r S hr hS hp=>⟨w,r,S,hr,hS,hp.bind hS fun d S1 w1 H1 v x1 q1 s1 p1=>by
  cases e:g.put d r with
  | none=>rw [e] at p1; exact p1.elim
  | some r'=>
   rw [e] at p1
   exact ⟨w1,r,d,r',hr.ext x1,q1,e,fun s' hs'=>Post.ret (b:=FV.nx s') p1 ⟨s',rfl,hs'⟩ s1⟩⟩⟩
noncomputable def xS (K:PySem.W.Frag) (f:Sto→D→D→D→Option Sto):TSet:=fun o i v H Q=>∃ w S x y z S',RS K w H S∧RD K w H x o∧RD K w H y i∧RD K w H z v∧f S x y z=some S'∧∀ w' H',Ext w H w' H'→RS K w' H' S'→Q H'
theorem ss_put {f:Sto→D→D→D→Option Sto} {tpos:Pos} (hf:PSet X (xS X.K f)) (ha:SE X E a ma) (ho:SE X E b mb) (hi:SE X E c mc) (hs:autoParam (swapsWithSole [.Subscript b c tpos] a pos.line X.env=pure false) Au.h0._auto_1) (hw:autoParam (swappedStores [.Subscript b c tpos] a X.env=pure none) Au.h0._auto_1)
  (h1:autoParam ((assignEach [.Subscript b c tpos] X.env).map (·.2)=[assign (.Subscript b c tpos) X.env]) Au.h0._auto_1)
  (hz:autoParam (∀ v,assign (.Subscript b c tpos) X.env v=(do
   let ov ← holding [v] (eval b X.env)
   let iv ← holding [v,ov] (eval c X.env)
   standAt tpos
   holding [v,ov,iv] (setItem ov iv v)
   release [v,ov,iv] [])) Au.h4._auto_1):SS X E (.Assign [.Subscript b c tpos] a pos) (sPut f ma mb mc):=⟨
 ps_weak (ps_asg ha.out (pg_sub ho.out hi.out hf hz) hs hw h1) fun D s H zq=>ex6 zq fun w r S hr hS hp=>⟨w,r,S,hr,hS,hp.bind hS fun d S1 w1 H1 v x1 q1 s1 p1=>
  ⟨w1,r,S1,hr.ext x1,s1,p1.bind s1 fun e S2 w2 H2 u x2 q2 s2 p2=>⟨w2,r,S2,(hr.ext x1).ext x2,s2,p2.bind s2 fun t S3 w3 H3 y x3 q3 s3 p3=>by
   cases hf:f S3 e t d with
   | none=>rw [hf] at p3; exact p3.elim
   | some S4=>
    rw [hf] at p3
    exact ⟨w3,S3,e,t,d,S4,s3,RD.ext x3 _ _ q2,q3,RD.ext x3 _ _ (RD.ext x2 _ _ q1),hf,fun w' H' x4 s4=>Post.at (b:=FV.nx s) p3 x4 ⟨s,rfl,(((hr.ext x1).ext x2).ext x3).ext x4⟩ s4⟩⟩⟩⟩⟩
noncomputable def RI (K:PySem.W.Frag) (w:Wd) (H:Hp) (ds:List D) (J:It):Prop:=∀ (i:Nat) (w':Wd) (H':Hp),Ext w H w' H'→
 (i < ds.length→J.go i H'∧∀ x H'',J.yld i H' x H''→(H''=H' ∨ ∃ p o,H' p=none∧H''=upd H' p o)∧∀ S,RS K w' H' S→∃ d,ds[i]?=some d∧RD K w' H'' d x)∧(ds.length≤i→J.stop i H')
noncomputable def uI (K:PySem.W.Frag) (E:XK) (m:AM):TI:=fun s H Q=>∃ w r S,RSt K w H r s∧RS K w H S∧Post K E (RI K) w H (m r S) Q
noncomputable abbrev SIb (qb:Bool) (X:Cx) (E:XK) (tg iter:Expr) (m:AM):Prop:=Bx (PIb qb X tg iter (uI X.K E m))
noncomputable abbrev SI (X:Cx) (E:XK) (tg iter:Expr) (m:AM):Prop:=Bx (PI X tg iter (uI X.K E m))
theorem grown_ok {K:PySem.W.Frag} {w:Wd} {H H':Hp} {S:Sto} (h:H'=H ∨ ∃ p o,H p=none∧H'=upd H p o) (s:RS K w H S):Ext w H w H'∧RS K w H' S:=by
 rcases h with rfl | ⟨p,o,hp,rfl⟩
 ·exact ⟨Ext.refl _ _,s⟩
 ·exact ⟨Ext.new hp,s.new hp⟩
theorem ss_for {tg iter:Expr} {body:List Stmt} {it:AM} {g:G} {m:SM} (hp:PassesOwn (model X.prog X.w) X.A X.env X.xe) (hc:X.calm=true) (hi:SI X E tg iter it) (hg:SG X tg g) (hb:SSs X E body m)
  (hs:autoParam (∀ x,foldedSetIterable iter X.env x=pure x) Au.h4._auto_1):SS X E (.For tg iter body [] pos) (sFor it g m):=⟨
 ps_weak (ps_for hp hc hi.out hg.out hb.out hs) fun D s H zq=>ex6 zq fun w r S hr hS hp=>⟨w,r,S,hr,hS,hp.bind hS fun ds S1 w1 H1 J x1 q1 s1 p1=>by
  refine ⟨fun i n s' H'=>n=ds.length - i∧i≤ds.length∧∃ w' r' S',Ext w1 H1 w' H'∧RSt X.K w' H' r' s'∧RS X.K w' H' S'∧Post X.K E (RF X.K) w' H' (forL g m (ds.drop i) r' S') (FV.to D),
   ⟨ds.length,by simp,Nat.zero_le _,w1,r,S1,Ext.refl _ _,hr.ext x1,s1,p1⟩,?_⟩
  rintro i n s2 H2 ⟨rfl,hi.out,w2,r2,S2,x2,hr2,hS2,hp2⟩
  by_cases hlt:i < ds.length
  ·obtain ⟨go,yld⟩:=(q1 i w2 H2 x2).1 hlt
   refine .inr ⟨go,fun s' H'=>∃ w' r' S',Ext w1 H1 w' H'∧RSt X.K w' H' r' s'∧RS X.K w' H' S'∧Post X.K E (RF X.K) w' H' (forL g m (ds.drop (i + 1)) r' S') (FV.to D),
    fun s' H' hN=>⟨ds.length - (i + 1),by omega,rfl,hlt,hN⟩,fun x H3 hy=>?_⟩
   obtain ⟨gr,rd⟩:=yld x H3 hy
   obtain ⟨d,ed,qd⟩:=rd S2 hS2
   obtain ⟨x3,s3⟩:=grown_ok gr hS2
   have x13:Ext w1 H1 w2 H3:=x2.trans' x3 s1 hS2
   have hdrop:ds.drop i=d :: ds.drop (i + 1):=by
    rw [List.drop_eq_getElem_cons hlt]
    rw [List.getElem?_eq_getElem hlt] at ed
    cases ed; rfl
   rw [hdrop] at hp2
   have hp3:=Post.ext hp2 x3 hS2 s3
   unfold forL at hp3
   cases e:g.put d r2 with
   | none=>rw [e] at hp3; exact hp3.elim
   | some r3=>
    rw [e] at hp3
    refine ⟨w2,r2,d,r3,hr2.ext x3,qd,e,fun s4 hr4=>⟨w2,r3,S2,hr4,s3,?_⟩⟩
    refine Post.bind (rel:=RF X.K) hp3 s3 fun f S5 w5 H5 fv x5 q5 s5 p5=>?_
    cases f with
    | nx r6=>obtain ⟨s6,rfl,q6⟩:=q5; exact ⟨w5,r6,S5,x13.trans' x5 s1 s3,q6,s5,p5⟩
    | ct r6=>obtain ⟨s6,rfl,q6⟩:=q5; exact ⟨w5,r6,S5,x13.trans' x5 s1 s3,q6,s5,p5⟩
    | bk r6=>obtain ⟨s6,rfl,q6⟩:=q5; have z:=Post.ret (Q:=FV.to D) (rel:=RF X.K) (a:=F.nx r6) (b:=FV.nx s6) p5 ⟨s6,rfl,q6⟩ s5; exact z
    | rt d6=>obtain ⟨v6,rfl,q6⟩:=q5; have z:=Post.ret (Q:=FV.to D) (rel:=RF X.K) (a:=F.rt d6) (b:=FV.rt v6) p5 ⟨v6,rfl,q6⟩ s5; exact z
  ·have e:i=ds.length:=by omega
   subst e
   rw [List.drop_length] at hp2
   exact .inl ⟨(q1 _ w2 H2 x2).2 (Nat.le_refl _),Post.ret (b:=FV.nx s2) hp2 ⟨s2,rfl,hr2⟩ hS2⟩⟩⟩
noncomputable def aSeq (m:EM) (f:Sto→D→Option (List D)):AM:=fun r S=>(m r S).bind fun d S1=>R.of S1 (f S1 d)
noncomputable def itTup:Sto→D→Option (List D)
 | _,.tup ds=>some ds
 | _,_=>none
noncomputable def itLst:Sto→D→Option (List D)
 | _,.lst ds=>some ds
 | _,.fz ds=>some ds
 | _,_=>none
noncomputable def aRange1 (t:AM):AM:=fun r S=>(t r S).bind fun xs S1=>match xs with
 | [.int n]=>if n < 2 ^ 62∧-(2 ^ 62)≤n then .ok ((List.range n.toNat).map fun (i:Nat)=>D.int i) S1 else .bad
 | _=>.bad
theorem pi_weak {qb:Bool} {X:Cx} {tg e:Expr} {t t':TI} (h:PIb qb X tg e t) (k:∀ s H Q,t' s H Q→t s H Q):PIb qb X tg e t':=fun pins s σ H Q I q=>h pins s σ H Q I (k σ H Q q)
theorem si_tup {tg:Expr} (ha:SE X E a ma):SI X E tg a (aSeq ma itTup):=⟨
 pi_weak (pi_tup ha.out) fun s H Q zq=>ex6 zq fun w r S hr hS hp=>⟨w,r,S,hr,hS,hp.bind hS fun d S1 w1 H1 v x1 q1 s1 p1=>by
  cases d with
  | tup ds=>
   unfold RD at q1
   obtain ⟨p,vs,rfl,h1,q⟩:=q1
   refine ⟨p,rfl,⟨vs,SqT_of h1⟩,Post.ret p1 ?_ s1⟩
   intro i w' H' x'
   have h1':At w' H' p (.tup vs) ∨ KTup X.K p vs:=h1.imp x'.at id
   have q':=RDs.ext x' _ _ q
   refine ⟨fun hi=>⟨⟨vs,vs[i]'(by rw [q.length]; exact hi),SqT_of h1',List.getElem?_eq_getElem _⟩,fun x H'' y=>?_⟩,fun hi=>⟨vs,SqT_of h1',by rw [q.length]; exact hi⟩⟩
   obtain ⟨rfl,y⟩:=y
   refine ⟨.inl rfl,fun S _=>⟨ds[i],List.getElem?_eq_getElem hi,?_⟩⟩
   obtain ⟨v,e,rv⟩:=q'.get (List.getElem?_eq_getElem hi)
   rw [y vs (SqT_of h1')] at e
   cases e
   exact rv
  | _=>exact p1.elim⟩⟩
theorem si_lst {tg:Expr} (ha:SE X E a ma):SI X E tg a (aSeq ma itLst):=⟨
 pi_weak (pi_list ha.out) fun s H Q zq=>ex6 zq fun w r S hr hS hp=>⟨w,r,S,hr,hS,hp.bind hS fun d S1 w1 H1 v x1 q1 s1 p1=>by
  have main:∀ (ds:List D) (p:Addr) (vs:List V),RDs X.K w1 H1 ds vs→(∀ w' H',Ext w1 H1 w' H'→SqL X.K H' p vs)→RI X.K w1 H1 ds (Itl X.K p):=by
   intro ds p vs q sq i w' H' x'
   have q':=RDs.ext x' _ _ q
   refine ⟨fun hi=>⟨⟨vs,vs[i]'(by rw [q.length]; exact hi),sq _ _ x',List.getElem?_eq_getElem _⟩,fun x H'' y=>?_⟩,fun hi=>⟨vs,sq _ _ x',by rw [q.length]; exact hi⟩⟩
   obtain ⟨rfl,y⟩:=y
   refine ⟨.inl rfl,fun S _=>⟨ds[i],List.getElem?_eq_getElem hi,?_⟩⟩
   obtain ⟨v,e,rv⟩:=q'.get (List.getElem?_eq_getElem hi)
   rw [y vs (sq _ _ x')] at e
   cases e
   exact rv
  cases d with
  | lst ds=>
   unfold RD at q1
   obtain ⟨p,vs,rfl,h1,q⟩:=q1
   exact ⟨p,rfl,⟨vs,SqL.of h1.1⟩,Post.ret p1 (main ds p vs q fun w' H' x'=>SqL.of (x'.at h1).1) s1⟩
  | fz ds=>
   unfold RD at q1
   obtain ⟨p,vs,rfl,h1,q⟩:=q1
   exact ⟨p,rfl,⟨vs,h1.sq⟩,Post.ret p1 (main ds p vs q fun w' H' x'=>FzAt.sq (w:=w') (h1.imp (fun ⟨o,z⟩=>⟨o,x'.at z⟩) id)) s1⟩
  | _=>exact p1.elim⟩⟩
noncomputable def itSeq:Sto→D→Option (List D)
 | _,.tup ds=>some ds
 | _,.lst ds=>some ds
 | _,.fz ds=>some ds
 | _,_=>none
theorem pi_or {tg e:Expr} {t u:TI} (h1:PI X tg e t) (h2:PI X tg e u):PI X tg e (fun s H Q=>t s H Q ∨ u s H Q):=fun pins s σ H Q I q=>q.elim (h1 pins s σ H Q I) (h2 pins s σ H Q I)
theorem si_seq {tg:Expr} (ha:SE X E a ma):SI X E tg a (aSeq ma itSeq):=⟨
 pi_weak (pi_or (si_tup ha).out (si_lst ha).out) fun s H Q zq=>ex6 zq fun w r S hr hS hp=>by
  unfold aSeq at hp
  cases e:ma r S with
  | bad=>rw [e] at hp; exact hp.elim
  | err y S'=>rw [e] at hp; exact .inl ⟨w,r,S,hr,hS,by unfold aSeq; rw [e]; exact hp⟩
  | ok d S'=>
   rw [e] at hp
   cases d with
   | tup ds=>exact .inl ⟨w,r,S,hr,hS,by unfold aSeq; rw [e]; exact hp⟩
   | lst ds=>exact .inr ⟨w,r,S,hr,hS,by unfold aSeq; rw [e]; exact hp⟩
   | fz ds=>exact .inr ⟨w,r,S,hr,hS,by unfold aSeq; rw [e]; exact hp⟩
   | _=>exact hp.elim⟩
theorem si_range1 {qb:Bool} {tg:Expr} {ms:AM} {p:Pos} (hg:Gl X "range") (hm:X.mg "range" = none) (ha:SA X E [a] ms) (hs:autoParam (starEach [a] X.env=[(false,eval a X.env)]) Au.h0._auto_1):SIb qb X E tg (.Call (.Name "range" p) [a] [] pos) (aRange1 ms):=⟨
 pi_weak (pi_range1 hg hm ha.out hs) fun s H Q zq=>ex6 zq fun w r S hr hS hp=>⟨w,r,S,hr,hS,hp.bind hS fun ds S1 w1 H1 vs x1 q1 s1 p1=>by
  rcases ds with _ | ⟨d,_ | ⟨d',ds⟩⟩
  ·exact p1.elim
  ·cases d with
   | int n=>
    obtain ⟨v,rfl,q2⟩:=q1.one_inv
    unfold RD at q2
    subst q2
    by_cases hn:n < 2 ^ 62∧-(2 ^ 62)≤n
    ·have p2:Post X.K E (RI X.K) w1 H1 (if n < 2 ^ 62∧-(2 ^ 62)≤n then R.ok ((List.range n.toNat).map fun (i:Nat)=>D.int i) S1 else R.bad) Q:=p1
     rw [if_pos hn] at p2
     refine ⟨n,rfl,hn.2,hn.1,Post.ret p2 ?_ s1⟩
     intro i w' H' x'
     refine ⟨fun hi=>⟨show i < n.toNat by simpa using hi,fun x H'' y=>?_⟩,fun hi=>show n.toNat≤i by simpa using hi⟩
     obtain ⟨rfl,rfl⟩:=y
     refine ⟨.inl rfl,fun S _=>⟨.int i,?_,?_⟩⟩
     ·have:i < n.toNat:=by simpa using hi
      simp [this]
     ·unfold RD; simp
    ·have p2:Post X.K E (RI X.K) w1 H1 (if n < 2 ^ 62∧-(2 ^ 62)≤n then R.ok ((List.range n.toNat).map fun (i:Nat)=>D.int i) S1 else R.bad) Q:=p1
     rw [if_neg hn] at p2
     exact p2.elim
   | _=>exact p1.elim
  ·cases d <;> exact p1.elim⟩⟩
end
section
variable {P:Program} {w:World} {K:PySem.W.Frag} {mg:Str→Option Value} {base:Heap}
theorem start_rel {K:PySem.W.Frag} {w:Wd} {H:Hp} {N:List Str} {ds:List D} {vs:List V} (q:RDs K w H ds vs):RSt K w H (ds.map some ++ List.replicate (N.length - ds.length) none) (L2.start N vs):=by
 unfold L2.start
 refine ⟨by simp [q.length],fun i d e=>?_⟩
 by_cases hi:i < ds.length
 ·rw [List.getElem?_append_left (by simpa using hi),List.getElem?_map] at e
  rw [List.getElem?_append_left (by rw [List.length_map,q.length]; exact hi),List.getElem?_map]
  cases e1:ds[i]? with
  | none=>rw [e1] at e; cases e
  | some d'=>
   rw [e1] at e; cases e
   obtain ⟨v,ev,rv⟩:=q.get e1
   exact ⟨v,by rw [ev]; rfl,rv⟩
 ·rw [List.getElem?_append_right (by simpa using hi),List.getElem?_replicate] at e
  split at e <;> cases e
end
end PD
namespace PD
open PySem PySem.Spec PyProof.Rows L2
section
variable {prog:Program} {w:World} {A:Around} {R:Result→Shared→Prop} {s:Shared}
theorem compLoop_all {elt target iter:Expr} {ifs:List Expr} {scope:Scope} {pos:Pos} {it acc:Value} {env:Env} (I:Nat→Shared→Prop)
  (turn:∀ n s,I n s→wpAny (model prog w) A (pyNext it) (fun r s1=>match r with
   | none=>R (.ok .next) s1
   | some v=>wpAny (model prog w) A (letOwnedTupleGo target it v) (fun _ s1'=>wpAny (model prog w) A (assign target env v) (fun _ s2=>
     wpAny (model prog w) A (forIn ifs true fun c r=>if r=true then do let ok ← isTrue c env (eval c env); pure (ForInStep.yield ok) else pure (ForInStep.yield r)) (fun ok s3=>
      if ok=true then wpAny (model prog w) A (eval elt env) (fun x s4=>
       wpAny (model prog w) A (call (.builtin "list.append") [acc,x]) (fun _ s5=>∃ m,m < n∧I m s5) (fun _ _=>False) s4) (fun _ _=>False) s3
      else ∃ m,m < n∧I m s3) (fun _ _=>False) s2) (fun _ _=>False) s1') (fun _ _=>False) s1) (fun _ _=>False) s)
  (n:Nat) (h:I n s):
  codeAny (model prog w) A (.compLoop (.ListComp elt [⟨target,iter,ifs,0⟩] scope pos) 0 it acc env) R s:=by
 refine codeAny_loop rfl I (fun n s hI=>?_) n h
 show wpAny _ A ((compTurn (.ListComp elt [⟨target,iter,ifs,0⟩] scope pos) 0 it acc env).onRaise (fun x=>do noteFrame x env; theTreesLotGoes x)) _ _ s
 refine wpAny_noted ?_
 rw [compTurn_list]
 refine wpAny_bind (wpAny_standAt (wpAny_bind (wpAny_mono (turn n s hI) (fun r s1 h1=>?_) fun _ _ h'=>h'.elim)))
 cases r with
 | none=>exact wpAny_pure h1
 | some v=>
  refine wpAny_bind (wpAny_mono h1 (fun _ s1' h1'=>?_) fun _ _ h'=>h'.elim)
  refine wpAny_bind (wpAny_mono h1' (fun _ s2 h2=>wpAny_bind (wpAny_mono h2 (fun ok s3 h3=>?_) fun _ _ h'=>h'.elim)) fun _ _ h'=>h'.elim)
  cases ok with
  | false=>exact wpAny_pure ⟨rfl,h3⟩
  | true=>
   exact wpAny_bind (wpAny_bind (wpAny_mono h3 (fun x s4 h4=>wpAny_bind (wpAny_mono h4 (fun _ s5 h5=>wpAny_pure (wpAny_pure ⟨rfl,h5⟩)) fun _ _ h'=>h'.elim)) fun _ _ h'=>h'.elim))
end
noncomputable def PIfs (X:Cx) (ifs:List Expr) (t:TT):Prop:=
 ∀ (pins:List (Addr × Obj)) (s:Shared) (σ:L2.St) (H:Hp) (Q:Bool→Hp→Prop),Inv X pins σ H s→t σ H Q→
  wpAny (model X.prog X.w) X.A (forIn ifs true fun c r=>if r=true then do let ok ← isTrue c X.env (eval c X.env); pure (ForInStep.yield ok) else pure (ForInStep.yield r)) (TP X pins σ Q) X.xe s
theorem pifs_nil {X:Cx}:PIfs X [] (fun _ H Q=>Q true H):=fun pins s σ H Q I h=>wpAny_tests_nil ⟨H,I,h⟩
noncomputable def cxC (X:Cx) (N:List Str) (scope:Scope) (cl:List (Str × Addr)) (s0:Shared) (H0:Hp) (ex:List Addr):Cx:=
 { X with N:=N,s₀:=s0,H₀:=H0,env:=compEnvC scope cl s0.heap.objs.size X.env,outer:=X.stack,ex:=ex,fn:=fun _=>false }
noncomputable def capSt (k:Nat) (caps:List Nat) (s:L2.St):L2.St:=List.replicate k none ++ caps.map fun i=>(s[i]?).join
structure CompScope (X:Cx) (N:List Str) (k:Nat) (caps:List Nat) (scope:Scope):Prop where
 kind:scope.kind=.function
 nocell:∀ x ∈ scope.names,x.2 ≠ .cell
 names:∀ x ∈ scope.names,x.2=.local→scope.names.lookup x.1=some .local
 free:∀ x ∈ scope.names,x.2=.free→X.env.kindOf x.1=some .cell ∨ X.env.kindOf x.1=some .free
 len:N.length=k + caps.length
 cap:∀ t i,caps[t]?=some i→∃ x,X.N[i]?=some x∧N[k + t]?=some x∧scope.names.lookup x=some .free
theorem mem_of_lookup' {A B:Type} [BEq A] [LawfulBEq A]:∀ {l:List (A × B)} {x:A} {b:B},l.lookup x=some b→(x,b) ∈ l
 | [],_,_,h=>by simp at h
 | (y,c) :: r,x,b,h=>by
  rw [List.lookup_cons] at h
  cases e:x == y with
  | true=>
   rw [e] at h
   have:=eq_of_beq e
   subst this
   cases h
   exact List.mem_cons_self
  | false=>
   rw [e] at h
   exact List.mem_cons_of_mem _ (mem_of_lookup' h)
theorem closure_ok {env:Env}:∀ (names:List (Str × NameKind)) (cs:List (Str × Addr)),(∀ x ∈ names,x.2=.free→∃ c,env.cells.lookup x.1=some c)→
  ∃ cl,(forIn names cs fun (x:Str × NameKind) (r:List (Str × Addr))=>(if x.2 == NameKind.free then do let a ← cellOf env x.1; pure (ForInStep.yield ((x.1,a) :: r)) else pure (ForInStep.yield r):Sem (ForInStep (List (Str × Addr)))))=pure cl∧
   (∀ p ∈ cl,p ∈ cs ∨ env.cells.lookup p.1=some p.2)∧(∀ p ∈ cs,p ∈ cl)∧∀ x ∈ names,x.2=.free→∃ c,(x.1,c) ∈ cl
 | [],cs,_=>⟨cs,rfl,fun p h=>.inl h,fun p h=>h,fun x h=>nomatch h⟩
 | (n,k) :: r,cs,h=>by
  by_cases hk:k=.free
  ·subst hk
   obtain ⟨c,hc⟩:=h (n,.free) List.mem_cons_self rfl
   obtain ⟨cl,e,h1,h2,h3⟩:=closure_ok r ((n,c) :: cs) fun x hx=>h x (List.mem_cons_of_mem _ hx)
   refine ⟨cl,?_,fun p hp=>?_,fun p hp=>h2 p (List.mem_cons_of_mem _ hp),fun x hx hf=>?_⟩
   ·rw [List.forIn_cons]
    have hco:cellOf env n=pure c:=by unfold cellOf; rw [hc]
    simp only [beq_self_eq_true,if_true,hco,pure_bind]
    exact e
   ·rcases h1 p hp with z | z
    ·rcases List.mem_cons.mp z with z | z
     ·subst z; exact .inr hc
     ·exact .inl z
    ·exact .inr z
   ·rcases List.mem_cons.mp hx with z | z
    ·subst z; exact ⟨c,h2 _ List.mem_cons_self⟩
    ·exact h3 x z hf
  ·obtain ⟨cl,e,h1,h2,h3⟩:=closure_ok r cs fun x hx=>h x (List.mem_cons_of_mem _ hx)
   have hb:(k == NameKind.free)=false:=by simpa using hk
   refine ⟨cl,?_,h1,h2,fun x hx hf=>?_⟩
   ·rw [List.forIn_cons]
    simp only [hb,Bool.false_eq_true,if_false,pure_bind]
    exact e
   ·rcases List.mem_cons.mp hx with z | z
    ·subst z; exact absurd hf hk
    ·exact h3 x z hf
theorem closure_for {scope:Scope} {env:Env} (h:∀ x ∈ scope.names,x.2=.free→∃ c,env.cells.lookup x.1=some c):
  ∃ cl,closureFor scope env=pure cl∧(∀ x c,cl.lookup x=some c→env.cells.lookup x=some c)∧∀ x ∈ scope.names,x.2=.free→∃ c,cl.lookup x.1=some c:=by
 obtain ⟨cl,e,h1,h2,h3⟩:=closure_ok (env:=env) scope.names [] h
 refine ⟨cl,?_,fun x c hx=>?_,fun x hx hf=>?_⟩
 ·unfold closureFor
  show ((forIn scope.names [] fun (x:Str × NameKind) (r:List (Str × Addr))=>(if x.2 == NameKind.free then do let a ← cellOf env x.1; pure (ForInStep.yield ((x.1,a) :: r)) else pure (ForInStep.yield r):Sem (ForInStep (List (Str × Addr))))) >>= fun l=>pure l)=pure cl
  rw [e,pure_bind]
 ·rcases h1 _ (mem_of_lookup' hx) with z | z
  ·exact nomatch z
  ·exact z
 ·obtain ⟨c,hc⟩:=h3 x hx hf
  cases e2:cl.lookup x.1 with
  | some c'=>exact ⟨c',rfl⟩
  | none=>
   rw [List.lookup_eq_none_iff] at e2
   have:=e2 _ hc
   simp at this
theorem relabel_mem {scope:Scope} {env:Env} {x:Str} {k:NameKind} (h:(relabel scope env).names.lookup x=some k):(x,k) ∈ scope.names ∨ (k=.cell∧(x,NameKind.free) ∈ scope.names):=by
 have m:=mem_of_lookup' h
 obtain ⟨⟨n,j⟩,hn,e⟩:=List.mem_map.mp m
 dsimp only at e
 split at e
 ·rename_i hc
  cases e
  have:j=NameKind.free:=by
   have:=(Bool.and_eq_true _ _ |>.mp (Bool.and_eq_true _ _ |>.mp hc).1).1
   simpa using this
  subst this
  exact .inr ⟨rfl,hn⟩
 ·cases e
  exact .inl hn
theorem relabel_free {scope:Scope} {env:Env} {x:Str}:∀ {names:List (Str × NameKind)},names.lookup x=some .free→
  ((names.map fun (n,k)=>if (k == NameKind.free && env.scope.kind == .function && env.kindOf n == some .cell) then (n,NameKind.cell) else (n,k)).lookup x=some .cell) ∨
  ((names.map fun (n,k)=>if (k == NameKind.free && env.scope.kind == .function && env.kindOf n == some .cell) then (n,NameKind.cell) else (n,k)).lookup x=some .free)
 | [],h=>by simp at h
 | (n,k) :: r,h=>by
  have ih:=@relabel_free scope env x r
  simp only [List.map_cons]
  cases hx:x == n with
  | true=>
   simp only [List.lookup_cons,hx] at h
   cases h
   by_cases hc:(NameKind.free == NameKind.free && env.scope.kind == .function && env.kindOf n == some .cell)=true
   ·left; rw [if_pos hc]; simp [List.lookup_cons,hx]
   ·right; rw [if_neg hc]; simp [List.lookup_cons,hx]
  | false=>
   simp only [List.lookup_cons,hx] at h
   by_cases hc:(k == NameKind.free && env.scope.kind == .function && env.kindOf n == some .cell)=true
   ·rw [if_pos hc]; simp only [List.lookup_cons,hx]; exact ih h
   ·rw [if_neg hc]; simp only [List.lookup_cons,hx]; exact ih h
section
variable {X:Cx} {pins:List (Addr × Obj)} {σ:L2.St} {H:Hp} {s:Shared}
theorem comp_start {N:List Str} {k:Nat} {caps:List Nat} {scope:Scope} {cl:List (Str × Addr)} {fp:List Addr} {h':Heap} {m:Str→Option Value} {t:Nat} (I:Inv X pins σ H s) (C:CompScope X N k caps scope)
  (hcl:∀ x c,cl.lookup x=some c→X.env.cells.lookup x=some c) (hcf:∀ x ∈ scope.names,x.2=.free→∃ c,cl.lookup x.1=some c)
  (hfp:∀ b ∈ fp,FpOk X pins H b∧b < s.heap.objs.size) (hn:h'.Ns s.heap.objs.size m) (hk:∀ b o,s.heap.get? b=some o→h'.get? b=some o):
  Inv (cxC X N scope cl s H fp) pins (capSt k caps σ) H { s with heap:=h',toks:=t }:=by
 have hfs:∀ b,b ∈ frs X.stack→b < s.heap.objs.size:=fun b hb=>by
  obtain ⟨_,o,ho,_⟩:=I.stack.mem hb
  exact Heap.lt_size ho
 refine ⟨⟨I.ok.mod,C.kind,I.ok.glob,I.ok.blt,Nat.le_refl _,fun x y c h1 h2=>I.ok.inj x y c (hcl x c h1) (hcl y c h2),fun x hx=>?_,(fun x c h=>nomatch h),I.ok.hd,I.ok.frames,.inl rfl,fun b hb=>?_,fun b o e=>?_,?_,fun b o e hb=>?_,fun b hb=>?_,I.stack,fun b hb=>I.stkFree b hb⟩,
  rfl,I.bare,Un.kept hk,?_,fun x c e=>?_,I.hok.fresh (Nat.le_refl _),fun x c e=>I.freeC x c (hcl x c e),fun p hp=>?_,I.hok.kept hk,?_⟩
 ·-- has
  have key:∀ kk,(kk=NameKind.cell ∨ kk=NameKind.free)→(relabel scope X.env).names.lookup x=some kk→∃ c,cl.lookup x=some c:=fun kk hkk hl=>by
   rcases relabel_mem hl with z | ⟨_,z⟩
   ·rcases hkk with q | q
    ·subst q; exact absurd rfl (C.nocell _ z)
    ·subst q; exact hcf _ z rfl
   ·exact hcf _ z rfl
  rcases hx with z | z
  ·exact key _ (.inl rfl) z
  ·exact key _ (.inr rfl) z
 ·obtain ⟨f,lt⟩:=hfp b hb
  exact ⟨Nat.ne_of_lt lt,fun x c e=>f.2.2.2.2.1 x c (hcl x c e)⟩
 ·exact I.bs b o e
 ·exact Nat.le_trans I.ok.bsz I.sz
 ·obtain ⟨f,lt⟩:=hfp b hb
  rcases f.2.2.2.1 with z | z
  ·exact I.ok.noex b o e z
  ·exact absurd (Nat.lt_of_lt_of_le (Heap.lt_size e) (Nat.le_trans I.ok.bsz z)) (Nat.lt_irrefl _)
 ·obtain ⟨f,lt⟩:=hfp b hb
  intro z
  rcases List.mem_cons.mp (I.stkSub b z) with q | q
  ·exact f.2.1 q
  ·exact f.2.2.1 q
 ·obtain ⟨m0,hn0,hl0⟩:=I.loc
  refine ⟨m,hn,fun i x v e1 e2 e3=>?_⟩
  unfold capSt at e2
  by_cases hi:i < k
  ·rw [List.getElem?_append_left (by simpa using hi),List.getElem?_replicate] at e2
   split at e2 <;> cases e2
  ·rw [List.getElem?_append_right (by simpa using hi),List.getElem?_map,List.length_replicate] at e2
   cases ec:caps[i - k]? with
   | none=>rw [ec] at e2; cases e2
   | some j=>
    rw [ec] at e2
    have e2':(σ[j]?).join=some v:=Option.some.inj e2
    obtain ⟨y,hy1,hy2,hy3⟩:=C.cap _ _ ec
    have e1':N[i]?=some x:=e1
    rw [show k + (i - k)=i by omega] at hy2
    rw [hy2] at e1'
    have exy:y=x:=Option.some.inj e1'
    subst exy
    have hfr:(y,NameKind.free) ∈ scope.names:=mem_of_lookup' hy3
    have hsj:σ[j]?=some (some v):=by
     cases q:σ[j]? with
     | none=>rw [q] at e2'; cases e2'
     | some o=>rw [q] at e2'; rw [show o=some v from e2']
    have kinds:=C.free _ hfr rfl
    have hvis:Vis X.env.scope y:=by
     rcases kinds with z | z
     ·exact .inr (.inl z)
     ·exact .inr (.inr z)
    obtain ⟨u,ru,lk⟩:=hl0 j y v hy1 hsj hvis
    refine ⟨u,ru,?_⟩
    rcases lk with ⟨z,_⟩ | ⟨_,c,hc,hcell⟩
    ·rcases kinds with q | q <;> (rw [q] at z; cases z)
    ·obtain ⟨c',hc'⟩:=hcf _ hfr rfl
     have:=hcl _ _ hc'
     rw [hc] at this
     cases this
     refine .inr ⟨?_,c,hc',hcell.keeps hk⟩
     exact relabel_free (scope:=scope) (env:=X.env) hy3
 ·obtain ⟨v,z⟩:=I.cell x c (hcl x c e)
  exact ⟨v,z.keeps hk⟩
 ·obtain ⟨e,n,ne,nf,d⟩:=I.pin p hp
  refine ⟨hk _ _ e,n,Nat.ne_of_lt (Heap.lt_size e),fun z=>?_,d⟩
  rcases List.mem_cons.mp (I.stkSub _ z) with q | q
  ·exact ne q
  ·exact nf q
 ·unfold capSt
  show _=N.length
  rw [C.len]
  simp
end
noncomputable def tComp (wi:TI) (k:Nat) (caps:List Nat) (g:TG) (tt:TT) (te:TE):TE:=fun σ H Q=>wi σ H fun J H1=>∀ p,H1 p=none→∃ W:Nat→Nat→L2.St→Hp→Prop,(∃ m,W 0 m (capSt k caps σ) (upd H1 p (.lst [])))∧∀ i m σ' H',W i m σ' H'→
 (J.stop i H'∧Q (.ref p) H') ∨ (J.go i H'∧∃ N:L2.St→Hp→Prop,(∀ σ2 H2,N σ2 H2→∃ m',m' < m∧W (i + 1) m' σ2 H2)∧
  ∀ x H3,J.yld i H' x H3→g x σ' H3 fun σ4 H4=>tt σ4 H4 fun b H5=>if b=true then te σ4 H5 fun y H6=>∃ ys,H6 p=some (.lst ys)∧ys.length < sizeLine∧N σ4 (upd H6 p (.lst (ys ++ [y]))) else N σ4 H5)
theorem pe_compQ {qb:Bool} {X:Cx} {elt tg iter:Expr} {ifs:List Expr} {scope:Scope} {pos:Pos} {N:List Str} {k:Nat} {caps:List Nat} {wi:TI} {g:TG} {tt:TT} {te:TE} (hX:Cd qb X) (hxe:∀ e s,¬ X.xe e s) (C:CompScope X N k caps scope)
  (hi:PIb qb X tg iter wi) (hg:∀ cl s0 H0 ex,Cd qb (cxC X N scope cl s0 H0 ex)→PG (cxC X N scope cl s0 H0 ex) tg g) (ht:∀ cl s0 H0 ex,Cd qb (cxC X N scope cl s0 H0 ex)→PIfs (cxC X N scope cl s0 H0 ex) ifs tt) (he:∀ cl s0 H0 ex,Cd qb (cxC X N scope cl s0 H0 ex)→PE (cxC X N scope cl s0 H0 ex) elt te)
  (hs:autoParam (∀ x,foldedSetIterable iter X.env x=pure x) Au.h4._auto_1):PE X (.ListComp elt [⟨tg,iter,ifs,0⟩] scope pos) (tComp wi k caps g tt te):=by
 intro pins s σ H Q I h
 have noX:∀ {α:Type} {t:Sem α} {Q':α→Shared→Prop} {s':Shared},wpAny (model X.prog X.w) X.A t Q' X.xe s'→wpAny (model X.prog X.w) X.A t Q' (fun _ _=>False) s':=fun h=>wpAny_mono h (fun _ _ x=>x) fun e s z=>hxe e s z
 obtain ⟨cl,hclos,hcl,hcf⟩:=closure_for (scope:=scope) (env:=X.env) fun x hx hf=>I.ok.has _ (C.free x hx hf)
 rw [eval_ListComp]
 refine wpAny_comprehension_free (use:=none) (cl:=cl) rfl hs hclos C.kind C.names ?_
 refine thn (hi pins s σ H _ I h) fun v s1 h1=>thn h1 fun itv s2 h2=>?_
 obtain ⟨it,fp,tn,J,H2,e,I2,T,st2,f2,q⟩:=h2
 subst e
 refine wpAny_newList (items:=[]) ?_ (by show 0≤sizeLine; exact Nat.zero_le _)
 have hp:H2 s2.heap.objs.size=none:=I2.hok.fresh (Nat.le_refl _)
 obtain ⟨W,⟨m0,w0⟩,turn⟩:=q _ hp
 have I3:Inv X pins σ (upd H2 s2.heap.objs.size (.lst [])) { s2 with heap:=s2.heap.push { cls:=.type "list",data:=.seq ([]:List Value).toArray } }:=
  I2.laid (t':=s2.toks) (fun b u e=>Heap.get?_push_of_some _ e) (Nat.le_refl _) ⟨Nat.zero_le _,[],0,.nil,Heap.get?_push_size _ rfl⟩
 refine wpAny_newFunctionEnv C.nocell (fun x hx=>nomatch hx) (fun h4 hn4 hs4=>?_) C.kind
 have ltfp:∀ b ∈ fp,b < s2.heap.objs.size:=fun b hb=>by
  obtain ⟨o,ho,_⟩:=T.obj _ _ st2 b hb
  exact Heap.lt_size ho
 have hk4:∀ b o,(s2.heap.push { cls:=.type "list",data:=.seq ([]:List Value).toArray }).get? b=some o→h4.get? b=some o:=fun b o e=>by
  have ne:b ≠ (s2.heap.push { cls:=.type "list",data:=.seq ([]:List Value).toArray }).objs.size:=Nat.ne_of_lt (Heap.lt_size e)
  rw [hs4.2 b ne]
  exact Heap.get?_push_of_some _ e
 have f3:∀ b ∈ fp,FpOk X pins (upd H2 s2.heap.objs.size (.lst [])) b:=fun b hb=>by
  obtain ⟨a1,a2⟩:=f2 b hb
  exact ⟨by rw [upd_ne (Nat.ne_of_lt (ltfp b hb))]; exact a1,a2⟩
 have I4:=comp_start (N:=N) (k:=k) (caps:=caps) (scope:=scope) (cl:=cl) (fp:=fp) (t:=s2.toks + 0) I3 C hcl hcf (fun b hb=>⟨f3 b hb,by rw [show ({ s2 with heap:=s2.heap.push { cls:=.type "list",data:=.seq ([]:List Value).toArray } }:Shared).heap.objs.size=s2.heap.objs.size + 1 from Heap.size_push ..]; exact Nat.lt_succ_of_lt (ltfp b hb)⟩) hn4 hk4
 have tn4:tn 0 h4:=T.keep _ _ _ st2 fun b hb o e=>hk4 b o (Heap.get?_push_of_some _ e)
 have loop:codeAny (model X.prog X.w) X.A (.compLoop (.ListComp elt [⟨tg,iter,ifs,0⟩] scope pos) 0 (.ref it) (.ref s2.heap.objs.size) (compEnvC scope cl ({ s2 with heap:=s2.heap.push { cls:=.type "list",data:=.seq ([]:List Value).toArray } }:Shared).heap.objs.size X.env))
   (compPost (model X.prog X.w) X.A X.xe none (EP X pins σ Q) (.ref s2.heap.objs.size) ({ s2 with heap:=s2.heap.push { cls:=.type "list",data:=.seq ([]:List Value).toArray } }:Shared).heap.objs.size) { s2 with heap:=h4,toks:=s2.toks + 0 }:=by
  generalize hs3:({ s2 with heap:=s2.heap.push { cls:=.type "list",data:=.seq ([]:List Value).toArray } }:Shared)=s3 at *
  have sz3:s2.heap.objs.size≤s3.heap.objs.size:=by rw [← hs3]; show _≤(s2.heap.push _).objs.size; rw [Heap.size_push]; exact Nat.le_succ _
  have k23:∀ b o,s2.heap.get? b=some o→s3.heap.get? b=some o:=fun b o e=>by rw [← hs3]; exact Heap.get?_push_of_some _ e
  have hos:s3.os=s2.os:=by rw [← hs3]
  have stat:∀ {H':Hp},(∀ b ∈ fp,H' b=none)→∀ b ∈ fp,FpOk (cxC X N scope cl s3 (upd H2 s2.heap.objs.size (.lst [])) fp) pins H' b:=fun {H'} hn b hb=>by
   obtain ⟨a1,a2,a3,a4,a5,a6⟩:=f3 b hb
   refine ⟨hn b hb,Nat.ne_of_lt (Nat.lt_of_lt_of_le (ltfp b hb) sz3),fun z=>?_,.inl hb,fun x c e=>a5 x c (hcl x c e),a6⟩
   rcases List.mem_cons.mp (I2.stkSub b z) with q | q
   ·exact a2 q
   ·exact a3 q
  have I4':Inv (cxC X N scope cl s3 (upd H2 s2.heap.objs.size (.lst [])) fp) pins (capSt k caps σ) (upd H2 s2.heap.objs.size (.lst [])) { s2 with heap:=h4,toks:=s2.toks + 0 }:=by subst hs3; exact I4
  have hX2:Cd qb (cxC X N scope cl s3 (upd H2 s2.heap.objs.size (.lst [])) fp):=by
   rcases hX with z | ⟨z,y | ⟨a,o,u,e1,e2,e3⟩⟩
   ·exact .inl z
   ·exact .inr ⟨z,.inl y⟩
   ·refine .inr ⟨z,.inr ⟨a,o,u,e1,?_,e3⟩⟩
    have q0:=I2.base.frzs a o u e2
    show upd H2 s2.heap.objs.size (.lst []) a=_
    rw [upd_ne (fun y=>by rw [y,hp] at q0; cases q0)]
    exact q0
  refine compLoop_all (fun n s'=>∃ i σ' H',Inv (cxC X N scope cl s3 (upd H2 s2.heap.objs.size (.lst [])) fp) pins σ' H' s'∧tn i s'.heap∧(∀ b ∈ fp,H' b=none)∧W i n σ' H') ?_ m0 ⟨0,_,_,I4',tn4,fun b hb=>(f3 b hb).1,w0⟩
  rintro n s5 ⟨i,σ5,H5,I5,st5,fr5,w5⟩
  rcases turn i n σ5 H5 w5 with ⟨stop,qn⟩ | ⟨go,Nn,hN,step⟩
  ·refine thn (T.done (cxC X N scope cl s3 (upd H2 s2.heap.objs.size (.lst [])) fp) rfl rfl rfl hX2 i pins s5 σ5 H5 _ I5 (stat fr5) st5 stop) fun r s6 zq=>?_
   obtain ⟨hr,I6⟩:=zq
   subst hr
   obtain ⟨m6,hn6,_⟩:=I6.loc
   refine ⟨m6,hn6,fun h7 hs7=>⟨.ref s2.heap.objs.size,H5,?_,rfl,qn⟩⟩
   have u1:Un (frs X.stack) fp H2 (upd H2 s2.heap.objs.size (.lst [])) s2.heap s3.heap:=Un.laid k23 (Nat.le_refl _) hp
   have u2:Un (frs X.stack) fp H2 H5 s2.heap s6.heap:=u1.trans I6.base
   have neC:∀ b o,s2.heap.get? b=some o→b ≠ s3.heap.objs.size:=fun b o e=>Nat.ne_of_lt (Nat.lt_of_lt_of_le (Heap.lt_size e) sz3)
   have hfree:H5 s3.heap.objs.size=none:=I6.free
   refine I2.call' (s':={ s6 with heap:=h7 }) (ch:=fp) (by rw [← hos]; exact I6.os) ⟨fun b o e n hb hx=>?_,fun b o e n hb hx=>?_,u2.free,fun b o e hx=>?_,u2.tups,u2.frzs,u2.tbls⟩ (fun b ob e=>?_) I6.bare fun b hb=>?_
   ·exact (hs7.2 b (neC b o e)).trans (u2.keep b o e n hb hx)
   ·obtain ⟨sl,e1⟩:=u2.slot b o e n hb hx
    exact ⟨sl,(hs7.2 b (neC b o e)).trans e1⟩
   ·obtain ⟨o',e1⟩:=u2.there b o e hx
    exact ⟨o',(hs7.2 b (neC b o e)).trans e1⟩
   ·refine (I6.hok b ob e).stay (fun c v hc z=>(hs7.2 c ?_).trans z) (fun _ z=>z) fun _ _ z=>z
    intro y
    rcases hc with z | z
    ·rw [← z,y,hfree] at e; cases e
    ·rw [y,hfree] at z; cases z
   ·obtain ⟨a1,a2,a3,a4,a5,a6⟩:=f2 b hb
    exact ⟨a4,a2,a5,a6⟩
  ·refine thn (T.item (cxC X N scope cl s3 (upd H2 s2.heap.objs.size (.lst [])) fp) rfl rfl rfl hX2 i pins s5 σ5 H5 _ I5 (stat fr5) st5 go) fun r s6 zq=>?_
   obtain ⟨u,hr,h6⟩:=zq
   subst hr
   refine thn h6 fun _ s7 zq=>?_
   obtain ⟨x,H7,I7,r7,y7,st7,fr7⟩:=zq
   have I7':=I7.pinned (stat fr7) (T.obj _ _ st7)
   refine noX (thn (hg cl s3 _ fp hX2 _ s7 σ5 H7 x u _ I7' r7 (step x H7 y7)) fun _ s8 zq=>?_)
   obtain ⟨σ8,H8,I8,q8⟩:=zq
   refine noX (thn (ht cl s3 _ fp hX2 _ s8 σ8 H8 _ I8 q8) fun ok s9 zq=>?_)
   obtain ⟨H9,I9,q9⟩:=zq
   have again:∀ {s':Shared} {σ':L2.St} {H':Hp},Inv (cxC X N scope cl s3 (upd H2 s2.heap.objs.size (.lst [])) fp) (pins ++ pinsAt fp s7.heap) σ' H' s'→Nn σ' H'→
     ∃ m,m < n∧∃ i σ' H',Inv (cxC X N scope cl s3 (upd H2 s2.heap.objs.size (.lst [])) fp) pins σ' H' s'∧tn i s'.heap∧(∀ b ∈ fp,H' b=none)∧W i m σ' H':=fun {s' σ' H'} I' n'=>by
    obtain ⟨m',hm,w'⟩:=hN σ' H' n'
    refine ⟨m',hm,i + 1,σ',H',I'.unpinned,T.keep _ _ _ st7 fun b hb o e=>(I'.pin (b,o) (List.mem_append_right _ (List.mem_append_right _ (mem_pinsAt hb e)))).1,fun b hb=>?_,w'⟩
    obtain ⟨o,e,d⟩:=T.obj _ _ st7 b hb
    exact (I'.pin (b,o) (List.mem_append_right _ (List.mem_append_right _ (mem_pinsAt hb e)))).2.1
   cases ok with
   | false=>exact again I9 q9
   | true=>
    refine noX (thn (he cl s3 _ fp hX2 _ s9 σ8 H9 _ I9 q9) fun y s10 zq=>?_)
    obtain ⟨yv,H10,I10,r10,ys,hys,hlt,q10⟩:=zq
    refine noX (thn (mt_append (X:=cxC X N scope cl s3 (upd H2 s2.heap.objs.size (.lst [])) fp) _ s10 σ8 H10 (.ref s2.heap.objs.size) [yv] _ [y] (fun _ H'=>Nn σ8 H') I10 rfl (.cons r10 .nil) ⟨_,ys,yv,rfl,rfl,hys,hlt,q10⟩) fun _ s11 zq=>?_)
    obtain ⟨_,H11,I11,_,q11⟩:=zq
    exact again I11 q11
 exact codeAny_compStart_list loop (T.self X.A 0 _ _ _ tn4 loop)
end PD
namespace PD
open PySem PySem.Spec PyProof.Rows L2
noncomputable def smallI (i:Int):Prop:=-(2 ^ 64) < i∧i < 2 ^ 64
noncomputable instance (i:Int):Decidable (smallI i):=by unfold smallI; infer_instance
noncomputable def oAdd:Sto→D→D→Option D
 | _,.int i,.int j=>some (.int (i + j))
 | _,.str a,.str b=>if a.length + b.length≤sizeLine then some (.str (a ++ b)) else none
 | _,.tup a,.tup b=>if a.length + b.length≤sizeLine then some (.tup (a ++ b)) else none
 | _,.lst a,.lst b=>if a.length + b.length≤sizeLine then some (.lst (a ++ b)) else none
 | _,_,_=>none
noncomputable def oSub:Sto→D→D→Option D
 | _,.int i,.int j=>some (.int (i - j))
 | _,_,_=>none
noncomputable def oMul:Sto→D→D→Option D
 | _,.int i,.int j=>if smallI i ∨ smallI j then some (.int (i * j)) else none
 | _,.tup a,.int k=>if -(2 ^ 63)≤k∧k < 2 ^ 63∧a.length * k.toNat≤sizeLine then some (.tup (List.replicate k.toNat a).flatten) else none
 | _,.lst a,.int k=>if -(2 ^ 63)≤k∧k < 2 ^ 63∧a.length * k.toNat≤sizeLine then some (.lst (List.replicate k.toNat a).flatten) else none
 | _,_,_=>none
noncomputable def oFdiv:Sto→D→D→Option D
 | _,.int i,.int j=>if 0 < j∧j < 1073741824 then some (.int (i / j)) else none
 | _,_,_=>none
noncomputable def oMod:Sto→D→D→Option D
 | _,.int i,.int j=>if 0 < j then some (.int (i % j)) else none
 | _,_,_=>none
noncomputable def oPow:Sto→D→D→Option D
 | _,.int i,.int j=>if 0≤j∧j≤1000000∧i.natAbs < 2 ^ 64 then some (.int (i ^ j.toNat)) else none
 | _,_,_=>none
noncomputable def oShl:Sto→D→D→Option D
 | _,.int i,.int j=>if 0≤j∧j≤1000000∧i.natAbs < 2 ^ 64 then some (.int (i * 2 ^ j.toNat)) else none
 | _,_,_=>none
noncomputable def oNeg:Sto→D→Option D
 | _,.int i=>some (.int (-i))
 | _,_=>none
noncomputable def oCmp (p:Int→Int→Bool):Sto→D→D→Option D
 | _,.int i,.int j=>some (.bl (p i j))
 | _,_,_=>none
noncomputable abbrev oLt:=oCmp fun i j=>decide (i < j)
noncomputable abbrev oGt:=oCmp fun i j=>decide (j < i)
noncomputable abbrev oGe:=oCmp fun i j=>decide (j≤i)
noncomputable def eqS:D→D→Option Bool
 | .int i,.int j=>some (decide (i=j))
 | .bl i,.bl j=>some (decide (i=j))
 | .str i,.str j=>some (decide (i=j))
 | .non,.non=>some true
 | .non,.int _=>some false
 | .int _,.non=>some false
 | .non,.bl _=>some false
 | .bl _,.non=>some false
 | .non,.str _=>some false
 | .str _,.non=>some false
 | .int _,.str _=>some false
 | .str _,.int _=>some false
 | .bl _,.str _=>some false
 | .str _,.bl _=>some false
 | _,_=>none
noncomputable def oEq:Sto→D→D→Option D:=fun _ a b=>(eqS a b).map .bl
noncomputable def oNe:Sto→D→D→Option D:=fun _ a b=>(eqS a b).map fun c=>.bl (!c)
noncomputable def flatD:D→Bool
 | .non=>true
 | .bl _=>true
 | .int _=>true
 | .str _=>true
 | _=>false
noncomputable def eqF:D→D→Bool
 | .non,.non=>true
 | .bl a,.bl b=>a == b
 | .bl a,.int b=>(if a then 1 else 0) == b
 | .int a,.bl b=>a == (if b then 1 else 0)
 | .int a,.int b=>a == b
 | .str a,.str b=>a == b
 | _,_=>false
noncomputable def seqOf (S:Sto):D→Option (List D)
 | .tup a=>some a
 | .lst a=>some a
 | .fz a=>some a
 | .ref n=>match S[n]? with
  | some (.lst a)=>some a
  | some (.flst a)=>some a
  | _=>none
 | _=>none
noncomputable def oIn (neg:Bool):Sto→D→D→Option D:=fun S x y=>match seqOf S y with
 | some a=>if flatD x=true∧a.all flatD=true then some (.bl (if neg then !(a.any fun z=>eqF z x) else a.any fun z=>eqF z x)) else none
 | none=>none
noncomputable def oIx:Sto→D→D→Option D:=fun S x y=>match seqOf S x,y with
 | some a,.int i=>atI a i
 | _,_=>none
section
variable {X:Cx} {E:XK}
theorem RD.int {K:PySem.W.Frag} {w:Wd} {H:Hp} {i:Int} {v:V} (q:RD K w H (.int i) v):v=.int i:=by unfold RD at q; exact q
theorem RD.bl {K:PySem.W.Frag} {w:Wd} {H:Hp} {i:Bool} {v:V} (q:RD K w H (.bl i) v):v=.bl i:=by unfold RD at q; exact q
theorem RD.str {K:PySem.W.Frag} {w:Wd} {H:Hp} {i:Str} {v:V} (q:RD K w H (.str i) v):v=.str i:=by unfold RD at q; exact q
theorem RD.non {K:PySem.W.Frag} {w:Wd} {H:Hp} {v:V} (q:RD K w H .non v):v=.non:=by unfold RD at q; exact q
theorem RD.mkI {K:PySem.W.Frag} {w:Wd} {H:Hp} {i:Int}:RD K w H (.int i) (.int i):=by unfold RD; rfl
theorem RD.mkB {K:PySem.W.Frag} {w:Wd} {H:Hp} {i:Bool}:RD K w H (.bl i) (.bl i):=by unfold RD; rfl
theorem RD.mkS {K:PySem.W.Frag} {w:Wd} {H:Hp} {i:Str}:RD K w H (.str i) (.str i):=by unfold RD; rfl
theorem RD.tupI {K:PySem.W.Frag} {w:Wd} {H:Hp} {ds:List D} {v:V} (q:RD K w H (.tup ds) v):∃ a vs,v=.ref a∧(At w H a (.tup vs) ∨ KTup K a vs)∧RDs K w H ds vs:=by unfold RD at q; exact q
theorem RD.lstI {K:PySem.W.Frag} {w:Wd} {H:Hp} {ds:List D} {v:V} (q:RD K w H (.lst ds) v):∃ a vs,v=.ref a∧At w H a (.lst vs)∧RDs K w H ds vs:=by unfold RD at q; exact q
theorem RD.fzI {K:PySem.W.Frag} {w:Wd} {H:Hp} {ds:List D} {v:V} (q:RD K w H (.fz ds) v):∃ a vs,v=.ref a∧FzAt K w H a vs∧RDs K w H ds vs:=by unfold RD at q; exact q
theorem RD.refI {K:PySem.W.Frag} {w:Wd} {H:Hp} {n:Nat} {v:V} (q:RD K w H (.ref n) v):∃ a,v=.ref a∧w.st[n]?=some a:=by unfold RD at q; exact q
theorem RD.newTup {K:PySem.W.Frag} {w:Wd} {H:Hp} {S:Sto} {ds:List D} {vs:List V} {p:Addr} (s:RS K w H S) (hp:H p=none) (q:RDs K w H ds vs):RD K w (upd H p (.tup vs)) (.tup ds) (.ref p):=by
 unfold RD
 exact ⟨p,vs,rfl,.inl ⟨upd_same,s.fresh hp⟩,RDs.ext (Ext.new hp) _ _ q⟩
theorem RD.newLst {K:PySem.W.Frag} {w:Wd} {H:Hp} {S:Sto} {ds:List D} {vs:List V} {p:Addr} (s:RS K w H S) (hp:H p=none) (q:RDs K w H ds vs):RD K w (upd H p (.lst vs)) (.lst ds) (.ref p):=by
 unfold RD
 exact ⟨p,vs,rfl,⟨upd_same,s.fresh hp⟩,RDs.ext (Ext.new hp) _ _ q⟩
theorem opII {f:Value→Value→Sem Value} {C:Int→Int→Prop} {g:Int→Int→D} {gv:Int→Int→V} {o:Sto→D→D→Option D} (h:OpR X f (rI C gv)) (hg:∀ K w H i j,RD K w H (g i j) (gv i j))
  (ho:∀ S d e z,o S d e=some z→∃ i j,d=.int i∧e=.int j∧C i j∧z=g i j):OpR X f (xO X.K E o):=by
 rintro pins s σ H x y v u Q I rx ry ⟨w,S,d,e,hS,qd,qe,p⟩
 obtain ⟨z,hz,p⟩:=p.of
 obtain ⟨i,j,rfl,rfl,c,rfl⟩:=ho _ _ _ _ hz
 cases qd.int
 cases qe.int
 exact h pins s σ H _ _ v u Q I rx ry ⟨i,j,rfl,rfl,c,p.ret (hg _ _ _ _ _) hS⟩
theorem opII0 {f:Value→Value→Sem Value} {g:Int→Int→D} {gv:Int→Int→V} {o:Sto→D→D→Option D} (h:OpR X f (rI0 gv)) (hg:∀ K w H i j,RD K w H (g i j) (gv i j))
  (ho:∀ S d e z,o S d e=some z→∃ i j,d=.int i∧e=.int j∧z=g i j):OpR X f (xO X.K E o):=by
 rintro pins s σ H x y v u Q I rx ry ⟨w,S,d,e,hS,qd,qe,p⟩
 obtain ⟨z,hz,p⟩:=p.of
 obtain ⟨i,j,rfl,rfl,rfl⟩:=ho _ _ _ _ hz
 cases qd.int
 cases qe.int
 exact h pins s σ H _ _ v u Q I rx ry ⟨i,j,rfl,rfl,p.ret (hg _ _ _ _ _) hS⟩
theorem xo_sub:OpR X (binaryOp .Sub) (xO X.K E oSub):=opII0 (g:=fun i j=>.int (i - j)) op_sub (fun _ _ _ _ _=>RD.mkI) fun S d e z h=>by
 unfold oSub at h; split at h
 ·cases h; exact ⟨_,_,rfl,rfl,rfl⟩
 ·cases h
theorem xo_fdiv:OpR X (binaryOp .FloorDiv) (xO X.K E oFdiv):=opII (g:=fun i j=>.int (i / j)) op_fdiv (fun _ _ _ _ _=>RD.mkI) fun S d e z h=>by
 unfold oFdiv at h; split at h
 ·split at h
  ·cases h; exact ⟨_,_,rfl,rfl,by assumption,rfl⟩
  ·cases h
 ·cases h
theorem xo_mod:OpR X (binaryOp .Mod) (xO X.K E oMod):=opII (g:=fun i j=>.int (i % j)) op_mod (fun _ _ _ _ _=>RD.mkI) fun S d e z h=>by
 unfold oMod at h; split at h
 ·split at h
  ·cases h; exact ⟨_,_,rfl,rfl,by assumption,rfl⟩
  ·cases h
 ·cases h
theorem xo_pow:OpR X (binaryOp .Pow) (xO X.K E oPow):=opII (g:=fun i j=>.int (i ^ j.toNat)) op_pow (fun _ _ _ _ _=>RD.mkI) fun S d e z h=>by
 unfold oPow at h; split at h
 ·split at h
  ·cases h; exact ⟨_,_,rfl,rfl,by assumption,rfl⟩
  ·cases h
 ·cases h
theorem xo_shl:OpR X (binaryOp .LShift) (xO X.K E oShl):=opII (g:=fun i j=>.int (i * 2 ^ j.toNat)) op_shl (fun _ _ _ _ _=>RD.mkI) fun S d e z h=>by
 unfold oShl at h; split at h
 ·split at h
  ·cases h; exact ⟨_,_,rfl,rfl,by assumption,rfl⟩
  ·cases h
 ·cases h
theorem oCmp_inv {p:Int→Int→Bool} {S:Sto} {d e z:D} (h:oCmp p S d e=some z):∃ i j,d=.int i∧e=.int j∧z=.bl (p i j):=by
 unfold oCmp at h; split at h
 ·cases h; exact ⟨_,_,rfl,rfl,rfl⟩
 ·cases h
theorem xo_lt:OpR X (compareOp .Lt) (xO X.K E oLt):=opII0 (g:=fun i j=>.bl (decide (i < j))) op_lt (fun _ _ _ _ _=>RD.mkB) fun S d e z h=>oCmp_inv h
theorem xo_gt:OpR X (compareOp .Gt) (xO X.K E oGt):=opII0 (g:=fun i j=>.bl (decide (j < i))) op_gt (fun _ _ _ _ _=>RD.mkB) fun S d e z h=>oCmp_inv h
theorem xo_ge:OpR X (compareOp .GtE) (xO X.K E oGe):=opII0 (g:=fun i j=>.bl (decide (j≤i))) op_ge (fun _ _ _ _ _=>RD.mkB) fun S d e z h=>oCmp_inv h
theorem xu_neg:UnR X (unaryOp .USub) (xU X.K E oNeg):=by
 rintro pins s σ H x v Q I rx ⟨w,S,d,hS,qd,p⟩
 obtain ⟨z,hz,p⟩:=p.of
 unfold oNeg at hz; split at hz
 ·cases hz
  cases qd.int
  exact un_neg pins s σ H _ v Q I rx ⟨_,rfl,p.ret RD.mkI hS⟩
 ·cases hz
theorem eqS_ok {K:PySem.W.Frag} {w:Wd} {H:Hp} {d e:D} {x y:V} {c:Bool} (qd:RD K w H d x) (qe:RD K w H e y) (h:eqS d e=some c):scal x y=true∧decide (x=y)=c:=by
 unfold eqS at h
 split at h <;> (try (cases h; done)) <;> (unfold RD at qd qe; subst qd; subst qe; cases h; refine ⟨rfl,?_⟩; simp)
theorem xo_eq:OpR X (compareOp .Eq) (xO X.K E oEq):=by
 rintro pins s σ H x y v u Q I rx ry ⟨w,S,d,e,hS,qd,qe,p⟩
 obtain ⟨z,hz,p⟩:=p.of
 unfold oEq at hz
 cases h:eqS d e with
 | none=>rw [h] at hz; cases hz
 | some c=>
  rw [h] at hz; cases hz
  obtain ⟨h1,h2⟩:=eqS_ok qd qe h
  exact op_eq pins s σ H _ _ v u Q I rx ry ⟨h1,by rw [h2]; exact p.ret RD.mkB hS⟩
theorem xo_ne:OpR X (compareOp .NotEq) (xO X.K E oNe):=by
 rintro pins s σ H x y v u Q I rx ry ⟨w,S,d,e,hS,qd,qe,p⟩
 obtain ⟨z,hz,p⟩:=p.of
 unfold oNe at hz
 cases h:eqS d e with
 | none=>rw [h] at hz; cases hz
 | some c=>
  rw [h] at hz; cases hz
  obtain ⟨h1,h2⟩:=eqS_ok qd qe h
  exact op_ne pins s σ H _ _ v u Q I rx ry ⟨h1,by rw [h2]; exact p.ret RD.mkB hS⟩
theorem seq_ok {K:PySem.W.Frag} {w:Wd} {H:Hp} {S:Sto} {d:D} {v:V} {a:List D} (s:RS K w H S) (q:RD K w H d v) (h:seqOf S d=some a):∃ p vs,v=.ref p∧(SqL K H p vs ∨ SqT K H p vs)∧RDs K w H a vs:=by
 unfold seqOf at h
 split at h
 ·cases h; obtain ⟨p,vs,e,z,r⟩:=q.tupI; exact ⟨p,vs,e,.inr (SqT_of z),r⟩
 ·cases h; obtain ⟨p,vs,e,z,r⟩:=q.lstI; exact ⟨p,vs,e,.inl (SqL.of z.1),r⟩
 ·cases h; obtain ⟨p,vs,e,z,r⟩:=q.fzI; exact ⟨p,vs,e,.inl z.sq,r⟩
 ·split at h
  ·rename_i n b hn
   cases h
   obtain ⟨p,e,hp⟩:=q.refI
   obtain ⟨p',hp',vs,hv,r⟩:=s.obj _ _ hn
   rw [hp] at hp'; cases hp'
   exact ⟨p,vs,e,.inl (SqL.of hv),r⟩
  ·rename_i n b hn
   cases h
   obtain ⟨p,e,hp⟩:=q.refI
   obtain ⟨p',hp',o,vs,hv,r⟩:=s.obj _ _ hn
   rw [hp] at hp'; cases hp'
   exact ⟨p,vs,e,.inl (.inl (.inr ⟨o,hv⟩)),r⟩
  ·cases h
 ·cases h
theorem RDs.atI {K:PySem.W.Frag} {w:Wd} {H:Hp} {a:List D} {vs:List V} {i:Int} {d:D} (r:RDs K w H a vs) (h:atI a i=some d):∃ v,L2.atI vs i=some v∧RD K w H d v:=by
 unfold L2.atI at h ⊢
 rw [r.length]
 cases e:ixN a.length i with
 | none=>rw [e] at h; cases h
 | some j=>
  rw [e] at h
  obtain ⟨v,ev,rv⟩:=r.get (show a[j]?=some d from h)
  exact ⟨v,ev,rv⟩
theorem xi_ix:IxR X (xO X.K E oIx):=by
 rintro va sl pins s σ H x y v u Q I rx ry ⟨w,S,d,e,hS,qd,qe,p⟩ hsub
 obtain ⟨z,hz,p'⟩:=p.of
 clear p
 unfold oIx at hz
 split at hz
 ·rename_i a i ha
  obtain ⟨q,vs,rfl,sq,r⟩:=seq_ok hS qd ha
  cases qe.int
  obtain ⟨v',ev,rv⟩:=r.atI hz
  exact ix_seq va sl pins s σ H _ _ v u Q I rx ry (sq.elim (fun z=>.inl ⟨q,vs,i,v',rfl,rfl,z,ev,p'.ret rv hS⟩) fun z=>.inr (.inl ⟨q,vs,i,v',rfl,rfl,z,ev,p'.ret rv hS⟩)) hsub
 ·cases hz
theorem flat_ok {K:PySem.W.Frag} {w:Wd} {H:Hp} {d:D} {v:V} (q:RD K w H d v) (h:flatD d=true):flatV v=true:=by
 unfold flatD at h
 split at h
 ·cases q.non; rfl
 ·cases q.bl; rfl
 ·cases q.int; rfl
 ·cases q.str; rfl
 ·cases h
theorem flats_ok {K:PySem.W.Frag} {w:Wd} {H:Hp}:∀ {ds:List D} {vs:List V},RDs K w H ds vs→ds.all flatD=true→vs.all flatV=true
 | [],_,q,_=>by rw [q.nil_inv]; rfl
 | d :: ds,_,q,h=>by
  obtain ⟨v,r,rfl,p,t⟩:=q.cons_inv
  rw [List.all_cons,Bool.and_eq_true] at h ⊢
  exact ⟨flat_ok p h.1,flats_ok t h.2⟩
theorem eqF_ok {K:PySem.W.Frag} {w:Wd} {H:Hp} {d e:D} {x y:V} (qd:RD K w H d x) (qe:RD K w H e y) (h1:flatD d=true) (h2:flatD e=true):eqV x y=eqF d e:=by
 unfold flatD at h1 h2
 split at h1 <;> (try (cases h1; done)) <;> split at h2 <;> (try (cases h2; done)) <;> (unfold RD at qd qe; subst qd; subst qe; rfl)
theorem anyF_ok {K:PySem.W.Frag} {w:Wd} {H:Hp} {d:D} {x:V} (qd:RD K w H d x) (hd:flatD d=true):∀ {ds:List D} {vs:List V},RDs K w H ds vs→ds.all flatD=true→(vs.any fun y=>eqV y x)=ds.any fun z=>eqF z d
 | [],_,q,_=>by rw [q.nil_inv]; rfl
 | e :: ds,_,q,h=>by
  obtain ⟨v,r,rfl,p,t⟩:=q.cons_inv
  rw [List.all_cons,Bool.and_eq_true] at h
  rw [List.any_cons,List.any_cons,eqF_ok p qd h.1 hd,anyF_ok qd hd t h.2]
theorem xo_in:OpR X (compareOp .In) (xO X.K E (oIn false)):=by
 rintro pins s σ H x y v u Q I rx ry ⟨w,S,d,e,hS,qd,qe,p⟩
 obtain ⟨z,hz,p⟩:=p.of
 unfold oIn at hz
 split at hz
 ·rename_i a ha
  split at hz
  ·rename_i hf
   obtain ⟨q,vs,rfl,sq,r⟩:=seq_ok hS qe ha
   cases hz
   refine op_in_seq pins s σ H _ _ v u Q I rx ry ⟨q,vs,rfl,sq,flat_ok qd hf.1,flats_ok r hf.2,?_⟩
   have hi:inV x vs=a.any fun z=>eqF z d:=anyF_ok qd hf.1 r hf.2
   simp only [Bool.false_eq_true,if_false] at p ⊢
   rw [hi]
   exact p.ret RD.mkB hS
  ·cases hz
 ·cases hz
end
end PD
namespace PD
open PySem PySem.Spec PyProof.Rows L2
section
open PySem.SeqAt
open PySem.AutoSeq1 (wpAny_loadPart')
open PySem.MeetsSeq PySem.MeetsSeq2 PySem.MeetsSeq3
theorem int_rmul_tup (a:Int) (t:Tok) (l:Addr) (items:Array Value) (n:Nat) (dd:Option Addr) (sl:Array (Option Value)):
  Meets (Builtin.«int.__rmul__» ⟨[.int a t,.ref l],[]⟩) (fun _ R s=>s.heap.get? l=some { cls:=.type "tuple",dict:=dd,data:=.seq items n,slots:=sl }∧R (.ok (.ret Value.notImplemented)) s):=
 .of_wp fun prog w A R s h=>by obtain ⟨hp,g,d,tk,os⟩:=s; obtain ⟨hl,h⟩:=h; wp_walk using wpAny_loadPart' hl; exact ⟨_,rfl,h⟩
theorem tup_mul_same (l:Addr) (items:Array Value) (n:Nat) (k:Int) (t:Tok) (dd:Option Addr) (sl:Array (Option Value)) (h1:¬ (decide (k < -(2 ^ 63)) || decide (k ≥ 2 ^ 63))=true) (h2:(items.isEmpty || k == 1)=true):
  Meets (Builtin.«tuple.__mul__» ⟨[.ref l,.int k t],[]⟩) (fun _ R s=>s.heap.get? l=some { cls:=.type "tuple",dict:=dd,data:=.seq items n,slots:=sl }∧R (.ok (.ret (.ref l))) s):=
 .of_wp fun prog w A R s h=>by obtain ⟨hp,g,d,tk,os⟩:=s; obtain ⟨hl,h⟩:=h; have f1:=AutoSeq1.idx_int; wp_walk using wpAny_loadPart' hl; rw [if_neg h1]; wp_walk using wpAny_loadPart' hl; exact ⟨_,rfl,h⟩
theorem tup_mul_none (l:Addr) (items:Array Value) (n:Nat) (k:Int) (t:Tok) (dd:Option Addr) (sl:Array (Option Value)) (h1:¬ (decide (k < -(2 ^ 63)) || decide (k ≥ 2 ^ 63))=true) (h2:¬ (items.isEmpty || k == 1)=true) (h3:(decide (k≤0) || items.isEmpty)=true):
  Meets (Builtin.«tuple.__mul__» ⟨[.ref l,.int k t],[]⟩) (fun _ R s=>s.heap.get? l=some { cls:=.type "tuple",dict:=dd,data:=.seq items n,slots:=sl }∧R (.ok (.ret (Value.ref s.heap.objs.size))) { s with heap:=s.heap.push { cls:=Value.type "tuple",data:=Data.seq #[] },toks:=s.toks }):=
 .of_wp fun prog w A R s h=>by obtain ⟨hp,g,d,tk,os⟩:=s; obtain ⟨hl,h⟩:=h; have f1:=AutoSeq1.idx_int; wp_walk using wpAny_loadPart' hl; rw [if_neg h1]; wp_walk using wpAny_loadPart' hl; exact ⟨_,rfl,h⟩
theorem tup_mul_more (l:Addr) (items:Array Value) (n:Nat) (k:Int) (t:Tok) (dd:Option Addr) (sl:Array (Option Value)) (h1:¬ (decide (k < -(2 ^ 63)) || decide (k ≥ 2 ^ 63))=true) (h2:¬ (items.isEmpty || k == 1)=true) (h3:¬ (decide (k≤0) || items.isEmpty)=true)
  (h4:¬ (items.size:Int) * k > (2 ^ 63 - 1) / 8) (h5:¬ Builtin.Tuple.tupleTooMany ((items.size:Int) * k)=true) (hsz:(List.foldl (fun x1 x2=>x1 ++ x2) #[] (List.replicate k.toNat items)).size≤sizeLine):
  Meets (Builtin.«tuple.__mul__» ⟨[.ref l,.int k t],[]⟩) (fun _ R s=>s.heap.get? l=some { cls:=.type "tuple",dict:=dd,data:=.seq items n,slots:=sl }∧R (.ok (.ret (Value.ref s.heap.objs.size))) { s with heap:=s.heap.push { cls:=Value.type "tuple",data:=Data.seq (List.foldl (fun x1 x2=>x1 ++ x2) #[] (List.replicate k.toNat items)) },toks:=s.toks }):=
 .of_wp fun prog w A R s h=>by obtain ⟨hp,g,d,tk,os⟩:=s; obtain ⟨hl,h⟩:=h; have f1:=AutoSeq1.idx_int; wp_walk using wpAny_loadPart' hl; rw [if_neg h1]; wp_walk using wpAny_loadPart' hl; rw [if_neg h4]; wp_walk using wpAny_loadPart' hl; exact ⟨_,rfl,h⟩
end
section
variable {prog:Program} {w:World} {A:Around} {E:Value→Shared→Prop} {s:Shared}
theorem noFill_tuple_mul:fillsNumberSlot (.type "tuple") "mul" = pure false:=
 PySem.fillsNumberSlot_seq (id:="tuple.__mul__") (r:=some (.builtin "tuple.__rmul__")) F.slot_tuple_mul.lookup (by decide +kernel) F.slot_tuple_rmul.lookup (by decide +kernel)
theorem repeat_tuple:seqRepeat? (.type "tuple")=pure (some (.builtin "tuple.__mul__")):=by
 unfold seqRepeat?
 rw [PySem.seqSlot_of (T:="tuple") (name:="__mul__") (id:="tuple.__mul__") F.slot_tuple_mul.lookup (by decide +kernel),PySem.seqSlot_of (T:="tuple") (name:="__rmul__") (id:="tuple.__rmul__") F.slot_tuple_rmul.lookup (by decide +kernel)]
 rfl
theorem rep_tup {t:Addr} {vs:List Value} {k:Int} {tk:Tok} {Q:Value→Shared→Prop} (ht:IsTup s.heap t vs.toArray) (h1:-(2 ^ 63)≤k) (h2:k < 2 ^ 63) (hz:vs.length * k.toNat≤sizeLine)
  (q1:(vs=[] ∨ k=1)→Q (.ref t) s) (q2:¬ (vs=[] ∨ k=1)→Q (.ref s.heap.objs.size) { s with heap:=s.heap.push { cls:=.type "tuple",data:=.seq (List.replicate k.toNat vs).flatten.toArray } }):
  wpAny (model prog w) A (binaryOp .Mult (.ref t) (.int k tk)) Q E s:=by
 obtain ⟨⟨cls,dd,data,sl⟩,ho,hc,n,hd⟩:=id ht
 simp only at hc hd
 subst hc hd
 have hk:¬ (decide (k < -(2 ^ 63)) || decide (k ≥ 2 ^ 63))=true:=by simp; omega
 refine wpAny_binaryOp_repeat_ref (T:="tuple") (U:="int") (by decide) ⟨_,ho,rfl⟩ (fun s'=>typeIs_int s' k tk) noFill_tuple_mul F.fills_int_mul F.slot_int_rmul repeat_tuple F.slot_int_index.lookup
  (call_meets F.slot_int_rmul (typeIs_int s k tk) F.entry_int_rmul (F.args_int_rmul_2 _ _) (int_rmul_tup k tk t vs.toArray n dd sl) ⟨ho,rfl,⟨_,ho,rfl⟩,?_⟩)
 have hfold:∀ m:Nat,List.foldl (fun x1 x2=>x1 ++ x2) #[] (List.replicate m vs.toArray)=(List.replicate m vs).flatten.toArray:=fun m=>by
  have:=foldl_rep vs m []
  rw [List.nil_append] at this
  exact this
 by_cases c1:vs=[] ∨ k=1
 ·refine call_meets F.slot_tuple_mul ⟨_,ho,rfl⟩ F.entry_tuple_mul (F.args_tuple_mul_2 _ _) (tup_mul_same t vs.toArray n k tk dd sl hk ?_) ⟨ho,q1 c1⟩
  rcases c1 with rfl | rfl
  ·rfl
  ·simp
 ·have c2:¬ (vs.toArray.isEmpty || k == 1)=true:=by
   intro z
   rw [Bool.or_eq_true] at z
   rcases z with z | z
   ·exact c1 (.inl (by simpa using z))
   ·exact c1 (.inr (by simpa using z))
  by_cases c3:k≤0
  ·refine call_meets F.slot_tuple_mul ⟨_,ho,rfl⟩ F.entry_tuple_mul (F.args_tuple_mul_2 _ _) (tup_mul_none t vs.toArray n k tk dd sl hk c2 (by simp [c3])) ⟨ho,?_⟩
   have:=q2 c1
   rw [show k.toNat=0 by omega] at this
   exact this
  ·have c4:¬ (decide (k≤0) || vs.toArray.isEmpty)=true:=by
    intro z
    rw [Bool.or_eq_true] at z
    rcases z with z | z
    ·exact c3 (of_decide_eq_true z)
    ·exact c1 (.inl (by simpa using z))
   have hmul:((vs.toArray.size:Nat):Int) * k=((vs.length * k.toNat:Nat):Int):=by
    rw [List.size_toArray,Int.natCast_mul,Int.toNat_of_nonneg (by omega)]
   have hs0:(sizeLine:Nat)=2 ^ 24:=rfl
   refine call_meets F.slot_tuple_mul ⟨_,ho,rfl⟩ F.entry_tuple_mul (F.args_tuple_mul_2 _ _) (tup_mul_more t vs.toArray n k tk dd sl hk c2 c4 ?_ ?_ ?_) ⟨ho,?_⟩
   ·rw [hmul]
    intro z
    have:((2:Int) ^ 63 - 1) / 8 ≥ 2 ^ 24:=by decide
    omega
   ·rw [hmul]
    unfold Builtin.Tuple.tupleTooMany
    simp only [decide_eq_true_eq]
    intro z
    have z':((sizeLine:Nat):Int) < ((vs.length * k.toNat:Nat):Int):=z
    omega
   ·rw [hfold,List.size_toArray,len_rep,Nat.mul_comm]; exact hz
   ·rw [hfold]; exact q2 c1
end
end PD
namespace PD
open PySem PySem.Spec PyProof.Rows L2
section
variable {prog:Program} {w:World} {A:Around} {E:Value→Shared→Prop} {s:Shared}
theorem cat_tup0 {t b:Addr} {ws:List Value} {Q:Value→Shared→Prop} (ht:IsTup s.heap t ([]:List Value).toArray) (hb:IsTup s.heap b ws.toArray) (h:Q (.ref b) s):wpAny (model prog w) A (binaryOp .Add (.ref t) (.ref b)) Q E s:=by
 obtain ⟨⟨cls,dd,data,sl⟩,ho,hc,n,hd⟩:=id ht
 obtain ⟨⟨cls2,dd2,data2,sl2⟩,ho2,hc2,n2,hd2⟩:=id hb
 simp only at hc hd hc2 hd2
 subst hc hd hc2 hd2
 exact concat_meets ⟨_,ho,rfl⟩ ⟨_,ho2,rfl⟩ noFill_tuple_add seq_tuple_add PySem.F.slot_tuple_add PySem.F.entry_tuple_add (PySem.F.args_tuple_add_2 _ _) (tuple_addW0 t b _ ws.toArray n n2 dd dd2 sl sl2 rfl) ⟨ho,ho2,h⟩
open HT in
end
end PD
namespace PD
open PySem PySem.Spec PyProof.Rows L2
section
variable {X:Cx} {E:XK}
theorem sameTup {K:PySem.W.Frag} {w:Wd} {H:Hp} {p:Addr} {vs:List V} {ds:List D} (z:At w H p (.tup vs) ∨ KTup K p vs) (r:RDs K w H ds vs):RD K w H (.tup ds) (.ref p):=by
 unfold RD; exact ⟨p,vs,rfl,z,r⟩
theorem xo_add:OpR X (binaryOp .Add) (xO X.K E oAdd):=by
 rintro pins s σ H x y v u Q I rx ry ⟨w,S,d,e,hS,qd,qe,p⟩
 obtain ⟨z,hz,p'⟩:=p.of
 clear p
 unfold oAdd at hz
 split at hz
 ·cases hz
  cases qd.int
  cases qe.int
  exact op_add pins s σ H _ _ v u Q I rx ry ⟨_,_,rfl,rfl,p'.ret RD.mkI hS⟩
 ·split at hz
  ·cases hz
   cases qd.str
   cases qe.str
   exact op_add_str pins s σ H _ _ v u Q I rx ry ⟨_,_,rfl,rfl,by assumption,p'.ret RD.mkS hS⟩
  ·cases hz
 ·split at hz
  ·rename_i S' a b hl
   cases hz
   obtain ⟨pa,xs,rfl,za,ra⟩:=qd.tupI
   obtain ⟨pb,ys,rfl,zb,rb⟩:=qe.tupI
   by_cases ha:a=[]
   ·subst ha
    have hxs:=ra.nil_inv
    subst hxs
    cases rx
    cases ry
    obtain ⟨its,r1,p1,_⟩:=I.tuple (SqT_of za)
    obtain ⟨its2,r2,p2,_⟩:=I.tuple (SqT_of zb)
    have:its=[]:=r1.nil_iff.mpr rfl
    subst this
    exact cat_tup0 p1 p2 ⟨.ref pb,H,I,rfl,p'.ret (sameTup zb rb) hS⟩
   ·refine op_catT pins s σ H _ _ v u Q I rx ry ⟨pa,pb,xs,ys,rfl,rfl,SqT_of za,SqT_of zb,fun z=>ha ?_,by rw [ra.length,rb.length]; exact hl,fun z=>?_,fun z q hq=>?_⟩
    ·have:=ra.length
     rw [z] at this
     exact List.length_eq_zero_iff.mp this.symm
    ·have hb:b=[]:=by
      have:=rb.length
      rw [z] at this
      exact List.length_eq_zero_iff.mp this.symm
     subst hb
     rw [List.append_nil] at p'
     exact p'.ret (sameTup za ra) hS
    ·exact p'.at (Ext.new hq) (RD.newTup hS hq (ra.append rb)) (hS.new hq)
  ·cases hz
 ·split at hz
  ·rename_i S' a b hl
   cases hz
   obtain ⟨pa,xs,rfl,za,ra⟩:=qd.lstI
   obtain ⟨pb,ys,rfl,zb,rb⟩:=qe.lstI
   exact op_cat pins s σ H _ _ v u Q I rx ry ⟨pa,pb,xs,ys,rfl,rfl,za.1,zb.1,by rw [ra.length,rb.length]; exact hl,fun q hq=>p'.at (Ext.new hq) (RD.newLst hS hq (ra.append rb)) (hS.new hq)⟩
  ·cases hz
 ·cases hz
theorem RDs.rep {K:PySem.W.Frag} {w:Wd} {H:Hp} {ds:List D} {vs:List V} (r:RDs K w H ds vs):∀ k:Nat,RDs K w H (List.replicate k ds).flatten (List.replicate k vs).flatten
 | 0=>by simp; exact .nil
 | k + 1=>by
  rw [List.replicate_succ,List.replicate_succ,List.flatten_cons,List.flatten_cons]
  exact r.append (RDs.rep r k)
theorem xo_mul:OpR X (binaryOp .Mult) (xO X.K E oMul):=by
 rintro pins s σ H x y v u Q I rx ry ⟨w,S,d,e,hS,qd,qe,p⟩
 obtain ⟨z,hz,p'⟩:=p.of
 clear p
 unfold oMul at hz
 split at hz
 ·split at hz
  ·cases hz
   cases qd.int
   cases qe.int
   exact op_mul pins s σ H _ _ v u Q I rx ry ⟨_,_,rfl,rfl,by assumption,p'.ret RD.mkI hS⟩
  ·cases hz
 ·split at hz
  ·rename_i S' a k hl
   cases hz
   obtain ⟨pa,xs,rfl,za,ra⟩:=qd.tupI
   cases qe.int
   cases rx
   obtain ⟨t,rfl⟩:=ry
   obtain ⟨its,r1,p1,_⟩:=I.tuple (SqT_of za)
   have e1:its.length=a.length:=by rw [← r1.length,ra.length]
   refine rep_tup p1 hl.1 hl.2.1 (by rw [e1]; exact hl.2.2) (fun c=>?_) fun c=>?_
   ·refine ⟨.ref pa,H,I,rfl,?_⟩
    have:(List.replicate k.toNat a).flatten=a:=by
     rcases c with c | c
     ·have:a=[]:=by rw [c] at e1; exact List.length_eq_zero_iff.mp e1.symm
      subst this; simp
     ·subst c; simp
    rw [this] at p'
    exact p'.ret (sameTup za ra) hS
   ·have hn:H s.heap.objs.size=none:=I.hok.fresh (Nat.le_refl _)
    refine ⟨.ref s.heap.objs.size,_,I.laid (t':=s.toks) (o:=.tup (List.replicate k.toNat xs).flatten) (fun b ob q=>Heap.get?_push_of_some _ q) (Nat.le_refl _) ?_,rfl,p'.at (Ext.new hn) (RD.newTup hS hn (ra.rep _)) (hS.new hn)⟩
    exact ⟨by rw [len_rep,Nat.mul_comm,ra.length]; exact hl.2.2,_,r1.rep _,IsTup.new _ _⟩
  ·cases hz
 ·split at hz
  ·rename_i S' a k hl
   cases hz
   obtain ⟨pa,xs,rfl,za,ra⟩:=qd.lstI
   cases qe.int
   exact op_rep pins s σ H _ _ v u Q I rx ry ⟨pa,k,xs,rfl,rfl,za.1,hl.1,hl.2.1,by rw [ra.length]; exact hl.2.2,fun q hq=>p'.at (Ext.new hq) (RD.newLst hS hq (ra.rep _)) (hS.new hq)⟩
  ·cases hz
 ·cases hz
theorem se_ix {a b:Expr} {ma mb:EM} {pos:Pos} {f:Sto→D→D→Option D} (hr:IxR X (xO X.K E f)) (ha:SE X E a ma) (hb:SE X E b mb) (hs:PlainIx b:=by intro _ _; kernel_rfl):SE X E (.Subscript a b pos) (eOp f ma mb):=⟨
 pe_weak (pe_ix hr ha.out hb.out hs) fun s H Q zq=>ex6 zq fun w r S hr hS hp=>⟨w,r,S,hr,hS,hp.bind hS fun d S1 w1 H1 v x1 q1 s1 p1=>
  ⟨w1,r,S1,hr.ext x1,s1,p1.bind s1 fun e S2 w2 H2 u x2 q2 s2 p2=>⟨w2,S2,d,e,s2,RD.ext x2 d v q1,q2,p2⟩⟩⟩⟩
noncomputable def fLen:Sto→List D→Option D
 | _,[.str x]=>if x.length≤sizeLine then some (.int x.length) else none
 | _,[.dic x]=>some (.int x.length)
 | S,[d]=>match seqOf S d with
  | some a=>some (.int a.length)
  | none=>match d with
   | .ref n=>match S[n]? with
    | some (.dic kvs)=>some (.int kvs.length)
    | _=>none
   | _=>none
 | _,_=>none
theorem RDk.length {K:PySem.W.Frag} {w:Wd} {H:Hp}:∀ {ds:List (Sum Int Str × D)} {vs:List (Key × V)},RDk K w H ds vs→vs.length=ds.length
 | [],_,h=>by unfold RDk at h; rw [h]; rfl
 | (k,d) :: ds,_,h=>by
  unfold RDk at h
  obtain ⟨v,r,rfl,_,q⟩:=h
  simp [RDk.length q]
theorem xc_len:CallR X (.builtin "len") (xC X.K E fLen):=by
 rintro pins s σ H xs us Q I r ⟨w,S,ds,hS,qs,p⟩
 obtain ⟨z,hz,p'⟩:=p.of
 clear p
 unfold fLen at hz
 split at hz
 ·split at hz
  ·cases hz
   obtain ⟨v,rfl,q⟩:=qs.one_inv
   cases q.str
   exact call_len_str pins s σ H _ us Q I r ⟨_,rfl,by assumption,p'.ret RD.mkI hS⟩
  ·cases hz
 ·cases hz
  obtain ⟨v,rfl,q⟩:=qs.one_inv
  unfold RD at q
  obtain ⟨a,uu,rfl,z,rk⟩:=q
  exact call_lenD pins s σ H _ us Q I r ⟨_,_,rfl,z.1,by rw [rk.length]; exact p'.ret RD.mkI hS⟩
 ·obtain ⟨v,rfl,q⟩:=qs.one_inv
  split at hz
  ·rename_i a ha
   cases hz
   obtain ⟨pp,vs,rfl,sq,ra⟩:=seq_ok hS q ha
   exact call_len_seq pins s σ H _ us Q I r ⟨pp,vs,rfl,sq,by rw [ra.length]; exact p'.ret RD.mkI hS⟩
  ·split at hz
   ·split at hz
    ·rename_i n kvs hn
     cases hz
     obtain ⟨pp,rfl,hp⟩:=q.refI
     obtain ⟨p2,hp2,vs,hv,rk⟩:=hS.obj _ _ hn
     rw [hp] at hp2; cases hp2
     exact call_lenD pins s σ H _ us Q I r ⟨_,_,rfl,hv,by rw [rk.length]; exact p'.ret RD.mkI hS⟩
    ·cases hz
   ·cases hz
 ·cases hz
noncomputable def fAbs:Sto→List D→Option D
 | _,[.int i]=>some (.int (if i < 0 then -i else i))
 | _,_=>none
theorem xc_abs:CallR X (.builtin "abs") (xC X.K E fAbs):=by
 rintro pins s σ H xs us Q I r ⟨w,S,ds,hS,qs,p⟩
 obtain ⟨z,hz,p'⟩:=p.of
 clear p
 unfold fAbs at hz
 split at hz
 ·cases hz
  obtain ⟨v,rfl,q⟩:=qs.one_inv
  cases q.int
  exact call_abs pins s σ H _ us Q I r ⟨_,rfl,p'.ret RD.mkI hS⟩
 ·cases hz
noncomputable def fMax:Sto→List D→Option D
 | _,[.int i,.int j]=>some (.int (if j > i then j else i))
 | _,_=>none
theorem xc_max (hc:X.calm=true):CallR X (.builtin "max") (xC X.K E fMax):=by
 rintro pins s σ H xs us Q I r ⟨w,S,ds,hS,qs,p⟩
 obtain ⟨z,hz,p'⟩:=p.of
 clear p
 unfold fMax at hz
 split at hz
 ·cases hz
  obtain ⟨v,u,rfl,q,q'⟩:=qs.two_inv
  cases q.int
  cases q'.int
  exact call_max2 hc pins s σ H _ us Q I r ⟨_,_,rfl,p'.ret RD.mkI hS⟩
 ·cases hz
noncomputable def fMin:Sto→List D→Option D
 | _,[.int i,.int j]=>some (.int (if j < i then j else i))
 | _,_=>none
theorem xc_min (hc:X.calm=true):CallR X (.builtin "min") (xC X.K E fMin):=by
 rintro pins s σ H xs us Q I r ⟨w,S,ds,hS,qs,p⟩
 obtain ⟨z,hz,p'⟩:=p.of
 clear p
 unfold fMin at hz
 split at hz
 ·cases hz
  obtain ⟨v,u,rfl,q,q'⟩:=qs.two_inv
  cases q.int
  cases q'.int
  exact call_min2 hc pins s σ H _ us Q I r ⟨_,_,rfl,p'.ret RD.mkI hS⟩
 ·cases hz
noncomputable def fDivmod:Sto→List D→Option D
 | _,[.int i,.int j]=>if 0 < j∧j < 1073741824 then some (.tup [.int (i / j),.int (i % j)]) else none
 | _,_=>none
theorem xc_divmod:CallR X (.builtin "divmod") (xC X.K E fDivmod):=by
 rintro pins s σ H xs us Q I r ⟨w,S,ds,hS,qs,p⟩
 obtain ⟨z,hz,p'⟩:=p.of
 clear p
 unfold fDivmod at hz
 split at hz
 ·split at hz
  ·cases hz
   obtain ⟨v,u,rfl,q,q'⟩:=qs.two_inv
   cases q.int
   cases q'.int
   exact call_divmod pins s σ H _ us Q I r ⟨_,_,rfl,by assumption,fun t ht=>p'.at (Ext.new ht) (RD.newTup hS ht (.cons RD.mkI (.cons RD.mkI .nil))) (hS.new ht)⟩
  ·cases hz
 ·cases hz
noncomputable def fInt:Sto→List D→Option D
 | _,[.int i]=>some (.int i)
 | _,[.bl b]=>some (.int (if b then 1 else 0))
 | _,_=>none
theorem xc_int:CallR X (.type "int") (xC X.K E fInt):=by
 rintro pins s σ H xs us Q I r ⟨w,S,ds,hS,qs,p⟩
 obtain ⟨z,hz,p'⟩:=p.of
 clear p
 unfold fInt at hz
 split at hz
 ·cases hz
  obtain ⟨v,rfl,q⟩:=qs.one_inv
  cases q.int
  exact call_int1 pins s σ H _ us Q I r (.inl ⟨_,rfl,p'.ret RD.mkI hS⟩)
 ·cases hz
  obtain ⟨v,rfl,q⟩:=qs.one_inv
  cases q.bl
  exact call_int1 pins s σ H _ us Q I r (.inr ⟨_,rfl,p'.ret RD.mkI hS⟩)
 ·cases hz
noncomputable def fTuple:Sto→List D→Option D
 | _,[.tup a]=>some (.tup a)
 | S,[d]=>(seqOf S d).map .tup
 | _,_=>none
theorem xc_tuple:CallR X (.type "tuple") (xC X.K E fTuple):=by
 rintro pins s σ H xs us Q I r ⟨w,S,ds,hS,qs,p⟩
 obtain ⟨z,hz,p'⟩:=p.of
 clear p
 unfold fTuple at hz
 split at hz
 ·cases hz
  obtain ⟨v,rfl,q⟩:=qs.one_inv
  obtain ⟨pa,vs,rfl,za,ra⟩:=q.tupI
  exact call_tuple_of pins s σ H _ us Q I r ⟨pa,vs,rfl,.inr ⟨SqT_of za,p'.ret (sameTup za ra) hS⟩⟩
 ·rename_i d hd
  obtain ⟨v,rfl,q⟩:=qs.one_inv
  cases ha:seqOf S d with
  | none=>rw [ha] at hz; cases hz
  | some a=>
   rw [ha] at hz
   cases hz
   have hq:∃ pa vs,v=.ref pa∧SqL X.K H pa vs∧RDs X.K w H a vs:=by
    unfold seqOf at ha
    split at ha
    ·exact (hd _ rfl).elim
    ·cases ha; obtain ⟨p,vs,e,z,r⟩:=q.lstI; exact ⟨p,vs,e,SqL.of z.1,r⟩
    ·cases ha; obtain ⟨p,vs,e,z,r⟩:=q.fzI; exact ⟨p,vs,e,z.sq,r⟩
    ·split at ha
     ·rename_i n b hn
      cases ha
      obtain ⟨p,e,hp⟩:=q.refI
      obtain ⟨p2,hp2,vs,hv,rk⟩:=hS.obj _ _ hn
      rw [hp] at hp2; cases hp2
      exact ⟨p,vs,e,SqL.of hv,rk⟩
     ·rename_i n b hn
      cases ha
      obtain ⟨p,e,hp⟩:=q.refI
      obtain ⟨p2,hp2,o,vs,hv,rk⟩:=hS.obj _ _ hn
      rw [hp] at hp2; cases hp2
      exact ⟨p,vs,e,.inl (.inr ⟨o,hv⟩),rk⟩
     ·cases ha
    ·cases ha
   obtain ⟨pa,vs,rfl,sq,ra⟩:=hq
   exact call_tuple_of pins s σ H _ us Q I r ⟨pa,vs,rfl,.inl ⟨sq,fun t ht=>p'.at (Ext.new ht) (RD.newTup hS ht ra) (hS.new ht)⟩⟩
 ·cases hz
end
end PD
namespace PD
open PySem PySem.Spec PyProof.Rows L2
section
variable {X:Cx} {E:XK}
noncomputable def boolsOf:List D→Option (List Bool)
 | []=>some []
 | .bl b :: r=>(boolsOf r).map (b :: ·)
 | _ :: _=>none
noncomputable def fAll:Sto→List D→Option D
 | _,[.lst a]=>(boolsOf a).map fun bs=>.bl (bs.all id)
 | _,_=>none
theorem bools_ok {K:PySem.W.Frag} {w:Wd} {H:Hp}:∀ {ds:List D} {vs:List V} {us:List Value} {bs:List Bool},RDs K w H ds vs→Vals vs us→boolsOf ds=some bs→LSm.BoolsAre us bs
 | [],_,_,_,q,r,h=>by
  rw [q.nil_inv] at r
  cases r
  unfold boolsOf at h
  cases h
  exact .nil
 | d :: ds,_,_,bs,q,r,h=>by
  obtain ⟨v,vs,rfl,p,t⟩:=q.cons_inv
  cases d with
  | bl b=>
   unfold boolsOf at h
   cases e:boolsOf ds with
   | none=>rw [e] at h; cases h
   | some cs=>
    rw [e] at h; cases h
    cases p.bl
    cases r with
    | cons r1 r2=>
     cases r1
     exact .cons b (bools_ok t r2 e)
  | _=>unfold boolsOf at h; cases h
theorem xc_all (hc:X.calm=true):CallR X (.builtin "all") (xC X.K E fAll):=by
 rintro pins s σ H xs us Q I r ⟨w,S,ds,hS,qs,p⟩
 obtain ⟨z,hz,p'⟩:=p.of
 clear p
 unfold fAll at hz
 split at hz
 ·rename_i a
  cases e:boolsOf a with
  | none=>rw [e] at hz; cases hz
  | some bs=>
   rw [e] at hz; cases hz
   obtain ⟨v,rfl,q⟩:=qs.one_inv
   obtain ⟨pa,vs,rfl,za,ra⟩:=q.lstI
   obtain ⟨u,rfl,ru⟩:=vals1 r
   cases ru
   obtain ⟨its,r1,⟨o,n,ho,hcl,hdn,hd⟩,_⟩:=I.list (SqL.of za.1)
   have hb:=bools_ok ra r1 e
   have hlt:pa < s.heap.objs.size:=Heap.lt_size ho
   have hl:s.heap.IsList pa its.toArray:=⟨o,ho,hcl,n,hd⟩
   refine call_all_walk (wpAny_pyIter_list hl ?_)
   refine ⟨s.heap.objs.size,[s.heap.objs.size,pa],[s.heap.objs.size],its.toArray.size,_,_,fun i=>(bs[i]?).getD true,rfl,Walks.list (A:=X.A.in1) (I.ok.hd hc) _ pa (Nat.ne_of_lt hlt) its.toArray,
    ⟨⟨_,Heap.get?_push_size _ rfl,rfl,rfl⟩,hl.push _⟩,fun i v s' Q' E' hP hQ=>?_,fun h' tk hk=>?_⟩
   ·obtain ⟨b,e,rfl⟩:=hb.get i v (by simpa using hP)
    simp only [e,Option.getD_some] at hQ
    exact wpAny_truthy_bool hQ
   ·have e:((List.range its.toArray.size).all fun i=>(bs[i]?).getD true)=bs.all id:=by
     rw [List.size_toArray,hb.length]; exact LSm.range_all bs
    rw [e]
    exact ⟨.bl _,H,I.kept (LSm.kept_iter hk),rfl,p'.ret RD.mkB hS⟩
 ·cases hz
noncomputable def tyD (S:Sto):D→Option String
 | .non=>some "NoneType"
 | .bl _=>some "bool"
 | .int _=>some "int"
 | .str _=>some "str"
 | .tup _=>some "tuple"
 | .lst _=>some "list"
 | .fz _=>none
 | .dic _=>some "dict"
 | .ref n=>match S[n]? with
  | some (.lst _)=>some "list"
  | some (.dic _)=>some "dict"
  | _=>none
 | .ty _=>none
 | .exc _=>none
 | .cls _=>none
noncomputable def isiTys:List String:=["int","bool","tuple","str","list","dict"]
noncomputable def fIsi:Sto→List D→Option D
 | S,[d,.ty T]=>match tyD S d with
  | some t=>if T ∈ isiTys then some (.bl (t == T || (t == "bool" && T == "int"))) else none
  | none=>none
 | _,_=>none
theorem kit_ok (K:PySem.W.Frag) {t T:String} (ht:t ∈ ["NoneType","bool","int","str","tuple","list","dict"]) (hT:T ∈ isiTys):PySem.W.kitOne K (.type t) (.type T)=some (t == T || (t == "bool" && T == "int")):=by
 unfold isiTys at hT
 simp only [List.mem_cons,List.not_mem_nil,or_false] at ht hT
 rcases ht with rfl | rfl | rfl | rfl | rfl | rfl | rfl <;> rcases hT with rfl | rfl | rfl | rfl | rfl | rfl <;> first | rfl | (with_unfolding_all rfl) | (unfold PySem.W.kitOne PySem.W.kitCls; with_unfolding_all decide)
theorem tyOf_ok {K:PySem.W.Frag} {w:Wd} {H:Hp} {S:Sto} {d:D} {v:V} {t:String} (hS:RS K w H S) (q:RD K w H d v) (h:tyD S d=some t) (hk:∀ a vs,¬ KTup K a vs ∨ True):
  (L2.TyOf K H v (.type t) ∨ ∃ a vs,v=.ref a∧t = "tuple"∧KTup K a vs)∧t ∈ ["NoneType","bool","int","str","tuple","list","dict"]:=by
 cases d with
 | non=>cases q.non; cases h; exact ⟨.inl .non,by simp⟩
 | bl b=>cases q.bl; cases h; exact ⟨.inl (.bl b),by simp⟩
 | int i=>cases q.int; cases h; exact ⟨.inl (.int i),by simp⟩
 | str x=>cases q.str; cases h; exact ⟨.inl (.str x),by simp⟩
 | tup ds=>
  obtain ⟨p,vs,rfl,z,_⟩:=q.tupI
  cases h
  refine ⟨?_,by simp⟩
  rcases z with z | z
  ·exact .inl (.tup z.1)
  ·exact .inr ⟨p,vs,rfl,rfl,z⟩
 | lst ds=>obtain ⟨p,vs,rfl,z,_⟩:=q.lstI; cases h; exact ⟨.inl (.lst z.1),by simp⟩
 | fz ds=>cases h
 | dic kvs=>unfold RD at q; obtain ⟨p,us,rfl,z,_⟩:=q; cases h; exact ⟨.inl (.dK z.1),by simp⟩
 | ref n=>
  obtain ⟨p,rfl,hp⟩:=q.refI
  unfold tyD at h
  simp only at h
  cases e:S[n]? with
  | none=>rw [e] at h; cases h
  | some o=>
   rw [e] at h
   obtain ⟨p',hp',r⟩:=hS.obj n o e
   rw [hp] at hp'; cases hp'
   cases o with
   | lst a=>cases h; obtain ⟨vs,hv,_⟩:=r; exact ⟨.inl (.lst hv),by simp⟩
   | dic a=>cases h; obtain ⟨vs,hv,_⟩:=r; exact ⟨.inl (.dK hv),by simp⟩
   | fdic a=>cases h
   | ins c fs=>cases h
   | flst a=>cases h
 | ty n=>cases h
 | exc c=>cases h
 | cls c=>cases h
theorem xc_isi:CallR X (.builtin "isinstance") (xC X.K E fIsi):=by
 rintro pins s σ H xs us Q I r ⟨w,S,ds,hS,qs,p⟩
 obtain ⟨z,hz,p'⟩:=p.of
 clear p
 unfold fIsi at hz
 split at hz
 ·rename_i d T
  split at hz
  ·rename_i t ht
   split at hz
   ·rename_i hT
    cases hz
    obtain ⟨v,u,rfl,q,q'⟩:=qs.two_inv
    unfold RD at q'
    subst q'
    obtain ⟨v1,v2,rfl,rv,rt⟩:=vals2 r
    cases (show v2=Value.type T from rt)
    obtain ⟨ty,hm⟩:=tyOf_ok hS q ht fun _ _=>.inr trivial
    have kk:=kit_ok X.K hm hT
    rcases ty with ty | ⟨a,vs,rfl,rfl,kt⟩
    ·exact isinst_ok I rv ty kk fun tk=>⟨.bl _,H,I.tok tk,rfl,p'.ret RD.mkB hS⟩
    ·cases (show v1=Value.ref a from rv)
     obtain ⟨o,its,n,e,hcl,_⟩:=kt
     exact PySem.W.kia_one PySem.W.kitx_tuple I.kIn ⟨o,I.kIn _ _ e,hcl⟩ kk (fun z=>nomatch z) fun tk=>⟨.bl _,H,I.tok tk,rfl,p'.ret RD.mkB hS⟩
   ·cases hz
  ·cases hz
 ·cases hz
noncomputable def fPut:Sto→D→D→D→Option Sto
 | S,.ref n,.int i,v=>match S[n]? with
  | some (.lst a)=>(ixN a.length i).map fun j=>S.set n (.lst (a.set j v))
  | _=>none
 | _,_,_,_=>none
theorem xs_put:PSet X (xS X.K fPut):=by
 rintro pins s σ H o i v ov iv u Q I ro ri ru ⟨w,S,x,y,z,S',hS,qx,qy,qz,hf,k⟩
 unfold fPut at hf
 split at hf
 ·rename_i n j
  split at hf
  ·rename_i a hn
   cases e:ixN a.length j with
   | none=>rw [e] at hf; cases hf
   | some m=>
    rw [e] at hf; cases hf
    obtain ⟨p,rfl,hp⟩:=qx.refI
    cases qy.int
    obtain ⟨p',hp',vs,hv,ra⟩:=hS.obj _ _ hn
    rw [hp] at hp'; cases hp'
    have hm:p ∈ w.st:=List.mem_of_getElem? hp
    refine set_list pins s σ H _ _ _ ov iv u Q I ro ri ru ⟨p,vs,j,m,rfl,rfl,hv,by rw [ra.length]; exact e,k w _ (Ext.mut hm hv) ?_⟩
    exact hS.mut hp hv ⟨_,upd_same,RDs.ext (Ext.mut hm hv) _ _ (RDs.set qz m ra)⟩
  ·cases hf
 ·cases hf
noncomputable def xM (K:PySem.W.Frag) (E:XK) (f:Sto→D→List D→R D):V→List V→Hp→VK→Prop:=fun x xs H Q=>∃ w S d ds,RS K w H S∧RD K w H d x∧RDs K w H ds xs∧Post K E (RD K) w H (f S d ds) Q
noncomputable def isL (S:Sto):D→Bool
 | .lst _=>true
 | .fz _=>true
 | .ref n=>match S[n]? with
  | some (.lst _)=>true
  | _=>false
 | _=>false
theorem isL_ok {K:PySem.W.Frag} {w:Wd} {H:Hp} {S:Sto} {d:D} {v:V} (hS:RS K w H S) (q:RD K w H d v) (h:isL S d=true):tyV K "list" v H:=by
 cases d with
 | lst ds=>obtain ⟨p,vs,rfl,z,_⟩:=q.lstI; exact .inl ⟨rfl,vs,SqL.of z.1⟩
 | fz ds=>obtain ⟨p,vs,rfl,z,_⟩:=q.fzI; exact .inl ⟨rfl,vs,z.sq⟩
 | ref n=>
  obtain ⟨p,rfl,hp⟩:=q.refI
  unfold isL at h
  simp only at h
  cases e:S[n]? with
  | none=>rw [e] at h; cases h
  | some o=>
   rw [e] at h
   cases o with
   | lst a=>
    obtain ⟨p',hp',vs,hv,_⟩:=hS.obj n _ e
    rw [hp] at hp'; cases hp'
    exact .inl ⟨rfl,vs,SqL.of hv⟩
   | _=>cases h
 | _=>cases h
noncomputable def eMtL (f:Sto→D→List D→R D) (o:EM) (t:AM):EM:=fun r S=>(o r S).bind fun x S1=>if isL S1 x=true then (t r S1).bind fun ys S2=>f S2 x ys else .bad
theorem se_mtL {o e:Expr} {es:List Expr} {mo:EM} {ms:AM} {name:Str} {apos cpos:Pos} {id:String} {f:Sto→D→List D→R D} (pa:PlainAttrs "list") (slot:Slot "list" name id) (hty:typeOf (.builtin id)=pure (.type "method_descriptor")) (hm:MtR X id (xM X.K E f))
  (ho:SE X E o mo) (ha:SA X E (e :: es) ms) (hbase:autoParam (attributeBase o name X.env (eval o X.env)=eval o X.env) Au.h0._auto_1)
  (hfew:autoParam (((backTo cpos (starEach (e :: es) X.env)).all (fun x=>!x.1) && (backToKw cpos (keywordEach [] X.env)).all (fun x=>x.1.isSome)
   && decide ((e :: es).length + ([]:List Keyword).length + (if ([]:List Keyword).isEmpty then 0 else 1) < 30))=true) Au.h0._auto_1)
  (hline:autoParam ((apos.endLine == cpos.line)=true) Au.h0._auto_1) (hs:autoParam (starEach (e :: es) X.env=(false,eval e X.env) :: starEach es X.env) Au.h0._auto_1) (hplain:autoParam ((backTo cpos (starEach es X.env)).any (·.1)=false) Au.h0._auto_1):
  SE X E (.Call (.Attribute o name apos) (e :: es) [] cpos) (eMtL f mo ms):=⟨
 pe_weak (pe_bm pa slot hty hm ho.out ha.out hbase hfew hline hs hplain) fun s H Q zq=>ex6 zq fun w r S hr hS hp=>⟨w,r,S,hr,hS,hp.bind hS fun d S1 w1 H1 v x1 q1 s1 p1=>by
  by_cases hl:isL S1 d=true
  ·rw [if_pos hl] at p1
   exact ⟨isL_ok s1 q1 hl,w1,r,S1,hr.ext x1,s1,p1.bind s1 fun ds S2 w2 H2 us x2 q2 s2 p2=>⟨w2,S2,d,ds,s2,RD.ext x2 _ _ q1,q2,p2⟩⟩
  ·rw [if_neg hl] at p1
   exact p1.elim⟩⟩
noncomputable def mAppend:Sto→D→List D→R D
 | S,.ref n,[v]=>match S[n]? with
  | some (.lst a)=>if a.length < sizeLine then .ok .non (S.set n (.lst (a ++ [v]))) else .bad
  | _=>.bad
 | _,_,_=>.bad
theorem xm_append:MtR X "list.append" (xM X.K E mAppend):=by
 rintro pins s σ H x xs v us Q I rx rs ⟨w,S,d,ds,hS,qd,qs,p⟩
 unfold mAppend at p
 split at p
 ·rename_i n y
  split at p
  ·rename_i a hn
   split at p
   ·rename_i hl
    obtain ⟨pp,rfl,hp⟩:=qd.refI
    obtain ⟨yv,rfl,qy⟩:=qs.one_inv
    obtain ⟨p',hp',vs,hv,ra⟩:=hS.obj _ _ hn
    rw [hp] at hp'; cases hp'
    have hm:pp ∈ w.st:=List.mem_of_getElem? hp
    refine mt_append pins s σ H _ _ v us Q I rx rs ⟨pp,vs,yv,rfl,rfl,hv,by rw [ra.length]; exact hl,p.at (Ext.mut hm hv) (by unfold RD; rfl) ?_⟩
    exact hS.mut hp hv ⟨_,upd_same,RDs.ext (Ext.mut hm hv) _ _ (ra.append (.cons qy .nil))⟩
   ·exact p.elim
  ·exact p.elim
 ·exact p.elim
end
end PD
namespace PD
open PySem PySem.Spec PyProof.Rows L2
noncomputable def keyPy:Sum Int Str→PyData
 | .inl i=>.int i
 | .inr x=>.str x
mutual
noncomputable def toPy:D→Option PyData
 | .non=>some .none
 | .bl b=>some (.bool b)
 | .int i=>some (.int i)
 | .str x=>some (.str x)
 | .tup ds=>(toPys ds).map .tuple
 | .lst ds=>(toPys ds).map .list
 | .dic kvs=>(toPyk kvs).map .dict
 | .fz _=>none
 | .ref _=>none
 | .ty _=>none
 | .exc _=>none
 | .cls _=>none
noncomputable def toPys:List D→Option (List PyData)
 | []=>some []
 | d :: ds=>match toPy d,toPys ds with
  | some p,some q=>some (p :: q)
  | _,_=>none
noncomputable def toPyk:List (Sum Int Str × D)→Option (List (PyData × PyData))
 | []=>some []
 | (k,d) :: r=>match toPy d,toPyk r with
  | some p,some q=>some ((keyPy k,p) :: q)
  | _,_=>none
end
mutual
noncomputable def noL:D→Bool
 | .tup ds=>noLs ds
 | .lst _=>false
 | .dic kvs=>noLk kvs
 | _=>true
noncomputable def noLs:List D→Bool
 | []=>true
 | d :: ds=>noL d && noLs ds
noncomputable def noLk:List (Sum Int Str × D)→Bool
 | []=>true
 | (_,d) :: r=>noL d && noLk r
end
section
variable {X:Cx} {E:XK}
mutual
theorem reads_ok {pins:List (Addr × Obj)} {σ:L2.St} {H:Hp} {s:Shared} {w:Wd} (I:Inv X pins σ H s):∀ (d:D) (v:V) (u:Value) (p:PyData),RD X.K w H d v→RelV v u→toPy d=some p→∃ as,Reads s.heap u p as∧(noL d=true→sysModules ∉ as)
 | .non,v,u,p,q,r,h=>by cases q.non; cases (show u=Value.none from r); unfold toPy at h; cases h; exact ⟨_,.none,fun _ z=>nomatch z⟩
 | .bl b,v,u,p,q,r,h=>by cases q.bl; cases (show u=Value.bool b from r); unfold toPy at h; cases h; exact ⟨_,.bool b,fun _ z=>nomatch z⟩
 | .int i,v,u,p,q,r,h=>by cases q.int; obtain ⟨t,rfl⟩:=(show ∃ t,u=Value.int i t from r); unfold toPy at h; cases h; exact ⟨_,.int i t,fun _ z=>nomatch z⟩
 | .str x,v,u,p,q,r,h=>by cases q.str; obtain ⟨t,rfl⟩:=(show ∃ t,u=Value.str x t from r); unfold toPy at h; cases h; exact ⟨_,.str x t,fun _ z=>nomatch z⟩
 | .tup ds,v,u,p,q,r,h=>by
  obtain ⟨a,vs,rfl,z,rs⟩:=q.tupI
  cases (show u=Value.ref a from r)
  unfold toPy at h
  cases e:toPys ds with
  | none=>rw [e] at h; cases h
  | some ps=>
   rw [e] at h; cases h
   obtain ⟨its,r1,⟨o,ho,hc,n,hd⟩,_⟩:=I.tuple (SqT_of z)
   obtain ⟨as,ra,hn⟩:=readss_ok I ds vs its ps rs r1 e
   exact ⟨as,.tuple ho hc hd ra,fun z=>hn (by unfold noL at z; exact z)⟩
 | .lst ds,v,u,p,q,r,h=>by
  obtain ⟨a,vs,rfl,z,rs⟩:=q.lstI
  cases (show u=Value.ref a from r)
  unfold toPy at h
  cases e:toPys ds with
  | none=>rw [e] at h; cases h
  | some ps=>
   rw [e] at h; cases h
   obtain ⟨its,r1,⟨o,n,ho,hc,_,hd⟩,_⟩:=I.list (SqL.of z.1)
   obtain ⟨as,ra,hn⟩:=readss_ok I ds vs its ps rs r1 e
   exact ⟨a :: as,.list ho hc hd ra,fun z=>by unfold noL at z; cases z⟩
 | .dic kvs,v,u,p,q,r,h=>by
  unfold RD at q
  obtain ⟨a,us,rfl,z,rk⟩:=q
  cases (show u=Value.ref a from r)
  unfold toPy at h
  cases e:toPyk kvs with
  | none=>rw [e] at h; cases h
  | some ps=>
   rw [e] at h; cases h
   obtain ⟨_,hsys,vs,kv,o,es,ep,ho,hex,hd,_,hp,_⟩:=(show ObjOk X.prog X.w H s.heap a (.dK us) from I.hok a _ z.1)
   obtain ⟨as,bs,ra,rb,hn⟩:=readsk_ok I kvs us vs es.toList ps rk kv hp e
   refine ⟨a :: as ++ bs,.dict ho hex.1 hd ra rb,fun z=>?_⟩
   unfold noL at z
   intro hm
   rcases List.mem_append.mp hm with hm | hm
   ·rcases List.mem_cons.mp hm with hm | hm
    ·rw [← hm] at hsys; simp at hsys
    ·exact (hn z).1 hm
   ·exact (hn z).2 hm
 | .fz _,_,_,_,_,_,h=>by unfold toPy at h; cases h
 | .ref _,_,_,_,_,_,h=>by unfold toPy at h; cases h
 | .ty _,_,_,_,_,_,h=>by unfold toPy at h; cases h
 | .exc _,_,_,_,_,_,h=>by unfold toPy at h; cases h
 | .cls _,_,_,_,_,_,h=>by unfold toPy at h; cases h
theorem readss_ok {pins:List (Addr × Obj)} {σ:L2.St} {H:Hp} {s:Shared} {w:Wd} (I:Inv X pins σ H s):∀ (ds:List D) (vs:List V) (us:List Value) (ps:List PyData),RDs X.K w H ds vs→Vals vs us→toPys ds=some ps→∃ as,ReadsAll s.heap us ps as∧(noLs ds=true→sysModules ∉ as)
 | [],vs,us,ps,q,r,h=>by
  rw [q.nil_inv] at r
  cases r
  unfold toPys at h
  cases h
  exact ⟨_,.nil,fun _ z=>nomatch z⟩
 | d :: ds,_,us,ps,q,r,h=>by
  obtain ⟨v,vs,rfl,p,t⟩:=q.cons_inv
  unfold toPys at h
  cases e1:toPy d with
  | none=>rw [e1] at h; cases h
  | some p1=>
   cases e2:toPys ds with
   | none=>rw [e1,e2] at h; cases h
   | some p2=>
    rw [e1,e2] at h; cases h
    cases r with
    | cons r1 r2=>
     obtain ⟨as,ra,h1⟩:=reads_ok I d v _ p1 p r1 e1
     obtain ⟨bs,rb,h2⟩:=readss_ok I ds vs _ p2 t r2 e2
     refine ⟨as ++ bs,.cons ra rb,fun z=>?_⟩
     unfold noLs at z
     rw [Bool.and_eq_true] at z
     intro hm
     rcases List.mem_append.mp hm with hm | hm
     ·exact h1 z.1 hm
     ·exact h2 z.2 hm
theorem readsk_ok {pins:List (Addr × Obj)} {σ:L2.St} {H:Hp} {s:Shared} {w:Wd} (I:Inv X pins σ H s):∀ (ds:List (Sum Int Str × D)) (us:List (Key × V)) (vs:List (Key × Value)) (es:List DictEntry) (ps:List (PyData × PyData)),RDk X.K w H ds us→KV us vs→Pairs (mixKind X.prog X.w) es vs→toPyk ds=some ps→
  ∃ as bs,ReadsAll s.heap (es.map (·.key)) (ps.map (·.1)) as∧ReadsAll s.heap (es.map (·.val)) (ps.map (·.2)) bs∧(noLk ds=true→sysModules ∉ as∧sysModules ∉ bs)
 | [],us,vs,es,ps,q,r,hp,h=>by
  unfold RDk at q
  subst q
  cases r
  unfold toPyk at h
  cases h
  cases hp
  exact ⟨_,_,.nil,.nil,fun _=>⟨(fun z=>nomatch z),(fun z=>nomatch z)⟩⟩
 | (k,d) :: ds,us,vs,es,ps,q,r,hp,h=>by
  unfold RDk at q
  obtain ⟨v,ur,rfl,p,t⟩:=q
  unfold toPyk at h
  cases e1:toPy d with
  | none=>rw [e1] at h; cases h
  | some p1=>
   cases e2:toPyk ds with
   | none=>rw [e1,e2] at h; cases h
   | some p2=>
    rw [e1,e2] at h; cases h
    cases r with
    | cons r1 r2=>
     cases hp with
     | cons hk hv hr=>
      rename_i q0 vr e0 es0
      obtain ⟨k',v'⟩:=q0
      obtain ⟨ek,rv⟩:=r1
      have ek':k=k':=ek
      subst ek'
      obtain ⟨as,ra,h1⟩:=reads_ok I d v _ p1 p rv e1
      obtain ⟨as2,bs2,ra2,rb2,h2⟩:=readsk_ok I ds ur vr es0 p2 t r2 hr e2
      have hkey:∃ cs,Reads s.heap e0.key (keyPy k) cs∧cs=[]:=by
       rcases keyIs_shape hk with ⟨i,tk,z1,z2⟩ | ⟨x,tk,z1,z2⟩
       ·have z1':k=Sum.inl i:=z1
        subst z1'
        rw [z2]
        exact ⟨_,.int i tk,rfl⟩
       ·have z1':k=Sum.inr x:=z1
        subst z1'
        rw [z2]
        exact ⟨_,.str x tk,rfl⟩
      obtain ⟨cs,rc,ec⟩:=hkey
      subst ec
      have hv':e0.val=v':=hv
      refine ⟨[] ++ as2,as ++ bs2,.cons rc ra2,.cons (by show Reads s.heap e0.val p1 as; rw [hv']; exact ra) rb2,fun z=>?_⟩
      unfold noLk at z
      rw [Bool.and_eq_true] at z
      refine ⟨by rw [List.nil_append]; exact (h2 z.2).1,fun hm=>?_⟩
      rcases List.mem_append.mp hm with hm | hm
      ·exact h1 z.1 hm
      ·exact (h2 z.2).2 hm
end
end
end PD
namespace PD
open PySem PySem.Spec PyProof.Rows L2
section
variable {K:PySem.W.Frag} {w:Wd} {H:Hp}
structure Mv (w:Wd) (H:Hp) (w2:Wd) (H2:Hp):Prop where
 st:∀ (n:Nat) (a:Addr),w.st[n]?=some a→w2.st[n]?=some a
 at_:∀ a o,At w H a o→At w2 H2 a o
mutual
theorem RD.mv {w2:Wd} {H2:Hp} (x:Mv w H w2 H2):∀ (d:D) (v:V),RD K w H d v→RD K w2 H2 d v
 | .non,_,h=>h
 | .bl _,_,h=>h
 | .int _,_,h=>h
 | .str _,_,h=>h
 | .tup ds,v,h=>by
  unfold RD at h ⊢
  obtain ⟨a,vs,e,p,r⟩:=h
  exact ⟨a,vs,e,p.imp (x.at_ _ _) id,RDs.mv x ds vs r⟩
 | .lst ds,v,h=>by
  unfold RD at h ⊢
  obtain ⟨a,vs,e,p,r⟩:=h
  exact ⟨a,vs,e,x.at_ _ _ p,RDs.mv x ds vs r⟩
 | .fz ds,v,h=>by
  unfold RD at h ⊢
  obtain ⟨a,vs,e,p,r⟩:=h
  exact ⟨a,vs,e,p.imp (fun ⟨o,z⟩=>⟨o,x.at_ _ _ z⟩) id,RDs.mv x ds vs r⟩
 | .dic kvs,v,h=>by
  unfold RD at h ⊢
  obtain ⟨a,us,e,p,r⟩:=h
  exact ⟨a,us,e,x.at_ _ _ p,RDk.mv x kvs us r⟩
 | .ref n,v,h=>by
  unfold RD at h ⊢
  obtain ⟨a,e,p⟩:=h
  exact ⟨a,e,x.st n a p⟩
 | .ty _,_,h=>h
 | .exc c,v,h=>by
  unfold RD at h ⊢
  obtain ⟨a,C,o,e,q,p⟩:=h
  exact ⟨a,C,o,e,q,x.at_ _ _ p⟩
 | .cls _,_,h=>h
theorem RDs.mv {w2:Wd} {H2:Hp} (x:Mv w H w2 H2):∀ (ds:List D) (vs:List V),RDs K w H ds vs→RDs K w2 H2 ds vs
 | [],_,h=>h
 | d :: ds,vs,h=>by
  unfold RDs at h ⊢
  obtain ⟨v,r,e,p,q⟩:=h
  exact ⟨v,r,e,RD.mv x d v p,RDs.mv x ds r q⟩
theorem RDk.mv {w2:Wd} {H2:Hp} (x:Mv w H w2 H2):∀ (ds:List (Sum Int Str × D)) (vs:List (Key × V)),RDk K w H ds vs→RDk K w2 H2 ds vs
 | [],_,h=>h
 | (k,d) :: ds,vs,h=>by
  unfold RDk at h ⊢
  obtain ⟨v,r,e,p,q⟩:=h
  exact ⟨v,r,e,RD.mv x d v p,RDk.mv x ds r q⟩
end
theorem RO.mv {w2:Wd} {H2:Hp} (x:Mv w H w2 H2) {a:Addr} {o:SO} (hk:∀ u,H a=some u→H2 a=some u) (r:RO K w H a o):RO K w2 H2 a o:=by
 cases o with
 | lst ds=>obtain ⟨vs,e,q⟩:=r; exact ⟨vs,hk _ e,RDs.mv x _ _ q⟩
 | dic kvs=>obtain ⟨vs,e,q⟩:=r; exact ⟨vs,hk _ e,RDk.mv x _ _ q⟩
 | fdic kvs=>obtain ⟨o,vs,e,q⟩:=r; exact ⟨o,vs,hk _ e,RDk.mv x _ _ q⟩
 | ins c fs=>obtain ⟨C,dx,us,n,e,q1,q2⟩:=r; exact ⟨C,dx,us,n,hk _ e,q1,RDs.mv x _ _ q2⟩
 | flst ds=>obtain ⟨o,vs,e,q⟩:=r; exact ⟨o,vs,hk _ e,RDs.mv x _ _ q⟩
theorem RSt.mv {w2:Wd} {H2:Hp} {r:Rho} {s:L2.St} (x:Mv w H w2 H2) (h:RSt K w H r s):RSt K w2 H2 r s:=
 ⟨h.1,fun i d e=>let ⟨v,e1,q⟩:=h.2 i d e; ⟨v,e1,RD.mv x d v q⟩⟩
theorem Ext.hide {p:Addr} {o:HO} (hp:H p=none):Ext w H (w.hide p) (upd H p o):=
 ⟨fun a u e _=>by rw [upd_ne (ne_of_none e hp)]; exact e,⟨[],by simp [Wd.hide],fun _ z=>nomatch z⟩,fun a h=>List.mem_cons_of_mem _ h,fun a h=>(List.mem_cons.mp h).elim (fun e=>.inr (e ▸ hp)) .inl,fun a o u e=>by rw [upd_ne (ne_of_none e hp)]; exact e⟩
noncomputable def Wd.unhide (w:Wd) (p:Addr):Wd:=⟨w.st,w.hid.filter fun a=>decide (a ≠ p)⟩
theorem Wd.mem_unhide {p a:Addr} (h:a ∈ (w.unhide p).hid):a ∈ w.hid∧a ≠ p:=⟨(List.mem_filter.mp h).1,of_decide_eq_true (List.mem_filter.mp h).2⟩
theorem Mv.write {p:Addr} {o:HO} (hp:p ∈ w.hid):Mv w H w (upd H p o):=
 ⟨fun _ _ z=>z,fun a u h=>⟨by rw [upd_ne (fun z:a=p=>h.2.2 (z ▸ hp))]; exact h.1,h.2⟩⟩
theorem Mv.unhide {p:Addr}:Mv w H (w.unhide p) H:=
 ⟨fun _ _ z=>z,fun a u h=>⟨h.1,h.2.1,fun z=>h.2.2 (Wd.mem_unhide z).1⟩⟩
theorem RS.hide {p:Addr} {o:HO} {S:Sto} (s:RS K w H S) (hp:H p=none):RS K (w.hide p) (upd H p o) S:=by
 refine ⟨s.nd,s.len,fun n so e=>?_,fun a ha=>?_⟩
 ·obtain ⟨a,ha,r⟩:=s.obj n so e
  exact ⟨a,ha,r.ext (Ext.hide hp) fun u z=>by rw [upd_ne (ne_of_none z hp)]; exact z⟩
 ·rcases List.mem_cons.mp ha with z | z
  ·subst z; exact ⟨s.freshS hp,o,upd_same⟩
  ·obtain ⟨h1,u,e⟩:=s.hid a z
   exact ⟨h1,u,by rw [upd_ne (ne_of_none e hp)]; exact e⟩
theorem RS.write {p:Addr} {o:HO} {S:Sto} (s:RS K w H S) (hp:p ∈ w.hid):RS K w (upd H p o) S:=by
 have np:=(s.hid p hp).1
 refine ⟨s.nd,s.len,fun n so e=>?_,fun a ha=>?_⟩
 ·obtain ⟨a,ha,r⟩:=s.obj n so e
  have:a ≠ p:=fun z=>np (z ▸ List.mem_of_getElem? ha)
  exact ⟨a,ha,r.mv (Mv.write hp) fun u z=>by rw [upd_ne this]; exact z⟩
 ·obtain ⟨h1,u,e⟩:=s.hid a ha
  by_cases z:a=p
  ·subst z; exact ⟨h1,o,upd_same⟩
  ·exact ⟨h1,u,by rw [upd_ne z]; exact e⟩
theorem RS.unhide {p:Addr} {S:Sto} (s:RS K w H S):RS K (w.unhide p) H S:=
 ⟨s.nd,s.len,fun n so e=>by
  obtain ⟨a,ha,r⟩:=s.obj n so e
  exact ⟨a,ha,r.mv Mv.unhide fun u z=>z⟩,fun a ha=>s.hid a (Wd.mem_unhide ha).1⟩
theorem cap_rel {r:Rho} {s:L2.St} (k:Nat) (caps:List Nat) (h:RSt K w H r s):RSt K w H (capOf k caps r) (capSt k caps s):=by
 unfold capOf capSt
 refine ⟨by simp,fun i d e=>?_⟩
 by_cases hi:i < k
 ·rw [List.getElem?_append_left (by simpa using hi),List.getElem?_replicate] at e
  split at e <;> cases e
 ·rw [List.getElem?_append_right (by simpa using hi),List.getElem?_map,List.length_replicate] at e
  rw [List.getElem?_append_right (by simpa using hi),List.getElem?_map,List.length_replicate]
  cases ec:caps[i - k]? with
  | none=>rw [ec] at e; cases e
  | some j=>
   rw [ec] at e
   have e':(r[j]?).join=some d:=Option.some.inj e
   have hj:r[j]?=some (some d):=by
    cases q:r[j]? with
    | none=>rw [q] at e'; cases e'
    | some o=>rw [q] at e'; rw [show o=some d from e']
   obtain ⟨v,ev,rv⟩:=h.2 j d hj
   exact ⟨v,by show some ((s[j]?).join)=some (some v); rw [ev]; rfl,rv⟩
end
noncomputable abbrev SIf (X:Cx) (E:XK) (ifs:List Expr) (m:TM):Prop:=Bx (PIfs X ifs (uT X.K E m))
theorem sif_nil {X:Cx} {E:XK}:SIf X E [] tTrue:=⟨fun pins s σ H Q I zq=>ex6 zq fun w r S hr hS hp=>pifs_nil pins s σ H Q I (hp.ret rfl hS)⟩
theorem se_compQ {qb:Bool} {X:Cx} {E:XK} {elt tg iter:Expr} {ifs:List Expr} {scope:Scope} {pos:Pos} {N:List Str} {k:Nat} {caps:List Nat} {it:AM} {g:G} {mt:TM} {me:EM} (hX:Cd qb X) (hxe:∀ e s,¬ X.xe e s) (C:CompScope X N k caps scope)
  (hi:SIb qb X E tg iter it) (hg:∀ cl s0 H0 ex,Cd qb (cxC X N scope cl s0 H0 ex)→SG (cxC X N scope cl s0 H0 ex) tg g) (ht:∀ cl s0 H0 ex,Cd qb (cxC X N scope cl s0 H0 ex)→SIf (cxC X N scope cl s0 H0 ex) E ifs mt) (he:∀ cl s0 H0 ex,Cd qb (cxC X N scope cl s0 H0 ex)→SE (cxC X N scope cl s0 H0 ex) E elt me)
  (hs:autoParam (∀ x,foldedSetIterable iter X.env x=pure x) Au.h4._auto_1):SE X E (.ListComp elt [⟨tg,iter,ifs,0⟩] scope pos) (eComp it k caps g mt me):=⟨
 pe_weak (pe_compQ hX hxe C hi.out (g:=uG X.K g) (fun cl s0 H0 ex z=>(hg cl s0 H0 ex z).out) (tt:=uT X.K E mt) (fun cl s0 H0 ex z=>(ht cl s0 H0 ex z).out) (te:=uE X.K E me) (fun cl s0 H0 ex z=>(he cl s0 H0 ex z).out) hs) fun s H Q zq=>ex6 zq fun w r S hr hS hp=>⟨w,r,S,hr,hS,hp.bind hS fun ds S1 w1 H1 J x1 q1 s1 p1=>by
  intro p hp
  have hr1:=hr.ext x1
  have pno:p ∉ w1.hid:=(s1.fresh hp).2
  have hz:ds.length≤sizeLine:=by
   rcases Nat.lt_or_ge sizeLine ds.length with z | z
   ·rw [if_neg (by omega)] at p1; exact p1.elim
   ·exact z
  rw [if_pos hz] at p1
  -- the list is made at p,which is hidden
  refine ⟨fun i n s' H'=>n=ds.length - i∧i≤ds.length∧∃ w' r' S' ys vs,Ext w1 H1 w' H'∧p ∈ w'.hid∧RSt X.K w' H' r' s'∧RS X.K w' H' S'∧H' p=some (.lst vs)∧RDs X.K w' H' ys vs∧ys.length≤i∧
    Post X.K E (RD X.K) w1 H1 ((compL g mt me (ds.drop i) r' S').bind fun zs S2=>R.ok (.lst (ys ++ zs)) S2) Q,
   ⟨ds.length,by simp,Nat.zero_le _,w1.hide p,capOf k caps r,S1,[],[],Ext.hide hp,List.mem_cons_self,(cap_rel k caps hr1).ext (Ext.hide hp),s1.hide hp,upd_same,.nil,Nat.le_refl _,p1⟩,?_⟩
  rintro i n s2 H2 ⟨rfl,hi.out,w2,r2,S2,ys,vs,x2,hph,hr2,hS2,hpv,ry,hyl,hp2⟩
  have hpn:p ∉ w2.st:=(hS2.hid p hph).1
  by_cases hlt:i < ds.length
  ·obtain ⟨go,yld⟩:=(q1 i w2 H2 x2).1 hlt
   refine .inr ⟨go,fun s' H'=>∃ w' r' S' ys vs,Ext w1 H1 w' H'∧p ∈ w'.hid∧RSt X.K w' H' r' s'∧RS X.K w' H' S'∧H' p=some (.lst vs)∧RDs X.K w' H' ys vs∧ys.length≤i + 1∧
     Post X.K E (RD X.K) w1 H1 ((compL g mt me (ds.drop (i + 1)) r' S').bind fun zs S2=>R.ok (.lst (ys ++ zs)) S2) Q,
    fun s' H' hN=>⟨ds.length - (i + 1),by omega,rfl,hlt,hN⟩,fun x H3 hy=>?_⟩
   obtain ⟨gr,rd⟩:=yld x H3 hy
   obtain ⟨d,ed,qd⟩:=rd S2 hS2
   obtain ⟨x3,s3⟩:=grown_ok gr hS2
   have hdrop:ds.drop i=d :: ds.drop (i + 1):=by
    rw [List.drop_eq_getElem_cons hlt]
    rw [List.getElem?_eq_getElem hlt] at ed
    cases ed; rfl
   rw [hdrop] at hp2
   have hpv3:H3 p=some (.lst vs):=x3.keep _ _ hpv hpn
   have ry3:=RDs.ext x3 _ _ ry
   have x13:Ext w1 H1 w2 H3:=x2.trans' x3 s1 hS2
   unfold compL at hp2
   cases e:g.put d r2 with
   | none=>rw [e] at hp2; exact hp2.elim
   | some r3=>
    rw [e] at hp2
    refine ⟨w2,r2,d,r3,hr2.ext x3,qd,e,fun s4 hr4=>⟨w2,r3,S2,hr4,s3,?_⟩⟩
    -- hp2:(mt r3 S2).bind .. |>.bind ..
    have hass:∀ {A B C:Type} (r:R A) (f:A→Sto→R B) (h:B→Sto→R C),(r.bind f).bind h=r.bind fun a S=>(f a S).bind h:=fun r f h=>by cases r <;> rfl
    simp only [hass] at hp2
    refine Post.bindAt (rel:=RB) hp2 x13 s1 s3 fun c S5 w5 H5 c' x5 q5 s5 p5=>?_
    have ec:c'=c:=q5
    subst ec
    have x15:Ext w1 H1 w5 H5:=x13.trans' x5 s1 s3
    have hph5:p ∈ w5.hid:=x5.hid p hph
    have hpv5:H5 p=some (.lst vs):=x5.keep _ _ hpv3 hpn
    cases c' with
    | false=>
     refine iteF ⟨w5,r3,S5,ys,vs,x15,hph5,hr4.ext x5,s5,hpv5,RDs.ext x5 _ _ ry3,Nat.le_succ_of_le hyl,p5⟩
    | true=>
     refine iteT ⟨w5,r3,S5,hr4.ext x5,s5,?_⟩
     have p5':Post X.K E (RD X.K) w1 H1 (((me r3 S5).bind fun y S2=>(compL g mt me (ds.drop (i + 1)) r3 S2).bind fun ys S3=>R.ok (y :: ys) S3).bind fun zs S2=>R.ok (D.lst (ys ++ zs)) S2) Q:=p5
     simp only [hass] at p5'
     refine Post.bindAt (rel:=RD X.K) p5' x15 s1 s5 fun y S6 w6 H6 yv x6 q6 s6 p6=>?_
     have x16:Ext w1 H1 w6 H6:=x15.trans' x6 s1 s5
     have hph6:p ∈ w6.hid:=x6.hid p hph5
     have hpn5:p ∉ w5.st:=(s5.hid p hph5).1
     have hpn6:p ∉ w6.st:=(s6.hid p hph6).1
     have hpv6:H6 p=some (.lst vs):=x6.keep _ _ hpv5 hpn5
     have ry6:=RDs.ext x6 _ _ (RDs.ext x5 _ _ ry3)
     refine ⟨vs,hpv6,by rw [ry6.length]; omega,w6,r3,S6,ys ++ [y],vs ++ [yv],⟨fun a o h n=>?_,x16.sub,x16.hid,x16.hnew,fun a o u h=>by have z:=x16.frz a o u h; rw [upd_ne (fun e:a=p=>by rw [e,hpv6] at z; cases z)]; exact z⟩,hph6,(hr4.ext x5).ext x6 |>.mv (Mv.write hph6),s6.write hph6,upd_same,(RDs.mv (Mv.write hph6) _ _ ry6).append (.cons (RD.mv (Mv.write hph6) _ _ q6) .nil),by simp; omega,?_⟩
     ·have:a ≠ p:=ne_of_none h hp
      rw [upd_ne this]; exact x16.keep a o h n
     ·have he2:∀ zs:List D,(ys ++ [y]) ++ zs=ys ++ y :: zs:=fun zs=>by simp
      simp only [he2]
      exact p6
  ·have e:i=ds.length:=by omega
   subst e
   rw [List.drop_length] at hp2
   refine .inl ⟨(q1 _ w2 H2 x2).2 (Nat.le_refl _),?_⟩
   have hp3:Post X.K E (RD X.K) w1 H1 (R.ok (D.lst (ys ++ [])) S2) Q:=hp2
   rw [List.append_nil] at hp3
   refine Post.at hp3 (w1:=w2.unhide p) ⟨x2.keep,x2.sub,fun a h=>List.mem_filter.mpr ⟨x2.hid a h,decide_eq_true fun z=>pno (z ▸ h)⟩,fun a h=>x2.hnew a (Wd.mem_unhide h).1,x2.frz⟩ ?_ hS2.unhide
   unfold RD
   exact ⟨p,vs,rfl,⟨hpv,hpn,fun z=>(Wd.mem_unhide z).2 rfl⟩,RDs.mv Mv.unhide _ _ ry⟩⟩⟩
theorem se_comp {X:Cx} {E:XK} {elt tg iter:Expr} {ifs:List Expr} {scope:Scope} {pos:Pos} {N:List Str} {k:Nat} {caps:List Nat} {it:AM} {g:G} {mt:TM} {me:EM} (hX:X.calm=true) (hxe:∀ e s,¬ X.xe e s) (C:CompScope X N k caps scope)
  (hi:SI X E tg iter it) (hg:∀ cl s0 H0 ex,SG (cxC X N scope cl s0 H0 ex) tg g) (ht:∀ cl s0 H0 ex,SIf (cxC X N scope cl s0 H0 ex) E ifs mt) (he:∀ cl s0 H0 ex,SE (cxC X N scope cl s0 H0 ex) E elt me)
  (hs:autoParam (∀ x,foldedSetIterable iter X.env x=pure x) Au.h4._auto_1):SE X E (.ListComp elt [⟨tg,iter,ifs,0⟩] scope pos) (eComp it k caps g mt me):=se_compQ (qb:=false) (.inl hX) hxe C hi (fun a b c d _=>hg a b c d) (fun a b c d _=>ht a b c d) (fun a b c d _=>he a b c d) hs
end PD
namespace PD
open PySem PySem.Spec PyProof.Rows L2
noncomputable abbrev KD:=Sum Int Str
noncomputable def keyD:D→Option KD
 | .int i=>some (.inl i)
 | .str x=>some (.inr x)
 | _=>none
noncomputable def putD (kvs:List (KD × D)) (k:KD) (d:D):List (KD × D):=
 if kvs.any (fun kv=>decide (kv.1=k)) then kvs.map (fun kv=>if kv.1=k then (kv.1,d) else kv) else kvs ++ [(k,d)]
noncomputable def mergeD (kvs more:List (KD × D)):List (KD × D):=more.foldl (fun acc kv=>putD acc kv.1 kv.2) kvs
noncomputable def keysD:List (D × D)→Option (List (KD × D))
 | []=>some []
 | (k,v) :: r=>match keyD k,keysD r with
  | some k',some r'=>some ((k',v) :: r')
  | _,_=>none
noncomputable def pM:List (EM × EM)→Rho→Sto→R (List (D × D))
 | [],_,S=>.ok [] S
 | (a,b) :: t,r,S=>(a r S).bind fun x S1=>(b r S1).bind fun y S2=>(pM t r S2).bind fun ps S3=>.ok ((x,y) :: ps) S3
noncomputable def eDicN (ms:List (EM × EM)):EM:=fun r S=>(pM ms r S).bind fun ps S1=>match keysD ps with
 | some kvs=>if kvs.length≤15 then .ok (.ref S1.length) (S1 ++ [.dic (mergeD [] kvs)]) else .bad
 | none=>.bad
section
variable {K:PySem.W.Frag} {w:Wd} {H:Hp}
theorem RDk.nil:RDk K w H [] []:=by unfold RDk; rfl
theorem RDk.cons {k:KD} {d:D} {v:V} {ds:List (KD × D)} {vs:List (Key × V)} (r:RD K w H d v) (q:RDk K w H ds vs):RDk K w H ((k,d) :: ds) ((k,v) :: vs):=by unfold RDk; exact ⟨v,vs,rfl,r,q⟩
theorem RDk.nil_inv {vs:List (Key × V)} (h:RDk K w H [] vs):vs=[]:=by unfold RDk at h; exact h
theorem RDk.cons_inv {k:KD} {d:D} {ds:List (KD × D)} {vs:List (Key × V)} (h:RDk K w H ((k,d) :: ds) vs):∃ v r,vs=(k,v) :: r∧RD K w H d v∧RDk K w H ds r:=by unfold RDk at h; exact h
theorem RDk.append:∀ {ds es:List (KD × D)} {vs us:List (Key × V)},RDk K w H ds vs→RDk K w H es us→RDk K w H (ds ++ es) (vs ++ us)
 | [],_,_,_,h,q=>by rw [h.nil_inv]; exact q
 | (_,_) :: _,_,_,_,h,q=>by
  obtain ⟨v,r,rfl,p,t⟩:=h.cons_inv
  exact .cons p (RDk.append t q)
theorem RDk.any:∀ {ds:List (KD × D)} {vs:List (Key × V)} (k:KD),RDk K w H ds vs→(ds.any fun kv=>decide (kv.1=k))=(vs.any fun kv=>decide (kv.1=k))
 | [],_,_,h=>by rw [h.nil_inv]; rfl
 | (_,_) :: _,_,k,h=>by
  obtain ⟨v,r,rfl,p,t⟩:=h.cons_inv
  rw [List.any_cons,List.any_cons,RDk.any k t]
theorem RDk.repl {d:D} {v:V} (r:RD K w H d v):∀ {ds:List (KD × D)} {vs:List (Key × V)} (k:KD),RDk K w H ds vs→RDk K w H (ds.map fun kv=>if kv.1=k then (kv.1,d) else kv) (vs.map fun kv=>if kv.1=k then (kv.1,v) else kv)
 | [],_,_,h=>by rw [h.nil_inv]; exact .nil
 | (j,_) :: _,_,k,h=>by
  obtain ⟨v',r',rfl,p,t⟩:=h.cons_inv
  simp only [List.map_cons]
  by_cases hj:j=k
  ·rw [if_pos hj,if_pos hj]; exact .cons r (RDk.repl r k t)
  ·rw [if_neg hj,if_neg hj]; exact .cons p (RDk.repl r k t)
theorem RDk.put {ds:List (KD × D)} {vs:List (Key × V)} {d:D} {v:V} (q:RDk K w H ds vs) (k:KD) (r:RD K w H d v):RDk K w H (putD ds k d) (putK vs k v):=by
 unfold putD putK
 rw [q.any k]
 split
 ·exact q.repl r k
 ·exact q.append (.cons r .nil)
theorem RDk.merge:∀ {more:List (KD × D)} {mvs:List (Key × V)} {ds:List (KD × D)} {vs:List (Key × V)},RDk K w H more mvs→RDk K w H ds vs→RDk K w H (mergeD ds more) (mergeK vs mvs)
 | [],_,_,_,h,q=>by rw [h.nil_inv]; exact q
 | (k,d) :: r,_,ds,vs,h,q=>by
  obtain ⟨v',r',rfl,p,t⟩:=h.cons_inv
  show RDk K w H (mergeD (putD ds k d) r) (mergeK (putK vs k v') r')
  exact RDk.merge t (q.put k p)
theorem keyD_ok {d:D} {v:V} {k:KD} (q:RD K w H d v) (h:keyD d=some k):v=kV k:=by
 cases d with
 | int i=>cases q.int; cases h; rfl
 | str x=>cases q.str; cases h; rfl
 | _=>cases h
noncomputable def RPs (K:PySem.W.Frag) (w:Wd) (H:Hp):List (D × D)→List (V × V)→Prop
 | [],vs=>vs=[]
 | (a,b) :: r,vs=>∃ x y t,vs=(x,y) :: t∧RD K w H a x∧RD K w H b y∧RPs K w H r t
theorem keysD_ok:∀ {ps:List (D × D)} {vs:List (V × V)} {kvs:List (KD × D)},RPs K w H ps vs→keysD ps=some kvs→∃ us:List (Key × V),vs=us.map (fun kv=>(kV kv.1,kv.2))∧RDk K w H kvs us
 | [],_,_,h,e=>by
  have h':_=[]:=h
  subst h'
  unfold keysD at e
  cases e
  exact ⟨[],rfl,.nil⟩
 | (a,b) :: r,_,kvs,h,e=>by
  obtain ⟨u,v,t,rfl,h1,h2,h3⟩:=h
  unfold keysD at e
  cases e1:keyD a with
  | none=>rw [e1] at e; cases e
  | some k=>
   cases e2:keysD r with
   | none=>rw [e1,e2] at e; cases e
   | some r'=>
    rw [e1,e2] at e; cases e
    obtain ⟨us,rfl,q⟩:=keysD_ok h3 e2
    exact ⟨(k,v) :: us,by rw [keyD_ok h1 e1]; rfl,.cons h2 q⟩
end
section
variable {X:Cx} {E:XK} {pos:Pos}
noncomputable def uPs (K:PySem.W.Frag) (E:XK) (ms:List (EM × EM)):List (TE × TE):=ms.map fun p=>(uE K E p.1,uE K E p.2)
theorem tp_ok {A2 B2:Type} {K:PySem.W.Frag} {rel2:Wd→Hp→A2→B2→Prop} {w0:Wd} {H0:Hp} {S0:Sto} {Q:B2→Hp→Prop} (s0:RS K w0 H0 S0):∀ (ms:List (EM × EM)) {w:Wd} {H:Hp} {S:Sto} {r:Rho} {s:L2.St} {f:List (D × D)→Sto→R A2} {Q':List (V × V)→Hp→Prop},RSt K w H r s→RS K w H S→Ext w0 H0 w H→
  Post K E rel2 w0 H0 ((pM ms r S).bind f) Q→(∀ ps S1 w1 H1 vs,Ext w H w1 H1→RPs K w1 H1 ps vs→RS K w1 H1 S1→Post K E rel2 w0 H0 (f ps S1) Q→Q' vs H1)→tPairs (uPs K E ms) s H Q'
 | [],w,H,S,r,s,f,Q',hr,hS,x,hp,k=>k [] S w H [] (Ext.refl _ _) rfl hS hp
 | (a,b) :: t,w,H,S,r,s,f,Q',hr,hS,x,hp,k=>by
  have hass:∀ {A B C:Type} (r:R A) (f:A→Sto→R B) (h:B→Sto→R C),(r.bind f).bind h=r.bind fun a S=>(f a S).bind h:=fun r f h=>by cases r <;> rfl
  unfold pM at hp
  rw [hass] at hp
  refine ⟨w,r,S,hr,hS,Post.bindAt (rel:=RD K) hp x s0 hS fun d S1 w1 H1 u x1 q1 s1 p1=>?_⟩
  rw [hass] at p1
  have x01:=x.trans' x1 s0 hS
  refine ⟨w1,r,S1,hr.ext x1,s1,Post.bindAt (rel:=RD K) p1 x01 s0 s1 fun e S2 w2 H2 v x2 q2 s2 p2=>?_⟩
  rw [hass] at p2
  have x02:=x01.trans' x2 s0 s1
  exact tp_ok s0 t ((hr.ext x1).ext x2) s2 x02 p2 fun ps S3 w3 H3 vs x3 q3 s3 p3=>
   k ((d,e) :: ps) S3 w3 H3 ((u,v) :: vs) ((x1.trans' x2 hS s1).trans' x3 hS s2) ⟨u,v,vs,rfl,RD.ext x3 _ _ (RD.ext x2 _ _ q1),RD.ext x3 _ _ q2,q3⟩ s3 p3
noncomputable abbrev SPs (X:Cx) (E:XK) (pos:Pos) (keys:List (Option Expr)) (values:List Expr) (ms:List (EM × EM)):Prop:=Bx (PPs X pos keys values (uPs X.K E ms))
theorem sps_nil:SPs X E pos [] [] []:=⟨pps_nil⟩
theorem sps_cons {k v:Expr} {ks:List (Option Expr)} {vs:List Expr} {mk mv:EM} {ms:List (EM × EM)} (hk:SE X E k mk) (hv:SE X E v mv) (hr:SPs X E pos ks vs ms):SPs X E pos (some k :: ks) (v :: vs) ((mk,mv) :: ms):=⟨pps_cons hk.out hv.out hr.out⟩
theorem disp_core {keys:List (Option Expr)} {values:List Expr} {ms:List (EM × EM)} {m:EM} {s:L2.St} {H:Hp} {Q:VK} {fin:List (KD × D)→Sto→R D}
  (hm:∀ r S,m r S=(pM ms r S).bind fun ps S1=>match keysD ps with | some kvs=>if kvs.length≤15 then fin kvs S1 else .bad | none=>.bad)
  (hfin:∀ (kvs:List (KD × D)) (us:List (Key × V)) (w0 w:Wd) (H0 H:Hp) (S0 S:Sto) (p:Addr),H0 p=none→RS X.K w0 H0 S0→RS X.K w H S→Ext w0 H0 w H→p ∈ w.hid→RDk X.K w H (mergeD [] kvs) (mergeK [] us)→Post X.K E (RD X.K) w0 H0 (fin kvs S) Q→Q (.ref p) (upd H p (.dK (mergeK [] us))))
  (h:uE X.K E m s H Q):tDisp (uPs X.K E ms) s H Q:=by
 obtain ⟨w,r,S,hr,hS,hp⟩:=h
 rw [hm] at hp
 intro p hpn
 refine tp_ok hS ms (hr.ext (Ext.hide hpn)) (hS.hide hpn) (Ext.hide hpn) hp fun ps S1 w1 H1 vs x1 q1 s1 p1=>?_
 have hh:p ∈ w1.hid:=x1.hid p List.mem_cons_self
 have hx:Ext w H w1 H1:=(Ext.hide hpn).trans' x1 hS (hS.hide hpn)
 refine ⟨x1.keep p _ upd_same ((hS.hide (o:=HO.dK []) hpn).hid p List.mem_cons_self).1,?_⟩
 cases e:keysD ps with
 | none=>rw [e] at p1; exact p1.elim
 | some kvs=>
  rw [e] at p1
  obtain ⟨us,rfl,rk⟩:=keysD_ok q1 e
  have hl:=rk.length
  by_cases hz:kvs.length≤15
  ·have p2:Post X.K E (RD X.K) w H (if kvs.length≤15 then fin kvs S1 else R.bad) Q:=p1
   rw [if_pos hz] at p2
   exact ⟨us,rfl,by rw [hl]; exact hz,hfin kvs us w w1 H H1 S S1 p hpn hS s1 hx hh (rk.merge .nil) p2⟩
  ·have p2:Post X.K E (RD X.K) w H (if kvs.length≤15 then fin kvs S1 else R.bad) Q:=p1
   rw [if_neg hz] at p2
   exact p2.elim
end
end PD
namespace PD
open PySem PySem.Spec PyProof.Rows L2
noncomputable def ALen (m:AM) (n:Nat):Prop:=∀ r S ds S',m r S=.ok ds S'→ds.length=n
theorem alen_nil:ALen aNil 0:=fun r S ds S' h=>by unfold aNil at h; cases h; rfl
theorem alen_cons {a:EM} {t:AM} {n:Nat} (h:ALen t n):ALen (aCons a t) (n + 1):=fun r S ds S' e=>by
 unfold aCons at e
 cases e1:a r S with
 | bad=>rw [e1] at e; cases e
 | err x S1=>rw [e1] at e; cases e
 | ok d S1=>
  rw [e1] at e
  cases e2:t r S1 with
  | bad=>simp only [R.bind_ok,e2,R.bind_bad] at e; cases e
  | err x S2=>simp only [R.bind_ok,e2,R.bind_err] at e; cases e
  | ok es S2=>
   simp only [R.bind_ok,e2] at e
   cases e
   simp [h r S1 es _ e2]
section
variable {X:Cx} {E:XK}
theorem se_gi {x:Str} {i:Int} {pos:Pos} (hm:∃ t,X.mg x=some (.int i t)) (hg:Gl X x) (hd:autoParam ((x == ("__debug__":Str))=false) Au.h3._auto_1):SE X E (.Name x pos) (eC (.int i)):=by
 obtain ⟨t,e⟩:=hm
 exact se_gint hg e hd
end
section
variable {P:Program} {w:World} {K:PySem.W.Frag} {mg:Str→Option Value} {base:Heap}
end
noncomputable def capsOk (N0 N:List Str) (k:Nat) (scope:Scope):List Nat→Nat→Bool
 | [],_=>true
 | i :: r,t=>(match N0[i]?,N[k + t]? with
  | some x,some y=>x == y && scope.names.lookup x == some .free
  | _,_=>false) && capsOk N0 N k scope r (t + 1)
theorem capsOk_get {N0 N:List Str} {k:Nat} {scope:Scope}:∀ {caps:List Nat} {t0:Nat},capsOk N0 N k scope caps t0=true→∀ (t i:Nat),caps[t]?=some i→∃ x,N0[i]?=some x∧N[k + (t0 + t)]?=some x∧scope.names.lookup x=some .free
 | [],_,_,_,_,h=>by simp at h
 | j :: r,t0,h,t,i,e=>by
  unfold capsOk at h
  rw [Bool.and_eq_true] at h
  cases t with
  | zero=>
   simp at e
   subst e
   have h1:=h.1
   cases e1:N0[j]? with
   | none=>rw [e1] at h1; cases h1
   | some x=>
    cases e2:N[k + t0]? with
    | none=>rw [e1,e2] at h1; cases h1
    | some y=>
     rw [e1,e2] at h1
     simp only [Bool.and_eq_true] at h1
     have hxy:x=y:=eq_of_beq h1.1
     subst hxy
     exact ⟨x,rfl,by simpa using e2,eq_of_beq h1.2⟩
  | succ t=>
   obtain ⟨x,a,b,c⟩:=capsOk_get h.2 t i (by simpa using e)
   exact ⟨x,a,by rw [show t0 + (t + 1)=t0 + 1 + t by omega]; exact b,c⟩
theorem cs_mk {X:Cx} {N:List Str} {k:Nat} {caps:List Nat} {scope:Scope} (h1:scope.kind=.function) (h2:scope.names.all (fun x=>x.2 != .cell)=true) (h3:scope.names.all (fun x=>x.2 != .local || scope.names.lookup x.1 == some .local)=true)
  (h4:scope.names.all (fun x=>x.2 != .free || X.env.kindOf x.1 == some .cell || X.env.kindOf x.1 == some .free)=true) (h5:N.length=k + caps.length) (h6:capsOk X.N N k scope caps 0=true):CompScope X N k caps scope:=by
 refine ⟨h1,fun x hx z=>?_,fun x hx z=>?_,fun x hx z=>?_,h5,fun t i e=>?_⟩
 ·have:=List.all_eq_true.mp h2 x hx
  rw [z] at this; simp at this
 ·have:=List.all_eq_true.mp h3 x hx
  rw [z] at this
  simpa using this
 ·have:=List.all_eq_true.mp h4 x hx
  rw [z] at this
  simpa using this
 ·obtain ⟨x,a,b,c⟩:=capsOk_get h6 t i e
  exact ⟨x,a,by simpa using b,c⟩
theorem law_sp {f:FM} (h:∀ ns:List Int,ns.length≤63→∃ S,f [.fz (ns.map .int)] []=.ok (.bl true) S) (K:PySem.W.Frag) (H:Hp) (a:Addr) (ns:List Int) (hn:ns.length≤63) (ho:Only H) (hs:SqL K H a (ns.map V.int)):
  spM K 1 f [.ref a] H (fun v _=>v=.bl true) fun _ _ _=>False:=by
 obtain ⟨S,e⟩:=h ns hn
 have hfz:FzAt K ⟨[],[]⟩ H a (ns.map V.int):=by
  rcases hs with (hs | ⟨o,hs⟩) | hs
  ·rcases ho a with z | ⟨o,xs,z⟩
   ·rw [z] at hs; cases hs
   ·rw [z] at hs; cases hs
  ·exact .inl ⟨o,hs,(fun z=>nomatch z),(fun z=>nomatch z)⟩
  ·exact .inr hs
 have hints:∀ l:List Int,RDs K ⟨[],[]⟩ H (l.map D.int) (l.map V.int):=fun l=>by
  induction l with
  | nil=>exact .nil
  | cons i l ih=>exact .cons RD.mkI ih
 refine ⟨rfl,⟨[],[]⟩,[],[.fz (ns.map .int)],⟨List.nodup_nil,rfl,fun n o z=>?_,(fun a z=>nomatch z)⟩,.cons (by unfold RD; exact ⟨a,_,rfl,hfz,hints ns⟩) .nil,?_⟩
 ·simp at z
 ·rw [e]
  intro w' H' b x q s
  unfold RD at q
  exact q
end PD
namespace PD
open PySem L2
theorem oMul_i {S:Sto} {i j:Int} (h:smallI i ∨ smallI j):oMul S (.int i) (.int j)=some (.int (i * j)):=if_pos h
theorem oShl_i {S:Sto} {i:Nat} (h:i < 1000):oShl S (.int 1) (.int i)=some (.int (2 ^ i)):=by
 have:oShl S (.int 1) (.int i)=some (.int (1 * 2 ^ ((i:Int)).toNat)):=if_pos ⟨by omega,by omega,by decide⟩
 rw [this,Int.toNat_natCast,Int.one_mul]
theorem oPow_i {S:Sto} {i j:Int} (h:0≤j∧j≤1000000∧i.natAbs < 2 ^ 64):oPow S (.int i) (.int j)=some (.int (i ^ j.toNat)):=if_pos h
theorem oPow_10_12 {S:Sto}:oPow S (.int 10) (.int 12)=some (.int 1000000000000):=by
 rw [oPow_i ⟨by decide,by decide,by decide⟩]
 have e:(10:Int) ^ (12:Int).toNat=1000000000000:=by decide
 rw [e]
theorem atI_nat' {A:Type} {xs:List A} {i:Nat} (h:i < xs.length):atI xs (i:Int)=some xs[i]:=atI_nat (List.getElem?_eq_getElem h)
end PD
namespace PD
open PySem PyProof.Rows L2
noncomputable def Sh (nl:Bool) (d:D):Prop:=∃ p,toPy d=some p∧p.showable=true∧p.depth≤3∧p.shown.length≤64∧(if nl=true then noL d=true else p.hasDict=false)
theorem sh_int {nl:Bool} {i:Int} (h:i.natAbs < 10 ^ 30):Sh nl (.int i):=by
 refine ⟨.int i,rfl,?_,by show 0≤3; omega,?_,?_⟩
 ·unfold PyData.showable
  refine decide_eq_true ?_
  have:i.natAbs < 2 ^ 1920:=Nat.lt_trans h (by decide +kernel)
  rcases Nat.eq_zero_or_pos i.natAbs with z | z
  ·rw [z]; decide
  ·exact (Nat.log2_lt (by omega)).mpr this
 ·have e:=PySem.int_text_length_le10 (k:=30) (by decide) h
  show (Str.ofString (toString i)).length≤64
  rw [PySem.ofString_length]; omega
 ·cases nl <;> rfl
end PD
namespace L2
open PySem PySem.Spec PyProof.Rows
noncomputable def Fly (l:List Env) (H':Hp) (h hs:Heap) (ea:Addr) (cls:Value):Prop:=
 ∃ (B:Heap) (a0:Value),Heap.FlyingW B l ea cls a0 hs∧(∀ b o,h.get? b=some o→b ∉ frs l→∃ o',B.get? b=some o')∧(∀ b u,H' b=some u→∃ o',B.get? b=some o')∧hs.Zat ea
noncomputable def CX1 (P:Program) (w:World):CXT:=fun outer H s E e s'=>
 ∃ ea cls H',e=.ref ea∧s'.os=s.os∧AllBare s'.gens∧Un (frs outer) [] H H' s.heap s'.heap∧HOk P w H' s'.heap∧Fly outer H' s.heap s'.heap ea cls∧E cls none H'
section
variable {P:Program} {w:World} {fs:List Addr} {H H':Hp} {h h1 h2 B:Heap} {l:List Env}
end
section
variable {X:Cx} {pins:List (Addr × Obj)} {σ:St} {H:Hp} {s s':Shared} {E:XK} {e:Value}
end
end L2
namespace PD
open PySem PySem.Spec PyProof.Rows L2
section
variable {X:Cx} {E:XK}
end
section
variable {X:Cx} {E:XK} {x:Str} {a:Expr} {es:List Expr} {ms:AM} {np cpos pos:Pos}
end
section
variable {P:Program} {w:World} {K:PySem.W.Frag} {mg:Str→Option Value} {base:Heap} {N:List Str} {qual:Str} {scope:Scope} {f:Addr} {cdv:Value} {A:Around} {outer:List Env} {s:Shared} {H:Hp} {E:XK}
theorem passes_no {X:Cx}:Passes (CX1 X.prog X.w) X E0:=fun _ _ _ _ _ _ _ zq=>by obtain ⟨_,_,_,_,_,_,_,_,_,z⟩:=zq; exact z.elim
end
noncomputable def spN (K:PySem.W.Frag) (n:Nat) (f:FM):Sp:=fun vs H Q _=>vs.length=n∧∃ w S ds,RS K w H S∧RDs K w H ds vs∧Post K E0 (RD K) w H (f ds S) Q
structure DefN (P:Program) (w:World) (K:PySem.W.Frag) (mg:Str→Option Value) (base:Heap) (x:Str) (k n:Nat) (f:FM):Prop where
 ex:∃ (fa:Addr) (fd:FuncData) (ps:List Str),mg x=some (.ref fa)∧PySem.W.keepIn K (.ref fa)=true∧Binds K fd ps []∧FnOk P w K mg base (CX1 P w) k fa fd ps (spN K n f)
section
variable {X:Cx} {E:XK} {x:Str} {k n:Nat} {f:FM} {a:Expr} {es:List Expr} {ms:AM} {p pos:Pos}
theorem se_fnN (D:DefN X.prog X.w X.K X.mg X.base x k n f) (hr:Room k X.A) (hg:Gl X x) (ha:SA X E0 (a :: es) ms) (hn:ALen ms n) (hdb:autoParam ((x == ("__debug__":Str))=false) Au.h3._auto_1)
  (he:autoParam (starEach (a :: es) X.env=(false,eval a X.env) :: starEach es X.env) Au.h0._auto_1) (hpl:autoParam ((backTo pos (starEach es X.env)).any (·.1)=false) Au.h0._auto_1):
  SE X E0 (.Call (.Name x p) (a :: es) [] pos) (eCall f ms):=by
 obtain ⟨fa,fd,ps,hm,hk,hb,F⟩:=D.ex
 refine ⟨pe_weak (pe_call F hr hg hm hk hb (dvs:=[]) .nil passes_no ha.out hdb he hpl) fun s H Q zq=>?_⟩
 obtain ⟨w,r,S,hr,hS,hp⟩:=zq
 refine ⟨w,r,S,hr,hS,?_⟩
 have hp':Post X.K E0 (RD X.K) w H ((ms r S).bind fun xs S1=>f xs S1) Q:=hp
 cases e:ms r S with
 | bad=>rw [e] at hp'; exact hp'.elim
 | err y S'=>rw [e] at hp'; exact hp'
 | ok ds S'=>
  rw [e] at hp'
  intro w1 H1 vs x1 q1 s1
  rw [List.append_nil]
  exact ⟨by rw [q1.length]; exact hn r S ds S' e,w1,S',ds,s1,q1,Post.ext (r:=f ds S') hp' x1 hS s1⟩
end
section
variable {P:Program} {w:World} {K:PySem.W.Frag} {mg:Str→Option Value} {base:Heap}
theorem fn_okN {x qual:Str} {st:Stmt} {f:Addr} {fd:FuncData} {N ps:List Str} {k:Nat} {m:SM} (F:Fun K x qual st f fd) (S:FnScope N ps (defScope st))
  (hbody:∀ (cdv:Value) (A:Around) (outer:List Env) (s:Shared) (H:Hp) (E:XK),Room k (A.deeper (envOfC qual (defScope st) s.heap.objs.size f cdv))→
   SSs (cxOf (CX1 P w) P w K mg base N qual (defScope st) f cdv A outer s H E).nox E0 (defBody st) m):FnOk P w K mg base (CX1 P w) (k + 1) f fd ps (spN K ps.length (fnM N.length m)):=by
 obtain ⟨oc,od,kV,doc,pm,an,cdv,ct,osl,rfl,lk,hcd⟩:=F.ex
 refine fn_of lk hcd S (fun vs H Q E h=>h.1) fun A outer s H vs Q E hr h=>?_
 obtain ⟨hl,u,T,ds,hT,q,p⟩:=h
 refine ⟨_,(hbody cdv A outer s H E hr).out.nox,u,_,T,start_rel q,hT,?_⟩
 refine Post.bind (rel:=RF K) p hT fun g S1 w1 H1 fv x1 q1 s1 p1=>?_
 cases g with
 | nx r=>obtain ⟨s',rfl,_⟩:=q1; have z:=Post.ret (Q:=Q) (rel:=RD K) (a:=D.non) (b:=V.non) p1 (by unfold RD; rfl) s1; exact z
 | rt d=>obtain ⟨v,rfl,q2⟩:=q1; have z:=Post.ret (Q:=Q) (rel:=RD K) (a:=d) (b:=v) p1 q2 s1; exact z
 | bk r=>exact p1.elim
 | ct r=>exact p1.elim
theorem def_ofN {x:Str} {st:Stmt} {f:Addr} {fd:FuncData} {m:SM} (N ps:List Str) (k k1 n0 n1:Nat) (hk:k1=k + 1) (h0:n0=ps.length) (h1:n1=N.length) (F:Fun K x x st f fd) (hm:mg x=some (.ref f)) (hb:Binds K fd ps []) (S:FnScope N ps (defScope st))
  (hbody:∀ (cdv:Value) (A:Around) (outer:List Env) (s:Shared) (H:Hp) (E:XK),Room k (A.deeper (envOfC x (defScope st) s.heap.objs.size f cdv))→
   SSs (cxOf (CX1 P w) P w K mg base N x (defScope st) f cdv A outer s H E).nox E0 (defBody st) m):DefN P w K mg base x k1 n0 (fnM n1 m):=by
 subst hk h0 h1
 exact ⟨f,fd,ps,hm,F.kp,hb,fn_okN F S hbody⟩
theorem law_ofN {x:Str} {st:Stmt} {f:Addr} {fd:FuncData} {m:SM} (N ps:List Str) (k k1 n0 n1:Nat) (hk:k1=k + 1) (h0:n0=ps.length) (h1:n1=N.length) (F:Fun K x x st f fd) (S:FnScope N ps (defScope st))
  (hbody:∀ (cdv:Value) (A:Around) (outer:List Env) (s:Shared) (H:Hp) (E:XK),Room k (A.deeper (envOfC x (defScope st) s.heap.objs.size f cdv))→
   SSs (cxOf (CX1 P w) P w K mg base N x (defScope st) f cdv A outer s H E).nox E0 (defBody st) m):FnOk P w K mg base (CX1 P w) k1 f fd ps (spN K n0 (fnM n1 m)):=by
 subst hk h0 h1
 exact fn_okN F S hbody
end
end PD
namespace L2
open PySem PySem.Spec PyProof.Rows
section
variable {X:Cx} {pins:List (Addr × Obj)} {σ:St} {H:Hp} {s:Shared}
noncomputable abbrev Cx.with (X:Cx) (p:List (Addr × Obj)) (W:Value→Shared→Prop):Cx:={ X with pn:=p,xe:=W }
end
section
variable {X:Cx} {pins:List (Addr × Obj)} {σ:St} {H H':Hp} {s s':Shared} {B:Heap} {ea:Addr} {cls a0:Value} {h2:Heap}
end
end L2
namespace PD
open PySem PySem.Spec PyProof.Rows L2
section
variable {X:Cx} {E:XK}
end
end PD
namespace L2
open PySem PySem.Spec PyProof.Rows
section
variable {P:Program} {w:World} {K:PySem.W.Frag} {mg:Str→Option Value} {base:Heap}
end
section
variable {X:Cx} {k:Nat} {f:Addr} {fd:FuncData} {ps:List Str} {sp:Sp} {x:Str} {p pos:Pos} {e:Expr} {es:List Expr} {t:TA}
end
end L2
namespace PD
open PySem PySem.Spec PyProof.Rows L2
section
variable {X:Cx} {x:Str} {k n:Nat} {f:FM} {a:Expr} {es:List Expr} {ms:AM} {p pos:Pos}
end
section
variable {P:Program} {w:World} {K:PySem.W.Frag} {mg:Str→Option Value} {base:Heap}
end
end PD
namespace L2
open PySem PySem.Spec PyProof.Rows
section
variable {prog:Program} {w:World} {A:Around} {E:Value→Shared→Prop} {s:Shared} {K:PySem.W.Frag} {ea C:Addr} {ox:Obj} {od:Option Obj}
structure ExK (K:PySem.W.Frag) (C:Addr):Prop where
 ga:PySem.W.findIn K (.ref C) "__getattribute__" = some (some (.builtin "BaseException.__getattribute__"))
 gh:PySem.W.findIn K (.ref C) "__getattr__" = some none
 cl:PySem.W.findIn K (.ref C) "__class__" = some (some (.builtin "object.__class__"))
 bs:PySem.W.mroIn K C (.type "BaseException")=some true
 ob:PySem.W.mroIn K C (.type "object")=some true
 is:(PySem.W.clsIn K C).isSome=true
end
end L2
namespace PD
open PySem PySem.Spec PyProof.Rows L2
structure Cls (K:PySem.W.Frag) (cs ks:List Str) (isa:Str→Str→Bool):Prop where
 gt:PySem.W.specialIn K (.builtin "object.__class__") "__get__" = some (some (.builtin "getset_descriptor.__get__"))
 tk:PySem.W.takesIn K (.builtin "object.__class__")=some true
 ex:∀ c ∈ cs,∃ C,PySem.W.nsIn K mainGlobals c=some (some (.ref C))∧ExK K C∧PySem.W.kitOne K (.ref C) (.type "ValueError")=some true
 isa:∀ c ∈ cs,∀ k ∈ ks,∃ C D,PySem.W.nsIn K mainGlobals c=some (some C)∧PySem.W.nsIn K mainGlobals k=some (some D)∧PySem.W.kitOne K C D=some (isa c k)
section
variable {X:Cx} {E:XK} {cs ks:List Str} {isa:Str→Str→Bool}
end
end PD
namespace PD
open PySem PySem.Spec PyProof.Rows L2
section
variable {X:Cx} {E:XK}
noncomputable def intsOf:List D→Option (List Int)
 | []=>some []
 | .int b :: r=>(intsOf r).map (b :: ·)
 | _ :: _=>none
noncomputable def fSum:Sto→List D→Option D
 | S,[d]=>match seqOf S d with
  | some a=>(intsOf a).map fun ns=>.int ns.sum
  | none=>none
 | _,_=>none
theorem ints_len:∀ {ds:List D} {ns:List Int},intsOf ds=some ns→ns.length=ds.length
 | [],_,h=>by unfold intsOf at h; cases h; rfl
 | d :: ds,ns,h=>by
  cases d with
  | int i=>
   unfold intsOf at h
   cases e:intsOf ds with
   | none=>rw [e] at h; cases h
   | some cs=>rw [e] at h; cases h; simp [ints_len e]
  | _=>unfold intsOf at h; cases h
theorem ints_at {K:PySem.W.Frag} {w:Wd} {H:Hp}:∀ {ds:List D} {vs:List V} {us:List Value} {ns:List Int},RDs K w H ds vs→Vals vs us→intsOf ds=some ns→∀ (i:Nat) (v:Value),us[i]?=some v→∃ t,v=.int ((ns[i]?).getD 0) t
 | [],_,_,_,q,r,h,i,v,e=>by
  rw [q.nil_inv] at r
  cases r
  simp at e
 | d :: ds,_,_,ns,q,r,h,i,v,e=>by
  obtain ⟨y,vs,rfl,p,t⟩:=q.cons_inv
  cases d with
  | int b=>
   unfold intsOf at h
   cases e':intsOf ds with
   | none=>rw [e'] at h; cases h
   | some cs=>
    rw [e'] at h; cases h
    cases p.int
    cases r with
    | cons r1 r2=>
     cases i with
     | zero=>
      obtain ⟨t,rfl⟩:=r1
      simp at e
      exact ⟨t,by simp [e]⟩
     | succ i=>
      have z:=ints_at t r2 e' i v (by simpa using e)
      simpa using z
  | _=>unfold intsOf at h; cases h
theorem preSum_take (ns:List Int):∀ k,k≤ns.length→preSum (fun i=>(ns[i]?).getD 0) k=(ns.take k).sum
 | 0,_=>by simp [preSum]
 | k + 1,h=>by
  have hk:k < ns.length:=h
  show preSum _ k + (ns[k]?).getD 0=_
  rw [preSum_take ns k (Nat.le_of_lt hk),List.take_succ,List.sum_append,List.getElem?_eq_getElem hk]
  simp
theorem xc_sum (hc:X.calm=true):CallR X (.builtin "sum") (xC X.K E fSum):=by
 rintro pins s σ H xs us Q I r ⟨w,S,ds,hS,qs,p⟩
 obtain ⟨z,hz,p'⟩:=p.of
 clear p
 unfold fSum at hz
 split at hz
 ·rename_i d
  cases ea:seqOf S d with
  | none=>rw [ea] at hz; cases hz
  | some a=>
   rw [ea] at hz
   simp only at hz
   cases e:intsOf a with
   | none=>rw [e] at hz; cases hz
   | some ns=>
    rw [e] at hz; cases hz
    obtain ⟨v,rfl,q⟩:=qs.one_inv
    obtain ⟨pa,vs,rfl,sq,ra⟩:=seq_ok hS q ea
    obtain ⟨u,rfl,ru⟩:=vals1 r
    cases ru
    have hlen:=ints_len e
    have fin:∀ n,n=ns.length→preSum (fun i=>(ns[i]?).getD 0) n=ns.sum:=fun n hn=>by rw [hn,preSum_take ns _ (Nat.le_refl _),List.take_length]
    rcases sq with sq | sq
    ·obtain ⟨its,r1,⟨o,n,ho,hcl,hdn,hd⟩,_⟩:=I.list sq
     have hlt:pa < s.heap.objs.size:=Heap.lt_size ho
     have hl:s.heap.IsList pa its.toArray:=⟨o,ho,hcl,n,hd⟩
     refine call_sum_walkG (wpAny_pyIter_list hl ?_)
     refine ⟨s.heap.objs.size,[s.heap.objs.size,pa],[s.heap.objs.size],its.toArray.size,_,_,fun i=>(ns[i]?).getD 0,rfl,Walks.list (A:=X.A.in1) (I.ok.hd hc) _ pa (Nat.ne_of_lt hlt) its.toArray,
      ⟨⟨_,Heap.get?_push_size _ rfl,rfl,rfl⟩,hl.push _⟩,fun b hb=>?_,fun i v hP=>ints_at ra r1 e i v (by simpa using hP),fun h' tk t' hk=>?_⟩
     ·simp only [List.mem_cons,List.not_mem_nil,or_false] at hb
      rw [Heap.size_push]
      rcases hb with rfl | rfl
      ·exact Nat.lt_succ_self _
      ·exact Nat.lt_succ_of_lt hlt
     ·rw [fin _ (by rw [hlen,← ra.length,r1.length]; simp)]
      exact ⟨.int _,H,I.kept (LSm.kept_iter hk),⟨t',rfl⟩,p'.ret RD.mkI hS⟩
    ·obtain ⟨its,r1,⟨o,ho,hcl,n,hd⟩,_⟩:=I.tuple sq
     have hlt:pa < s.heap.objs.size:=Heap.lt_size ho
     have hl:s.heap.IsTuple pa its.toArray:=⟨o,ho,hcl,n,hd⟩
     refine call_sum_walkG (wpAny_pyIter_tuple hl ?_)
     refine ⟨s.heap.objs.size,[s.heap.objs.size,pa],[s.heap.objs.size],its.toArray.size,_,_,fun i=>(ns[i]?).getD 0,rfl,Walks.tuple (A:=X.A.in1) (I.ok.hd hc) _ pa (Nat.ne_of_lt hlt) its.toArray,
      ⟨⟨_,Heap.get?_push_size _ rfl,rfl,rfl⟩,hl.push _⟩,fun b hb=>?_,fun i v hP=>ints_at ra r1 e i v (by simpa using hP),fun h' tk t' hk=>?_⟩
     ·simp only [List.mem_cons,List.not_mem_nil,or_false] at hb
      rw [Heap.size_push]
      rcases hb with rfl | rfl
      ·exact Nat.lt_succ_self _
      ·exact Nat.lt_succ_of_lt hlt
     ·rw [fin _ (by rw [hlen,← ra.length,r1.length]; simp)]
      exact ⟨.int _,H,I.kept (LSm.kept_iter hk),⟨t',rfl⟩,p'.ret RD.mkI hS⟩
 ·cases hz
end
end PD
namespace PD
open PySem PySem.Spec PyProof.Rows L2
section
variable {X:Cx} {E:XK}
end
end PD
namespace PD
open PySem PySem.Spec PyProof.Rows L2
open Classical in
section
variable {X:Cx} {E:XK} {c:Expr} {body:List Stmt} {mt:TM} {m:SM} {pos:Pos}
end
end PD
namespace PD
open PySem PySem.Spec PyProof.Rows L2
section
variable {X:Cx} {E:XK}
noncomputable def eqP (a b:D):Option Bool:=match eqS a b with
 | some c=>some c
 | none=>match toPy a,toPy b with
  | some p,some q=>if SeqAt.shaped p=true∧SeqAt.shaped q=true then some (PyData.eqv p q) else none
  | _,_=>none
noncomputable def oEqP:Sto→D→D→Option D:=fun _ a b=>(eqP a b).map .bl
noncomputable def oNeP:Sto→D→D→Option D:=fun _ a b=>(eqP a b).map fun c=>.bl (!c)
theorem eqP_cases {a b:D} {c:Bool} (h:eqP a b=some c):eqS a b=some c ∨ ∃ p q,toPy a=some p∧toPy b=some q∧SeqAt.shaped p=true∧SeqAt.shaped q=true∧c=PyData.eqv p q:=by
 unfold eqP at h
 split at h
 ·rename_i c' e; cases h; exact .inl e
 ·split at h
  ·rename_i p q e1 e2
   split at h
   ·rename_i hs; cases h; exact .inr ⟨p,q,e1,e2,hs.1,hs.2,rfl⟩
   ·cases h
  ·cases h
theorem xo_eqP {k:Nat} (hr:Room k X.A):OpR X (compareOp .Eq) (xO X.K E oEqP):=by
 rintro pins s σ H x y v u Q I rx ry ⟨w,S,d,e,hS,qd,qe,p⟩
 obtain ⟨z,hz,p⟩:=p.of
 unfold oEqP at hz
 cases h:eqP d e with
 | none=>rw [h] at hz; cases hz
 | some c=>
  rw [h] at hz; cases hz
  rcases eqP_cases h with h | ⟨a,b,e1,e2,s1,s2,rfl⟩
  ·exact xo_eq pins s σ H x y v u Q I rx ry ⟨w,S,d,e,hS,qd,qe,by unfold oEq; rw [h]; exact p⟩
  ·obtain ⟨as,r1,_⟩:=reads_ok I d x v a qd rx e1
   obtain ⟨bs,r2,_⟩:=reads_ok I e y u b qe ry e2
   exact eq_dataH r1 r2 s1 s2 hr.units ⟨.bl _,H,I,rfl,p.ret RD.mkB hS⟩
theorem xo_neP {k:Nat} (hr:Room k X.A):OpR X (compareOp .NotEq) (xO X.K E oNeP):=by
 rintro pins s σ H x y v u Q I rx ry ⟨w,S,d,e,hS,qd,qe,p⟩
 obtain ⟨z,hz,p⟩:=p.of
 unfold oNeP at hz
 cases h:eqP d e with
 | none=>rw [h] at hz; cases hz
 | some c=>
  rw [h] at hz; cases hz
  rcases eqP_cases h with h | ⟨a,b,e1,e2,s1,s2,rfl⟩
  ·exact xo_ne pins s σ H x y v u Q I rx ry ⟨w,S,d,e,hS,qd,qe,by unfold oNe; rw [h]; exact p⟩
  ·obtain ⟨as,r1,_⟩:=reads_ok I d x v a qd rx e1
   obtain ⟨bs,r2,_⟩:=reads_ok I e y u b qe ry e2
   exact ne_dataH r1 r2 s1 s2 hr.units ⟨.bl _,H,I,rfl,p.ret RD.mkB hS⟩
end
end PD
namespace PD
open PySem PySem.Spec PyProof.Rows L2
theorem law_spN {f:FM} (h:∀ ns:List Int,ns.length≤63→∃ S,f [.fz (ns.map .int)] []=.ok (.bl true) S) (K:PySem.W.Frag) (H:Hp) (a:Addr) (ns:List Int) (hn:ns.length≤63) (ho:Only H) (hs:SqL K H a (ns.map V.int)):
  spN K 1 f [.ref a] H (fun v _=>v=.bl true) fun _ _ _=>False:=law_sp h K H a ns hn ho hs
theorem cx1_no {P:Program} {w:World} {l:List Env} {H:Hp} {s s':Shared} {e:Value} (h:CX1 P w l H s (fun _ _ _=>False) e s'):False:=by
 obtain ⟨_,_,_,_,_,_,_,_,_,z⟩:=h
 exact z
end PD
namespace SQ
open PySem PySem.Spec PyProof.Rows
open Sem (wp)
noncomputable def nm:Bool→String
 | true=>"tuple_iterator"
 | false=>"list_iterator"
noncomputable def Is:Bool→Heap→Addr→Array Value→Prop
 | true,h,a,xs=>h.IsTuple a xs
 | false,h,a,xs=>h.IsList a xs
noncomputable def It (k:Bool) (h:Heap) (it a:Addr) (i:Nat):Prop:=∃ o,h.get? it=some o∧o.cls=.type (nm k)∧o.data=.fields #[.ref a,.int i 0]
section
variable {prog:Program} {w:World} {A:Around} {E:Value→Shared→Prop} {s:Shared}
theorem sb {t b:Addr} {h h':Heap} {o:Obj} (hs:Heap.SameBut t h h') (n:b ≠ t) (e:h.get? b=some o):h'.get? b=some o:=(hs.2 b n).trans e
end
noncomputable abbrev z1 (k:Bool) (h:Heap) (l1:Addr):Heap:=h.push { cls:=.type (nm k),data:=.fields #[.ref l1,.int 0 0] }
noncomputable abbrev z2 (k m:Bool) (h:Heap) (l1 l2:Addr):Heap:=(z1 k h l1).push { cls:=.type (nm m),data:=.fields #[.ref l2,.int 0 0] }
noncomputable abbrev z3 (k m:Bool) (h:Heap) (l1 l2:Addr):Heap:=(z2 k m h l1 l2).push { cls:=.type "tuple",data:=.seq #[.ref h.objs.size,.ref (z1 k h l1).objs.size] }
section
variable {prog:Program} {w:World} {A:Around} {E:Value→Shared→Prop} {s:Shared}
end
section
variable {prog:Program} {w:World} {A:Around} {E:Value→Shared→Prop} {s:Shared}
end
end SQ
namespace L2
open PySem PySem.Spec PyProof.Rows
section
variable {X:Cx} {pins:List (Addr × Obj)} {σ:St} {H:Hp} {s:Shared} {h':Heap}
theorem Inv.turnedS {t':Nat} {fp:List Addr} (I:Inv X pins σ H s) (k:∀ b o,b ∉ fp→s.heap.get? b=some o→h'.get? b=some o) (hf:∀ b ∈ fp,FpOk X pins H b):Inv X pins σ H { s with heap:=h',toks:=t' }:=by
 refine I.step (g':=s.gens) (d':=s.drawn) (ch:=fp) (fun b hb=>?_) (fun b o _ _ hc e _=>k b o hc e) (fun b o _ _ hc e _=>⟨o.slots,k b o hc e⟩) (fun _ _ _ _ n=>n)
  (fun b o hc e=>⟨o,k b o hc e⟩) (fun _ _ e=>e) (fun _ _ _ e=>e) (fun b ps e=>⟨#[],by rw [e]; simp⟩) (fun m hm=>?_) (fun b u e=>?_) I.bare
 ·obtain ⟨f0,f1,f2,f3,f4,f5⟩:=hf b hb; exact ⟨f3,f1,f4,f5⟩
 ·obtain ⟨o,es,ep,ho,r⟩:=hm
  exact ⟨o,es,ep,k _ o (fun z=>(hf _ z).2.1 rfl) ho,r⟩
 ·refine (I.hok b u e).stay (fun c v hc q=>k c v (fun z=>?_) q) (fun _ q=>q) fun _ _ q=>q
  have hn:=(hf c z).1
  rcases hc with y | y
  ·rw [y,e] at hn; cases hn
  ·rw [y] at hn; cases hn
theorem Inv.turnedP {t':Nat} {fp:List Addr} {x y:V} {u v:Value} (I:Inv X pins σ H s) (hf:∀ b ∈ fp,FpOk X pins H b) (hlt:∀ b ∈ fp,b < s.heap.objs.size) (rx:RelV x u) (ry:RelV y v)
  (k:∀ b o,b ∉ fp→s.heap.get? b=some o→h'.get? b=some o) (hp:IsPair h' s.heap.objs.size u v):Inv X pins σ (upd H s.heap.objs.size (.tup [x,y])) { s with heap:=h',toks:=t' }:=by
 have I1:Inv X pins σ (upd H s.heap.objs.size (.tup [x,y])) { s with heap:=s.heap.push { cls:=.type "tuple",data:=.seq #[u,v] },toks:=t' }:=
  I.laid (t':=t') (fun b u e=>Heap.get?_push_of_some _ e) (Nat.le_refl _) ⟨by show 2≤sizeLine; decide,[u,v],.cons rx (.cons ry .nil),⟨_,Heap.get?_push_size _ rfl,rfl,_,rfl⟩⟩
 refine Inv.turnedS (s:={ s with heap:=s.heap.push { cls:=.type "tuple",data:=.seq #[u,v] },toks:=t' }) (fp:=fp) (t':=t') (h':=h') I1 (fun b o hb e=>?_) fun b hb=>?_
 ·rcases Heap.get?_push_cases e with ⟨rfl,rfl⟩ | e
  ·exact hp
  ·exact k b o hb e
 ·obtain ⟨f0,f1⟩:=hf b hb
  exact ⟨by rw [upd_ne (Nat.ne_of_lt (hlt b hb))]; exact f0,f1⟩
theorem fp_none {fp:List Addr} (hf:∀ b ∈ fp,FpOk X pins H b) (hlt:∀ b ∈ fp,b < s.heap.objs.size) {o:HO}:∀ b ∈ fp,upd H s.heap.objs.size o b=none:=fun b hb=>by
 rw [upd_ne (Nat.ne_of_lt (hlt b hb))]; exact (hf b hb).1
end
end L2
namespace L2
open PySem PySem.Spec PyProof.Rows
section
variable {X:Cx} {es:List Expr} {n:Nat} {tp:Pos}
end
end L2
namespace PD
open PySem PySem.Spec PyProof.Rows L2
section
variable {X:Cx} {E:XK} {a b:Expr} {pos:Pos}
end
end PD
namespace PD
open PySem PySem.Spec PyProof.Rows L2
noncomputable def insZ (x:Int):List Int→List Int
 | []=>[x]
 | y :: r=>if x≤y then x :: y :: r else y :: insZ x r
noncomputable def sortZ:List Int→List Int
 | []=>[]
 | x :: r=>insZ x (sortZ r)
theorem insZ_perm (x:Int):∀ l:List Int,(insZ x l).Perm (x :: l)
 | []=>.refl _
 | y :: r=>by
  unfold insZ
  split
  ·exact .refl _
  ·exact ((insZ_perm x r).cons y).trans (.swap x y r)
theorem sortZ_perm:∀ l:List Int,(sortZ l).Perm l
 | []=>.refl _
 | x :: r=>(insZ_perm x _).trans ((sortZ_perm r).cons x)
theorem insZ_sorted (x:Int):∀ l:List Int,l.Pairwise (· ≤ ·)→(insZ x l).Pairwise (· ≤ ·)
 | [],_=>List.pairwise_singleton _ _
 | y :: r,h=>by
  obtain ⟨h1,h2⟩:=List.pairwise_cons.mp h
  unfold insZ
  split
  ·rename_i hxy
   exact List.pairwise_cons.mpr ⟨fun z hz=>by
    rcases List.mem_cons.mp hz with rfl | hz
    ·exact hxy
    ·exact Int.le_trans hxy (h1 z hz),h⟩
  ·rename_i hxy
   exact List.pairwise_cons.mpr ⟨fun z hz=>by
    rcases List.mem_cons.mp ((insZ_perm x r).mem_iff.mp hz) with rfl | hz
    ·omega
    ·exact h1 z hz,insZ_sorted x r h2⟩
theorem sortZ_sorted:∀ l:List Int,(sortZ l).Pairwise (· ≤ ·)
 | []=>.nil
 | x :: r=>insZ_sorted x _ (sortZ_sorted r)
theorem sorted_uniq:∀ {a b:List Int},a.Perm b→a.Pairwise (· ≤ ·)→b.Pairwise (· ≤ ·)→a=b
 | [],b,p,_,_=>p.nil_eq
 | x :: r,[],p,_,_=>absurd p.length_eq (by simp)
 | x :: r,y :: t,p,h1,h2=>by
  obtain ⟨a1,a2⟩:=List.pairwise_cons.mp h1
  obtain ⟨b1,b2⟩:=List.pairwise_cons.mp h2
  have e:x=y:=by
   have hx:x ∈ y :: t:=p.mem_iff.mp (.head _)
   have hy:y ∈ x :: r:=p.mem_iff.mpr (.head _)
   rcases List.mem_cons.mp hx with h | h
   ·exact h
   ·rcases List.mem_cons.mp hy with h' | h'
    ·exact h'.symm
    ·exact Int.le_antisymm (a1 y h') (b1 x h)
  subst e
  rw [sorted_uniq (List.Perm.cons_inv p) a2 b2]
end PD
namespace SQ
open PySem PySem.Spec PyProof.Rows
section
variable {prog:Program} {w:World} {A:Around} {E:Value→Shared→Prop} {s:Shared}
theorem collect_tup {l:Addr} {vs:List Value} {Q:List Value→Shared→Prop} (hl:s.heap.IsTuple l vs.toArray)
  (h:Q vs { s with heap:=(s.heap.push (seqObj "list" #[] 0)).update s.heap.objs.size (Obj.mapSeq (· ++ vs.toArray)) }) (hsz:vs.length≤sizeLine):wpAny (model prog w) A (collect (.ref l)) Q E s:=by
 obtain ⟨o,ho,hc,n,hd⟩:=id hl; unfold collect; refine wpAny_bind (wpAny_runValue (codeAny_builtin entry_proto_collect' ?_))
 show wpAny _ _ (do again (.builtin "list.__iadd__" ⟨[← newList [],.ref l],[]⟩)) _ _ s; refine wpAny_bind (wpAny_newList (wpAny_pure ⟨Code.quiet_builtin _ (by decide +kernel),codeAny_builtin entry_list_iadd' ?_⟩))
 show wpAny _ _ (Builtin.List.listExtendWith (.ref s.heap.objs.size) (.ref l) (.ref s.heap.objs.size)) _ _ { s with heap:=s.heap.push (seqObj "list" #[] 0) }; unfold Builtin.List.listExtendWith
 have ho':(s.heap.push (seqObj "list" #[] 0)).get? l=some o:=Heap.get?_push_of_some _ ho
 refine wpAny_bind (wpAny_typeOf (T:="tuple") ⟨o,ho',hc⟩ ?_)
 have ht:(Value.type "tuple" == Value.type "tuple")=true:=by rfl
 rw [if_pos (by rw [ht]; simp)]; refine wpAny_bind (listItems_at ho' hd ?_); refine wpAny_bind (listItems_at (xs:=#[]) (n:=0) (Heap.get?_push_size _ rfl) rfl ?_); rw [if_neg (by simp)]
 refine wpAny_bind (listUpdate_at (xs:=#[]) (n:=0) (Heap.get?_push_size _ rfl) rfl ?_ (Nat.zero_le _) (by show (#[] ++ vs.toArray).size≤sizeLine + 1; simp only [Array.size_append,List.size_toArray,List.length_nil]; omega)); refine wpAny_pure ?_
 show wpAny (model prog w) A (do
   let o ← load s.heap.objs.size
   match o.data with
   | .seq xs _=>pure xs.toList
   | _=>unsupported "internal:collect") Q E { s with heap:=(s.heap.push (seqObj "list" #[] 0)).update s.heap.objs.size (Obj.mapSeq (· ++ vs.toArray)) }
 refine wpAny_bind (wpAny_load (get?_update_seq (Heap.get?_push_size _ rfl) _) ?_); show wpAny _ _ (pure ((#[]:Array Value) ++ vs.toArray).toList) Q E _
 rw [show ((#[]:Array Value) ++ vs.toArray).toList=vs by simp]; exact wpAny_pure h
theorem collects {k:Bool} {l:Addr} {vs:List Value} {Q:List Value→Shared→Prop} (hl:Is k s.heap l vs.toArray)
  (h:Q vs { s with heap:=(s.heap.push (seqObj "list" #[] 0)).update s.heap.objs.size (Obj.mapSeq (· ++ vs.toArray)) }) (hsz:vs.length≤sizeLine):wpAny (model prog w) A (collect (.ref l)) Q E s:=by
 cases k with
 | true=>exact collect_tup hl h hsz
 | false=>exact collect_list hl h hsz
end
end SQ
namespace PD
open PySem PySem.Spec PyProof.Rows L2
section
variable {X:Cx} {E:XK}
theorem ints_are {K:PySem.W.Frag} {w:Wd} {H:Hp}:∀ {ds:List D} {vs:List V} {us:List Value} {ns:List Int},RDs K w H ds vs→Vals vs us→intsOf ds=some ns→IntsAre us ns
 | [],_,_,_,q,r,h=>by
  rw [q.nil_inv] at r
  cases r
  unfold intsOf at h
  cases h
  exact .nil
 | d :: ds,_,_,ns,q,r,h=>by
  obtain ⟨y,vs,rfl,p,t⟩:=q.cons_inv
  cases d with
  | int b=>
   unfold intsOf at h
   cases e':intsOf ds with
   | none=>rw [e'] at h; cases h
   | some cs=>
    rw [e'] at h; cases h
    cases p.int
    cases r with
    | cons r1 r2=>
     obtain ⟨t',rfl⟩:=r1
     exact .cons _ _ (ints_are t r2 e')
  | _=>unfold intsOf at h; cases h
theorem vals_of:∀ {us:List Value} {ns:List Int},IntsAre us ns→Vals (ns.map .int) us
 | _,_,.nil=>.nil
 | _,_,.cons _ _ h=>.cons ⟨_,rfl⟩ (vals_of h)
theorem rds_ints {K:PySem.W.Frag} {w:Wd} {H:Hp}:∀ ns:List Int,RDs K w H (ns.map .int) (ns.map .int)
 | []=>.nil
 | n :: ns=>.cons (by unfold RD; rfl) (rds_ints ns)
noncomputable def oIsN (neg:Bool):Sto→D→D→Option D:=fun _ a b=>match b with
 | .non=>match a with
  | .non=>some (.bl (!neg))
  | .int _=>some (.bl neg)
  | .bl _=>some (.bl neg)
  | .str _=>some (.bl neg)
  | .tup _=>some (.bl neg)
  | .lst _=>some (.bl neg)
  | .ref _=>some (.bl neg)
  | .dic _=>some (.bl neg)
  | _=>none
 | _=>none
theorem oIsN_cases {neg:Bool} {S:Sto} {a b z:D} (h:oIsN neg S a b=some z):b=.non∧((a=.non∧z=.bl (!neg)) ∨ (z=.bl neg∧∀ (K:PySem.W.Frag) (w:Wd) (H:Hp) (v:V),RD K w H a v→v ≠ .non)):=by
 cases b <;> first | (cases h; done) | skip
 refine ⟨rfl,?_⟩
 cases a with
 | non=>cases h; exact .inl ⟨rfl,rfl⟩
 | int i=>cases h; exact .inr ⟨rfl,fun K w H v q z=>by cases q.int; cases z⟩
 | bl i=>cases h; exact .inr ⟨rfl,fun K w H v q z=>by cases q.bl; cases z⟩
 | str i=>cases h; exact .inr ⟨rfl,fun K w H v q z=>by cases q.str; cases z⟩
 | tup i=>cases h; exact .inr ⟨rfl,fun K w H v q z=>by obtain ⟨p,vs,e,_⟩:=q.tupI; rw [e] at z; cases z⟩
 | lst i=>cases h; exact .inr ⟨rfl,fun K w H v q z=>by obtain ⟨p,vs,e,_⟩:=q.lstI; rw [e] at z; cases z⟩
 | ref i=>cases h; exact .inr ⟨rfl,fun K w H v q z=>by obtain ⟨p,e,_⟩:=q.refI; rw [e] at z; cases z⟩
 | dic i=>cases h; exact .inr ⟨rfl,fun K w H v q z=>by unfold RD at q; obtain ⟨p,vs,e,_⟩:=q; rw [e] at z; cases z⟩
 | _=>cases h
theorem plain_non {v:Value} (hb:∀ id,v ≠ .builtin id):plainIs v .none=true:=by
 cases v <;> first | rfl | (exact absurd rfl (hb _))
theorem relv_nb {x:V} {v:Value} (r:RelV x v):∀ id,v ≠ .builtin id:=by
 intro id e
 subst e
 cases x <;> first | (cases r; done) | (obtain ⟨_,e⟩:=r; cases e; done) | skip
theorem relv_none {x:V} {v:Value} (r:RelV x v) (h:x ≠ .non):v ≠ .none:=by
 intro e
 subst e
 cases x <;> first | (exact h rfl) | (cases r; done) | (obtain ⟨_,e⟩:=r; cases e; done) | skip
theorem xo_isnot:OpR X (compareOp .IsNot) (xO X.K E (oIsN true)):=by
 rintro pins s σ H x y v u Q I rx ry ⟨w,S,d,e,hS,qd,qe,p⟩
 obtain ⟨z,hz,p⟩:=p.of
 obtain ⟨rfl,h⟩:=oIsN_cases hz
 have ey:y=.non:=by unfold RD at qe; exact qe
 subst ey
 cases ry
 rcases h with ⟨rfl,rfl⟩ | ⟨rfl,h⟩
 ·have ex:x=.non:=by unfold RD at qd; exact qd
  subst ex
  cases rx
  exact wpAny_isNot_self rfl ⟨.bl false,H,I,rfl,p.ret RD.mkB hS⟩
 ·have hx:=h _ _ _ _ qd
  exact wpAny_isNot_other (plain_non (relv_nb rx)) (relv_none rx hx) ⟨.bl true,H,I,rfl,p.ret RD.mkB hS⟩
end
end PD
namespace PD
open PySem PySem.Spec PyProof.Rows L2
section
variable {X:Cx} {E:XK} {a b:Expr} {es:List Expr} {ms:AM} {x:Str} {p pos:Pos}
noncomputable def toPyS (S:Sto) (d:D):Option PyData:=match d with
 | .ref n=>match S[n]? with
  | some (.lst xs)=>(toPys xs).map .list
  | _=>none
 | d=>toPy d
theorem reads_okS {pins:List (Addr × Obj)} {σ:L2.St} {H:Hp} {s:Shared} {w:Wd} {S:Sto} (I:Inv X pins σ H s) (hS:RS X.K w H S) {d:D} {v:V} {u:Value} {p:PyData} (q:RD X.K w H d v) (r:RelV v u) (h:toPyS S d=some p):∃ as,Reads s.heap u p as:=by
 unfold toPyS at h
 split at h
 ·rename_i n
  split at h
  ·rename_i xs hn
   obtain ⟨pp,rfl,hp⟩:=q.refI
   obtain ⟨p',hp',vs,hv,ra⟩:=hS.obj _ _ hn
   rw [hp] at hp'; cases hp'
   cases (show u=Value.ref pp from r)
   cases e:toPys xs with
   | none=>rw [e] at h; cases h
   | some ps=>
    rw [e] at h; cases h
    obtain ⟨its,r1,⟨o,n,ho,hc,_,hd⟩,_⟩:=I.list (SqL.of hv)
    obtain ⟨as,ra,hn⟩:=readss_ok I xs vs its ps ra r1 e
    exact ⟨pp :: as,.list ho hc hd ra⟩
  ·cases h
 ·obtain ⟨as,ra,_⟩:=reads_ok I _ _ _ _ q r h
  exact ⟨as,ra⟩
end
end PD
namespace PD
open PySem PySem.Spec PyProof.Rows L2
section
variable {M:Model} {A:Around} {E:Value→Shared→Prop} {s:Shared}
end
section
variable {X:Cx} {pins:List (Addr × Obj)} {σ:L2.St} {H:Hp} {s:Shared}
end
end PD
namespace PD
open PySem PySem.Spec PyProof.Rows L2
end PD
namespace PD
open PySem PySem.Spec PyProof.Rows L2
noncomputable def dicOf (S:Sto):D→Option (List (KD × D))
 | .dic kvs=>some kvs
 | .ref n=>match S[n]? with
  | some (.dic kvs)=>some kvs
  | some (.fdic kvs)=>some kvs
  | _=>none
 | _=>none
noncomputable def getK (kvs:List (KD × D)) (k:KD):Option D:=(kvs.find? fun kv=>decide (kv.1=k)).map (·.2)
section
variable {K:PySem.W.Frag} {w:Wd} {H:Hp} {S:Sto}
theorem dic_at {d:D} {v:V} {kvs:List (KD × D)} (hS:RS K w H S) (q:RD K w H d v) (h:dicOf S d=some kvs):∃ p us,v=.ref p∧Rd H p (.dK us)∧RDk K w H kvs us:=by
 unfold dicOf at h
 split at h
 ·cases h
  unfold RD at q
  obtain ⟨p,us,rfl,z,r⟩:=q
  exact ⟨p,us,rfl,.inl z.1,r⟩
 ·rename_i n
  obtain ⟨p,rfl,hp⟩:=q.refI
  split at h
  ·rename_i e; cases h
   obtain ⟨p',hp',us,hv,r⟩:=hS.obj _ _ e
   rw [hp] at hp'; cases hp'
   exact ⟨p,us,rfl,.inl hv,r⟩
  ·rename_i e; cases h
   obtain ⟨p',hp',o,us,hv,r⟩:=hS.obj _ _ e
   rw [hp] at hp'; cases hp'
   exact ⟨p,us,rfl,.inr ⟨o,hv⟩,r⟩
  ·cases h
 ·cases h
theorem RDk.get (k:KD):∀ {ds:List (KD × D)} {us:List (Key × V)},RDk K w H ds us→(∀ d,getK ds k=some d→∃ v,valV us k=some v∧RD K w H d v)∧(getK ds k=none→valV us k=none)
 | [],us,q=>by
  rw [q.nil_inv]
  exact ⟨fun d h=>(by cases h),fun _=>rfl⟩
 | (j,d) :: ds,_,q=>by
  obtain ⟨v,r,rfl,p,t⟩:=q.cons_inv
  by_cases hj:j=k
  ·have e1:getK ((j,d) :: ds) k=some d:=by unfold getK; rw [List.find?_cons]; simp [hj]
   have e2:valV ((j,v) :: r) k=some v:=by unfold valV; rw [List.find?_cons]; simp [hj]
   rw [e1,e2]
   exact ⟨fun d' h=>by cases h; exact ⟨v,rfl,p⟩,fun h=>by cases h⟩
  ·have e1:getK ((j,d) :: ds) k=getK ds k:=by unfold getK; rw [List.find?_cons]; simp [hj]
   have e2:valV ((j,v) :: r) k=valV r k:=by unfold valV; rw [List.find?_cons]; simp [hj]
   rw [e1,e2]
   exact RDk.get k t
end
section
variable {X:Cx} {E:XK}
theorem Room.hu {k:Nat} {A:Around} (r:Room k A):A.units + 1 < cLine:=by have:=r.un; omega
noncomputable def fPutK:Sto→D→D→D→Option Sto
 | S,.ref n,y,v=>match S[n]? with
  | some (.dic kvs)=>match keyD y with
   | some k=>if kvs.length < sizeLine then some (S.set n (.dic (putD kvs k v))) else none
   | none=>none
  | _=>none
 | _,_,_,_=>none
noncomputable def isDic (S:Sto):D→Bool
 | .ref n=>match S[n]? with
  | some (.dic _)=>true
  | _=>false
 | _=>false
noncomputable def fPutD:Sto→D→D→D→Option Sto:=fun S x y v=>if isDic S x then fPutK S x y v else fPut S x y v
theorem xs_putK {k:Nat} (hr:Room k X.A):PSet X (xS X.K fPutK):=by
 rintro pins s σ H o i v ov iv u Q I ro ri ru ⟨w,S,x,y,z,S',hS,qx,qy,qz,hf,kk⟩
 unfold fPutK at hf
 split at hf
 ·rename_i n
  split at hf
  ·rename_i kvs hn
   split at hf
   ·rename_i ky hk
    split at hf
    ·rename_i hl
     cases hf
     obtain ⟨pp,rfl,hp⟩:=qx.refI
     cases ro
     obtain ⟨p',hp',us,hv,rk⟩:=hS.obj _ _ hn
     rw [hp] at hp'; cases hp'
     have ey:=keyD_ok qy hk
     subst ey
     have hm:pp ∈ w.st:=List.mem_of_getElem? hp
     have hul:us.length < sizeLine:=by rw [rk.length]; exact hl
     refine d_setItem (Room.hu hr) I (DPut.k hv hul) ri ru fun s' I'=>⟨_,I',kk w _ (Ext.mut hm hv) (hS.mut hp hv ⟨_,upd_same,?_⟩)⟩
     exact RDk.ext (Ext.mut hm hv) _ _ (rk.put ky qz)
    ·cases hf
   ·cases hf
  ·cases hf
 ·cases hf
theorem xs_or {f f1 f2:Sto→D→D→D→Option Sto} (h1:PSet X (xS X.K f1)) (h2:PSet X (xS X.K f2)) (h:∀ S x y v,f S x y v=f1 S x y v ∨ f S x y v=f2 S x y v):PSet X (xS X.K f):=by
 rintro pins s σ H o i v ov iv u Q I ro ri ru ⟨w,S,x,y,z,S',hS,qx,qy,qz,hf,kk⟩
 rcases h S x y z with e | e
 ·exact h1 pins s σ H o i v ov iv u Q I ro ri ru ⟨w,S,x,y,z,S',hS,qx,qy,qz,e ▸ hf,kk⟩
 ·exact h2 pins s σ H o i v ov iv u Q I ro ri ru ⟨w,S,x,y,z,S',hS,qx,qy,qz,e ▸ hf,kk⟩
theorem xs_putD {k:Nat} (hr:Room k X.A):PSet X (xS X.K fPutD):=xs_or (xs_putK hr) xs_put fun S x y v=>by
 unfold fPutD
 cases isDic S x with
 | true=>exact .inl rfl
 | false=>exact .inr rfl
noncomputable def eGet2 (o a b:EM):EM:=fun r S=>(o r S).bind fun d S1=>if (dicOf S1 d).isSome=true then (a r S1).bind fun y S2=>(b r S2).bind fun z S3=>(match dicOf S3 d,keyD y with
  | some kvs,some k=>R.ok ((getK kvs k).getD z) S3
  | _,_=>R.bad) else R.bad
theorem m2_mk {o e f:Expr} {m:Str} {apos cpos:Pos} (h1:attributeBase o m X.env (eval o X.env)=eval o X.env) (h2:((backTo cpos (starEach [e,f] X.env)).all (fun x=>!x.1) && (backToKw cpos (keywordEach [] X.env)).all (fun x=>x.1.isSome)
  && decide (([e,f]:List Expr).length + ([]:List Keyword).length + (if ([]:List Keyword).isEmpty then 0 else 1) < 30))=true) (h3:(apos.endLine == cpos.line)=true) (h4:backTo cpos (starEach [e,f] X.env)=[(false,eval e X.env),(false,eval f X.env)]):M2 X o m apos e f cpos:=⟨h1,h2,h3,h4⟩
theorem se_get2 {o e f:Expr} {mo ma mb:EM} {apos cpos:Pos} {k:Nat} (hr:Room k X.A) (ho:SE X E o mo) (ha:SE X E e ma) (hb:SE X E f mb) (m:M2 X o "get" apos e f cpos):SE X E (.Call (.Attribute o "get" apos) [e,f] [] cpos) (eGet2 mo ma mb):=⟨
 pe_weak (pe_dget2 (Room.hu hr) ho.out ha.out hb.out m) fun s H Q zq=>ex6 zq fun w r S hrr hS hp=>⟨w,r,S,hrr,hS,hp.bind hS fun d S1 w1 H1 v x1 q1 s1 p1=>by
  cases hd:dicOf S1 d with
  | none=>rw [hd] at p1; exact p1.elim
  | some kvs=>
   rw [hd] at p1
   obtain ⟨pp,us,rfl,rd,rk⟩:=dic_at s1 q1 hd
   refine ⟨pp,rfl,.inl ⟨us,rd⟩,w1,r,S1,hrr.ext x1,s1,Post.bind (rel:=RD X.K) p1 s1 fun y S2 w2 H2 vy x2 q2 s2 p2=>⟨w2,r,S2,(hrr.ext x1).ext x2,s2,Post.bind (rel:=RD X.K) p2 s2 fun z S3 w3 H3 vz x3 q3 s3 p3=>?_⟩⟩
   have q1':=RD.ext x3 _ _ (RD.ext x2 _ _ q1)
   have q2':=RD.ext x3 _ _ q2
   cases hd3:dicOf S3 d with
   | none=>rw [hd3] at p3; exact p3.elim
   | some kvs3=>
    cases hk:keyD y with
    | none=>rw [hd3,hk] at p3; exact p3.elim
    | some ky=>
     rw [hd3,hk] at p3
     obtain ⟨pp3,us3,e3,rd3,rk3⟩:=dic_at s3 q1' hd3
     cases e3
     have ey:=keyD_ok q2' hk
     subst ey
     refine ⟨valV us3 ky,.inl ⟨us3,ky,rd3,rfl,rfl⟩,?_⟩
     obtain ⟨g1,g2⟩:=rk3.get ky
     have p4:Post X.K E (RD X.K) w3 H3 (R.ok ((getK kvs3 ky).getD z) S3) Q:=p3
     cases hg:getK kvs3 ky with
     | none=>rw [hg] at p4; rw [g2 hg]; exact Post.ret p4 q3 s3
     | some dd=>rw [hg] at p4; obtain ⟨vd,hv,rv⟩:=g1 dd hg; rw [hv]; exact Post.ret p4 rv s3⟩⟩
end
end PD
namespace L2
open PySem PySem.Spec PyProof.Rows
theorem kV_of_is {P:Program} {w:World} {k:Key} {u:Value} (h:(mixKind P w).is k u=true):RelV (kV k) u:=by
 rw [mixKind_is] at h
 cases k with
 | inl i=>obtain ⟨t,e⟩:=Value.isInt_shape (k:=i) (v:=u) h; exact ⟨t,e⟩
 | inr x=>obtain ⟨t,e⟩:=Value.isStrOf_shape (x:=x) (v:=u) h; exact ⟨t,e⟩
theorem KV.getI {kvs:List (Key × V)} {vs:List (Key × Value)} (r:KV kvs vs) {i:Nat} {k:Key} {x:V} (h:kvs[i]?=some (k,x)):∃ v,vs[i]?=some (k,v)∧RelV x v:=by
 unfold KV at r
 induction r generalizing i with
 | nil=>simp at h
 | cons hd tl ih=>
  cases i with
  | zero=>
   simp at h
   rename_i p q _ _
   obtain ⟨e,rv⟩:=hd
   subst h
   exact ⟨q.2,by simp; exact Prod.ext e.symm rfl,rv⟩
  | succ i=>simpa using ih (by simpa using h)
noncomputable def Iti (a:Addr) (o:Obj) (us:List (Key × V)):It:=
  ⟨fun i H=>H a=some (.frz o (.dK us))∧∃ kv,us[i]?=some kv,
   fun i H v H'=>∃ p k x,v=.ref p∧H p=none∧H'=upd H p (.tup [kV k,x])∧us[i]?=some (k,x),
   fun i H=>H a=some (.frz o (.dK us))∧us.length≤i⟩
theorem frz_at {X:Cx} {pins:List (Addr × Obj)} {σ:St} {H:Hp} {s:Shared} {a:Addr} {o:Obj} {us:List (Key × V)} {es:Array DictEntry} {ep:Nat} (I:Inv X pins σ H s) (h:H a=some (.frz o (.dK us))) (ed:o.data=.dict es ep):
  ∃ vs,KV us vs∧s.heap.DictAt (mixKind X.prog X.w) a vs ep∧(a == sysModules)=false:=by
 obtain ⟨e,z,hd,vs,rel,⟨o',es',ep',ho,hx,hdat,k1,k2,k3⟩⟩:s.heap.get? a=some o∧ObjOk X.prog X.w H s.heap a (.dK us):=I.hok a _ h
 rw [e] at ho; cases ho
 rw [ed] at hdat; cases hdat
 exact ⟨vs,rel,⟨o,es,e,hx,ed,k1,k2,k3⟩,hd⟩
theorem entry_itemit:entryFor table "dict_itemiterator.__iter__" = some Builtin.«dict_keyiterator.__iter__»:=
 entryFor_alias (id':="dict_keyiterator.__iter__") (by kernel_rfl) (by first | rfl | decide +kernel | (unfold String.splitOn; simp +decide [String.splitOnAux])) (by decide +kernel) (by kernel_rfl)
theorem iter_itemit {prog:Program} {w:World} {A:Around} {E:Value→Shared→Prop} {s:Shared} {it d:Addr} {i n ep:Nat} {ok ov:Value} {Q:Value→Shared→Prop} (hz:IsItemIter s.heap it d i n ep ok ov) (h:Q (.ref it) s):wpAny (model prog w) A (pyIter (.ref it)) Q E s:=by
 have hT:s.TypeIs (.ref it) "dict_itemiterator":=⟨_,hz,rfl⟩
 refine wpAny_pyIter_slot hT F.slot_dict_itemiterator_iter (wpAny_call_entry F.slot_dict_itemiterator_iter hT entry_itemit ?_ (F.args_dict_itemiterator_iter_1 _))
 show wpAny _ _ (ret (.ref it)) _ _ s
 exact wpAny_pure ⟨_,rfl,"dict_itemiterator",_,hT,F.slot_dict_itemiterator_next.lookup,h⟩
theorem turn_items {P:Program} {w:World} {K:PySem.W.Frag} {es:List Expr} {n:Nat} {pos:Pos} (it a:Addr) (o:Obj) (us:List (Key × V)) (ee:Array DictEntry) (ep:Nat) (ed:o.data=.dict ee ep) (na:a ≠ it):
  Turn false P w K (.Tuple es n pos) (Iti a o us) [it] it (fun i h=>∃ ok ov,IsItemIter h it a i us.length ep ok ov) where
 mem:=by simp
 obj:=fun i h ⟨ok,ov,st⟩ c hc=>by
  simp only [List.mem_cons,List.not_mem_nil,or_false] at hc
  subst hc
  exact ⟨_,st,fun v z=>by cases z⟩
 keep:=fun i h h' ⟨ok,ov,st⟩ q=>⟨ok,ov,q it (by simp) _ st⟩
 item:=by
  intro X hP hw hK hc i pins s σ H E I hf ⟨ok,ov,st⟩ hg
  subst hP hw hK
  obtain ⟨ha,⟨k,x⟩,hx⟩:=hg
  obtain ⟨vs,rel,dd,_⟩:=frz_at I ha ed
  obtain ⟨v,hv,rv⟩:=rel.getI hx
  have hl:=rel.length
  rw [hl] at st
  have hlt:∀ c ∈ [it],c < s.heap.objs.size:=fun c hc=>by
   simp only [List.mem_cons,List.not_mem_nil,or_false] at hc
   subst hc
   exact Heap.lt_size st
  refine wpAny_pyNext_items_item st dd hv fun key h' hk a1 a2 a3 a4=>⟨_,rfl,?_⟩
  refine wpAny_letOwnedTupleGo_items (s:={ s with heap:=h' }) a1 fun h2' hz' hs'=>?_
  have up:∀ c ob,c ≠ it→h'.get? c=some ob→h2'.get? c=some ob:=fun c ob n q=>SQ.sb hs' n q
  refine ⟨.ref s.heap.objs.size,_,I.turnedP (t':=s.toks) (h':=h2') hf hlt (kV_of_is hk) rv (fun c ob hc q=>up c ob (fun r=>hc (by simp [r])) (a4 c ob (fun r=>hc (by simp [r])) q)) (up _ _ (Nat.ne_of_gt (Heap.lt_size st)) a2),rfl,
   ⟨_,k,x,rfl,I.fresh,rfl,hx⟩,⟨_,_,by rw [hl]; exact hz'⟩,fp_none hf hlt⟩
 done:=by
  intro X hP hw hK hc i pins s σ H E I hf ⟨ok,ov,st⟩ hg
  subst hP hw hK
  obtain ⟨ha,hx⟩:=hg
  obtain ⟨vs,rel,dd,_⟩:=frz_at I ha ed
  have hl:=rel.length
  rw [hl] at st
  exact wpAny_pyNext_items_end (I.ok.hd hc.cm) st dd (by simp; omega) fun h' eb=>⟨rfl,I.turnedS (t':=s.toks) (fun b ob hb q=>eb b ob (fun r=>hb (by simp [r])) q) hf⟩
 self:=fun _ _ _ _ _ ⟨_,_,st⟩ h=>iter_itemit st h
theorem Inv.freeze {X:Cx} {pins:List (Addr × Obj)} {σ:St} {H:Hp} {s:Shared} {a:Addr} {us:List (Key × V)} (I:Inv X pins σ H s) (h:H a=some (.dK us)):∃ o,Inv X pins σ (upd H a (.frz o (.dK us))) s:=by
 obtain ⟨z,hd,vs,rel,⟨o,es,ep,ho,r⟩⟩:ObjOk X.prog X.w H s.heap a (.dK us):=I.hok a _ h
 have I2:Inv X pins σ (upd H a (.frz o (.dK us))) { s with heap:=s.heap,toks:=s.toks }:=I.write (x:=a) (e:=a) (by rw [h]; exact True.intro) (.inl rfl) (fun b u _ q=>q) ⟨o,ho⟩ ⟨ho,z,hd,vs,rel,⟨o,es,ep,ho,r⟩⟩
 exact ⟨o,I2⟩
noncomputable def iItems (td:TE):TI:=fun σ H R=>td σ H fun x H1=>∃ a us,x=.ref a∧((H1 a=some (.dK us)∧∀ o,R (Iti a o us) (upd H1 a (.frz o (.dK us)))) ∨ ∃ o,H1 a=some (.frz o (.dK us))∧R (Iti a o us) H1)
theorem pi_items {X:Cx} {es:List Expr} {n:Nat} {tp:Pos} {d:Expr} {td:TE} {apos pos:Pos} (hd:PE X d td) (hbase:autoParam (attributeBase d "items" X.env (eval d X.env)=eval d X.env) Au.h0._auto_1) (hline:autoParam ((apos.endLine == pos.line)=true) Au.h0._auto_1)
  (hfew:autoParam (((backTo pos (starEach [] X.env)).all (fun x=>!x.1) && (backToKw pos (keywordEach [] X.env)).all (fun x=>x.1.isSome) && decide (([]:List Expr).length + ([]:List Keyword).length + (if ([]:List Keyword).isEmpty then 0 else 1) < 30))=true) Au.h0._auto_1):
  PI X (.Tuple es n tp) (.Call (.Attribute d "items" apos) [] [] pos) (iItems td):=by
 intro pins s σ H R I h
 refine wpAny_Call_method (T:="dict") (id:="dict.items") hbase hfew hline F.plainAttrs_dict F.slot_dict_items F.type_dict_items (thn (hd pins s σ H _ I h) fun u s1 zq=>?_)
 obtain ⟨x,H1,I1,rx,a,us,ex,q1⟩:=zq
 subst ex
 obtain rfl:u=Value.ref a:=rx
 have main:∀ (H2:Hp) (o:Obj),Inv X pins σ H2 s1→H2 a=some (.frz o (.dK us))→R (Iti a o us) H2→s1.TypeIs (.ref a) "dict"∧(∀ b,Value.ref a=.ref b→∃ ob,s1.heap.get? b=some ob∧ob.dict=none)∧
   wpAny (model X.prog X.w) X.A (callWith pos (.builtin "dict.items") [.ref a] (backTo pos (starEach [] X.env)) []) (fun v s2=>wpAny (model X.prog X.w) X.A (pyIter v) (PIE X pins σ (.Tuple es n tp) R) X.xe s2) X.xe s1:=fun H2 o I2 hH2 q=>by
  obtain ⟨t1,t2,t3⟩:=isD_at I2 (a:=a) (.inl ⟨us,.inr ⟨o,hH2⟩⟩)
  refine ⟨t1,t2,?_⟩
  obtain ⟨eo,z,hdd,vs,rel,⟨o',ee,ep,ho,hx,hdat,k1,k2,k3⟩⟩:s1.heap.get? a=some o∧ObjOk X.prog X.w H2 s1.heap a (.dK us):=I2.hok a _ hH2
  rw [eo] at ho; cases ho
  have dat:s1.heap.DictAt (mixKind X.prog X.w) a vs ep:=⟨o,ee,eo,hx,hdat,k1,k2,k3⟩
  show wpAny _ _ (callWith pos (.builtin "dict.items") [.ref a] [] []) _ _ s1
  refine method_meetsIn F.slot_dict_items F.entry_dict_items rfl (PySem.evalArgs_none ⟨rfl,t1,F.args_dict_items_1 _,_,meets_dict_items (mixKind X.prog X.w) a t3,⟨vs,dat.dictOf⟩,?_⟩)
  have I3:Inv X pins σ H2 { s1 with heap:=s1.heap.push { cls:=.type "dict_items",data:=.fields #[.ref a] } }:=I2.kept (t':=s1.toks) fun b u e=>Heap.get?_push_of_some _ e
  refine wpAny_pyIter_items (s:={ s1 with heap:=s1.heap.push { cls:=.type "dict_items",data:=.fields #[.ref a] } }) ⟨_,Heap.get?_push_size _ rfl,rfl,rfl⟩ (dat.push _) ?_
  have hl:=rel.length
  have la:a < s1.heap.objs.size:=Heap.lt_size eo
  have sz:({ s1 with heap:=s1.heap.push { cls:=.type "dict_items",data:=.fields #[.ref a] } }:Shared).heap.objs.size=s1.heap.objs.size + 1:=Heap.size_push ..
  refine ⟨_,[_],_,_,H2,rfl,I3.kept (t':=s1.toks) fun b u e=>Heap.get?_push_of_some _ e,turn_items _ a o us ee ep hdat (by rw [sz]; exact Nat.ne_of_lt (Nat.lt_succ_of_lt la)),⟨.none,.none,by rw [hl]; exact Heap.get?_push_size _ rfl⟩,fun c hc=>?_,q⟩
  have ec:c=({ s1 with heap:=s1.heap.push { cls:=.type "dict_items",data:=.fields #[.ref a] } }:Shared).heap.objs.size:=by simpa using hc
  subst ec
  exact I3.fpOk (Nat.le_refl _) (I3.hok.fresh (Nat.le_refl _))
 rcases q1 with ⟨hH,q⟩ | ⟨o,hH,q⟩
 ·obtain ⟨o,I2⟩:=I1.freeze hH
  exact main _ o I2 upd_same (q o)
 ·exact main _ o I1 hH q
end L2
namespace PD
open PySem PySem.Spec PyProof.Rows L2
noncomputable def kD:KD→D
 | .inl i=>.int i
 | .inr x=>.str x
noncomputable def pairD (kv:KD × D):D:=.tup [kD kv.1,kv.2]
noncomputable def aItems (m:EM):AM:=fun r S=>(m r S).bind fun d S1=>match d with
 | .ref n=>match S1[n]? with
  | some (.dic kvs)=>.ok (kvs.map pairD) (S1.set n (.fdic kvs))
  | some (.fdic kvs)=>.ok (kvs.map pairD) S1
  | _=>.bad
 | _=>.bad
theorem RDk.getI {K:PySem.W.Frag} {w:Wd} {H:Hp}:∀ {ds:List (KD × D)} {us:List (Key × V)} {i:Nat} {k:KD} {d:D},RDk K w H ds us→ds[i]?=some (k,d)→∃ v,us[i]?=some (k,v)∧RD K w H d v
 | [],_,_,_,_,_,h=>by simp at h
 | (j,e) :: ds,_,i,k,d,q,h=>by
  obtain ⟨v,r,rfl,p,t⟩:=q.cons_inv
  cases i with
  | zero=>simp at h; obtain ⟨rfl,rfl⟩:=h; exact ⟨v,by simp,p⟩
  | succ i=>simpa using RDk.getI t (by simpa using h)
theorem kD_rel {K:PySem.W.Frag} {w:Wd} {H:Hp} (k:KD):RD K w H (kD k) (kV k):=by
 cases k with
 | inl i=>unfold kD RD; rfl
 | inr x=>unfold kD RD; rfl
theorem ri_items {K:PySem.W.Frag} {w:Wd} {H:Hp} {a:Addr} {o:Obj} {kvs:List (KD × D)} {us:List (Key × V)} (hst:∀ w' H',Ext w H w' H'→H' a=some (.frz o (.dK us))) (rk:RDk K w H kvs us):RI K w H (kvs.map pairD) (Iti a o us):=by
 intro i w' H' x'
 have rk':=RDk.ext x' _ _ rk
 have hl:=rk.length
 have ha:=hst w' H' x'
 refine ⟨fun hi=>?_,fun hi=>⟨ha,by rw [List.length_map] at hi; omega⟩⟩
 rw [List.length_map] at hi
 refine ⟨⟨ha,us[i]'(by omega),List.getElem?_eq_getElem _⟩,fun v H'' y=>?_⟩
 obtain ⟨p,k,x,rfl,hp,rfl,hx⟩:=y
 obtain ⟨v2,e2,r2⟩:=rk'.getI (i:=i) (k:=kvs[i].1) (d:=kvs[i].2) (by rw [List.getElem?_eq_getElem hi])
 rw [hx] at e2
 cases e2
 refine ⟨.inr ⟨p,_,hp,rfl⟩,fun S hS=>⟨pairD kvs[i],by simp [hi],?_⟩⟩
 unfold pairD RD
 refine ⟨p,[kV kvs[i].1,x],rfl,.inl ⟨upd_same,hS.fresh hp⟩,?_⟩
 unfold RDs RDs RDs
 exact ⟨_,_,rfl,kD_rel _,_,_,rfl,RD.ext (Ext.new hp) _ _ r2,rfl⟩
section
variable {X:Cx} {E:XK}
theorem si_items {es:List Expr} {n:Nat} {tp:Pos} {d:Expr} {md:EM} {apos pos:Pos} (ha:SE X E d md) (hbase:autoParam (attributeBase d "items" X.env (eval d X.env)=eval d X.env) Au.h0._auto_1) (hline:autoParam ((apos.endLine == pos.line)=true) Au.h0._auto_1)
  (hfew:autoParam (((backTo pos (starEach [] X.env)).all (fun x=>!x.1) && (backToKw pos (keywordEach [] X.env)).all (fun x=>x.1.isSome) && decide (([]:List Expr).length + ([]:List Keyword).length + (if ([]:List Keyword).isEmpty then 0 else 1) < 30))=true) Au.h0._auto_1):
  SI X E (.Tuple es n tp) (.Call (.Attribute d "items" apos) [] [] pos) (aItems md):=⟨
 pi_weak (pi_items ha.out hbase hline hfew) fun s H Q zq=>ex6 zq fun w r S hr hS hp=>⟨w,r,S,hr,hS,hp.bind hS fun d S1 w1 H1 v x1 q1 s1 p1=>by
  cases d with
  | ref m=>
   obtain ⟨pp,rfl,hp⟩:=q1.refI
   have hm:pp ∈ w1.st:=List.mem_of_getElem? hp
   cases e:S1[m]? with
   | none=>simp only [e] at p1; exact p1.elim
   | some ob=>
    obtain ⟨p',hp',ro⟩:=s1.obj _ _ e
    rw [hp] at hp'; cases hp'
    cases ob with
    | dic kvs=>
     simp only [e] at p1
     obtain ⟨us,hv,rk⟩:=ro
     refine ⟨pp,us,rfl,.inl ⟨hv,fun o=>?_⟩⟩
     have rk':=RDk.ext (Ext.mut hm hv (o:=.frz o (.dK us))) _ _ rk
     exact Post.at p1 (Ext.mut hm hv) (ri_items (fun w' H' x'=>x'.frz _ _ _ upd_same) rk') (s1.mut hp hv ⟨o,us,upd_same,rk'⟩)
    | fdic kvs=>
     simp only [e] at p1
     obtain ⟨o,us,hv,rk⟩:=ro
     exact ⟨pp,us,rfl,.inr ⟨o,hv,Post.ret p1 (ri_items (fun w' H' x'=>x'.frz _ _ _ hv) rk) s1⟩⟩
    | lst xs=>simp only [e] at p1; exact p1.elim
    | ins c fs=>simp only [e] at p1; exact p1.elim
    | flst xs=>simp only [e] at p1; exact p1.elim
  | _=>exact p1.elim⟩⟩
end
end PD
namespace PD
open PySem PySem.Spec PyProof.Rows L2
noncomputable def TupAt (K:PySem.W.Frag) (mg:Str→Option Value) (x:Str) (is:List Int):Prop:=∃ a,mg x=some (.ref a)∧KTup K a (is.map .int)
section
variable {X:Cx} {E:XK}
theorem rdi {K:PySem.W.Frag} {w:Wd} {H:Hp}:∀ is:List Int,RDs K w H (is.map .int) (is.map .int)
 | []=>.nil
 | i :: is=>.cons (by unfold RD; rfl) (rdi is)
theorem se_gt {x:Str} {is:List Int} {pos:Pos} (h:TupAt X.K X.mg x is) (hg:Gl X x) (hd:autoParam ((x == ("__debug__":Str))=false) Au.h3._auto_1):SE X E (.Name x pos) (eC (.tup (is.map .int))):=by
 obtain ⟨a,hm,k⟩:=h
 exact se_c (pe_glob hg hm (v:=.ref a) rfl hd) fun _ _=>by unfold RD; exact ⟨a,_,rfl,.inr k,rdi is⟩
end
theorem tup2_mk {K:PySem.W.Frag} {h:Heap} {mg:Str→Option Value} (X:K.In h) (G:h.Ns mainGlobals mg) {x:Str} {a:Addr} {od:Option Addr} {n:Nat} {sl:Array (Option Value)} {i j:Int} {t1 t2:Tok} (hn:PySem.W.nsIn K mainGlobals x=some (some (.ref a))) (hl:K.lookup a=some ⟨.type "tuple",od,.seq #[.int i t1,.int j t2] n,sl⟩):TupAt K mg x [i,j]:=
 ⟨a,PySem.W.mg_of X G hn,_,_,n,hl,rfl,rfl,by show 2≤sizeLine; decide,.cons ⟨t1,rfl⟩ (.cons ⟨t2,rfl⟩ .nil)⟩
theorem tup3_mk {K:PySem.W.Frag} {h:Heap} {mg:Str→Option Value} (X:K.In h) (G:h.Ns mainGlobals mg) {x:Str} {a:Addr} {od:Option Addr} {n:Nat} {sl:Array (Option Value)} {i j k:Int} {t1 t2 t3:Tok} (hn:PySem.W.nsIn K mainGlobals x=some (some (.ref a))) (hl:K.lookup a=some ⟨.type "tuple",od,.seq #[.int i t1,.int j t2,.int k t3] n,sl⟩):TupAt K mg x [i,j,k]:=
 ⟨a,PySem.W.mg_of X G hn,_,_,n,hl,rfl,rfl,by show 3≤sizeLine; decide,.cons ⟨t1,rfl⟩ (.cons ⟨t2,rfl⟩ (.cons ⟨t3,rfl⟩ .nil))⟩
section
variable {K:PySem.W.Frag} {w:Wd} {H:Hp}
theorem Mv.adopt {p:Addr} {o:HO} (hh:p ∈ w.hid):Mv w H ((w.unhide p).add p) (upd H p o):=
  ⟨fun n a h=>by
      show (w.st ++ [p])[n]?=some a
      rw [List.getElem?_append_left (List.getElem?_eq_some_iff.mp h).1]; exact h,
   fun a u h=>⟨by rw [upd_ne (fun z:a=p=>h.2.2 (z ▸ hh))]; exact h.1,fun z=>by
      rcases List.mem_append.mp z with z | z
      · exact h.2.1 z
      · exact h.2.2 (by rw [List.mem_singleton.mp z]; exact hh),fun z=>h.2.2 (Wd.mem_unhide z).1⟩⟩
theorem RS.adopt {p:Addr} {o:HO} {so:SO} {S:Sto} (s:RS K w H S) (hh:p ∈ w.hid) (r:RO K ((w.unhide p).add p) (upd H p o) p so):RS K ((w.unhide p).add p) (upd H p o) (S ++ [so]):=by
 have np:=(s.hid p hh).1
 refine ⟨?_,by simp [Wd.add,Wd.unhide,s.len],fun n so' e=>?_,fun a ha=>?_⟩
 ·show (w.st ++ [p]).Nodup
  rw [List.nodup_append]
  exact ⟨s.nd,by simp,fun a ha b hb=>by
   have:b=p:=by simpa using hb
   subst this
   rintro rfl
   exact np ha⟩
 ·by_cases hn:n < S.length
  ·rw [List.getElem?_append_left hn] at e
   obtain ⟨a,ha,q⟩:=s.obj n so' e
   have ne:a ≠ p:=fun z=>np (z ▸ List.mem_of_getElem? ha)
   exact ⟨a,(Mv.adopt (H:=H) (o:=o) hh).st n a ha,q.mv (Mv.adopt hh) fun u z=>by rw [upd_ne ne]; exact z⟩
  ·have hn':n=S.length:=by
    have:=(List.getElem?_eq_some_iff.mp e).1
    simp at this; omega
   subst hn'
   simp at e; subst e
   exact ⟨p,by show (w.st ++ [p])[S.length]?=some p; rw [← s.len]; simp,r⟩
 ·obtain ⟨h1,h2⟩:=Wd.mem_unhide ha
  obtain ⟨h3,u,e⟩:=s.hid a h1
  refine ⟨?_,u,by rw [upd_ne h2]; exact e⟩
  show a ∉ w.st ++ [p]
  intro z
  rcases List.mem_append.mp z with z | z
  ·exact h3 z
  ·exact h2 (by simpa using z)
end
section
variable {X:Cx} {E:XK} {pos:Pos}
theorem se_dicN {keys:List (Option Expr)} {values:List Expr} {ms:List (EM × EM)} (h:SPs X E pos keys values ms) (hall:autoParam (keys.all (·.isSome)=true) Au.h0._auto_1) (hl:autoParam (keys.length=values.length) Au.h0._auto_1) (h0:keys ≠ []:=by intro z; cases z) (h15:autoParam (keys.length≤15) Au.h3._auto_1):
  SE X E (.Dict keys values pos) (eDicN ms):=⟨
 pe_weak (pe_disp h.out hall hl h0 h15) fun s H Q q=>disp_core (keys:=keys) (values:=values) (m:=eDicN ms) (fin:=fun kvs S1=>R.ok (D.ref S1.length) (S1 ++ [SO.dic (mergeD [] kvs)])) (fun r S=>rfl) (fun kvs us w0 w H0 H S0 S p hp s0 s x hh rk p1=>by
  have hpn:=(s.hid p hh).1
  refine Post.at p1 (w1:=(w.unhide p).add p) ⟨fun a o h n=>by rw [upd_ne (ne_of_none h hp)]; exact x.keep a o h n,?_,fun a h=>List.mem_filter.mpr ⟨x.hid a h,decide_eq_true fun z=>(s0.fresh hp).2 (z ▸ h)⟩,fun a h=>x.hnew a (Wd.mem_unhide h).1,fun a o u h=>by rw [upd_ne (ne_of_none h hp)]; exact x.frz a o u h⟩ ?_ (s.adopt hh ⟨_,upd_same,RDk.mv (Mv.adopt hh) _ _ rk⟩)
  ·obtain ⟨l,e,f⟩:=x.sub
   exact ⟨l ++ [p],by show w.st ++ [p]=_; rw [e,List.append_assoc],fun a ha=>(List.mem_append.mp ha).elim (f a) fun z=>by rw [List.mem_singleton.mp z]; exact hp⟩
  ·unfold RD
   exact ⟨p,rfl,by show (w.st ++ [p])[S.length]?=some p; rw [← s.len]; simp⟩) q⟩
noncomputable def eDicE:EM:=fun _ S=>.ok (.ref S.length) (S ++ [.dic []])
theorem se_dicE:SE X E (.Dict [] [] pos) eDicE:=⟨
 pe_weak pe_dnewK fun s H Q zq=>ex6 zq fun w r S hr hS hp=>fun p hpn=>Post.at hp (Ext.alloc hpn) hS.lastRef (hS.alloc hpn ⟨[],upd_same,RDk.nil⟩)⟩
end
end PD
namespace PD
open PySem PySem.Spec PyProof.Rows L2
section
variable {X:Cx} {E:XK}
end
end PD
namespace L2
open PySem PySem.Spec PyProof.Rows
section
variable {X:Cx} {tg:Expr}
end
end L2
namespace PD
open PySem PySem.Spec PyProof.Rows L2
section
variable {X:Cx} {E:XK} {a b c:Expr} {pos:Pos}
end
end PD
namespace PySem
open PyProof.Rows
namespace F
end F
section
variable {prog:Program} {w:World} {A:Around} {E:Value→Shared→Prop} {s:Shared}
end
end PySem
namespace L2
open PySem PySem.Spec PyProof.Rows
section
variable {X:Cx} {tg:Expr}
end
end L2
namespace PD
open PySem PySem.Spec PyProof.Rows L2
section
variable {X:Cx} {E:XK} {a:Expr} {pos:Pos}
end
end PD
namespace PD
open PySem PySem.Spec PyProof.Rows L2
section
variable {X:Cx} {E:XK} {pos:Pos}
end
end PD
namespace L2
open PySem PySem.Spec PyProof.Rows
section
variable {X:Cx} {tg:Expr}
end
end L2
namespace PD
open PySem PySem.Spec PyProof.Rows L2
section
variable {X:Cx} {E:XK}
end
end PD
namespace L2
open PySem PySem.Spec PyProof.Rows
end L2
namespace PD
open PySem PySem.Spec PyProof.Rows L2
section
variable {X:Cx} {E:XK}
end
end PD
namespace PySem
open PyProof.Rows
section
variable {prog:Program} {w:World} {A:Around} {E:Value→Shared→Prop} {s:Shared} {K:Type} [DecidableEq K] {knd:KeyKind prog w K}
end
end PySem
namespace PD
open PySem PySem.Spec PyProof.Rows L2
section
variable {X:Cx} {E:XK}
end
end PD
namespace PD
open PySem PySem.Spec PyProof.Rows L2
open AutoSeq1 (wpAny_loadPart')
open MeetsSeq MeetsSeq2 MeetsSeq3 SeqRoads2 PySem.SeqAt
end PD
namespace PD
open PySem PySem.Spec PyProof.Rows L2
section
variable {prog:Program} {w:World} {A:Around} {R:Result→Shared→Prop} {I:Addr} {fp wr:List Addr} {n:Nat} {P:Nat→Value→Prop} {St:Nat→Heap→Prop} {h0:Heap} {bt:Nat→Nat→Bool} {S:Addr} {kw:List (Str × Value)}
end
end PD
namespace PD
open PySem PySem.Spec PyProof.Rows L2
section
variable {X:Cx} {E:XK} {pins:List (Addr × Obj)} {σ:L2.St} {H:Hp} {s:Shared}
end
section
variable {prog:Program} {w:World} {A:Around} {E:Value→Shared→Prop} {s:Shared}
end
end PD
namespace PD
open PySem PySem.Spec PyProof.Rows L2
section
variable {prog:Program} {w:World} {A:Around} {E:Value→Shared→Prop} {s:Shared}
end
section
variable {X:Cx} {E:XK}
variable {a:Expr} {ms:AM} {x:Str} {p pos kp:Pos} {id:String} {nm:Str}
end
end PD
namespace SR
open PySem PyProof.Rows
noncomputable abbrev SM (α:Type):=StateT SortSt Sem α
noncomputable def Up (xs:Array Keyed) (lo hi:Nat):Prop:=∀ i j,lo≤i→i≤j→j < hi→K xs i≤K xs j
noncomputable def Dn (xs:Array Keyed) (lo hi:Nat):Prop:=∀ i j,lo≤i→i≤j→j < hi→K xs j≤K xs i
noncomputable def Num (p:Keyed):Prop:=∃ n t,p.1=.int n t
noncomputable def IK (xs:Array Keyed):Prop:=∀ p ∈ xs.toList,Num p
theorem IK.get {xs:Array Keyed} (h:IK xs) {i:Nat} (hi:i < xs.size):Num xs[i]:=h _ (by simp)
theorem K_get {xs:Array Keyed} {i:Nat} (hi:i < xs.size):K xs i=numOf xs[i].1:=by unfold K; rw [getElem?_pos xs i hi]
section
variable {prog:Program} {w:World} {A:Around} {E:Value→Shared→Prop} {s:Shared}
theorem lt_ok {st:SortSt} {p q:Keyed} {Q:Option Bool→SortSt→Prop} (hk:kindOf st=oneType') (hp:Num p) (hq:Num q) (h:Q (some (decide (numOf p.1 < numOf q.1))) st):wpS (model prog w) A E s (lt' p q) Q st:=by
 obtain ⟨p1,p2⟩:=p
 obtain ⟨q1,q2⟩:=q
 obtain ⟨a,t,e1⟩:=hp
 obtain ⟨b,u,e2⟩:=hq
 dsimp only at e1 e2
 subst e1 e2
 rw [lt'_eq]
 refine wpS_bind (wpS_get ?_)
 rw [hk,keyLt'_oneType]
 exact wpS_bind (wpS_lift (wpAny_attempt (oneLt_int ⟨rfl,wpS_pure h⟩)))
theorem elem_ok {st:SortSt} {xs:Array Keyed} {i:Nat} {Q:Keyed→SortSt→Prop} (hi:i < xs.size) (h:Q xs[i] st):wpS (model prog w) A E s (elem' xs i) Q st:=by
 rw [elem'_eq,getElem?_pos xs i hi]
 exact wpS_pure h
end
noncomputable def gal:Bool→Keyed→Array Keyed→Nat→Nat→Nat→SM (Option Nat):=sortPriv% PySem.Builtin.gallop
noncomputable def by1 (left:Bool) (key:Keyed) (arr:Array Keyed) (z:Nat):SM (Option Bool):=do
 let x ← elem' arr z
 if left then lt' x key else return (← lt' key x).map (!·)
theorem gal_eq (left:Bool) (key:Keyed) (arr:Array Keyed) (base n hint:Nat):gal left key arr base n hint=(do
 let f:Nat→SM (Option Bool):=fun i=>by1 left key arr (base + i)
 let mut l1:=0
 let mut o1:=1
 let mut lo:=0
 let mut hi:=0
 let some rg ← f hint | return none
 if rg then
  let mx:=n - hint
  for _ in [0:n] do
   if o1 ≥ mx then break
   let some b ← f (hint + o1) | return none
   if !b then break
   l1:=o1
   o1:=2 * o1 + 1
  lo:=hint + l1 + 1
  hi:=hint + min o1 mx
 else
  let mx:=hint + 1
  for _ in [0:n] do
   if o1 ≥ mx then break
   let some b ← f (hint - o1) | return none
   if b then break
   l1:=o1
   o1:=2 * o1 + 1
  lo:=hint + 1 - min o1 mx
  hi:=hint - l1
 for _ in [0:n] do
  if lo ≥ hi then break
  let m:=lo + (hi - lo) / 2
  let some b ← f m | return none
  if b then lo:=m + 1 else hi:=m
 return some hi):=rfl
section
variable {prog:Program} {w:World} {A:Around} {E:Value→Shared→Prop} {s:Shared}
noncomputable def bef (left:Bool) (key:Keyed) (arr:Array Keyed) (i:Nat):Bool:=if left=true then decide (K arr i < numOf key.1) else !decide (numOf key.1 < K arr i)
theorem bef_mono {left:Bool} {key:Keyed} {arr:Array Keyed} {lo hi:Nat} (hs:Up arr lo hi) {i j:Nat} (hi1:lo≤i) (hij:i≤j) (hj:j < hi) (h:bef left key arr j=true):bef left key arr i=true:=by
 have z:=hs i j hi1 hij hj
 cases left
 ·simp [bef] at h ⊢; omega
 ·simp [bef] at h ⊢; omega
theorem by1_ok {left:Bool} {key:Keyed} {arr:Array Keyed} {i:Nat} {st:SortSt} {Q:Option Bool→SortSt→Prop} (hk:kindOf st=oneType') (ha:IK arr) (hy:Num key) (hi:i < arr.size) (h:Q (some (bef left key arr i)) st):wpS (model prog w) A E s (by1 left key arr i) Q st:=by
 unfold by1
 refine wpS_bind (elem_ok hi ?_)
 have e:=K_get hi
 cases left
 ·refine wpS_bind (lt_ok hk hy (ha.get hi) (wpS_pure ?_))
  simpa [bef,e] using h
 ·refine lt_ok hk (ha.get hi) hy ?_
  simpa [bef,e] using h
theorem bs_ok {left:Bool} {key:Keyed} {arr:Array Keyed} {base n lo hi:Nat} {st:SortSt} {Q:Option (Option Nat) × Nat × Nat→SortSt→Prop} (hk:kindOf st=oneType') (ha:IK arr) (hy:Num key) (hn:base + n≤arr.size) (hs:Up arr base (base + n))
  (h1:lo≤hi) (h2:hi≤n) (h3:∀ i,i < lo→bef left key arr (base + i)=true) (h4:∀ i,hi≤i→i < n→bef left key arr (base + i)=false)
  (h:∀ l k,k≤n→(∀ i,i < k→bef left key arr (base + i)=true)→(∀ i,k≤i→i < n→bef left key arr (base + i)=false)→Q (none,l,k) st):
  wpS (model prog w) A E s (forIn [0:n] ((none,lo,hi):Option (Option Nat) × Nat × Nat) fun _ c=>
    if c.2.1 ≥ c.2.2 then pure (.done (none,c.2.1,c.2.2)) else do
     match ← by1 left key arr (base + (c.2.1 + (c.2.2 - c.2.1) / 2)) with
     | some b=>if b=true then pure (.yield (none,c.2.1 + (c.2.2 - c.2.1) / 2 + 1,c.2.2)) else pure (.yield (none,c.2.1,c.2.1 + (c.2.2 - c.2.1) / 2))
     | _=>pure (.done (some none,c.2.1,c.2.2))) Q st:=by
 refine wpS_mono (wpS_forRange (I:=fun x c st'=>st'=st∧∃ l u,c=(none,l,u)∧l≤u∧u≤n∧u - l≤n - x∧(∀ i,i < l→bef left key arr (base + i)=true)∧(∀ i,u≤i→i < n→bef left key arr (base + i)=false))
  (Q:=fun c st'=>st'=st∧∃ l u,c=(none,l,u)∧u≤n∧(∀ i,i < u→bef left key arr (base + i)=true)∧(∀ i,u≤i→i < n→bef left key arr (base + i)=false)) ?a ?b ⟨rfl,lo,hi,rfl,h1,h2,by omega,h3,h4⟩) ?c
 case b=>
  rintro c st' ⟨rfl,l,u,rfl,b1,b2,b3,b4,b5⟩
  have:l=u:=by omega
  subst this
  exact ⟨rfl,l,l,rfl,b2,b4,b5⟩
 case c=>
  rintro c st' ⟨rfl,l,u,rfl,b2,b4,b5⟩
  exact h l u b2 b4 b5
 case a=>
  rintro x c st' _ hx ⟨rfl,l,u,rfl,b1,b2,b3,b4,b5⟩
  dsimp only
  by_cases g:l ≥ u
  ·rw [if_pos g]
   have:l=u:=by omega
   subst this
   exact wpS_pure ⟨rfl,l,l,rfl,b2,b4,b5⟩
  ·rw [if_neg g]
   refine wpS_bind (by1_ok hk ha hy (by omega) ?_)
   dsimp only
   cases eb:bef left key arr (base + (l + (u - l) / 2)) with
   | true=>
    rw [if_pos rfl]
    refine wpS_pure ⟨rfl,_,_,rfl,by omega,b2,by omega,fun i hi=>?_,b5⟩
    exact bef_mono hs (by omega) (by omega) (by omega) eb
   | false=>
    rw [if_neg Bool.false_ne_true]
    refine wpS_pure ⟨rfl,_,_,rfl,by omega,by omega,by omega,b4,fun i h1 h2=>?_⟩
    cases e2:bef left key arr (base + i) with
    | false=>rfl
    | true=>
     have:=bef_mono (left:=left) (key:=key) hs (i:=base + (l + (u - l) / 2)) (j:=base + i) (by omega) (by omega) (by omega) e2
     rw [eb] at this
     cases this
theorem gal_ok {left:Bool} {key:Keyed} {arr:Array Keyed} {base n hint:Nat} {st:SortSt} {Q:Option Nat→SortSt→Prop} (hk:kindOf st=oneType') (ha:IK arr) (hy:Num key) (hn:base + n≤arr.size) (hh:hint < n) (hs:Up arr base (base + n))
  (h:∀ k,k≤n→(∀ i,i < k→bef left key arr (base + i)=true)→(∀ i,k≤i→i < n→bef left key arr (base + i)=false)→Q (some k) st):
  wpS (model prog w) A E s (gal left key arr base n hint) Q st:=by
 have no:∀ i j,i≤j→j < n→bef left key arr (base + i)=false→bef left key arr (base + j)=false:=fun i j h1 h2 e=>by
  cases e2:bef left key arr (base + j) with
  | false=>rfl
  | true=>
   have:=bef_mono (left:=left) (key:=key) hs (i:=base + i) (j:=base + j) (by omega) (by omega) (by omega) e2
   rw [e] at this
   cases this
 have ys:∀ i j,i≤j→j < n→bef left key arr (base + j)=true→bef left key arr (base + i)=true:=fun i j h1 h2 e=>
  bef_mono hs (by omega) (by omega) (by omega) e
 rw [gal_eq]
 dsimp only
 refine wpS_bind (by1_ok hk ha hy (by omega) ?_)
 dsimp only
 cases e0:bef left key arr (base + hint) with
 | true=>
  rw [if_pos rfl]
  refine wpS_bind (wpS_mono (wpS_forRange (I:=fun x c st'=>st'=st∧∃ l o,c=(none,l,o)∧l < o∧x + 1≤o∧l < n - hint∧bef left key arr (base + (hint + l))=true)
   (Q:=fun c st'=>st'=st∧∃ l o,c=(none,l,o)∧l < o∧l < n - hint∧bef left key arr (base + (hint + l))=true∧(o < n - hint→bef left key arr (base + (hint + o))=false)) ?a ?b ⟨rfl,0,1,rfl,by omega,by omega,by omega,e0⟩) ?c)
  case b=>
   rintro c st' ⟨rfl,l,o,rfl,b1,b2,b3,b4⟩
   exact ⟨rfl,l,o,rfl,b1,b3,b4,fun z=>by omega⟩
  case a=>
   rintro x c st' _ hx ⟨rfl,l,o,rfl,b1,b2,b3,b4⟩
   dsimp only
   by_cases g:o ≥ n - hint
   ·rw [if_pos g]
    exact wpS_pure ⟨rfl,l,o,rfl,b1,b3,b4,fun z=>by omega⟩
   ·rw [if_neg g]
    refine wpS_bind (by1_ok hk ha hy (by omega) ?_)
    dsimp only
    cases eb:bef left key arr (base + (hint + o)) with
    | false=>
     rw [if_pos (by decide)]
     exact wpS_pure ⟨rfl,l,o,rfl,b1,b3,b4,fun _=>eb⟩
    | true=>
     rw [if_neg (by decide)]
     exact wpS_pure ⟨rfl,o,2 * o + 1,rfl,by omega,by omega,by omega,eb⟩
  case c=>
   rintro c st' ⟨rfl,l,o,rfl,b1,b3,b4,b5⟩
   dsimp only
   refine wpS_bind (bs_ok (lo:=hint + l + 1) (hi:=hint + min o (n - hint)) hk ha hy hn hs (by omega) (by omega) (fun i hi=>?_) (fun i h1 h2=>?_) fun _ k a b c=>wpS_pure (h k a b c))
   ·exact ys i (hint + l) (by omega) (by omega) b4
   ·by_cases g:o < n - hint
    ·exact no (hint + o) i (by omega) h2 (b5 g)
    ·omega
 | false=>
  rw [if_neg Bool.false_ne_true]
  refine wpS_bind (wpS_mono (wpS_forRange (I:=fun x c st'=>st'=st∧∃ l o,c=(none,l,o)∧l < o∧x + 1≤o∧l≤hint∧bef left key arr (base + (hint - l))=false)
   (Q:=fun c st'=>st'=st∧∃ l o,c=(none,l,o)∧l < o∧l≤hint∧bef left key arr (base + (hint - l))=false∧(o≤hint→bef left key arr (base + (hint - o))=true)) ?a ?b ⟨rfl,0,1,rfl,by omega,by omega,by omega,e0⟩) ?c)
  case b=>
   rintro c st' ⟨rfl,l,o,rfl,b1,b2,b3,b4⟩
   exact ⟨rfl,l,o,rfl,b1,b3,b4,fun z=>by omega⟩
  case a=>
   rintro x c st' _ hx ⟨rfl,l,o,rfl,b1,b2,b3,b4⟩
   dsimp only
   by_cases g:o ≥ hint + 1
   ·rw [if_pos g]
    exact wpS_pure ⟨rfl,l,o,rfl,b1,b3,b4,fun z=>by omega⟩
   ·rw [if_neg g]
    refine wpS_bind (by1_ok hk ha hy (by omega) ?_)
    dsimp only
    cases eb:bef left key arr (base + (hint - o)) with
    | true=>
     rw [if_pos rfl]
     exact wpS_pure ⟨rfl,l,o,rfl,b1,b3,b4,fun _=>eb⟩
    | false=>
     rw [if_neg Bool.false_ne_true]
     exact wpS_pure ⟨rfl,o,2 * o + 1,rfl,by omega,by omega,by omega,eb⟩
  case c=>
   rintro c st' ⟨rfl,l,o,rfl,b1,b3,b4,b5⟩
   dsimp only
   refine wpS_bind (bs_ok (lo:=hint + 1 - min o (hint + 1)) (hi:=hint - l) hk ha hy hn hs (by omega) (by omega) (fun i hi=>?_) (fun i h1 h2=>?_) fun _ k a b c=>wpS_pure (h k a b c))
   ·by_cases g:o≤hint
    ·exact ys i (hint - o) (by omega) (by omega) (b5 g)
    ·omega
   ·exact no (hint - l) i (by omega) h2 b4
end
end SR
namespace SR
open PySem PyProof.Rows
noncomputable def mLo:Array Keyed→Array Keyed→SM (Array Keyed):=sortPriv% PySem.Builtin.mergeLo
noncomputable def sMG:Nat→SM Unit:=sortPriv% PySem.Builtin.setMinGallop
theorem mLo_eq (a b:Array Keyed):mLo a b=(do
 rule "list.sort.merge-lo"
 let tt:=a.size + b.size
 let dn (o:Array Keyed) (i j:Nat):=o ++ a.extract i a.size ++ b.extract j b.size
 let la (o:Array Keyed) (i j:Nat):=o ++ b.extract j b.size ++ a.extract i a.size
 let mut o:Array Keyed:=#[← elem' b 0]
 let mut i:=0
 let mut j:=1
 if j == b.size then return dn o i j
 if i + 1 == a.size then return la o i j
 let mut g:=gallopOf (← get)
 for _ in [0:tt] do
  let mut ca:=0
  let mut cb:=0
  for _ in [0:tt] do
   let some v ← lt' (← elem' b j) (← elem' a i) | return dn o i j
   if v then
    o:=o.push (← elem' b j); j:=j + 1; cb:=cb + 1; ca:=0
    if j == b.size then return dn o i j
    if cb ≥ g then break
   else
    o:=o.push (← elem' a i); i:=i + 1; ca:=ca + 1; cb:=0
    if i + 1 == a.size then return la o i j
    if ca ≥ g then break
  rule "list.sort.gallop"
  g:=g + 1
  for _ in [0:tt] do
   if g > 1 then g:=g - 1
   sMG g
   let some k ← gal false (← elem' b j) a i (a.size - i) 0 | return dn o i j
   ca:=k
   if k > 0 then
    o:=o ++ a.extract i (i + k); i:=i + k
    if i + 1 == a.size then return la o i j
    if i == a.size then return dn o i j
   o:=o.push (← elem' b j); j:=j + 1
   if j == b.size then return dn o i j
   let some k ← gal true (← elem' a i) b j (b.size - j) 0 | return dn o i j
   cb:=k
   if k > 0 then
    o:=o ++ b.extract j (j + k); j:=j + k
    if j == b.size then return dn o i j
   o:=o.push (← elem' a i); i:=i + 1
   if i + 1 == a.size then return la o i j
   if ca < 7 && cb < 7 then break
  g:=g + 1
  sMG g
 unsupported "internal:list.sort.merge-bound"):=rfl
noncomputable def ke (p:Keyed):Int:=numOf p.1
noncomputable def Sd (l:List Keyed):Prop:=l.Pairwise fun p q=>ke p≤ke q
structure Ml (tot o X Y:List Keyed):Prop where
 perm:(o ++ (X ++ Y)).Perm tot
 sd:Sd o
 le:∀ p ∈ o,∀ q ∈ X ++ Y,ke p≤ke q
theorem Ml.left {tot o L X Y:List Keyed} (h:Ml tot o (L ++ X) Y) (hs:Sd (L ++ X)) (hl:∀ p ∈ L,∀ q ∈ Y,ke p≤ke q):Ml tot (o ++ L) X Y:=by
 obtain ⟨s1,s2,s3⟩:=List.pairwise_append.mp hs
 refine ⟨by simpa [List.append_assoc] using h.perm,List.pairwise_append.mpr ⟨h.sd,s1,fun p hp q hq=>h.le p hp q (by simp [hq])⟩,fun p hp q hq=>?_⟩
 rcases List.mem_append.mp hp with hp | hp
 ·refine h.le p hp q ?_
  rcases List.mem_append.mp hq with hq | hq <;> simp [hq]
 ·rcases List.mem_append.mp hq with hq | hq
  ·exact s3 p hp q hq
  ·exact hl p hp q hq
theorem Ml.swap {tot o X Y:List Keyed} (h:Ml tot o X Y):Ml tot o Y X:=⟨(List.perm_append_comm.append_left o).trans h.perm,h.sd,fun p hp q hq=>h.le p hp q (by rcases List.mem_append.mp hq with z | z <;> simp [z])⟩
theorem Ml.right {tot o L X Y:List Keyed} (h:Ml tot o X (L ++ Y)) (hs:Sd (L ++ Y)) (hl:∀ p ∈ L,∀ q ∈ X,ke p≤ke q):Ml tot (o ++ L) X Y:=(h.swap.left hs hl).swap
theorem Ml.done {tot o:List Keyed} (h:Ml tot o [] []):o.Perm tot∧Sd o:=⟨by simpa using h.perm,h.sd⟩
noncomputable def Mg (a b o:Array Keyed) (i j:Nat):Prop:=Ml (a.toList ++ b.toList) o.toList (a.toList.drop i) (b.toList.drop j)
noncomputable def Good (a b r:Array Keyed):Prop:=r.toList.Perm (a.toList ++ b.toList)∧Sd r.toList
theorem sd_of {a:Array Keyed} (h:Up a 0 a.size):Sd a.toList:=by
 unfold Sd
 rw [List.pairwise_iff_getElem]
 intro i j hi hj hij
 have hi':i < a.size:=by simpa using hi
 have hj':j < a.size:=by simpa using hj
 have z:=h i j (Nat.zero_le _) (Nat.le_of_lt hij) hj'
 rw [K_get hi',K_get hj'] at z
 simpa [ke] using z
theorem up_of {a:Array Keyed} (h:Sd a.toList):Up a 0 a.size:=by
 intro i j _ hij hj
 by_cases e:i=j
 ·subst e; exact Int.le_refl _
 ·unfold Sd at h
  rw [List.pairwise_iff_getElem] at h
  have z:=h i j (by simpa using (by omega:i < a.size)) (by simpa using hj) (by omega)
  rw [K_get (by omega),K_get hj]
  simpa [ke] using z
theorem Sd.drop {l:List Keyed} (h:Sd l) (i:Nat):Sd (l.drop i):=List.Pairwise.sublist (List.drop_sublist i l) h
theorem drop_get {a:Array Keyed} {i:Nat} (hi:i < a.size):a.toList.drop i=[a[i]] ++ a.toList.drop (i + 1):=by
 rw [List.drop_eq_getElem_cons (by simpa using hi)]
 simp
theorem drop_cut {a:Array Keyed} (i k:Nat):a.toList.drop i=(a.toList.drop i).take k ++ a.toList.drop (i + k):=by
 rw [← List.drop_drop,List.take_append_drop]
theorem ext_list (a:Array Keyed) (i j:Nat):(a.extract i j).toList=(a.toList.drop i).take (j - i):=by
 rw [Array.toList_extract]
theorem mem_drop {a:Array Keyed} {i:Nat} {p:Keyed} (h:p ∈ a.toList.drop i):∃ t,i≤t∧t < a.size∧ke p=K a t:=by
 obtain ⟨n,hn,e⟩:=List.mem_iff_getElem.mp h
 have hl:i + n < a.size:=by simp at hn; omega
 refine ⟨i + n,by omega,hl,?_⟩
 rw [K_get hl,← e]
 simp [ke]
theorem mem_cut {a:Array Keyed} {i k:Nat} {p:Keyed} (h:p ∈ (a.toList.drop i).take k):∃ t,t < k∧i + t < a.size∧ke p=K a (i + t):=by
 obtain ⟨n,hn,e⟩:=List.mem_iff_getElem.mp h
 have hl:n < k∧i + n < a.size:=by simp at hn; omega
 refine ⟨n,hl.1,hl.2,?_⟩
 rw [K_get hl.2,← e]
 simp [ke]
section
variable {a b o:Array Keyed} {i j k:Nat}
theorem Mg.bulkA (ha:Up a 0 a.size) (hb:Up b 0 b.size) (h:Mg a b o i j) (hj:j < b.size) (hk:∀ t,t < k→i + t < a.size→K a (i + t)≤K b j):Mg a b (o ++ a.extract i (i + k)) (i + k) j:=by
 unfold Mg at h ⊢
 have e:(o ++ a.extract i (i + k)).toList=o.toList ++ (a.toList.drop i).take k:=by rw [Array.toList_append,ext_list]; simp
 rw [e]
 rw [drop_cut i k] at h
 refine h.left (by rw [← drop_cut]; exact (sd_of ha).drop i) fun p hp q hq=>?_
 obtain ⟨t,t1,t2,e1⟩:=mem_cut hp
 obtain ⟨u,u1,u2,e2⟩:=mem_drop hq
 have:=hk t t1 t2
 have:=hb j u (Nat.zero_le _) u1 u2
 omega
theorem Mg.bulkB (ha:Up a 0 a.size) (hb:Up b 0 b.size) (h:Mg a b o i j) (hi:i < a.size) (hk:∀ t,t < k→j + t < b.size→K b (j + t)≤K a i):Mg a b (o ++ b.extract j (j + k)) i (j + k):=by
 unfold Mg at h ⊢
 have e:(o ++ b.extract j (j + k)).toList=o.toList ++ (b.toList.drop j).take k:=by rw [Array.toList_append,ext_list]; simp
 rw [e]
 rw [drop_cut j k] at h
 refine h.right (by rw [← drop_cut]; exact (sd_of hb).drop j) fun p hp q hq=>?_
 obtain ⟨t,t1,t2,e1⟩:=mem_cut hp
 obtain ⟨u,u1,u2,e2⟩:=mem_drop hq
 have:=hk t t1 t2
 have:=ha i u (Nat.zero_le _) u1 u2
 omega
theorem Mg.pushA (ha:Up a 0 a.size) (hb:Up b 0 b.size) (h:Mg a b o i j) (hi:i < a.size) (hj:j < b.size) (hk:K a i≤K b j):Mg a b (o.push a[i]) (i + 1) j:=by
 unfold Mg at h ⊢
 rw [drop_get hi] at h
 rw [Array.toList_push]
 refine h.left (by rw [← drop_get hi]; exact (sd_of ha).drop i) fun p hp q hq=>?_
 rw [List.mem_singleton.mp hp]
 obtain ⟨u,u1,u2,e2⟩:=mem_drop hq
 have:=hb j u (Nat.zero_le _) u1 u2
 have e:=K_get hi
 unfold ke at e2 ⊢
 omega
theorem Mg.pushB (ha:Up a 0 a.size) (hb:Up b 0 b.size) (h:Mg a b o i j) (hi:i < a.size) (hj:j < b.size) (hk:K b j≤K a i):Mg a b (o.push b[j]) i (j + 1):=by
 unfold Mg at h ⊢
 rw [drop_get hj] at h
 rw [Array.toList_push]
 refine h.right (by rw [← drop_get hj]; exact (sd_of hb).drop j) fun p hp q hq=>?_
 rw [List.mem_singleton.mp hp]
 obtain ⟨u,u1,u2,e2⟩:=mem_drop hq
 have:=ha i u (Nat.zero_le _) u1 u2
 have e:=K_get hj
 unfold ke at e2 ⊢
 omega
theorem ext_all (a:Array Keyed) (i:Nat):(a.extract i a.size).toList=a.toList.drop i:=by
 rw [ext_list,List.take_of_length_le (by simp)]
theorem Mg.dn (ha:Up a 0 a.size) (hb:Up b 0 b.size) (h:Mg a b o i j) (hz:j=b.size ∨ i=a.size):Good a b (o ++ a.extract i a.size ++ b.extract j b.size):=by
 unfold Mg at h
 unfold Good
 rw [Array.toList_append,Array.toList_append,ext_all,ext_all]
 rcases hz with rfl | rfl
 ·have e:b.toList.drop b.size=[]:=by simp
  rw [e] at h ⊢
  rw [List.append_nil]
  refine Ml.done (Ml.left (by simpa using h) (by simpa using (sd_of ha).drop i) fun p hp q hq=>by cases hq)
 ·have e:a.toList.drop a.size=[]:=by simp
  rw [e] at h ⊢
  rw [List.append_nil]
  refine Ml.done (Ml.right (by simpa using h) (by simpa using (sd_of hb).drop j) fun p hp q hq=>by cases hq)
theorem Mg.la (ha:Up a 0 a.size) (hb:Up b 0 b.size) (h:Mg a b o i j) (hi:i + 1=a.size) (hl:∀ t,t < b.size→K b t≤K a (a.size - 1)):Good a b (o ++ b.extract j b.size ++ a.extract i a.size):=by
 unfold Mg at h
 unfold Good
 rw [Array.toList_append,Array.toList_append,ext_all,ext_all]
 have h1:Ml (a.toList ++ b.toList) (o.toList ++ b.toList.drop j) (a.toList.drop i) []:=by
  refine Ml.right (by simpa using h) (by simpa using (sd_of hb).drop j) fun p hp q hq=>?_
  obtain ⟨t,t1,t2,e1⟩:=mem_drop hp
  obtain ⟨u,u1,u2,e2⟩:=mem_drop hq
  have:=hl t t2
  have:u=a.size - 1:=by omega
  subst this
  omega
 exact Ml.done (Ml.left (by simpa using h1) (by simpa using (sd_of ha).drop i) fun p hp q hq=>by cases hq)
end
section
variable {prog:Program} {w:World} {A:Around} {E:Value→Shared→Prop} {s:Shared}
noncomputable def Sg (st st':SortSt):Prop:=kindOf st'=kindOf st∧arrOf st'=arrOf st∧pendingOf st'=pendingOf st∧failedOf st'=failedOf st
theorem Sg.refl (st:SortSt):Sg st st:=⟨rfl,rfl,rfl,rfl⟩
theorem sMG_ok {st0 st:SortSt} {g:Nat} {Q:Unit→SortSt→Prop} (h0:Sg st0 st) (h:∀ st',Sg st0 st'→Q () st'):wpS (model prog w) A E s (sMG g) Q st:=by
 have e:sMG g=modify fun st=>SortSt.mk' (kindOf st) (arrOf st) (pendingOf st) g (failedOf st):=rfl
 rw [e]
 exact wpS_modify (h _ ⟨h0.1,h0.2.1,h0.2.2.1,h0.2.2.2⟩)
end
end SR
namespace SR
open PySem PyProof.Rows
section
variable {prog:Program} {w:World} {A:Around} {E:Value→Shared→Prop} {s:Shared}
structure Mid (a b o:Array Keyed) (i j:Nat):Prop where
 mg:Mg a b o i j
 ia:i + 1 < a.size
 jb:j < b.size
theorem wp_ite2 {σ α β:Type} {M:Model} {c:Prop} {dc:Decidable c} {T:β→StateT σ Sem α} {p:StateT σ Sem α} {Q:α→σ→Prop} {st:σ} {y x:β} (hp:p=T x) (h:∀ g,wpS M A E s (T g) Q st):wpS M A E s (if c then p else T y) Q st:=by
 split
 ·rw [hp]; exact h x
 ·exact h y
theorem wp_key {σ α β γ:Type} {M:Model} {c:Prop} {dc:Decidable c} {T:β→γ→StateT σ Sem α} {p:StateT σ Sem α} {Q:α→σ→Prop} {st:σ} {I:β→γ→Prop} {y1:β} {y2:γ} (hn:¬ c→I y1 y2)
  (ht:∀ o i,I o i→wpS M A E s (T o i) Q st) (hp:c→(∀ o i,I o i→wpS M A E s (T o i) Q st)→wpS M A E s p Q st):wpS M A E s (if c then p else T y1 y2) Q st:=by
 by_cases hc:c
 ·rw [if_pos hc]; exact hp hc ht
 ·rw [if_neg hc]; exact ht _ _ (hn hc)
theorem mLo_ok {a b:Array Keyed} {st:SortSt} {Q:Array Keyed→SortSt→Prop} (hk:kindOf st=oneType') (ia:IK a) (ib:IK b) (ha:Up a 0 a.size) (hb:Up b 0 b.size) (a1:1≤a.size) (b1:1≤b.size) (h0:K b 0≤K a 0) (hl:∀ t,t < b.size→K b t≤K a (a.size - 1))
  (h:∀ r st',Good a b r→Sg st st'→Q r st'):wpS (model prog w) A E s (mLo a b) Q st:=by
 rw [mLo_eq]
 dsimp only
 refine wpS_bind (wpS_lift (wpAny_rule ⟨rfl,?_⟩))
 refine wpS_bind (elem_ok (by omega) ?_)
 have m0:Mg a b #[b[0]] 0 1:=by
  have z:Mg a b #[] 0 0:=⟨by simp,List.Pairwise.nil,fun p hp=>by cases hp⟩
  exact z.pushB ha hb (by omega) (by omega) h0
 by_cases g1:1=b.size
 ·rw [if_pos (by simpa using g1)]
  exact wpS_pure (h _ _ (m0.dn ha hb (.inl g1)) (Sg.refl st))
 rw [if_neg (by simpa using g1)]
 by_cases g2:0 + 1=a.size
 ·rw [if_pos (by simpa using g2)]
  exact wpS_pure (h _ _ (m0.la ha hb g2 hl) (Sg.refl st))
 rw [if_neg (by simpa using g2)]
 refine wpS_bind (wpS_get ?_)
 have kd:∀ {st'},Sg st st'→kindOf st'=oneType':=fun z=>z.1.trans hk
 refine wpS_bind (wpS_mono (wpS_forRange (I:=fun x c st'=>Sg st st'∧∃ o i j g,c=(none,o,i,j,g)∧Mid a b o i j∧x + 1≤i + j)
  (Q:=fun c st'=>Sg st st'∧∃ r,c.1=some r∧Good a b r) ?step ?fin ⟨Sg.refl st,_,0,1,_,rfl,⟨m0,by omega,by omega⟩,by omega⟩) ?post)
 case fin=>
  rintro c st' ⟨_,o,i,j,g,_,m,hx⟩
  have:=m.ia; have:=m.jb
  omega
 case post=>
  rintro ⟨c,o,i,j,g⟩ st' ⟨z,r,e,hr⟩
  cases e
  exact wpS_pure (h r st' hr z)
 case step=>
  rintro x c st' _ hx ⟨z,o,i,j,g,rfl,m,hp⟩
  dsimp only
  refine wpS_bind (wpS_mono (wpS_forRange (I:=fun y c st'=>Sg st st'∧∃ o' i' j' ca cb,c=(none,o',i',j',ca,cb)∧Mid a b o' i' j'∧i + j + y≤i' + j')
   (Q:=fun c st'=>Sg st st'∧((∃ r,c.1=some r∧Good a b r) ∨ ∃ o' i' j' ca cb,c=(none,o',i',j',ca,cb)∧Mid a b o' i' j'∧i + j + 1≤i' + j')) ?s1 ?f1 ⟨z,o,i,j,0,0,rfl,m,by omega⟩) ?p1)
  case f1=>
   rintro c st' ⟨z,o',i',j',ca,cb,rfl,m,hy⟩
   exact ⟨z,.inr ⟨o',i',j',ca,cb,rfl,m,by omega⟩⟩
  case s1=>
   rintro y c st' _ hy ⟨z,o',i',j',ca,cb,rfl,m,hp'⟩
   dsimp only
   have mi:=m.ia
   have mj:=m.jb
   refine wpS_bind (elem_ok mj ?_)
   refine wpS_bind (elem_ok (by omega) ?_)
   refine wpS_bind (lt_ok (kd z) (ib.get mj) (ia.get (by omega)) ?_)
   dsimp only
   rw [← K_get mj,← K_get (show i' < a.size by omega)]
   by_cases hlt:K b j' < K a i'
   ·rw [if_pos (by simpa using hlt)]
    refine wpS_bind (elem_ok mj ?_)
    have m2:=m.mg.pushB ha hb (by omega) mj (Int.le_of_lt hlt)
    by_cases e1:j' + 1=b.size
    ·rw [if_pos (by simpa using e1)]
     exact wpS_pure ⟨z,.inl ⟨_,rfl,m2.dn ha hb (.inl e1)⟩⟩
    ·rw [if_neg (by simpa using e1)]
     split
     ·exact wpS_pure ⟨z,.inr ⟨_,_,_,_,_,rfl,⟨m2,by omega,by omega⟩,by omega⟩⟩
     ·exact wpS_pure ⟨z,_,_,_,_,_,rfl,⟨m2,by omega,by omega⟩,by omega⟩
   ·rw [if_neg (by simpa using hlt)]
    refine wpS_bind (elem_ok (by omega) ?_)
    have m2:=m.mg.pushA ha hb (by omega) mj (Int.not_lt.mp hlt)
    by_cases e1:i' + 1 + 1=a.size
    ·rw [if_pos (by simpa using e1)]
     exact wpS_pure ⟨z,.inl ⟨_,rfl,m2.la ha hb e1 hl⟩⟩
    ·rw [if_neg (by simpa using e1)]
     split
     ·exact wpS_pure ⟨z,.inr ⟨_,_,_,_,_,rfl,⟨m2,by omega,by omega⟩,by omega⟩⟩
     ·exact wpS_pure ⟨z,_,_,_,_,_,rfl,⟨m2,by omega,by omega⟩,by omega⟩
  case p1=>
   rintro c st' ⟨z,⟨r,e,hr⟩ | ⟨o',i',j',ca,cb,rfl,m,hp'⟩⟩
   ·obtain ⟨c,o',i',j',ca,cb⟩:=c
    cases e
    exact wpS_pure ⟨z,r,rfl,hr⟩
   dsimp only
   refine wpS_bind (wpS_lift (wpAny_rule ⟨rfl,?_⟩))
   refine wpS_bind (wpS_mono (wpS_forRange (I:=fun y c st'=>Sg st st'∧∃ o2 i2 j2 g ca cb,c=(none,o2,i2,j2,g,ca,cb)∧Mid a b o2 i2 j2∧i + j + 1≤i2 + j2)
    (Q:=fun c st'=>Sg st st'∧((∃ r,c.1=some r∧Good a b r) ∨ ∃ o2 i2 j2 g ca cb,c=(none,o2,i2,j2,g,ca,cb)∧Mid a b o2 i2 j2∧i + j + 1≤i2 + j2)) ?s2 ?f2 ⟨z,_,_,_,_,_,_,rfl,m,hp'⟩) ?p2)
   case f2=>
    rintro c st' ⟨z,o2,i2,j2,g2,ca,cb,rfl,m,hy⟩
    exact ⟨z,.inr ⟨o2,i2,j2,g2,ca,cb,rfl,m,hy⟩⟩
   case p2=>
    rintro c st' ⟨z,⟨r,e,hr⟩ | ⟨o2,i2,j2,g2,ca,cb,rfl,m,hp'⟩⟩
    ·obtain ⟨c,o2,i2,j2,g2,ca,cb⟩:=c
     cases e
     exact wpS_pure ⟨z,r,rfl,hr⟩
    dsimp only
    exact wpS_bind (sMG_ok z fun st' z=>wpS_pure ⟨z,_,_,_,_,rfl,m,by omega⟩)
   case s2=>
    rintro y c st' _ hy ⟨z,o2,i2,j2,g2,ca,cb,rfl,m,hp'⟩
    dsimp only
    have mi:=m.ia
    have mj:=m.jb
    have hm:=m.mg
    clear m
    apply wp_ite2 (y:=g2) (x:=g2 - 1)
    case hp=>rfl
    intro g3
    refine wpS_bind (sMG_ok z fun st' z=>?_)
    refine wpS_bind (elem_ok mj ?_)
    refine wpS_bind (gal_ok (kd z) ia (ib.get mj) (by omega) (by omega) (fun p q _ hpq hq=>ha p q (Nat.zero_le _) hpq (by omega)) fun k k1 k2 k3=>?_)
    dsimp only
    have q2:∀ t,t < k→i2 + t < a.size→K a (i2 + t)≤K b j2:=fun t ht _=>by
     have:=k2 t ht
     rw [K_get mj]
     simpa [bef] using this
    have q3:k < a.size - i2→K b j2≤K a (i2 + k):=fun hkk=>by
     have:=k3 k (Nat.le_refl _) hkk
     rw [K_get mj]
     exact Int.le_of_lt (by simpa [bef] using this)
    have hm':=hm.bulkA ha hb mj q2
    apply wp_key (I:=fun o3 i3=>Mg a b o3 i3 j2∧i3 + 1 < a.size∧i2≤i3∧K b j2≤K a i3) (y1:=o2) (y2:=i2)
    case hn=>
     intro hk0
     have hk1:k=0:=by omega
     subst hk1
     have hq3:=q3 (by omega)
     rw [Nat.add_zero] at hq3
     exact ⟨hm,by omega,Nat.le_refl _,hq3⟩
    case hp=>
     intro hk0 key
     split
     ·rename_i e3
      exact wpS_pure ⟨z,.inl ⟨_,rfl,hm'.la ha hb (by simpa using e3) hl⟩⟩
     ·rename_i e3
      split
      ·rename_i e4
       exact wpS_pure ⟨z,.inl ⟨_,rfl,hm'.dn ha hb (.inr (by simpa using e4))⟩⟩
      ·rename_i e4
       simp at e3 e4
       exact key _ _ ⟨hm',by omega,by omega,q3 (by omega)⟩
    intro o3 i3 y3
    obtain ⟨hm3,hi3,le3,hq3⟩:=y3
    have hi4:i3 < a.size:=by omega
    refine wpS_bind (elem_ok mj ?_)
    have m4:=hm3.pushB ha hb (by omega) mj hq3
    by_cases e4:j2 + 1=b.size
    ·rw [if_pos (by simpa using e4)]
     exact wpS_pure ⟨z,.inl ⟨_,rfl,m4.dn ha hb (.inl e4)⟩⟩
    rw [if_neg (by simpa using e4)]
    generalize o3.push b[j2]=o5 at m4 ⊢
    generalize ej:j2 + 1=j5 at m4 e4 ⊢
    refine wpS_bind (elem_ok hi4 ?_)
    refine wpS_bind (gal_ok (kd z) ib (ia.get hi4) (by omega) (by omega) (fun p q _ hpq hq=>hb p q (Nat.zero_le _) hpq (by omega)) fun u u1 u2 u3=>?_)
    dsimp only
    apply wp_key (I:=fun o4 j4=>Mg a b o4 i3 j4∧j4 < b.size∧j2 + 1≤j4∧K a i3≤K b j4) (y1:=o5) (y2:=j5)
    case hn=>
     intro hu
     have hu0:u=0:=by omega
     subst hu0
     have hq6:=u3 0 (Nat.le_refl _) (by omega)
     simp [bef] at hq6
     rw [← K_get hi4] at hq6
     exact ⟨m4,by omega,by omega,hq6⟩
    case hp=>
     intro hu key
     have hm6:=m4.bulkB (k:=u) ha hb hi4 fun t ht _=>by
      have:=u2 t ht
      rw [K_get hi4]
      exact Int.le_of_lt (by simpa [bef] using this)
     split
     ·rename_i e5
      exact wpS_pure ⟨z,.inl ⟨_,rfl,hm6.dn ha hb (.inl (by simpa using e5))⟩⟩
     ·rename_i e5
      simp at e5
      have hq6:=u3 u (Nat.le_refl _) (by omega)
      simp [bef] at hq6
      rw [← K_get hi4] at hq6
      exact key _ _ ⟨hm6,by omega,by omega,hq6⟩
    intro o4 j4 y4
    obtain ⟨hm6,hj6,le6,hq6⟩:=y4
    refine wpS_bind (elem_ok (by omega) ?_)
    have m6:=hm6.pushA ha hb (by omega) hj6 hq6
    split
    ·rename_i e6
     exact wpS_pure ⟨z,.inl ⟨_,rfl,m6.la ha hb (by simpa using e6) hl⟩⟩
    ·rename_i e6
     simp at e6
     split
     ·exact wpS_pure ⟨z,.inr ⟨_,_,_,_,_,_,rfl,⟨m6,by omega,by omega⟩,by omega⟩⟩
     ·exact wpS_pure ⟨z,_,_,_,_,_,_,rfl,⟨m6,by omega,by omega⟩,by omega⟩
end
end SR
namespace SR
open PySem PyProof.Rows
noncomputable def mHi:Array Keyed→Array Keyed→SM (Array Keyed):=sortPriv% PySem.Builtin.mergeHi
theorem mHi_eq (a b:Array Keyed):mHi a b=(do
 rule "list.sort.merge-hi"
 let tt:=a.size + b.size
 let dn (o:Array Keyed) (i j:Nat):=a.extract 0 i ++ b.extract 0 j ++ o.reverse
 let fb (o:Array Keyed) (i j:Nat):=b.extract 0 j ++ a.extract 0 i ++ o.reverse
 let mut i:=a.size - 1
 let mut j:=b.size
 let mut o:Array Keyed:=#[← elem' a i]
 if i == 0 then return dn o i j
 if j == 1 then return fb o i j
 let mut g:=gallopOf (← get)
 for _ in [0:tt] do
  let mut ca:=0
  let mut cb:=0
  for _ in [0:tt] do
   let some v ← lt' (← elem' b (j - 1)) (← elem' a (i - 1)) | return dn o i j
   if v then
    i:=i - 1; o:=o.push (← elem' a i); ca:=ca + 1; cb:=0
    if i == 0 then return dn o i j
    if ca ≥ g then break
   else
    j:=j - 1; o:=o.push (← elem' b j); cb:=cb + 1; ca:=0
    if j == 1 then return fb o i j
    if cb ≥ g then break
  rule "list.sort.gallop"
  g:=g + 1
  for _ in [0:tt] do
   if g > 1 then g:=g - 1
   sMG g
   let some z ← gal false (← elem' b (j - 1)) a 0 i (i - 1) | return dn o i j
   let k:=i - z
   ca:=k
   if k > 0 then
    o:=o ++ (a.extract z i).reverse; i:=z
    if i == 0 then return dn o i j
   j:=j - 1; o:=o.push (← elem' b j)
   if j == 1 then return fb o i j
   let some z ← gal true (← elem' a (i - 1)) b 0 j (j - 1) | return dn o i j
   let k:=j - z
   cb:=k
   if k > 0 then
    o:=o ++ (b.extract z j).reverse; j:=z
    if j == 1 then return fb o i j
    if j == 0 then return dn o i j
   i:=i - 1; o:=o.push (← elem' a i)
   if i == 0 then return dn o i j
   if ca < 7 && cb < 7 then break
  g:=g + 1
  sMG g
 unsupported "internal:list.sort.merge-bound"):=rfl
structure Mr (tot X Y o:List Keyed):Prop where
 perm:(X ++ Y ++ o).Perm tot
 sd:Sd o
 le:∀ q ∈ X ++ Y,∀ p ∈ o,ke q≤ke p
theorem Mr.swap {tot o X Y:List Keyed} (h:Mr tot X Y o):Mr tot Y X o:=⟨(List.perm_append_comm.append_right o).trans h.perm,h.sd,fun q hq=>h.le q (by rcases List.mem_append.mp hq with z | z <;> simp [z])⟩
theorem Mr.left {tot o L X Y:List Keyed} (h:Mr tot Y (X ++ L) o) (hs:Sd (X ++ L)) (hl:∀ q ∈ Y,∀ p ∈ L,ke q≤ke p):Mr tot Y X (L ++ o):=by
 obtain ⟨s1,s2,s3⟩:=List.pairwise_append.mp hs
 refine ⟨by simpa [List.append_assoc] using h.perm,List.pairwise_append.mpr ⟨s2,h.sd,fun p hp q hq=>h.le p (by simp [hp]) q hq⟩,fun q hq p hp=>?_⟩
 rcases List.mem_append.mp hp with hp | hp
 ·rcases List.mem_append.mp hq with hq | hq
  ·exact hl q hq p hp
  ·exact s3 q hq p hp
 ·refine h.le q ?_ p hp
  rcases List.mem_append.mp hq with hq | hq <;> simp [hq]
theorem Mr.right {tot o L X Y:List Keyed} (h:Mr tot (X ++ L) Y o) (hs:Sd (X ++ L)) (hl:∀ q ∈ Y,∀ p ∈ L,ke q≤ke p):Mr tot X Y (L ++ o):=(h.swap.left hs hl).swap
theorem Mr.done {tot o:List Keyed} (h:Mr tot [] [] o):o.Perm tot∧Sd o:=⟨by simpa using h.perm,h.sd⟩
noncomputable def Mt (a b o:Array Keyed) (i j:Nat):Prop:=Mr (a.toList ++ b.toList) (a.toList.take i) (b.toList.take j) o.toList.reverse
theorem Sd.take {l:List Keyed} (h:Sd l) (i:Nat):Sd (l.take i):=List.Pairwise.sublist (List.take_sublist i l) h
theorem mem_take {a:Array Keyed} {i:Nat} {p:Keyed} (h:p ∈ a.toList.take i):∃ t,t < i∧t < a.size∧ke p=K a t:=by
 obtain ⟨t,h1,h2,e⟩:=mem_cut (i:=0) (k:=i) (a:=a) (p:=p) (by simpa using h)
 exact ⟨t,h1,by omega,by simpa using e⟩
theorem take_get {a:Array Keyed} {i:Nat} (hi:i < a.size):a.toList.take (i + 1)=a.toList.take i ++ [a[i]]:=by
 rw [List.take_succ_eq_append_getElem (by simpa using hi)]
 simp
theorem take_cut {a:Array Keyed} {z i:Nat} (hz:z≤i):a.toList.take i=a.toList.take z ++ (a.toList.drop z).take (i - z):=by
 have e:i=z + (i - z):=by omega
 conv=>lhs; rw [e,List.take_add]
theorem ext_take (a:Array Keyed) (i:Nat):(a.extract 0 i).toList=a.toList.take i:=by
 rw [ext_list]; simp
section
variable {a b o:Array Keyed} {i j k z:Nat}
theorem Mt.bulkA (ha:Up a 0 a.size) (hb:Up b 0 b.size) (h:Mt a b o i j) (hj:j≤b.size) (j1:1≤j) (hz:z≤i) (hi:i≤a.size) (hk:∀ t,z≤t→t < i→K b (j - 1)≤K a t):Mt a b (o ++ (a.extract z i).reverse) z j:=by
 unfold Mt at h ⊢
 have e:(o ++ (a.extract z i).reverse).toList.reverse=(a.toList.drop z).take (i - z) ++ o.toList.reverse:=by rw [Array.toList_append,List.reverse_append,Array.toList_reverse,List.reverse_reverse,ext_list]
 rw [e]
 rw [take_cut hz] at h
 refine h.right (by rw [← take_cut hz]; exact (sd_of ha).take i) fun q hq p hp=>?_
 obtain ⟨t,t1,t2,e1⟩:=mem_cut hp
 obtain ⟨u,u1,u2,e2⟩:=mem_take hq
 have:=hk (z + t) (by omega) (by omega)
 have:=hb u (j - 1) (Nat.zero_le _) (by omega) (by omega)
 omega
theorem Mt.bulkB (ha:Up a 0 a.size) (hb:Up b 0 b.size) (h:Mt a b o i j) (hj:j≤b.size) (i1:1≤i) (hz:z≤j) (hi:i≤a.size) (hk:∀ t,z≤t→t < j→K a (i - 1)≤K b t):Mt a b (o ++ (b.extract z j).reverse) i z:=by
 unfold Mt at h ⊢
 have e:(o ++ (b.extract z j).reverse).toList.reverse=(b.toList.drop z).take (j - z) ++ o.toList.reverse:=by rw [Array.toList_append,List.reverse_append,Array.toList_reverse,List.reverse_reverse,ext_list]
 rw [e]
 rw [take_cut hz] at h
 refine h.left (by rw [← take_cut hz]; exact (sd_of hb).take j) fun q hq p hp=>?_
 obtain ⟨t,t1,t2,e1⟩:=mem_cut hp
 obtain ⟨u,u1,u2,e2⟩:=mem_take hq
 have:=hk (z + t) (by omega) (by omega)
 have:=ha u (i - 1) (Nat.zero_le _) (by omega) (by omega)
 omega
theorem Mt.pushA (ha:Up a 0 a.size) (hb:Up b 0 b.size) (h:Mt a b o (i + 1) j) (hi:i < a.size) (hk:∀ t,t < j→t < b.size→K b t≤K a i):Mt a b (o.push a[i]) i j:=by
 unfold Mt at h ⊢
 rw [take_get hi] at h
 rw [Array.toList_push,List.reverse_append]
 refine h.right (by rw [← take_get hi]; exact (sd_of ha).take _) fun q hq p hp=>?_
 rw [List.mem_singleton.mp hp]
 obtain ⟨u,u1,u2,e2⟩:=mem_take hq
 have:=hk u u1 u2
 have e:=K_get hi
 unfold ke at e2 ⊢
 omega
theorem Mt.pushB (ha:Up a 0 a.size) (hb:Up b 0 b.size) (h:Mt a b o i (j + 1)) (hj:j < b.size) (hk:∀ t,t < i→t < a.size→K a t≤K b j):Mt a b (o.push b[j]) i j:=by
 unfold Mt at h ⊢
 rw [take_get hj] at h
 rw [Array.toList_push,List.reverse_append]
 refine h.left (by rw [← take_get hj]; exact (sd_of hb).take _) fun q hq p hp=>?_
 rw [List.mem_singleton.mp hp]
 obtain ⟨u,u1,u2,e2⟩:=mem_take hq
 have:=hk u u1 u2
 have e:=K_get hj
 unfold ke at e2 ⊢
 omega
theorem Mt.dn (ha:Up a 0 a.size) (hb:Up b 0 b.size) (h:Mt a b o i j) (hz:i=0 ∨ j=0):Good a b (a.extract 0 i ++ b.extract 0 j ++ o.reverse):=by
 unfold Mt at h
 unfold Good
 rw [Array.toList_append,Array.toList_append,ext_take,ext_take,Array.toList_reverse]
 rcases hz with rfl | rfl
 ·rw [List.take_zero] at h ⊢
  rw [List.nil_append]
  exact Mr.done (Mr.left (by simpa using h) (by simpa using (sd_of hb).take j) fun q hq=>by cases hq)
 ·rw [List.take_zero] at h ⊢
  rw [List.append_nil]
  exact Mr.done (Mr.right (by simpa using h) (by simpa using (sd_of ha).take i) fun q hq=>by cases hq)
theorem Mt.fb (ha:Up a 0 a.size) (hb:Up b 0 b.size) (h:Mt a b o i j) (hj:j=1) (hl:∀ t,t < a.size→K b 0≤K a t):Good a b (b.extract 0 j ++ a.extract 0 i ++ o.reverse):=by
 subst hj
 unfold Mt at h
 unfold Good
 rw [Array.toList_append,Array.toList_append,ext_take,ext_take,Array.toList_reverse,List.append_assoc]
 have h1:Mr (a.toList ++ b.toList) [] (b.toList.take 1) (a.toList.take i ++ o.toList.reverse):=by
  refine Mr.right (by simpa using h) (by simpa using (sd_of ha).take i) fun q hq p hp=>?_
  obtain ⟨t,t1,t2,e1⟩:=mem_take hp
  obtain ⟨u,u1,u2,e2⟩:=mem_take hq
  have:=hl t t2
  have:u=0:=by omega
  subst this
  omega
 exact Mr.done (Mr.left (by simpa using h1) (by simpa using (sd_of hb).take 1) fun q hq=>by cases hq)
end
section
variable {prog:Program} {w:World} {A:Around} {E:Value→Shared→Prop} {s:Shared}
structure Mie (a b o:Array Keyed) (i j:Nat):Prop where
 mg:Mt a b o i j
 i1:1≤i
 ia:i≤a.size
 j1:2≤j
 jb:j≤b.size
set_option maxHeartbeats 2000000 in
theorem mHi_ok {a b:Array Keyed} {st:SortSt} {Q:Array Keyed→SortSt→Prop} (hk:kindOf st=oneType') (ia:IK a) (ib:IK b) (ha:Up a 0 a.size) (hb:Up b 0 b.size) (a1:1≤a.size) (b1:1≤b.size) (hl:∀ t,t < a.size→K b 0≤K a t) (h0:∀ t,t < b.size→K b t≤K a (a.size - 1))
  (h:∀ r st',Good a b r→Sg st st'→Q r st'):wpS (model prog w) A E s (mHi a b) Q st:=by
 rw [mHi_eq]
 dsimp only
 refine wpS_bind (wpS_lift (wpAny_rule ⟨rfl,?_⟩))
 refine wpS_bind (elem_ok (by omega) ?_)
 have m0:Mt a b #[a[a.size - 1]] (a.size - 1) b.size:=by
  have z:Mt a b #[] (a.size - 1 + 1) b.size:=⟨by rw [show a.size - 1 + 1=a.size by omega,List.take_of_length_le (by simp),List.take_of_length_le (by simp)]; simp,List.Pairwise.nil,fun q hq p hp=>by cases hp⟩
  exact z.pushA ha hb (by omega) fun t _ ht=>h0 t ht
 by_cases g1:a.size - 1=0
 ·rw [if_pos (by simpa using g1)]
  exact wpS_pure (h _ _ (m0.dn ha hb (.inl g1)) (Sg.refl st))
 rw [if_neg (by simpa using g1)]
 by_cases g2:b.size=1
 ·rw [if_pos (by simpa using g2)]
  exact wpS_pure (h _ _ (m0.fb ha hb g2 hl) (Sg.refl st))
 rw [if_neg (by simpa using g2)]
 refine wpS_bind (wpS_get ?_)
 have kd:∀ {st'},Sg st st'→kindOf st'=oneType':=fun z=>z.1.trans hk
 refine wpS_bind (wpS_mono (wpS_forRange (I:=fun x c st'=>Sg st st'∧∃ o i j g,c=(none,i,j,o,g)∧Mie a b o i j∧i + j + x + 1≤a.size + b.size)
  (Q:=fun c st'=>Sg st st'∧∃ r,c.1=some r∧Good a b r) ?step ?fin ⟨Sg.refl st,_,_,_,_,rfl,⟨m0,by omega,by omega,by omega,by omega⟩,by omega⟩) ?post)
 all_goals skip
 case fin=>
  rintro c st' ⟨_,o,i,j,g,_,m,hx⟩
  have:=m.i1
  omega
 case post=>
  rintro ⟨c,i,j,o,g⟩ st' ⟨z,r,e,hr⟩
  cases e
  exact wpS_pure (h r st' hr z)
 case step=>
  rintro x c st' _ hx ⟨z,o,i,j,g,rfl,m,hp⟩
  dsimp only
  refine wpS_bind (wpS_mono (wpS_forRange (I:=fun y c st'=>Sg st st'∧∃ o' i' j' ca cb,c=(none,i',j',o',ca,cb)∧Mie a b o' i' j'∧i' + j' + y≤i + j)
   (Q:=fun c st'=>Sg st st'∧((∃ r,c.1=some r∧Good a b r) ∨ ∃ o' i' j' ca cb,c=(none,i',j',o',ca,cb)∧Mie a b o' i' j'∧i' + j' + 1≤i + j)) ?s1 ?f1 ⟨z,_,_,_,0,0,rfl,m,by omega⟩) ?p1)
  case f1=>
   rintro c st' ⟨z,o',i',j',ca,cb,rfl,m,hy⟩
   exact ⟨z,.inr ⟨o',i',j',ca,cb,rfl,m,by omega⟩⟩
  case s1=>
   rintro y c st' _ hy ⟨z,o',i',j',ca,cb,rfl,⟨mm,mi1,mi,mj1,mj⟩,hp'⟩
   dsimp only
   have hj9:j' - 1 < b.size:=by omega
   have hi9:i' - 1 < a.size:=by omega
   refine wpS_bind (elem_ok hj9 ?_)
   refine wpS_bind (elem_ok hi9 ?_)
   refine wpS_bind (lt_ok (kd z) (ib.get hj9) (ia.get hi9) ?_)
   dsimp only
   rw [← K_get hj9,← K_get hi9]
   by_cases hlt:K b (j' - 1) < K a (i' - 1)
   ·rw [if_pos (by simpa using hlt)]
    refine wpS_bind (elem_ok hi9 ?_)
    have m2:=Mt.pushA (i:=i' - 1) ha hb (by rw [show i' - 1 + 1=i' by omega]; exact mm) hi9 fun t h1 h2=>Int.le_trans (hb t (j' - 1) (Nat.zero_le _) (by omega) hj9) (Int.le_of_lt hlt)
    by_cases e1:i' - 1=0
    ·rw [if_pos (by simpa using e1)]
     exact wpS_pure ⟨z,.inl ⟨_,rfl,m2.dn ha hb (.inl e1)⟩⟩
    ·rw [if_neg (by simpa using e1)]
     split
     ·exact wpS_pure ⟨z,.inr ⟨_,_,_,_,_,rfl,⟨m2,by omega,by omega,by omega,by omega⟩,by omega⟩⟩
     ·exact wpS_pure ⟨z,_,_,_,_,_,rfl,⟨m2,by omega,by omega,by omega,by omega⟩,by omega⟩
   ·rw [if_neg (by simpa using hlt)]
    refine wpS_bind (elem_ok hj9 ?_)
    have m2:=Mt.pushB (j:=j' - 1) ha hb (by rw [show j' - 1 + 1=j' by omega]; exact mm) hj9 fun t h1 h2=>Int.le_trans (ha t (i' - 1) (Nat.zero_le _) (by omega) hi9) (Int.not_lt.mp hlt)
    by_cases e1:j' - 1=1
    ·rw [if_pos (by simpa using e1)]
     exact wpS_pure ⟨z,.inl ⟨_,rfl,m2.fb ha hb e1 hl⟩⟩
    ·rw [if_neg (by simpa using e1)]
     split
     ·exact wpS_pure ⟨z,.inr ⟨_,_,_,_,_,rfl,⟨m2,by omega,by omega,by omega,by omega⟩,by omega⟩⟩
     ·exact wpS_pure ⟨z,_,_,_,_,_,rfl,⟨m2,by omega,by omega,by omega,by omega⟩,by omega⟩
  case p1=>
   rintro c st' ⟨z,⟨r,e,hr⟩ | ⟨o',i',j',ca,cb,rfl,m,hp'⟩⟩
   ·obtain ⟨c,o',i',j',ca,cb⟩:=c
    cases e
    exact wpS_pure ⟨z,r,rfl,hr⟩
   dsimp only
   refine wpS_bind (wpS_lift (wpAny_rule ⟨rfl,?_⟩))
   refine wpS_bind (wpS_mono (wpS_forRange (I:=fun y c st'=>Sg st st'∧∃ o2 i2 j2 g ca cb,c=(none,i2,j2,o2,g,ca,cb)∧Mie a b o2 i2 j2∧i2 + j2 + 1≤i + j)
    (Q:=fun c st'=>Sg st st'∧((∃ r,c.1=some r∧Good a b r) ∨ ∃ o2 i2 j2 g ca cb,c=(none,i2,j2,o2,g,ca,cb)∧Mie a b o2 i2 j2∧i2 + j2 + 1≤i + j)) ?s2 ?f2 ⟨z,_,_,_,_,_,_,rfl,m,hp'⟩) ?p2)
   case f2=>
    rintro c st' ⟨z,o2,i2,j2,g2,ca,cb,rfl,m,hy⟩
    exact ⟨z,.inr ⟨o2,i2,j2,g2,ca,cb,rfl,m,hy⟩⟩
   case p2=>
    rintro c st' ⟨z,⟨r,e,hr⟩ | ⟨o2,i2,j2,g2,ca,cb,rfl,m,hp'⟩⟩
    ·obtain ⟨c,o2,i2,j2,g2,ca,cb⟩:=c
     cases e
     exact wpS_pure ⟨z,r,rfl,hr⟩
    dsimp only
    exact wpS_bind (sMG_ok z fun st' z=>wpS_pure ⟨z,_,_,_,_,rfl,m,by omega⟩)
   case s2=>
    rintro y c st' _ hy ⟨z,o2,i2,j2,g2,ca,cb,rfl,⟨hm,mi1,mi,mj1,mj⟩,hp'⟩
    dsimp only
    have hj9:j2 - 1 < b.size:=by omega
    by_cases hg:g2 > 1
    all_goals (first | rw [if_pos hg] | rw [if_neg hg])
    all_goals
     refine wpS_bind (sMG_ok z fun st' z=>?_)
     refine wpS_bind (elem_ok hj9 ?_)
     refine wpS_bind (gal_ok (kd z) ia (ib.get hj9) (by omega) (by omega) (fun p q _ hpq hq=>ha p q (Nat.zero_le _) hpq (by omega)) fun k k1 k2 k3=>?_)
     dsimp only
     have q2:∀ t,t < k→t < a.size→K a t≤K b (j2 - 1):=fun t ht _=>by
      have:=k2 t ht
      rw [K_get hj9]
      simpa [bef] using this
     have q3:∀ t,k≤t→t < i2→K b (j2 - 1)≤K a t:=fun t h1 h2=>by
      have:=k3 t h1 h2
      rw [K_get hj9]
      exact Int.le_of_lt (by simpa [bef] using this)
     by_cases hk0:i2 - k > 0
     ·rw [if_pos hk0]
      have hm3:=hm.bulkA (z:=k) ha hb mj (by omega) k1 mi q3
      split
      ·rename_i e3
       exact wpS_pure ⟨z,.inl ⟨_,rfl,hm3.dn ha hb (.inl (by simpa using e3))⟩⟩
      ·rename_i e3
       simp at e3
       obtain ⟨i3,hi3⟩:∃ i3,i3=k:=⟨k,rfl⟩
       subst hi3
       have hq3:=q2
       refine wpS_bind (elem_ok (by omega) ?_)
       have m4:=Mt.pushB (j:=j2 - 1) ha hb (by rw [show j2 - 1 + 1=j2 by omega]; exact hm3) (by omega) hq3
       split
       ·rename_i e4
        exact wpS_pure ⟨z,.inl ⟨_,rfl,m4.fb ha hb (by simpa using e4) hl⟩⟩
       rename_i e4
       simp at e4
       have hi4:i3 - 1 < a.size:=by omega
       refine wpS_bind (elem_ok hi4 ?_)
       refine wpS_bind (gal_ok (kd z) ib (ia.get hi4) (by omega) (by omega) (fun p q _ hpq hq=>hb p q (Nat.zero_le _) hpq (by omega)) fun u u1 u2 u3=>?_)
       dsimp only
       have v2:∀ t,t < u→K b t≤K a (i3 - 1):=fun t ht=>by
        have:=u2 t ht
        rw [K_get hi4]
        exact Int.le_of_lt (by simpa [bef] using this)
       have v3:∀ t,u≤t→t < j2 - 1→K a (i3 - 1)≤K b t:=fun t h1 h2=>by
        have:=u3 t h1 h2
        rw [K_get hi4]
        simpa [bef] using this
       by_cases hu:j2 - 1 - u > 0
       ·rw [if_pos hu]
        have hm6:=m4.bulkB (z:=u) ha hb (by omega) (by omega) (by omega) (by omega) v3
        split
        ·rename_i e5
         exact wpS_pure ⟨z,.inl ⟨_,rfl,hm6.fb ha hb (by simpa using e5) hl⟩⟩
        ·rename_i e5
         split
         ·rename_i e7
          exact wpS_pure ⟨z,.inl ⟨_,rfl,hm6.dn ha hb (.inr (by simpa using e7))⟩⟩
         ·rename_i e7
          simp at e5 e7
          have hq6:∀ t,t < u→t < b.size→K b t≤K a (i3 - 1):=fun t h1 _=>v2 t h1
          refine wpS_bind (elem_ok (by omega) ?_)
          have m6:=Mt.pushA (i:=i3 - 1) ha hb (by rw [show i3 - 1 + 1=i3 by omega]; exact hm6) (by omega) hq6
          split
          ·rename_i e6
           exact wpS_pure ⟨z,.inl ⟨_,rfl,m6.dn ha hb (.inl (by simpa using e6))⟩⟩
          ·rename_i e6
           simp at e6
           split
           ·exact wpS_pure ⟨z,.inr ⟨_,_,_,_,_,_,rfl,⟨m6,by omega,by omega,by omega,by omega⟩,by omega⟩⟩
           ·exact wpS_pure ⟨z,_,_,_,_,_,_,rfl,⟨m6,by omega,by omega,by omega,by omega⟩,by omega⟩
       ·rw [if_neg hu]
        have hu0:u=j2 - 1:=by omega
        have hm6:=m4
        have hq6:∀ t,t < j2 - 1→t < b.size→K b t≤K a (i3 - 1):=fun t h1 _=>v2 t (by omega)
        refine wpS_bind (elem_ok (by omega) ?_)
        have m6:=Mt.pushA (i:=i3 - 1) ha hb (by rw [show i3 - 1 + 1=i3 by omega]; exact hm6) (by omega) hq6
        split
        ·rename_i e6
         exact wpS_pure ⟨z,.inl ⟨_,rfl,m6.dn ha hb (.inl (by simpa using e6))⟩⟩
        ·rename_i e6
         simp at e6
         split
         ·exact wpS_pure ⟨z,.inr ⟨_,_,_,_,_,_,rfl,⟨m6,by omega,by omega,by omega,by omega⟩,by omega⟩⟩
         ·exact wpS_pure ⟨z,_,_,_,_,_,_,rfl,⟨m6,by omega,by omega,by omega,by omega⟩,by omega⟩
     ·rw [if_neg hk0]
      have hk1:k=i2:=by omega
      subst hk1
      have hm3:=hm
      obtain ⟨i3,hi3⟩:∃ i3,i3=k:=⟨k,rfl⟩
      subst hi3
      have hq3:=q2
      refine wpS_bind (elem_ok (by omega) ?_)
      have m4:=Mt.pushB (j:=j2 - 1) ha hb (by rw [show j2 - 1 + 1=j2 by omega]; exact hm3) (by omega) hq3
      split
      ·rename_i e4
       exact wpS_pure ⟨z,.inl ⟨_,rfl,m4.fb ha hb (by simpa using e4) hl⟩⟩
      rename_i e4
      simp at e4
      have hi4:i3 - 1 < a.size:=by omega
      refine wpS_bind (elem_ok hi4 ?_)
      refine wpS_bind (gal_ok (kd z) ib (ia.get hi4) (by omega) (by omega) (fun p q _ hpq hq=>hb p q (Nat.zero_le _) hpq (by omega)) fun u u1 u2 u3=>?_)
      dsimp only
      have v2:∀ t,t < u→K b t≤K a (i3 - 1):=fun t ht=>by
       have:=u2 t ht
       rw [K_get hi4]
       exact Int.le_of_lt (by simpa [bef] using this)
      have v3:∀ t,u≤t→t < j2 - 1→K a (i3 - 1)≤K b t:=fun t h1 h2=>by
       have:=u3 t h1 h2
       rw [K_get hi4]
       simpa [bef] using this
      by_cases hu:j2 - 1 - u > 0
      ·rw [if_pos hu]
       have hm6:=m4.bulkB (z:=u) ha hb (by omega) (by omega) (by omega) (by omega) v3
       split
       ·rename_i e5
        exact wpS_pure ⟨z,.inl ⟨_,rfl,hm6.fb ha hb (by simpa using e5) hl⟩⟩
       ·rename_i e5
        split
        ·rename_i e7
         exact wpS_pure ⟨z,.inl ⟨_,rfl,hm6.dn ha hb (.inr (by simpa using e7))⟩⟩
        ·rename_i e7
         simp at e5 e7
         have hq6:∀ t,t < u→t < b.size→K b t≤K a (i3 - 1):=fun t h1 _=>v2 t h1
         refine wpS_bind (elem_ok (by omega) ?_)
         have m6:=Mt.pushA (i:=i3 - 1) ha hb (by rw [show i3 - 1 + 1=i3 by omega]; exact hm6) (by omega) hq6
         split
         ·rename_i e6
          exact wpS_pure ⟨z,.inl ⟨_,rfl,m6.dn ha hb (.inl (by simpa using e6))⟩⟩
         ·rename_i e6
          simp at e6
          split
          ·exact wpS_pure ⟨z,.inr ⟨_,_,_,_,_,_,rfl,⟨m6,by omega,by omega,by omega,by omega⟩,by omega⟩⟩
          ·exact wpS_pure ⟨z,_,_,_,_,_,_,rfl,⟨m6,by omega,by omega,by omega,by omega⟩,by omega⟩
      ·rw [if_neg hu]
       have hu0:u=j2 - 1:=by omega
       have hm6:=m4
       have hq6:∀ t,t < j2 - 1→t < b.size→K b t≤K a (i3 - 1):=fun t h1 _=>v2 t (by omega)
       refine wpS_bind (elem_ok (by omega) ?_)
       have m6:=Mt.pushA (i:=i3 - 1) ha hb (by rw [show i3 - 1 + 1=i3 by omega]; exact hm6) (by omega) hq6
       split
       ·rename_i e6
        exact wpS_pure ⟨z,.inl ⟨_,rfl,m6.dn ha hb (.inl (by simpa using e6))⟩⟩
       ·rename_i e6
        simp at e6
        split
        ·exact wpS_pure ⟨z,.inr ⟨_,_,_,_,_,_,rfl,⟨m6,by omega,by omega,by omega,by omega⟩,by omega⟩⟩
        ·exact wpS_pure ⟨z,_,_,_,_,_,_,rfl,⟨m6,by omega,by omega,by omega,by omega⟩,by omega⟩
end
end SR
namespace SR
open PySem PyProof.Rows
structure SB (a0 A0:Array Keyed) (P:Array (Nat × Nat × Nat)) (lo:Nat) (st:SortSt):Prop where
 perm:(arrOf st).Perm a0
 kind:kindOf st=oneType'
 failed:failedOf st=none
 pend:pendingOf st=P
 low:∀ t,t < lo→K (arrOf st) t=K A0 t
theorem SB.size {a0 A0:Array Keyed} {P:Array (Nat × Nat × Nat)} {lo:Nat} {st:SortSt} (h:SB a0 A0 P lo st):(arrOf st).size=a0.size:=h.perm.size_eq
theorem ik_perm {a b:Array Keyed} (h:IK b) (p:a.Perm b):IK a:=fun x hx=>h x ((Array.perm_iff_toList_perm.mp p).mem_iff.mp hx)
theorem SB.arr {a0 A0:Array Keyed} {P:Array (Nat × Nat × Nat)} {lo:Nat} {st:SortSt} (h:SB a0 A0 P lo st) {xs:Array Keyed} (p:xs.Perm (arrOf st)) (hl:∀ t,t < lo→K xs t=K (arrOf st) t):SB a0 A0 P lo (setArr st xs):=
 ⟨p.trans h.perm,h.kind,h.failed,h.pend,fun t ht=>(hl t ht).trans (h.low t ht)⟩
section
variable {prog:Program} {w:World} {A:Around} {E:Value→Shared→Prop} {s:Shared} {a0 A0:Array Keyed} {P:Array (Nat × Nat × Nat)} {lo:Nat}
theorem at_ok {st:SortSt} {i j:Nat} {Q:Option Bool→SortSt→Prop} (hB:SB a0 A0 P lo st) (h0:IK a0) (hi:i < a0.size) (hj:j < a0.size) (h:Q (some (decide (K (arrOf st) i < K (arrOf st) j))) st):wpS (model prog w) A E s (ltAt' i j) Q st:=by
 have h1:i < (arrOf st).size:=by rw [hB.size]; exact hi
 have h2:j < (arrOf st).size:=by rw [hB.size]; exact hj
 have ik:=ik_perm h0 hB.perm
 rw [ltAt'_eq]
 refine wpS_bind (wpS_get ?_)
 refine wpS_bind (elem_ok h1 (wpS_bind (elem_ok h2 (lt_ok hB.kind (ik.get h1) (ik.get h2) ?_))))
 rw [K_get h1,K_get h2] at h
 exact h
theorem rev_ok {st:SortSt} {i j:Nat} {Q:Unit→SortSt→Prop} (hB:SB a0 A0 P lo st) (hi:lo≤i) (hj:j≤a0.size) (h:SB a0 A0 P lo (setArr st (mirror (arrOf st) i j ((j - i) / 2)))→Q () (setArr st (mirror (arrOf st) i j ((j - i) / 2)))):wpS (model prog w) A E s (reverseSlice' i j) Q st:=by
 rw [reverseSlice'_eq]
 refine wpS_modify (h (hB.arr (mirror_perm _ _ _ _) fun t ht=>?_))
 rw [K_mirror (by rw [hB.size]; exact hj),if_neg (by omega)]
theorem bins_ok {st:SortSt} {n ok:Nat} {Q:Bool→SortSt→Prop} (h0:IK a0) (hn:lo + n≤a0.size) (hB:SB a0 A0 P lo st) (hs:Up (arrOf st) lo (lo + ok)) (hok:ok≤n)
  (h:∀ st',SB a0 A0 P lo st'→Up (arrOf st') lo (lo + n)→Q true st'):wpS (model prog w) A E s (binarySort' lo n ok) Q st:=by
 rw [binarySort'_eq]
 refine wpS_bind (wpS_mono (wpS_forRange (I:=fun k c st'=>c=(none,())∧SB a0 A0 P lo st'∧Up (arrOf st') lo (lo + min k n))
  (Q:=fun c st'=>c=(none,())∧SB a0 A0 P lo st'∧Up (arrOf st') lo (lo + n)) ?ste ?fi ⟨rfl,hB,?ini⟩) ?po)
 case ini=>
  intro i j h1 h2 h3
  by_cases z:ok=0
  ·have:i=j:=by omega
   subst this; exact Int.le_refl _
  ·exact hs i j h1 h2 (by omega)
 case po=>
  rintro c st' ⟨rfl,b1,b2⟩
  exact wpS_pure (h st' b1 b2)
 case fi=>
  rintro c st' ⟨hc,b1,b2⟩
  rw [show min (max (max ok 1) n) n=n by omega] at b2
  exact ⟨hc,b1,b2⟩
 case ste=>
  rintro k c st' hak hkn ⟨rfl,b1,b2⟩
  rw [show min k n=k by omega] at b2
  refine wpS_bind (wpS_mono (wpS_forRange (I:=fun x c st2=>st2=st'∧∃ l r,c=(none,l,r)∧l≤r∧r≤k∧r - l≤k - x∧(∀ i,lo≤i→i < lo + l→K (arrOf st') i≤K (arrOf st') (lo + k))∧(∀ i,lo + r≤i→i < lo + k→K (arrOf st') (lo + k) < K (arrOf st') i))
   (Q:=fun c st2=>st2=st'∧∃ l r,c=(none,l,r)∧l≤k∧(∀ i,lo≤i→i < lo + l→K (arrOf st') i≤K (arrOf st') (lo + k))∧(∀ i,lo + l≤i→i < lo + k→K (arrOf st') (lo + k) < K (arrOf st') i)) ?a ?b ⟨rfl,0,k,rfl,by omega,by omega,by omega,fun i _ hi=>by omega,fun i _ _=>by omega⟩) ?c)
  case b=>
   rintro c st2 ⟨rfl,l,r,rfl,c1,c2,c3,c4,c5⟩
   have:l=r:=by omega
   subst this
   exact ⟨rfl,l,l,rfl,c2,c4,c5⟩
  case a=>
   rintro x c st2 _ hx ⟨rfl,l,r,rfl,c1,c2,c3,c4,c5⟩
   dsimp only
   by_cases g:l ≥ r
   ·rw [if_pos g]
    have:l=r:=by omega
    subst this
    exact wpS_pure ⟨rfl,l,l,rfl,c2,c4,c5⟩
   ·rw [if_neg g]
    refine wpS_bind (at_ok b1 h0 (by omega) (by omega) ?_)
    by_cases hl:K (arrOf st2) (lo + k) < K (arrOf st2) (lo + (l + r) / 2)
    ·simp only [hl,decide_true,if_true]
     exact wpS_pure ⟨rfl,l,(l + r) / 2,rfl,by omega,by omega,by omega,c4,fun i h1 h2=>Int.lt_of_lt_of_le hl (b2 _ _ (by omega) h1 h2)⟩
    ·simp only [hl,decide_false,Bool.false_eq_true,if_false]
     exact wpS_pure ⟨rfl,(l + r) / 2 + 1,r,rfl,by omega,by omega,by omega,fun i h1 h2=>Int.le_trans (b2 i (lo + (l + r) / 2) h1 (by omega) (by omega)) (Int.not_lt.mp hl),c5⟩
  case c=>
   rintro c st2 ⟨rfl,l,r,rfl,c2,c4,c5⟩
   show wpS _ _ _ _ (do moveDown' (lo + k) (lo + l); pure (ForInStep.yield (none,()))) _ _
   rw [moveDown'_eq]
   have hks:lo + k < (arrOf st2).size:=by rw [b1.size]; omega
   have kb:=fun t=>K_bubble (xs:=arrOf st2) (src:=lo + k) (d:=lo + k - (lo + l)) hks (by omega) t
   rw [show lo + k - (lo + k - (lo + l))=lo + l by omega] at kb
   refine wpS_bind (wpS_modify (wpS_pure ⟨rfl,b1.arr (bubble_perm _ _ _) fun t ht=>?_,fun i j h1 h2 h3=>?_⟩))
   ·rw [kb,if_neg (by omega),if_neg (by omega)]
   ·rw [show min (k + 1) n=k + 1 by omega] at h3
    show K (bubble _ _ _) i≤K (bubble _ _ _) j
    rw [kb,kb]
    repeat' split
    all_goals first
     | (exfalso; omega)
     | exact Int.le_refl _
     | exact c4 _ (by omega) (by omega)
     | exact Int.le_of_lt (c5 _ (by omega) (by omega))
     | exact b2 _ _ (by omega) (by omega) (by omega)
end
end SR
namespace SR
open PySem PyProof.Rows
theorem mir {xs:Array Keyed} {i j:Nat} (hj:j≤xs.size) (h:∀ k,i≤k→k < j→K xs k=K xs (j - 1)) (k:Nat):K (mirror xs i j ((j - i) / 2)) k=K xs k:=by
 rw [K_mirror hj]
 split
 ·rw [h _ (by omega) (by omega),h k (by omega) (by omega)]
 ·rfl
section
variable {prog:Program} {w:World} {A:Around} {E:Value→Shared→Prop} {s:Shared} {a0 A0:Array Keyed} {P:Array (Nat × Nat × Nat)} {lo:Nat}
noncomputable abbrev AS:=Option (Option Nat) × Nat
theorem asc_ok {st:SortSt} {a nrem:Nat} {f:Nat→AS→SM (ForInStep AS)} {Q:AS→SortSt→Prop} (h0:IK a0) (hn:lo + nrem≤a0.size) (ha:1≤a) (han:a≤nrem) (hB:SB a0 A0 P lo st) (hs:Up (arrOf st) lo (lo + a))
  (hf:∀ x n (R:ForInStep AS→SortSt→Prop),wpS (model prog w) A E s (ltAt' (lo + n) (lo + n - 1)) (fun r st'=>∃ b,r=some b∧R (if b=true then .done (none,n) else .yield (none,n + 1)) st') st→wpS (model prog w) A E s (f x (none,n)) R st)
  (h:∀ n,a≤n→n≤nrem→Up (arrOf st) lo (lo + n)→(n=nrem ∨ K (arrOf st) (lo + n) < K (arrOf st) (lo + n - 1))→Q (none,n) st):wpS (model prog w) A E s (forIn [a:nrem] ((none,a):AS) f) Q st:=by
 refine wpS_forRange (I:=fun x c st'=>st'=st∧c=(none,x)∧Up (arrOf st) lo (lo + x)) ?a ?b ⟨rfl,rfl,hs⟩
 case b=>
  rintro c st' ⟨rfl,rfl,b1⟩
  rw [show max a nrem=nrem by omega] at b1 ⊢
  exact h nrem han (Nat.le_refl _) b1 (.inl rfl)
 case a=>
  rintro x c st' h1 h2 ⟨rfl,rfl,b1⟩
  refine hf _ _ _ (at_ok hB h0 (by omega) (by omega) ⟨_,rfl,?_⟩)
  by_cases hl:K (arrOf st') (lo + x) < K (arrOf st') (lo + x - 1)
  ·simp only [hl,decide_true,if_true]
   exact h x h1 (by omega) b1 (.inr hl)
  ·simp only [hl,decide_false,Bool.false_eq_true,if_false]
   refine ⟨trivial,trivial,fun i j i1 i2 i3=>?_⟩
   by_cases hj:j < lo + x
   ·exact b1 i j i1 i2 hj
   ·have hj':j=lo + x:=by omega
    subst hj'
    by_cases e:i=lo + x
    ·subst e; exact Int.le_refl _
    ·exact Int.le_trans (b1 i (lo + x - 1) i1 (by omega) (by omega)) (Int.not_lt.mp hl)
set_option maxHeartbeats 2000000 in
theorem run_ok {st:SortSt} {nrem:Nat} {Q:Option Nat→SortSt→Prop} (h0:IK a0) (hn:lo + nrem≤a0.size) (h1:1≤nrem) (hB:SB a0 A0 P lo st)
  (h:∀ m st',SB a0 A0 P lo st'→1≤m→m≤nrem→Up (arrOf st') lo (lo + m)→Q (some m) st'):wpS (model prog w) A E s (countRun' lo nrem) Q st:=by
 rw [countRun'_eq]
 dsimp only
 refine wpS_bind (asc_ok h0 hn (Nat.le_refl 1) h1 hB (fun i j i1 i2 i3=>by rw [show i=j by omega]; exact Int.le_refl _) ?hf fun n n1 n2 u ho=>?_)
 case hf=>
  intro x n R hR
  dsimp only
  refine wpS_bind (wpS_mono hR ?_)
  rintro r st' ⟨b,rfl,hb⟩
  cases b
  ·exact wpS_pure hb
  ·exact wpS_pure hb
 dsimp only
 by_cases e:n=nrem
 ·rw [if_pos (by simpa using e)]
  exact wpS_pure (h n st hB n1 n2 u)
 rw [if_neg (by simpa using e)]
 have hlt:K (arrOf st) (lo + n) < K (arrOf st) (lo + n - 1):=ho.resolve_left e
 by_cases g:n > 1
 ·rw [if_pos g]
  refine wpS_bind (at_ok hB h0 (by omega) (by omega) ?_)
  by_cases hr:K (arrOf st) lo < K (arrOf st) (lo + n - 1)
  ·simp only [hr,decide_true,if_true]
   exact wpS_pure (h n st hB n1 n2 u)
  ·simp only [hr,decide_false,Bool.false_eq_true,if_false]
   have hsz:lo + n≤(arrOf st).size:=by rw [hB.size]; omega
   have all:∀ k,lo≤k→k < lo + n→K (arrOf st) k=K (arrOf st) (lo + n - 1):=fun k k1 k2=>by
    have a1:=u lo k (Nat.le_refl _) k1 k2
    have a2:=u k (lo + n - 1) k1 (by omega) (by omega)
    omega
   refine wpS_bind (rev_ok hB (Nat.le_refl _) (by omega) fun hB1=>?_)
   have hD1:Dn (mirror (arrOf st) lo (lo + n) ((lo + n - lo) / 2)) lo (lo + (n + 1)):=fun i j i1 i2 i3=>by
    rw [mir hsz all,mir hsz all]
    by_cases hj:j < lo + n
    ·rw [all i i1 (by omega),all j (by omega) hj]; exact Int.le_refl _
    ·have hj':j=lo + n:=by omega
     subst hj'
     by_cases e:i=lo + n
     ·subst e; exact Int.le_refl _
     ·rw [all i i1 (by omega)]; exact Int.le_of_lt hlt
   refine wpS_bind (wpS_lift (wpAny_rule ⟨rfl,?_⟩))
   refine wpS_bind (wpS_mono (wpS_forRange (I:=fun x c st'=>∃ neq,c=(none,x,neq)∧SB a0 A0 P lo st'∧Dn (arrOf st') lo (lo + x)∧neq + 1≤x∧(∀ i,lo + x - (neq + 1)≤i→i < lo + x→K (arrOf st') i=K (arrOf st') (lo + x - 1)))
    (Q:=fun c st'=>∃ m neq,c=(none,m,neq)∧n + 1≤m∧m≤nrem∧SB a0 A0 P lo st'∧Dn (arrOf st') lo (lo + m)∧neq + 1≤m∧(∀ i,lo + m - (neq + 1)≤i→i < lo + m→K (arrOf st') i=K (arrOf st') (lo + m - 1))) ?a ?b ⟨0,rfl,hB1,hD1,by omega,fun i i1 i2=>by congr 1; omega⟩) ?c)
   case b=>
    rintro c st' ⟨neq,rfl,b1,b2,b3,b4⟩
    rw [show max (n + 1) nrem=nrem by omega] at b2 b3 b4 ⊢
    exact ⟨nrem,neq,rfl,by omega,Nat.le_refl _,b1,b2,b3,b4⟩
   case a=>
    rintro x c st' x1 x2 ⟨neq,rfl,b1,b2,b3,b4⟩
    dsimp only
    have hsz:lo + x≤(arrOf st').size:=by rw [b1.size]; omega
    refine wpS_bind (at_ok b1 h0 (by omega) (by omega) ?_)
    have more:∀ xs:Array Keyed,(∀ k,K xs k=K (arrOf st') k)→K (arrOf st') (lo + x)≤K (arrOf st') (lo + x - 1)→Dn xs lo (lo + (x + 1)):=by
     intro xs hk hle i j i1 i2 i3
     rw [hk,hk]
     by_cases hj:j < lo + x
     ·exact b2 i j i1 i2 hj
     ·have hj':j=lo + x:=by omega
      subst hj'
      by_cases e:i=lo + x
      ·subst e; exact Int.le_refl _
      ·exact Int.le_trans hle (b2 i (lo + x - 1) i1 (by omega) (by omega))
    by_cases hl:K (arrOf st') (lo + x) < K (arrOf st') (lo + x - 1)
    ·simp only [hl,decide_true,if_true]
     by_cases hq:neq > 0
     ·rw [if_pos hq]
      refine wpS_bind (rev_ok b1 (by omega) (by omega) fun b9=>wpS_pure ⟨0,rfl,b9,more _ (mir hsz b4) (Int.le_of_lt hl),by omega,fun i i1 i2=>by congr 1; omega⟩)
     ·rw [if_neg hq]
      exact wpS_pure ⟨0,rfl,b1,more _ (fun _=>rfl) (Int.le_of_lt hl),by omega,fun i i1 i2=>by congr 1; omega⟩
    ·simp only [hl,decide_false,Bool.false_eq_true,if_false]
     refine wpS_bind (at_ok b1 h0 (by omega) (by omega) ?_)
     by_cases hg:K (arrOf st') (lo + x - 1) < K (arrOf st') (lo + x)
     ·simp only [hg,decide_true,if_true]
      exact wpS_pure ⟨x,neq,rfl,x1,by omega,b1,b2,b3,b4⟩
     ·simp only [hg,decide_false,Bool.false_eq_true,if_false]
      have he:K (arrOf st') (lo + x)=K (arrOf st') (lo + x - 1):=by omega
      refine wpS_pure ⟨neq + 1,rfl,b1,more _ (fun _=>rfl) (by omega),by omega,fun i i1 i2=>?_⟩
      rw [show lo + (x + 1) - 1=lo + x by omega]
      by_cases e:i=lo + x
      ·subst e; rfl
      ·rw [he]; exact b4 i (by omega) (by omega)
   case c=>
    rintro c st' ⟨m,neq,rfl,m1,m2,b1,b2,b3,b4⟩
    dsimp only
    have hsz:lo + m≤(arrOf st').size:=by rw [b1.size]; omega
    have last:∀ st2,SB a0 A0 P lo st2→Dn (arrOf st2) lo (lo + m)→Up (mirror (arrOf st2) lo (lo + m) ((lo + m - lo) / 2)) lo (lo + m):=fun st2 c1 c2 i j i1 i2 i3=>by
     rw [K_mirror (by rw [c1.size]; omega),K_mirror (by rw [c1.size]; omega),if_pos (by omega),if_pos (by omega)]
     exact c2 _ _ (by omega) (by omega) (by omega)
    by_cases hq:neq > 0
    ·rw [if_pos hq]
     refine wpS_bind (rev_ok b1 (by omega) (by omega) fun b9=>?_)
     have d9:Dn (mirror (arrOf st') (lo + m - (neq + 1)) (lo + m) ((lo + m - (lo + m - (neq + 1))) / 2)) lo (lo + m):=fun i j i1 i2 i3=>by
      rw [mir hsz b4,mir hsz b4]; exact b2 i j i1 i2 i3
     refine wpS_bind (rev_ok b9 (Nat.le_refl _) (by omega) fun b8=>?_)
     refine wpS_bind (asc_ok h0 hn (by omega) m2 b8 (last _ b9 d9) ?_ fun n2 n1 n3 u _=>wpS_pure (h n2 _ b8 (by omega) n3 u))
     intro x n R hR
     dsimp only
     refine wpS_bind (wpS_mono hR ?_)
     rintro r st' ⟨b,rfl,hb⟩
     cases b
     ·exact wpS_pure hb
     ·exact wpS_pure hb
    ·rw [if_neg hq]
     refine wpS_bind (rev_ok b1 (Nat.le_refl _) (by omega) fun b8=>?_)
     refine wpS_bind (asc_ok h0 hn (by omega) m2 b8 (last _ b1 b2) ?_ fun n2 n1 n3 u _=>wpS_pure (h n2 _ b8 (by omega) n3 u))
     intro x n R hR
     dsimp only
     refine wpS_bind (wpS_mono hR ?_)
     rintro r st' ⟨b,rfl,hb⟩
     cases b
     ·exact wpS_pure hb
     ·exact wpS_pure hb
 ·rw [if_neg g]
  have hn1:n=1:=by omega
  have hB1:=hB
  have hD1:Dn (arrOf st) lo (lo + (n + 1)):=fun i j i1 i2 i3=>by
   by_cases e:i=j
   ·subst e; exact Int.le_refl _
   ·have e1:i=lo + n - 1:=by omega
    have e2:j=lo + n:=by omega
    rw [e1,e2]
    exact Int.le_of_lt hlt
  refine wpS_bind (wpS_lift (wpAny_rule ⟨rfl,?_⟩))
  refine wpS_bind (wpS_mono (wpS_forRange (I:=fun x c st'=>∃ neq,c=(none,x,neq)∧SB a0 A0 P lo st'∧Dn (arrOf st') lo (lo + x)∧neq + 1≤x∧(∀ i,lo + x - (neq + 1)≤i→i < lo + x→K (arrOf st') i=K (arrOf st') (lo + x - 1)))
   (Q:=fun c st'=>∃ m neq,c=(none,m,neq)∧n + 1≤m∧m≤nrem∧SB a0 A0 P lo st'∧Dn (arrOf st') lo (lo + m)∧neq + 1≤m∧(∀ i,lo + m - (neq + 1)≤i→i < lo + m→K (arrOf st') i=K (arrOf st') (lo + m - 1))) ?a ?b ⟨0,rfl,hB1,hD1,by omega,fun i i1 i2=>by congr 1; omega⟩) ?c)
  case b=>
   rintro c st' ⟨neq,rfl,b1,b2,b3,b4⟩
   rw [show max (n + 1) nrem=nrem by omega] at b2 b3 b4 ⊢
   exact ⟨nrem,neq,rfl,by omega,Nat.le_refl _,b1,b2,b3,b4⟩
  case a=>
   rintro x c st' x1 x2 ⟨neq,rfl,b1,b2,b3,b4⟩
   dsimp only
   have hsz:lo + x≤(arrOf st').size:=by rw [b1.size]; omega
   refine wpS_bind (at_ok b1 h0 (by omega) (by omega) ?_)
   have more:∀ xs:Array Keyed,(∀ k,K xs k=K (arrOf st') k)→K (arrOf st') (lo + x)≤K (arrOf st') (lo + x - 1)→Dn xs lo (lo + (x + 1)):=by
    intro xs hk hle i j i1 i2 i3
    rw [hk,hk]
    by_cases hj:j < lo + x
    ·exact b2 i j i1 i2 hj
    ·have hj':j=lo + x:=by omega
     subst hj'
     by_cases e:i=lo + x
     ·subst e; exact Int.le_refl _
     ·exact Int.le_trans hle (b2 i (lo + x - 1) i1 (by omega) (by omega))
   by_cases hl:K (arrOf st') (lo + x) < K (arrOf st') (lo + x - 1)
   ·simp only [hl,decide_true,if_true]
    by_cases hq:neq > 0
    ·rw [if_pos hq]
     refine wpS_bind (rev_ok b1 (by omega) (by omega) fun b9=>wpS_pure ⟨0,rfl,b9,more _ (mir hsz b4) (Int.le_of_lt hl),by omega,fun i i1 i2=>by congr 1; omega⟩)
    ·rw [if_neg hq]
     exact wpS_pure ⟨0,rfl,b1,more _ (fun _=>rfl) (Int.le_of_lt hl),by omega,fun i i1 i2=>by congr 1; omega⟩
   ·simp only [hl,decide_false,Bool.false_eq_true,if_false]
    refine wpS_bind (at_ok b1 h0 (by omega) (by omega) ?_)
    by_cases hg:K (arrOf st') (lo + x - 1) < K (arrOf st') (lo + x)
    ·simp only [hg,decide_true,if_true]
     exact wpS_pure ⟨x,neq,rfl,x1,by omega,b1,b2,b3,b4⟩
    ·simp only [hg,decide_false,Bool.false_eq_true,if_false]
     have he:K (arrOf st') (lo + x)=K (arrOf st') (lo + x - 1):=by omega
     refine wpS_pure ⟨neq + 1,rfl,b1,more _ (fun _=>rfl) (by omega),by omega,fun i i1 i2=>?_⟩
     rw [show lo + (x + 1) - 1=lo + x by omega]
     by_cases e:i=lo + x
     ·subst e; rfl
     ·rw [he]; exact b4 i (by omega) (by omega)
  case c=>
   rintro c st' ⟨m,neq,rfl,m1,m2,b1,b2,b3,b4⟩
   dsimp only
   have hsz:lo + m≤(arrOf st').size:=by rw [b1.size]; omega
   have last:∀ st2,SB a0 A0 P lo st2→Dn (arrOf st2) lo (lo + m)→Up (mirror (arrOf st2) lo (lo + m) ((lo + m - lo) / 2)) lo (lo + m):=fun st2 c1 c2 i j i1 i2 i3=>by
    rw [K_mirror (by rw [c1.size]; omega),K_mirror (by rw [c1.size]; omega),if_pos (by omega),if_pos (by omega)]
    exact c2 _ _ (by omega) (by omega) (by omega)
   by_cases hq:neq > 0
   ·rw [if_pos hq]
    refine wpS_bind (rev_ok b1 (by omega) (by omega) fun b9=>?_)
    have d9:Dn (mirror (arrOf st') (lo + m - (neq + 1)) (lo + m) ((lo + m - (lo + m - (neq + 1))) / 2)) lo (lo + m):=fun i j i1 i2 i3=>by
     rw [mir hsz b4,mir hsz b4]; exact b2 i j i1 i2 i3
    refine wpS_bind (rev_ok b9 (Nat.le_refl _) (by omega) fun b8=>?_)
    refine wpS_bind (asc_ok h0 hn (by omega) m2 b8 (last _ b9 d9) ?_ fun n2 n1 n3 u _=>wpS_pure (h n2 _ b8 (by omega) n3 u))
    intro x n R hR
    dsimp only
    refine wpS_bind (wpS_mono hR ?_)
    rintro r st' ⟨b,rfl,hb⟩
    cases b
    ·exact wpS_pure hb
    ·exact wpS_pure hb
   ·rw [if_neg hq]
    refine wpS_bind (rev_ok b1 (Nat.le_refl _) (by omega) fun b8=>?_)
    refine wpS_bind (asc_ok h0 hn (by omega) m2 b8 (last _ b1 b2) ?_ fun n2 n1 n3 u _=>wpS_pure (h n2 _ b8 (by omega) n3 u))
    intro x n R hR
    dsimp only
    refine wpS_bind (wpS_mono hR ?_)
    rintro r st' ⟨b,rfl,hb⟩
    cases b
    ·exact wpS_pure hb
    ·exact wpS_pure hb
end
end SR
namespace SR
open PySem PyProof.Rows
noncomputable def wr (xs:Array Keyed) (z:Nat) (l:List (Keyed × Nat)):Array Keyed:=l.foldl (fun a (x:Keyed × Nat)=>match x with | (p,j)=>a.setIfInBounds (z + j) p) xs
theorem wr_get (z:Nat):∀ (m:List Keyed) (k:Nat) (xs:Array Keyed),z + k + m.length≤xs.size→∀ t,(wr xs z (m.zipIdx k))[t]?=if z + k≤t∧t < z + k + m.length then m[t - (z + k)]? else xs[t]?
 | [],k,xs,_,t=>by
  rw [if_neg (by rw [List.length_nil]; omega)]
  rfl
 | p :: m,k,xs,h,t=>by
  rw [List.length_cons] at h
  show (wr (xs.setIfInBounds (z + k) p) z (m.zipIdx (k + 1)))[t]?=_
  rw [wr_get z m (k + 1) _ (by rw [Array.size_setIfInBounds]; omega),List.length_cons,Array.getElem?_setIfInBounds]
  by_cases h1:z + (k + 1)≤t∧t < z + (k + 1) + m.length
  ·rw [if_pos h1,if_pos (by omega)]
   obtain ⟨d,hd⟩:∃ d,t - (z + k)=d + 1:=⟨t - (z + k) - 1,by omega⟩
   rw [hd,List.getElem?_cons_succ]
   congr 1
   omega
  ·rw [if_neg h1]
   by_cases h2:z + k=t
   ·rw [if_pos h2,if_pos (by omega),if_pos (by omega)]
    rw [show t - (z + k)=0 by omega]
    rfl
   ·rw [if_neg h2,if_neg (by omega)]
theorem wr_list {xs:Array Keyed} {z:Nat} {m:List Keyed} (h:z + m.length≤xs.size):(wr xs z m.zipIdx).toList=xs.toList.take z ++ (m ++ xs.toList.drop (z + m.length)):=by
 refine List.ext_getElem? fun t=>?_
 rw [Array.getElem?_toList,wr_get z m 0 xs (by omega)]
 have hlt:(xs.toList.take z).length=z:=by rw [List.length_take]; simp; omega
 by_cases h1:t < z
 ·rw [if_neg (by omega),List.getElem?_append_left (by omega),List.getElem?_take_of_lt h1,Array.getElem?_toList]
 ·rw [List.getElem?_append_right (by omega),hlt]
  by_cases h2:t < z + m.length
  ·rw [if_pos (by omega),List.getElem?_append_left (by omega)]
   rfl
  ·rw [if_neg (by omega),List.getElem?_append_right (by omega),List.getElem?_drop,Array.getElem?_toList]
   congr 1
   omega
noncomputable def Ch (xs:Array Keyed):Nat→List (Nat × Nat × Nat)→Nat→Prop
 | z,[],y=>z=y
 | z,(s,n,_) :: r,y=>s=z∧1≤n∧Up xs z (z + n)∧Ch xs (z + n) r y
theorem Ch.le {xs:Array Keyed}:∀ {l:List (Nat × Nat × Nat)} {z y:Nat},Ch xs z l y→z + l.length≤y
 | [],z,y,h=>by unfold Ch at h; simp; omega
 | (s,n,p) :: r,z,y,h=>by
  obtain ⟨_,h1,_,h2⟩:=h
  have:=h2.le
  rw [List.length_cons]
  omega
theorem Ch.app {xs:Array Keyed}:∀ {l r:List (Nat × Nat × Nat)} {z y:Nat},Ch xs z (l ++ r) y↔∃ m,Ch xs z l m∧Ch xs m r y
 | [],r,z,y=>⟨fun h=>⟨z,rfl,h⟩,fun ⟨m,h1,h2⟩=>by unfold Ch at h1; subst h1; exact h2⟩
 | (s,n,p) :: l,r,z,y=>by
  constructor
  ·rintro ⟨h1,h2,h3,h4⟩
   obtain ⟨m,h5,h6⟩:=Ch.app.mp h4
   exact ⟨m,⟨h1,h2,h3,h5⟩,h6⟩
  ·rintro ⟨m,⟨h1,h2,h3,h5⟩,h6⟩
   exact ⟨h1,h2,h3,Ch.app.mpr ⟨m,h5,h6⟩⟩
theorem Ch.like {xs ys:Array Keyed}:∀ {l:List (Nat × Nat × Nat)} {z y:Nat},Ch xs z l y→(∀ t,z≤t→t < y→K ys t=K xs t)→Ch ys z l y
 | [],z,y,h,_=>h
 | (s,n,p) :: r,z,y,⟨h1,h2,h3,h4⟩,hk=>by
  have:=h4.le
  refine ⟨h1,h2,fun i j i1 i2 i3=>?_,h4.like fun t t1 t2=>hk t (by omega) t2⟩
  rw [hk i i1 (by omega),hk j (by omega) (by omega)]
  exact h3 i j i1 i2 i3
theorem Ch.pow {xs:Array Keyed} (f:Nat × Nat × Nat→Nat × Nat × Nat) (hf:∀ s n p,∃ q,f (s,n,p)=(s,n,q)):∀ {l:List (Nat × Nat × Nat)} {z y:Nat} (k:Nat),Ch xs z l y→Ch xs z (l.modify k f) y
 | [],z,y,k,h=>by simpa using h
 | (s,n,p) :: r,z,y,0,⟨h1,h2,h3,h4⟩=>by
  obtain ⟨q,e⟩:=hf s n p
  rw [List.modify_zero_cons,e]
  exact ⟨h1,h2,h3,h4⟩
 | (s,n,p) :: r,z,y,k + 1,⟨h1,h2,h3,h4⟩=>by
  rw [List.modify_succ_cons]
  exact ⟨h1,h2,h3,Ch.pow f hf k h4⟩
structure Bs (a0:Array Keyed) (st:SortSt):Prop where
 perm:(arrOf st).Perm a0
 kind:kindOf st=oneType'
 failed:failedOf st=none
theorem mergeAt_eq (i:Nat):mergeAt' i=(do
 let s ← get
 let (some (sa,na,pw),some (sb,nb,_)):=((pendingOf s)[i]?,(pendingOf s)[i + 1]?) | unsupported "internal:list.sort.pending"
 set (setPending s (((pendingOf s).setIfInBounds i (sa,na + nb,pw)).eraseIdxIfInBounds (i + 1)))
 let some k ← gal false (← elem' (arrOf s) sb) (arrOf s) sa na 0 | return false
 let (sa,na):=(sa + k,na - k)
 if na == 0 then return true
 let some nb ← gal true (← elem' (arrOf s) (sa + na - 1)) (arrOf s) sb nb (nb - 1) | return false
 if nb == 0 then return true
 let x:=(arrOf s).extract sa sb
 let y:=(arrOf s).extract sb (sb + nb)
 let m ← if na≤nb then mLo x y else mHi x y
 modify fun s=>setArr s (m.toList.zipIdx.foldl (fun a (p,j)=>a.setIfInBounds (sa + j) p) (arrOf s))
 return (failedOf (← get)).isNone):=rfl
section
variable {prog:Program} {w:World} {A:Around} {E:Value→Shared→Prop} {s:Shared} {a0:Array Keyed}
theorem wpS_set {st st1:SortSt} {Q:PUnit→SortSt→Prop} (h:Q ⟨⟩ st1):wpS (model prog w) A E s (set st1:StateT SortSt Sem PUnit) Q st:=by
 unfold wpS; rw [StateT.run_set]; exact wpAny_pure ⟨rfl,h⟩
theorem K_ext {xs:Array Keyed} {i j t:Nat} (ht:i + t < j) (hj:j≤xs.size):K (xs.extract i j) t=K xs (i + t):=by
 unfold K
 rw [Array.getElem?_extract]
 rw [if_pos (by omega)]
theorem ik_ext {xs:Array Keyed} (h:IK xs) (i j:Nat):IK (xs.extract i j):=fun p hp=>h p (by
 rw [ext_list] at hp
 exact List.mem_of_mem_drop (List.mem_of_mem_take hp))
theorem up_ext {xs:Array Keyed} {i j:Nat} (h:Up xs i j) (hj:j≤xs.size):Up (xs.extract i j) 0 (xs.extract i j).size:=by
 have hs:(xs.extract i j).size=j - i:=by rw [Array.size_extract]; omega
 rw [hs]
 intro p q _ h2 h3
 rw [K_ext (by omega) hj,K_ext (by omega) hj]
 exact h _ _ (by omega) (by omega) (by omega)
theorem mat_ok {st:SortSt} {i sa na p sb nb q:Nat} {l1 l2:List (Nat × Nat × Nat)} {y:Nat} {Q:Bool→SortSt→Prop} (h0:IK a0) (hB:Bs a0 st) (hi:i=l1.length) (hP:(pendingOf st).toList=l1 ++ (sa,na,p) :: (sb,nb,q) :: l2) (hC:Ch (arrOf st) 0 (pendingOf st).toList y) (hy:y≤a0.size)
  (h:∀ st',Bs a0 st'→(pendingOf st').toList=l1 ++ (sa,na + nb,p) :: l2→Ch (arrOf st') 0 (pendingOf st').toList y→(∀ t,y≤t→K (arrOf st') t=K (arrOf st) t)→Q true st'):wpS (model prog w) A E s (mergeAt' i) Q st:=by
 have hsz:(arrOf st).size=a0.size:=hB.perm.size_eq
 have ik:=ik_perm h0 hB.perm
 rw [hP] at hC
 obtain ⟨z,c1,e1,n1,u1,e2,n2,u2,c2⟩:=Ch.app.mp hC
 subst e1 e2
 have c2l:=c2.le
 have g1:(pendingOf st)[i]?=some (sa,na,p):=by rw [← Array.getElem?_toList,hP,hi]; simp
 have g2:(pendingOf st)[i + 1]?=some (sa + na,nb,q):=by rw [← Array.getElem?_toList,hP,hi,List.getElem?_append_right (by omega)]; simp
 have hP2:(((pendingOf st).setIfInBounds i (sa,na + nb,p)).eraseIdxIfInBounds (i + 1)).toList=l1 ++ (sa,na + nb,p) :: l2:=by
  have hl:i + 1 < (pendingOf st).size:=by rw [← Array.length_toList,hP,hi,List.length_append,List.length_cons,List.length_cons]; omega
  rw [Array.eraseIdxIfInBounds,dif_pos (by rw [Array.size_setIfInBounds]; exact hl),Array.toList_eraseIdx,Array.toList_setIfInBounds,hP,hi]
  rw [List.set_append_right _ _ (Nat.le_refl _),List.eraseIdx_append_of_length_le (by omega)]
  simp
 rw [mergeAt_eq]
 refine wpS_bind (wpS_get ?_)
 rw [g1,g2]
 dsimp only
 refine wpS_bind (wpS_set ?_)
 have hsb:sa + na < (arrOf st).size:=by omega
 refine wpS_bind (elem_ok hsb ?_)
 refine wpS_bind (gal_ok hB.kind ik (ik.get hsb) (by omega) (by omega) u1 fun k k1 k2 k3=>?_)
 dsimp only
 have q2:∀ t,sa≤t→t < sa + k→K (arrOf st) t≤K (arrOf st) (sa + na):=fun t t1 t2=>by
  have:=k2 (t - sa) (by omega)
  rw [show sa + (t - sa)=t by omega] at this
  rw [K_get hsb]
  simpa [bef] using this
 have q3:∀ t,sa + k≤t→t < sa + na→K (arrOf st) (sa + na)≤K (arrOf st) t:=fun t t1 t2=>by
  have:=k3 (t - sa) (by omega) (by omega)
  rw [show sa + (t - sa)=t by omega] at this
  rw [K_get hsb]
  exact Int.le_of_lt (by simpa [bef] using this)
 -- when nothing is to be moved
 have still:Up (arrOf st) sa (sa + (na + nb))→Q true (setPending st (((pendingOf st).setIfInBounds i (sa,na + nb,p)).eraseIdxIfInBounds (i + 1))):=fun hu=>by
  refine h _ ⟨hB.perm,hB.kind,hB.failed⟩ hP2 ?_ fun t _=>rfl
  show Ch (arrOf st) 0 (((pendingOf st).setIfInBounds i (sa,na + nb,p)).eraseIdxIfInBounds (i + 1)).toList y
  rw [hP2]
  exact Ch.app.mpr ⟨sa,c1,rfl,by omega,hu,by rw [← Nat.add_assoc]; exact c2⟩
 by_cases e1:na - k=0
 ·rw [if_pos (by simpa using e1)]
  refine wpS_pure (still fun i j i1 i2 i3=>?_)
  by_cases hj:j < sa + na
  ·exact u1 i j i1 i2 hj
  ·by_cases hi':i < sa + na
   ·exact Int.le_trans (q2 i i1 (by omega)) (u2 (sa + na) j (Nat.le_refl _) (by omega) (by omega))
   ·exact u2 i j (by omega) i2 (by omega)
 rw [if_neg (by simpa using e1)]
 have hla:sa + k + (na - k) - 1 < (arrOf st).size:=by omega
 refine wpS_bind (elem_ok hla ?_)
 refine wpS_bind (gal_ok hB.kind ik (ik.get hla) (by omega) (by omega) u2 fun m m1 m2 m3=>?_)
 dsimp only
 have v2:∀ t,sa + na≤t→t < sa + na + m→K (arrOf st) t≤K (arrOf st) (sa + na - 1):=fun t t1 t2=>by
  have:=m2 (t - (sa + na)) (by omega)
  rw [show sa + na + (t - (sa + na))=t by omega] at this
  have e:sa + na - 1=sa + k + (na - k) - 1:=by omega
  rw [e,K_get hla]
  exact Int.le_of_lt (by simpa [bef] using this)
 have v3:∀ t,sa + na + m≤t→t < sa + na + nb→K (arrOf st) (sa + na - 1)≤K (arrOf st) t:=fun t t1 t2=>by
  have:=m3 (t - (sa + na)) (by omega) (by omega)
  rw [show sa + na + (t - (sa + na))=t by omega] at this
  have e:sa + na - 1=sa + k + (na - k) - 1:=by omega
  rw [e,K_get hla]
  simpa [bef] using this
 by_cases e2:m=0
 ·rw [if_pos (by simpa using e2)]
  refine wpS_pure (still fun i j i1 i2 i3=>?_)
  by_cases hj:j < sa + na
  ·exact u1 i j i1 i2 hj
  ·by_cases hi':i < sa + na
   ·exact Int.le_trans (u1 i (sa + na - 1) i1 (by omega) (by omega)) (v3 j (by omega) (by omega))
   ·exact u2 i j (by omega) i2 (by omega)
 rw [if_neg (by simpa using e2)]
 have sx:((arrOf st).extract (sa + k) (sa + na)).size=na - k:=by rw [Array.size_extract]; omega
 have sy:((arrOf st).extract (sa + na) (sa + na + m)).size=m:=by rw [Array.size_extract]; omega
 have ux:Up ((arrOf st).extract (sa + k) (sa + na)) 0 ((arrOf st).extract (sa + k) (sa + na)).size:=up_ext (fun i j i1 i2 i3=>u1 i j (by omega) i2 i3) (by omega)
 have uy:Up ((arrOf st).extract (sa + na) (sa + na + m)) 0 ((arrOf st).extract (sa + na) (sa + na + m)).size:=up_ext (fun i j i1 i2 i3=>u2 i j i1 i2 (by omega)) (by omega)
 have hlast:∀ t,t < ((arrOf st).extract (sa + na) (sa + na + m)).size→K ((arrOf st).extract (sa + na) (sa + na + m)) t≤K ((arrOf st).extract (sa + k) (sa + na)) (((arrOf st).extract (sa + k) (sa + na)).size - 1):=fun t ht=>by
  rw [sy] at ht
  rw [sx,K_ext (by omega) (by omega),K_ext (by omega) (by omega),show sa + k + (na - k - 1)=sa + na - 1 by omega]
  exact v2 _ (by omega) (by omega)
 have hfirst:∀ t,t < ((arrOf st).extract (sa + k) (sa + na)).size→K ((arrOf st).extract (sa + na) (sa + na + m)) 0≤K ((arrOf st).extract (sa + k) (sa + na)) t:=fun t ht=>by
  rw [sx] at ht
  rw [K_ext (by omega) (by omega),K_ext (by omega) (by omega),Nat.add_zero]
  exact q3 _ (by omega) (by omega)
 have fin:∀ (r:Array Keyed) (st':SortSt),Good ((arrOf st).extract (sa + k) (sa + na)) ((arrOf st).extract (sa + na) (sa + na + m)) r→Sg (setPending st (((pendingOf st).setIfInBounds i (sa,na + nb,p)).eraseIdxIfInBounds (i + 1))) st'→
   Q true (setArr st' (wr (arrOf st') (sa + k) r.toList.zipIdx)):=by
  rintro r st' ⟨g1,g2⟩ ⟨s1,s2,s3,s4⟩
  have s2:arrOf st'=arrOf st:=s2
  have rl:r.toList.length=na - k + m:=by rw [g1.length_eq,List.length_append,Array.length_toList,Array.length_toList,sx,sy]
  have hw:sa + k + r.toList.length≤(arrOf st).size:=by omega
  have hxy:((arrOf st).extract (sa + k) (sa + na)).toList ++ ((arrOf st).extract (sa + na) (sa + na + m)).toList=((arrOf st).toList.drop (sa + k)).take (na - k + m):=by
   rw [ext_list,ext_list,show sa + na - (sa + k)=na - k by omega,show sa + na + m - (sa + na)=m by omega,List.take_add,List.drop_drop,show sa + k + (na - k)=sa + na by omega]
  rw [hxy] at g1
  have hk:∀ t,K (wr (arrOf st) (sa + k) r.toList.zipIdx) t=if sa + k≤t∧t < sa + na + m then K r (t - (sa + k)) else K (arrOf st) t:=fun t=>by
   have e:=wr_get (sa + k) r.toList 0 (arrOf st) (by omega) t
   rw [rl] at e
   by_cases ht:sa + k≤t∧t < sa + na + m
   ·rw [if_pos ht]
    rw [if_pos (by omega),Array.getElem?_toList] at e
    exact K_congr e
   ·rw [if_neg ht]
    rw [if_neg (by omega)] at e
    exact K_congr e
  have hfrom:∀ t,sa + k≤t→t < sa + na + m→∃ u,sa + k≤u∧u < sa + na + m∧K r (t - (sa + k))=K (arrOf st) u:=fun t t1 t2=>by
   have ht:t - (sa + k) < r.size:=by rw [← Array.length_toList,rl]; omega
   obtain ⟨u,hu1,hu2,hu3⟩:=mem_cut (g1.mem_iff.mp (by simp:r[t - (sa + k)] ∈ r.toList))
   exact ⟨sa + k + u,by omega,by omega,by rw [K_get ht]; exact hu3⟩
  have ur:=up_of g2
  have rs:r.size=na - k + m:=by rw [← Array.length_toList,rl]
  have wu:Up (wr (arrOf st) (sa + k) r.toList.zipIdx) sa (sa + (na + nb)):=by
   intro i j i1 i2 i3
   rw [hk,hk]
   have low:∀ a u,sa≤a→a < sa + k→sa + k≤u→u < sa + na + nb→K (arrOf st) a≤K (arrOf st) u:=fun a u a1 a2 u3 u4=>by
    by_cases hu:u < sa + na
    ·exact u1 a u a1 (by omega) hu
    ·exact Int.le_trans (q2 a a1 a2) (u2 _ _ (Nat.le_refl _) (by omega) u4)
   have high:∀ a u,sa + k≤a→a < sa + na + m→sa + na + m≤u→u < sa + na + nb→K (arrOf st) a≤K (arrOf st) u:=fun a u a1 a2 u3 u4=>by
    by_cases ha:a < sa + na
    ·exact Int.le_trans (u1 a (sa + na - 1) (by omega) (by omega) (by omega)) (v3 u u3 u4)
    ·exact u2 a u (by omega) (by omega) u4
   by_cases hi1:sa + k≤i∧i < sa + na + m
   ·rw [if_pos hi1]
    by_cases hj1:sa + k≤j∧j < sa + na + m
    ·rw [if_pos hj1]
     exact ur _ _ (Nat.zero_le _) (by omega) (by omega)
    ·rw [if_neg hj1]
     obtain ⟨u,w1,w2,w3⟩:=hfrom i hi1.1 hi1.2
     rw [w3]
     exact high u j w1 w2 (by omega) (by omega)
   ·rw [if_neg hi1]
    by_cases hj1:sa + k≤j∧j < sa + na + m
    ·rw [if_pos hj1]
     obtain ⟨u,w1,w2,w3⟩:=hfrom j hj1.1 hj1.2
     rw [w3]
     exact low i u i1 (by omega) w1 (by omega)
    ·rw [if_neg hj1]
     by_cases hil:i < sa + k
     ·by_cases hjl:j < sa + na
      ·exact u1 i j i1 i2 hjl
      ·exact low i j i1 hil (by omega) (by omega)
     ·exact u2 i j (by omega) i2 (by omega)
  have wp:(wr (arrOf st) (sa + k) r.toList.zipIdx).Perm a0:=by
   refine Array.Perm.trans (Array.perm_iff_toList_perm.mpr ?_) hB.perm
   rw [wr_list hw,rl]
   refine List.Perm.trans ((g1.append_right _).append_left _) ?_
   rw [show (arrOf st).toList.drop (sa + k + (na - k + m))=((arrOf st).toList.drop (sa + k)).drop (na - k + m) by rw [List.drop_drop],List.take_append_drop,List.take_append_drop]
  rw [s2]
  refine h _ ⟨wp,s1.trans hB.kind,s4.trans hB.failed⟩ (by show (pendingOf st').toList=_; rw [s3]; exact hP2) ?_ fun t ht=>?_
  ·show Ch (wr (arrOf st) (sa + k) r.toList.zipIdx) 0 (pendingOf st').toList y
   rw [s3]
   show Ch _ 0 (((pendingOf st).setIfInBounds i (sa,na + nb,p)).eraseIdxIfInBounds (i + 1)).toList y
   rw [hP2]
   refine Ch.app.mpr ⟨sa,c1.like fun t t1 t2=>?_,rfl,by omega,wu,?_⟩
   ·rw [hk,if_neg (by omega)]
   ·rw [← Nat.add_assoc]
    exact c2.like fun t t1 t2=>by rw [hk,if_neg (by omega)]
  ·show K (wr (arrOf st) (sa + k) r.toList.zipIdx) t=_
   rw [hk,if_neg (by omega)]
 have endS:∀ (r:Array Keyed) (st':SortSt),Good ((arrOf st).extract (sa + k) (sa + na)) ((arrOf st).extract (sa + na) (sa + na + m)) r→Sg (setPending st (((pendingOf st).setIfInBounds i (sa,na + nb,p)).eraseIdxIfInBounds (i + 1))) st'→
   wpS (model prog w) A E s (do
    modify fun s=>setArr s (r.toList.zipIdx.foldl (fun a (p,j)=>a.setIfInBounds (sa + k + j) p) (arrOf s))
    return (failedOf (← get)).isNone) Q st':=fun r st' g z=>by
  refine wpS_bind (wpS_modify (wpS_bind (wpS_get (wpS_pure ?_))))
  have hf:failedOf st'=none:=z.2.2.2.trans hB.failed
  show Q (failedOf st').isNone (setArr st' (wr (arrOf st') (sa + k) r.toList.zipIdx))
  rw [hf]
  exact fin r st' g z
 by_cases hc:na - k≤m
 ·rw [if_pos hc]
  exact wpS_bind (mLo_ok hB.kind (ik_ext ik _ _) (ik_ext ik _ _) ux uy (by omega) (by omega) (hfirst 0 (by omega)) hlast fun r st' g z=>endS r st' g z)
 ·rw [if_neg hc]
  exact wpS_bind (mHi_ok hB.kind (ik_ext ik _ _) (ik_ext ik _ _) ux uy (by omega) (by omega) hfirst hlast fun r st' g z=>endS r st' g z)
end
end SR
namespace SR
open PySem PyProof.Rows
section
variable {prog:Program} {w:World} {A:Around} {E:Value→Shared→Prop} {s:Shared} {a0:Array Keyed}
structure Al (a0:Array Keyed) (y:Nat) (st:SortSt):Prop where
 bs:Bs a0 st
 ch:Ch (arrOf st) 0 (pendingOf st).toList y
theorem ite_lt {c:Prop} [Decidable c] {n:Nat} (h:2≤n):(if c then n - 2 - 1 else n - 2) + 1 < n:=by split <;> omega
theorem two_at {l:List (Nat × Nat × Nat)} {i:Nat} (h:i + 1 < l.length):∃ l1 sa na p sb nb q l2,l=l1 ++ (sa,na,p) :: (sb,nb,q) :: l2∧i=l1.length:=by
 refine ⟨l.take i,l[i].1,l[i].2.1,l[i].2.2,l[i + 1].1,l[i + 1].2.1,l[i + 1].2.2,l.drop (i + 2),?_,by rw [List.length_take]; omega⟩
 have e1:l.drop i=l[i] :: l.drop (i + 1):=List.drop_eq_getElem_cons (by omega)
 have e2:l.drop (i + 1)=l[i + 1] :: l.drop (i + 2):=List.drop_eq_getElem_cons h
 have e3:=List.take_append_drop i l
 rw [e1,e2] at e3
 exact e3.symm
theorem mg_ok {st:SortSt} {i y:Nat} {Q:Bool→SortSt→Prop} (h0:IK a0) (h1:Al a0 y st) (hy:y≤a0.size) (hi:i + 1 < (pendingOf st).size)
  (h:∀ st',Al a0 y st'→(pendingOf st').size + 1=(pendingOf st).size→(∀ t,y≤t→K (arrOf st') t=K (arrOf st) t)→Q true st'):wpS (model prog w) A E s (mergeAt' i) Q st:=by
 rw [← Array.length_toList] at hi
 obtain ⟨l1,sa,na,p,sb,nb,q,l2,e,el⟩:=two_at hi
 refine mat_ok h0 h1.bs el e h1.ch hy fun st' b1 b2 b3 b4=>h st' ⟨b1,b3⟩ ?_ b4
 rw [← Array.length_toList,← Array.length_toList,b2,e]
 simp [Nat.add_assoc]
set_option maxHeartbeats 2000000 in
theorem all_ok {st:SortSt} {Q:Unit→SortSt→Prop} (h0:IK a0) (hB:Bs a0 st) (hP:pendingOf st = #[]) (h2:1≤a0.size)
  (h:∀ st',(arrOf st').Perm a0→failedOf st'=none→Up (arrOf st') 0 a0.size→Q () st'):wpS (model prog w) A E s sortRuns' Q st:=by
 rw [sortRuns'_eq]
 refine wpS_bind (wpS_get ?_)
 dsimp only
 have hsz:(arrOf st).size=a0.size:=hB.perm.size_eq
 rw [hsz]
 generalize minRun' a0.size a0.size 0=mr
 refine wpS_bind (wpS_mono (wpS_forRange (I:=fun x c st'=>∃ lo,c=(none,lo)∧Al a0 lo st'∧lo≤a0.size∧(x≤lo ∨ lo=a0.size))
  (Q:=fun c st'=>c=(none,a0.size)∧Al a0 a0.size st') ?step ?fin ⟨0,rfl,⟨hB,by rw [hP]; exact rfl⟩,Nat.zero_le _,.inl (Nat.le_refl _)⟩) ?post)
 case fin=>
  rintro c st' ⟨lo,rfl,b1,b2,b3⟩
  have:lo=a0.size:=by omega
  subst this
  exact ⟨rfl,b1⟩
 case step=>
  rintro x c st' _ hx ⟨lo,rfl,b1,b2,b3⟩
  dsimp only
  by_cases g:lo ≥ a0.size
  ·rw [if_pos g]
   have:lo=a0.size:=by omega
   subst this
   exact wpS_pure ⟨rfl,b1⟩
  rw [if_neg g]
  have hSB:SB a0 (arrOf st') (pendingOf st') lo st':=⟨b1.bs.perm,b1.bs.kind,b1.bs.failed,rfl,fun _ _=>rfl⟩
  -- what follows when the run of n is there
  have nxt:∀ (n:Nat) (st2:SortSt),SB a0 (arrOf st') (pendingOf st') lo st2→1≤n→lo + n≤a0.size→Up (arrOf st2) lo (lo + n)→Al a0 lo st2:=fun n st2 c1 _ _ _=>
   ⟨⟨c1.perm,c1.kind,c1.failed⟩,by rw [c1.pend]; exact b1.ch.like fun t _ ht=>c1.low t ht⟩
  refine wpS_bind (run_ok h0 (by omega) (by omega) hSB fun m st2 c1 m1 m2 u=>?_)
  dsimp only
  have last:∀ (n:Nat) (st2:SortSt),Al a0 lo st2→1≤n→lo + n≤a0.size→Up (arrOf st2) lo (lo + n)→Al a0 (lo + n) (setPending st2 ((pendingOf st2).push (lo,n,0))):=fun n st2 d1 d2 d3 d4=>by
   refine ⟨⟨d1.bs.perm,d1.bs.kind,d1.bs.failed⟩,?_⟩
   show Ch (arrOf st2) 0 ((pendingOf st2).push (lo,n,0)).toList (lo + n)
   rw [Array.toList_push]
   exact Ch.app.mpr ⟨lo,d1.ch,rfl,d2,d4,rfl⟩
  by_cases hm:m < mr
  all_goals first | rw [if_pos hm] | rw [if_neg hm]
  ·refine wpS_bind (wpS_lift (wpAny_rule ⟨rfl,?_⟩))
   refine wpS_bind (bins_ok h0 (n:=min (a0.size - lo) mr) (by omega) c1 u (by omega) fun st3 d1 d2=>?_)
   simp only [Bool.not_true,Bool.false_eq_true,if_false]
   refine wpS_bind (wpS_get ?_)
   obtain ⟨n,hn⟩:∃ n,n=min (a0.size - lo) mr:=⟨_,rfl⟩
   rw [← hn] at d2 ⊢
   have n1:1≤n:=by omega
   have n2:lo + n≤a0.size:=by omega
   have al:=nxt n st3 d1 n1 n2 d2
   cases hb:(pendingOf st3).back? with
   | none=>
    dsimp only
    exact wpS_bind (wpS_modify (wpS_pure ⟨lo + n,rfl,last n st3 al n1 n2 d2,n2,by omega⟩))
   | some e=>
    obtain ⟨s1,n3,p3⟩:=e
    dsimp only
    generalize power' a0.size (2 * s1 + n3) (2 * s1 + n3 + n3 + n) a0.size=pw
    refine wpS_bind (wpS_mono (wpS_forRange (I:=fun y c st4=>c=(none,())∧Al a0 lo st4∧Up (arrOf st4) lo (lo + n))
     (Q:=fun c st4=>c=(none,())∧Al a0 lo st4∧Up (arrOf st4) lo (lo + n)) ?a (fun _ _ z=>z) ⟨rfl,al,d2⟩) ?b)
    case a=>
     rintro y c st4 _ _ ⟨rfl,e1,e2⟩
     refine wpS_bind (wpS_get ?_)
     by_cases hp:(pendingOf st4).size > 1
     ·rw [if_pos hp]
      have hg:(pendingOf st4)[(pendingOf st4).size - 2]?=some (pendingOf st4)[(pendingOf st4).size - 2]:=getElem?_pos _ _ (by omega)
      rw [hg]
      dsimp only
      split
      ·exact wpS_pure ⟨rfl,e1,e2⟩
      ·refine wpS_bind (mg_ok h0 e1 (by omega) (by omega) fun st5 f1 _ f3=>?_)
       simp only [Bool.not_true,Bool.false_eq_true,if_false]
       refine wpS_pure ⟨rfl,f1,fun i j i1 i2 i3=>?_⟩
       rw [f3 i i1,f3 j (by omega)]
       exact e2 i j i1 i2 i3
     ·rw [if_neg hp]
      exact wpS_pure ⟨rfl,e1,e2⟩
    case b=>
     rintro c st4 ⟨rfl,e1,e2⟩
     dsimp only
     refine wpS_bind (wpS_modify (wpS_bind (wpS_modify (wpS_pure ⟨lo + n,rfl,last n _ ⟨⟨e1.bs.perm,e1.bs.kind,e1.bs.failed⟩,?_⟩ n1 n2 e2,n2,by omega⟩))))
     show Ch (arrOf st4) 0 ((pendingOf st4).modify ((pendingOf st4).size - 1) _).toList lo
     rw [Array.toList_modify]
     exact Ch.pow _ (fun s n p=>⟨_,rfl⟩) _ e1.ch
  ·refine wpS_bind (wpS_get ?_)
   have n2:lo + m≤a0.size:=by omega
   have al:=nxt m st2 c1 m1 n2 u
   cases hb:(pendingOf st2).back? with
   | none=>
    dsimp only
    exact wpS_bind (wpS_modify (wpS_pure ⟨lo + m,rfl,last m st2 al m1 n2 u,n2,by omega⟩))
   | some e=>
    obtain ⟨s1,n3,p3⟩:=e
    dsimp only
    generalize power' a0.size (2 * s1 + n3) (2 * s1 + n3 + n3 + m) a0.size=pw
    refine wpS_bind (wpS_mono (wpS_forRange (I:=fun y c st4=>c=(none,())∧Al a0 lo st4∧Up (arrOf st4) lo (lo + m))
     (Q:=fun c st4=>c=(none,())∧Al a0 lo st4∧Up (arrOf st4) lo (lo + m)) ?a (fun _ _ z=>z) ⟨rfl,al,u⟩) ?b)
    case a=>
     rintro y c st4 _ _ ⟨rfl,e1,e2⟩
     refine wpS_bind (wpS_get ?_)
     by_cases hp:(pendingOf st4).size > 1
     ·rw [if_pos hp]
      have hg:(pendingOf st4)[(pendingOf st4).size - 2]?=some (pendingOf st4)[(pendingOf st4).size - 2]:=getElem?_pos _ _ (by omega)
      rw [hg]
      dsimp only
      split
      ·exact wpS_pure ⟨rfl,e1,e2⟩
      ·refine wpS_bind (mg_ok h0 e1 (by omega) (by omega) fun st5 f1 _ f3=>?_)
       simp only [Bool.not_true,Bool.false_eq_true,if_false]
       refine wpS_pure ⟨rfl,f1,fun i j i1 i2 i3=>?_⟩
       rw [f3 i i1,f3 j (by omega)]
       exact e2 i j i1 i2 i3
     ·rw [if_neg hp]
      exact wpS_pure ⟨rfl,e1,e2⟩
    case b=>
     rintro c st4 ⟨rfl,e1,e2⟩
     dsimp only
     refine wpS_bind (wpS_modify (wpS_bind (wpS_modify (wpS_pure ⟨lo + m,rfl,last m _ ⟨⟨e1.bs.perm,e1.bs.kind,e1.bs.failed⟩,?_⟩ m1 n2 e2,n2,by omega⟩))))
     show Ch (arrOf st4) 0 ((pendingOf st4).modify ((pendingOf st4).size - 1) _).toList lo
     rw [Array.toList_modify]
     exact Ch.pow _ (fun s n p=>⟨_,rfl⟩) _ e1.ch
 case post=>
  rintro c st' ⟨rfl,b1⟩
  dsimp only
  have hp0:(pendingOf st').size≤a0.size:=by have:=b1.ch.le; rw [Array.length_toList] at this; omega
  refine wpS_bind (wpS_mono (wpS_forRange (I:=fun x c st2=>c=(none,())∧Al a0 a0.size st2∧((pendingOf st2).size + x≤a0.size ∨ (pendingOf st2).size≤1))
   (Q:=fun c st2=>c=(none,())∧Al a0 a0.size st2∧(pendingOf st2).size≤1) ?a ?b ⟨rfl,b1,.inl (by omega)⟩) ?c)
  case b=>
   rintro c st2 ⟨hc,d1,d2⟩
   exact ⟨hc,d1,by omega⟩
  case a=>
   rintro x c st2 _ hx ⟨rfl,d1,d2⟩
   refine wpS_bind (wpS_get ?_)
   by_cases hs:(pendingOf st2).size≤1
   ·rw [if_pos hs]
    exact wpS_pure ⟨rfl,d1,hs⟩
   rw [if_neg hs]
   refine wpS_bind (mg_ok h0 d1 (Nat.le_refl _) (ite_lt (by omega)) fun st5 f1 f2 _=>?_)
   simp only [Bool.not_true,Bool.false_eq_true,if_false]
   exact wpS_pure ⟨rfl,f1,by omega⟩
  case c=>
   rintro c st2 ⟨rfl,d1,d2⟩
   refine wpS_pure (h st2 d1.bs.perm d1.bs.failed ?_)
   have hc:=d1.ch
   rw [← Array.length_toList] at d2
   match hl:(pendingOf st2).toList with
   | []=>rw [hl] at hc; unfold Ch at hc; omega
   | [(z,n,p)]=>
    rw [hl] at hc
    obtain ⟨e1,e2,e3,e4⟩:=hc
    unfold Ch at e4
    rw [Nat.zero_add] at e3 e4
    subst e4
    exact e3
   | _ :: _ :: _=>rw [hl] at d2; simp at d2
end
end SR
namespace SR
open PySem PyProof.Rows
section
variable {prog:Program} {w:World} {A:Around} {E:Value→Shared→Prop} {s:Shared}
theorem ups {xs:Array Keyed} {n:Nat} (h:Up xs 0 n):SortedTo xs n:=fun i j i1 i2=>h i j (Nat.zero_le _) i1 i2
theorem sort_all {a:Addr} {vs:List Value} {ns:List Int} {n:Nat} {P:Fin→Shared→Prop} (ho:s.heap.get? a=some (seqObj "list" vs.toArray n)) (hI:IntsAre vs ns) (hz:vs.length≤sizeLine)
  (h:∀ (out:Array Value) (ns':List Int),IntsAre out.toList ns'→ns'.Perm ns→ns'.Pairwise (· ≤ ·)→P (.done (.ret .none)) { s with heap:=sortedHeap s.heap a vs out }):wpAny (model prog w) A (Builtin.«list.sort» ⟨[.ref a],[]⟩) P E s:=by
 by_cases h64:vs.length < 64
 ·exact list_sort_tree ho hI h64 h
 rw [list_sort_plain]
 have lt:=Heap.lt_size ho
 refine wpAny_bind (listItems_at ho rfl (wpAny_bind (listUpdate_at ho rfl ?_ (hsz:=by simpa using hz) (hsz2:=by simp))))
 obtain ⟨ep,g1⟩:∃ ep,(s.heap.update a (Obj.mapSeq fun _=>#[])).get? a=some (seqObj "list" #[] ep):=⟨_,get?_update_seq ho (fun _=>#[])⟩
 refine wpAny_bind (seqEpoch_at g1 rfl (wpAny_bind (wpAny_newTuple (wpAny_bind (wpAny_newList (wpAny_holding ?_))) (by simpa using hz))))
 have g2:(((s.heap.update a (Obj.mapSeq fun _=>#[])).push (seqObj "tuple" vs.toArray 0)).push (seqObj "list" #[] 0)).get? a=some (seqObj "list" #[] ep):=by
  have z1:(s.heap.update a (Obj.mapSeq fun _=>#[])).objs.size=s.heap.objs.size:=Heap.size_update ..
  rw [Heap.get?_push_ne _ _ _ (by rw [size_push',z1]; exact Nat.ne_of_lt (Nat.lt_succ_of_lt lt)),Heap.get?_push_ne _ _ _ (by rw [z1]; exact Nat.ne_of_lt lt),g1]
 have big:¬ vs.toArray.size < 2:=by simp; omega
 dsimp only
 rw [if_neg big,if_neg big]
 match vs,hI,hz,h64 with
 | [],_,_,h64=>exact absurd (by decide) h64
 | [_],_,_,h64=>exact absurd (by simp) h64
 | v1 :: v2 :: vs,hI,hz,h64=>
  rw [keyKind_ints hI]
  refine wpAny_bind (wpAny_pure (wpAny_bind (wpAny_mono (all_ok (a0:=pairsOf (v1 :: v2 :: vs)) (st:=SortSt.mk' oneType' ((v1 :: v2 :: vs).toArray.zip (v1 :: v2 :: vs).toArray) #[] 7 none)
   (Q:=fun _ st'=>(arrOf st').Perm (pairsOf (v1 :: v2 :: vs))∧failedOf st'=none∧SortedTo (arrOf st') (pairsOf (v1 :: v2 :: vs)).size)
   hI.intKeys ⟨Array.Perm.refl _,rfl,rfl⟩ rfl (by rw [pairsOf_size]; simp) fun st' b1 b2 b3=>⟨b1,b2,ups b3⟩) ?_ fun _ _ e=>e)))
  rintro ⟨⟨⟩,st'⟩ s' ⟨rfl,b1,b2,b3⟩
  have hsz:((arrOf st').map (·.2)).size=(v1 :: v2 :: vs).length:=(Array.size_map ..).trans (b1.size_eq.trans (pairsOf_size _))
  obtain ⟨ns',c1,c2,c3⟩:=sorted_out hI b1 b3
  refine wpAny_bind (seqEpoch_at g2 rfl (wpAny_bind (listUpdate_at g2 rfl ?_ (hsz:=by simp) (hsz2:=by rw [hsz]; omega))))
  rw [b2]
  simp only [bne_self_eq_false,Bool.false_eq_true,if_false]
  exact wpAny_pure (h _ ns' c1 c2 c3)
end
end SR
namespace SQ
open PySem PySem.Spec PyProof.Rows
section
variable {prog:Program} {w:World} {A:Around} {E:Value→Shared→Prop} {s:Shared}
theorem sortedHeap_ok {h:Heap} {a:Addr} {vs:List Value} {n:Nat} {out:Array Value} (ho:h.get? a=some (seqObj "list" vs.toArray n)):(∃ n',(sortedHeap h a vs out).get? a=some (seqObj "list" out n'))∧∀ b o,b ≠ a→h.get? b=some o→(sortedHeap h a vs out).get? b=some o:=by
 unfold sortedHeap
 obtain ⟨k,g⟩:∃ k,(h.update a (Obj.mapSeq fun _=>#[])).get? a=some (seqObj "list" #[] k):=⟨_,get?_update_seq ho _⟩
 refine ⟨⟨_,get?_update_seq (Heap.get?_push_of_some _ (Heap.get?_push_of_some _ g)) _⟩,fun b o hb e=>?_⟩
 exact ((Heap.SameBut.update ..).2 b hb).trans (Heap.get?_push_of_some _ (Heap.get?_push_of_some _ (((Heap.SameBut.update ..).2 b hb).trans e)))
theorem sorted_tail {s:Shared} {vs:List Value} {ns:List Int} {Q:Value→Shared→Prop} (hI:IntsAre vs ns) (hz:vs.length≤sizeLine)
  (h:∀ (h':Heap) (out:Array Value) (ns':List Int) (n:Nat),(∀ b o,s.heap.get? b=some o→h'.get? b=some o)→h'.get? s.heap.objs.size=some (seqObj "list" out n)→IntsAre out.toList ns'→ns'.Perm ns→ns'.Pairwise (· ≤ ·)→Q (.ref s.heap.objs.size) { s with heap:=h' }):
  wpAny (model prog w) A (do
   let l ← newList vs
   let _ ← holding [l] (call (.builtin "list.sort") [l] [])
   ret l) (fun fin s'=>∃ v,fin=.done (.ret v)∧Q v s') E s:=by
 refine wpAny_bind (wpAny_newList ?_ hz)
 have g:(s.heap.push (seqObj "list" vs.toArray 0)).get? s.heap.objs.size=some (seqObj "list" vs.toArray 0):=Heap.get?_push_size _ rfl
 refine wpAny_bind (wpAny_holding (wpAny_call_entry slot_list_sort ⟨_,g,rfl⟩ entry_list_sort (SR.sort_all g hI hz fun out ns' a1 a2 a3=>⟨_,rfl,?_⟩) (args_list_sort _)))
 obtain ⟨⟨n,g1⟩,g2⟩:=sortedHeap_ok (out:=out) g
 exact wpAny_pure ⟨_,rfl,h _ out ns' n (fun b o e=>g2 b o (Nat.ne_of_lt (Heap.lt_size e)) (Heap.get?_push_of_some _ e)) g1 a1 a2 a3⟩
theorem sorted_seq {k:Bool} {l:Addr} {vs:List Value} {ns:List Int} {Q:Value→Shared→Prop} (hl:Is k s.heap l vs.toArray) (hI:IntsAre vs ns) (hz:vs.length≤sizeLine)
  (h:∀ (a:Addr) (h':Heap) (out:Array Value) (ns':List Int) (n:Nat),s.heap.objs.size≤a→(∀ b o,s.heap.get? b=some o→h'.get? b=some o)→h'.get? a=some (seqObj "list" out n)→IntsAre out.toList ns'→ns'.Perm ns→ns'.Pairwise (· ≤ ·)→Q (.ref a) { s with heap:=h' }):
  wpAny (model prog w) A (call (.builtin "sorted") [.ref l]) Q E s:=by
 refine Calls.call_function_entry kind_sorted plain_sorted entry_sorted (args_sorted1 _) ?_
 unfold Builtin.«sorted»
 refine wpAny_bind (m:=checkCount "sorted" 1 1 _) (wpAny_pure ?_)
 refine wpAny_bind (collects hl ?_ hz)
 have kp:∀ b o,s.heap.get? b=some o→((s.heap.push (seqObj "list" #[] 0)).update s.heap.objs.size (Obj.mapSeq (· ++ vs.toArray))).get? b=some o:=fun b o e=>
  ((Heap.SameBut.update ..).2 b (Nat.ne_of_lt (Heap.lt_size e))).trans (Heap.get?_push_of_some _ e)
 refine sorted_tail (s:={ s with heap:=(s.heap.push (seqObj "list" #[] 0)).update s.heap.objs.size (Obj.mapSeq (· ++ vs.toArray)) }) hI hz fun h' out ns' n k1 k2 a1 a2 a3=>h _ h' out ns' n ?_ (fun b o e=>k1 b o (kp b o e)) k2 a1 a2 a3
 show s.heap.objs.size≤((s.heap.push (seqObj "list" #[] 0)).update s.heap.objs.size (Obj.mapSeq (· ++ vs.toArray))).objs.size
 rw [Heap.size_update,size_push']; exact Nat.le_succ _
theorem sorted_src {T:String} {r d:Addr} {n:Nat} {P:Nat→Value→Prop} {OK:Heap→Prop} {ns:List Int} {Q:Value→Shared→Prop} (K:PySem.W.KdlSrc prog w T r d n P OK) (hh:A.handled=none) (hok:OK s.heap) (hn:n≤sizeLine)
  (hI:∀ vs:List Value,vs.length=n→(∀ j v,vs[j]?=some v→P j v)→IntsAre vs ns)
  (h:∀ (h1:Heap) (tk:Nat),(∀ b o,s.heap.get? b=some o→h1.get? b=some o)→∀ (h2:Heap) (out:Array Value) (ns':List Int) (n:Nat),(∀ b o,h1.get? b=some o→h2.get? b=some o)→h2.get? h1.objs.size=some (seqObj "list" out n)→IntsAre out.toList ns'→ns'.Perm ns→ns'.Pairwise (· ≤ ·)→Q (.ref h1.objs.size) { s with heap:=h2,toks:=tk }):
  wpAny (model prog w) A (call (.builtin "sorted") [.ref r]) Q E s:=by
 refine Calls.call_function_entry kind_sorted plain_sorted entry_sorted (args_sorted1 _) ?_
 unfold Builtin.«sorted»
 refine wpAny_bind (m:=checkCount "sorted" 1 1 _) (wpAny_pure ?_)
 refine wpAny_bind (PySem.W.kdu_collect (A:=A.in1) K hh hok hn fun h' tk acc hk hacc=>?_)
 have hl:acc.toList.length=n:=by rw [Array.length_toList]; exact hacc.1
 have hi:=hI acc.toList hl fun j v e=>hacc.2 j v (by rw [← Array.getElem?_toList]; exact e)
 refine sorted_tail (s:={ s with heap:=h',toks:=tk }) hi (by omega) fun h2 out ns' n k1 k2 a1 a2 a3=>h h' tk hk h2 out ns' n k1 k2 a1 a2 a3
end
end SQ
namespace PD
open PySem PySem.Spec PyProof.Rows L2
noncomputable def kints:List (KD × D)→Option (List Int)
 | []=>some []
 | (.inl i,_) :: r=>(kints r).map (i :: ·)
 | _=>none
noncomputable def srtOf (S:Sto) (d:D):Option (List Int):=match seqOf S d with
 | some a=>intsOf a
 | none=>match dicOf S d with
  | some kvs=>kints kvs
  | none=>none
noncomputable def fSrt:Sto→List D→Option D
 | S,[d]=>match srtOf S d with
  | some ns=>if ns.length≤sizeLine then some (.lst ((sortZ ns).map .int)) else none
  | none=>none
 | _,_=>none
section
variable {X:Cx} {E:XK}
theorem kints_len:∀ {kvs:List (KD × D)} {ns:List Int},kints kvs=some ns→ns.length=kvs.length
 | [],_,h=>by unfold kints at h; cases h; rfl
 | (.inl i,_) :: r,ns,h=>by
  unfold kints at h
  cases e:kints r with
  | none=>rw [e] at h; cases h
  | some m=>rw [e] at h; cases h; simp [kints_len e]
 | (.inr i,_) :: r,ns,h=>by unfold kints at h; cases h
theorem kints_at:∀ {kvs:List (KD × D)} {ns:List Int},kints kvs=some ns→∀ (j:Nat) (k:KD) (d:D),kvs[j]?=some (k,d)→∃ i,ns[j]?=some i∧k=.inl i
 | [],_,h,j,k,d,e=>by simp at e
 | (.inl i,x) :: r,ns,h,j,k,d,e=>by
  unfold kints at h
  cases e':kints r with
  | none=>rw [e'] at h; cases h
  | some m=>
   rw [e'] at h; cases h
   cases j with
   | zero=>simp at e; exact ⟨i,rfl,e.1.symm⟩
   | succ j=>exact kints_at e' j k d (by simpa using e)
 | (.inr i,_) :: r,ns,h,j,k,d,e=>by unfold kints at h; cases h
theorem ints_of_at:∀ (vs:List Value) (ns:List Int),vs.length=ns.length→(∀ (j:Nat) (v:Value),vs[j]?=some v→∃ i t,ns[j]?=some i∧v=.int i t)→IntsAre vs ns
 | [],[],_,_=>.nil
 | v :: vs,n :: ns,hl,h=>by
  obtain ⟨i,t,e,rfl⟩:=h 0 v rfl
  cases e
  exact .cons _ _ (ints_of_at vs ns (by simpa using hl) fun j v e=>h (j + 1) v (by simpa using e))
 | [],_ :: _,hl,_=>by simp at hl
 | _ :: _,[],hl,_=>by simp at hl
theorem RDk.at {K:PySem.W.Frag} {w:Wd} {H:Hp}:∀ {ds:List (KD × D)} {us:List (Key × V)},RDk K w H ds us→∀ (j:Nat) (k:Key) (v:V),us[j]?=some (k,v)→∃ d,ds[j]?=some (k,d)
 | [],_,h,j,k,v,e=>by rw [h.nil_inv] at e; simp at e
 | (k0,d) :: ds,_,h,j,k,v,e=>by
  obtain ⟨v0,r,rfl,_,t⟩:=h.cons_inv
  cases j with
  | zero=>simp at e; exact ⟨d,by simp [e.1]⟩
  | succ j=>exact t.at j k v (by simpa using e)
theorem xc_srt (hc:X.calm=true):CallR X (.builtin "sorted") (xC X.K E fSrt):=by
 rintro pins s σ H xs us Q I r ⟨w,S,ds,hS,qs,p⟩
 obtain ⟨z,hz,p'⟩:=p.of
 clear p
 unfold fSrt at hz
 split at hz
 ·rename_i d
  obtain ⟨v,rfl,q⟩:=qs.one_inv
  split at hz
  ·rename_i ns hns
   split at hz
   ·rename_i hlt
    cases hz
    -- the list that comes
    have last:∀ (s1:Shared) (a:Addr) (h2:Heap) (tk:Nat) (out:Array Value) (ns':List Int) (n:Nat),Inv X pins σ H s1→s1.heap.objs.size≤a→(∀ b o,s1.heap.get? b=some o→h2.get? b=some o)→h2.get? a=some (seqObj "list" out n)→IntsAre out.toList ns'→ns'.Perm ns→ns'.Pairwise (· ≤ ·)→EP X pins σ Q (.ref a) { s1 with heap:=h2,toks:=tk }:=fun s1 a h2 tk out ns' n I1 la k1 k2 a1 a2 a3=>by
     have en:ns'=sortZ ns:=sorted_uniq (a2.trans (sortZ_perm ns).symm) a3 (sortZ_sorted ns)
     subst en
     have hf:H a=none:=I1.hok.fresh la
     have hz:((sortZ ns).map V.int).length≤sizeLine:=by rw [List.length_map,(sortZ_perm ns).length_eq]; exact hlt
     refine ⟨.ref a,_,I1.laid (t':=tk) (a:=a) (o:=.lst ((sortZ ns).map V.int)) k1 la ⟨hz,out.toList,n,vals_of a1,by rw [Array.toArray_toList]; exact k2⟩,rfl,?_⟩
     exact p'.at (Ext.new hf) (RD.newLst hS hf (rds_ints _)) (hS.new hf)
    unfold srtOf at hns
    split at hns
    ·rename_i a ha
     obtain ⟨pa,vs,rfl,sq,ra⟩:=seq_ok hS q ha
     obtain ⟨u,rfl,rx⟩:=vals1 r
     cases rx
     have main:∀ (k:Bool) (its:List Value),Vals vs its→SQ.Is k s.heap pa its.toArray→wpAny (model X.prog X.w) X.A (call (.builtin "sorted") [.ref pa]) (EP X pins σ Q) X.xe s:=fun k its rv pl=>by
      have hI:=ints_are ra rv hns
      have hl:its.length=ns.length:=hI.length
      exact SQ.sorted_seq pl hI (by omega) fun a h' out ns' n la k1 k2 a1 a2 a3=>last s a h' s.toks out ns' n I la k1 k2 a1 a2 a3
     rcases sq with hq | hq
     ·obtain ⟨its,r',pl,hz⟩:=I.list hq
      exact main false its r' pl.isList
     ·obtain ⟨its,r',pl,hz⟩:=I.tuple hq
      exact main true its r' pl
    ·split at hns
     ·rename_i kvs hd
      obtain ⟨pp,us',rfl,rd,rk⟩:=dic_at hS q hd
      obtain ⟨u,rfl,rx⟩:=vals1 r
      cases rx
      obtain ⟨hl,hm,vs,rel,dd⟩:=dk_rd I.hok rd
      obtain ⟨ep,hat⟩:=dd.dictAt
      have e1:=rel.length
      have e2:=rk.length
      have e3:=kints_len hns
      refine SQ.sorted_src (ns:=ns) (PySem.W.kdl_dict (knd:=mixKind X.prog X.w) (kvs:=vs) (ep:=ep) hm) (I.ok.hd hc) hat (by omega) (fun ws hw hv=>?_) fun h1 tk hk h2 out ns' n k1 k2 a1 a2 a3=>?_
      ·refine ints_of_at ws ns (by omega) fun j u hu=>?_
       obtain ⟨k,x,hx,hkey⟩:=hv j u hu
       obtain ⟨y,hy⟩:∃ y,us'[j]?=some (k,y):=by
        have e:=congrArg (fun l:List Key=>l[j]?) rel.keys
        simp only [List.getElem?_map,hx,Option.map_some] at e
        cases hu':us'[j]? with
        | none=>rw [hu'] at e; cases e
        | some q=>rw [hu'] at e; cases e; exact ⟨q.2,rfl⟩
       obtain ⟨d',hd'⟩:=rk.at j k y hy
       obtain ⟨i,hi,rfl⟩:=kints_at hns j k d' hd'
       have:=kV_of_is hkey
       obtain ⟨t,rfl⟩:∃ t,u=.int i t:=this
       exact ⟨i,t,hi,rfl⟩
      ·exact last { s with heap:=h1,toks:=tk } _ h2 tk out ns' n (I.kept (t':=tk) hk) (Nat.le_refl _) k1 k2 a1 a2 a3
     ·cases hns
   ·cases hz
  ·cases hz
 ·cases hz
end
end PD
namespace PD
open PySem PySem.Spec PyProof.Rows L2
section
variable {prog:Program} {w:World} {A:Around} {R:Result→Shared→Prop} {I:Addr} {fp wr:List Addr} {n:Nat} {P:Nat→Value→Prop} {St:Nat→Heap→Prop} {h0:Heap} {bt:Nat→Nat→Bool} {S:Addr} {kw:List (Str × Value)}
end
section
variable {prog:Program} {w:World} {A:Around} {E:Value→Shared→Prop} {s:Shared}
end
section
variable {X:Cx} {E:XK}
end
end PD
namespace L2
open PySem PySem.Spec PyProof.Rows
section
variable {X:Cx} {tg:Expr}
end
end L2
namespace PD
open PySem PySem.Spec PyProof.Rows L2
section
variable {X:Cx} {E:XK}
end
end PD
namespace PD
open PySem PySem.Spec PyProof.Rows L2
section
variable {X:Cx} {E:XK}
end
end PD
namespace PD
open PySem PySem.Spec PyProof.Rows L2
section
variable {X:Cx} {E:XK} {a:Expr} {ma:EM}
end
end PD
namespace PySem
open PyProof.Rows
namespace F
end F
section
variable {prog:Program} {w:World} {A:Around} {E:Value→Shared→Prop} {s:Shared}
open AutoSeq1 (wpAny_loadPart')
end
end PySem
namespace L2
open PySem PySem.Spec PyProof.Rows
section
variable {X:Cx}
end
end L2
namespace PD
open PySem PySem.Spec PyProof.Rows L2
section
variable {X:Cx} {E:XK} {a:Expr}
end
end PD
namespace L2
open PySem PySem.Spec PyProof.Rows
section
variable {X:Cx}
end
end L2
namespace PD
open PySem PySem.Spec PyProof.Rows L2
section
variable {X:Cx} {E:XK}
end
end PD
namespace PySem
section
variable {M:Model} {A:Around} {E:Value→Shared→Prop} {s:Shared} {env:Env}
end
end PySem
namespace L2
open PySem PySem.Spec PyProof.Rows
section
variable {X:Cx} {pins:List (Addr × Obj)} {σ:St} {H:Hp} {s:Shared}
end
end L2
namespace PD
open PySem PySem.Spec PyProof.Rows L2
section
variable {X:Cx} {E:XK}
end
end PD
namespace PD
open PySem PySem.Spec PyProof.Rows L2
section
variable {X:Cx} {E:XK}
end
end PD
namespace PD
open PySem PySem.Spec PyProof.Rows L2
section
variable {prog:Program} {w:World} {A:Around} {Ex:Value→Shared→Prop} {s:Shared}
end
section
variable {X:Cx} {E:XK}
end
end PD
namespace L2
open PySem PySem.Spec PyProof.Rows
section
variable {X:Cx}
end
end L2
namespace PD
open PySem PySem.Spec PyProof.Rows L2
section
variable {X:Cx} {E:XK} {a:Expr}
end
end PD
namespace PySem
open PyProof.Rows
open Sem (wp)
namespace F
end F
section
variable {prog:Program} {w:World} {A:Around} {E:Value→Shared→Prop}
end
section
variable {prog:Program} {w:World} {K:Type} [DecidableEq K] {knd:KeyKind prog w K} {A:Around} {R:Result→Shared→Prop}
end
section
variable {prog:Program} {w:World} {K:Type} [DecidableEq K] {knd:KeyKind prog w K} {A:Around} {E:Value→Shared→Prop} {s:Shared}
end
end PySem
namespace L2
open PySem PySem.Spec PyProof.Rows
section
variable {X:Cx}
end
end L2
namespace PD
open PySem PySem.Spec PyProof.Rows L2
section
variable {X:Cx} {E:XK}
end
end PD
namespace L2
open PySem PySem.Spec PyProof.Rows
section
variable {X:Cx}
end
end L2
namespace PD
open PySem PySem.Spec PyProof.Rows L2
section
variable {X:Cx} {E:XK}
variable {d:Expr} {md:EM} {x:Str} {p pos0 apos pos:Pos}
end
section
variable {X:Cx} {E:XK}
end
end PD
namespace PD
open PySem PySem.Spec PyProof.Rows L2
section
variable {K:PySem.W.Frag} {w w':Wd} {H H':Hp}
end
section
variable {X:Cx} {E:XK} {c f m x:Str} {a b o v:Expr} {ma mo mv:EM} {es:List Expr} {ms:AM} {k n:Nat} {F:FM} {p pos apos tpos:Pos}
end
section
variable {P:Program} {w:World} {K:PySem.W.Frag} {mg:Str→Option Value} {base:Heap}
end
end PD
namespace PD
open PySem PySem.Spec PyProof.Rows L2
section
variable {X:Cx} {E:XK} {o:Expr} {mo:EM} {apos cpos:Pos}
end
end PD
namespace PD
open PySem PySem.Spec PyProof.Rows L2
section
variable {X:Cx} {E:XK} {a b c:Expr} {ma mb mc:EM} {pos:Pos}
end
end PD
namespace PD
open PySem PySem.Spec PyProof.Rows L2
noncomputable def okPyS (p:PyData):Prop:=p.showable=true∧p.depth≤40∧p.shown.length≤sizeLine∧p.hasDict=false
noncomputable instance (p:PyData):Decidable (okPyS p):=by unfold okPyS; infer_instance
noncomputable def fReprS:Sto→List D→Option D
 | S,[d]=>match toPyS S d with
  | some p=>if okPyS p then some (.str p.shown) else none
  | none=>none
 | _,_=>none
section
variable {X:Cx} {E:XK}
theorem xc_reprS {k:Nat} (hr:Room k X.A):CallR X (.builtin "repr") (xC X.K E fReprS):=by
 rintro pins s σ H xs us Q I r ⟨w,S,ds,hS,qs,p⟩
 obtain ⟨z,hz,p'⟩:=p.of
 clear p
 unfold fReprS at hz
 split at hz
 ·rename_i d
  obtain ⟨v,rfl,q⟩:=qs.one_inv
  obtain ⟨u,rfl,ru⟩:=vals1 r
  cases e:toPyS S d with
  | none=>rw [e] at hz; cases hz
  | some py=>
   rw [e] at hz
   simp only at hz
   split at hz
   ·rename_i ok
    cases hz
    obtain ⟨as,rd⟩:=reads_okS I hS q ru e
    have hu:X.A.units + (py.depth + 1) < cLine:=by have:=hr.un; have:=ok.2.1; omega
    have hsm:py.hasDict=true→sysModules ∉ as:=fun hd=>by
     rw [ok.2.2.2] at hd; cases hd
    have fin:∀ tk h' t,(∀ b o,s.heap.get? b=some o→h'.get? b=some o)→EP X pins σ Q (.str py.shown t) { s with heap:=h',toks:=tk }:=fun tk h' t hk=>⟨.str py.shown,H,I.kept hk,⟨t,rfl⟩,p'.ret RD.mkS hS⟩
    have stay:∀ b o,s.heap.get? b=some o→s.heap.get? b=some o:=fun _ _ z=>z
    cases rd with
    | none=>exact PySem.P.repr_of_none (fin _ _ _ stay)
    | bool b=>
     have z:=fin (s.toks + 1) s.heap s.toks stay
     unfold PyData.shown at z
     refine PySem.P.repr_of_bool ?_
     cases b <;> exact z
    | int i t=>exact PySem.P.repr_of_int (of_decide_eq_true (by have:=ok.1; unfold PyData.showable at this; exact this)) (fin _ _ _ stay)
    | str x t=>exact PySem.P.repr_of_str (fin _ _ _ stay) (by have:=ok.2.2.1; unfold PyData.shown at this; exact this)
    | list h1 h2 h3 h4=>exact repr_of_reads' (.list h1 h2 h3 h4) ok.1 hsm hr.gd hu stay (fun h' u tk hk=>fin tk h' u hk) ok.2.2.1
    | tuple h1 h2 h3 h4=>exact repr_of_reads' (.tuple h1 h2 h3 h4) ok.1 hsm hr.gd hu stay (fun h' u tk hk=>fin tk h' u hk) ok.2.2.1
    | dict h1 h2 h3 h4 h5=>exact repr_of_reads' (.dict h1 h2 h3 h4 h5) ok.1 hsm hr.gd hu stay (fun h' u tk hk=>fin tk h' u hk) ok.2.2.1
   ·cases hz
 ·cases hz
end
end PD
namespace PD
open PySem PySem.Spec PyProof.Rows L2
open AutoSeq1 (wpAny_loadPart')
open MeetsSeq MeetsSeq2 MeetsSeq3 SeqRoads2 PySem.SeqAt
section
variable {X:Cx} {E:XK} {pins:List (Addr × Obj)} {σ:L2.St} {H:Hp} {s:Shared}
end
section
variable {X:Cx} {E:XK}
end
section
variable {X:Cx} {E:XK}
variable {d:Expr} {md:EM} {x:Str} {p pos0 apos pos:Pos}
end
end PD
namespace PD
open PySem PySem.Spec PyProof.Rows L2
section
variable {X:Cx} {E:XK} {a b:Expr} {pos:Pos}
end
end PD
namespace PySem
open PyProof.Rows
section
variable {prog:Program} {w:World} {A:Around} {E:Value→Shared→Prop} {s:Shared} {K:Type} [DecidableEq K] {knd:KeyKind prog w K}
end
end PySem
namespace PD
open PySem PySem.Spec PyProof.Rows L2
section
variable {X:Cx} {E:XK}
end
end PD
namespace L2
open PySem PySem.Spec PyProof.Rows
section
variable {X:Cx}
end
end L2
namespace PD
open PySem PySem.Spec PyProof.Rows L2
section
variable {X:Cx} {E:XK} {d:Expr} {md:EM} {apos pos:Pos}
end
section
variable {X:Cx} {E:XK}
end
end PD
namespace PD
open PySem PySem.Spec PyProof.Rows L2
section
variable {X:Cx} {E:XK}
end
end PD
namespace L2
open PySem PySem.Spec PyProof.Rows
section
variable {X:Cx}
end
end L2
namespace PD
open PySem PySem.Spec PyProof.Rows L2
section
variable {X:Cx} {E:XK}
end
section
variable {X:Cx} {E:XK}
end
end PD
namespace PD
open PySem PySem.Spec PyProof.Rows L2
end PD
namespace PD
open PySem PySem.Spec PyProof.Rows L2
section
variable {X:Cx} {E:XK}
end
end PD
namespace PySem
section
variable {M:Model} {A:Around} {E:Value→Shared→Prop} {s:Shared} {bs:Heap} {en:Env} {out:List Env} {L e:Addr} {cl a0 fl:Value}
end
end PySem
namespace L2
open PySem PySem.Spec PyProof.Rows
section
variable {X:Cx} {pins:List (Addr × Obj)} {σ:St} {H H':Hp} {s s':Shared} {E:XK} {ea:Addr} {cls:Value}
end
end L2
namespace PD
open PySem PySem.Spec PyProof.Rows L2
section
variable {P:Program} {w:World} {K:PySem.W.Frag} {mg:Str→Option Value} {base:Heap} {N:List Str} {qual:Str} {scope:Scope} {f:Addr} {cdv:Value} {A:Around} {outer:List Env} {s:Shared} {H:Hp} {E:XK}
end
section
variable {prog:Program} {w:World} {A:Around} {R:Result→Shared→Prop} {s:Shared}
end
end PD
namespace HT
open PySem PySem.Spec PyProof.Rows
section
variable {prog:Program} {w:World} {A:Around} {E:Value→Shared→Prop} {s:Shared}
end
end HT
namespace L2
open PySem PySem.Spec PyProof.Rows
section
variable {X:Cx}
end
end L2
namespace PD
open PySem PySem.Spec PyProof.Rows L2
section
variable {X:Cx} {E:XK}
end
end PD
namespace PD
open PySem PyProof PyProof.Rows L2
section
variable {prog:Program} {w:World} {A:Around} {E:Value→Shared→Prop} {s:Shared}
end
section
variable {X:Cx} {E:XK} {a b c:Expr} {ma mb mc:EM} {pos pt:Pos}
end
end PD
namespace PD
open PySem PySem.Spec PyProof.Rows L2
section
variable {X:Cx} {E:XK} {a b:Expr} {es:List Expr} {ms:AM} {x:Str} {p pos:Pos}
omit X E a b es ms x p pos in
end
end PD
namespace ST
open PySem PyProof.Rows
noncomputable def Ris (p:List Nat):Prop:=p.Pairwise (· < ·)
theorem below_go (xs:Array Nat) (h:Ris xs.toList) (j:Nat):∀ (f lo hi:Nat),hi≤xs.size→lo≤hi→hi - lo < 2 ^ f→(∀ i,i < lo→∀ x,xs[i]?=some x→x < j)→(∀ i,hi≤i→∀ x,xs[i]?=some x→j≤x)→
  ∃ k,SetTable.below.go xs j f lo hi=k∧k≤xs.size∧(∀ i,i < k→∀ x,xs[i]?=some x→x < j)∧∀ i,k≤i→∀ x,xs[i]?=some x→j≤x
 | 0,lo,hi,h1,h2,h3,h4,h5=>by
  have e:lo=hi:=by simp at h3; omega
  exact ⟨lo,rfl,by omega,h4,by rw [e]; exact h5⟩
 | f + 1,lo,hi,h1,h2,h3,h4,h5=>by
  unfold SetTable.below.go
  by_cases hl:lo < hi
  ·rw [if_pos hl]
   have hm:(lo + hi) / 2 < xs.size:=by omega
   have hp:2 ^ (f + 1)=2 * 2 ^ f:=by rw [Nat.pow_succ,Nat.mul_comm]
   have mono:∀ a b x y,a < b→xs[a]?=some x→xs[b]?=some y→x < y:=fun a b x y hab ea eb=>by
    obtain ⟨ha,rfl⟩:=Array.getElem?_eq_some_iff.mp ea
    obtain ⟨hb,rfl⟩:=Array.getElem?_eq_some_iff.mp eb
    have:=(List.pairwise_iff_getElem.mp h) a b (by simpa using ha) (by simpa using hb) hab
    simpa using this
   have em:xs.getD ((lo + hi) / 2) j=xs[(lo + hi) / 2]:=by simp [Array.getD,hm]
   show ∃ k,(if xs.getD ((lo + hi) / 2) j < j then SetTable.below.go xs j f ((lo + hi) / 2 + 1) hi else SetTable.below.go xs j f lo ((lo + hi) / 2))=k∧_
   rw [em]
   by_cases hj:xs[(lo + hi) / 2] < j
   ·rw [if_pos hj]
    refine below_go xs h j f _ _ h1 (by omega) (by omega) (fun i hii x ex=>?_) h5
    by_cases e:i=(lo + hi) / 2
    ·subst e
     obtain ⟨_,rfl⟩:=Array.getElem?_eq_some_iff.mp ex
     exact hj
    ·have:=mono i ((lo + hi) / 2) x _ (by omega) ex (Array.getElem?_eq_getElem hm)
     omega
   ·rw [if_neg hj]
    refine below_go xs h j f _ _ (by omega) (by omega) (by omega) h4 (fun i hii x ex=>?_)
    by_cases e:i=(lo + hi) / 2
    ·subst e
     obtain ⟨_,rfl⟩:=Array.getElem?_eq_some_iff.mp ex
     omega
    ·have:=mono ((lo + hi) / 2) i _ x (by omega) (Array.getElem?_eq_getElem hm) ex
     omega
  ·rw [if_neg hl]
   have e:lo=hi:=by omega
   exact ⟨lo,rfl,by omega,h4,by rw [e]; exact h5⟩
theorem below_ok (xs:Array Nat) (h:Ris xs.toList) (j:Nat):SetTable.below xs j≤xs.size∧(∀ i,i < SetTable.below xs j→∀ x,xs[i]?=some x→x < j)∧∀ i,SetTable.below xs j≤i→∀ x,xs[i]?=some x→j≤x:=by
 obtain ⟨k,e,a1,a2,a3⟩:=below_go xs h j xs.size 0 xs.size (Nat.le_refl _) (Nat.zero_le _) (by rw [Nat.sub_zero]; exact Nat.lt_two_pow_self) (fun i hi=>absurd hi (Nat.not_lt_zero _)) fun i hi x ex=>by
  have:=(Array.getElem?_eq_some_iff.mp ex).1
  omega
 have e':SetTable.below xs j=k:=e
 rw [e']; exact ⟨a1,a2,a3⟩
noncomputable abbrev NotLive (t:SetTable) (j:Nat):Prop:=t.place[SetTable.below t.place j]? ≠ some j
theorem put_ris {t:SetTable} (h:Ris t.place.toList) {j:Nat} (hj:NotLive t j):Ris (t.put j).1.place.toList:=by
 obtain ⟨a1,a2,a3⟩:=below_ok t.place h j
 show Ris (SetTable.insertAt t.place (SetTable.below t.place j) j).toList
 rw [SetTable.toList_insertAt]
 unfold NotLive at hj
 generalize SetTable.below t.place j=k at *
 have h':t.place.toList.Pairwise (· < ·):=h
 have lo:∀ a ∈ t.place.toList.take k,a < j:=fun a ha=>by
  obtain ⟨i,hi⟩:=List.mem_iff_getElem?.mp ha
  rw [List.getElem?_take] at hi
  split at hi
  ·rename_i hik
   exact a2 i hik a (by rw [← Array.getElem?_toList]; exact hi)
  ·cases hi
 have up:∀ b ∈ t.place.toList.drop k,j < b:=fun b hb=>by
  obtain ⟨i,hi⟩:=List.mem_iff_getElem?.mp hb
  rw [List.getElem?_drop,Array.getElem?_toList] at hi
  have hle:=a3 (k + i) (Nat.le_add_right _ _) b hi
  rcases Nat.lt_or_ge j b with z | z
  ·exact z
  ·exfalso
   have e:b=j:=by omega
   subst e
   cases i with
   | zero=>exact hj hi
   | succ i=>
    obtain ⟨h1,e1⟩:=Array.getElem?_eq_some_iff.mp hi
    have hk:k < t.place.size:=by omega
    have q:=(List.pairwise_iff_getElem.mp h') k (k + (i + 1)) (by simpa using hk) (by simpa using h1) (by omega)
    have q2:=a3 k (Nat.le_refl _) _ (Array.getElem?_eq_getElem hk)
    simp only [Array.getElem_toList] at q
    omega
 unfold Ris
 rw [List.pairwise_append]
 refine ⟨h'.sublist (List.take_sublist _ _),List.pairwise_cons.mpr ⟨up,h'.sublist (List.drop_sublist _ _)⟩,fun a ha b hb=>?_⟩
 rcases List.mem_cons.mp hb with rfl | hb
 ·exact lo a ha
 ·exact Nat.lt_trans (lo a ha) (up b hb)
theorem slot_notLive {t:SetTable} {j:Nat} (h:∀ i,t.slot j ≠ .live i):NotLive t j:=fun e=>by
 refine h (SetTable.below t.place j) ?_
 unfold SetTable.slot
 simp [e]
theorem probe_go (t:SetTable) (h:Int):∀ (f:Nat) (p:SetTable.Probe) (j:Nat) (dm:Option Nat),(∀ d,p.dummy=some d→NotLive t d)→SetTable.probe.go t (fun _=>h + 1) h f p=some (.empty j dm)→NotLive t j∧∀ d,dm=some d→NotLive t d
 | 0,p,j,dm,_,e=>by cases e
 | f + 1,p,j,dm,hd,e=>by
  unfold SetTable.probe.go at e
  have adv:∀ q:SetTable.Probe,(t.advance q).dummy=q.dummy:=fun q=>by
   unfold SetTable.advance
   split <;> rfl
  cases es:t.slot p.j with
  | empty=>
   rw [es] at e
   cases e
   exact ⟨slot_notLive (fun i z=>by rw [es] at z; cases z),hd⟩
  | dummy=>
   rw [es] at e
   refine probe_go t h f _ j dm (fun d hq=>?_) e
   rw [adv] at hq
   have hq':some p.j=some d:=hq
   cases hq'
   exact slot_notLive (fun i z=>by rw [es] at z; cases z)
  | live i=>
   rw [es] at e
   have hne:((h + 1:Int) == h)=false:=by
    rw [beq_eq_false_iff_ne]; omega
   simp only [hne,Bool.false_eq_true,if_false] at e
   exact probe_go t h f _ j dm (fun d hq=>hd d (by rw [adv] at hq; exact hq)) e
theorem free_notLive {t:SetTable} {h:Int} {j:Nat} {b:Bool} (e:t.freeSlot h=some (j,b)):NotLive t j:=by
 unfold SetTable.freeSlot at e
 split at e
 ·rename_i k dm ep
  obtain ⟨h1,h2⟩:=probe_go t h _ _ k dm (fun d hd=>by cases hd) ep
  cases dm with
  | none=>cases e; exact h1
  | some d=>cases e; exact h2 d rfl
 ·cases e
theorem range_ris (n:Nat):Ris (Array.range n).toList:=by
 unfold Ris
 rw [Array.toList_range]
 exact List.pairwise_lt_range
theorem layNew_ris {t:SetTable} (h:Ris t.place.toList) (es:Array (Int × Value)) (hh:Int) (x:Value):Ris (layNew t es hh x).2.1.place.toList∧(layNew t es hh x).2.1.led=t.led:=by
 unfold layNew
 cases e:t.freeSlot hh with
 | none=>exact ⟨range_ris _,rfl⟩
 | some r=>
  obtain ⟨j,b⟩:=r
  have hp:=put_ris h (free_notLive e)
  show Ris ((t.put j).1.orStandIn _).place.toList∧((t.put j).1.orStandIn _).led=_
  unfold SetTable.orStandIn
  split
  ·exact ⟨hp,rfl⟩
  ·exact ⟨range_ris _,rfl⟩
theorem laid_ris {mask finger moves:Nat} {led plain:Bool} {hs:Array Int} {t:SetTable} {o:Array Nat} (e:SetTable.laid mask finger moves led plain hs=some (t,o)):Ris t.place.toList∧t.led=led:=by
 unfold SetTable.laid at e
 cases ec:SetTable.layClean mask hs with
 | none=>rw [ec] at e; cases e
 | some ow=>
  rw [ec] at e
  cases e
  refine ⟨?_,rfl⟩
  show Ris (List.toArray _).toList
  unfold Ris
  rw [List.pairwise_map]
  refine List.Pairwise.filterMap (R:=(· < ·)) _ (fun a a' hab b hb b' hb'=>?_) List.pairwise_lt_range
  cases e1:ow.getD a none with
  | none=>rw [e1] at hb; cases hb
  | some u=>
   cases e2:ow.getD a' none with
   | none=>rw [e2] at hb'; cases hb'
   | some u'=>
    rw [e1] at hb; rw [e2] at hb'
    cases hb; cases hb'
    exact hab
theorem relayAll_ris {t:SetTable} (es:Array (Int × Value)) (n:Nat):Ris (relayAll t es n).2.1.place.toList∧(relayAll t es n).2.1.led=t.led:=by
 unfold relayAll
 cases e:t.relaid (es.map (·.1)) n with
 | none=>exact ⟨range_ris _,rfl⟩
 | some r=>
  obtain ⟨t',o⟩:=r
  have:=laid_ris e
  dsimp only
  by_cases hc:(coversAll o es.size && t'.fits (o.filterMap (es[·]?)).size)=true
  ·rw [if_pos hc]; exact this
  ·rw [if_neg hc]; exact ⟨range_ris _,rfl⟩
end ST
namespace ST
open PySem PySem.Spec PyProof.Rows
noncomputable abbrev ik (prog:Program) (w:World):KeyKind prog w Int:=intKind prog w
noncomputable abbrev ledOf (w:World):Bool:=!(w.params.followText "set-order")
noncomputable def SetA (prog:Program) (w:World) (h:Heap) (a:Addr) (S:Int→Bool) (n:Nat):Prop:=
 ∃ o es ep t,h.get? a=some o∧o.ExactSet∧o.data=.set es ep t∧ElemsOf (ik prog w) es.toList∧(∀ k,S k=true↔∃ e ∈ es.toList,(ik prog w).is k e.2=true)∧es.size < scanBound∧t.fits es.size=true∧es.size=n∧Ris t.place.toList∧t.led=ledOf w
section
variable {prog:Program} {w:World} {A:Around} {E:Value→Shared→Prop} {s:Shared}
theorem SetA.keep {h h':Heap} {a:Addr} {S:Int→Bool} {n:Nat} (x:SetA prog w h a S n) (k:∀ o,h.get? a=some o→h'.get? a=some o):SetA prog w h' a S n:=by
 obtain ⟨o,es,ep,t,ho,r⟩:=x
 exact ⟨o,es,ep,t,k o ho,r⟩
theorem SetA.to {h:Heap} {a:Addr} {S S':Int→Bool} {n n':Nat} (x:SetA prog w h a S n) (e:∀ k,S k=S' k) (en:n=n'):SetA prog w h a S' n':=by
 have:=funext e
 subst this; subst en; exact x
theorem SetA.put {h:Heap} {a:Addr} {o:Obj} {es es':Array (Int × Value)} {ep:Nat} {t t':SetTable} {S:Int→Bool} (ho:h.get? a=some o) (hx:o.ExactSet) (hd:o.data=.set es ep t) (hel:ElemsOf (ik prog w) es'.toList)
  (hm:∀ k,S k=true↔∃ e ∈ es'.toList,(ik prog w).is k e.2=true) (hb:es'.size < scanBound) (hf:t'.fits es'.size=true) (hr:Ris t'.place.toList) (hl:t'.led=ledOf w):
  (h.update a (Obj.putSet es' t')).get? a=some { o with data:=.set es' (ep + 1) t' }∧SetA prog w (h.update a (Obj.putSet es' t')) a S es'.size:=by
 have g:=(SetOf_store (knd:=ik prog w) ho hx hd hel hm hb hf).1
 exact ⟨g,_,es',_,t',g,hx,rfl,hel,hm,hb,hf,rfl,hr,hl⟩
theorem put_tail {f:Bool→Sem Unit} (hf0:∀ (b:Bool) (s1:Shared) (P:Unit→Shared→Prop),P () s1→wpAny (model prog w) A (f b) P E s1) {a:Addr} {o:Obj} {es e1:Array (Int × Value)} {ep:Nat} {t t2:SetTable} {S:Int→Bool} {dm:Bool} {R:Option Bool→Shared→Prop}
  (ho:s.heap.get? a=some o) (hx:o.ExactSet) (hd:o.data=.set es ep t) (hel:ElemsOf (ik prog w) e1.toList) (hm:∀ k,S k=true↔∃ e ∈ e1.toList,(ik prog w).is k e.2=true) (hb:e1.size < scanBound) (hf:t2.fits e1.size=true) (hr:Ris t2.place.toList) (hl:t2.led=ledOf w)
  (h:∀ h',Heap.SameBut a s.heap h'→SetA prog w h' a S e1.size→R (some true) { s with heap:=h' }):
  wpAny (model prog w) A (do
   storeSet a e1 t2
   if (!dm && t2.tooFull)=true then do
     f (relayAll t2 e1 (SetTable.grown e1.size)).2.2
     storeSet a (relayAll t2 e1 (SetTable.grown e1.size)).1 (relayAll t2 e1 (SetTable.grown e1.size)).2.1
     pure (some true)
    else pure (some true)) R E s:=by
 obtain ⟨g1,a1⟩:=SetA.put ho hx hd hel hm hb hf hr hl
 have k1:=Heap.SameBut.update s.heap a (Obj.putSet e1 t2)
 refine wpAny_bind (wpAny_storeSet_of ho hd (wpAny_ite_split (fun _=>?_) fun _=>wpAny_pure (h _ k1 a1)) (fits_of_scanBound hb))
 have q1:=relayAll_perm t2 e1 (SetTable.grown e1.size)
 have q2:=relayAll_fits t2 e1 (SetTable.grown e1.size)
 have q3:=relayAll_ris (t:=t2) e1 (SetTable.grown e1.size)
 generalize relayAll t2 e1 (SetTable.grown e1.size)=z at q1 q2 q3
 obtain ⟨e2,t3,gw⟩:=z
 have hz:e2.size=e1.size:=by simpa using q1.length_eq
 have hb2:e2.size < scanBound:=by omega
 refine wpAny_bind (hf0 _ _ _ (wpAny_bind (wpAny_storeSet_of g1 rfl (wpAny_pure ?_) (fits_of_scanBound hb2))))
 have a2:=(SetA.put g1 hx rfl (hel.perm q1) (fun k=>(hm k).trans ⟨fun ⟨e,i,j⟩=>⟨e,q1.mem_iff.mpr i,j⟩,fun ⟨e,i,j⟩=>⟨e,q1.mem_iff.mp i,j⟩⟩) hb2 q2 q3.1 (q3.2.trans hl)).2
 rw [hz] at a2
 exact h _ (k1.trans (Heap.SameBut.update _ a _)) a2
theorem setA_add {a:Addr} {S:Int→Bool} {n:Nat} {k:Int} {x:Value} {Q:Bool→Shared→Prop} (hk:(ik prog w).is k x=true) (hx:x.scannable=true) (hS:SetA prog w s.heap a S n) (hn:n + 1 < scanBound)
  (h:∀ h',Heap.SameBut a s.heap h'→SetA prog w h' a (fun j=>S j || decide (j=k)) (if S k then n else n + 1)→Q (!S k) { s with heap:=h' }):
  wpAny (model prog w) A (setAddHashed a x ((ik prog w).hash k)) Q E s:=by
 obtain ⟨o,es,ep,t,ho,hex,hd,hel,hm,hb,hf,e0,hr,hl⟩:=hS
 subst e0
 unfold setAddHashed setAddHashedIn
 refine wpAny_holding (wpAny_bind (wpAny_setState_of ho hd hf ?_))
 dsimp only
 rw [byScan_of hx hb hel,if_pos rfl]
 unfold setAddByScan
 refine wpAny_bind (wpAny_bind (wpAny_rule (wpAny_bind (wpAny_setScan_of hk ho hd hf hel ?_))))
 cases hi:es.toList.findIdx? (fun e=>(ik prog w).is k e.2) with
 | some j=>
  obtain ⟨j1,j2,_⟩:=List.findIdx?_eq_some_iff_getElem.mp hi
  have y:S k=true:=(hm k).mpr ⟨_,List.getElem_mem j1,j2⟩
  have z:=h s.heap (Heap.SameBut.refl a s.heap) ⟨o,es,ep,t,ho,hex,hd,hel,fun i=>by
   rw [Bool.or_eq_true,decide_eq_true_eq,← hm i]
   exact ⟨fun c=>c.elim id fun c=>by rw [c]; exact y,.inl⟩,hb,hf,by rw [y]; rfl,hr,hl⟩
  rw [y] at z
  exact wpAny_pure (wpAny_pure z)
 | none=>
  have y:S k=false:=by
   rw [← Bool.not_eq_true,hm k]
   rintro ⟨e,i,c⟩
   have:=List.findIdx?_eq_none_iff.mp hi e i
   rw [c] at this; cases this
  have p1:=layNew_perm t es ((ik prog w).hash k) x
  have p2:=layNew_fits t es ((ik prog w).hash k) x
  have p3:=layNew_ris (t:=t) hr es ((ik prog w).hash k) x
  dsimp only
  generalize layNew t es ((ik prog w).hash k) x=z at p1 p2 p3 ⊢
  obtain ⟨e1,t1,dm,gw⟩:=z
  dsimp only at p1 p2 p3 ⊢
  rw [Array.toList_push] at p1
  have el:=(hel.push hk hx).perm p1
  have mm:∀ i,(S i || decide (i=k))=true↔∃ e ∈ e1.toList,(ik prog w).is i e.2=true:=mem_push_iff hk hm p1
  have z1:e1.size=es.size + 1:=by simpa using p1.length_eq
  have b1:e1.size < scanBound:=by omega
  have fin:∀ h',Heap.SameBut a s.heap h'→SetA prog w h' a (fun i=>S i || decide (i=k)) e1.size→Q true { s with heap:=h' }:=fun h' c1 c2=>by
   have:=h h' c1
   rw [y] at this
   exact this (by rw [z1] at c2; exact c2)
  have gv:∀ (b:Bool) (s1:Shared) (P:Unit→Shared→Prop),P () s1→wpAny (model prog w) A (match b with | true=>rule "set.scan.the-table-gave-way" | false=>pure ()) P E s1:=fun b s1 P q=>by
   cases b
   ·exact wpAny_pure q
   ·exact wpAny_rule q
  have off:∀ b:Bool,(if b=true then t1 else { t1 with plain:=false }).fits e1.size=true∧Ris (if b=true then t1 else { t1 with plain:=false }).place.toList∧(if b=true then t1 else { t1 with plain:=false }).led=ledOf w:=fun b=>by
   cases b
   ·exact ⟨SetTable.fits_plain_off p2,p3.1,p3.2.trans hl⟩
   ·exact ⟨p2,p3.1,p3.2.trans hl⟩
  refine wpAny_bind (gv gw _ _ (wpAny_ite_split (fun _=>wpAny_bind ?_) fun _=>wpAny_bind (wpAny_pure ?_)))
  ·rw [hashByValue_scannable 8 hx]
   refine wpAny_pure (put_tail gv ho hex hd el mm b1 (off _).1 (off _).2.1 (off _).2.2 fun h' c1 c2=>?_)
   exact wpAny_pure (fin h' c1 c2)
  ·exact put_tail gv ho hex hd el mm b1 (off true).1 (off true).2.1 (off true).2.2 fun h' c1 c2=>wpAny_pure (fin h' c1 c2)
end
end ST
namespace ST
open PySem PySem.Spec PyProof.Rows
noncomputable def ins1 (ks:List Int) (x:Int):List Int:=if ks.contains x=true then ks else ks ++ [x]
noncomputable def uniqZ (ns:List Int):List Int:=ns.foldl ins1 []
theorem ins1_mem (ks:List Int) (x j:Int):(ins1 ks x).contains j=(ks.contains j || decide (j=x)):=by
 unfold ins1
 split
 ·rename_i h
  by_cases e:j=x
  ·subst e; rw [h]; rfl
  ·simp [e]
 ·by_cases e:j=x <;> simp [e]
theorem ins1_len (ks:List Int) (x:Int):(ins1 ks x).length=if ks.contains x=true then ks.length else ks.length + 1:=by
 unfold ins1
 split <;> simp
theorem ins1_nd {ks:List Int} (h:ks.Nodup) (x:Int):(ins1 ks x).Nodup:=by
 unfold ins1
 split
 ·exact h
 ·rename_i c
  rw [List.nodup_append]
  refine ⟨h,by simp,fun a ha b hb=>?_⟩
  rw [List.mem_singleton.mp hb]
  rintro rfl
  exact c (by simpa using ha)
theorem fold_nd:∀ (ns ks:List Int),ks.Nodup→(ns.foldl ins1 ks).Nodup
 | [],_,h=>h
 | x :: ns,ks,h=>fold_nd ns _ (ins1_nd h x)
theorem fold_mem:∀ (ns ks:List Int) (j:Int),j ∈ ns.foldl ins1 ks↔j ∈ ks ∨ j ∈ ns
 | [],ks,j=>by simp
 | x :: ns,ks,j=>by
  rw [List.foldl_cons,fold_mem ns]
  have:=ins1_mem ks x j
  rw [Bool.eq_iff_iff] at this
  simp only [List.contains_iff_mem,Bool.or_eq_true,decide_eq_true_eq] at this
  rw [this,List.mem_cons,or_assoc]
theorem uniqZ_nd (ns:List Int):(uniqZ ns).Nodup:=fold_nd ns [] .nil
theorem uniqZ_mem (ns:List Int) (j:Int):j ∈ uniqZ ns↔j ∈ ns:=by unfold uniqZ; rw [fold_mem]; simp
theorem fold_len:∀ (ns ks:List Int),(ns.foldl ins1 ks).length≤ks.length + ns.length
 | [],ks=>by simp
 | x :: ns,ks=>by
  have h:=fold_len ns (ins1 ks x)
  have h2:=ins1_len ks x
  rw [List.foldl_cons,List.length_cons]
  split at h2 <;> omega
section
variable {prog:Program} {w:World} {A:Around} {E:Value→Shared→Prop}
noncomputable abbrev hasZ (ks:List Int):Int→Bool:=fun j=>ks.contains j
theorem upd_loop {R:Result→Shared→Prop} {a I l:Addr} {its:Array Value} {ns:List Int} (hi:IntsAre its.toList ns) (hh:A.in1.handled=none) (h1:a ≠ I) (h2:a ≠ l) (h3:l ≠ I) (hb:its.size + 1 < scanBound):∀ (k i:Nat) (s:Shared) (ks:List Int),its.size - i=k→i≤its.size→ks.length≤i→
  s.heap.IsListIter I l i→s.heap.IsList l its→SetA prog w s.heap a (hasZ ks) ks.length→
  (∀ h' tk,(∀ b o,b ≠ a→b ≠ I→s.heap.get? b=some o→h'.get? b=some o)→SetA prog w h' a (hasZ ((ns.drop i).foldl ins1 ks)) ((ns.drop i).foldl ins1 ks).length→R (.ok (.ret .none)) { s with heap:=h',toks:=tk })→
  codeAny (model prog w) A (.builtin "set.update.loop" ⟨[.ref a,.ref I],[]⟩) R s
 | 0,i,s,ks,hk,hin,hn,it,hl,hS,hR=>by
  have e:i=its.size:=by omega
  have hlen:ns.length=its.size:=by rw [← Array.length_toList]; exact hi.length.symm
  rw [List.drop_of_length_le (by omega)] at hR
  refine codeAny_builtin F.entry_set_update_loop ?_
  rw [Around.under_plainId F.plain_set_update_loop _]
  refine wpAny_bind (m:=pyNext (.ref I)) (wpAny_pyNext_list_end hh it hl (by rw [e]; simp) fun h' he=>wpAny_pure (hR h' s.toks (fun b o _ c e=>he b o c e) (hS.keep fun o e=>he a o h1 e)))
 | k + 1,i,s,ks,hk,hin,hn,it,hl,hS,hR=>by
  have hlt:i < its.size:=by omega
  have hlen:ns.length=its.size:=by rw [← Array.length_toList]; exact hi.length.symm
  obtain ⟨t,e⟩:=hi.int_at i its[i] (by simp [hlt])
  have hd:ns.drop i=ns.getD i 0 :: ns.drop (i + 1):=by
   rw [List.drop_eq_getElem_cons (by omega),List.getD_eq_getElem?_getD,List.getElem?_eq_getElem (by omega)]; rfl
  rw [hd,List.foldl_cons] at hR
  refine codeAny_builtin F.entry_set_update_loop ?_
  rw [Around.under_plainId F.plain_set_update_loop _]
  refine wpAny_bind (m:=pyNext (.ref I)) (wpAny_pyNext_list_item it hl (x:=.int (ns.getD i 0) t) (by rw [← e]; simp [hlt]) fun h1' it1 sb1=>?_)
  refine wpAny_bind (m:=holding [Value.int (ns.getD i 0) t] (setAdd a (.int (ns.getD i 0) t))) (wpAny_holding ?_)
  unfold setAdd
  refine wpAny_holding (wpAny_bind ((ik prog w).pyHash (k:=ns.getD i 0) (intKind_is _ _ _ _) ?_))
  refine setA_add (intKind_is _ _ _ _) rfl (hS.keep fun o e=>(sb1.2 a h1).trans e) (by omega) fun h2' sb2 hS2=>wpAny_pure ⟨plainId_quiet F.plain_set_update_loop _,?_⟩
  refine upd_loop hi hh h1 h2 h3 hb k (i + 1) _ (ins1 ks (ns.getD i 0)) (by omega) (by omega) (by rw [ins1_len]; split <;> omega) ?_ ?_ (hS2.to (fun j=>(ins1_mem _ _ _).symm) (by rw [ins1_len])) fun h' tk kp hS'=>?_
  ·exact it1.extBut sb2.extBut (Ne.symm h1)
  ·exact (hl.extBut sb1.extBut h3).extBut sb2.extBut (Ne.symm h2)
  ·exact hR h' tk (fun b o c1 c2 e=>kp b o c1 c2 ((sb2.2 b c1).trans ((sb1.2 b c2).trans e))) hS'
theorem new_set {s:Shared} (x:Value) {P:Value→Shared→Prop} (h:P (.ref s.heap.objs.size) { s with heap:=s.heap.push { cls:=.type "set",dict:=none,data:=.set #[] 0 (.fresh 0 0 (ledOf w)) } }):
  codeAny (model prog w) A (.call (.builtin "set.__new__") ⟨[.type "set",x],[]⟩) (wants P E) s:=by
 refine codeAny_of_tree (?_:wpAny _ A.in1 (do checkBuiltinCall "set.__new__" ⟨[.type "set",x],[]⟩; again (.builtin "set.__new__" ⟨[.type "set",x],[]⟩)) _ _ s)
 refine wpAny_bind (wpAny_of_eq (F.newCall_set_1 x) (wpAny_pure ⟨plainId_quiet F.plain_set_new _,codeAny_builtin F.entry_set_new ?_⟩))
 rw [Around.under_plainId F.plain_set_new _]
 have y:=sub_set_self
 unfold Builtin.«set.__new__» Builtin.Frozenset.newClass
 cases s
 dsimp only
 wp_walk
 refine wpAny_askSetting (wpAny_pure ?_)
 simp only [newObj]
 exact wpAny_bind (wpAny_alloc (wpAny_pure (wpAny_pure h)))
set_option maxHeartbeats 4000000 in
theorem call_set {s:Shared} {l:Addr} {its:Array Value} {ns:List Int} {Q:Value→Shared→Prop} (hh:A.handled=none) (hl:s.heap.IsList l its) (hi:IntsAre its.toList ns) (hb:its.size + 1 < scanBound)
  (h:∀ h' tk,SetA prog w h' s.heap.objs.size (hasZ (uniqZ ns)) (uniqZ ns).length→(∀ b o,s.heap.get? b=some o→h'.get? b=some o)→Q (.ref s.heap.objs.size) { s with heap:=h',toks:=tk }):
  wpAny (model prog w) A (call (.type "set") [.ref l]) Q E s:=by
 have q1:=F.called_set.made
 have q2:=F.called_set.sub
 have q3:=F.called_set.notType
 have q4:=F.called_set.canCreate
 have q5:=F.typeCall_set_1 (.ref l)
 obtain ⟨c,r,q6⟩:=F.called_set.mro
 refine wpAny_call (codeAny_of_tree (?_:wpAny _ _ (callAny (.type "set") _) _ _ _))
 refine wpAny_pure ⟨Code.quiet_builtin _ (by decide +kernel),codeAny_builtin F.entry_type_call ?_⟩
 rw [Around.under_plain (weight_type_call_type "set" [.ref l] []) rfl]
 repeat (any_goals (first | assumption | wp_step))
 refine codeAny_mono (new_set (.ref l) (E:=E) (P:=fun v s1=>v=.ref s.heap.objs.size∧s1={ s with heap:=s.heap.push { cls:=.type "set",dict:=none,data:=.set #[] 0 (.fresh 0 0 (ledOf w)) } }) ⟨rfl,rfl⟩) fun r1 s1 z=>?_
 cases r1 with
 | error e=>exact z
 | ok f1=>
  cases f1 with
  | ret v=>
   obtain ⟨rfl,rfl⟩:=z
   have g0:(s.heap.push { cls:=.type "set",dict:=none,data:=.set #[] 0 (.fresh 0 0 (ledOf w)) }).get? s.heap.objs.size=some { cls:=.type "set",dict:=none,data:=.set #[] 0 (.fresh 0 0 (ledOf w)) }:=Heap.get?_push_size _ rfl
   have ty:Shared.TypeIs { s with heap:=s.heap.push { cls:=.type "set",dict:=none,data:=.set #[] 0 (.fresh 0 0 (ledOf w)) } } (.ref s.heap.objs.size) "set":=⟨_,g0,rfl⟩
   have q7:=F.called_set.init.lookup
   have q8:=F.called_set.init.bind (.ref s.heap.objs.size)
   repeat (any_goals (first | assumption | wp_step))
   refine codeAny_mono (codeAny_call_builtin (R:=wants (fun v s2=>v=.none∧∃ h' tk,s2={ s with heap:=h',toks:=tk }∧SetA prog w h' s.heap.objs.size (hasZ (uniqZ ns)) (uniqZ ns).length∧∀ b o,s.heap.get? b=some o→h'.get? b=some o) E) F.called_set.init.plain F.entry_set_init (check_set_init_1 ty ?_)) fun r2 s2 z2=>?_
   ·obtain ⟨⟨oc,od,dt,os⟩,hol,c1,nn,c2⟩:=hl
    cases c1
    cases c2
    have hol':=Heap.get?_push_of_some { cls:=.type "set",dict:=none,data:=.set #[] 0 (.fresh 0 0 (ledOf w)) } hol
    have u1:=F.sub_list_set
    have u2:=F.sub_list_frozenset
    have u3:(Value.type "list" == Value.type "dict")=false:=by decide
    have hl1:(s.heap.push { cls:=.type "set",dict:=none,data:=.set #[] 0 (.fresh 0 0 (ledOf w)) }).IsList l its:=⟨_,hol',rfl,nn,rfl⟩
    have ll:l < s.heap.objs.size:=Heap.lt_size hol
    have sz:(s.heap.push { cls:=.type "set",dict:=none,data:=.set #[] 0 (.fresh 0 0 (ledOf w)) }).objs.size=s.heap.objs.size + 1:=Heap.size_push ..
    unfold Builtin.«set.__init__» noKeywords Builtin.Frozenset.updateFrom
    generalize hPI:pyIter=PI
    wp_walk
    subst hPI
    refine wpAny_pyIter_list hl1 (wpAny_bind (wpAny_runValue ?_))
    refine upd_loop hi (by simp [hh]) (by rw [sz]; exact Nat.ne_of_lt (Nat.lt_succ_self _)) (Nat.ne_of_gt ll) (by rw [sz]; exact Nat.ne_of_lt (Nat.lt_succ_of_lt ll)) hb its.size 0 _ [] (by omega) (Nat.zero_le _) (Nat.zero_le _) ⟨_,Heap.get?_push_size _ rfl,rfl,rfl⟩ (hl1.push _) ?_ fun h' tk kp hS=>?_
    ·exact ⟨_,#[],0,.fresh 0 0 (ledOf w),Heap.get?_push_of_some _ g0,⟨rfl,rfl,rfl⟩,rfl,fun e he=>by simp at he,fun k=>by simp [hasZ],by decide,rfl,rfl,List.Pairwise.nil,rfl⟩
    ·rw [List.drop_zero] at hS
     refine wpAny_pure (wpAny_pure ⟨rfl,h',tk,rfl,hS,fun b o e=>kp b o ?_ ?_ (Heap.get?_push_of_some _ (Heap.get?_push_of_some _ e))⟩)
     ·exact Nat.ne_of_lt (Heap.lt_size e)
     ·have:=Heap.lt_size e
      rw [sz]; exact Nat.ne_of_lt (Nat.lt_succ_of_lt this)
   ·cases r2 with
    | error e=>exact z2
    | ok f2=>
     cases f2 with
     | ret v=>
      obtain ⟨rfl,h',tk,rfl,hS,kp⟩:=z2
      repeat (any_goals (first | assumption | wp_step))
      exact h h' tk hS kp
     | _=>exact z2.elim
  | _=>exact z.elim
end
end ST
namespace ST
open PySem PySem.Spec PyProof.Rows
theorem slot_sn:Slot "set_iterator" "__next__" "set_iterator.__next__":=
 .of (owner:="set_iterator") (n:="__next__") (by rw [typeLookup_type,builtinLookup_eq_fast]; kernel_rfl) (by decide +kernel) (by decide +kernel) (by decide +kernel) (.inl (by decide +kernel)) (by rw [isSubtype_type]; kernel_rfl)
theorem slot_si:Slot "set_iterator" "__iter__" "set_iterator.__iter__":=
 .of (owner:="set_iterator") (n:="__iter__") (by rw [typeLookup_type,builtinLookup_eq_fast]; kernel_rfl) (by decide +kernel) (by decide +kernel) (by decide +kernel) (.inl (by decide +kernel)) (by rw [isSubtype_type]; kernel_rfl)
theorem entry_sn:entryFor table "set_iterator.__next__" = some Builtin.«set_iterator.__next__»:=entryFor_of_tree (by kernel_rfl)
theorem entry_si:entryFor table "set_iterator.__iter__" = some Builtin.«dict_keyiterator.__iter__»:=entryFor_alias (id':="dict_keyiterator.__iter__") (by kernel_rfl) rfl (by decide +kernel) (by kernel_rfl)
theorem entry_seti:entryFor table "set.__iter__" = some Builtin.«frozenset.__iter__»:=entryFor_alias (id':="frozenset.__iter__") (by kernel_rfl) rfl (by decide +kernel) (by kernel_rfl)
theorem args_sn (a:Value):argsOk "set_iterator.__next__" ⟨[a],[]⟩:=by unfold argsOk; kernel_rfl
theorem args_si (a:Value):argsOk "set_iterator.__iter__" ⟨[a],[]⟩:=by unfold argsOk; kernel_rfl
noncomputable def sl (p:Array Nat):Nat→Nat
 | 0=>0
 | j + 1=>p.getD j 0 + 1
theorem below_at {p:Array Nat} (h:Ris p.toList) {j:Nat} (hj:j≤p.size):SetTable.below p (sl p j)=j:=by
 obtain ⟨a1,a2,a3⟩:=below_ok p h (sl p j)
 generalize SetTable.below p (sl p j)=k at *
 have mono:∀ a b (ha:a < p.size) (hb:b < p.size),a < b→p[a] < p[b]:=fun a b ha hb hab=>by
  have q:=(List.pairwise_iff_getElem.mp h) a b (by simpa using ha) (by simpa using hb) hab
  simp only [Array.getElem_toList] at q
  exact q
 cases j with
 | zero=>
  rcases Nat.eq_zero_or_pos k with e | e
  ·exact e
  ·have:=a2 0 e p[0] (Array.getElem?_eq_getElem (by omega))
   exact absurd this (Nat.not_lt_zero _)
 | succ j=>
  have hj':j < p.size:=hj
  have es:sl p (j + 1)=p[j] + 1:=by show p.getD j 0 + 1=_; rw [Array.getD_eq_getD_getElem?,Array.getElem?_eq_getElem hj']; rfl
  rw [es] at a2 a3
  rcases Nat.lt_trichotomy k (j + 1) with z | z | z
  ·have:=a3 j (by omega) p[j] (Array.getElem?_eq_getElem hj')
   omega
  ·exact z
  ·have hk:j + 1 < p.size:=by omega
   have h1:=a2 (j + 1) z p[j + 1] (Array.getElem?_eq_getElem hk)
   have h2:=mono j (j + 1) hj' hk (Nat.lt_succ_self _)
   omega
theorem erase_perm {α:Type} (l:List α) (i:Nat) (h:i < l.length):([l[i]] ++ l.eraseIdx i).Perm l:=by
 have e:l=l.take i ++ l[i] :: l.drop (i + 1):=by rw [← List.drop_eq_getElem_cons h,List.take_append_drop]
 rw [List.eraseIdx_eq_take_drop_succ]
 refine List.Perm.trans ?_ (List.Perm.of_eq e.symm)
 show (l[i] :: (l.take i ++ l.drop (i + 1))).Perm _
 exact List.perm_middle.symm
theorem pick_go {α:Type} (f:Nat→Nat):∀ (n k:Nat) (l:List α) (out:Array α),l.length=n→(pickOrder.go f n k l out).toList.Perm (out.toList ++ l)
 | 0,k,l,out,h=>by
  have:l=[]:=List.length_eq_zero_iff.mp h
  subst this
  simp [pickOrder.go]
 | n + 1,k,l,out,h=>by
  have hlt:f k % l.length < l.length:=Nat.mod_lt _ (by omega)
  unfold pickOrder.go
  rw [List.getElem?_eq_getElem hlt]
  dsimp only
  refine (pick_go f n (k + 1) _ _ (by rw [List.length_eraseIdx_of_lt hlt]; omega)).trans ?_
  rw [Array.toList_push,List.append_assoc]
  refine List.Perm.append_left _ ?_
  exact erase_perm l _ hlt
theorem pick_perm {α:Type} (f:Nat→Nat) (xs:Array α):(pickOrder f xs).toList.Perm xs.toList:=by
 have:=pick_go f xs.size 0 xs.toList #[] (by simp)
 simpa [pickOrder] using this
section
variable {prog:Program} {w:World} {A:Around} {E:Value→Shared→Prop} {s:Shared}
noncomputable abbrev txt (w:World):Bool:=w.params.followText "set-order"
noncomputable def SetD (h:Heap) (a:Addr) (es:Array (Int × Value)) (ep:Nat) (t:SetTable):Prop:=(∃ o,h.get? a=some o∧o.ExactSet∧o.data=.set es ep t)∧t.fits es.size=true∧Ris t.place.toList
theorem SetD.keep {h h':Heap} {a:Addr} {es:Array (Int × Value)} {ep:Nat} {t:SetTable} (x:SetD h a es ep t) (k:∀ o,h.get? a=some o→h'.get? a=some o):SetD h' a es ep t:=by
 obtain ⟨⟨o,e,r⟩,r2⟩:=x
 exact ⟨⟨o,k o e,r⟩,r2⟩
theorem SetD.type {a:Addr} {es:Array (Int × Value)} {ep:Nat} {t:SetTable} (x:SetD s.heap a es ep t):s.TypeIs (.ref a) "set":=by
 obtain ⟨⟨o,e,r,_⟩,_⟩:=x
 exact ⟨o,e,r.1⟩
noncomputable def ordA (w:World) (a:Addr) (ep:Nat) (es:Array (Int × Value)):Array (Int × Value):=if txt w=true then pickOrder (w.params.setOrder a ep) es else es
noncomputable def slA (w:World) (t:SetTable) (j:Nat):Nat:=if txt w=true then 0 else sl t.place j
theorem byText {Q:Bool→Shared→Prop} (h:Q (txt w) s):wpAny (model prog w) A setsByText Q E s:=by
 unfold setsByText
 exact wpAny_bind (wpAny_askSetting (wpAny_pure h))
theorem next_i {a:Addr} {es:Array (Int × Value)} {ep j:Nat} {t:SetTable} {Q:Option (Value × Nat)→Shared→Prop} (hS:SetD s.heap a es ep t) (hl:t.led=ledOf w) (hp:txt w=true ∨ (!t.plain && decide (es.size > 1))=false) (hj:j≤es.size)
  (h:Q (((ordA w a ep es)[j]?).map fun e=>(e.2,slA w t (j + 1))) s):wpAny (model prog w) A (setNext a (slA w t j) j ep) Q E s:=by
 obtain ⟨⟨o,ho,hx,hd⟩,hf,hr⟩:=hS
 unfold setNext
 refine wpAny_bind (wpAny_setState_of ho hd hf ?_)
 dsimp only
 refine wpAny_bind (byText ?_)
 refine wpAny_ite_split (fun c=>?_) fun c=>?_
 ·refine wpAny_ite_split (fun z=>by simp at z) fun _=>?_
  refine wpAny_bind ?_
  unfold setWalk
  refine wpAny_bind (wpAny_setState_of ho hd hf ?_)
  dsimp only
  refine wpAny_bind (byText ?_)
  rw [if_pos c]
  refine wpAny_bind (wpAny_askSetting (wpAny_pure (wpAny_pure ?_)))
  have e1:ordA w a ep es=pickOrder (w.params.setOrder a ep) es:=if_pos c
  have e2:∀ i,slA w t i=0:=fun i=>if_pos c
  rw [e1,e2 (j + 1)] at h
  rw [e2 j]
  exact h
 ·have c':txt w=false:=by simpa using c
  have nd:(!t.plain && decide (es.size > 1))=false:=hp.resolve_left c
  refine wpAny_ite_split (fun z=>?_) fun _=>?_
  ·rw [show (!t.plain && decide (es.size > 1))=true from z] at nd; cases nd
  have led:t.led=true:=by rw [hl]; show (!(txt w))=true; rw [c']; rfl
  have e1:ordA w a ep es=es:=if_neg c
  have e2:∀ i,slA w t i=sl t.place i:=fun i=>if_neg c
  have hz:t.place.size=es.size:=by
   simp only [SetTable.fits,Bool.and_eq_true,beq_iff_eq] at hf
   exact hf.1
  rw [e1,e2] at h
  rw [e2]
  obtain ⟨mk,pl,dm,fg,ld,mv,pn⟩:=t
  dsimp only at led hz hr h ⊢
  subst led
  refine wpAny_bind (wpAny_of_eq (a:=()) rfl (wpAny_pure ?_))
  rw [below_at hr (by omega)]
  rcases Nat.lt_or_ge j es.size with g | g
  ·rw [Array.getElem?_eq_getElem g,Array.getElem?_eq_getElem (by omega)]
   rw [Array.getElem?_eq_getElem g] at h
   have:sl pl (j + 1)=pl[j] + 1:=by show pl.getD j 0 + 1=_; rw [Array.getD_eq_getD_getElem?,Array.getElem?_eq_getElem (by omega)]; rfl
   rw [this] at h
   exact h
  ·rw [Array.getElem?_eq_none (by omega)]
   rw [Array.getElem?_eq_none (by omega)] at h
   exact h
theorem upd_f {h:Heap} {I:Addr} {c:Value} {vs:Array Value} (g:h.get? I=some { cls:=c,data:=.fields vs }) (i:Nat) (x:Value):(h.update I (Obj.mapFields (·.setIfInBounds i x))).get? I=some { cls:=c,data:=.fields (vs.setIfInBounds i x) }:=Heap.get?_update_self _ g rfl
noncomputable def SIt (h:Heap) (I a:Addr) (x:Value) (i n ep:Nat):Prop:=h.get? I=some { cls:=.type "set_iterator",data:=.fields #[x,.int i 0,.ref a,.int n 0,.int ep 0] }
theorem SIt.type {I a:Addr} {x:Value} {i n ep:Nat} (h:SIt s.heap I a x i n ep):s.TypeIs (.ref I) "set_iterator":=⟨_,h,rfl⟩
theorem nx_some {I a:Addr} {es:Array (Int × Value)} {ep j:Nat} {t:SetTable} {e:Int × Value} {Q:Option Value→Shared→Prop} (hI:SIt s.heap I a (.int (slA w t j:Nat) 0) j es.size ep) (hS:SetD s.heap a es ep t) (hl:t.led=ledOf w) (hp:txt w=true ∨ (!t.plain && decide (es.size > 1))=false) (hj:j < es.size)
  (he:(ordA w a ep es)[j]?=some e) (h:∀ h',SIt h' I a (.int (slA w t (j + 1):Nat) 0) (j + 1) es.size ep→Heap.SameBut I s.heap h'→Q (some e.2) { s with heap:=h' }):wpAny (model prog w) A (pyNext (.ref I)) Q E s:=by
 obtain ⟨⟨o,ho,hx,hd⟩,hf,hr⟩:=id hS
 unfold pyNext
 refine wpAny_bind (wpAny_attempt (wpAny_callSpecial?_slot (name:=Str.ofString "__next__") hI.type slot_sn (wpAny_call_entry slot_sn hI.type entry_sn ?_ (args_sn _))))
 unfold Builtin.«set_iterator.__next__»
 refine wpAny_bind (m:=slotArgs _ _ _) (wpAny_pure (wpAny_bind (wpAny_fieldsOf hI rfl ?_)))
 refine wpAny_bind (m:=setEntries a) (wpAny_setEntries_of ho hd hf (wpAny_ite_split (fun z=>absurd z (by simp)) fun _=>?_))
 dsimp only
 simp only [Int.toNat_natCast]
 refine wpAny_bind (next_i hS hl hp (by omega) ?_)
 rw [he]
 dsimp only [Option.map_some]
 refine wpAny_bind (wpAny_setField hI rfl (by simp) ?_)
 have g1:=upd_f hI 0 (rawInt (slA w t (j + 1)))
 refine wpAny_bind (wpAny_setField g1 rfl (by simp) (wpAny_pure ⟨e.2,rfl,wpAny_pure (h _ ?_ ((Heap.SameBut.update ..).trans (Heap.SameBut.update ..)))⟩))
 exact upd_f g1 1 (rawInt (j + 1))
theorem stops {α:Type} {Q:α→Shared→Prop} (hh:A.handled=none) (h:∀ (e:Addr) h',(∀ b o,s.heap.get? b=some o→h'.get? b=some o)→(∃ o,h'.get? e=some o∧o.cls=.type "StopIteration")→E (.ref e) { s with heap:=h' }):
  wpAny (model prog w) A (newExc (.type "StopIteration") [] >>= fun x=>raiseNew (α:=α) x) Q E s:=by
 refine wpAny_bind ?_
 simp only [newExc,newTuple]
 refine wpAny_bind (wpAny_newObj_type (wpAny_bind (m:=firstArgMember _ _) (wpAny_of_eq (a:=Value.none) (by first | rfl | (simp only [firstArgMember]; rfl)) (wpAny_newObj_type ?_ (by size_fits)))) (by size_fits))
 simp only [raiseNew]
 refine wpAny_bind (wpAny_handled ?_)
 rw [hh]
 exact wpAny_bind (wpAny_pure (wpAny_throw (h _ _ (fun b o e=>Heap.get?_push_of_some _ (Heap.get?_push_of_some _ e)) ⟨_,Heap.get?_push_size _ rfl,rfl⟩)))
theorem nx_none {I a:Addr} {es:Array (Int × Value)} {ep:Nat} {t:SetTable} {Q:Option Value→Shared→Prop} (hh:A.handled=none) (hI:SIt s.heap I a (.int (slA w t es.size:Nat) 0) es.size es.size ep) (hS:SetD s.heap a es ep t) (hl:t.led=ledOf w) (hp:txt w=true ∨ (!t.plain && decide (es.size > 1))=false) (hz:(ordA w a ep es).size=es.size)
  (h:∀ h',(∀ b o,b ≠ I→s.heap.get? b=some o→h'.get? b=some o)→Q none { s with heap:=h' }):wpAny (model prog w) A (pyNext (.ref I)) Q E s:=by
 obtain ⟨⟨o,ho,hx,hd⟩,hf,hr⟩:=id hS
 unfold pyNext
 refine wpAny_bind (wpAny_attempt (wpAny_callSpecial?_slot (name:=Str.ofString "__next__") hI.type slot_sn (wpAny_call_entry slot_sn hI.type entry_sn ?_ (args_sn _))))
 unfold Builtin.«set_iterator.__next__»
 refine wpAny_bind (m:=slotArgs _ _ _) (wpAny_pure (wpAny_bind (wpAny_fieldsOf hI rfl ?_)))
 refine wpAny_bind (m:=setEntries a) (wpAny_setEntries_of ho hd hf (wpAny_ite_split (fun z=>absurd z (by simp)) fun _=>?_))
 dsimp only
 simp only [Int.toNat_natCast]
 refine wpAny_bind (next_i hS hl hp (Nat.le_refl _) ?_)
 rw [Array.getElem?_eq_none (by omega)]
 refine wpAny_bind (wpAny_setField hI rfl (by simp) ?_)
 refine stops (by simp [hh]) fun e h' kp ty=>?_
 refine wpAny_bind (wpAny_isInstance (T:="StopIteration") (b:=true) ty isSubtype_stop (wpAny_pure (h _ fun b o c e=>kp b o (((Heap.SameBut.update ..).2 b c).trans e))))
end
end ST
namespace ST
open PySem PySem.Spec PyProof.Rows
section
variable {prog:Program} {w:World} {A:Around} {E:Value→Shared→Prop} {s:Shared}
theorem chosen {src:Source} {n:Nat} {Q:Nat→Shared→Prop} (hn:n ≠ 0) (h:∀ i d,i < n→Q i { s with drawn:=d }):wpAny (model prog w) A (choose src n) Q E s:=
 fun _ _ _=>⟨hn,h _ _ (Nat.mod_lt _ (Nat.pos_of_ne_zero hn))⟩
theorem draws {α:Type}:∀ (n:Nat) (xs:List α) (s:Shared) (Q:List α→Shared→Prop),xs.length=n→(∀ ys d,ys.Perm xs→Q ys { s with drawn:=d })→wpAny (model prog w) A (drawOrder n xs) Q E s
 | 0,xs,s,Q,hl,h=>by
  have:xs=[]:=List.length_eq_zero_iff.mp hl
  subst this
  exact wpAny_pure (h [] s.drawn (List.Perm.refl _))
 | n + 1,[],s,Q,hl,h=>by simp at hl
 | n + 1,x :: xs,s,Q,hl,h=>by
  unfold drawOrder
  refine wpAny_bind (chosen (by simp) fun i d hi=>?_)
  rw [List.getElem?_eq_getElem hi]
  dsimp only
  refine wpAny_bind (draws n _ _ _ (by rw [List.length_eraseIdx_of_lt hi]; omega) fun ys d' hp=>wpAny_pure (h _ d' ?_))
  exact (List.Perm.cons _ hp).trans (erase_perm _ _ hi)
noncomputable def Plc (h:Heap) (T:Addr) (ps:List Nat):Prop:=∃ o,h.get? T=some o∧∃ k,o.data=.seq (ps.map fun (i:Nat)=>rawInt i).toArray k
theorem drawn_some {I a T:Addr} {es:Array (Int × Value)} {ep j p:Nat} {t:SetTable} {ps:List Nat} {e:Int × Value} {Q:Option Value→Shared→Prop} (hI:SIt s.heap I a (.ref T) j es.size ep) (hS:SetD s.heap a es ep t) (hT:Plc s.heap T ps) (hp:ps[j]?=some p) (he:es[p]?=some e)
  (h:∀ h',SIt h' I a (.ref T) (j + 1) es.size ep→Heap.SameBut I s.heap h'→Q (some e.2) { s with heap:=h' }):wpAny (model prog w) A (pyNext (.ref I)) Q E s:=by
 obtain ⟨⟨o,ho,hx,hd⟩,hf,hr⟩:=id hS
 obtain ⟨oT,hoT,k,hdT⟩:=hT
 unfold pyNext
 refine wpAny_bind (wpAny_attempt (wpAny_callSpecial?_slot (name:=Str.ofString "__next__") hI.type slot_sn (wpAny_call_entry slot_sn hI.type entry_sn ?_ (args_sn _))))
 unfold Builtin.«set_iterator.__next__»
 refine wpAny_bind (m:=slotArgs _ _ _) (wpAny_pure (wpAny_bind (wpAny_fieldsOf hI rfl ?_)))
 refine wpAny_bind (m:=setEntries a) (wpAny_setEntries_of ho hd hf (wpAny_ite_split (fun z=>absurd z (by simp)) fun _=>?_))
 dsimp only
 refine wpAny_bind (wpAny_seqItems hoT hdT ?_)
 have g:(ps.map fun (i:Nat)=>rawInt i).toArray[j]?=some (rawInt p):=by simp [hp]
 simp only [Int.toNat_natCast,g]
 simp only [rawInt,Int.toNat_natCast]
 refine wpAny_bind ?_
 unfold setNextDrawn
 refine wpAny_bind (wpAny_setState_of ho hd hf ?_)
 dsimp only
 refine wpAny_ite_split (fun z=>absurd z (by simp)) fun _=>?_
 rw [he]
 refine wpAny_pure ?_
 refine wpAny_bind (wpAny_setField hI rfl (by simp) (wpAny_pure ⟨e.2,rfl,wpAny_pure (h _ ?_ (Heap.SameBut.update ..))⟩))
 exact upd_f hI 1 (rawInt (j + 1))
theorem drawn_none {I a T:Addr} {es:Array (Int × Value)} {ep:Nat} {t:SetTable} {ps:List Nat} {Q:Option Value→Shared→Prop} (hh:A.handled=none) (hI:SIt s.heap I a (.ref T) es.size es.size ep) (hS:SetD s.heap a es ep t) (hT:Plc s.heap T ps) (hp:ps.length=es.size)
  (h:∀ h',(∀ b o,b ≠ I→s.heap.get? b=some o→h'.get? b=some o)→Q none { s with heap:=h' }):wpAny (model prog w) A (pyNext (.ref I)) Q E s:=by
 obtain ⟨⟨o,ho,hx,hd⟩,hf,hr⟩:=id hS
 obtain ⟨oT,hoT,k,hdT⟩:=hT
 unfold pyNext
 refine wpAny_bind (wpAny_attempt (wpAny_callSpecial?_slot (name:=Str.ofString "__next__") hI.type slot_sn (wpAny_call_entry slot_sn hI.type entry_sn ?_ (args_sn _))))
 unfold Builtin.«set_iterator.__next__»
 refine wpAny_bind (m:=slotArgs _ _ _) (wpAny_pure (wpAny_bind (wpAny_fieldsOf hI rfl ?_)))
 refine wpAny_bind (m:=setEntries a) (wpAny_setEntries_of ho hd hf (wpAny_ite_split (fun z=>absurd z (by simp)) fun _=>?_))
 dsimp only
 refine wpAny_bind (wpAny_seqItems hoT hdT ?_)
 have g:(ps.map fun (i:Nat)=>rawInt i).toArray[es.size]?=none:=by simp [hp]
 simp only [Int.toNat_natCast,g]
 refine wpAny_bind (wpAny_setField hI rfl (by simp) ?_)
 refine wpAny_bind (wpAny_setField (upd_f hI 0 (rawInt 0)) rfl (by simp) ?_)
 refine stops (by simp [hh]) fun e h' kp ty=>?_
 exact wpAny_bind (wpAny_isInstance (T:="StopIteration") (b:=true) ty isSubtype_stop (wpAny_pure (h _ fun b o c e=>kp b o (((Heap.SameBut.update ..).2 b c).trans (((Heap.SameBut.update ..).2 b c).trans e)))))
theorem self_it {I a:Addr} {x:Value} {i n ep:Nat} {Q:Value→Shared→Prop} (hI:SIt s.heap I a x i n ep) (h:Q (.ref I) s):wpAny (model prog w) A (pyIter (.ref I)) Q E s:=by
 refine wpAny_pyIter_slot hI.type slot_si (wpAny_call_entry slot_si hI.type entry_si (?_:wpAny _ _ (ret (.ref I)) _ _ s) (args_si _))
 exact wpAny_pure ⟨_,rfl,_,_,hI.type,slot_sn.lookup,h⟩
structure Rdy (prog:Program) (w:World) (s s':Shared) (a I:Addr) (n:Nat) (ord:List Value):Prop where
 drw:s'={ s with heap:=s'.heap,drawn:=s'.drawn }
 keep:∀ b o,s.heap.get? b=some o→s'.heap.get? b=some o
 new:s.heap.objs.size≤I
 len:ord.length=n
 wlk:∀ A:Around,A.handled=none→∃ (fp:List Addr) (St:Nat→Heap→Prop),(∀ b ∈ fp,b=a ∨ s.heap.objs.size≤b)∧Walks prog w A I fp [I] n (fun j v=>ord[j]?=some v) St∧St 0 s'.heap
theorem ord_perm (w:World) (a:Addr) (ep:Nat) (es:Array (Int × Value)):(ordA w a ep es).toList.Perm es.toList:=by
 unfold ordA
 split
 ·exact pick_perm _ _
 ·exact List.Perm.refl _
theorem at_places (es:Array (Int × Value)):∀ ps:List Nat,(∀ p ∈ ps,p < es.size)→∃ l:List (Int × Value),l.length=ps.length∧l=ps.filterMap (fun p=>es[p]?)∧∀ (j p:Nat),ps[j]?=some p→∃ e,es[p]?=some e∧l[j]?=some e
 | [],_=>⟨[],rfl,rfl,fun j p e=>by simp at e⟩
 | p :: ps,h=>by
  obtain ⟨l,h1,h2,h3⟩:=at_places es ps fun q hq=>h q (.tail _ hq)
  have hp:=h p (.head _)
  refine ⟨es[p] :: l,by simp [h1],by rw [List.filterMap_cons,Array.getElem?_eq_getElem hp,h2],fun j q e=>?_⟩
  cases j with
  | zero=>
   cases (show some p=some q from e)
   exact ⟨es[p],Array.getElem?_eq_getElem hp,rfl⟩
  | succ j=>exact h3 j q (by simpa using e)
theorem all_places (es:Array (Int × Value)):(List.range es.size).filterMap (fun p=>es[p]?)=es.toList:=by
 apply List.ext_getElem?
 intro i
 have:∀ n,n≤es.size→(List.range n).filterMap (fun p=>es[p]?)=es.toList.take n:=fun n=>by
  induction n with
  | zero=>intro _; simp
  | succ n ih=>
   intro h
   rw [List.range_succ,List.filterMap_append,ih (by omega),List.take_add_one]
   simp [Array.getElem?_eq_getElem (show n < es.size by omega),List.getElem?_eq_getElem (show n < es.toList.length by simp; omega)]
 rw [this es.size (Nat.le_refl _),List.take_of_length_le (by simp)]
theorem walk_d {I a T:Addr} {es:Array (Int × Value)} {ep:Nat} {t:SetTable} {ps:List Nat} {l:List (Int × Value)} (hh:A.handled=none) (ha:a ≠ I) (hT:T ≠ I) (hp:ps.length=es.size) (hl:l.length=ps.length) (h3:∀ (j p:Nat),ps[j]?=some p→∃ e,es[p]?=some e∧l[j]?=some e):
  Walks prog w A I [I,a,T] [I] es.size (fun j v=>(l.map (·.2))[j]?=some v) (fun j h=>SIt h I a (.ref T) j es.size ep∧SetD h a es ep t∧Plc h T ps) where
 sub:=fun b hb=>by simp at hb; simp [hb]
 frame:=fun j h h' st k=>⟨k I (by simp) _ st.1,st.2.1.keep fun o e=>k a (by simp) o e,let ⟨o,e,r⟩:=st.2.2; ⟨o,k T (by simp) o e,r⟩⟩
 item:=fun j s Q E hj st hQ=>by
  obtain ⟨e,e1,e2⟩:=h3 j ps[j] (List.getElem?_eq_getElem (by omega))
  refine drawn_some st.1 st.2.1 st.2.2 (List.getElem?_eq_getElem (by omega)) e1 fun h' it sb=>hQ e.2 h' s.toks (by rw [List.getElem?_map,e2]; rfl) ⟨it,st.2.1.keep fun o e=>(sb.2 a ha).trans e,let ⟨o,e,r⟩:=st.2.2; ⟨o,(sb.2 T hT).trans e,r⟩⟩ fun b o hb e=>(sb.2 b fun c=>hb (by simp [c])).trans e
 done:=fun s Q E st hQ=>drawn_none hh st.1 st.2.1 st.2.2 hp fun h' k=>hQ h' s.toks fun b o hb e=>k b o (fun c=>hb (by simp [c])) e
 self:=fun j s Q E st hQ=>self_it st.1 hQ
theorem walk_i {I a:Addr} {es:Array (Int × Value)} {ep:Nat} {t:SetTable} (hh:A.handled=none) (ha:a ≠ I) (hl:t.led=ledOf w) (hp:txt w=true ∨ (!t.plain && decide (es.size > 1))=false):
  Walks prog w A I [I,a] [I] es.size (fun j v=>((ordA w a ep es).toList.map (·.2))[j]?=some v) (fun j h=>SIt h I a (.int ((slA w t j:Nat):Int) 0) j es.size ep∧SetD h a es ep t) where
 sub:=fun b hb=>by simp at hb; simp [hb]
 frame:=fun j h h' st k=>⟨k I (by simp) _ st.1,st.2.keep fun o e=>k a (by simp) o e⟩
 item:=fun j s Q E hj st hQ=>by
  have hz:(ordA w a ep es).size=es.size:=by simpa using (ord_perm w a ep es).length_eq
  have he:(ordA w a ep es)[j]?=some ((ordA w a ep es)[j]'(by omega)):=Array.getElem?_eq_getElem _
  refine nx_some st.1 st.2 hl hp hj he fun h' it sb=>hQ _ h' s.toks (by rw [List.getElem?_map,Array.getElem?_toList,he]; rfl) ⟨it,st.2.keep fun o e=>(sb.2 a ha).trans e⟩ fun b o hb e=>(sb.2 b fun c=>hb (by simp [c])).trans e
 done:=fun s Q E st hQ=>nx_none hh st.1 st.2 hl hp (by simpa using (ord_perm w a ep es).length_eq) fun h' k=>hQ h' s.toks fun b o hb e=>k b o (fun c=>hb (by simp [c])) e
 self:=fun j s Q E st hQ=>self_it st.1 hQ
theorem iter_set {a:Addr} {es:Array (Int × Value)} {ep:Nat} {t:SetTable} {Q:Value→Shared→Prop} (hS:SetD s.heap a es ep t) (hl:t.led=ledOf w) (hn:es.size≤sizeLine)
  (h:∀ (s':Shared) (I:Addr) (ord:List Value),ord.Perm (es.toList.map (·.2))→Rdy prog w s s' a I es.size ord→Q (.ref I) s'):wpAny (model prog w) A (pyIter (.ref a)) Q E s:=by
 obtain ⟨⟨o,ho,hx,hd⟩,hf,hr⟩:=id hS
 have ha:a < s.heap.objs.size:=Heap.lt_size ho
 refine wpAny_pyIter_slot hS.type F.slot_set_iter (wpAny_call_entry F.slot_set_iter hS.type entry_seti ?_ (F.args_set_iter_1 _))
 unfold Builtin.«frozenset.__iter__»
 refine wpAny_bind (m:=Builtin.Frozenset.slot0 _ _) (wpAny_pure ?_)
 unfold Builtin.Frozenset.sizeOf
 refine wpAny_bind (wpAny_bind (wpAny_setEntries_of ho hd hf (wpAny_pure ?_)))
 refine wpAny_bind ?_
 unfold setDrawn
 refine wpAny_bind (wpAny_setState_of ho hd hf ?_)
 dsimp only
 refine wpAny_bind (byText (wpAny_pure ?_))
 refine wpAny_ite_split (fun c=>?_) fun c=>?_
 ·have c:(!(txt w) && (!t.plain && decide (es.size > 1)))=true:=c
  refine wpAny_bind (draws _ _ _ _ (by simp) fun ps d hp=>?_)
  have hpl:ps.length=es.size:=by rw [hp.length_eq,List.length_range]
  have hpb:∀ p ∈ ps,p < es.size:=fun p hq=>List.mem_range.mp (hp.mem_iff.mp hq)
  obtain ⟨l,l1,l2,l3⟩:=at_places es ps hpb
  have lp:l.Perm es.toList:=by
   rw [l2,← all_places]
   exact hp.filterMap _
  simp only [newTuple]
  refine wpAny_bind (wpAny_newObj_type (data:=.seq (ps.map fun (i:Nat)=>rawInt i).toArray) ?_ (by show (ps.map fun (i:Nat)=>rawInt i).toArray.size≤sizeLine; simp; omega))
  refine wpAny_bind (wpAny_setEpoch_of (Heap.get?_push_of_some _ ho) hd hf ?_)
  refine wpAny_bind (wpAny_newObj_type (wpAny_pure ⟨_,rfl,"set_iterator",_,⟨_,Heap.get?_push_size _ rfl,rfl⟩,slot_sn.lookup,?_⟩))
  refine h _ _ (l.map (·.2)) (lp.map _) ⟨rfl,fun b o e=>Heap.get?_push_of_some _ (Heap.get?_push_of_some _ e),by rw [Heap.size_push]; exact Nat.le_succ _,by rw [List.length_map,l1,hpl],fun A' hh=>?_⟩
  refine ⟨_,_,?_,walk_d (T:=s.heap.objs.size) (ps:=ps) (l:=l) (es:=es) (t:=t) (ep:=ep) (a:=a) hh ?_ ?_ hpl (by rw [l1]) l3,⟨Heap.get?_push_size _ rfl,hS.keep fun o e=>Heap.get?_push_of_some _ (Heap.get?_push_of_some _ e),?_⟩⟩
  ·intro b hb
   simp only [List.mem_cons,List.not_mem_nil,or_false] at hb
   rcases hb with rfl | rfl | rfl
   ·exact .inr (by rw [Heap.size_push]; exact Nat.le_succ _)
   ·exact .inl rfl
   ·exact .inr (Nat.le_refl _)
  ·rw [Heap.size_push]; exact Nat.ne_of_lt (Nat.lt_succ_of_lt ha)
  ·rw [Heap.size_push]; exact Nat.ne_of_lt (Nat.lt_succ_self _)
  ·exact ⟨_,Heap.get?_push_of_some _ (Heap.get?_push_size _ rfl),_,rfl⟩
 ·have c:¬ (!(txt w) && (!t.plain && decide (es.size > 1)))=true:=c
  have hp:txt w=true ∨ (!t.plain && decide (es.size > 1))=false:=by
   cases e1:txt w with
   | true=>exact .inl rfl
   | false=>
    cases e2:(!t.plain && decide (es.size > 1)) with
    | false=>exact .inr rfl
    | true=>rw [e1,e2] at c; exact absurd rfl c
  have lp:=ord_perm w a ep es
  refine wpAny_bind (m:=pure (rawInt 0)) (wpAny_pure ?_)
  refine wpAny_bind (wpAny_setEpoch_of ho hd hf ?_)
  refine wpAny_bind (wpAny_newObj_type (wpAny_pure ⟨_,rfl,"set_iterator",_,⟨_,Heap.get?_push_size _ rfl,rfl⟩,slot_sn.lookup,?_⟩))
  refine h _ _ ((ordA w a ep es).toList.map (·.2)) (lp.map _) ⟨rfl,fun b o e=>Heap.get?_push_of_some _ e,Nat.le_refl _,by rw [List.length_map,lp.length_eq,Array.length_toList],fun A' hh=>?_⟩
  refine ⟨_,_,?_,walk_i (a:=a) (es:=es) (ep:=ep) (t:=t) hh ?_ hl hp,⟨?_,hS.keep fun o e=>Heap.get?_push_of_some _ e⟩⟩
  ·intro b hb
   simp only [List.mem_cons,List.not_mem_nil,or_false] at hb
   rcases hb with rfl | rfl
   ·exact .inr (Nat.le_refl _)
   ·exact .inl rfl
  ·exact Nat.ne_of_lt ha
  ·have e0:slA w t 0=0:=by unfold slA; split <;> rfl
   show SIt _ _ a (.int ((slA w t 0:Nat):Int) 0) 0 es.size ep
   rw [e0]
   exact Heap.get?_push_size _ rfl
end
end ST
namespace ST
open PySem PySem.Spec PyProof.Rows PySem.W
section
variable {prog:Program} {w:World} {A:Around} {E:Value→Shared→Prop} {s:Shared}
theorem hint_set {a:Addr} {Q:Bool→Shared→Prop} (hT:s.TypeIs (.ref a) "set") (h:Q false s):wpAny (model prog w) A (Builtin.List.listLengthHint (.ref a)) Q E s:=by
 unfold Builtin.List.listLengthHint
 refine wpAny_bind (wpAny_specialOf hT PySem.F.slot_set_len.lookup ?_)
 generalize hid:("set.__len__":String)=id0
 wp_delta
 rw [show splitId id0=some ("set","__len__") from by subst hid; decide +kernel]
 subst hid
 refine wpAny_bind (wpAny_isInstance (T:="set") (b:=true) hT sub_set_self (wpAny_ite_split (fun z=>absurd z (by decide)) fun _=>?_))
 exact wpAny_ite_split (fun _=>wpAny_bind (wpAny_typeOf hT (wpAny_pure h))) fun z=>absurd (by decide +kernel) z
noncomputable def Lk (s s':Shared):Prop:=s'={ s with heap:=s'.heap,toks:=s'.toks,drawn:=s'.drawn }
theorem Lk.trans {s s1 s2:Shared} (a:Lk s s1) (b:Lk s1 s2):Lk s s2:=by
 unfold Lk at *
 rw [b,a]
theorem extend_set {a L:Addr} {es:Array (Int × Value)} {ep c0:Nat} {t:SetTable} {res:Value} {R:Result→Shared→Prop} (hS:SetD s.heap a es ep t) (hl:t.led=ledOf w) (hn:es.size≤sizeLine) (hh:A.handled=none) (hLa:L ≠ a) (hL:s.heap.get? L=some { cls:=.type "list",data:=.seq #[] c0 })
  (h:∀ (s':Shared) (acc:Array Value) (c:Nat),Lk s s'→(∀ b o,b ≠ L→s.heap.get? b=some o→s'.heap.get? b=some o)→s'.heap.get? L=some { cls:=.type "list",dict:=none,data:=.seq acc c,slots:=#[] }→acc.toList.Perm (es.toList.map (·.2))→R (.ok (.ret res)) s'):
  wpAny (model prog w) A.in1 (Builtin.List.listExtendWith (.ref L) (.ref a) res)
   (fun fin s'=>match fin with | .done f=>R (.ok f) s' | .again c'=>c'.quiet=true∧codeAny (model prog w) A c' R s') (fun e s'=>R (.error e) s') s:=by
 unfold Builtin.List.listExtendWith
 refine wpAny_bind (wpAny_typeOf (T:="set") hS.type ?_)
 have q1:Builtin.List.listSameRef (.ref L) (.ref a)=false:=by simp [Builtin.List.listSameRef,hLa]
 have q2:(Value.type "set" == Value.type "list")=false:=by decide
 have q3:(Value.type "set" == Value.type "tuple")=false:=by decide
 simp only [q1,q2,q3,Bool.or_false,Bool.false_eq_true,if_false]
 refine wpAny_bind (iter_set hS hl hn fun s1 I ord hp rd=>?_)
 obtain ⟨e1,kp,nw,ln,wk⟩:=rd
 obtain ⟨fp,St,hfp,W,st⟩:=wk A.in1 (by simp [hh])
 have hLlt:L < s.heap.objs.size:=Heap.lt_size hL
 have hLf:L ∉ fp:=fun hb=>(hfp L hb).elim hLa fun z=>absurd hLlt (Nat.not_lt.mpr z)
 have hLI:L ≠ I:=fun c=>absurd hLlt (Nat.not_lt.mpr (c ▸ nw))
 have hL1:=kp L _ hL
 have key:∀ (s2:Shared) (c1:Nat),Lk s1 s2→(∀ b o,b ≠ L→s1.heap.get? b=some o→s2.heap.get? b=some o)→St 0 s2.heap→s2.heap.get? L=some { cls:=.type "list",data:=.seq #[] c1 }→codeAny (model prog w) A (.builtin "list.extend.loop" ⟨[.ref L,.ref I,res],[]⟩) R s2:=fun s2 c1 lk kp2 st2 g=>by
  refine codeAny_extend_loopS W.toS hn L hLf res es.size 0 s2 #[] c1 rfl (Nat.zero_le _) st2 g (ItemsOf.nil _) fun s3 acc c hm g3 hacc=>?_
  have lk3:Lk s2 s3:=by rw [Moved.eq_with hm]; rfl
  have lk1:Lk s s1:=by rw [e1]; rfl
  refine h s3 acc c ((lk1.trans lk).trans lk3) (fun b o hb e=>hm.heap b o (fun hm'=>?_) (kp2 b o hb (kp b o e))) g3 ?_
  ·rcases List.mem_cons.mp hm' with z | z
   ·exact hb z
   ·rw [List.mem_singleton.mp z] at e
    exact absurd (Heap.lt_size e) (Nat.not_lt.mpr nw)
  ·have:acc.toList=ord:=List.ext_getElem? fun j=>by
    rcases Nat.lt_or_ge j es.size with g | g
    ·have hj:j < acc.size:=by rw [hacc.1]; exact g
     rw [Array.getElem?_toList,Array.getElem?_eq_getElem hj]
     exact (hacc.2 j _ (Array.getElem?_eq_getElem hj)).symm
    ·rw [List.getElem?_eq_none (by rw [Array.length_toList,hacc.1]; exact g),List.getElem?_eq_none (by omega)]
   rw [this]; exact hp
 refine wpAny_bind (wpAny_holding (hint_set (hS.keep fun o e=>kp a o e).type ?_))
 refine wpAny_ite_split (fun _=>?_) fun _=>wpAny_pure ⟨plainId_quiet PySem.F.plain_extend_loop _,key s1 c0 rfl (fun b o _ e=>e) st hL1⟩
 refine wpAny_bind (wpAny_rule (wpAny_bind (?_:wpAny _ _ (updateSeq L (·.push .none) >>= fun _=>updateSeq L (·.pop)) _ _ _)))
 have g2:=Heap.get?_update_self (Obj.mapSeq (·.push Value.none)) hL1 rfl
 refine wpAny_bind (wpAny_updateSeq hL1 rfl (wpAny_updateSeq (hz:=by seq_fits) g2 rfl (wpAny_pure ⟨plainId_quiet PySem.F.plain_extend_loop _,key _ _ rfl (fun b o hb e=>?_) ?_ (Heap.get?_update_self (Obj.mapSeq (·.pop)) g2 rfl)⟩)))
 ·exact (Heap.get?_update_other _ _ (Ne.symm hb)).trans ((Heap.get?_update_other _ _ (Ne.symm hb)).trans e)
 ·exact W.frame 0 _ _ st fun b hb o e=>(Heap.get?_update_other _ _ fun c=>hLf (by rw [c]; exact hb)).trans ((Heap.get?_update_other _ _ fun c=>hLf (by rw [c]; exact hb)).trans e)
end
end ST
namespace ST
open PySem PySem.Spec PyProof.Rows PySem.W
theorem perm_of_sub:∀ (ks zs:List Int),ks.Nodup→(∀ j ∈ ks,j ∈ zs)→zs.length=ks.length→zs.Perm ks
 | [],zs,_,_,h=>by rw [List.length_eq_zero_iff.mp h]
 | k :: r,zs,nd,hm,hl=>by
  have h1:=hm k (.head _)
  refine (List.perm_cons_erase h1).trans (List.Perm.cons _ (perm_of_sub r (zs.erase k) (List.nodup_cons.mp nd).2 (fun j hj=>?_) ?_))
  ·refine (List.mem_erase_of_ne ?_).mpr (hm j (.tail _ hj))
   rintro rfl
   exact (List.nodup_cons.mp nd).1 hj
  ·rw [List.length_erase_of_mem h1,hl]; rfl
noncomputable def keyV:Value→Int
 | .int i _=>i
 | _=>0
section
variable {prog:Program} {w:World} {A:Around} {E:Value→Shared→Prop} {s:Shared}
theorem elems_ints:∀ {l:List (Int × Value)},ElemsOf (ik prog w) l→IntsAre (l.map (·.2)) (l.map fun e=>keyV e.2)
 | [],_=>.nil
 | e :: l,h=>by
  obtain ⟨⟨k,hk,_⟩,_⟩:=h.head
  obtain ⟨t,e2⟩:=Value.isInt_shape hk
  rw [List.map_cons,List.map_cons,e2]
  exact .cons _ _ (elems_ints h.tail)
theorem ints_perm:∀ {vs us:List Value} {ns:List Int},us.Perm vs→IntsAre vs ns→IntsAre us (us.map keyV):=fun {vs us ns} hp hi=>by
 have:∀ v ∈ us,∃ i t,v=Value.int i t:=fun v hv=>by
  have hv:=hp.mem_iff.mp hv
  clear hp
  induction hi with
  | nil=>cases hv
  | cons n t _ ih=>
   rcases List.mem_cons.mp hv with rfl | hv
   ·exact ⟨n,t,rfl⟩
   ·exact ih hv
 clear hp hi
 induction us with
 | nil=>exact .nil
 | cons u us ih=>
  obtain ⟨i,t,rfl⟩:=this u (.head _)
  exact .cons _ _ (ih fun v hv=>this v (.tail _ hv))
theorem collect_set {a:Addr} {es:Array (Int × Value)} {ep:Nat} {t:SetTable} {R:List Value→Shared→Prop} (hS:SetD s.heap a es ep t) (hl:t.led=ledOf w) (hn:es.size≤sizeLine) (hh:A.handled=none)
  (h:∀ (s':Shared) (acc:List Value),Lk s s'→(∀ b o,s.heap.get? b=some o→s'.heap.get? b=some o)→acc.Perm (es.toList.map (·.2))→R acc s'):wpAny (model prog w) A (collect (.ref a)) R E s:=by
 have ha:a < s.heap.objs.size:=by obtain ⟨⟨o,ho,_⟩,_⟩:=hS; exact Heap.lt_size ho
 unfold collect
 refine wpAny_bind (wpAny_runValue (codeAny_builtin entry_proto_collect' ?_))
 rw [Around.under_plainId PySem.F.plain_proto_collect _]
 refine (?_:wpAny _ A.in1 (newList [] >>= fun l=>again (.builtin "list.__iadd__" ⟨[l,.ref a],[]⟩)) _ _ s)
 refine wpAny_bind (wpAny_newObj_type (wpAny_pure ⟨plainId_quiet PySem.F.plain_list_iadd _,codeAny_builtin entry_list_iadd' ?_⟩))
 rw [Around.under_plainId PySem.F.plain_list_iadd _]
 have g:(s.heap.push { cls:=.type "list",data:=.seq ([]:List Value).toArray }).get? s.heap.objs.size=some { cls:=.type "list",data:=.seq #[] }:=Heap.get?_push_size _ rfl
 have key:=extend_set (prog:=prog) (w:=w) (A:=A) (s:={ s with heap:=s.heap.push { cls:=.type "list",data:=.seq ([]:List Value).toArray } }) (res:=.ref s.heap.objs.size)
  (R:=fun (q:Result) (s':Shared)=>∃ (acc:Array Value) (c:Nat),q=.ok (.ret (.ref s.heap.objs.size))∧Lk s s'∧(∀ b o,s.heap.get? b=some o→s'.heap.get? b=some o)∧s'.heap.get? s.heap.objs.size=some { cls:=.type "list",dict:=none,data:=.seq acc c,slots:=#[] }∧acc.toList.Perm (es.toList.map (·.2)))
  (hS.keep fun o e=>Heap.get?_push_of_some _ e) hl hn hh (Nat.ne_of_gt ha) g fun s' acc c lk kp g' hp=>⟨acc,c,rfl,lk,fun b o e=>kp b o (Nat.ne_of_lt (Heap.lt_size e)) (Heap.get?_push_of_some _ e),g',hp⟩
 have fin:∀ (s':Shared) (acc:Array Value) (c:Nat),Lk s s'→(∀ b o,s.heap.get? b=some o→s'.heap.get? b=some o)→s'.heap.get? s.heap.objs.size=some { cls:=.type "list",dict:=none,data:=.seq acc c,slots:=#[] }→acc.toList.Perm (es.toList.map (·.2))→
   wpAny (model prog w) A (do match (← load s.heap.objs.size).data with | .seq xs _=>pure xs.toList | _=>unsupported "internal:collect") R E s':=fun s' acc c lk kp g' hp=>wpAny_bind (wpAny_load g' (wpAny_pure (h s' _ lk kp hp)))
 refine (?_:wpAny _ A.in1 (Builtin.List.listExtendWith (.ref s.heap.objs.size) (.ref a) (.ref s.heap.objs.size)) _ _ _)
 refine wpAny_mono key (fun f s' x=>?_) fun e s' x=>?_
 ·cases f with
  | done f=>
   obtain ⟨acc,c,q,lk,kp,g',hp⟩:=x
   cases q
   exact fin s' acc c lk kp g' hp
  | again c1=>
   refine ⟨x.1,codeAny_mono x.2 fun q s2 y=>?_⟩
   obtain ⟨acc,c,rfl,lk,kp,g',hp⟩:=y
   exact fin s2 acc c lk kp g' hp
 ·obtain ⟨acc,c,q,_⟩:=x
  cases q
theorem sorted_set {a:Addr} {ks:List Int} {Q:Value→Shared→Prop} (hS:SetA prog w s.heap a (hasZ ks) ks.length) (nd:ks.Nodup) (hh:A.handled=none)
  (h:∀ (s1:Shared),Lk s s1→(∀ b o,s.heap.get? b=some o→s1.heap.get? b=some o)→∀ (h2:Heap) (out:Array Value) (ns':List Int) (n:Nat),(∀ b o,s1.heap.get? b=some o→h2.get? b=some o)→h2.get? s1.heap.objs.size=some (seqObj "list" out n)→IntsAre out.toList ns'→ns'.Perm ks→ns'.Pairwise (· ≤ ·)→Q (.ref s1.heap.objs.size) { s1 with heap:=h2 }):
  wpAny (model prog w) A (call (.builtin "sorted") [.ref a]) Q E s:=by
 obtain ⟨o,es,ep,t,ho,hx,hd,hel,hm,hb,hf,e0,hr,hl⟩:=hS
 have hz:=fits_of_scanBound hb
 refine Calls.call_function_entry kind_sorted plain_sorted entry_sorted (args_sorted1 _) ?_
 unfold Builtin.«sorted»
 refine wpAny_bind (m:=checkCount "sorted" 1 1 _) (wpAny_pure ?_)
 refine wpAny_bind (collect_set (A:=A.in1) ⟨⟨o,ho,hx,hd⟩,hf,hr⟩ hl hz (by simp [hh]) fun s1 acc lk kp hp=>?_)
 have hi:=ints_perm hp (elems_ints hel)
 have hpk:(acc.map keyV).Perm ks:=by
  refine (hp.map keyV).trans ?_
  rw [List.map_map]
  refine perm_of_sub _ _ nd (fun j hj=>?_) (by rw [List.length_map,Array.length_toList,e0])
  obtain ⟨e,he,hk⟩:=(hm j).mp (by simpa [hasZ] using hj)
  obtain ⟨tk,e2⟩:=Value.isInt_shape hk
  exact List.mem_map.mpr ⟨e,he,by show keyV e.2=j; rw [e2]; rfl⟩
 refine SQ.sorted_tail (s:=s1) hi (by rw [hp.length_eq,List.length_map,Array.length_toList]; exact hz) fun h2 out ns' n k1 k2 a1 a2 a3=>h s1 lk kp h2 out ns' n k1 k2 a1 (a2.trans hpk) a3
end
end ST
namespace PD
open PySem PySem.Spec PyProof.Rows L2
noncomputable def fSrtS:Sto→List D→Option D
 | _,[.lst ds]=>match intsOf ds with
  | some ns=>if ns.length + 1 < 4096 then some (.lst ((sortZ (_root_.ST.uniqZ ns)).map .int)) else none
  | none=>none
 | _,_=>none
section
variable {X:Cx} {E:XK}
noncomputable abbrev setP (X:Cx) (a:Addr) (ks:List Int):Heap→Prop:=fun h=>_root_.ST.SetA X.prog X.w h a (_root_.ST.hasZ ks) ks.length
noncomputable def rSet (X:Cx):List V→Hp→VK→Prop:=fun xs H Q=>∃ p vs ns,xs=[.ref p]∧SqL X.K H p vs∧(∀ us,Vals vs us→IntsAre us ns)∧ns.length + 1 < 4096∧∀ a,H a=none→Q (.ref a) (upd H a (.ext (setP X a (_root_.ST.uniqZ ns))))
noncomputable def rSrt (X:Cx):List V→Hp→VK→Prop:=fun xs H Q=>∃ a ks,xs=[.ref a]∧H a=some (.ext (setP X a ks))∧ks.Nodup∧ks.length≤4096∧∀ b,H b=none→Q (.ref b) (upd H b (.lst ((sortZ ks).map V.int)))
theorem inv_drn {pins:List (Addr × Obj)} {σ:L2.St} {H:Hp} {s s':Shared} (I:Inv X pins σ H s) (lk:_root_.ST.Lk s s') (k:∀ b u,s.heap.get? b=some u→s'.heap.get? b=some u):Inv X pins σ H s':=by
 have J:=I.kept (h':=s'.heap) (t':=s'.toks) k
 rw [lk]
 exact ⟨J.ok,J.os,J.bare,J.base,J.loc,J.cell,J.free,J.freeC,J.pin,J.hok,J.len⟩
theorem xr_set (hc:X.calm=true):CallR X (.type "set") (rSet X):=by
 rintro pins s σ H xs us Q I r ⟨p,vs,ns,rfl,hq,hi,hb,k⟩
 obtain ⟨u,rfl,rx⟩:=vals1 r
 cases rx
 obtain ⟨its,rv,⟨o,n,ho,c1,_,c2⟩,hz⟩:=I.list hq
 have hI:=hi its rv
 have hl:its.length=ns.length:=hI.length
 refine _root_.ST.call_set (its:=its.toArray) (ns:=ns) (I.ok.hd hc) ⟨o,ho,c1,n,c2⟩ (by simpa using hI) (by show its.toArray.size + 1 < 4096; rw [List.size_toArray]; omega) fun h' tk hS kp=>?_
 have hf:H s.heap.objs.size=none:=I.hok.fresh (Nat.le_refl _)
 refine ⟨.ref s.heap.objs.size,_,I.laid (t':=tk) (a:=s.heap.objs.size) (o:=.ext (setP X s.heap.objs.size (_root_.ST.uniqZ ns))) kp (Nat.le_refl _) ⟨hS,?_,fun h1 h2 x y=>x.keep y⟩,rfl,k _ hf⟩
 obtain ⟨o,_,_,_,e,_⟩:=hS
 exact ⟨o,e⟩
theorem xr_srt (hc:X.calm=true):CallR X (.builtin "sorted") (rSrt X):=by
 rintro pins s σ H xs us Q I r ⟨a,ks,rfl,hx,nd,hn,k⟩
 obtain ⟨u,rfl,rx⟩:=vals1 r
 cases rx
 have z:(4096:Nat)≤sizeLine:=by decide
 obtain ⟨hS,_,_⟩:=I.hok a _ hx
 refine _root_.ST.sorted_set hS nd (I.ok.hd hc) fun s1 lk kp h2 out ns' n k1 k2 a1 a2 a3=>?_
 have en:ns'=sortZ ks:=sorted_uniq (a2.trans (sortZ_perm ks).symm) a3 (sortZ_sorted ks)
 subst en
 have J:Inv X pins σ H s1:=inv_drn I lk kp
 have hf:H s1.heap.objs.size=none:=J.hok.fresh (Nat.le_refl _)
 exact ⟨.ref s1.heap.objs.size,_,J.laid (t':=s1.toks) (a:=s1.heap.objs.size) (o:=.lst ((sortZ ks).map V.int)) k1 (Nat.le_refl _) ⟨by rw [List.length_map,(sortZ_perm ks).length_eq]; omega,out.toList,n,vals_of a1,by rw [Array.toArray_toList]; exact k2⟩,rfl,k _ hf⟩
variable {a:Expr} {ms:AM} {x1 x2:Str} {p1 p2 q1 q2:Pos}
theorem se_srtS (hc:X.calm=true) (g1:Gl X x1) (m1:X.mg x1=none) (v1:bootBuiltins x1=some (.builtin "sorted")) (g2:Gl X x2) (m2:X.mg x2=none) (v2:bootBuiltins x2=some (.type "set")) (ha:SA X E [a] ms) (n1:autoParam (x1 ≠ "__name__") Au.h3._auto_1) (d1:autoParam ((x1 == ("__debug__":Str))=false) Au.h3._auto_1) (n2:autoParam (x2 ≠ "__name__") Au.h3._auto_1) (d2:autoParam ((x2 == ("__debug__":Str))=false) Au.h3._auto_1)
  (e1:autoParam (starEach [.Call (.Name x2 p2) [a] [] q2] X.env=[(false,eval (.Call (.Name x2 p2) [a] [] q2) X.env)]) Au.h0._auto_1) (e2:autoParam (starEach [a] X.env=[(false,eval a X.env)]) Au.h0._auto_1) (b1:autoParam ((backTo q1 (starEach [] X.env)).any (·.1)=false) Au.h0._auto_1) (b2:autoParam ((backTo q2 (starEach [] X.env)).any (·.1)=false) Au.h0._auto_1):
  SE X E (.Call (.Name x1 p1) [.Call (.Name x2 p2) [a] [] q2] [] q1) (eB fSrtS ms):=⟨by
 have hi:=pe_callTy (p:=p2) (pos:=q2) (xr_set hc) g2 m2 v2 ha.out n2 d2 e2 b2
 refine pe_weak (pe_callB (p:=p1) (pos:=q1) (xr_srt hc) g1 m1 v1 (pa_cons hi pa_nil e1) n1 d1 e1 b1) fun s H Q zq=>ex6 zq fun w r S hr hS hp=>⟨w,r,S,hr,hS,hp.bind hS fun ds S1 w1 H1 vs y1 q1 s1 p1=>?_⟩
 obtain ⟨z,hz,p'⟩:=p1.of
 unfold fSrtS at hz
 split at hz
 ·rename_i ds0
  obtain ⟨v,rfl,q⟩:=q1.one_inv
  split at hz
  ·rename_i ns hns
   split at hz
   ·rename_i hb
    cases hz
    obtain ⟨pa,vs,rfl,at0,ra⟩:=q.lstI
    have hlen:(_root_.ST.uniqZ ns).length≤4096:=by
     have:=_root_.ST.fold_len ns []
     show (ns.foldl _root_.ST.ins1 []).length≤4096
     simp at this; omega
    refine ⟨pa,vs,ns,rfl,SqL.of at0.1,fun us rv=>ints_are ra rv hns,hb,fun a hf=>?_⟩
    refine ⟨a,_,rfl,upd_same,_root_.ST.uniqZ_nd ns,hlen,fun b hfb=>?_⟩
    have s2:=s1.new (o:=.ext (setP X a (_root_.ST.uniqZ ns))) hf
    have fr:∀ c ∈ w1.st,∃ o,H1 c=some o∧∃ o',upd H1 a (.ext (setP X a (_root_.ST.uniqZ ns))) c=some o':=fun c hc'=>by
     obtain ⟨o,e⟩:=s1.there hc'
     exact ⟨o,e,o,by rw [upd_ne (ne_of_none e hf)]; exact e⟩
    exact p'.at ((Ext.new hf).trans (Ext.new hfb) fr) (RD.newLst s2 hfb (rds_ints _)) (s2.new hfb)
   ·cases hz
  ·cases hz
 ·cases hz⟩
end
end PD
namespace Lw
open PySem PySem.Spec PyProof.Rows L2 PD
noncomputable def raisedX:List Str:=[]
noncomputable def askedX:List Str:=[]
noncomputable def isaX (c k:Str):Bool:=c == k || k == "PlusError"
noncomputable abbrev st__law_cell:Stmt:=top 24
noncomputable def m__law_cell:SM:=(sSeq (sIf (tV (eOp oLt (eVar 1) (eB fLen (aCons (eVar 0) aNil)))) (sRet (eOp oIx (eVar 0) (eVar 1))) sSkip) (sRet (eC (.int 0))))
noncomputable def F__law_cell:FM:=fnM 2 m__law_cell
noncomputable abbrev st__law_mix:Stmt:=top 25
noncomputable def m__law_mix:SM:=(sSeq (sSet 2 (eLst (aCons (eC (.int 48271)) (aCons (eC (.int 69621)) (aCons (eC (.int 16807)) (aCons (eC (.int 39373)) (aCons (eC (.int 30269)) (aCons (eC (.int 40014)) (aCons (eC (.int 40692)) (aCons (eC (.int 50021)) (aCons (eC (.int 61687)) (aCons (eC (.int 71993)) (aCons (eC (.int 83869)) (aCons (eC (.int 95561)) (aCons (eC (.int 30307)) aNil))))))))))))))) (sSeq (sSet 3 (eOp oAdd (eOp oAdd (eOp oMul (eOp oAdd (eOp oMod (eVar 0) (eC (.int 2147483647))) (eC (.int 12345))) (eOp oIx (eVar 2) (eOp oMod (eVar 1) (eC (.int 13))))) (eOp oMul (eC (.int 977)) (eVar 1))) (eOp oMul (eC (.int 7919)) (eOp oFdiv (eVar 1) (eC (.int 13)))))) (sSeq (sSet 3 (eOp oMod (eVar 3) (eC (.int 1000000007)))) (sRet (eOp oFdiv (eOp oMod (eOp oAdd (eOp oMul (eVar 3) (eVar 3)) (eOp oMul (eC (.int 48271)) (eVar 1))) (eC (.int 1000000007))) (eC (.int 7)))))))
noncomputable def F__law_mix:FM:=fnM 4 m__law_mix
noncomputable abbrev st__law_box:Stmt:=top 26
noncomputable def m__law_box:SM:=(sSeq (sSet 2 (eCall F__law_cell (aCons (eVar 0) (aCons (eVar 1) aNil)))) (sSeq (sIf (tV (eOp oEqP (eOp oMod (eVar 2) (eC (.int 2))) (eC (.int 0)))) (sRet (eNew (aCons (eOp oFdiv (eB fAbs (aCons (eVar 2) aNil)) (eC (.int 2))) aNil))) sSkip) (sSeq (sSet 3 (eC (.int 0))) (sSeq (sFor (aRange1 (aCons (eC (.int 40)) aNil)) (.nm 4) (sSet 3 (eOp oAdd (eOp oMul (eVar 3) (eC (.int 142857143))) (eCall F__law_mix (aCons (eVar 2) (aCons (eVar 4) aNil)))))) (sRet (eNew (aCons (eVar 3) aNil)))))))
noncomputable def F__law_box:FM:=fnM 5 m__law_box
noncomputable abbrev st__law_layers:Stmt:=top 30
noncomputable def m__law_layers:SM:=(sSeq (sSet 2 (eNew (aCons (eTup (aCons (eC (.int 0)) aNil)) aNil))) (sSeq (sFor (aSeq (eVar 0) itSeq) (.nm 3) (sSeq (sSet 4 (eLst aNil)) (sSeq (sFor (aSeq (eVar 1) itSeq) (.nm 5) (sSet 4 (eOp oAdd (eVar 4) (eComp (aSeq (eOp oIx (eVar 2) (eUn oNeg (eC (.int 1)))) itSeq) 1 [5,3] (.nm 0) tTrue (eOp oAdd (eVar 0) (eOp oMul (eVar 1) (eVar 2))))))) (sDrop (eMtL mAppend (eVar 2) (aCons (eB fTuple (aCons (eB fSrtS (aCons (eVar 4) aNil)) aNil)) aNil)))))) (sRet (eVar 2))))
noncomputable def F__law_layers:FM:=fnM 6 m__law_layers
noncomputable abbrev st__law_take:Stmt:=top 27
noncomputable def m__law_take:SM:=(sSeq (sAsg (.tp [(.nm 2),(.nm 3)]) (eB fDivmod (aCons (eOp oIx (eVar 0) (eC (.int 0))) (aCons (eVar 1) aNil)))) (sSeq (sPut fPut (eVar 2) (eVar 0) (eC (.int 0))) (sRet (eVar 3))))
noncomputable def F__law_take:FM:=fnM 4 m__law_take
noncomputable abbrev st__law_number:Stmt:=top 29
noncomputable def m__law_number:SM:=(sSeq (sSet 2 (eB fSum (aCons (eVar 1) aNil))) (sSeq (sSet 3 (eOp oSub (eCall F__law_take (aCons (eVar 0) (aCons (eC (.int 30)) aNil))) (eC (.int 15)))) (sSeq (sSet 4 (eLst (aCons (eC (.int 0)) (aCons (eVar 2) (aCons (eOp oSub (eC (.int 0)) (eVar 2)) (aCons (eOp oSub (eVar 2) (eC (.int 2))) (aCons (eVar 3) (aCons (eOp oAdd (eOp oAdd (eVar 2) (eC (.int 1))) (eOp oMul (eVar 3) (eVar 3))) (aCons (eVar 3) (aCons (eOp oSub (eVar 2) (eOp oMul (eC (.int 2)) (eOp oIx (eOp oAdd (eVar 1) (eTup (aCons (eC (.int 1)) aNil))) (eC (.int 0))))) (aCons (eVar 3) aNil))))))))))) (sRet (eOp oIx (eVar 4) (eCall F__law_take (aCons (eVar 0) (aCons (eC (.int 9)) aNil))))))))
noncomputable def F__law_number:FM:=fnM 5 m__law_number
noncomputable abbrev st__law_row:Stmt:=top 28
noncomputable def m__law_row:SM:=(sSeq (sSet 2 (eCall F__law_take (aCons (eVar 0) (aCons (eOp oAdd (eVar 1) (eC (.int 1))) aNil)))) (sSeq (sSet 3 (eCall F__law_take (aCons (eVar 0) (aCons (eC (.int 7)) aNil)))) (sSeq (sSet 4 (eOp oAdd (eC (.int 1)) (eCall F__law_take (aCons (eVar 0) (aCons (eC (.int 9)) aNil))))) (sSeq (sSet 5 (eNew aNil)) (sSeq (sFor (aRange1 (aCons (eVar 2) aNil)) (.nm 6) (sSeq (sSet 7 (eOp oAdd (eC (.int 1)) (eCall F__law_take (aCons (eVar 0) (aCons (eC (.int 12)) aNil))))) (sSeq (sSet 8 (eLst (aCons (eVar 7) (aCons (eVar 7) (aCons (eVar 4) (aCons (eOp oShl (eC (.int 1)) (eVar 6)) (aCons (eOp oAdd (eVar 4) (eOp oMul (eVar 6) (eVar 7))) (aCons (eOp oMul (eVar 7) (eVar 7)) (aCons (eOp oAdd (eOp oMul (eOp oPow (eC (.int 10)) (eC (.int 12))) (eVar 7)) (eVar 7)) aNil))))))))) (sDrop (eMtL mAppend (eVar 5) (aCons (eOp oIx (eLst (aCons (eOp oIx (eVar 8) (eVar 3)) (aCons (eOp oMul (eVar 4) (eVar 7)) aNil))) (eB fInt (aCons (eOp oEqP (eCall F__law_take (aCons (eVar 0) (aCons (eC (.int 9)) aNil))) (eC (.int 8))) aNil))) aNil)))))) (sRet (eB fTuple (aCons (eVar 5) aNil))))))))
noncomputable def F__law_row:FM:=fnM 9 m__law_row
noncomputable abbrev st_stepped:Stmt:=top 18
noncomputable def m_stepped:SM:=(sSeq (sSet 3 eDicE) (sSeq (sFor (aItems (eVar 0)) (.tp [(.nm 4),(.nm 5)]) (sFor (aSeq (eVar 2) itSeq) (.nm 6) (sSeq (sSet 7 (eOp oAdd (eVar 4) (eOp oMul (eVar 6) (eVar 1)))) (sPut fPutD (eOp oAdd (eGet2 (eVar 3) (eVar 7) (eC (.int 0))) (eVar 5)) (eVar 3) (eVar 7))))) (sRet (eVar 3))))
noncomputable def F_stepped:FM:=fnM 8 m_stepped
noncomputable abbrev st_least_layers:Stmt:=top 19
noncomputable def m_least_layers:SM:=(sSeq (sSet 2 (eDicN [((eC (.int 0)),(eC (.int 1)))])) (sSeq (sSet 3 (eNew (aCons (eTup (aCons (eC (.int 0)) aNil)) aNil))) (sSeq (sFor (aSeq (eVar 0) itSeq) (.nm 4) (sSeq (sSet 2 (eCall F_stepped (aCons (eVar 2) (aCons (eVar 4) (aCons (eVar 1) aNil))))) (sDrop (eMtL mAppend (eVar 3) (aCons (eB fTuple (aCons (eB fSrt (aCons (eVar 2) aNil)) aNil)) aNil))))) (sRet (eVar 3)))))
noncomputable def F_least_layers:FM:=fnM 5 m_least_layers
noncomputable abbrev st_least_without:Stmt:=top 20
noncomputable def m_least_without:SM:=(sSeq (sSet 3 (eCall F_least_layers (aCons (eVar 1) (aCons (eVar 2) aNil)))) (sRet (eIf (tV (eOp (oIn false) (eVar 0) (eOp oIx (eVar 3) (eUn oNeg (eC (.int 1)))))) (eC .non) (eVar 3))))
noncomputable def F_least_without:FM:=fnM 4 m_least_without
noncomputable abbrev st_is_whole:Stmt:=top 7
noncomputable def m_is_whole:SM:=(sRet (eAnd (eB fIsi (aCons (eVar 0) (aCons (eC (.ty "int")) aNil))) (eNot (eB fIsi (aCons (eVar 0) (aCons (eC (.ty "bool")) aNil))))))
noncomputable def F_is_whole:FM:=fnM 1 m_is_whole
noncomputable abbrev st_is_row:Stmt:=top 8
noncomputable def m_is_row:SM:=(sSeq (sIf (PD.tOr (PD.tNot (tV (eB fIsi (aCons (eVar 0) (aCons (eC (.ty "tuple")) aNil))))) (tV (eOp oGt (eB fLen (aCons (eVar 0) aNil)) (eC (.int (16)))))) (sRet (eC (.bl false))) sSkip) (sRet (eB fAll (aCons (eComp (aSeq (eVar 0) itSeq) 1 [] (.nm 0) tTrue (eAnd (eCall F_is_whole (aCons (eVar 0) aNil)) (eOp oGe (eVar 0) (eC (.int 1))))) aNil))))
noncomputable def F_is_row:FM:=fnM 1 m_is_row
noncomputable abbrev st_need_row_n:Stmt:=top 9
noncomputable def m_need_row_n:SM:=(sIf (PD.tNot (tV (eCall F_is_row (aCons (eVar 0) aNil)))) sBad sSkip)
noncomputable def F_need_row_n:FM:=fnM 1 m_need_row_n
noncomputable abbrev st_need_few_n:Stmt:=top 16
noncomputable def m_need_few_n:SM:=(sSeq (sDrop (eCall F_need_row_n (aCons (eVar 0) aNil))) (sIf (tV (eOp oGt (eB fLen (aCons (eVar 0) aNil)) (eC (.int (10))))) sBad sSkip))
noncomputable def F_need_few_n:FM:=fnM 1 m_need_few_n
noncomputable abbrev st_need_number_n:Stmt:=top 10
noncomputable def m_need_number_n:SM:=(sIf (PD.tNot (tV (eCall F_is_whole (aCons (eVar 0) aNil)))) sBad sSkip)
noncomputable def F_need_number_n:FM:=fnM 1 m_need_number_n
noncomputable abbrev st_need_row_and_number_n:Stmt:=top 11
noncomputable def m_need_row_and_number_n:SM:=(sSeq (sDrop (eCall F_need_row_n (aCons (eVar 0) aNil))) (sDrop (eCall F_need_number_n (aCons (eVar 1) aNil))))
noncomputable def F_need_row_and_number_n:FM:=fnM 2 m_need_row_and_number_n
noncomputable abbrev st_need_few_and_number_n:Stmt:=top 17
noncomputable def m_need_few_and_number_n:SM:=(sSeq (sDrop (eCall F_need_row_and_number_n (aCons (eVar 0) (aCons (eVar 1) aNil)))) (sDrop (eCall F_need_few_n (aCons (eVar 0) aNil))))
noncomputable def F_need_few_and_number_n:FM:=fnM 2 m_need_few_and_number_n
noncomputable abbrev st_layers_for_n:Stmt:=top 21
noncomputable def m_layers_for_n:SM:=(sSeq (sDrop (eCall F_need_few_and_number_n (aCons (eVar 0) (aCons (eVar 1) aNil)))) (sRet (eCall F_least_without (aCons (eVar 1) (aCons (eVar 0) (aCons (eC (.tup (([(-1),(1)]:List Int).map .int))) aNil))))))
noncomputable def F_layers_for_n:FM:=fnM 2 m_layers_for_n
noncomputable abbrev st_wide_layers_for_n:Stmt:=top 22
noncomputable def m_wide_layers_for_n:SM:=(sSeq (sDrop (eCall F_need_few_and_number_n (aCons (eVar 0) (aCons (eVar 1) aNil)))) (sRet (eCall F_least_without (aCons (eVar 1) (aCons (eVar 0) (aCons (eC (.tup (([(-1),(0),(1)]:List Int).map .int))) aNil))))))
noncomputable def F_wide_layers_for_n:FM:=fnM 2 m_wide_layers_for_n
noncomputable abbrev st_law:Stmt:=top 31
noncomputable def m_law:SM:=(sSeq (sFor (aRange1 (aCons (eB fMax (aCons (eC (.int 1)) (aCons (eB fMin (aCons (eB fLen (aCons (eVar 0) aNil)) (aCons (eC (.int 3)) aNil))) aNil))) aNil)) (.nm 1) (sSeq (sSet 2 (eCall F__law_box (aCons (eVar 0) (aCons (eVar 1) aNil)))) (sSeq (sSet 3 (eCall F__law_row (aCons (eVar 2) (aCons (eC (.int 6)) aNil)))) (sFor (aRange1 (aCons (eC (.int 3)) aNil)) (.nm 4) (sSeq (sSet 5 (eCall F__law_number (aCons (eVar 2) (aCons (eVar 3) aNil)))) (sFor (aRange1 (aCons (eC (.int 2)) aNil)) (.nm 6) (sSeq (sSet 7 (eCall F__law_layers (aCons (eVar 3) (aCons (eOp oIx (eLst (aCons (eTup (aCons (eUn oNeg (eC (.int 1))) (aCons (eC (.int 1)) aNil))) (aCons (eTup (aCons (eUn oNeg (eC (.int 1))) (aCons (eC (.int 0)) (aCons (eC (.int 1)) aNil)))) aNil))) (eVar 6)) aNil)))) (sSeq (sSet 8 (eOp oIx (eLst (aCons (eVar 7) (aCons (eC .non) aNil))) (eB fInt (aCons (eOp (oIn false) (eVar 5) (eOp oIx (eVar 7) (eUn oNeg (eC (.int 1))))) aNil)))) (sFor (aRange1 (aCons (eC (.int 2)) aNil)) (.nm 9) (sSeq (sSet 10 (eIf (tV (eOp oEqP (eVar 6) (eC (.int 0)))) (eCall F_layers_for_n (aCons (eVar 3) (aCons (eVar 5) aNil))) (eCall F_wide_layers_for_n (aCons (eVar 3) (aCons (eVar 5) aNil))))) (sSeq (sIf (tV (eOp oNeP (eB fReprS (aCons (eVar 10) aNil)) (eB fReprS (aCons (eVar 8) aNil)))) (sRet (eC (.bl false))) sSkip) (sIf (tV (eOp (oIsN true) (eVar 8) (eC .non))) (sDrop (eMtL mAppend (eVar 10) (aCons (eTup aNil) aNil))) sSkip)))))))))))) (sRet (eC (.bl true))))
noncomputable def F_law:FM:=fnM 11 m_law
structure Gr (b:Nat) (S S':Sto):Prop where
 bx:∃ n,S'[b]?=some (.lst [.int n])
 oth:∀ i,i ≠ b→i < S.length→S'[i]?=S[i]?
 len:S.length≤S'.length
theorem Gr.trans {b:Nat} {S S1 S2:Sto} (x:Gr b S S1) (y:Gr b S1 S2):Gr b S S2:=
 ⟨y.bx,fun i h l=>(y.oth i h (Nat.lt_of_lt_of_le l x.len)).trans (x.oth i h l),Nat.le_trans x.len y.len⟩
theorem Gr.self {b:Nat} {S S1:Sto} (x:Gr b S S1):Gr b S1 S1:=⟨x.bx,fun _ _ _=>rfl,Nat.le_refl _⟩
theorem Gr.more {b:Nat} {S S1:Sto} (x:Gr b S S1) (l:Sto):Gr b S (S1 ++ l):=by
 obtain ⟨n,hn⟩:=x.bx
 have hb:b < S1.length:=(List.getElem?_eq_some_iff.mp hn).1
 refine ⟨⟨n,by rw [List.getElem?_append_left hb]; exact hn⟩,fun i h hl=>?_,by rw [List.length_append]; have:=x.len; omega⟩
 rw [List.getElem?_append_left (Nat.lt_of_lt_of_le hl x.len)]
 exact x.oth i h hl
theorem take_eq {S:Sto} {b:Nat} {n many:Int} (h:S[b]?=some (.lst [.int n])) (h0:0 < many) (h1:many < 1073741824):F__law_take [.ref b,.int many] S=.ok (.int (n % many)) (S.set b (.lst [.int (n / many)])):=by
 simp [F__law_take,fnM,m__law_take,sSeq,sAsg,sPut,sRet,eB,eOp,eVar,eC,aCons,aNil,R.bind,R.of,oIx,seqOf,h,atI,ixN,fDivmod,h0,h1,G.put,G.puts,fPut]
theorem take_ok {S:Sto} {b:Nat} (h:Gr b S S) {many:Int} (h0:0 < many) (h1:many < 1073741824):∃ q S',F__law_take [.ref b,.int many] S=.ok (.int q) S'∧0≤q∧q < many∧Gr b S S':=by
 obtain ⟨n,hn⟩:=h.bx
 have hb:b < S.length:=(List.getElem?_eq_some_iff.mp hn).1
 refine ⟨_,_,take_eq hn h0 h1,Int.emod_nonneg _ (by omega),Int.emod_lt_of_pos _ h0,⟨n / many,by simp [hb]⟩,fun i hi _=>?_,by simp⟩
 rw [List.getElem?_set_ne (Ne.symm hi)]
theorem cell_eq (ns:List Int) (k:Nat) (S:Sto):F__law_cell [.fz (ns.map .int),.int k] S=.ok (.int (ns.getD k 0)) S:=by
 by_cases hk:k < ns.length
 ·simp [F__law_cell,fnM,m__law_cell,sSeq,sIf,sRet,sSkip,tV,eB,eOp,eVar,eC,aCons,aNil,R.bind,R.of,oIx,seqOf,atI,ixN,oCmp,fLen,hk]
 ·simp [F__law_cell,fnM,m__law_cell,sSeq,sIf,sRet,sSkip,tV,eB,eOp,eVar,eC,aCons,aNil,R.bind,R.of,oIx,seqOf,atI,ixN,oCmp,fLen,hk]
theorem at_map (L:List Int) (k:Nat) (h:k < L.length):atI (L.map D.int) (k:Int)=some (.int L[k]):=by
 have e:ixN (L.map D.int).length (k:Int)=some k:=by
  unfold ixN
  rw [if_pos (Int.natCast_nonneg k),List.length_map,if_pos (Int.ofNat_lt.mpr h),Int.toNat_natCast]
 unfold atI
 rw [e]
 show (L.map D.int)[k]?=_
 rw [List.getElem?_map,List.getElem?_eq_getElem h]
 rfl
theorem mix_ok (cell:Int) (j:Nat) (hj:j < 1000) (S:Sto):∃ m:Int,F__law_mix [.int cell,.int j] S=.ok (.int m) S:=by
 have hix:∃ x:Int,smallI x∧atI [D.int 48271,D.int 69621,D.int 16807,D.int 39373,D.int 30269,D.int 40014,D.int 40692,D.int 50021,D.int 61687,D.int 71993,D.int 83869,D.int 95561,D.int 30307] ((j:Int) % 13)=some (.int x):=by
  have hk:j % 13 < 13:=Nat.mod_lt _ (by decide)
  have ha:∀ x ∈ ([48271,69621,16807,39373,30269,40014,40692,50021,61687,71993,83869,95561,30307]:List Int),smallI x:=by decide
  exact ⟨_,ha _ (List.getElem_mem hk),at_map [48271,69621,16807,39373,30269,40014,40692,50021,61687,71993,83869,95561,30307] (j % 13) hk⟩
 obtain ⟨x,hx,hix⟩:=hix
 have h2:∀ y:Int,smallI (y % 1000000007):=fun y=>by
  have:=Int.emod_nonneg y (show (1000000007:Int) ≠ 0 by decide)
  have:=Int.emod_lt_of_pos y (show (0:Int) < 1000000007 by decide)
  exact ⟨by omega,by omega⟩
 have s1:smallI 977:=by decide
 have s2:smallI 7919:=by decide
 have s3:smallI 48271:=by decide
 have hz:(13:Nat)≤sizeLine:=by decide
 simp [F__law_mix,fnM,m__law_mix,sSeq,sSet,sRet,eLst,eOp,eVar,eC,aCons,aNil,R.bind,R.of,oIx,seqOf,oAdd,oMul,oMod,oFdiv,hix,hx,h2,s1,s2,s3,hz]
theorem box_loop (cell:Int):∀ (l:List Nat) (S:Sto) (a b:Option D) (n:Int) (j:Option D),(∀ i ∈ l,i < 1000)→∃ (n':Int) (j':Option D),
  forL (.nm 4) (sSet 3 (eOp oAdd (eOp oMul (eVar 3) (eC (.int 142857143))) (eCall F__law_mix (aCons (eVar 2) (aCons (eVar 4) aNil))))) (l.map fun (i:Nat)=>D.int i) [a,b,some (.int cell),some (.int n),j] S=.ok (.nx [a,b,some (.int cell),some (.int n'),j']) S
 | [],S,a,b,n,j,_=>⟨n,j,rfl⟩
 | i :: l,S,a,b,n,j,h=>by
  obtain ⟨m,hm⟩:=mix_ok cell i (h i List.mem_cons_self) S
  have s1:smallI 142857143:=by decide
  obtain ⟨n',j',e⟩:=box_loop cell l S a b (n * 142857143 + m) (some (.int i)) fun x hx=>h x (List.mem_cons_of_mem _ hx)
  refine ⟨n',j',?_⟩
  simp only [List.map_cons,forL,G.put]
  simp [sSet,eOp,eVar,eC,eCall,aCons,aNil,R.bind,R.of,oAdd,oMul,hm,s1]
  exact e
theorem box_ok (ns:List Int) (k:Nat) (S:Sto):∃ v:Int,F__law_box [.fz (ns.map .int),.int k] S=.ok (.ref S.length) (S ++ [.lst [.int v]]):=by
 have hz:(1:Nat)≤sizeLine:=by decide
 have hc':=cell_eq ns k S
 generalize ns.getD k 0=c at hc'
 by_cases hc:c % 2=0
 ·refine ⟨(if c < 0 then -c else c) / 2,?_⟩
  simp [F__law_box,fnM,m__law_box,sSeq,sSet,sIf,sRet,sSkip,tV,eNew,eB,eCall,eOp,eVar,eC,aCons,aNil,R.bind,R.of,hc',oMod,oEqP,eqP,eqS,hc,fAbs,oFdiv,hz]
 ·obtain ⟨n',j',e⟩:=box_loop c (List.range 40) S (some (.fz (ns.map .int))) (some (.int k)) 0 none (fun i hi=>by have:=List.mem_range.mp hi; omega)
  refine ⟨n',?_⟩
  have hr:(40:Int).toNat=40:=rfl
  simp [F__law_box,fnM,m__law_box,sSeq,sSet,sIf,sRet,sSkip,tV,eNew,eB,eCall,eOp,eVar,eC,aCons,aNil,R.bind,R.of,hc',oMod,oEqP,eqP,eqS,hc,sFor,aRange1,hz]
  rw [e]
  simp [sRet,hz]
noncomputable def okN (x:Int):Prop:=1≤x∧x < 1000000000000000
noncomputable abbrev rowBody:SM:=(sSeq (sSet 7 (eOp oAdd (eC (.int 1)) (eCall F__law_take (aCons (eVar 0) (aCons (eC (.int 12)) aNil))))) (sSeq (sSet 8 (eLst (aCons (eVar 7) (aCons (eVar 7) (aCons (eVar 4) (aCons (eOp oShl (eC (.int 1)) (eVar 6)) (aCons (eOp oAdd (eVar 4) (eOp oMul (eVar 6) (eVar 7))) (aCons (eOp oMul (eVar 7) (eVar 7)) (aCons (eOp oAdd (eOp oMul (eOp oPow (eC (.int 10)) (eC (.int 12))) (eVar 7)) (eVar 7)) aNil))))))))) (sDrop (eMtL mAppend (eVar 5) (aCons (eOp oIx (eLst (aCons (eOp oIx (eVar 8) (eVar 3)) (aCons (eOp oMul (eVar 4) (eVar 7)) aNil))) (eB fInt (aCons (eOp oEqP (eCall F__law_take (aCons (eVar 0) (aCons (eC (.int 9)) aNil))) (eC (.int 8))) aNil))) aNil)))))
theorem row_eval {S S1 S2:Sto} {b f:Nat} {kind base i q q' G P T y:Int} {M1 M2 M3 M4:Int} {xs:List D} {r1 r2 r7 r8:Option D} (e1:F__law_take [.ref b,.int 12] S=.ok (.int q) S1) (e2:F__law_take [.ref b,.int 9] S1=.ok (.int q') S2) (hG:1 + q=G)
  (hf1:S1[f]?=some (.lst xs)) (hf2:S2[f]?=some (.lst xs)) (zl:xs.length < sizeLine)
  (eShl:∀ S:Sto,oShl S (.int 1) (.int i)=some (.int P)) (ePow:∀ S:Sto,oPow S (.int 10) (.int 12)=some (.int T)) (eM1:∀ S:Sto,oMul S (.int i) (.int G)=some (.int M1)) (eM2:∀ S:Sto,oMul S (.int G) (.int G)=some (.int M2)) (eM3:∀ S:Sto,oMul S (.int base) (.int G)=some (.int M3)) (eM4:∀ S:Sto,oMul S (.int T) (.int G)=some (.int M4))
  (hix:atI [D.int G,D.int G,D.int base,D.int P,D.int (base + M1),D.int M2,D.int (M4 + G)] kind=some (.int y)):
  rowBody [some (.ref b),r1,r2,some (.int kind),some (.int base),some (.ref f),some (.int i),r7,r8] S=.ok (.nx [some (.ref b),r1,r2,some (.int kind),some (.int base),some (.ref f),some (.int i),some (.int G),some (.lst [D.int G,D.int G,D.int base,D.int P,D.int (base + M1),D.int M2,D.int (M4 + G)])]) (S2.set f (.lst (xs ++ [.int (if q'=8 then M3 else y)]))):=by
 have z7:(7:Nat)≤sizeLine:=by decide
 have z2:(2:Nat)≤sizeLine:=by decide
 have hA0:∀ a b:D,atI [a,b] 0=some a:=fun _ _=>rfl
 have hA1:∀ a b:D,atI [a,b] 1=some b:=fun _ _=>rfl
 by_cases h8:q'=8
 ·simp only [rowBody,sSeq,sSet,sDrop,eMtL,eLst,eB,eCall,eOp,eVar,eC,aCons,aNil,R.bind,R.of,e1,hG,eShl,ePow,eM1,eM2,eM3,eM4,oAdd,isL,hf1,oIx,seqOf,hix,e2,oEqP,eqP,eqS,h8,fInt,hA0,hA1,mAppend,hf2,zl,List.length_cons,List.length_nil,List.getElem?_cons_zero,List.getElem?_cons_succ,List.set_cons_zero,List.set_cons_succ,if_true,Nat.reduceAdd,decide_true,Option.map_some,z7,z2]
 ·simp only [rowBody,sSeq,sSet,sDrop,eMtL,eLst,eB,eCall,eOp,eVar,eC,aCons,aNil,R.bind,R.of,e1,hG,eShl,ePow,eM1,eM2,eM3,eM4,oAdd,isL,hf1,oIx,seqOf,hix,e2,oEqP,eqP,eqS,h8,fInt,hA0,hA1,mAppend,hf2,zl,List.length_cons,List.length_nil,List.getElem?_cons_zero,List.getElem?_cons_succ,List.set_cons_zero,List.set_cons_succ,if_true,Nat.reduceAdd,decide_true,decide_false,if_false,Bool.false_eq_true,Option.map_some,z7,z2]
theorem row_turn {S0 S:Sto} {b f i:Nat} {kind base:Int} {xs:List Int} {r1 r2 r7 r8:Option D} (hi:i < 16) (hk:0≤kind∧kind < 7) (hb:1≤base∧base < 10) (g:Gr b S0 S) (hf:S[f]?=some (.lst (xs.map .int))) (hfb:f ≠ b) (hf0:S0.length≤f) (hl:xs.length < 1000):
  ∃ (y:Int) (S':Sto) (r7' r8':Option D),rowBody [some (.ref b),r1,r2,some (.int kind),some (.int base),some (.ref f),some (.int i),r7,r8] S=.ok (.nx [some (.ref b),r1,r2,some (.int kind),some (.int base),some (.ref f),some (.int i),r7',r8']) S'∧
   okN y∧S'[f]?=some (.lst ((xs ++ [y]).map .int))∧Gr b S0 S':=by
 obtain ⟨q,S1,e1,q0,q1,g1⟩:=take_ok g.self (many:=12) (by decide) (by decide)
 obtain ⟨q',S2,e2,q0',q1',g2⟩:=take_ok g1.self (many:=9) (by decide) (by decide)
 have hfl:f < S.length:=(List.getElem?_eq_some_iff.mp hf).1
 have hf1:S1[f]?=some (.lst (xs.map .int)):=by rw [g1.oth f hfb hfl]; exact hf
 have hf2:S2[f]?=some (.lst (xs.map .int)):=by rw [g2.oth f hfb (Nat.lt_of_lt_of_le hfl g1.len)]; exact hf1
 have hfl2:f < S2.length:=(List.getElem?_eq_some_iff.mp hf2).1
 generalize hG:(1:Int) + q=G
 have hG0:1≤G∧G≤12:=by omega
 have sG:smallI G:=⟨by omega,by omega⟩
 have sB:smallI base:=⟨by omega,by omega⟩
 have sI:smallI (i:Int):=⟨by omega,by omega⟩
 have m1:(i:Int) * G≤15 * 12:=Int.mul_le_mul (by omega) hG0.2 (by omega) (by omega)
 have m1':0≤(i:Int) * G:=Int.mul_nonneg (by omega) (by omega)
 have m2:G * G≤12 * 12:=Int.mul_le_mul hG0.2 hG0.2 (by omega) (by omega)
 have m2':1 * 1≤G * G:=Int.mul_le_mul hG0.1 hG0.1 (by omega) (by omega)
 have m3:base * G≤9 * 12:=Int.mul_le_mul (by omega) hG0.2 (by omega) (by omega)
 have m3':1 * 1≤base * G:=Int.mul_le_mul hb.1 hG0.1 (by omega) (by omega)
 have m4:(2:Int) ^ i≤32768:=by
  have h:=Nat.pow_le_pow_right (n:=2) (by decide) (show i≤15 by omega)
  have h':((2 ^ i:Nat):Int)≤((2 ^ 15:Nat):Int):=by exact_mod_cast h
  simpa using h'
 have m4':1≤(2:Int) ^ i:=by
  have h:=Nat.one_le_two_pow (n:=i)
  have h':(1:Int)≤((2 ^ i:Nat):Int):=by exact_mod_cast h
  simpa using h'
 have hix:∃ y:Int,okN y∧atI [D.int G,D.int G,D.int base,D.int (2 ^ i),D.int (base + (i:Int) * G),D.int (G * G),D.int (1000000000000 * G + G)] kind=some (.int y):=by
  have h:kind=0 ∨ kind=1 ∨ kind=2 ∨ kind=3 ∨ kind=4 ∨ kind=5 ∨ kind=6:=by omega
  rcases h with h | h | h | h | h | h | h <;> subst h
  ·exact ⟨_,⟨by omega,by omega⟩,rfl⟩
  ·exact ⟨_,⟨by omega,by omega⟩,rfl⟩
  ·exact ⟨_,⟨by omega,by omega⟩,rfl⟩
  ·exact ⟨_,⟨m4',by omega⟩,rfl⟩
  ·exact ⟨_,⟨by omega,by omega⟩,rfl⟩
  ·exact ⟨_,⟨by omega,by omega⟩,rfl⟩
  ·exact ⟨_,⟨by omega,by omega⟩,rfl⟩
 obtain ⟨y,hy,hix⟩:=hix
 have hev:=row_eval (r1:=r1) (r2:=r2) (r7:=r7) (r8:=r8) (base:=base) (i:=(i:Int)) e1 e2 hG hf1 hf2 (by rw [List.length_map]; exact Nat.lt_trans hl (by decide)) (fun S=>oShl_i (by omega)) (fun S=>oPow_10_12) (fun S=>oMul_i (.inl sI)) (fun S=>oMul_i (.inl sG)) (fun S=>oMul_i (.inl sB)) (fun S=>oMul_i (.inr sG)) hix
 have hy':okN (if q'=8 then base * G else y):=by
  split
  ·exact ⟨by omega,by omega⟩
  ·exact hy
 have g02:=(g.trans g1).trans g2
 obtain ⟨n,hn⟩:=g02.bx
 refine ⟨_,_,_,_,hev,hy',by rw [List.map_append]; simp [hfl2],⟨n,by rw [List.getElem?_set_ne hfb]; exact hn⟩,fun j hj hl=>?_,by simp; exact g02.len⟩
 rw [List.getElem?_set_ne (by omega)]
 exact g02.oth j hj hl
theorem row_loop {S0:Sto} {b f:Nat} {kind base:Int} {r1 r2:Option D} (hk:0≤kind∧kind < 7) (hb:1≤base∧base < 10) (hfb:f ≠ b) (hf0:S0.length≤f):∀ (l:List Nat) (S:Sto) (xs:List Int) (r6 r7 r8:Option D),(∀ i ∈ l,i < 16)→Gr b S0 S→S[f]?=some (.lst (xs.map .int))→xs.length + l.length < 1000→(∀ x ∈ xs,okN x)→
  ∃ (ys:List Int) (S':Sto) (r6' r7' r8':Option D),forL (.nm 6) rowBody (l.map fun (i:Nat)=>D.int i) [some (.ref b),r1,r2,some (.int kind),some (.int base),some (.ref f),r6,r7,r8] S=.ok (.nx [some (.ref b),r1,r2,some (.int kind),some (.int base),some (.ref f),r6',r7',r8']) S'∧
   ys.length=xs.length + l.length∧(∀ y ∈ ys,okN y)∧S'[f]?=some (.lst (ys.map .int))∧Gr b S0 S'
 | [],S,xs,r6,r7,r8,_,g,hf,_,hx=>⟨xs,S,r6,r7,r8,rfl,rfl,hx,hf,g⟩
 | i :: l,S,xs,r6,r7,r8,hl,g,hf,hz,hx=>by
  rw [List.length_cons] at hz
  obtain ⟨y,S1,r7',r8',e,hy,hf1,g1⟩:=row_turn (r1:=r1) (r2:=r2) (r7:=r7) (r8:=r8) (hl i List.mem_cons_self) hk hb g hf hfb hf0 (by omega)
  obtain ⟨ys,S2,a6,a7,a8,e2,h1,h2,h3,h4⟩:=row_loop hk hb hfb hf0 l S1 (xs ++ [y]) (some (.int i)) r7' r8' (fun j hj=>hl j (List.mem_cons_of_mem _ hj)) g1 hf1 (by rw [List.length_append,List.length_cons,List.length_nil]; omega) (fun x h=>by
   rcases List.mem_append.mp h with h | h
   ·exact hx x h
   ·rw [List.mem_singleton.mp h]; exact hy)
  refine ⟨ys,S2,a6,a7,a8,?_,by rw [h1,List.length_append,List.length_cons,List.length_nil,List.length_cons]; omega,h2,h3,h4⟩
  rw [List.map_cons,forL]
  simp only [G.put,List.set_cons_zero,List.set_cons_succ,e,R.bind_ok]
  exact e2
theorem row_ok {S:Sto} {b:Nat} {most:Int} (g:Gr b S S) (hm:0≤most∧most≤16):∃ (xs:List Int) (S':Sto),F__law_row [.ref b,.int most] S=.ok (.tup (xs.map .int)) S'∧(xs.length:Int)≤most∧(∀ x ∈ xs,okN x)∧Gr b S S':=by
 obtain ⟨many,S1,e1,a0,a1,g1⟩:=take_ok g (many:=most + 1) (by omega) (by omega)
 obtain ⟨kind,S2,e2,b0,b1,g2⟩:=take_ok g1.self (many:=7) (by decide) (by decide)
 obtain ⟨bs,S3,e3,c0,c1,g3⟩:=take_ok g2.self (many:=9) (by decide) (by decide)
 have gs:=(g1.trans g2).trans g3
 obtain ⟨n0,hn0⟩:=gs.bx
 have hb3:b < S3.length:=(List.getElem?_eq_some_iff.mp hn0).1
 obtain ⟨ys,S4,r6,r7,r8,e4,h1,h2,h3,h4⟩:=row_loop (S0:=S) (b:=b) (f:=S3.length) (kind:=kind) (base:=1 + bs) (r1:=some (.int most)) (r2:=some (.int many)) ⟨b0,b1⟩ ⟨by omega,by omega⟩ (by omega) gs.len (List.range many.toNat) (S3 ++ [.lst []]) [] none none none (fun i hi=>by have:=List.mem_range.mp hi; omega) (gs.more _) (by simp) (by simp; omega) (fun x h=>nomatch h)
 refine ⟨ys,S4,?_,by rw [h1]; simp; omega,h2,h4⟩
 have z0:(0:Nat)≤sizeLine:=Nat.zero_le _
 have hr:many < 2 ^ 62∧-(2 ^ 62)≤many:=⟨by omega,by omega⟩
 simp only [F__law_row,fnM,m__law_row,sSeq,sSet,sFor,aRange1,eNew,eCall,eOp,eVar,eC,aCons,aNil,R.bind,R.of,oAdd,e1,e2,e3,List.map_cons,List.map_nil,List.length_cons,List.length_nil,List.cons_append,List.nil_append,Nat.reduceAdd,Nat.reduceSub,List.replicate,List.getElem?_cons_zero,List.getElem?_cons_succ,List.set_cons_zero,List.set_cons_succ,z0,if_true,hr,and_self]
 rw [show (sSeq (sSet 7 (eOp oAdd (eC (.int 1)) (eCall F__law_take (aCons (eVar 0) (aCons (eC (.int 12)) aNil))))) _)=rowBody from rfl,e4]
 simp only [sRet,eB,aCons,aNil,eVar,R.bind,R.of,List.getElem?_cons_zero,List.getElem?_cons_succ,fTuple,seqOf,h3,Option.map_some]
noncomputable def shal:D→Bool
 | .fz _=>false
 | .ref _=>false
 | .ty _=>false
 | .exc _=>false
 | .cls _=>false
 | _=>true
noncomputable def isI:D→Bool
 | .int _=>true
 | _=>false
theorem whole_eq {d:D} {S:Sto} (h:shal d=true):F_is_whole [d] S=.ok (.bl (isI d)) S:=by
 cases d <;> first | (cases h; done) | (simp [F_is_whole,fnM,m_is_whole,sRet,eAnd,eNot,eB,eVar,eC,aCons,aNil,R.bind,R.of,fIsi,tyD,isiTys,isI])
noncomputable def rowOk:D→Bool
 | .int i=>decide (1≤i)
 | _=>false
theorem boolsOf_map {A:Type} (f:A→Bool):∀ xs:List A,boolsOf (xs.map fun x=>D.bl (f x))=some (xs.map f)
 | []=>rfl
 | x :: xs=>by rw [List.map_cons,boolsOf,boolsOf_map f xs]; rfl
theorem comp_bool {e:EM} {f:D→Bool} {tl:Rho}:∀ (xs:List D) (r0:Option D) (S:Sto),(∀ x ∈ xs,e (some x :: tl) S=.ok (.bl (f x)) S)→compL (.nm 0) tTrue e xs (r0 :: tl) S=.ok (xs.map fun x=>D.bl (f x)) S
 | [],_,_,_=>rfl
 | x :: xs,r0,S,h=>by
  have h1:=h x List.mem_cons_self
  have h2:=comp_bool xs (some x) S fun y hy=>h y (List.mem_cons_of_mem _ hy)
  rw [compL]
  simp only [G.put,List.set_cons_zero,tTrue,R.bind_ok,if_true,h1,h2,List.map_cons]
noncomputable def isRow:D→Bool
 | .tup xs=>decide (xs.length≤16) && xs.all rowOk
 | _=>false
noncomputable def Okay (d:D):Prop:=shal d=true∧∀ xs,d=.tup xs→(∀ x ∈ xs,shal x=true)∧xs.length≤1000
theorem row_el {x:D} {S:Sto} (h:shal x=true):(eAnd (eCall F_is_whole (aCons (eVar 0) aNil)) (eOp oGe (eVar 0) (eC (.int 1)))) [some x] S=.ok (.bl (rowOk x)) S:=by
 have:=whole_eq (S:=S) h
 cases x <;> first | (cases h; done) | (simp [eAnd,eCall,eOp,eVar,eC,aCons,aNil,R.bind,R.of,this,isI,rowOk,oCmp])
theorem isrow_eq {d:D} {S:Sto} (h:Okay d):F_is_row [d] S=.ok (.bl (isRow d)) S:=by
 cases d with
 | tup xs=>
  obtain ⟨hs,hl⟩:=h.2 xs rfl
  have hc:=comp_bool (tl:=[]) (f:=rowOk) xs none S fun x hx=>row_el (hs x hx)
  have z:xs.length≤sizeLine:=Nat.le_trans hl (by decide)
  by_cases h16:xs.length≤16
  ·have h16':¬ (16:Int) < (xs.length:Int):=by omega
   simp only [F_is_row,fnM,m_is_row,sSeq,sIf,sRet,sSkip,PD.tOr,PD.tNot,tV,eB,eComp,aSeq,itSeq,capOf,eOp,eVar,eC,aCons,aNil,R.bind,R.of,fIsi,tyD,fLen,seqOf,oCmp,fAll,List.map_cons,List.map_nil,List.length_cons,List.length_nil,List.replicate,List.cons_append,List.nil_append,List.append_nil,Nat.reduceAdd,Nat.reduceSub,List.getElem?_cons_zero,h16',decide_false,Bool.false_eq_true,if_false,z,if_true,hc,boolsOf_map,Option.map_some,isRow,h16,decide_true,Bool.true_and]
   simp [isiTys]
   simp [z,hc,boolsOf_map,fAll,R.of,R.bind,sRet,eB,aCons]
  ·have h16':(16:Int) < (xs.length:Int):=by omega
   simp [F_is_row,fnM,m_is_row,sSeq,sIf,sRet,sSkip,PD.tOr,PD.tNot,tV,eB,eOp,eVar,eC,aCons,aNil,R.bind,R.of,fIsi,tyD,fLen,seqOf,oCmp,isiTys,isRow,h16,h16']
 | _=>first | (cases h.1; done) | (simp [F_is_row,fnM,m_is_row,sSeq,sIf,sRet,sSkip,PD.tOr,PD.tNot,tV,eB,eOp,eVar,eC,aCons,aNil,R.bind,R.of,fIsi,tyD,isiTys,isRow])
theorem oEqP_i {S:Sto} {i j:Int}:oEqP S (.int i) (.int j)=some (.bl (decide (i=j))):=rfl
theorem sSeq_go {a b:SM} {r r1:Rho} {S S1:Sto} (h:a r S=.ok (.nx r1) S1):sSeq a b r S=b r1 S1:=by
 unfold sSeq
 rw [h]
 rfl
noncomputable def Row (xs:List Int):Prop:=(∀ x ∈ xs,1≤x)∧xs.length≤16
theorem ints_okay {xs:List Int} (h:xs.length≤1000):Okay (.tup (xs.map .int)):=⟨rfl,fun ys e=>by
 cases e
 refine ⟨fun x hx=>?_,by rw [List.length_map]; exact h⟩
 obtain ⟨i,_,rfl⟩:=List.mem_map.mp hx
 rfl⟩
theorem Row.okay {xs:List Int} (h:Row xs):Okay (.tup (xs.map .int)):=ints_okay (by have:=h.2; omega)
theorem Row.is {xs:List Int} (h:Row xs):isRow (.tup (xs.map .int))=true:=by
 unfold isRow
 rw [Bool.and_eq_true]
 refine ⟨by rw [List.length_map]; exact decide_eq_true h.2,List.all_eq_true.mpr fun x hx=>?_⟩
 obtain ⟨i,hi,rfl⟩:=List.mem_map.mp hx
 exact decide_eq_true (h.1 i hi)
theorem sFor_go {it:AM} {g:PD.G} {b:SM} {r:Rho} {S S1:Sto} {xs:List D} (h:it r S=.ok xs S1):sFor it g b r S=forL g b xs r S1:=by unfold sFor; rw [h,R.bind_ok]
theorem fnM_rt {n:Nat} {b:SM} {ds:List D} {ρ:Rho} {S S1:Sto} {d:D} (hρ:ds.map some ++ List.replicate (n - ds.length) none = ρ) (h:b ρ S=.ok (.rt d) S1):fnM n b ds S=.ok d S1:=by unfold fnM; rw [hρ,h,R.bind_ok]
theorem fnM_nx {n:Nat} {b:SM} {ds:List D} {ρ ρ':Rho} {S S1:Sto} (hρ:ds.map some ++ List.replicate (n - ds.length) none = ρ) (h:b ρ S=.ok (.nx ρ') S1):fnM n b ds S=.ok .non S1:=by unfold fnM; rw [hρ,h,R.bind_ok]
theorem sSet_go {i:Nat} {a:EM} {r:Rho} {S S1:Sto} {d:D} (h:a r S=.ok d S1):sSet i a r S=.ok (.nx (r.set i (some d))) S1:=by unfold sSet; rw [h,R.bind_ok]
theorem sRet_go {a:EM} {r:Rho} {S S1:Sto} {d:D} (h:a r S=.ok d S1):sRet a r S=.ok (.rt d) S1:=by unfold sRet; rw [h,R.bind_ok]
theorem sIf_t {t:TM} {a b:SM} {r:Rho} {S S1:Sto} (h:t r S=.ok true S1):sIf t a b r S=a r S1:=by unfold sIf; rw [h,R.bind_ok]; exact if_pos rfl
theorem sIf_f {t:TM} {a b:SM} {r:Rho} {S S1:Sto} (h:t r S=.ok false S1):sIf t a b r S=b r S1:=by unfold sIf; rw [h,R.bind_ok]; exact if_neg Bool.false_ne_true
theorem sDrop_go {a:EM} {r:Rho} {S S1:Sto} {d:D} (h:a r S=.ok d S1):sDrop a r S=.ok (.nx r) S1:=by unfold sDrop; rw [h,R.bind_ok]
theorem forL_cons {g:PD.G} {b:SM} {x:D} {xs:List D} {r r1 r2:Rho} {S S1:Sto} (hp:g.put x r=some r1) (h:b r1 S=.ok (.nx r2) S1):forL g b (x :: xs) r S=forL g b xs r2 S1:=by rw [forL]; simp only [hp,h,R.bind_ok]
theorem eCall_go {f:FM} {t:AM} {r:Rho} {S S1:Sto} {xs:List D} (h:t r S=.ok xs S1):eCall f t r S=f xs S1:=by unfold eCall; rw [h,R.bind_ok]
theorem sFor_seq {a:EM} {g:PD.G} {b:SM} {r:Rho} {S S1:Sto} {d:D} {xs:List D} (h:a r S=.ok d S1) (hi:itSeq S1 d=some xs):sFor (aSeq a itSeq) g b r S=forL g b xs r S1:=sFor_go (by unfold aSeq; rw [h,R.bind_ok,hi]; rfl)
theorem eOp_go {f:Sto→D→D→Option D} {a b:EM} {r:Rho} {S S1 S2:Sto} {x y z:D} (h1:a r S=.ok x S1) (h2:b r S1=.ok y S2) (h3:f S2 x y=some z):eOp f a b r S=.ok z S2:=by unfold eOp; rw [h1,R.bind_ok,h2,R.bind_ok,h3]; rfl
theorem eB_go {f:Sto→List D→Option D} {t:AM} {r:Rho} {S S1:Sto} {xs:List D} {z:D} (h1:t r S=.ok xs S1) (h3:f S1 xs=some z):eB f t r S=.ok z S1:=by unfold eB; rw [h1,R.bind_ok,h3]; rfl
theorem aCons_go {a:EM} {t:AM} {r:Rho} {S S1 S2:Sto} {x:D} {xs:List D} (h1:a r S=.ok x S1) (h2:t r S1=.ok xs S2):aCons a t r S=.ok (x :: xs) S2:=by unfold aCons; rw [h1,R.bind_ok,h2,R.bind_ok]
theorem tV_go {a:EM} {r:Rho} {S S1:Sto} {b:Bool} (h:a r S=.ok (.bl b) S1):tV a r S=.ok b S1:=by unfold tV; rw [h,R.bind_ok]
theorem eMtL_go {f:Sto→D→List D→R D} {o:EM} {t:AM} {r:Rho} {S S1 S2:Sto} {x:D} {ys:List D} (h1:o r S=.ok x S1) (hl:isL S1 x=true) (h2:t r S1=.ok ys S2):eMtL f o t r S=f S2 x ys:=by unfold eMtL; rw [h1,R.bind_ok,if_pos hl,h2,R.bind_ok]
theorem eIf_t {t:TM} {a b:EM} {r:Rho} {S S1:Sto} (h:t r S=.ok true S1):eIf t a b r S=a r S1:=by unfold eIf; rw [h,R.bind_ok]; exact if_pos rfl
theorem eIf_f {t:TM} {a b:EM} {r:Rho} {S S1:Sto} (h:t r S=.ok false S1):eIf t a b r S=b r S1:=by unfold eIf; rw [h,R.bind_ok]; exact if_neg Bool.false_ne_true
theorem big62 {n:Int} (h0:0≤n) (h:n≤100000):n < 2 ^ 62∧-(2 ^ 62)≤n:=⟨by omega,by omega⟩
theorem aRange1_int {t:AM} {r:Rho} {S S1:Sto} {m:Int} (h:t r S=.ok [.int m] S1) (h0:0≤m) (h1:m≤100000):aRange1 t r S=.ok ((List.range m.toNat).map fun (i:Nat)=>D.int i) S1:=by
 have hr:=big62 h0 h1
 simp only [aRange1,h,R.bind,if_pos hr]
theorem aRange1_ok {t:AM} {r:Rho} {S S1:Sto} {n:Nat} (h:t r S=.ok [.int (n:Int)] S1) (hn:n≤100000):aRange1 t r S=.ok ((List.range n).map fun (i:Nat)=>D.int i) S1:=
 aRange1_int h (Int.natCast_nonneg n) (Int.ofNat_le.mpr hn)
theorem intsOf_map:∀ xs:List Int,intsOf (xs.map .int)=some xs
 | []=>rfl
 | x :: xs=>by rw [List.map_cons,intsOf,intsOf_map xs]; rfl
theorem fSum_t {S:Sto} {xs:List Int}:fSum S [.tup (xs.map .int)]=some (.int xs.sum):=by
 simp only [fSum,seqOf,intsOf_map,Option.map_some]
theorem comp_map {A:Type} {enc out:A→D} {e:EM} {tl:Rho} {S:Sto}:∀ (xs:List A) (r0:Option D),(∀ x ∈ xs,e (some (enc x) :: tl) S=.ok (out x) S)→compL (.nm 0) tTrue e (xs.map enc) (r0 :: tl) S=.ok (xs.map out) S
 | [],_,_=>rfl
 | x :: xs,r0,h=>by
  have h1:=h x List.mem_cons_self
  have h2:=comp_map (out:=out) xs (some (enc x)) fun y hy=>h y (List.mem_cons_of_mem _ hy)
  rw [List.map_cons,compL]
  simp only [G.put,List.set_cons_zero,tTrue,R.bind_ok,if_true,h1,h2,List.map_cons]
theorem eComp_map {A:Type} {enc out:A→D} {e:EM} {it:AM} {caps:List Nat} {tl r:Rho} {S:Sto} (xs:List A) (hi:it r S=.ok (xs.map enc) S) (hl:xs.length≤sizeLine) (hc:caps.map (fun i=>(r[i]?).join)=tl) (h:∀ x ∈ xs,e (some (enc x) :: tl) S=.ok (out x) S):eComp it 1 caps (.nm 0) tTrue e r S=.ok (.lst (xs.map out)) S:=by
 unfold eComp
 rw [hi,R.bind_ok,if_pos (by rw [List.length_map]; exact hl)]
 have:capOf 1 caps r=none :: tl:=by unfold capOf; rw [hc]; rfl
 rw [this,comp_map (out:=out) xs none h,R.bind_ok]
theorem eVar_go {i:Nat} {r:Rho} {S:Sto} {d:D} (h:r[i]?=some (some d)):eVar i r S=.ok d S:=by
 unfold eVar; rw [h]
theorem eTup_go {t:AM} {r:Rho} {S S1:Sto} {xs:List D} (h:t r S=.ok xs S1) (hl:xs.length≤sizeLine):eTup t r S=.ok (.tup xs) S1:=by unfold eTup; rw [h,R.bind_ok,if_pos hl]
theorem eLst_go {t:AM} {r:Rho} {S S1:Sto} {xs:List D} (h:t r S=.ok xs S1) (hl:xs.length≤sizeLine):eLst t r S=.ok (.lst xs) S1:=by unfold eLst; rw [h,R.bind_ok,if_pos hl]
noncomputable def Wo (K:List Int):List Int→Int→Prop
 | [],v=>v=0
 | x :: xs,v=>∃ q ∈ K,Wo K xs (v - x * q)
noncomputable def Kd (K:List Int):Prop:=∀ q ∈ K,q = -1 ∨ q=0 ∨ q=1
theorem Wo_bd {K:List Int} (hK:Kd K):∀ {xs:List Int} {v:Int},(∀ x ∈ xs,1≤x)→Wo K xs v→-xs.sum≤v∧v≤xs.sum
 | [],v,_,h=>by
  have:v=0:=h
  simp [this]
 | x :: xs,v,hx,⟨q,hq,h⟩=>by
  have h1:=Wo_bd hK (fun y hy=>hx y (.tail _ hy)) h
  have h2:=hx x (.head _)
  rw [List.sum_cons]
  rcases hK q hq with rfl | rfl | rfl <;> omega
noncomputable abbrev KP:List Int:=[-1,0,1]
noncomputable abbrev KS:List Int:=[-1,1]
theorem kdP:Kd KP:=fun q hq=>by simp only [KP,List.mem_cons,List.not_mem_nil,or_false] at hq; omega
theorem kdS:Kd KS:=fun q hq=>by simp only [KS,List.mem_cons,List.not_mem_nil,or_false] at hq; omega
noncomputable def wor:List Int→List Int→Int
 | x :: xs,q :: p=>x * q + wor xs p
 | _,_=>0
noncomputable def ext (K:List Int) (f:List (List Int)):List (List Int):=f.flatMap fun p=>K.map fun k=>p ++ [k]
noncomputable def allL (K:List Int):Nat→List (List Int)
 | 0=>[[]]
 | n + 1=>ext K (allL K n)
theorem allL_mem {K:List Int}:∀ (n:Nat) (p:List Int),p ∈ allL K n↔p.length=n∧∀ q ∈ p,q ∈ K
 | 0,p=>by
  simp only [allL,List.mem_singleton]
  constructor
  ·rintro rfl; exact ⟨rfl,fun q h=>nomatch h⟩
  ·rintro ⟨h,_⟩; exact List.length_eq_zero_iff.mp h
 | n + 1,p=>by
  simp only [allL,ext,List.mem_flatMap,List.mem_map]
  constructor
  ·rintro ⟨p',h',k,hk,rfl⟩
   obtain ⟨h1,h2⟩:=(allL_mem n p').mp h'
   refine ⟨by simp [h1],fun q hq=>?_⟩
   rcases List.mem_append.mp hq with hq | hq
   ·exact h2 q hq
   ·rw [List.mem_singleton.mp hq]; exact hk
  ·rintro ⟨h1,h2⟩
   have hne:p ≠ []:=fun h=>by rw [h] at h1; cases h1
   refine ⟨p.dropLast,(allL_mem n _).mpr ⟨by rw [List.length_dropLast,h1]; rfl,fun q hq=>h2 q ((List.dropLast_sublist p).subset hq)⟩,p.getLast hne,h2 _ (List.getLast_mem hne),List.dropLast_concat_getLast hne⟩
theorem Wo_iff {K:List Int}:∀ (xs:List Int) (v:Int),Wo K xs v↔∃ p,(p.length=xs.length∧∀ q ∈ p,q ∈ K)∧wor xs p=v
 | [],v=>by
  constructor
  ·intro h; exact ⟨[],⟨rfl,fun q h=>nomatch h⟩,(show v=0 from h).symm⟩
  ·rintro ⟨p,⟨h,_⟩,e⟩
   cases List.length_eq_zero_iff.mp h
   exact e.symm
 | x :: xs,v=>by
  constructor
  ·rintro ⟨q,hq,h⟩
   obtain ⟨p,⟨h1,h2⟩,e⟩:=(Wo_iff xs _).mp h
   refine ⟨q :: p,⟨by simp [h1],fun r hr=>?_⟩,by show x * q + wor xs p=v; omega⟩
   rcases List.mem_cons.mp hr with rfl | hr
   ·exact hq
   ·exact h2 r hr
  ·rintro ⟨p,⟨h1,h2⟩,e⟩
   cases p with
   | nil=>cases h1
   | cons q p=>
    refine ⟨q,h2 q (.head _),(Wo_iff xs _).mpr ⟨p,⟨by simpa using h1,fun r hr=>h2 r (.tail _ hr)⟩,?_⟩⟩
    have e':x * q + wor xs p=v:=e
    omega
theorem Wo_all {K xs:List Int} {v:Int}:Wo K xs v↔∃ p ∈ allL K xs.length,wor xs p=v:=by
 rw [Wo_iff]
 constructor
 ·rintro ⟨p,h,e⟩; exact ⟨p,(allL_mem _ _).mpr h,e⟩
 ·rintro ⟨p,h,e⟩; exact ⟨p,(allL_mem _ _).mp h,e⟩
noncomputable abbrev tupI (xs:List Int):D:=.tup (xs.map .int)
theorem oAdd_l {S:Sto} {a b:List D} (h:a.length + b.length≤sizeLine):oAdd S (.lst a) (.lst b)=some (.lst (a ++ b)):=if_pos h
theorem oAdd_t {S:Sto} {a b:List D} (h:a.length + b.length≤sizeLine):oAdd S (.tup a) (.tup b)=some (.tup (a ++ b)):=if_pos h
theorem eGet2_go {o a b:EM} {r:Rho} {S S1 S2 S3:Sto} {d y z:D} {kvs kvs':List (KD × D)} {k:KD} (ho:o r S=.ok d S1) (hd:dicOf S1 d=some kvs) (ha:a r S1=.ok y S2) (hb:b r S2=.ok z S3) (hd3:dicOf S3 d=some kvs') (hk:keyD y=some k):eGet2 o a b r S=.ok ((getK kvs' k).getD z) S3:=by
 unfold eGet2
 rw [ho,R.bind_ok]
 simp only [hd,Option.isSome_some,if_true,ha,R.bind_ok,hb,hd3,hk]
theorem sPut_go {f:Sto→D→D→D→Option Sto} {e o i:EM} {r:Rho} {S S1 S2 S3 S4:Sto} {v x y:D} (he:e r S=.ok v S1) (ho:o r S1=.ok x S2) (hi:i r S2=.ok y S3) (hf:f S3 x y v=some S4):sPut f e o i r S=.ok (.nx r) S4:=by
 unfold sPut
 rw [he,R.bind_ok,ho,R.bind_ok,hi,R.bind_ok,hf]
noncomputable def fS (K:List Int) (x:Int) (f:List Int):List Int:=f.flatMap fun w=>K.map fun q=>w + q * x
noncomputable def pT (T:List (Int × Int)) (k c:Int):List (Int × Int):=if T.any (fun e=>decide (e.1=k)) then T.map (fun e=>if e.1=k then (e.1,c) else e) else T ++ [(k,c)]
noncomputable def gT (T:List (Int × Int)) (k:Int):Int:=((T.find? fun e=>decide (e.1=k)).map (·.2)).getD 0
noncomputable def sumH (h:Int→Int) (T:List (Int × Int)):Int:=(T.map fun e=>h e.1 * e.2).sum
noncomputable def Keys (T:List (Int × Int)):Prop:=T.Pairwise fun a b=>a.1 ≠ b.1
theorem sumH_cons (h:Int→Int) (e:Int × Int) (T:List (Int × Int)):sumH h (e :: T)=h e.1 * e.2 + sumH h T:=by simp [sumH]
theorem sumH_app (h:Int→Int):∀ (A B:List (Int × Int)),sumH h (A ++ B)=sumH h A + sumH h B
 | [],B=>by simp [sumH]
 | e :: A,B=>by rw [List.cons_append,sumH_cons,sumH_cons,sumH_app h A B]; omega
theorem no_key {T:List (Int × Int)} {k:Int} (h:T.any (fun e=>decide (e.1=k))=false):gT T k=0:=by
 unfold gT
 have:(T.find? fun e=>decide (e.1=k))=none:=by
  rw [List.find?_eq_none]
  intro e he hd
  rw [List.any_eq_false] at h
  exact h e he hd
 rw [this]; rfl
theorem map_same {T:List (Int × Int)} {k c:Int} (h:∀ e ∈ T,e.1 ≠ k):T.map (fun e=>if e.1=k then (e.1,c) else e)=T:=by
 induction T with
 | nil=>rfl
 | cons e T ih=>
  rw [List.map_cons,if_neg (h e (.head _)),ih fun e he=>h e (.tail _ he)]
theorem gT_cons (e:Int × Int) (T:List (Int × Int)) (k:Int):gT (e :: T) k=if e.1=k then e.2 else gT T k:=by
 unfold gT
 rw [List.find?_cons]
 by_cases h:e.1=k
 ·simp [h]
 ·simp [h]
theorem sumH_set (h:Int→Int) {k c:Int}:∀ {T:List (Int × Int)},Keys T→T.any (fun e=>decide (e.1=k))=true→sumH h (T.map fun e=>if e.1=k then (e.1,c) else e)=sumH h T + h k * (c - gT T k)
 | [],_,ha=>by simp at ha
 | e :: T,hk,ha=>by
  have hk':=List.pairwise_cons.mp hk
  rw [List.map_cons,sumH_cons,sumH_cons,gT_cons]
  by_cases he:e.1=k
  ·rw [if_pos he,if_pos he,map_same fun e' he' h=>hk'.1 e' he' (by rw [he,h])]
   simp only
   rw [he,Int.mul_sub]
   omega
  ·have ha':T.any (fun e=>decide (e.1=k))=true:=by
    simp only [List.any_cons,he,decide_false,Bool.false_or] at ha
    exact ha
   rw [if_neg he,if_neg he,sumH_set h hk'.2 ha']
   omega
theorem sumH_pT (h:Int→Int) {T:List (Int × Int)} (hk:Keys T) (k c:Int):sumH h (pT T k (gT T k + c))=sumH h T + h k * c:=by
 unfold pT
 cases ha:T.any (fun e=>decide (e.1=k)) with
 | true=>
  rw [if_pos rfl,sumH_set h hk ha,show gT T k + c - gT T k=c by omega]
 | false=>
  rw [if_neg Bool.false_ne_true,sumH_app,no_key ha,sumH_cons]
  simp [sumH]
theorem keys_pT {T:List (Int × Int)} (hk:Keys T) (k c:Int):Keys (pT T k c):=by
 unfold pT
 cases ha:T.any (fun e=>decide (e.1=k)) with
 | true=>
  rw [if_pos rfl]
  unfold Keys
  rw [List.pairwise_map]
  refine List.Pairwise.imp (fun {a b} h=>?_) hk
  split <;> split <;> exact h
 | false=>
  rw [if_neg Bool.false_ne_true]
  refine List.pairwise_append.mpr ⟨hk,List.pairwise_singleton _ _,fun a ha' b hb=>?_⟩
  rw [List.mem_singleton.mp hb]
  rw [List.any_eq_false] at ha
  have:=ha a ha'
  simpa using this
theorem key_pT (T:List (Int × Int)) (k c v:Int):(∃ e ∈ pT T k c,e.1=v)↔(∃ e ∈ T,e.1=v) ∨ v=k:=by
 unfold pT
 cases ha:T.any (fun e=>decide (e.1=k)) with
 | true=>
  rw [if_pos rfl]
  constructor
  ·rintro ⟨e,he,rfl⟩
   obtain ⟨e',he',rfl⟩:=List.mem_map.mp he
   refine .inl ⟨e',he',?_⟩
   split <;> rfl
  ·rintro (⟨e,he,rfl⟩ | rfl)
   ·exact ⟨_,List.mem_map.mpr ⟨e,he,rfl⟩,by split <;> rfl⟩
   ·rw [List.any_eq_true] at ha
    obtain ⟨e,he,hd⟩:=ha
    exact ⟨_,List.mem_map.mpr ⟨e,he,rfl⟩,by split <;> exact of_decide_eq_true hd⟩
 | false=>
  rw [if_neg Bool.false_ne_true]
  constructor
  ·rintro ⟨e,he,rfl⟩
   rcases List.mem_append.mp he with he | he
   ·exact .inl ⟨e,he,rfl⟩
   ·rw [List.mem_singleton.mp he]; exact .inr rfl
  ·rintro (⟨e,he,rfl⟩ | rfl)
   ·exact ⟨e,List.mem_append_left _ he,rfl⟩
   ·exact ⟨(v,c),List.mem_append_right _ (List.mem_singleton.mpr rfl),rfl⟩
theorem len_pT (T:List (Int × Int)) (k c:Int):(pT T k c).length≤T.length + 1:=by
 unfold pT
 split <;> simp
structure Hist (T:List (Int × Int)) (f:List Int):Prop where
 keys:Keys T
 mem:∀ v,(∃ e ∈ T,e.1=v)↔v ∈ f
 sum:∀ h:Int→Int,sumH h T=(f.map h).sum
 len:T.length≤f.length
theorem Hist.zero:Hist [(0,1)] [0]:=⟨List.pairwise_singleton _ _,fun v=>by simp [eq_comm],fun h=>by simp [sumH],Nat.le_refl _⟩
theorem sumI_app:∀ (a b:List Int),(a ++ b).sum=a.sum + b.sum
 | [],b=>by simp
 | x :: a,b=>by rw [List.cons_append,List.sum_cons,List.sum_cons,sumI_app a b]; omega
structure HistC (T:List (Int × Int)) (L:List (Int × Int)):Prop where
 keys:Keys T
 mem:∀ v,(∃ e ∈ T,e.1=v)↔∃ e ∈ L,e.1=v
 sum:∀ h:Int→Int,sumH h T=sumH h L
 len:T.length≤L.length
theorem HistC.nil:HistC [] []:=⟨List.Pairwise.nil,fun v=>by simp,fun h=>rfl,Nat.le_refl _⟩
theorem HistC.put {T L:List (Int × Int)} (h:HistC T L) (k c:Int):HistC (pT T k (gT T k + c)) (L ++ [(k,c)]):=by
 refine ⟨keys_pT h.keys _ _,fun v=>?_,fun f=>?_,Nat.le_trans (len_pT _ _ _) (by have:=h.len; simp; omega)⟩
 ·rw [key_pT,h.mem v]
  constructor
  ·rintro (⟨e,he,e1⟩ | rfl)
   ·exact ⟨e,List.mem_append_left _ he,e1⟩
   ·exact ⟨(v,c),List.mem_append_right _ (List.mem_singleton.mpr rfl),rfl⟩
  ·rintro ⟨e,he,rfl⟩
   rcases List.mem_append.mp he with he | he
   ·exact .inl ⟨e,he,rfl⟩
   ·rw [List.mem_singleton.mp he]; exact .inr rfl
 ·rw [sumH_pT f h.keys,h.sum f,sumH_app,sumH_cons]
  simp [sumH]
noncomputable def putsOf (K:List Int) (x:Int) (T:List (Int × Int)):List (Int × Int):=T.flatMap fun e=>K.map fun q=>(e.1 + q * x,e.2)
theorem sumH_puts (K:List Int) (x:Int) (h:Int→Int):∀ T:List (Int × Int),sumH h (putsOf K x T)=sumH (fun y=>(K.map fun q=>h (y + q * x)).sum) T
 | []=>rfl
 | e :: T=>by
  have ih:=sumH_puts K x h T
  unfold putsOf at ih ⊢
  rw [List.flatMap_cons,sumH_app,sumH_cons,ih]
  congr 1
  have:∀ l:List Int,sumH h (l.map fun q=>(e.1 + q * x,e.2))=(l.map fun q=>h (e.1 + q * x)).sum * e.2:=fun l=>by
   induction l with
   | nil=>simp [sumH]
   | cons q l ih=>rw [List.map_cons,sumH_cons,List.map_cons,List.sum_cons,ih,Int.add_mul]
  exact this K
theorem sum_fS (K:List Int) (x:Int) (h:Int→Int):∀ f:List Int,((fS K x f).map h).sum=(f.map fun y=>(K.map fun q=>h (y + q * x)).sum).sum
 | []=>rfl
 | w :: f=>by
  have ih:=sum_fS K x h f
  unfold fS at ih ⊢
  rw [List.flatMap_cons,List.map_append,sumI_app,ih,List.map_cons,List.sum_cons,List.map_map]
  rfl
theorem mem_fS {K:List Int} {x v:Int} {f:List Int}:v ∈ fS K x f↔∃ w ∈ f,∃ q ∈ K,w + q * x=v:=by
 simp only [fS,List.mem_flatMap,List.mem_map]
theorem fS_len (K:List Int) (x:Int):∀ f:List Int,(fS K x f).length=f.length * K.length
 | []=>by simp [fS]
 | w :: f=>by
  have:=fS_len K x f
  simp only [fS,List.flatMap_cons,List.length_append,List.length_map,List.length_cons] at this ⊢
  rw [this,Nat.succ_mul]; omega
theorem puts_len (K:List Int) (x:Int):∀ T:List (Int × Int),(putsOf K x T).length=T.length * K.length
 | []=>by simp [putsOf]
 | w :: f=>by
  have:=puts_len K x f
  simp only [putsOf,List.flatMap_cons,List.length_append,List.length_map,List.length_cons] at this ⊢
  rw [this,Nat.succ_mul]; omega
theorem Hist.step {K:List Int} {x:Int} {T T':List (Int × Int)} {f:List Int} (h:Hist T f) (h':HistC T' (putsOf K x T)):Hist T' (fS K x f):=by
 refine ⟨h'.keys,fun v=>?_,fun g=>?_,?_⟩
 ·rw [h'.mem v,mem_fS]
  simp only [putsOf,List.mem_flatMap,List.mem_map]
  constructor
  ·rintro ⟨e,⟨e0,he0,q,hq,rfl⟩,rfl⟩
   exact ⟨e0.1,(h.mem _).mp ⟨e0,he0,rfl⟩,q,hq,rfl⟩
  ·rintro ⟨w,hw,q,hq,rfl⟩
   obtain ⟨e0,he0,rfl⟩:=(h.mem w).mpr hw
   exact ⟨_,⟨e0,he0,q,hq,rfl⟩,rfl⟩
 ·rw [h'.sum g,sumH_puts,h.sum,sum_fS]
 ·have:=h'.len
  rw [puts_len] at this
  rw [fS_len]
  exact Nat.le_trans this (Nat.mul_le_mul_right _ h.len)
theorem wor_snoc:∀ (xs p:List Int) (x q:Int),p.length=xs.length→wor (xs ++ [x]) (p ++ [q])=wor xs p + q * x
 | [],[],x,q,_=>by show x * q + 0=0 + q * x; rw [Int.mul_comm]; omega
 | y :: xs,r :: p,x,q,h=>by
  show y * r + wor (xs ++ [x]) (p ++ [q])=y * r + wor xs p + q * x
  rw [wor_snoc xs p x q (by simpa using h)]; omega
 | [],_ :: _,_,_,h=>by cases h
 | _ :: _,[],_,_,h=>by cases h
noncomputable def wsL (K:List Int) (xs:List Int):List Int:=(allL K xs.length).map (wor xs)
theorem wsL_snoc (K xs:List Int) (x:Int):wsL K (xs ++ [x])=fS K x (wsL K xs):=by
 unfold wsL fS
 rw [List.length_append,List.length_cons,List.length_nil]
 show (ext K (allL K xs.length)).map _=_
 unfold ext
 rw [List.map_flatMap,List.flatMap_map]
 have:∀ l:List (List Int),(∀ p ∈ l,p.length=xs.length)→(l.flatMap fun p=>(K.map fun k=>p ++ [k]).map (wor (xs ++ [x])))=l.flatMap fun p=>K.map fun q=>wor xs p + q * x:=fun l=>by
  induction l with
  | nil=>intro _; rfl
  | cons p l ih=>
   intro h
   rw [List.flatMap_cons,List.flatMap_cons,ih fun p hp=>h p (.tail _ hp),List.map_map]
   congr 1
   refine List.map_congr_left fun k _=>?_
   exact wor_snoc xs p x k (h p (.head _))
 exact this _ fun p hp=>((allL_mem _ p).mp hp).1
theorem wsL_mem {K xs:List Int} {v:Int}:v ∈ wsL K xs↔Wo K xs v:=by
 rw [Wo_all]
 simp only [wsL,List.mem_map]
noncomputable def encT (T:List (Int × Int)):List (KD × D):=T.map fun e=>(.inl e.1,.int e.2)
theorem encT_any (T:List (Int × Int)) (k:Int):(encT T).any (fun kv=>decide (kv.1=.inl k))=T.any fun e=>decide (e.1=k):=by
 unfold encT
 rw [List.any_map]
 congr 1
 funext e
 show decide ((Sum.inl e.1:KD)=.inl k)=decide (e.1=k)
 rw [decide_eq_decide]
 exact ⟨Sum.inl.inj,fun h=>by rw [h]⟩
theorem encT_put (T:List (Int × Int)) (k c:Int):putD (encT T) (.inl k) (.int c)=encT (pT T k c):=by
 unfold putD pT
 rw [encT_any]
 cases T.any fun e=>decide (e.1=k) with
 | true=>
  rw [if_pos rfl,if_pos rfl]
  unfold encT
  rw [List.map_map,List.map_map]
  refine List.map_congr_left fun e _=>?_
  simp only [Function.comp]
  by_cases h:e.1=k
  ·rw [if_pos (by rw [h]),if_pos h]
  ·rw [if_neg (fun z=>h (Sum.inl.inj z)),if_neg h]
 | false=>
  rw [if_neg Bool.false_ne_true,if_neg Bool.false_ne_true]
  simp [encT]
theorem encT_get (T:List (Int × Int)) (k:Int):(getK (encT T) (.inl k)).getD (.int 0)=.int (gT T k):=by
 unfold getK gT encT
 rw [List.find?_map]
 have e:((fun kv:KD × D=>decide (kv.1=.inl k)) ∘ fun e:Int × Int=>((.inl e.1:KD),D.int e.2))=fun e=>decide (e.1=k):=by
  funext e
  show decide ((Sum.inl e.1:KD)=.inl k)=decide (e.1=k)
  rw [decide_eq_decide]
  exact ⟨Sum.inl.inj,fun h=>by rw [h]⟩
 rw [e]
 cases T.find? fun e=>decide (e.1=k) <;> rfl
noncomputable def dAt (S:Sto) (n:Nat) (T:List (Int × Int)):Prop:=S[n]?=some (.dic (encT T)) ∨ S[n]?=some (.fdic (encT T))
theorem dAt.dic {S:Sto} {n:Nat} {T:List (Int × Int)} (h:dAt S n T):dicOf S (.ref n)=some (encT T):=by
 rcases h with h | h <;> simp [dicOf,h]
theorem dAt.seq {S:Sto} {n:Nat} {T:List (Int × Int)} (h:dAt S n T):seqOf S (.ref n)=none:=by
 rcases h with h | h <;> simp [seqOf,h]
theorem dAt.lt {S:Sto} {n:Nat} {T:List (Int × Int)} (h:dAt S n T):n < S.length:=by
 rcases h with h | h <;> exact (List.getElem?_eq_some_iff.mp h).1
noncomputable abbrev stI:SM:=(sSeq (sSet 7 (eOp oAdd (eVar 4) (eOp oMul (eVar 6) (eVar 1)))) (sPut fPutD (eOp oAdd (eGet2 (eVar 3) (eVar 7) (eC (.int 0))) (eVar 5)) (eVar 3) (eVar 7)))
noncomputable abbrev stO:SM:=(sFor (aSeq (eVar 2) itSeq) (.nm 6) (sSeq (sSet 7 (eOp oAdd (eVar 4) (eOp oMul (eVar 6) (eVar 1)))) (sPut fPutD (eOp oAdd (eGet2 (eVar 3) (eVar 7) (eC (.int 0))) (eVar 5)) (eVar 3) (eVar 7))))
theorem sml {q:Int} (h:-1≤q∧q≤1):smallI q:=⟨by omega,by omega⟩
theorem stI_ok {S:Sto} {m:Nat} {W:List (Int × Int)} {x w c q:Int} (hq:-1≤q∧q≤1) (hm:S[m]?=some (.dic (encT W))) (hz:W.length < 1000) (r0 r2 r7:Option D):
  stI [r0,some (.int x),r2,some (.ref m),some (.int w),some (.int c),some (.int q),r7] S=.ok (.nx [r0,some (.int x),r2,some (.ref m),some (.int w),some (.int c),some (.int q),some (.int (w + q * x))]) (S.set m (.dic (encT (pT W (w + q * x) (gT W (w + q * x) + c))))):=by
 have hd:dicOf S (.ref m)=some (encT W):=by simp [dicOf,hm]
 have z:(1000:Nat)≤sizeLine:=by decide
 refine (sSeq_go (sSet_go (eOp_go (eVar_go rfl) (eOp_go (eVar_go rfl) (eVar_go rfl) (oMul_i (.inl (sml hq)))) rfl))).trans ?_
 have hg:eGet2 (eVar 3) (eVar 7) (eC (.int 0)) [r0,some (.int x),r2,some (.ref m),some (.int w),some (.int c),some (.int q),some (.int (w + q * x))] S=.ok (.int (gT W (w + q * x))) S:=by
  rw [← encT_get]
  exact eGet2_go (eVar_go rfl) hd (eVar_go rfl) rfl hd rfl
 refine sPut_go (eOp_go hg (eVar_go rfl) rfl) (eVar_go rfl) (eVar_go rfl) ?_
 have h1:isDic S (.ref m)=true:=by simp [isDic,hm]
 unfold fPutD
 rw [if_pos h1]
 unfold fPutK
 simp only [hm,keyD]
 rw [if_pos (by simp [encT]; omega),encT_put]
theorem stI_loop {x w c:Int} (r0 r2:Option D) {m:Nat}:∀ (K:List Int) (S:Sto) (W L:List (Int × Int)) (r6 r7:Option D),(∀ q ∈ K,-1≤q∧q≤1)→S[m]?=some (.dic (encT W))→HistC W L→L.length + K.length≤1000→
  ∃ (W':List (Int × Int)) (r6' r7':Option D),forL (.nm 6) stI (K.map .int) [r0,some (.int x),r2,some (.ref m),some (.int w),some (.int c),r6,r7] S=.ok (.nx [r0,some (.int x),r2,some (.ref m),some (.int w),some (.int c),r6',r7']) (S.set m (.dic (encT W')))∧HistC W' (L ++ K.map fun q=>(w + q * x,c))
 | [],S,W,L,r6,r7,_,hm,h,_=>⟨W,r6,r7,by
  have hml:m < S.length:=(List.getElem?_eq_some_iff.mp hm).1
  have:S.set m (.dic (encT W))=S:=by
   have e:=(List.getElem?_eq_some_iff.mp hm).2
   rw [← e]; exact List.set_getElem_self hml
  rw [this]; rfl,by simpa using h⟩
 | q :: K,S,W,L,r6,r7,hK,hm,h,hz=>by
  rw [List.length_cons] at hz
  have hml:m < S.length:=(List.getElem?_eq_some_iff.mp hm).1
  have e1:=stI_ok (S:=S) (x:=x) (w:=w) (c:=c) (hK q (.head _)) hm (by have:=h.len; omega) r0 r2 r7
  obtain ⟨W',a6,a7,e2,h2⟩:=stI_loop r0 r2 K (S.set m (.dic (encT (pT W (w + q * x) (gT W (w + q * x) + c))))) (pT W (w + q * x) (gT W (w + q * x) + c)) (L ++ [(w + q * x,c)]) (some (.int q)) (some (.int (w + q * x))) (fun q hq=>hK q (.tail _ hq)) (List.getElem?_set_self hml) (h.put (w + q * x) c) (by simp; omega)
  rw [List.set_set] at e2
  refine ⟨W',a6,a7,(forL_cons (r1:=[r0,some (.int x),r2,some (.ref m),some (.int w),some (.int c),some (.int q),r7]) rfl e1).trans e2,?_⟩
  rw [List.map_cons]
  simpa using h2
theorem stO_loop {K:List Int} {x:Int} (hK:∀ q ∈ K,-1≤q∧q≤1) (r0:Option D) {m:Nat}:∀ (T:List (Int × Int)) (S:Sto) (W L:List (Int × Int)) (r4 r5 r6 r7:Option D),S[m]?=some (.dic (encT W))→HistC W L→L.length + T.length * K.length≤1000→
  ∃ (W':List (Int × Int)) (r4' r5' r6' r7':Option D),forL (.tp [.nm 4,.nm 5]) stO ((encT T).map pairD) [r0,some (.int x),some (tupI K),some (.ref m),r4,r5,r6,r7] S=.ok (.nx [r0,some (.int x),some (tupI K),some (.ref m),r4',r5',r6',r7']) (S.set m (.dic (encT W')))∧HistC W' (L ++ putsOf K x T)
 | [],S,W,L,r4,r5,r6,r7,hm,h,_=>⟨W,r4,r5,r6,r7,by
  have hml:m < S.length:=(List.getElem?_eq_some_iff.mp hm).1
  have:S.set m (.dic (encT W))=S:=by
   have e:=(List.getElem?_eq_some_iff.mp hm).2
   rw [← e]; exact List.set_getElem_self hml
  rw [this]; rfl,by simpa [putsOf] using h⟩
 | e :: T,S,W,L,r4,r5,r6,r7,hm,h,hz=>by
  have hm2:(e :: T).length * K.length=T.length * K.length + K.length:=by rw [List.length_cons,Nat.succ_mul]
  have hml:m < S.length:=(List.getElem?_eq_some_iff.mp hm).1
  obtain ⟨W1,a6,a7,e1,h1⟩:=stI_loop (x:=x) (w:=e.1) (c:=e.2) r0 (some (tupI K)) K S W L r6 r7 hK hm h (by omega)
  obtain ⟨W2,b4,b5,b6,b7,e2,h2⟩:=stO_loop hK r0 T (S.set m (.dic (encT W1))) W1 (L ++ K.map fun q=>(e.1 + q * x,e.2)) (some (.int e.1)) (some (.int e.2)) a6 a7 (List.getElem?_set_self hml) h1 (by rw [List.length_append,List.length_map]; omega)
  rw [List.set_set] at e2
  refine ⟨W2,b4,b5,b6,b7,?_,?_⟩
  ·show forL _ _ (pairD (.inl e.1,.int e.2) :: (encT T).map pairD) _ _=_
   exact (forL_cons (r1:=[r0,some (.int x),some (tupI K),some (.ref m),some (.int e.1),some (.int e.2),r6,r7]) rfl ((sFor_seq (eVar_go rfl) rfl).trans e1)).trans e2
  ·have:putsOf K x (e :: T)=(K.map fun q=>(e.1 + q * x,e.2)) ++ putsOf K x T:=by simp [putsOf]
   rw [this,← List.append_assoc]
   exact h2
theorem items_go {S:Sto} {n:Nat} {T:List (Int × Int)} {ρ:Rho} {i:Nat} (hi:ρ[i]?=some (some (.ref n))) (h:dAt S n T):aItems (eVar i) ρ S=.ok ((encT T).map pairD) (S.set n (.fdic (encT T))):=by
 unfold aItems
 rw [eVar_go hi,R.bind_ok]
 rcases h with h | h
 ·simp only [h]
 ·simp only [h]
  have hnl:n < S.length:=(List.getElem?_eq_some_iff.mp h).1
  have:S.set n (.fdic (encT T))=S:=by
   have e:=(List.getElem?_eq_some_iff.mp h).2
   rw [← e]; exact List.set_getElem_self hnl
  rw [this]
theorem stepped_ok {K:List Int} {x:Int} {S:Sto} {n:Nat} {T:List (Int × Int)} {f:List Int} (hK:∀ q ∈ K,-1≤q∧q≤1) (hd:dAt S n T) (h:Hist T f) (hz:f.length * K.length≤1000):
  ∃ T':List (Int × Int),F_stepped [.ref n,.int x,tupI K] S=.ok (.ref S.length) (S.set n (.fdic (encT T)) ++ [.dic (encT T')])∧Hist T' (fS K x f):=by
 have hnl:=hd.lt
 have hd':dAt (S ++ [.dic []]) n T:=by
  unfold dAt
  rw [List.getElem?_append_left hnl]
  exact hd
 have hle:T.length * K.length≤f.length * K.length:=Nat.mul_le_mul_right _ h.len
 have e0:(S ++ [SO.dic []]).set n (.fdic (encT T))=S.set n (.fdic (encT T)) ++ [.dic []]:=List.set_append_left _ _ hnl
 obtain ⟨T',a4,a5,a6,a7,e1,h1⟩:=stO_loop (x:=x) hK (some (.ref n)) (m:=S.length) T (S.set n (.fdic (encT T)) ++ [.dic []]) [] [] none none none none (by simp [encT]) HistC.nil (by simp; omega)
 have e2:(S.set n (.fdic (encT T)) ++ [SO.dic []]).set S.length (.dic (encT T'))=S.set n (.fdic (encT T)) ++ [.dic (encT T')]:=by
  rw [List.set_append_right _ _ (by simp)]; simp
 rw [e2] at e1
 refine ⟨T',?_,h.step (by simpa using h1)⟩
 exact fnM_rt (ρ:=[some (.ref n),some (.int x),some (tupI K),none,none,none,none,none]) rfl ((sSeq_go (S1:=S ++ [.dic []]) (sSet_go rfl)).trans ((sSeq_go (r1:=[some (.ref n),some (.int x),some (tupI K),some (.ref S.length),a4,a5,a6,a7]) ((sFor_go (items_go rfl hd')).trans (by rw [e0]; exact e1))).trans (sRet_go (eVar_go rfl))))
structure Pre (S0 S:Sto):Prop where
 old:∀ i,i < S0.length→S[i]?=S0[i]?
 len:S0.length≤S.length
theorem Pre.refl (S:Sto):Pre S S:=⟨fun _ _=>rfl,Nat.le_refl _⟩
theorem Pre.trans {S0 S1 S2:Sto} (a:Pre S0 S1) (b:Pre S1 S2):Pre S0 S2:=⟨fun i h=>(b.old i (Nat.lt_of_lt_of_le h a.len)).trans (a.old i h),Nat.le_trans a.len b.len⟩
theorem Pre.app (S l:Sto):Pre S (S ++ l):=⟨fun i h=>List.getElem?_append_left h,by simp⟩
theorem Pre.set {S0 S:Sto} (p:Pre S0 S) {n:Nat} (h:S0.length≤n) (o:SO):Pre S0 (S.set n o):=⟨fun i hi=>by rw [List.getElem?_set_ne (by omega)]; exact p.old i hi,by rw [List.length_set]; exact p.len⟩
theorem Pre.gr {b:Nat} {S0 S:Sto} (g:Gr b S0 S0) (p:Pre S0 S):Gr b S0 S:=by
 obtain ⟨n,hn⟩:=g.bx
 have hb:b < S0.length:=(List.getElem?_eq_some_iff.mp hn).1
 exact ⟨⟨n,by rw [p.old b hb]; exact hn⟩,fun i _ hl=>p.old i hl,p.len⟩
theorem dAt.set {S:Sto} {r n:Nat} {o:SO} {T:List (Int × Int)} (h:dAt S r T) (hn:n ≠ r):dAt (S.set n o) r T:=by
 unfold dAt
 rw [List.getElem?_set_ne hn]
 exact h
theorem bd_step {K:List Int} (hK:K.length≤3) {n r:Nat} (h:n * 3 ^ (r + 1)≤729):n * K.length≤1000∧n * K.length * 3 ^ r≤729:=by
 have h1:n * K.length≤n * 3:=Nat.mul_le_mul_left _ hK
 have h2:1≤3 ^ r:=Nat.one_le_pow _ _ (by decide)
 have h3:n * K.length * 3 ^ r≤n * 3 * 3 ^ r:=Nat.mul_le_mul_right _ h1
 have h4:n * 3 * 3 ^ r=n * 3 ^ (r + 1):=by rw [Nat.pow_succ,Nat.mul_assoc,Nat.mul_comm 3]
 have h5:n * 3 * 1≤n * 3 * 3 ^ r:=Nat.mul_le_mul_left _ h2
 omega
theorem dicN_go {ρ:Rho} {S:Sto}:eDicN [((eC (.int 0)),(eC (.int 1)))] ρ S=.ok (.ref S.length) (S ++ [.dic (encT [(0,1)])]):=rfl
theorem need_row_ok {xs:List Int} (h:Row xs) (S:Sto):F_need_row_n [.tup (xs.map .int)] S=.ok .non S:=by
 have e:=isrow_eq (S:=S) h.okay
 rw [h.is] at e
 simp [F_need_row_n,fnM,m_need_row_n,sIf,sSkip,tNx,R.nx,PD.tNot,tV,eCall,eVar,aCons,aNil,R.bind,e]
theorem need_rn_ok {xs:List Int} (h:Row xs) (v:Int) (S:Sto):F_need_row_and_number_n [tupI xs,.int v] S=.ok .non S:=by
 have e2:F_need_number_n [.int v] S=.ok .non S:=by
  have e:=whole_eq (d:=.int v) (S:=S) rfl
  have e':isI (.int v)=true:=rfl
  rw [e'] at e
  simp [F_need_number_n,fnM,m_need_number_n,sIf,sSkip,tNx,R.nx,PD.tNot,tV,eCall,eVar,aCons,aNil,R.bind,e]
 refine fnM_nx (ρ:=[some (tupI xs),some (.int v)]) rfl ((sSeq_go (sDrop_go ((eCall_go (aCons_go (eVar_go rfl) rfl)).trans (need_row_ok h S)))).trans (sDrop_go ((eCall_go (aCons_go (eVar_go rfl) rfl)).trans e2)))
theorem kints_enc:∀ T:List (Int × Int),kints (encT T)=some (T.map (·.1))
 | []=>rfl
 | e :: T=>by
  show (kints (encT T)).map (e.1 :: ·)=_
  rw [kints_enc T]; rfl
noncomputable def wsS (T:List (Int × Int)):List Int:=sortZ (T.map (·.1))
theorem srt_ok {S:Sto} {n:Nat} {T:List (Int × Int)} (h:dAt S n T) (hz:T.length≤1000):fSrt S [.ref n]=some (.lst ((wsS T).map .int)):=by
 have z:(1000:Nat)≤sizeLine:=by decide
 show (match srtOf S (.ref n) with | some ns=>if ns.length≤sizeLine then some (D.lst ((sortZ ns).map .int)) else none | none=>none)=_
 have e:srtOf S (.ref n)=some (T.map (·.1)):=by
  unfold srtOf
  rw [h.seq]
  simp only [h.dic,kints_enc]
 rw [e]
 dsimp only
 rw [if_pos (by rw [List.length_map]; omega)]
 rfl
theorem wsS_mem {T:List (Int × Int)} {f:List Int} (h:Hist T f) (w:Int):w ∈ wsS T↔w ∈ f:=by
 unfold wsS
 rw [(sortZ_perm _).mem_iff,List.mem_map,← h.mem w]
theorem wsS_len (T:List (Int × Int)):(wsS T).length=T.length:=by unfold wsS; rw [(sortZ_perm _).length_eq,List.length_map]
theorem few_ok {xs:List Int} (hr:Row xs) (h10:xs.length≤10) (S:Sto):F_need_few_n [tupI xs] S=.ok .non S:=by
 have hl:fLen S [tupI xs]=some (.int xs.length):=by show some (D.int ((xs.map D.int).length:Int))=_; rw [List.length_map]
 have hc:tV (eOp oGt (eB fLen (aCons (eVar 0) aNil)) (eC (.int (10)))) [some (tupI xs)] S=.ok (decide ((10:Int) < xs.length)) S:=tV_go (eOp_go (eB_go (aCons_go (eVar_go rfl) rfl) hl) rfl rfl)
 rw [decide_eq_false (by omega)] at hc
 exact fnM_nx (ρ:=[some (tupI xs)]) rfl ((sSeq_go (sDrop_go ((eCall_go (aCons_go (eVar_go rfl) rfl)).trans (need_row_ok hr S)))).trans ((sIf_f hc).trans rfl))
theorem fn_ok {xs:List Int} (hr:Row xs) (h10:xs.length≤10) (v:Int) (S:Sto):F_need_few_and_number_n [tupI xs,.int v] S=.ok .non S:=
 fnM_nx (ρ:=[some (tupI xs),some (.int v)]) rfl ((sSeq_go (sDrop_go ((eCall_go (aCons_go (eVar_go rfl) (aCons_go (eVar_go rfl) rfl))).trans (need_rn_ok hr v S)))).trans (sDrop_go ((eCall_go (aCons_go (eVar_go rfl) rfl)).trans (few_ok hr h10 S))))
structure Lay (K row:List Int) (Ls:List (List Int)):Prop where
 len:Ls.length=row.length + 1
 up:∀ L ∈ Ls,L.Pairwise (· < ·)
 mem:∀ i,i≤row.length→∀ v,v ∈ Ls.getD i []↔Wo K (row.take i) v
 sm:∀ L ∈ Ls,L.length≤1000
noncomputable abbrev layD (Ls:List (List Int)):List D:=Ls.map tupI
theorem srt_lt {T:List (Int × Int)} (h:Keys T):(wsS T).Pairwise (· < ·):=by
 have a:=sortZ_sorted (T.map (·.1))
 have nd:(T.map (·.1)).Nodup:=by
  unfold Keys at h
  rw [List.nodup_iff_pairwise_ne,List.pairwise_map]
  exact h
 have b:(sortZ (T.map (·.1))).Pairwise (· ≠ ·):=List.nodup_iff_pairwise_ne.mp ((sortZ_perm (T.map (·.1))).nodup_iff.mpr nd)
 exact (a.and b).imp fun ⟨x,y⟩=>by omega
theorem Lay.snoc {K pre:List Int} {Ls:List (List Int)} {x:Int} {L:List Int} (h:Lay K pre Ls) (hL:L.Pairwise (· < ·)) (hm:∀ v,v ∈ L↔Wo K (pre ++ [x]) v) (hs:L.length≤1000):Lay K (pre ++ [x]) (Ls ++ [L]):=by
 refine ⟨by rw [List.length_append,List.length_append,h.len]; rfl,fun M hM=>?_,fun i hi v=>?_,fun M hM=>?_⟩
 ·rcases List.mem_append.mp hM with q | q
  ·exact h.up M q
  ·rw [List.mem_singleton.mp q]; exact hL
 ·rw [List.length_append,List.length_singleton] at hi
  by_cases c:i≤pre.length
  ·have e:(Ls ++ [L]).getD i []=Ls.getD i []:=by
    rw [List.getD_eq_getElem?_getD,List.getD_eq_getElem?_getD,List.getElem?_append_left (by rw [h.len]; omega)]
   rw [e,h.mem i c v,List.take_append_of_le_length c]
  ·have ei:i=pre.length + 1:=by omega
   subst ei
   have e:(Ls ++ [L]).getD (pre.length + 1) []=L:=by
    rw [List.getD_eq_getElem?_getD,List.getElem?_append_right (by rw [h.len]; omega),h.len]
    simp
   rw [e,hm v,List.take_of_length_le (by rw [List.length_append]; simp)]
 ·rcases List.mem_append.mp hM with q | q
  ·exact h.sm M q
  ·rw [List.mem_singleton.mp q]; exact hs
noncomputable abbrev llB:SM:=(sSeq (sSet 2 (eCall F_stepped (aCons (eVar 2) (aCons (eVar 4) (aCons (eVar 1) aNil))))) (sDrop (eMtL mAppend (eVar 3) (aCons (eB fTuple (aCons (eB fSrt (aCons (eVar 2) aNil)) aNil)) aNil))))
theorem append_go {S:Sto} {f:Nat} {xs:List D} {v:D} (h:S[f]?=some (.lst xs)) (hl:xs.length < sizeLine):mAppend S (.ref f) [v]=.ok .non (S.set f (.lst (xs ++ [v]))):=by
 unfold mAppend
 simp only [h]
 rw [if_pos hl]
theorem isL_ref {S:Sto} {f:Nat} {xs:List D} (h:S[f]?=some (.lst xs)):isL S (.ref f)=true:=by
 unfold isL; simp only [h]
theorem ll_loop {K:List Int} (hK:K.length≤3) (hk:∀ q ∈ K,-1≤q∧q≤1) {S0:Sto} (r0:Option D) {l:Nat} (hl0:S0.length≤l):∀ (xs pre:List Int) (S:Sto) (n:Nat) (T:List (Int × Int)) (Ls:List (List Int)) (r4:Option D),dAt S n T→n ≠ l→Hist T (wsL K pre)→(wsL K pre).length * 3 ^ xs.length≤729→S0.length≤n→Pre S0 S→S[l]?=some (.lst (layD Ls))→Lay K pre Ls→pre.length + xs.length≤100→
  ∃ (S':Sto) (Ls':List (List Int)) (a2 a4:Option D),forL (.nm 4) llB (xs.map .int) [r0,some (tupI K),some (.ref n),some (.ref l),r4] S=.ok (.nx [r0,some (tupI K),a2,some (.ref l),a4]) S'∧S'[l]?=some (.lst (layD Ls'))∧Lay K (pre ++ xs) Ls'∧Pre S0 S'
 | [],pre,S,n,T,Ls,r4,hd,hnl,h,hz,hn,p,hl,hL,_=>⟨S,Ls,some (.ref n),r4,rfl,hl,by rw [List.append_nil]; exact hL,p⟩
 | x :: xs,pre,S,n,T,Ls,r4,hd,hnl,h,hz,hn,p,hl,hL,hb=>by
  rw [List.length_cons] at hz hb
  have z:(1000:Nat)≤sizeLine:=by decide
  obtain ⟨z1,z2⟩:=bd_step hK hz
  obtain ⟨T1,e1,h1⟩:=stepped_ok (x:=x) hk hd h z1
  rw [← wsL_snoc] at h1
  have hll:l < S.length:=(List.getElem?_eq_some_iff.mp hl).1
  have hl1:(S.set n (.fdic (encT T)) ++ [SO.dic (encT T1)])[l]?=some (.lst (layD Ls)):=by
   rw [List.getElem?_append_left (by rw [List.length_set]; exact hll),List.getElem?_set_ne hnl]; exact hl
  have p1:Pre S0 (S.set n (.fdic (encT T)) ++ [SO.dic (encT T1)]):=(p.set hn _).trans (Pre.app _ _)
  have d1:dAt (S.set n (.fdic (encT T)) ++ [SO.dic (encT T1)]) S.length T1:=.inl (by simp)
  have l1:(S.set n (.fdic (encT T)) ++ [SO.dic (encT T1)]).length=S.length + 1:=by simp
  generalize S.set n (.fdic (encT T)) ++ [SO.dic (encT T1)]=S1 at *
  have tl:T1.length≤1000:=by
   have:=h1.len
   have e:(wsL K (pre ++ [x])).length=(wsL K pre).length * K.length:=by rw [wsL_snoc,fS_len]
   omega
  have hs:=srt_ok d1 tl
  have hap:=append_go (v:=tupI (wsS T1)) hl1 (by rw [List.length_map,hL.len]; omega)
  have eL:layD Ls ++ [tupI (wsS T1)]=layD (Ls ++ [wsS T1]):=by unfold layD; rw [List.map_append]; rfl
  rw [eL] at hap
  have hL':=hL.snoc (x:=x) (srt_lt h1.keys) (fun v=>by rw [wsS_mem h1,wsL_mem]) (by rw [wsS_len]; exact tl)
  have eb:llB [r0,some (tupI K),some (.ref n),some (.ref l),some (.int x)] S=.ok (.nx [r0,some (tupI K),some (.ref S.length),some (.ref l),some (.int x)]) (S1.set l (.lst (layD (Ls ++ [wsS T1])))):=
   (sSeq_go (sSet_go ((eCall_go (aCons_go (eVar_go rfl) (aCons_go (eVar_go rfl) (aCons_go (eVar_go rfl) rfl)))).trans e1))).trans (sDrop_go ((eMtL_go (eVar_go rfl) (isL_ref hl1) (aCons_go (eB_go (aCons_go (eB_go (aCons_go (eVar_go rfl) rfl) hs) rfl) rfl) rfl)).trans hap))
  have d2:dAt (S1.set l (.lst (layD (Ls ++ [wsS T1])))) S.length T1:=d1.set (by omega)
  have p2:Pre S0 (S1.set l (.lst (layD (Ls ++ [wsS T1])))):=p1.set hl0 _
  have hl2:(S1.set l (.lst (layD (Ls ++ [wsS T1]))))[l]?=some (.lst (layD (Ls ++ [wsS T1]))):=List.getElem?_set_self (by omega)
  obtain ⟨S',Ls',a2,a4,e2,q1,q2,q3⟩:=ll_loop hK hk r0 hl0 xs (pre ++ [x]) _ S.length T1 (Ls ++ [wsS T1]) (some (.int x)) d2 (by omega) h1 (by rw [wsL_snoc,fS_len]; exact z2) p.len p2 hl2 hL' (by rw [List.length_append,List.length_singleton]; omega)
  refine ⟨S',Ls',a2,a4,?_,q1,?_,q3⟩
  ·rw [List.map_cons]
   exact (forL_cons (r1:=[r0,some (tupI K),some (.ref n),some (.ref l),some (.int x)]) rfl eb).trans e2
  ·rw [List.append_assoc] at q2
   exact q2
theorem lay0 (K:List Int):Lay K [] [[0]]:=⟨rfl,fun L h=>by rw [List.mem_singleton.mp h]; exact List.pairwise_singleton _ _,fun i hi v=>by
 have:i=0:=by simpa using hi
 subst this
 show v ∈ [0]↔Wo K [] v
 rw [List.mem_singleton]
 rfl,fun L h=>by rw [List.mem_singleton.mp h]; decide⟩
theorem layers_ok {K row:List Int} (hK:K.length≤3) (hk:∀ q ∈ K,-1≤q∧q≤1) (h6:row.length≤6) (S:Sto):∃ (S':Sto) (l:Nat) (Ls:List (List Int)),F_least_layers [tupI row,tupI K] S=.ok (.ref l) S'∧S'[l]?=some (.lst (layD Ls))∧Lay K row Ls∧S.length≤l∧Pre S S':=by
 have z1:(1:Nat)≤sizeLine:=by decide
 have p0:Pre S (S ++ [.dic (encT [(0,1)]),.lst (layD [[0]])]):=Pre.app _ _
 have hd:dAt (S ++ [SO.dic (encT [(0,1)]),.lst (layD [[0]])]) S.length [(0,1)]:=.inl (by simp)
 have hl:(S ++ [SO.dic (encT [(0,1)]),.lst (layD [[0]])])[S.length + 1]?=some (.lst (layD [[0]])):=by
  rw [List.getElem?_append_right (by omega),show S.length + 1 - S.length=1 by omega]; rfl
 obtain ⟨S',Ls,a2,a4,e,q1,q2,q3⟩:=ll_loop hK hk (S0:=S) (some (tupI row)) (l:=S.length + 1) (by omega) row [] _ S.length [(0,1)] [[0]] none hd (by omega) Hist.zero (by
  show 1 * 3 ^ row.length≤729
  rw [Nat.one_mul]
  exact Nat.le_trans (Nat.pow_le_pow_right (by decide) h6) (by decide)) (Nat.le_refl _) p0 hl (lay0 K) (by simp; omega)
 rw [List.nil_append] at q2
 have es:sSet 3 (eNew (aCons (eTup (aCons (eC (.int 0)) aNil)) aNil)) [some (tupI row),some (tupI K),some (.ref S.length),none,none] (S ++ [.dic (encT [(0,1)])])=.ok (.nx [some (tupI row),some (tupI K),some (.ref S.length),some (.ref (S.length + 1)),none]) (S ++ [.dic (encT [(0,1)]),.lst (layD [[0]])]):=by
  have ht:aCons (eTup (aCons (eC (.int 0)) aNil)) aNil [some (tupI row),some (tupI K),some (.ref S.length),none,none] (S ++ [SO.dic (encT [(0,1)])])=.ok (layD [[0]]) (S ++ [.dic (encT [(0,1)])]):=aCons_go (eTup_go (xs:=[.int 0]) rfl z1) rfl
  have:eNew (aCons (eTup (aCons (eC (.int 0)) aNil)) aNil) [some (tupI row),some (tupI K),some (.ref S.length),none,none] (S ++ [SO.dic (encT [(0,1)])])=.ok (.ref (S ++ [SO.dic (encT [(0,1)])]).length) ((S ++ [.dic (encT [(0,1)])]) ++ [.lst (layD [[0]])]):=by
   unfold eNew
   rw [ht,R.bind_ok,if_pos (by show 1≤sizeLine; exact z1)]
  rw [show (S ++ [SO.dic (encT [(0,1)])]).length=S.length + 1 by simp,List.append_assoc] at this
  exact sSet_go this
 exact ⟨S',S.length + 1,Ls,fnM_rt (ρ:=[some (tupI row),some (tupI K),none,none,none]) rfl ((sSeq_go (sSet_go dicN_go)).trans ((sSeq_go es).trans ((sSeq_go ((sFor_seq (eVar_go rfl) rfl).trans e)).trans (sRet_go (eVar_go rfl))))),q1,q2,by omega,q3⟩
theorem in_tup {S:Sto} {neg:Bool} {v:Int} {L:List Int}:oIn neg S (.int v) (tupI L)=some (.bl (if neg then !decide (v ∈ L) else decide (v ∈ L))):=by
 have h1:(L.map D.int).all flatD=true:=List.all_eq_true.mpr fun d hd=>by
  obtain ⟨i,_,rfl⟩:=List.mem_map.mp hd; rfl
 have h2:((L.map D.int).any fun z=>eqF z (.int v))=decide (v ∈ L):=by
  rw [Bool.eq_iff_iff,List.any_eq_true,decide_eq_true_iff]
  constructor
  ·rintro ⟨d,hd,q⟩
   obtain ⟨i,hi,rfl⟩:=List.mem_map.mp hd
   have:i=v:=by simpa [eqF] using q
   rw [← this]; exact hi
  ·intro h
   exact ⟨.int v,List.mem_map.mpr ⟨v,h,rfl⟩,by simp [eqF]⟩
 unfold oIn
 simp only [seqOf]
 rw [if_pos ⟨rfl,h1⟩,h2]
noncomputable def lAt (S:Sto) (l:Nat) (xs:List D):Prop:=S[l]?=some (.lst xs) ∨ S[l]?=some (.flst xs)
theorem lAt.seq {S:Sto} {l:Nat} {xs:List D} (h:lAt S l xs):seqOf S (.ref l)=some xs:=by
 rcases h with h | h <;> simp [seqOf,h]
theorem ix_last {S:Sto} {l:Nat} {Ls:List (List Int)} {n:Nat} (h:lAt S l (layD Ls)) (hn:Ls.length=n + 1):oIx S (.ref l) (.int (-1))=some (tupI (Ls.getD n [])):=by
 unfold oIx
 simp only [h.seq]
 have hi:n < Ls.length:=by omega
 have e:atI (layD Ls) (-1)=(layD Ls)[n]?:=by
  unfold atI ixN
  have hl:(layD Ls).length=n + 1:=by rw [List.length_map,hn]
  rw [hl,if_neg (by omega),if_pos (by omega)]
  show (layD Ls)[((-1:Int) + ((n + 1:Nat):Int)).toNat]?=_
  rw [show ((-1:Int) + ((n + 1:Nat):Int)).toNat=n by omega]
 rw [e,List.getElem?_map,List.getElem?_eq_getElem hi,List.getD_eq_getElem?_getD,List.getElem?_eq_getElem hi]; rfl
theorem without_ok {K row:List Int} (hK:K.length≤3) (hk:∀ q ∈ K,-1≤q∧q≤1) (h6:row.length≤6) (v:Int) (S:Sto):∃ S':Sto,Pre S S'∧((Wo K row v∧F_least_without [.int v,tupI row,tupI K] S=.ok .non S') ∨ (¬ Wo K row v∧∃ (l:Nat) (Ls:List (List Int)),F_least_without [.int v,tupI row,tupI K] S=.ok (.ref l) S'∧S'[l]?=some (.lst (layD Ls))∧Lay K row Ls∧S.length≤l)):=by
 obtain ⟨S',l,Ls,e,hl,hL,l0,p⟩:=layers_ok hK hk h6 S
 have hx:=ix_last (S:=S') (.inl hl) hL.len
 have hm:=hL.mem row.length (Nat.le_refl _) v
 rw [List.take_length] at hm
 have ht:tV (eOp (oIn false) (eVar 0) (eOp oIx (eVar 3) (eUn oNeg (eC (.int 1))))) [some (.int v),some (tupI row),some (tupI K),some (.ref l)] S'=.ok (decide (v ∈ Ls.getD row.length [])) S':=tV_go (eOp_go (eVar_go rfl) (eOp_go (eVar_go rfl) rfl hx) in_tup)
 refine ⟨S',p,?_⟩
 by_cases c:Wo K row v
 ·rw [decide_eq_true (hm.mpr c)] at ht
  exact .inl ⟨c,fnM_rt (ρ:=[some (.int v),some (tupI row),some (tupI K),none]) rfl ((sSeq_go (sSet_go ((eCall_go (aCons_go (eVar_go rfl) (aCons_go (eVar_go rfl) rfl))).trans e))).trans (sRet_go ((eIf_t ht).trans rfl)))⟩
 ·rw [decide_eq_false (fun z=>c (hm.mp z))] at ht
  exact .inr ⟨c,l,Ls,fnM_rt (ρ:=[some (.int v),some (tupI row),some (tupI K),none]) rfl ((sSeq_go (sSet_go ((eCall_go (aCons_go (eVar_go rfl) (aCons_go (eVar_go rfl) rfl))).trans e))).trans (sRet_go ((eIf_f ht).trans (eVar_go rfl)))),hl,hL,l0⟩
noncomputable abbrev inB:SM:=(sSet 4 (eOp oAdd (eVar 4) (eComp (aSeq (eOp oIx (eVar 2) (eUn oNeg (eC (.int 1)))) itSeq) 1 [5,3] (.nm 0) tTrue (eOp oAdd (eVar 0) (eOp oMul (eVar 1) (eVar 2))))))
noncomputable abbrev lyB:SM:=(sSeq (sSet 4 (eLst aNil)) (sSeq (sFor (aSeq (eVar 1) itSeq) (.nm 5) inB) (sDrop (eMtL mAppend (eVar 2) (aCons (eB fTuple (aCons (eB fSrtS (aCons (eVar 4) aNil)) aNil)) aNil)))))
noncomputable def onS (K L:List Int) (x:Int):List Int:=K.flatMap fun q=>L.map fun h=>h + q * x
theorem onS_len (K L:List Int) (x:Int):(onS K L x).length=K.length * L.length:=by
 induction K with
 | nil=>simp [onS]
 | cons q K ih=>
  have:onS (q :: K) L x=(L.map fun h=>h + q * x) ++ onS K L x:=by simp [onS]
  rw [this,List.length_append,ih,List.length_map,List.length_cons,Nat.succ_mul]; omega
theorem in_loop {S:Sto} {l:Nat} {L:List Int} {x:Int} (hix:oIx S (.ref l) (.int (-1))=some (tupI L)) (hL:L.length≤1000) (r0 r1:Option D):∀ (K acc:List Int) (r5:Option D),(∀ q ∈ K,-1≤q∧q≤1)→acc.length + K.length * L.length≤5000→
  ∃ a5:Option D,forL (.nm 5) inB (K.map .int) [r0,r1,some (.ref l),some (.int x),some (.lst (acc.map .int)),r5] S=.ok (.nx [r0,r1,some (.ref l),some (.int x),some (.lst ((acc ++ onS K L x).map .int)),a5]) S
 | [],acc,r5,_,_=>⟨r5,by simp [forL,onS]⟩
 | q :: K,acc,r5,hk,hb=>by
  have z:(10000:Nat)≤sizeLine:=by decide
  have hq:=hk q (.head _)
  rw [List.length_cons,Nat.succ_mul] at hb
  have hc:eComp (aSeq (eOp oIx (eVar 2) (eUn oNeg (eC (.int 1)))) itSeq) 1 [5,3] (.nm 0) tTrue (eOp oAdd (eVar 0) (eOp oMul (eVar 1) (eVar 2))) [r0,r1,some (.ref l),some (.int x),some (.lst (acc.map .int)),some (.int q)] S=.ok (.lst (L.map fun h=>D.int (h + q * x))) S:=by
   refine eComp_map (enc:=D.int) (tl:=[some (.int q),some (.int x)]) L ?_ (by omega) rfl fun h _=>eOp_go (eVar_go rfl) (eOp_go (eVar_go rfl) (eVar_go rfl) (oMul_i (.inl ⟨by omega,by omega⟩))) rfl
   unfold aSeq
   rw [eOp_go (eVar_go rfl) rfl hix,R.bind_ok]
   rfl
  obtain ⟨a5,e⟩:=in_loop hix hL r0 r1 K (acc ++ L.map fun h=>h + q * x) (some (.int q)) (fun y hy=>hk y (.tail _ hy)) (by rw [List.length_append,List.length_map]; omega)
  refine ⟨a5,?_⟩
  have es:acc ++ onS (q :: K) L x=(acc ++ L.map fun h=>h + q * x) ++ onS K L x:=by simp [onS]
  rw [es,List.map_cons]
  refine (forL_cons (r1:=[r0,r1,some (.ref l),some (.int x),some (.lst (acc.map .int)),some (.int q)]) rfl (sSet_go (eOp_go (eVar_go rfl) hc ?_))).trans e
  have em:(L.map fun h=>D.int (h + q * x))=(L.map fun h=>h + q * x).map D.int:=by rw [List.map_map]; rfl
  rw [em,List.map_append]
  exact oAdd_l (by rw [List.length_map,List.length_map,List.length_map]; omega)
theorem intsOf_m:∀ xs:List Int,intsOf (xs.map D.int)=some xs
 | []=>rfl
 | x :: xs=>by
  rw [List.map_cons]
  unfold intsOf
  rw [intsOf_m xs]; rfl
theorem srtS_ok {S:Sto} {f:List Int} (h:f.length≤4000):fSrtS S [.lst (f.map .int)]=some (.lst ((sortZ (ST.uniqZ f)).map .int)):=by
 show (match intsOf (f.map D.int) with | some ns=>if ns.length + 1 < 4096 then some (D.lst ((sortZ (ST.uniqZ ns)).map .int)) else none | none=>none)=_
 rw [intsOf_m]
 exact if_pos (by omega)
theorem uniq_lt (f:List Int):(sortZ (ST.uniqZ f)).Pairwise (· < ·):=by
 have b:(sortZ (ST.uniqZ f)).Pairwise (· ≠ ·):=List.nodup_iff_pairwise_ne.mp ((sortZ_perm _).nodup_iff.mpr (ST.uniqZ_nd f))
 exact ((sortZ_sorted _).and b).imp fun ⟨x,y⟩=>by omega
theorem uniq_mem (f:List Int) (v:Int):v ∈ sortZ (ST.uniqZ f)↔v ∈ f:=by rw [(sortZ_perm _).mem_iff,ST.uniqZ_mem]
theorem uniq_len (f:List Int):(sortZ (ST.uniqZ f)).length≤f.length:=by
 rw [(sortZ_perm _).length_eq]
 have:=ST.fold_len f []
 show (f.foldl ST.ins1 []).length≤_
 simpa using this
theorem ly_loop {K:List Int} (hK:K.length≤3) (hk:∀ q ∈ K,-1≤q∧q≤1) {S0:Sto} (r0:Option D) {l:Nat} (hl0:S0.length≤l):∀ (xs pre:List Int) (S:Sto) (Ls:List (List Int)) (r3 r4 r5:Option D),(Ls.getD pre.length []).length * 3 ^ xs.length≤729→Pre S0 S→S[l]?=some (.lst (layD Ls))→Lay K pre Ls→pre.length + xs.length≤10→
  ∃ (S':Sto) (Ls':List (List Int)) (a3 a4 a5:Option D),forL (.nm 3) lyB (xs.map .int) [r0,some (tupI K),some (.ref l),r3,r4,r5] S=.ok (.nx [r0,some (tupI K),some (.ref l),a3,a4,a5]) S'∧S'[l]?=some (.lst (layD Ls'))∧Lay K (pre ++ xs) Ls'∧Pre S0 S'
 | [],pre,S,Ls,r3,r4,r5,_,p,hl,hL,_=>⟨S,Ls,r3,r4,r5,rfl,hl,by rw [List.append_nil]; exact hL,p⟩
 | x :: xs,pre,S,Ls,r3,r4,r5,hz,p,hl,hL,hb=>by
  rw [List.length_cons] at hz hb
  have z:(1000:Nat)≤sizeLine:=by decide
  obtain ⟨z1,z2⟩:=bd_step hK hz
  have hll:l < S.length:=(List.getElem?_eq_some_iff.mp hl).1
  have hix:=ix_last (S:=S) (.inl hl) hL.len
  have hLl:(Ls.getD pre.length []).length≤1000:=by
   have h1:1≤3 ^ (xs.length + 1):=Nat.one_le_pow _ _ (by decide)
   have:=Nat.mul_le_mul_left (Ls.getD pre.length []).length h1
   omega
  obtain ⟨a5,ei⟩:=in_loop (x:=x) hix hLl r0 (some (tupI K)) K [] r5 hk (by rw [Nat.mul_comm,List.length_nil,Nat.zero_add]; omega)
  have e0:([]:List Int) ++ onS K (Ls.getD pre.length []) x=onS K (Ls.getD pre.length []) x:=rfl
  rw [e0] at ei
  have fl:(onS K (Ls.getD pre.length []) x).length≤1000:=by rw [onS_len,Nat.mul_comm]; exact z1
  have fm:∀ v,v ∈ sortZ (ST.uniqZ (onS K (Ls.getD pre.length []) x))↔Wo K (pre ++ [x]) v:=fun v=>by
   rw [uniq_mem,← wsL_mem,wsL_snoc,mem_fS]
   have hm:=hL.mem pre.length (Nat.le_refl _)
   rw [List.take_length] at hm
   unfold onS
   simp only [List.mem_flatMap,List.mem_map]
   constructor
   ·rintro ⟨q,hq,h,hh,e⟩
    exact ⟨h,wsL_mem.mpr ((hm h).mp hh),q,hq,e⟩
   ·rintro ⟨h,hh,q,hq,e⟩
    exact ⟨q,hq,h,(hm h).mpr (wsL_mem.mp hh),e⟩
  have nl:(sortZ (ST.uniqZ (onS K (Ls.getD pre.length []) x))).length≤(Ls.getD pre.length []).length * K.length:=Nat.le_trans (uniq_len _) (by rw [onS_len,Nat.mul_comm]; exact Nat.le_refl _)
  have hs:=srtS_ok (S:=S) (f:=onS K (Ls.getD pre.length []) x) (by omega)
  generalize hM:sortZ (ST.uniqZ (onS K (Ls.getD pre.length []) x))=M at *
  have hup:M.Pairwise (· < ·):=by rw [← hM]; exact uniq_lt _
  have hap:=append_go (v:=tupI M) hl (by rw [List.length_map,hL.len]; omega)
  have eL:layD Ls ++ [tupI M]=layD (Ls ++ [M]):=by unfold layD; rw [List.map_append]; rfl
  rw [eL] at hap
  have hL':=hL.snoc (x:=x) hup fm (by omega)
  have eb:lyB [r0,some (tupI K),some (.ref l),some (.int x),r4,r5] S=.ok (.nx [r0,some (tupI K),some (.ref l),some (.int x),some (.lst ((onS K (Ls.getD pre.length []) x).map .int)),a5]) (S.set l (.lst (layD (Ls ++ [M])))):=
   (sSeq_go (sSet_go (eLst_go (xs:=[]) rfl (Nat.zero_le _)))).trans ((sSeq_go ((sFor_seq (eVar_go rfl) rfl).trans ei)).trans (sDrop_go ((eMtL_go (eVar_go rfl) (isL_ref hl) (aCons_go (eB_go (aCons_go (eB_go (aCons_go (eVar_go rfl) rfl) hs) rfl) rfl) rfl)).trans hap)))
  have p2:Pre S0 (S.set l (.lst (layD (Ls ++ [M])))):=p.set hl0 _
  have hl2:(S.set l (.lst (layD (Ls ++ [M]))))[l]?=some (.lst (layD (Ls ++ [M]))):=List.getElem?_set_self hll
  have hg:(Ls ++ [M]).getD (pre ++ [x]).length []=M:=by
   rw [List.length_append,List.length_singleton,List.getD_eq_getElem?_getD,List.getElem?_append_right (by rw [hL.len]; omega),hL.len]
   simp
  have hz':((Ls ++ [M]).getD (pre ++ [x]).length []).length * 3 ^ xs.length≤729:=by
   rw [hg]
   exact Nat.le_trans (Nat.mul_le_mul_right _ nl) z2
  obtain ⟨S',Ls',a3,a4,a5',e2,q1,q2,q3⟩:=ly_loop hK hk r0 hl0 xs (pre ++ [x]) _ (Ls ++ [M]) (some (.int x)) (some (.lst ((onS K (Ls.getD pre.length []) x).map .int))) a5 hz' p2 hl2 hL' (by rw [List.length_append,List.length_singleton]; omega)
  refine ⟨S',Ls',a3,a4,a5',?_,q1,?_,q3⟩
  ·rw [List.map_cons]
   exact (forL_cons (r1:=[r0,some (tupI K),some (.ref l),some (.int x),r4,r5]) rfl eb).trans e2
  ·rw [List.append_assoc] at q2
   exact q2
theorem llayers_ok {K row:List Int} (hK:K.length≤3) (hk:∀ q ∈ K,-1≤q∧q≤1) (h6:row.length≤6) (S:Sto):∃ (S':Sto) (l:Nat) (Ls:List (List Int)),F__law_layers [tupI row,tupI K] S=.ok (.ref l) S'∧S'[l]?=some (.lst (layD Ls))∧Lay K row Ls∧S.length≤l∧Pre S S':=by
 have z1:(1:Nat)≤sizeLine:=by decide
 have hl:(S ++ [SO.lst (layD [[0]])])[S.length]?=some (.lst (layD [[0]])):=by simp
 obtain ⟨S',Ls,a3,a4,a5,e,q1,q2,q3⟩:=ly_loop hK hk (S0:=S) (some (tupI row)) (l:=S.length) (Nat.le_refl _) row [] _ [[0]] none none none (by
  show 1 * 3 ^ row.length≤729
  rw [Nat.one_mul]
  exact Nat.le_trans (Nat.pow_le_pow_right (by decide) h6) (by decide)) (Pre.app _ _) hl (lay0 K) (by simp; omega)
 rw [List.nil_append] at q2
 have es:sSet 2 (eNew (aCons (eTup (aCons (eC (.int 0)) aNil)) aNil)) [some (tupI row),some (tupI K),none,none,none,none] S=.ok (.nx [some (tupI row),some (tupI K),some (.ref S.length),none,none,none]) (S ++ [.lst (layD [[0]])]):=by
  have ht:aCons (eTup (aCons (eC (.int 0)) aNil)) aNil [some (tupI row),some (tupI K),none,none,none,none] S=.ok (layD [[0]]) S:=aCons_go (eTup_go (xs:=[.int 0]) rfl z1) rfl
  refine sSet_go ?_
  unfold eNew
  rw [ht,R.bind_ok,if_pos (by show 1≤sizeLine; exact z1)]
 exact ⟨S',S.length,Ls,fnM_rt (ρ:=[some (tupI row),some (tupI K),none,none,none,none]) rfl ((sSeq_go es).trans ((sSeq_go ((sFor_seq (eVar_go rfl) rfl).trans e)).trans (sRet_go (eVar_go rfl)))),q1,q2,Nat.le_refl _,q3⟩
theorem lay_uniq {K row:List Int} {A B:List (List Int)} (a:Lay K row A) (b:Lay K row B):A=B:=by
 apply List.ext_getElem?
 intro i
 by_cases h:i≤row.length
 ·have h1:i < A.length:=by rw [a.len]; omega
  have h2:i < B.length:=by rw [b.len]; omega
  have ea:A.getD i []=A[i]:=by rw [List.getD_eq_getElem?_getD,List.getElem?_eq_getElem h1]; rfl
  have eb:B.getD i []=B[i]:=by rw [List.getD_eq_getElem?_getD,List.getElem?_eq_getElem h2]; rfl
  have u1:=a.up _ (List.getElem_mem h1)
  have u2:=b.up _ (List.getElem_mem h2)
  have hm:∀ v,v ∈ A[i]↔v ∈ B[i]:=fun v=>by rw [← ea,← eb,a.mem i h v,b.mem i h v]
  have nd:∀ L:List Int,L.Pairwise (· < ·)→L.Nodup:=fun L h=>List.nodup_iff_pairwise_ne.mpr (h.imp fun h=>by omega)
  have pr:A[i].Perm B[i]:=(List.perm_ext_iff_of_nodup (nd _ u1) (nd _ u2)).mpr hm
  rw [List.getElem?_eq_getElem h1,List.getElem?_eq_getElem h2,sorted_uniq pr (u1.imp fun h=>by omega) (u2.imp fun h=>by omega)]
 ·rw [List.getElem?_eq_none (by rw [a.len]; omega),List.getElem?_eq_none (by rw [b.len]; omega)]
theorem sum_bdd {c:Int}:∀ {xs:List Int},(∀ x ∈ xs,x≤c)→xs.sum≤xs.length * c
 | [],_=>by simp
 | x :: xs,h=>by
  have h1:=h x (.head _)
  have h2:=sum_bdd (xs:=xs) fun y hy=>h y (.tail _ hy)
  rw [List.sum_cons,List.length_cons,Int.natCast_add,Int.add_mul]
  omega
noncomputable def Sw (nl:Bool) (k b:Nat) (d:D):Prop:=∃ p,toPy d=some p∧p.showable=true∧p.depth≤k∧p.shown.length≤b∧(if nl=true then noL d=true else p.hasDict=false)
theorem sw_int {nl:Bool} {i:Int} (h:i.natAbs < 10 ^ 30):Sw nl 3 64 (.int i):=sh_int h
theorem sws {nl:Bool} {k b:Nat}:∀ {xs:List D},(∀ x ∈ xs,Sw nl k b x)→∃ ps,toPys xs=some ps∧PyData.showableAll ps=true∧PyData.depthAll ps≤k∧((PyData.shownAll ps).map (·.length)).sum≤b * xs.length∧(PyData.shownAll ps).length=xs.length∧(if nl=true then noLs xs=true else PyData.hasDictAll ps=false)
 | [],_=>⟨[],rfl,rfl,by show 0≤k; omega,by show 0≤_; omega,rfl,by cases nl <;> rfl⟩
 | x :: xs,h=>by
  obtain ⟨p,h1,h2,h3,h4,h5⟩:=h x List.mem_cons_self
  obtain ⟨ps,k1,k2,k3,k4,k5,k6⟩:=sws fun y hy=>h y (List.mem_cons_of_mem _ hy)
  refine ⟨p :: ps,by unfold toPys; rw [h1,k1],by unfold PyData.showableAll; rw [h2,k2]; rfl,by unfold PyData.depthAll; omega,?_,?_,?_⟩
  ·unfold PyData.shownAll
   rw [List.map_cons,List.sum_cons,List.length_cons,Nat.mul_add]
   omega
  ·unfold PyData.shownAll
   rw [List.length_cons,List.length_cons,k5]
  ·cases nl with
   | true=>
    simp only [if_true] at h5 k6 ⊢
    unfold noLs
    rw [h5,k6]; rfl
   | false=>
    simp only [Bool.false_eq_true,if_false] at h5 k6 ⊢
    unfold PyData.hasDictAll
    rw [h5,k6]; rfl
theorem sw_tup {nl:Bool} {k b n:Nat} {xs:List D} (hl:xs.length≤n) (h:∀ x ∈ xs,Sw nl k b x):Sw nl (k + 1) (b * n + 2 * n + 3) (.tup xs):=by
 obtain ⟨ps,k1,k2,k3,k4,k5,k6⟩:=sws h
 refine ⟨.tuple ps,by unfold toPy; rw [k1]; rfl,by unfold PyData.showable; exact k2,by unfold PyData.depth; omega,?_,?_⟩
 ·unfold PyData.shown
  have:=tupleText_len_le (PyData.shownAll ps)
  have hm:b * xs.length≤b * n:=Nat.mul_le_mul_left _ hl
  omega
 ·cases nl with
  | true=>simp only [if_true] at k6 ⊢; unfold noL; exact k6
  | false=>simp only [Bool.false_eq_true,if_false] at k6 ⊢; unfold PyData.hasDict; exact k6
theorem wo_smallK {K xs:List Int} (kd:Kd K) (h:∀ x ∈ xs,okN x) (hl:xs.length≤16) {v:Int} (hv:Wo K xs v):v.natAbs < 10 ^ 30:=by
 obtain ⟨h1,h2⟩:=Wo_bd kd (fun x hx=>(h x hx).1) hv
 have hs:xs.sum≤xs.length * 1000000000000000:=sum_bdd fun x hx=>by have:=(h x hx).2; omega
 have h3:(xs.length:Int) * 1000000000000000≤16 * 1000000000000000:=Int.mul_le_mul_of_nonneg_right (by omega) (by decide)
 exact Nat.lt_of_le_of_lt (show v.natAbs≤16 * 1000000000000000 by omega) (by decide)
theorem rep_lays {K row:List Int} (kd:Kd K) (hn:∀ x ∈ row,okN x) (h6:row.length≤6) {Ls:List (List Int)} (hL:Lay K row Ls):∃ t,∀ (S:Sto) (f:Nat),S[f]?=some (.lst (layD Ls))→fReprS S [.ref f]=some (.str t):=by
 have hs:∀ x ∈ layD Ls,Sw false 4 (64 * 1000 + 2 * 1000 + 3) x:=fun x hx=>by
  obtain ⟨L,hm,rfl⟩:=List.mem_map.mp hx
  refine sw_tup (n:=1000) (by rw [List.length_map]; exact hL.sm L hm) fun y hy=>?_
  obtain ⟨v,hv,rfl⟩:=List.mem_map.mp hy
  obtain ⟨i,hi,e⟩:=List.mem_iff_getElem.mp hm
  have hi':i≤row.length:=by rw [hL.len] at hi; omega
  have eg:Ls.getD i []=L:=by rw [List.getD_eq_getElem?_getD,List.getElem?_eq_getElem hi,e]; rfl
  have hw:=(hL.mem i hi' v).mp (by rw [eg]; exact hv)
  exact sw_int (wo_smallK kd (fun x hx=>hn x (List.mem_of_mem_take hx)) (by rw [List.length_take]; omega) hw)
 obtain ⟨ps,k1,k2,k3,k4,k5,k6⟩:=sws hs
 have z:(1000000:Nat)≤sizeLine:=by decide
 refine ⟨(PyData.list ps).shown,fun S f hf=>?_⟩
 have e2:toPyS S (.ref f)=some (.list ps):=by
  unfold toPyS
  simp only [hf,k1,Option.map_some]
 show (match toPyS S (.ref f) with | some p=>if okPyS p then some (D.str p.shown) else none | none=>none)=_
 rw [e2]
 have hlen:(layD Ls).length≤7:=by rw [List.length_map,hL.len]; omega
 refine if_pos ⟨by unfold PyData.showable; exact k2,by unfold PyData.depth; omega,?_,by unfold PyData.hasDict; simpa using k6⟩
 unfold PyData.shown
 have:=listText_len_le (PyData.shownAll ps)
 omega
theorem rep_none (S:Sto):fReprS S [.non]=some (.str PyData.none.shown):=by
 show (if okPyS PyData.none then some (D.str PyData.none.shown) else none)=_
 exact if_pos (by decide +kernel)
theorem ne_self {S:Sto} {t:Str}:oNeP S (.str t) (.str t)=some (.bl false):=by simp [oNeP,eqP,eqS]
theorem lf_ok {row:List Int} (hr:Row row) (h6:row.length≤6) (v:Int) (S:Sto):∃ S':Sto,Pre S S'∧((Wo KS row v∧F_layers_for_n [tupI row,.int v] S=.ok .non S') ∨ (¬ Wo KS row v∧∃ (l:Nat) (Ls:List (List Int)),F_layers_for_n [tupI row,.int v] S=.ok (.ref l) S'∧S'[l]?=some (.lst (layD Ls))∧Lay KS row Ls∧S.length≤l)):=by
 obtain ⟨S',p,h⟩:=without_ok (K:=KS) (row:=row) (by decide) (by decide) h6 v S
 refine ⟨S',p,?_⟩
 have go:∀ {d:D},F_least_without [.int v,tupI row,tupI KS] S=.ok d S'→F_layers_for_n [tupI row,.int v] S=.ok d S':=fun h=>fnM_rt (ρ:=[some (tupI row),some (.int v)]) rfl ((sSeq_go (sDrop_go ((eCall_go (aCons_go (eVar_go rfl) (aCons_go (eVar_go rfl) rfl))).trans (fn_ok hr (by omega) v S)))).trans (sRet_go ((eCall_go (aCons_go (eVar_go rfl) (aCons_go (eVar_go rfl) (aCons_go rfl rfl)))).trans h)))
 rcases h with ⟨a,b⟩ | ⟨a,l,Ls,b,c,d,e⟩
 ·exact .inl ⟨a,go b⟩
 ·exact .inr ⟨a,l,Ls,go b,c,d,e⟩
theorem wf_ok {row:List Int} (hr:Row row) (h6:row.length≤6) (v:Int) (S:Sto):∃ S':Sto,Pre S S'∧((Wo KP row v∧F_wide_layers_for_n [tupI row,.int v] S=.ok .non S') ∨ (¬ Wo KP row v∧∃ (l:Nat) (Ls:List (List Int)),F_wide_layers_for_n [tupI row,.int v] S=.ok (.ref l) S'∧S'[l]?=some (.lst (layD Ls))∧Lay KP row Ls∧S.length≤l)):=by
 obtain ⟨S',p,h⟩:=without_ok (K:=KP) (row:=row) (by decide) (by decide) h6 v S
 refine ⟨S',p,?_⟩
 have go:∀ {d:D},F_least_without [.int v,tupI row,tupI KP] S=.ok d S'→F_wide_layers_for_n [tupI row,.int v] S=.ok d S':=fun h=>fnM_rt (ρ:=[some (tupI row),some (.int v)]) rfl ((sSeq_go (sDrop_go ((eCall_go (aCons_go (eVar_go rfl) (aCons_go (eVar_go rfl) rfl))).trans (fn_ok hr (by omega) v S)))).trans (sRet_go ((eCall_go (aCons_go (eVar_go rfl) (aCons_go (eVar_go rfl) (aCons_go rfl rfl)))).trans h)))
 rcases h with ⟨a,b⟩ | ⟨a,l,Ls,b,c,d,e⟩
 ·exact .inl ⟨a,go b⟩
 ·exact .inr ⟨a,l,Ls,go b,c,d,e⟩
theorem laps_le (ns:List Int) (c:Nat) (hn:ns.length≤63) (hc:1≤c∧c≤63) (r:Rho) (hr:r[0]?=some (some (.fz (ns.map .int)))) (S:Sto):∃ n:Nat,aRange1 (aCons (eB fMax (aCons (eC (.int 1)) (aCons (eB fMin (aCons (eB fLen (aCons (eVar 0) aNil)) (aCons (eC (.int c)) aNil))) aNil))) aNil) r S=.ok ((List.range n).map (fun (i:Nat)=>D.int i)) S∧n≤c:=by
 refine ⟨max 1 (min ns.length c),aRange1_ok ?_ (by omega),by omega⟩
 have e:(if (1:Int) < (if (c:Int) < (ns.length:Int) then (c:Int) else (ns.length:Int)) then (if (c:Int) < (ns.length:Int) then (c:Int) else (ns.length:Int)) else 1)=((max 1 (min ns.length c):Nat):Int):=by
  split <;> split <;> omega
 rw [← e]
 simp [aCons,aNil,eB,eC,eVar,R.bind,R.of,hr,fLen,seqOf,fMin,fMax]
theorem number_ok {S:Sto} {b:Nat} {row:List Int} (g:Gr b S S) (h6:row.length≤10):∃ (v:Int) (S':Sto),F__law_number [.ref b,tupI row] S=.ok (.int v) S'∧Gr b S S':=by
 obtain ⟨q,S1,e1,a0,a1,g1⟩:=take_ok g (many:=30) (by decide) (by decide)
 obtain ⟨j,S2,e2,b0,b1,g2⟩:=take_ok g1.self (many:=9) (by decide) (by decide)
 obtain ⟨n,rfl⟩:∃ n:Nat,j=n:=⟨j.toNat,by omega⟩
 generalize hs:q - 15=s
 have ss:smallI s:=⟨by omega,by omega⟩
 have z1:(1:Nat)≤sizeLine:=by decide
 have z9:(9:Nat)≤sizeLine:=by decide
 have z100:(100:Nat)≤sizeLine:=by decide
 obtain ⟨x0,hx0⟩:∃ x0:Int,∀ T:Sto,oIx T (.tup (row.map .int ++ [.int 1])) (.int 0)=some (.int x0):=by
  cases row with
  | nil=>exact ⟨1,fun T=>rfl⟩
  | cons x row=>exact ⟨x,fun T=>atI_nat' (xs:=D.int x :: (row.map D.int ++ [D.int 1])) (i:=0) (Nat.zero_lt_succ _)⟩
 have hl:(eLst (aCons (eC (.int 0)) (aCons (eVar 2) (aCons (eOp oSub (eC (.int 0)) (eVar 2)) (aCons (eOp oSub (eVar 2) (eC (.int 2))) (aCons (eVar 3) (aCons (eOp oAdd (eOp oAdd (eVar 2) (eC (.int 1))) (eOp oMul (eVar 3) (eVar 3))) (aCons (eVar 3) (aCons (eOp oSub (eVar 2) (eOp oMul (eC (.int 2)) (eOp oIx (eOp oAdd (eVar 1) (eTup (aCons (eC (.int 1)) aNil))) (eC (.int 0))))) (aCons (eVar 3) aNil)))))))))) [some (.ref b),some (tupI row),some (.int row.sum),some (.int s),none] S1=.ok (.lst ([0,row.sum,0 - row.sum,row.sum - 2,s,row.sum + 1 + s * s,s,row.sum - 2 * x0,s].map .int)) S1:=by
  have a1:∀ T:Sto,oAdd T (tupI row) (.tup [.int 1])=some (.tup (row.map .int ++ [.int 1])):=fun T=>oAdd_t (by simp; omega)
  have m1:∀ T:Sto,oMul T (.int s) (.int s)=some (.int (s * s)):=fun T=>oMul_i (.inl ss)
  have m2:∀ (T:Sto) (y:Int),oMul T (.int 2) (.int y)=some (.int (2 * y)):=fun T y=>oMul_i (.inl (by decide))
  exact eLst_go (aCons_go rfl (aCons_go (eVar_go rfl) (aCons_go (eOp_go rfl (eVar_go rfl) rfl) (aCons_go (eOp_go (eVar_go rfl) rfl rfl) (aCons_go (eVar_go rfl) (aCons_go (eOp_go (eOp_go (eVar_go rfl) rfl rfl) (eOp_go (eVar_go rfl) (eVar_go rfl) (m1 _)) rfl) (aCons_go (eVar_go rfl) (aCons_go (eOp_go (eVar_go rfl) (eOp_go rfl (eOp_go (eOp_go (eVar_go rfl) (eTup_go (xs:=[.int 1]) rfl z1) (a1 _)) rfl (hx0 _)) (m2 _ _)) rfl) (aCons_go (eVar_go rfl) rfl))))))))) z9
 generalize hL:([0,row.sum,0 - row.sum,row.sum - 2,s,row.sum + 1 + s * s,s,row.sum - 2 * x0,s]:List Int)=L at hl
 have hLn:n < L.length:=by rw [← hL]; show n < 9; omega
 refine ⟨L[n],S2,?_,g1.trans g2⟩
 have hix:oIx S2 (.lst (L.map .int)) (.int (n:Int))=some (.int L[n]):=by
  have:=atI_nat' (xs:=L.map D.int) (i:=n) (by rw [List.length_map]; exact hLn)
  rw [List.getElem_map] at this
  exact this
 have t1:eOp oSub (eCall F__law_take (aCons (eVar 0) (aCons (eC (.int 30)) aNil))) (eC (.int 15)) [some (.ref b),some (tupI row),some (.int row.sum),none,none] S=.ok (.int s) S1:=by
  rw [← hs]
  exact eOp_go ((eCall_go (aCons_go (eVar_go rfl) (aCons_go rfl rfl))).trans e1) rfl rfl
 exact fnM_rt (ρ:=[some (.ref b),some (tupI row),none,none,none]) rfl ((sSeq_go (sSet_go (eB_go (aCons_go (eVar_go rfl) rfl) fSum_t))).trans ((sSeq_go (sSet_go t1)).trans ((sSeq_go (sSet_go hl)).trans (sRet_go (eOp_go (eVar_go rfl) ((eCall_go (aCons_go (eVar_go rfl) (aCons_go rfl rfl))).trans e2) hix)))))
noncomputable abbrev trnB:SM:=(sSeq (sSet 10 (eIf (tV (eOp oEqP (eVar 6) (eC (.int 0)))) (eCall F_layers_for_n (aCons (eVar 3) (aCons (eVar 5) aNil))) (eCall F_wide_layers_for_n (aCons (eVar 3) (aCons (eVar 5) aNil))))) (sSeq (sIf (tV (eOp oNeP (eB fReprS (aCons (eVar 10) aNil)) (eB fReprS (aCons (eVar 8) aNil)))) (sRet (eC (.bl false))) sSkip) (sIf (tV (eOp (oIsN true) (eVar 8) (eC .non))) (sDrop (eMtL mAppend (eVar 10) (aCons (eTup aNil) aNil))) sSkip)))
noncomputable abbrev kndB:SM:=(sSeq (sSet 7 (eCall F__law_layers (aCons (eVar 3) (aCons (eOp oIx (eLst (aCons (eTup (aCons (eUn oNeg (eC (.int 1))) (aCons (eC (.int 1)) aNil))) (aCons (eTup (aCons (eUn oNeg (eC (.int 1))) (aCons (eC (.int 0)) (aCons (eC (.int 1)) aNil)))) aNil))) (eVar 6)) aNil)))) (sSeq (sSet 8 (eOp oIx (eLst (aCons (eVar 7) (aCons (eC .non) aNil))) (eB fInt (aCons (eOp (oIn false) (eVar 5) (eOp oIx (eVar 7) (eUn oNeg (eC (.int 1))))) aNil)))) (sFor (aRange1 (aCons (eC (.int 2)) aNil)) (.nm 9) trnB)))
noncomputable abbrev lapB:SM:=(sSeq (sSet 5 (eCall F__law_number (aCons (eVar 2) (aCons (eVar 3) aNil)))) (sFor (aRange1 (aCons (eC (.int 2)) aNil)) (.nm 6) kndB))
noncomputable abbrev lawB:SM:=(sSeq (sSet 2 (eCall F__law_box (aCons (eVar 0) (aCons (eVar 1) aNil)))) (sSeq (sSet 3 (eCall F__law_row (aCons (eVar 2) (aCons (eC (.int 6)) aNil)))) (sFor (aRange1 (aCons (eC (.int 3)) aNil)) (.nm 4) lapB)))
noncomputable abbrev e10:EM:=(eIf (tV (eOp oEqP (eVar 6) (eC (.int 0)))) (eCall F_layers_for_n (aCons (eVar 3) (aCons (eVar 5) aNil))) (eCall F_wide_layers_for_n (aCons (eVar 3) (aCons (eVar 5) aNil))))
noncomputable def kOf:Nat→List Int
 | 0=>KS
 | _=>KP
theorem kd_of:∀ j,Kd (kOf j)
 | 0=>kdS
 | _ + 1=>kdP
theorem e10_ok {row:List Int} (hr:Row row) (h6:row.length≤6) (v:Int) (r0 r1 r2 r4 r7 r8 r9 r10:Option D) (S:Sto):∀ j:Nat,∃ S':Sto,Pre S S'∧((Wo (kOf j) row v∧e10 [r0,r1,r2,some (tupI row),r4,some (.int v),some (.int (j:Int)),r7,r8,r9,r10] S=.ok .non S') ∨ (¬ Wo (kOf j) row v∧∃ (l:Nat) (Ls:List (List Int)),e10 [r0,r1,r2,some (tupI row),r4,some (.int v),some (.int (j:Int)),r7,r8,r9,r10] S=.ok (.ref l) S'∧S'[l]?=some (.lst (layD Ls))∧Lay (kOf j) row Ls∧S.length≤l))
 | 0=>by
  obtain ⟨S',p,h⟩:=lf_ok hr h6 v S
  have go:∀ {d:D},F_layers_for_n [tupI row,.int v] S=.ok d S'→e10 [r0,r1,r2,some (tupI row),r4,some (.int v),some (.int ((0:Nat):Int)),r7,r8,r9,r10] S=.ok d S':=fun h=>(eIf_t (tV_go (eOp_go (eVar_go rfl) rfl rfl))).trans ((eCall_go (aCons_go (eVar_go rfl) (aCons_go (eVar_go rfl) rfl))).trans h)
  rcases h with ⟨a,b⟩ | ⟨a,l,Ls,b,c⟩
  ·exact ⟨S',p,.inl ⟨a,go b⟩⟩
  ·exact ⟨S',p,.inr ⟨a,l,Ls,go b,c⟩⟩
 | j + 1=>by
  obtain ⟨S',p,h⟩:=wf_ok hr h6 v S
  have ht:tV (eOp oEqP (eVar 6) (eC (.int 0))) [r0,r1,r2,some (tupI row),r4,some (.int v),some (.int ((j + 1:Nat):Int)),r7,r8,r9,r10] S=.ok false S:=tV_go (eOp_go (eVar_go rfl) rfl (by rw [oEqP_i,decide_eq_false (by omega)]))
  have go:∀ {d:D},F_wide_layers_for_n [tupI row,.int v] S=.ok d S'→e10 [r0,r1,r2,some (tupI row),r4,some (.int v),some (.int ((j + 1:Nat):Int)),r7,r8,r9,r10] S=.ok d S':=fun h=>(eIf_f ht).trans ((eCall_go (aCons_go (eVar_go rfl) (aCons_go (eVar_go rfl) rfl))).trans h)
  rcases h with ⟨a,b⟩ | ⟨a,l,Ls,b,c⟩
  ·exact ⟨S',p,.inl ⟨a,go b⟩⟩
  ·exact ⟨S',p,.inr ⟨a,l,Ls,go b,c⟩⟩
open Classical in
noncomputable def dueD (K row:List Int) (v:Int) (l:Nat):D:=if Wo K row v then .non else .ref l
theorem trn_ok {row:List Int} (hr:Row row) (h6:row.length≤6) (hn:∀ x ∈ row,okN x) (v:Int) {j l0:Nat} {L0:List (List Int)} (hL0:Lay (kOf j) row L0) (r0 r1 r2 r4 r7 r9 r10:Option D) {S:Sto} (h0:S[l0]?=some (.lst (layD L0))):
  ∃ (S':Sto) (a10:Option D),trnB [r0,r1,r2,some (tupI row),r4,some (.int v),some (.int (j:Int)),r7,some (dueD (kOf j) row v l0),r9,r10] S=.ok (.nx [r0,r1,r2,some (tupI row),r4,some (.int v),some (.int (j:Int)),r7,some (dueD (kOf j) row v l0),r9,a10]) S'∧Pre S S':=by
 have z0:(0:Nat)≤sizeLine:=Nat.zero_le _
 have z:(1000:Nat)≤sizeLine:=by decide
 have hl0:l0 < S.length:=(List.getElem?_eq_some_iff.mp h0).1
 obtain ⟨S',p,h⟩:=e10_ok hr h6 v r0 r1 r2 r4 r7 (some (dueD (kOf j) row v l0)) r9 r10 S j
 rcases h with ⟨hw,e⟩ | ⟨hw,l,Ls,e,hl,hL,hs⟩
 ·have ed:dueD (kOf j) row v l0=.non:=if_pos hw
  rw [ed] at e ⊢
  refine ⟨S',some .non,?_,p⟩
  refine (sSeq_go (sSet_go e)).trans ?_
  refine (sSeq_go ((sIf_f (tV_go (eOp_go (eB_go (aCons_go (eVar_go rfl) rfl) (rep_none _)) (eB_go (aCons_go (eVar_go rfl) rfl) (rep_none _)) ne_self))).trans rfl)).trans ?_
  exact (sIf_f (tV_go (eOp_go (eVar_go rfl) rfl rfl))).trans rfl
 ·have ed:dueD (kOf j) row v l0=.ref l0:=if_neg hw
  rw [ed] at e ⊢
  have hu:=lay_uniq hL hL0
  subst hu
  obtain ⟨t,ht⟩:=rep_lays (kd_of j) hn h6 hL
  have h0':S'[l0]?=some (.lst (layD Ls)):=by rw [p.old l0 hl0]; exact h0
  have hap:=append_go (v:=.tup []) hl (by rw [List.length_map,hL.len]; omega)
  refine ⟨S'.set l (.lst (layD Ls ++ [.tup []])),some (.ref l),?_,p.set hs _⟩
  refine (sSeq_go (sSet_go e)).trans ?_
  refine (sSeq_go ((sIf_f (tV_go (eOp_go (eB_go (aCons_go (eVar_go rfl) rfl) (ht S' l hl)) (eB_go (aCons_go (eVar_go rfl) rfl) (ht S' l0 h0')) ne_self))).trans rfl)).trans ?_
  exact (sIf_t (tV_go (eOp_go (eVar_go rfl) rfl rfl))).trans (sDrop_go ((eMtL_go (eVar_go rfl) (isL_ref hl) (aCons_go (eTup_go (xs:=[]) rfl z0) rfl)).trans hap))
theorem trn_loop {row:List Int} (hr:Row row) (h6:row.length≤6) (hn:∀ x ∈ row,okN x) (v:Int) {j l0:Nat} {L0:List (List Int)} (hL0:Lay (kOf j) row L0) (r0 r1 r2 r4 r7:Option D):∀ (ks:List Nat) (S:Sto) (r9 r10:Option D),S[l0]?=some (.lst (layD L0))→
  ∃ (S':Sto) (a9 a10:Option D),forL (.nm 9) trnB (ks.map fun (i:Nat)=>D.int i) [r0,r1,r2,some (tupI row),r4,some (.int v),some (.int (j:Int)),r7,some (dueD (kOf j) row v l0),r9,r10] S=.ok (.nx [r0,r1,r2,some (tupI row),r4,some (.int v),some (.int (j:Int)),r7,some (dueD (kOf j) row v l0),a9,a10]) S'∧Pre S S'
 | [],S,r9,r10,_=>⟨S,r9,r10,rfl,Pre.refl S⟩
 | i :: ks,S,r9,r10,h0=>by
  obtain ⟨S1,a10,e1,p1⟩:=trn_ok hr h6 hn v hL0 r0 r1 r2 r4 r7 (some (.int i)) r10 h0
  obtain ⟨S2,b9,b10,e2,p2⟩:=trn_loop hr h6 hn v hL0 r0 r1 r2 r4 r7 ks S1 (some (.int i)) a10 (by rw [p1.old l0 (List.getElem?_eq_some_iff.mp h0).1]; exact h0)
  exact ⟨S2,b9,b10,(forL_cons (r1:=[r0,r1,r2,some (tupI row),r4,some (.int v),some (.int (j:Int)),r7,some (dueD (kOf j) row v l0),some (.int i),r10]) rfl e1).trans e2,p1.trans p2⟩
theorem knd_ok {row:List Int} (hr:Row row) (h6:row.length≤6) (hn:∀ x ∈ row,okN x) (v:Int) (r0 r1 r2 r4 r7 r8 r9 r10:Option D) {j:Nat} (hj:j < 2) (S:Sto):
  ∃ (S':Sto) (a7 a8 a9 a10:Option D),kndB [r0,r1,r2,some (tupI row),r4,some (.int v),some (.int (j:Int)),r7,r8,r9,r10] S=.ok (.nx [r0,r1,r2,some (tupI row),r4,some (.int v),some (.int (j:Int)),a7,a8,a9,a10]) S'∧Pre S S':=by
 have z2:(2:Nat)≤sizeLine:=by decide
 have z3:(3:Nat)≤sizeLine:=by decide
 have hK:(kOf j).length≤3∧∀ q ∈ kOf j,-1≤q∧q≤1:=by
  cases j with
  | zero=>exact ⟨by decide,by decide⟩
  | succ j=>exact ⟨by show KP.length≤3; decide,by show ∀ q ∈ KP,_; decide⟩
 obtain ⟨S1,l0,L0,e1,h0,hL0,hs,p1⟩:=llayers_ok hK.1 hK.2 h6 S
 have hx:=ix_last (S:=S1) (.inl h0) hL0.len
 have hm:=hL0.mem row.length (Nat.le_refl _) v
 rw [List.take_length] at hm
 obtain ⟨S2,a9,a10,e2,p2⟩:=trn_loop hr h6 hn v hL0 r0 r1 r2 r4 (some (.ref l0)) (List.range 2) S1 r9 r10 h0
 refine ⟨S2,some (.ref l0),some (dueD (kOf j) row v l0),a9,a10,?_,p1.trans p2⟩
 have hk:eOp oIx (eLst (aCons (eTup (aCons (eUn oNeg (eC (.int 1))) (aCons (eC (.int 1)) aNil))) (aCons (eTup (aCons (eUn oNeg (eC (.int 1))) (aCons (eC (.int 0)) (aCons (eC (.int 1)) aNil)))) aNil))) (eVar 6) [r0,r1,r2,some (tupI row),r4,some (.int v),some (.int (j:Int)),r7,r8,r9,r10] S=.ok (tupI (kOf j)) S:=by
  refine eOp_go (eLst_go (xs:=[tupI KS,tupI KP]) (aCons_go (eTup_go (xs:=[.int (-1),.int 1]) rfl z2) (aCons_go (eTup_go (xs:=[.int (-1),.int 0,.int 1]) rfl z3) rfl)) z2) (eVar_go rfl) ?_
  match j,hj with
  | 0,_=>rfl
  | 1,_=>rfl
 refine (sSeq_go (sSet_go ((eCall_go (aCons_go (eVar_go rfl) (aCons_go hk rfl))).trans e1))).trans ?_
 have hd:eOp oIx (eLst (aCons (eVar 7) (aCons (eC .non) aNil))) (eB fInt (aCons (eOp (oIn false) (eVar 5) (eOp oIx (eVar 7) (eUn oNeg (eC (.int 1))))) aNil)) [r0,r1,r2,some (tupI row),r4,some (.int v),some (.int (j:Int)),some (.ref l0),r8,r9,r10] S1=.ok (dueD (kOf j) row v l0) S1:=by
  have hi:eB fInt (aCons (eOp (oIn false) (eVar 5) (eOp oIx (eVar 7) (eUn oNeg (eC (.int 1))))) aNil) [r0,r1,r2,some (tupI row),r4,some (.int v),some (.int (j:Int)),some (.ref l0),r8,r9,r10] S1=.ok (.int (if decide (v ∈ L0.getD row.length [])=true then 1 else 0)) S1:=by
   refine eB_go (aCons_go (eOp_go (eVar_go rfl) (eOp_go (eVar_go rfl) rfl hx) in_tup) rfl) ?_
   cases decide (v ∈ L0.getD row.length []) <;> rfl
  refine eOp_go (eLst_go (xs:=[.ref l0,.non]) (aCons_go (eVar_go rfl) (aCons_go rfl rfl)) z2) hi ?_
  by_cases c:Wo (kOf j) row v
  ·rw [decide_eq_true (hm.mpr c),show dueD (kOf j) row v l0=.non from if_pos c]; rfl
  ·rw [decide_eq_false (fun z=>c (hm.mp z)),show dueD (kOf j) row v l0=.ref l0 from if_neg c]; rfl
 exact (sSeq_go (sSet_go hd)).trans ((sFor_go (aRange1_ok (n:=2) rfl (by decide))).trans e2)
theorem knd_loop {row:List Int} (hr:Row row) (h6:row.length≤6) (hn:∀ x ∈ row,okN x) (v:Int) (r0 r1 r2 r4:Option D):∀ (ks:List Nat) (S:Sto) (r6 r7 r8 r9 r10:Option D),(∀ k ∈ ks,k < 2)→
  ∃ (S':Sto) (a6 a7 a8 a9 a10:Option D),forL (.nm 6) kndB (ks.map fun (i:Nat)=>D.int i) [r0,r1,r2,some (tupI row),r4,some (.int v),r6,r7,r8,r9,r10] S=.ok (.nx [r0,r1,r2,some (tupI row),r4,some (.int v),a6,a7,a8,a9,a10]) S'∧Pre S S'
 | [],S,r6,r7,r8,r9,r10,_=>⟨S,r6,r7,r8,r9,r10,rfl,Pre.refl S⟩
 | i :: ks,S,r6,r7,r8,r9,r10,hk=>by
  obtain ⟨S1,a7,a8,a9,a10,e1,p1⟩:=knd_ok hr h6 hn v r0 r1 r2 r4 r7 r8 r9 r10 (hk i (.head _)) S
  obtain ⟨S2,b6,b7,b8,b9,b10,e2,p2⟩:=knd_loop hr h6 hn v r0 r1 r2 r4 ks S1 (some (.int i)) a7 a8 a9 a10 fun k h=>hk k (.tail _ h)
  exact ⟨S2,b6,b7,b8,b9,b10,(forL_cons (r1:=[r0,r1,r2,some (tupI row),r4,some (.int v),some (.int i),r7,r8,r9,r10]) rfl e1).trans e2,p1.trans p2⟩
theorem lap_loop {row:List Int} (hr:Row row) (h6:row.length≤6) (hn:∀ x ∈ row,okN x) {b:Nat} (r0 r1:Option D):∀ (ks:List Nat) (S:Sto) (r4 r5 r6 r7 r8 r9 r10:Option D),Gr b S S→
  ∃ (S':Sto) (a4 a5 a6 a7 a8 a9 a10:Option D),forL (.nm 4) lapB (ks.map fun (i:Nat)=>D.int i) [r0,r1,some (.ref b),some (tupI row),r4,r5,r6,r7,r8,r9,r10] S=.ok (.nx [r0,r1,some (.ref b),some (tupI row),a4,a5,a6,a7,a8,a9,a10]) S'
 | [],S,r4,r5,r6,r7,r8,r9,r10,_=>⟨S,r4,r5,r6,r7,r8,r9,r10,rfl⟩
 | i :: ks,S,r4,r5,r6,r7,r8,r9,r10,g=>by
  obtain ⟨v,S1,e1,g1⟩:=number_ok (row:=row) g (by omega)
  obtain ⟨S2,a6,a7,a8,a9,a10,e2,p2⟩:=knd_loop hr h6 hn v r0 r1 (some (.ref b)) (some (.int i)) (List.range 2) S1 r6 r7 r8 r9 r10 fun k h=>List.mem_range.mp h
  have g2:=g1.trans (Pre.gr g1.self p2)
  obtain ⟨S3,c4,c5,c6,c7,c8,c9,c10,e3⟩:=lap_loop hr h6 hn r0 r1 ks S2 (some (.int i)) (some (.int v)) a6 a7 a8 a9 a10 g2.self
  refine ⟨S3,c4,c5,c6,c7,c8,c9,c10,(forL_cons (r1:=[r0,r1,some (.ref b),some (tupI row),some (.int i),r5,r6,r7,r8,r9,r10]) rfl ?_).trans e3⟩
  exact (sSeq_go (sSet_go ((eCall_go (aCons_go (eVar_go rfl) (aCons_go (eVar_go rfl) rfl))).trans e1))).trans ((sFor_go (aRange1_ok (n:=2) rfl (by decide))).trans e2)
theorem law_turn (ns:List Int) {k:Nat} (S:Sto) (r2 r3 r4 r5 r6 r7 r8 r9 r10:Option D):∃ (S':Sto) (a2 a3 a4 a5 a6 a7 a8 a9 a10:Option D),lawB [some (.fz (ns.map .int)),some (.int k),r2,r3,r4,r5,r6,r7,r8,r9,r10] S=.ok (.nx [some (.fz (ns.map .int)),some (.int k),a2,a3,a4,a5,a6,a7,a8,a9,a10]) S':=by
 obtain ⟨v,e0⟩:=box_ok ns k S
 have g0:Gr S.length (S ++ [.lst [.int v]]) (S ++ [.lst [.int v]]):=⟨⟨v,by simp⟩,fun _ _ _=>rfl,Nat.le_refl _⟩
 obtain ⟨row,S1,e1,l1,p1,g1⟩:=row_ok g0 (most:=6) ⟨by omega,by omega⟩
 have h6:row.length≤6:=by omega
 have hr:Row row:=⟨fun x hx=>(p1 x hx).1,by omega⟩
 obtain ⟨S2,a4,a5,a6,a7,a8,a9,a10,e2⟩:=lap_loop hr h6 p1 (some (.fz (ns.map .int))) (some (.int k)) (List.range 3) S1 r4 r5 r6 r7 r8 r9 r10 g1.self
 exact ⟨S2,some (.ref S.length),some (tupI row),a4,a5,a6,a7,a8,a9,a10,(sSeq_go (sSet_go ((eCall_go (aCons_go (eVar_go rfl) (aCons_go (eVar_go rfl) rfl))).trans e0))).trans ((sSeq_go (sSet_go ((eCall_go (aCons_go (eVar_go rfl) (aCons_go rfl rfl))).trans e1))).trans ((sFor_go (aRange1_ok (n:=3) rfl (by decide))).trans e2))⟩
theorem law_loop (ns:List Int):∀ (l:List Nat) (S:Sto) (r1 r2 r3 r4 r5 r6 r7 r8 r9 r10:Option D),∃ (S':Sto) (ρ:Rho),forL (.nm 1) lawB (l.map fun (i:Nat)=>D.int i) [some (.fz (ns.map .int)),r1,r2,r3,r4,r5,r6,r7,r8,r9,r10] S=.ok (.nx ρ) S'
 | [],S,r1,r2,r3,r4,r5,r6,r7,r8,r9,r10=>⟨S,_,rfl⟩
 | k :: l,S,r1,r2,r3,r4,r5,r6,r7,r8,r9,r10=>by
  obtain ⟨S1,a2,a3,a4,a5,a6,a7,a8,a9,a10,e1⟩:=law_turn ns (k:=k) S r2 r3 r4 r5 r6 r7 r8 r9 r10
  obtain ⟨S2,ρ,e2⟩:=law_loop ns l S1 (some (.int k)) a2 a3 a4 a5 a6 a7 a8 a9 a10
  exact ⟨S2,ρ,(forL_cons (r1:=[some (.fz (ns.map .int)),some (.int k),r2,r3,r4,r5,r6,r7,r8,r9,r10]) rfl e1).trans e2⟩
theorem law_true (ns:List Int) (hn:ns.length≤63):∃ S,F_law [.fz (ns.map .int)] []=.ok (.bl true) S:=by
 obtain ⟨n,hg,hn3⟩:=laps_le ns 3 hn (by decide) [some (.fz (ns.map .int)),none,none,none,none,none,none,none,none,none,none] rfl []
 obtain ⟨S,ρ,e⟩:=law_loop ns (List.range n) [] none none none none none none none none none none
 exact ⟨S,fnM_rt (ρ:=[some (.fz (ns.map .int)),none,none,none,none,none,none,none,none,none,none]) rfl ((sSeq_go ((sFor_go hg).trans e)).trans (sRet_go rfl))⟩
set_option maxHeartbeats 4000000
theorem boo_abs:bootBuiltins "abs" = some (.builtin "abs"):=by decide +kernel
theorem boo_all:bootBuiltins "all" = some (.builtin "all"):=by decide +kernel
theorem boo_bool:bootBuiltins "bool" = some (.type "bool"):=by decide +kernel
theorem boo_divmod:bootBuiltins "divmod" = some (.builtin "divmod"):=by decide +kernel
theorem boo_int:bootBuiltins "int" = some (.type "int"):=by decide +kernel
theorem boo_isinstance:bootBuiltins "isinstance" = some (.builtin "isinstance"):=by decide +kernel
theorem boo_len:bootBuiltins "len" = some (.builtin "len"):=by decide +kernel
theorem boo_max:bootBuiltins "max" = some (.builtin "max"):=by decide +kernel
theorem boo_min:bootBuiltins "min" = some (.builtin "min"):=by decide +kernel
theorem boo_repr:bootBuiltins "repr" = some (.builtin "repr"):=by decide +kernel
theorem boo_set:bootBuiltins "set" = some (.type "set"):=by decide +kernel
theorem boo_sorted:bootBuiltins "sorted" = some (.builtin "sorted"):=by decide +kernel
theorem boo_sum:bootBuiltins "sum" = some (.builtin "sum"):=by decide +kernel
theorem boo_tuple:bootBuiltins "tuple" = some (.type "tuple"):=by decide +kernel
structure Txt (K:PySem.W.Frag) (mg:Str→Option Value):Prop where
 cl:Cls K raisedX askedX isaX
 b_abs:mg "abs" = none
 b_all:mg "all" = none
 b_bool:mg "bool" = none
 b_divmod:mg "divmod" = none
 b_int:mg "int" = none
 b_isinstance:mg "isinstance" = none
 b_len:mg "len" = none
 b_max:mg "max" = none
 b_min:mg "min" = none
 b_range:mg "range" = none
 b_repr:mg "repr" = none
 b_set:mg "set" = none
 b_sorted:mg "sorted" = none
 b_sum:mg "sum" = none
 b_tuple:mg "tuple" = none
 c_LONGEST_ROW:∃ t,mg "LONGEST_ROW" = some (.int 16 t)
 c_LONGEST_TABLED:∃ t,mg "LONGEST_TABLED" = some (.int 10 t)
 m_PARTS:TupAt K mg "PARTS" [(-1),(0),(1)]
 m_SIGNS:TupAt K mg "SIGNS" [(-1),(1)]
section
variable {P:Program} {w:World} {K:PySem.W.Frag} {mg:Str→Option Value} {base:Heap}
theorem sc__law_cell:FnScope ["script","k"] ["script","k"] (defScope st__law_cell):=⟨by kernel_rfl,by kernel_rfl,by kernel_rfl,by decide +kernel,rfl,by decide +kernel,by decide +kernel⟩
theorem ok__law_cell {f:Addr} {fd:FuncData} (F:Fun K "_law_cell" "_law_cell" st__law_cell f fd) (hm:mg "_law_cell" = some (.ref f)) (hb:Binds K fd ["script","k"] []) (T:Txt K mg) :DefN P w K mg base "_law_cell" 1 2 F__law_cell:=
 def_ofN ["script","k"] ["script","k"] 0 1 2 2 rfl rfl rfl F hm hb sc__law_cell (m:=m__law_cell) fun cdv A outer s H E hr=>(ss_cons (ss_if (st_cmp xo_lt (se_var 1 (by kernel_rfl) (Or.inl (by kernel_rfl))) (se_callB xc_len (by unfold Gl; kernel_rfl) T.b_len boo_len (sa_cons (se_var 0 (by kernel_rfl) (Or.inl (by kernel_rfl))) sa_nil))) (ss_one (ss_ret (se_ix xi_ix (se_var 0 (by kernel_rfl) (Or.inl (by kernel_rfl))) (se_var 1 (by kernel_rfl) (Or.inl (by kernel_rfl)))))) ss_nil) (ss_one (ss_ret se_int)))
theorem sc__law_mix:FnScope ["cell","k","some","stir"] ["cell","k"] (defScope st__law_mix):=⟨by kernel_rfl,by kernel_rfl,by kernel_rfl,by decide +kernel,rfl,by decide +kernel,by decide +kernel⟩
theorem ok__law_mix {f:Addr} {fd:FuncData} (F:Fun K "_law_mix" "_law_mix" st__law_mix f fd) (hm:mg "_law_mix" = some (.ref f)) (hb:Binds K fd ["cell","k"] []) (T:Txt K mg) :DefN P w K mg base "_law_mix" 1 2 F__law_mix:=
 def_ofN ["cell","k","some","stir"] ["cell","k"] 0 1 2 4 rfl rfl rfl F hm hb sc__law_mix (m:=m__law_mix) fun cdv A outer s H E hr=>(ss_cons (ss_set sc__law_mix.nd (by kernel_rfl) (Or.inl (by kernel_rfl)) (se_lst (sa_cons se_int (sa_cons se_int (sa_cons se_int (sa_cons se_int (sa_cons se_int (sa_cons se_int (sa_cons se_int (sa_cons se_int (sa_cons se_int (sa_cons se_int (sa_cons se_int (sa_cons se_int (sa_cons se_int sa_nil))))))))))))))) (ss_cons (ss_set sc__law_mix.nd (by kernel_rfl) (Or.inl (by kernel_rfl)) (se_op xo_add (se_op xo_add (se_op xo_mul (se_op xo_add (se_op xo_mod (se_var 0 (by kernel_rfl) (Or.inl (by kernel_rfl))) se_int) se_int) (se_ix xi_ix (se_var 2 (by kernel_rfl) (Or.inl (by kernel_rfl))) (se_op xo_mod (se_var 1 (by kernel_rfl) (Or.inl (by kernel_rfl))) se_int))) (se_op xo_mul se_int (se_var 1 (by kernel_rfl) (Or.inl (by kernel_rfl))))) (se_op xo_mul se_int (se_op xo_fdiv (se_var 1 (by kernel_rfl) (Or.inl (by kernel_rfl))) se_int)))) (ss_cons (ss_set sc__law_mix.nd (by kernel_rfl) (Or.inl (by kernel_rfl)) (se_op xo_mod (se_var 3 (by kernel_rfl) (Or.inl (by kernel_rfl))) se_int)) (ss_one (ss_ret (se_op xo_fdiv (se_op xo_mod (se_op xo_add (se_op xo_mul (se_var 3 (by kernel_rfl) (Or.inl (by kernel_rfl))) (se_var 3 (by kernel_rfl) (Or.inl (by kernel_rfl)))) (se_op xo_mul se_int (se_var 1 (by kernel_rfl) (Or.inl (by kernel_rfl))))) se_int) se_int))))))
theorem sc__law_box:FnScope ["script","k","cell","number","j"] ["script","k"] (defScope st__law_box):=⟨by kernel_rfl,by kernel_rfl,by kernel_rfl,by decide +kernel,rfl,by decide +kernel,by decide +kernel⟩
theorem ok__law_box {f:Addr} {fd:FuncData} (F:Fun K "_law_box" "_law_box" st__law_box f fd) (hm:mg "_law_box" = some (.ref f)) (hb:Binds K fd ["script","k"] []) (T:Txt K mg) (d__law_cell:DefN P w K mg base "_law_cell" 1 2 F__law_cell) (d__law_mix:DefN P w K mg base "_law_mix" 1 2 F__law_mix):DefN P w K mg base "_law_box" 2 2 F__law_box:=
 def_ofN ["script","k","cell","number","j"] ["script","k"] 1 2 2 5 rfl rfl rfl F hm hb sc__law_box (m:=m__law_box) fun cdv A outer s H E hr=>(ss_cons (ss_set sc__law_box.nd (by kernel_rfl) (Or.inl (by kernel_rfl)) (se_fnN d__law_cell (hr.mono (by decide)) (by unfold Gl; kernel_rfl) (sa_cons (se_var 0 (by kernel_rfl) (Or.inl (by kernel_rfl))) (sa_cons (se_var 1 (by kernel_rfl) (Or.inl (by kernel_rfl))) sa_nil)) (alen_cons (alen_cons alen_nil)))) (ss_cons (ss_if (st_cmp (xo_eqP hr) (se_op xo_mod (se_var 2 (by kernel_rfl) (Or.inl (by kernel_rfl))) se_int) se_int) (ss_one (ss_ret (se_new (sa_cons (se_op xo_fdiv (se_callB xc_abs (by unfold Gl; kernel_rfl) T.b_abs boo_abs (sa_cons (se_var 2 (by kernel_rfl) (Or.inl (by kernel_rfl))) sa_nil)) se_int) sa_nil)))) ss_nil) (ss_cons (ss_set sc__law_box.nd (by kernel_rfl) (Or.inl (by kernel_rfl)) se_int) (ss_cons (ss_for PassesOwn.never rfl (si_range1 (by unfold Gl; kernel_rfl) T.b_range (sa_cons se_int sa_nil)) (sg_name sc__law_box.nd (by kernel_rfl) (Or.inl (by kernel_rfl))) (ss_one (ss_set sc__law_box.nd (by kernel_rfl) (Or.inl (by kernel_rfl)) (se_op xo_add (se_op xo_mul (se_var 3 (by kernel_rfl) (Or.inl (by kernel_rfl))) se_int) (se_fnN d__law_mix (hr.mono (by decide)) (by unfold Gl; kernel_rfl) (sa_cons (se_var 2 (by kernel_rfl) (Or.inl (by kernel_rfl))) (sa_cons (se_var 4 (by kernel_rfl) (Or.inl (by kernel_rfl))) sa_nil)) (alen_cons (alen_cons alen_nil))))))) (ss_one (ss_ret (se_new (sa_cons (se_var 3 (by kernel_rfl) (Or.inl (by kernel_rfl))) sa_nil))))))))
theorem sc__law_layers:FnScope ["row","kinds","found","number","later","part"] ["row","kinds"] (defScope st__law_layers):=⟨by kernel_rfl,by kernel_rfl,by kernel_rfl,by decide +kernel,rfl,by decide +kernel,by decide +kernel⟩
theorem ok__law_layers {f:Addr} {fd:FuncData} (F:Fun K "_law_layers" "_law_layers" st__law_layers f fd) (hm:mg "_law_layers" = some (.ref f)) (hb:Binds K fd ["row","kinds"] []) (T:Txt K mg) :DefN P w K mg base "_law_layers" 1 2 F__law_layers:=
 def_ofN ["row","kinds","found","number","later","part"] ["row","kinds"] 0 1 2 6 rfl rfl rfl F hm hb sc__law_layers (m:=m__law_layers) fun cdv A outer s H E hr=>(ss_cons (ss_set sc__law_layers.nd (by kernel_rfl) (Or.inl (by kernel_rfl)) (se_new (sa_cons (se_tup (sa_cons se_int sa_nil)) sa_nil))) (ss_cons (ss_for PassesOwn.never rfl (si_seq (se_var 0 (by kernel_rfl) (Or.inl (by kernel_rfl)))) (sg_name sc__law_layers.nd (by kernel_rfl) (Or.inr (by kernel_rfl))) (ss_cons (ss_set sc__law_layers.nd (by kernel_rfl) (Or.inl (by kernel_rfl)) (se_lst sa_nil)) (ss_cons (ss_for PassesOwn.never rfl (si_seq (se_var 1 (by kernel_rfl) (Or.inl (by kernel_rfl)))) (sg_name sc__law_layers.nd (by kernel_rfl) (Or.inr (by kernel_rfl))) (ss_one (ss_set sc__law_layers.nd (by kernel_rfl) (Or.inl (by kernel_rfl)) (se_op xo_add (se_var 4 (by kernel_rfl) (Or.inl (by kernel_rfl))) (se_comp (N:=["here","part","number"]) (k:=1) (caps:=[5,3]) rfl (fun _ _ z=>z) (cs_mk (by kernel_rfl) (by kernel_rfl) (by kernel_rfl) (by kernel_rfl) rfl (by kernel_rfl)) (si_seq (se_ix xi_ix (se_var 2 (by kernel_rfl) (Or.inl (by kernel_rfl))) (se_un xu_neg se_int))) (fun _ _ _ _=>(sg_name (show (["here","part","number"]:List Str).Nodup by decide +kernel) (by kernel_rfl) (Or.inl (by kernel_rfl)))) (fun _ _ _ _=>sif_nil) (fun _ _ _ _=>(se_op xo_add (se_var 0 (by kernel_rfl) (Or.inl (by kernel_rfl))) (se_op xo_mul (se_var 1 (by kernel_rfl) (Or.inr (Or.inl (by kernel_rfl)))) (se_var 2 (by kernel_rfl) (Or.inr (Or.inl (by kernel_rfl)))))))))))) (ss_one (ss_expr (se_mtL PySem.F.plainAttrs_list PySem.F.slot_list_append PySem.F.type_list_append xm_append (se_var 2 (by kernel_rfl) (Or.inl (by kernel_rfl))) (sa_cons (se_callTy xc_tuple (by unfold Gl; kernel_rfl) T.b_tuple boo_tuple (sa_cons (se_srtS rfl (by unfold Gl; kernel_rfl) T.b_sorted boo_sorted (by unfold Gl; kernel_rfl) T.b_set boo_set (sa_cons (se_var 4 (by kernel_rfl) (Or.inl (by kernel_rfl))) sa_nil)) sa_nil)) sa_nil))))))) (ss_one (ss_ret (se_var 2 (by kernel_rfl) (Or.inl (by kernel_rfl)))))))
theorem sc__law_take:FnScope ["box","many","left","digit"] ["box","many"] (defScope st__law_take):=⟨by kernel_rfl,by kernel_rfl,by kernel_rfl,by decide +kernel,rfl,by decide +kernel,by decide +kernel⟩
theorem ok__law_take {f:Addr} {fd:FuncData} (F:Fun K "_law_take" "_law_take" st__law_take f fd) (hm:mg "_law_take" = some (.ref f)) (hb:Binds K fd ["box","many"] []) (T:Txt K mg) :DefN P w K mg base "_law_take" 1 2 F__law_take:=
 def_ofN ["box","many","left","digit"] ["box","many"] 0 1 2 4 rfl rfl rfl F hm hb sc__law_take (m:=m__law_take) fun cdv A outer s H E hr=>(ss_cons (ss_asg (se_callB xc_divmod (by unfold Gl; kernel_rfl) T.b_divmod boo_divmod (sa_cons (se_ix xi_ix (se_var 0 (by kernel_rfl) (Or.inl (by kernel_rfl))) se_int) (sa_cons (se_var 1 (by kernel_rfl) (Or.inl (by kernel_rfl))) sa_nil))) (sg_tup rfl (sgs_cons (sg_name sc__law_take.nd (by kernel_rfl) (Or.inl (by kernel_rfl))) (sgs_cons (sg_name sc__law_take.nd (by kernel_rfl) (Or.inl (by kernel_rfl))) sgs_nil)))) (ss_cons (ss_put xs_put (se_var 2 (by kernel_rfl) (Or.inl (by kernel_rfl))) (se_var 0 (by kernel_rfl) (Or.inl (by kernel_rfl))) se_int) (ss_one (ss_ret (se_var 3 (by kernel_rfl) (Or.inl (by kernel_rfl)))))))
theorem sc__law_number:FnScope ["box","row","high","small","some"] ["box","row"] (defScope st__law_number):=⟨by kernel_rfl,by kernel_rfl,by kernel_rfl,by decide +kernel,rfl,by decide +kernel,by decide +kernel⟩
theorem ok__law_number {f:Addr} {fd:FuncData} (F:Fun K "_law_number" "_law_number" st__law_number f fd) (hm:mg "_law_number" = some (.ref f)) (hb:Binds K fd ["box","row"] []) (T:Txt K mg) (d__law_take:DefN P w K mg base "_law_take" 1 2 F__law_take):DefN P w K mg base "_law_number" 2 2 F__law_number:=
 def_ofN ["box","row","high","small","some"] ["box","row"] 1 2 2 5 rfl rfl rfl F hm hb sc__law_number (m:=m__law_number) fun cdv A outer s H E hr=>(ss_cons (ss_set sc__law_number.nd (by kernel_rfl) (Or.inl (by kernel_rfl)) (se_callB (xc_sum rfl) (by unfold Gl; kernel_rfl) T.b_sum boo_sum (sa_cons (se_var 1 (by kernel_rfl) (Or.inl (by kernel_rfl))) sa_nil))) (ss_cons (ss_set sc__law_number.nd (by kernel_rfl) (Or.inl (by kernel_rfl)) (se_op xo_sub (se_fnN d__law_take (hr.mono (by decide)) (by unfold Gl; kernel_rfl) (sa_cons (se_var 0 (by kernel_rfl) (Or.inl (by kernel_rfl))) (sa_cons se_int sa_nil)) (alen_cons (alen_cons alen_nil))) se_int)) (ss_cons (ss_set sc__law_number.nd (by kernel_rfl) (Or.inl (by kernel_rfl)) (se_lst (sa_cons se_int (sa_cons (se_var 2 (by kernel_rfl) (Or.inl (by kernel_rfl))) (sa_cons (se_op xo_sub se_int (se_var 2 (by kernel_rfl) (Or.inl (by kernel_rfl)))) (sa_cons (se_op xo_sub (se_var 2 (by kernel_rfl) (Or.inl (by kernel_rfl))) se_int) (sa_cons (se_var 3 (by kernel_rfl) (Or.inl (by kernel_rfl))) (sa_cons (se_op xo_add (se_op xo_add (se_var 2 (by kernel_rfl) (Or.inl (by kernel_rfl))) se_int) (se_op xo_mul (se_var 3 (by kernel_rfl) (Or.inl (by kernel_rfl))) (se_var 3 (by kernel_rfl) (Or.inl (by kernel_rfl))))) (sa_cons (se_var 3 (by kernel_rfl) (Or.inl (by kernel_rfl))) (sa_cons (se_op xo_sub (se_var 2 (by kernel_rfl) (Or.inl (by kernel_rfl))) (se_op xo_mul se_int (se_ix xi_ix (se_op xo_add (se_var 1 (by kernel_rfl) (Or.inl (by kernel_rfl))) (se_tup (sa_cons se_int sa_nil))) se_int))) (sa_cons (se_var 3 (by kernel_rfl) (Or.inl (by kernel_rfl))) sa_nil))))))))))) (ss_one (ss_ret (se_ix xi_ix (se_var 4 (by kernel_rfl) (Or.inl (by kernel_rfl))) (se_fnN d__law_take (hr.mono (by decide)) (by unfold Gl; kernel_rfl) (sa_cons (se_var 0 (by kernel_rfl) (Or.inl (by kernel_rfl))) (sa_cons se_int sa_nil)) (alen_cons (alen_cons alen_nil)))))))))
theorem sc__law_row:FnScope ["box","most","many","kind","base","found","k","given","some"] ["box","most"] (defScope st__law_row):=⟨by kernel_rfl,by kernel_rfl,by kernel_rfl,by decide +kernel,rfl,by decide +kernel,by decide +kernel⟩
theorem ok__law_row {f:Addr} {fd:FuncData} (F:Fun K "_law_row" "_law_row" st__law_row f fd) (hm:mg "_law_row" = some (.ref f)) (hb:Binds K fd ["box","most"] []) (T:Txt K mg) (d__law_take:DefN P w K mg base "_law_take" 1 2 F__law_take):DefN P w K mg base "_law_row" 2 2 F__law_row:=
 def_ofN ["box","most","many","kind","base","found","k","given","some"] ["box","most"] 1 2 2 9 rfl rfl rfl F hm hb sc__law_row (m:=m__law_row) fun cdv A outer s H E hr=>(ss_cons (ss_set sc__law_row.nd (by kernel_rfl) (Or.inl (by kernel_rfl)) (se_fnN d__law_take (hr.mono (by decide)) (by unfold Gl; kernel_rfl) (sa_cons (se_var 0 (by kernel_rfl) (Or.inl (by kernel_rfl))) (sa_cons (se_op xo_add (se_var 1 (by kernel_rfl) (Or.inl (by kernel_rfl))) se_int) sa_nil)) (alen_cons (alen_cons alen_nil)))) (ss_cons (ss_set sc__law_row.nd (by kernel_rfl) (Or.inl (by kernel_rfl)) (se_fnN d__law_take (hr.mono (by decide)) (by unfold Gl; kernel_rfl) (sa_cons (se_var 0 (by kernel_rfl) (Or.inl (by kernel_rfl))) (sa_cons se_int sa_nil)) (alen_cons (alen_cons alen_nil)))) (ss_cons (ss_set sc__law_row.nd (by kernel_rfl) (Or.inl (by kernel_rfl)) (se_op xo_add se_int (se_fnN d__law_take (hr.mono (by decide)) (by unfold Gl; kernel_rfl) (sa_cons (se_var 0 (by kernel_rfl) (Or.inl (by kernel_rfl))) (sa_cons se_int sa_nil)) (alen_cons (alen_cons alen_nil))))) (ss_cons (ss_set sc__law_row.nd (by kernel_rfl) (Or.inl (by kernel_rfl)) (se_new sa_nil)) (ss_cons (ss_for PassesOwn.never rfl (si_range1 (by unfold Gl; kernel_rfl) T.b_range (sa_cons (se_var 2 (by kernel_rfl) (Or.inl (by kernel_rfl))) sa_nil)) (sg_name sc__law_row.nd (by kernel_rfl) (Or.inl (by kernel_rfl))) (ss_cons (ss_set sc__law_row.nd (by kernel_rfl) (Or.inl (by kernel_rfl)) (se_op xo_add se_int (se_fnN d__law_take (hr.mono (by decide)) (by unfold Gl; kernel_rfl) (sa_cons (se_var 0 (by kernel_rfl) (Or.inl (by kernel_rfl))) (sa_cons se_int sa_nil)) (alen_cons (alen_cons alen_nil))))) (ss_cons (ss_set sc__law_row.nd (by kernel_rfl) (Or.inl (by kernel_rfl)) (se_lst (sa_cons (se_var 7 (by kernel_rfl) (Or.inl (by kernel_rfl))) (sa_cons (se_var 7 (by kernel_rfl) (Or.inl (by kernel_rfl))) (sa_cons (se_var 4 (by kernel_rfl) (Or.inl (by kernel_rfl))) (sa_cons (se_op xo_shl se_int (se_var 6 (by kernel_rfl) (Or.inl (by kernel_rfl)))) (sa_cons (se_op xo_add (se_var 4 (by kernel_rfl) (Or.inl (by kernel_rfl))) (se_op xo_mul (se_var 6 (by kernel_rfl) (Or.inl (by kernel_rfl))) (se_var 7 (by kernel_rfl) (Or.inl (by kernel_rfl))))) (sa_cons (se_op xo_mul (se_var 7 (by kernel_rfl) (Or.inl (by kernel_rfl))) (se_var 7 (by kernel_rfl) (Or.inl (by kernel_rfl)))) (sa_cons (se_op xo_add (se_op xo_mul (se_op xo_pow se_int se_int) (se_var 7 (by kernel_rfl) (Or.inl (by kernel_rfl)))) (se_var 7 (by kernel_rfl) (Or.inl (by kernel_rfl)))) sa_nil))))))))) (ss_one (ss_expr (se_mtL PySem.F.plainAttrs_list PySem.F.slot_list_append PySem.F.type_list_append xm_append (se_var 5 (by kernel_rfl) (Or.inl (by kernel_rfl))) (sa_cons (se_ix xi_ix (se_lst (sa_cons (se_ix xi_ix (se_var 8 (by kernel_rfl) (Or.inl (by kernel_rfl))) (se_var 3 (by kernel_rfl) (Or.inl (by kernel_rfl)))) (sa_cons (se_op xo_mul (se_var 4 (by kernel_rfl) (Or.inl (by kernel_rfl))) (se_var 7 (by kernel_rfl) (Or.inl (by kernel_rfl)))) sa_nil))) (se_callTy xc_int (by unfold Gl; kernel_rfl) T.b_int boo_int (sa_cons (se_cmp (xo_eqP hr) (se_fnN d__law_take (hr.mono (by decide)) (by unfold Gl; kernel_rfl) (sa_cons (se_var 0 (by kernel_rfl) (Or.inl (by kernel_rfl))) (sa_cons se_int sa_nil)) (alen_cons (alen_cons alen_nil))) se_int) sa_nil))) sa_nil))))))) (ss_one (ss_ret (se_callTy xc_tuple (by unfold Gl; kernel_rfl) T.b_tuple boo_tuple (sa_cons (se_var 5 (by kernel_rfl) (Or.inl (by kernel_rfl))) sa_nil)))))))))
theorem sc_stepped:FnScope ["table","step","choices","wider","reached","ways","choice","there"] ["table","step","choices"] (defScope st_stepped):=⟨by kernel_rfl,by kernel_rfl,by kernel_rfl,by decide +kernel,rfl,by decide +kernel,by decide +kernel⟩
theorem ok_stepped {f:Addr} {fd:FuncData} (F:Fun K "stepped" "stepped" st_stepped f fd) (hm:mg "stepped" = some (.ref f)) (hb:Binds K fd ["table","step","choices"] []) (T:Txt K mg) :DefN P w K mg base "stepped" 1 3 F_stepped:=
 def_ofN ["table","step","choices","wider","reached","ways","choice","there"] ["table","step","choices"] 0 1 3 8 rfl rfl rfl F hm hb sc_stepped (m:=m_stepped) fun cdv A outer s H E hr=>(ss_cons (ss_set sc_stepped.nd (by kernel_rfl) (Or.inl (by kernel_rfl)) se_dicE) (ss_cons (ss_for PassesOwn.never rfl (si_items (se_var 0 (by kernel_rfl) (Or.inl (by kernel_rfl)))) (sg_tup rfl (sgs_cons (sg_name sc_stepped.nd (by kernel_rfl) (Or.inl (by kernel_rfl))) (sgs_cons (sg_name sc_stepped.nd (by kernel_rfl) (Or.inl (by kernel_rfl))) sgs_nil))) (ss_one (ss_for PassesOwn.never rfl (si_seq (se_var 2 (by kernel_rfl) (Or.inl (by kernel_rfl)))) (sg_name sc_stepped.nd (by kernel_rfl) (Or.inl (by kernel_rfl))) (ss_cons (ss_set sc_stepped.nd (by kernel_rfl) (Or.inl (by kernel_rfl)) (se_op xo_add (se_var 4 (by kernel_rfl) (Or.inl (by kernel_rfl))) (se_op xo_mul (se_var 6 (by kernel_rfl) (Or.inl (by kernel_rfl))) (se_var 1 (by kernel_rfl) (Or.inl (by kernel_rfl)))))) (ss_one (ss_put (xs_putD hr) (se_op xo_add (se_get2 hr (se_var 3 (by kernel_rfl) (Or.inl (by kernel_rfl))) (se_var 7 (by kernel_rfl) (Or.inl (by kernel_rfl))) se_int (m2_mk (by kernel_rfl) (by kernel_rfl) (by kernel_rfl) (by kernel_rfl))) (se_var 5 (by kernel_rfl) (Or.inl (by kernel_rfl)))) (se_var 3 (by kernel_rfl) (Or.inl (by kernel_rfl))) (se_var 7 (by kernel_rfl) (Or.inl (by kernel_rfl))))))))) (ss_one (ss_ret (se_var 3 (by kernel_rfl) (Or.inl (by kernel_rfl)))))))
theorem sc_least_layers:FnScope ["row","choices","table","layers","step"] ["row","choices"] (defScope st_least_layers):=⟨by kernel_rfl,by kernel_rfl,by kernel_rfl,by decide +kernel,rfl,by decide +kernel,by decide +kernel⟩
theorem ok_least_layers {f:Addr} {fd:FuncData} (F:Fun K "least_layers" "least_layers" st_least_layers f fd) (hm:mg "least_layers" = some (.ref f)) (hb:Binds K fd ["row","choices"] []) (T:Txt K mg) (d_stepped:DefN P w K mg base "stepped" 1 3 F_stepped):DefN P w K mg base "least_layers" 2 2 F_least_layers:=
 def_ofN ["row","choices","table","layers","step"] ["row","choices"] 1 2 2 5 rfl rfl rfl F hm hb sc_least_layers (m:=m_least_layers) fun cdv A outer s H E hr=>(ss_cons (ss_set sc_least_layers.nd (by kernel_rfl) (Or.inl (by kernel_rfl)) (se_dicN (sps_cons se_int se_int sps_nil))) (ss_cons (ss_set sc_least_layers.nd (by kernel_rfl) (Or.inl (by kernel_rfl)) (se_new (sa_cons (se_tup (sa_cons se_int sa_nil)) sa_nil))) (ss_cons (ss_for PassesOwn.never rfl (si_seq (se_var 0 (by kernel_rfl) (Or.inl (by kernel_rfl)))) (sg_name sc_least_layers.nd (by kernel_rfl) (Or.inl (by kernel_rfl))) (ss_cons (ss_set sc_least_layers.nd (by kernel_rfl) (Or.inl (by kernel_rfl)) (se_fnN d_stepped (hr.mono (by decide)) (by unfold Gl; kernel_rfl) (sa_cons (se_var 2 (by kernel_rfl) (Or.inl (by kernel_rfl))) (sa_cons (se_var 4 (by kernel_rfl) (Or.inl (by kernel_rfl))) (sa_cons (se_var 1 (by kernel_rfl) (Or.inl (by kernel_rfl))) sa_nil))) (alen_cons (alen_cons (alen_cons alen_nil))))) (ss_one (ss_expr (se_mtL PySem.F.plainAttrs_list PySem.F.slot_list_append PySem.F.type_list_append xm_append (se_var 3 (by kernel_rfl) (Or.inl (by kernel_rfl))) (sa_cons (se_callTy xc_tuple (by unfold Gl; kernel_rfl) T.b_tuple boo_tuple (sa_cons (se_callB (xc_srt rfl) (by unfold Gl; kernel_rfl) T.b_sorted boo_sorted (sa_cons (se_var 2 (by kernel_rfl) (Or.inl (by kernel_rfl))) sa_nil)) sa_nil)) sa_nil)))))) (ss_one (ss_ret (se_var 3 (by kernel_rfl) (Or.inl (by kernel_rfl))))))))
theorem sc_least_without:FnScope ["number","row","choices","layers"] ["number","row","choices"] (defScope st_least_without):=⟨by kernel_rfl,by kernel_rfl,by kernel_rfl,by decide +kernel,rfl,by decide +kernel,by decide +kernel⟩
theorem ok_least_without {f:Addr} {fd:FuncData} (F:Fun K "least_without" "least_without" st_least_without f fd) (hm:mg "least_without" = some (.ref f)) (hb:Binds K fd ["number","row","choices"] []) (T:Txt K mg) (d_least_layers:DefN P w K mg base "least_layers" 2 2 F_least_layers):DefN P w K mg base "least_without" 3 3 F_least_without:=
 def_ofN ["number","row","choices","layers"] ["number","row","choices"] 2 3 3 4 rfl rfl rfl F hm hb sc_least_without (m:=m_least_without) fun cdv A outer s H E hr=>(ss_cons (ss_set sc_least_without.nd (by kernel_rfl) (Or.inl (by kernel_rfl)) (se_fnN d_least_layers (hr.mono (by decide)) (by unfold Gl; kernel_rfl) (sa_cons (se_var 1 (by kernel_rfl) (Or.inl (by kernel_rfl))) (sa_cons (se_var 2 (by kernel_rfl) (Or.inl (by kernel_rfl))) sa_nil)) (alen_cons (alen_cons alen_nil)))) (ss_one (ss_ret (se_if (st_cmp xo_in (se_var 0 (by kernel_rfl) (Or.inl (by kernel_rfl))) (se_ix xi_ix (se_var 3 (by kernel_rfl) (Or.inl (by kernel_rfl))) (se_un xu_neg se_int))) se_non (se_var 3 (by kernel_rfl) (Or.inl (by kernel_rfl)))))))
theorem sc_is_whole:FnScope ["thing"] ["thing"] (defScope st_is_whole):=⟨by kernel_rfl,by kernel_rfl,by kernel_rfl,by decide +kernel,rfl,by decide +kernel,by decide +kernel⟩
theorem ok_is_whole {f:Addr} {fd:FuncData} (F:Fun K "is_whole" "is_whole" st_is_whole f fd) (hm:mg "is_whole" = some (.ref f)) (hb:Binds K fd ["thing"] []) (T:Txt K mg) :DefN P w K mg base "is_whole" 1 1 F_is_whole:=
 def_ofN ["thing"] ["thing"] 0 1 1 1 rfl rfl rfl F hm hb sc_is_whole (m:=m_is_whole) fun cdv A outer s H E hr=>(ss_one (ss_ret (se_and (se_callB xc_isi (by unfold Gl; kernel_rfl) T.b_isinstance boo_isinstance (sa_cons (se_var 0 (by kernel_rfl) (Or.inl (by kernel_rfl))) (sa_cons (se_ty (by unfold Gl; kernel_rfl) T.b_int boo_int) sa_nil))) (se_one (se_not (se_callB xc_isi (by unfold Gl; kernel_rfl) T.b_isinstance boo_isinstance (sa_cons (se_var 0 (by kernel_rfl) (Or.inl (by kernel_rfl))) (sa_cons (se_ty (by unfold Gl; kernel_rfl) T.b_bool boo_bool) sa_nil))))))))
theorem sc_is_row:FnScope ["thing"] ["thing"] (defScope st_is_row):=⟨by kernel_rfl,by kernel_rfl,by kernel_rfl,by decide +kernel,rfl,by decide +kernel,by decide +kernel⟩
theorem ok_is_row {f:Addr} {fd:FuncData} (F:Fun K "is_row" "is_row" st_is_row f fd) (hm:mg "is_row" = some (.ref f)) (hb:Binds K fd ["thing"] []) (T:Txt K mg) (d_is_whole:DefN P w K mg base "is_whole" 1 1 F_is_whole):DefN P w K mg base "is_row" 2 1 F_is_row:=
 def_ofN ["thing"] ["thing"] 1 2 1 1 rfl rfl rfl F hm hb sc_is_row (m:=m_is_row) fun cdv A outer s H E hr=>(ss_cons (ss_if (sw_st (sw_or (st_not (st_val (se_callB xc_isi (by unfold Gl; kernel_rfl) T.b_isinstance boo_isinstance (sa_cons (se_var 0 (by kernel_rfl) (Or.inl (by kernel_rfl))) (sa_cons (se_ty (by unfold Gl; kernel_rfl) T.b_tuple boo_tuple) sa_nil))))) (sw_or1 (st_cmp xo_gt (se_callB xc_len (by unfold Gl; kernel_rfl) T.b_len boo_len (sa_cons (se_var 0 (by kernel_rfl) (Or.inl (by kernel_rfl))) sa_nil)) (se_gi T.c_LONGEST_ROW (by unfold Gl; kernel_rfl)))))) (ss_one (ss_ret se_bl)) ss_nil) (ss_one (ss_ret (se_callB (xc_all rfl) (by unfold Gl; kernel_rfl) T.b_all boo_all (sa_cons (se_comp (N:=["number"]) (k:=1) (caps:=[]) rfl (fun _ _ z=>z) (cs_mk (by kernel_rfl) (by kernel_rfl) (by kernel_rfl) (by kernel_rfl) rfl (by kernel_rfl)) (si_seq (se_var 0 (by kernel_rfl) (Or.inl (by kernel_rfl)))) (fun _ _ _ _=>(sg_name (show (["number"]:List Str).Nodup by decide +kernel) (by kernel_rfl) (Or.inl (by kernel_rfl)))) (fun _ _ _ _=>sif_nil) (fun _ _ _ _=>(se_and (se_fnN d_is_whole (hr.mono (by decide)) (by unfold Gl; kernel_rfl) (sa_cons (se_var 0 (by kernel_rfl) (Or.inl (by kernel_rfl))) sa_nil) (alen_cons alen_nil)) (se_one (se_cmp xo_ge (se_var 0 (by kernel_rfl) (Or.inl (by kernel_rfl))) se_int))))) sa_nil)))))
theorem sc_need_row_n:FnScope ["thing"] ["thing"] (defScope st_need_row_n):=⟨by kernel_rfl,by kernel_rfl,by kernel_rfl,by decide +kernel,rfl,by decide +kernel,by decide +kernel⟩
theorem ok_need_row_n {f:Addr} {fd:FuncData} (F:Fun K "need_row" "need_row" st_need_row_n f fd) (hm:mg "need_row" = some (.ref f)) (hb:Binds K fd ["thing"] []) (T:Txt K mg) (d_is_row:DefN P w K mg base "is_row" 2 1 F_is_row):DefN P w K mg base "need_row" 3 1 F_need_row_n:=
 def_ofN ["thing"] ["thing"] 2 3 1 1 rfl rfl rfl F hm hb sc_need_row_n (m:=m_need_row_n) fun cdv A outer s H E hr=>(ss_one (ss_if (st_not (st_val (se_fnN d_is_row (hr.mono (by decide)) (by unfold Gl; kernel_rfl) (sa_cons (se_var 0 (by kernel_rfl) (Or.inl (by kernel_rfl))) sa_nil) (alen_cons alen_nil)))) (ss_one ss_never) ss_nil))
theorem sc_need_few_n:FnScope ["row"] ["row"] (defScope st_need_few_n):=⟨by kernel_rfl,by kernel_rfl,by kernel_rfl,by decide +kernel,rfl,by decide +kernel,by decide +kernel⟩
theorem ok_need_few_n {f:Addr} {fd:FuncData} (F:Fun K "need_few" "need_few" st_need_few_n f fd) (hm:mg "need_few" = some (.ref f)) (hb:Binds K fd ["row"] []) (T:Txt K mg) (d_need_row_n:DefN P w K mg base "need_row" 3 1 F_need_row_n):DefN P w K mg base "need_few" 4 1 F_need_few_n:=
 def_ofN ["row"] ["row"] 3 4 1 1 rfl rfl rfl F hm hb sc_need_few_n (m:=m_need_few_n) fun cdv A outer s H E hr=>(ss_cons (ss_expr (se_fnN d_need_row_n (hr.mono (by decide)) (by unfold Gl; kernel_rfl) (sa_cons (se_var 0 (by kernel_rfl) (Or.inl (by kernel_rfl))) sa_nil) (alen_cons alen_nil))) (ss_one (ss_if (st_cmp xo_gt (se_callB xc_len (by unfold Gl; kernel_rfl) T.b_len boo_len (sa_cons (se_var 0 (by kernel_rfl) (Or.inl (by kernel_rfl))) sa_nil)) (se_gi T.c_LONGEST_TABLED (by unfold Gl; kernel_rfl))) (ss_one ss_never) ss_nil)))
theorem sc_need_number_n:FnScope ["thing"] ["thing"] (defScope st_need_number_n):=⟨by kernel_rfl,by kernel_rfl,by kernel_rfl,by decide +kernel,rfl,by decide +kernel,by decide +kernel⟩
theorem ok_need_number_n {f:Addr} {fd:FuncData} (F:Fun K "need_number" "need_number" st_need_number_n f fd) (hm:mg "need_number" = some (.ref f)) (hb:Binds K fd ["thing"] []) (T:Txt K mg) (d_is_whole:DefN P w K mg base "is_whole" 1 1 F_is_whole):DefN P w K mg base "need_number" 2 1 F_need_number_n:=
 def_ofN ["thing"] ["thing"] 1 2 1 1 rfl rfl rfl F hm hb sc_need_number_n (m:=m_need_number_n) fun cdv A outer s H E hr=>(ss_one (ss_if (st_not (st_val (se_fnN d_is_whole (hr.mono (by decide)) (by unfold Gl; kernel_rfl) (sa_cons (se_var 0 (by kernel_rfl) (Or.inl (by kernel_rfl))) sa_nil) (alen_cons alen_nil)))) (ss_one ss_never) ss_nil))
theorem sc_need_row_and_number_n:FnScope ["row","number"] ["row","number"] (defScope st_need_row_and_number_n):=⟨by kernel_rfl,by kernel_rfl,by kernel_rfl,by decide +kernel,rfl,by decide +kernel,by decide +kernel⟩
theorem ok_need_row_and_number_n {f:Addr} {fd:FuncData} (F:Fun K "need_row_and_number" "need_row_and_number" st_need_row_and_number_n f fd) (hm:mg "need_row_and_number" = some (.ref f)) (hb:Binds K fd ["row","number"] []) (T:Txt K mg) (d_need_number_n:DefN P w K mg base "need_number" 2 1 F_need_number_n) (d_need_row_n:DefN P w K mg base "need_row" 3 1 F_need_row_n):DefN P w K mg base "need_row_and_number" 4 2 F_need_row_and_number_n:=
 def_ofN ["row","number"] ["row","number"] 3 4 2 2 rfl rfl rfl F hm hb sc_need_row_and_number_n (m:=m_need_row_and_number_n) fun cdv A outer s H E hr=>(ss_cons (ss_expr (se_fnN d_need_row_n (hr.mono (by decide)) (by unfold Gl; kernel_rfl) (sa_cons (se_var 0 (by kernel_rfl) (Or.inl (by kernel_rfl))) sa_nil) (alen_cons alen_nil))) (ss_one (ss_expr (se_fnN d_need_number_n (hr.mono (by decide)) (by unfold Gl; kernel_rfl) (sa_cons (se_var 1 (by kernel_rfl) (Or.inl (by kernel_rfl))) sa_nil) (alen_cons alen_nil)))))
theorem sc_need_few_and_number_n:FnScope ["row","number"] ["row","number"] (defScope st_need_few_and_number_n):=⟨by kernel_rfl,by kernel_rfl,by kernel_rfl,by decide +kernel,rfl,by decide +kernel,by decide +kernel⟩
theorem ok_need_few_and_number_n {f:Addr} {fd:FuncData} (F:Fun K "need_few_and_number" "need_few_and_number" st_need_few_and_number_n f fd) (hm:mg "need_few_and_number" = some (.ref f)) (hb:Binds K fd ["row","number"] []) (T:Txt K mg) (d_need_few_n:DefN P w K mg base "need_few" 4 1 F_need_few_n) (d_need_row_and_number_n:DefN P w K mg base "need_row_and_number" 4 2 F_need_row_and_number_n):DefN P w K mg base "need_few_and_number" 5 2 F_need_few_and_number_n:=
 def_ofN ["row","number"] ["row","number"] 4 5 2 2 rfl rfl rfl F hm hb sc_need_few_and_number_n (m:=m_need_few_and_number_n) fun cdv A outer s H E hr=>(ss_cons (ss_expr (se_fnN d_need_row_and_number_n (hr.mono (by decide)) (by unfold Gl; kernel_rfl) (sa_cons (se_var 0 (by kernel_rfl) (Or.inl (by kernel_rfl))) (sa_cons (se_var 1 (by kernel_rfl) (Or.inl (by kernel_rfl))) sa_nil)) (alen_cons (alen_cons alen_nil)))) (ss_one (ss_expr (se_fnN d_need_few_n (hr.mono (by decide)) (by unfold Gl; kernel_rfl) (sa_cons (se_var 0 (by kernel_rfl) (Or.inl (by kernel_rfl))) sa_nil) (alen_cons alen_nil)))))
theorem sc_layers_for_n:FnScope ["row","number"] ["row","number"] (defScope st_layers_for_n):=⟨by kernel_rfl,by kernel_rfl,by kernel_rfl,by decide +kernel,rfl,by decide +kernel,by decide +kernel⟩
theorem ok_layers_for_n {f:Addr} {fd:FuncData} (F:Fun K "layers_for" "layers_for" st_layers_for_n f fd) (hm:mg "layers_for" = some (.ref f)) (hb:Binds K fd ["row","number"] []) (T:Txt K mg) (d_least_without:DefN P w K mg base "least_without" 3 3 F_least_without) (d_need_few_and_number_n:DefN P w K mg base "need_few_and_number" 5 2 F_need_few_and_number_n):DefN P w K mg base "layers_for" 6 2 F_layers_for_n:=
 def_ofN ["row","number"] ["row","number"] 5 6 2 2 rfl rfl rfl F hm hb sc_layers_for_n (m:=m_layers_for_n) fun cdv A outer s H E hr=>(ss_cons (ss_expr (se_fnN d_need_few_and_number_n (hr.mono (by decide)) (by unfold Gl; kernel_rfl) (sa_cons (se_var 0 (by kernel_rfl) (Or.inl (by kernel_rfl))) (sa_cons (se_var 1 (by kernel_rfl) (Or.inl (by kernel_rfl))) sa_nil)) (alen_cons (alen_cons alen_nil)))) (ss_one (ss_ret (se_fnN d_least_without (hr.mono (by decide)) (by unfold Gl; kernel_rfl) (sa_cons (se_var 1 (by kernel_rfl) (Or.inl (by kernel_rfl))) (sa_cons (se_var 0 (by kernel_rfl) (Or.inl (by kernel_rfl))) (sa_cons (se_gt T.m_SIGNS (by unfold Gl; kernel_rfl)) sa_nil))) (alen_cons (alen_cons (alen_cons alen_nil)))))))
theorem sc_wide_layers_for_n:FnScope ["row","number"] ["row","number"] (defScope st_wide_layers_for_n):=⟨by kernel_rfl,by kernel_rfl,by kernel_rfl,by decide +kernel,rfl,by decide +kernel,by decide +kernel⟩
theorem ok_wide_layers_for_n {f:Addr} {fd:FuncData} (F:Fun K "wide_layers_for" "wide_layers_for" st_wide_layers_for_n f fd) (hm:mg "wide_layers_for" = some (.ref f)) (hb:Binds K fd ["row","number"] []) (T:Txt K mg) (d_least_without:DefN P w K mg base "least_without" 3 3 F_least_without) (d_need_few_and_number_n:DefN P w K mg base "need_few_and_number" 5 2 F_need_few_and_number_n):DefN P w K mg base "wide_layers_for" 6 2 F_wide_layers_for_n:=
 def_ofN ["row","number"] ["row","number"] 5 6 2 2 rfl rfl rfl F hm hb sc_wide_layers_for_n (m:=m_wide_layers_for_n) fun cdv A outer s H E hr=>(ss_cons (ss_expr (se_fnN d_need_few_and_number_n (hr.mono (by decide)) (by unfold Gl; kernel_rfl) (sa_cons (se_var 0 (by kernel_rfl) (Or.inl (by kernel_rfl))) (sa_cons (se_var 1 (by kernel_rfl) (Or.inl (by kernel_rfl))) sa_nil)) (alen_cons (alen_cons alen_nil)))) (ss_one (ss_ret (se_fnN d_least_without (hr.mono (by decide)) (by unfold Gl; kernel_rfl) (sa_cons (se_var 1 (by kernel_rfl) (Or.inl (by kernel_rfl))) (sa_cons (se_var 0 (by kernel_rfl) (Or.inl (by kernel_rfl))) (sa_cons (se_gt T.m_PARTS (by unfold Gl; kernel_rfl)) sa_nil))) (alen_cons (alen_cons (alen_cons alen_nil)))))))
theorem sc_law:FnScope ["script","k","box","row","lap","number","kind","layers","due","turn","found"] ["script"] (defScope st_law):=⟨by kernel_rfl,by kernel_rfl,by kernel_rfl,by decide +kernel,rfl,by decide +kernel,by decide +kernel⟩
end
/-! what the top has written -/
theorem cls_mk {K:PySem.W.Frag}
  (gt:PySem.W.specialIn K (.builtin "object.__class__") "__get__" = some (some (.builtin "getset_descriptor.__get__")))
  (tk:PySem.W.takesIn K (.builtin "object.__class__")=some true):Cls K raisedX askedX isaX:=
 ⟨gt,tk,fun c hc=>by simp [raisedX] at hc,
  fun c hc k hk=>by simp [raisedX,askedX] at hc hk⟩
theorem us1 {p:List Value → Prop} (h:∀ a,p [a]) (us:List Value) (e:us.length=1):p us:=by
 rcases us with _ | ⟨a,_ | ⟨b,r⟩⟩
 · simp at e
 · exact h a
 · simp at e
theorem us2 {p:List Value → Prop} (h:∀ a b,p [a,b]) (us:List Value) (e:us.length=2):p us:=by
 rcases us with _ | ⟨a,_ | ⟨b,_ | ⟨c,r⟩⟩⟩
 · simp at e
 · simp at e
 · exact h a b
 · simp at e
theorem us3 {p:List Value → Prop} (h:∀ a b c,p [a,b,c]) (us:List Value) (e:us.length=3):p us:=by
 rcases us with _ | ⟨a,_ | ⟨b,_ | ⟨c,_ | ⟨d,r⟩⟩⟩⟩
 · simp at e
 · simp at e
 · simp at e
 · exact h a b c
 · simp at e
theorem all_mk {P:Program} {w:World} {K:PySem.W.Frag} {h:Heap} {mg:Str→Option Value} {fa:Addr} (X:K.In h) (G:h.Ns mainGlobals mg) (hfa:mg "law" = some (.ref fa))  {f0:Addr} {od0 an0:Option Addr} {sl0:Array (Option Value)} {oc0 kV0 dc0 pm0 cd0 ct0:Value} {f1:Addr} {od1 an1:Option Addr} {sl1:Array (Option Value)} {oc1 kV1 dc1 pm1 cd1 ct1:Value} {f2:Addr} {od2 an2:Option Addr} {sl2:Array (Option Value)} {oc2 kV2 dc2 pm2 cd2 ct2:Value} {f3:Addr} {od3 an3:Option Addr} {sl3:Array (Option Value)} {oc3 kV3 dc3 pm3 cd3 ct3:Value} {f4:Addr} {od4 an4:Option Addr} {sl4:Array (Option Value)} {oc4 kV4 dc4 pm4 cd4 ct4:Value} {f5:Addr} {od5 an5:Option Addr} {sl5:Array (Option Value)} {oc5 kV5 dc5 pm5 cd5 ct5:Value} {f6:Addr} {od6 an6:Option Addr} {sl6:Array (Option Value)} {oc6 kV6 dc6 pm6 cd6 ct6:Value} {f7:Addr} {od7 an7:Option Addr} {sl7:Array (Option Value)} {oc7 kV7 dc7 pm7 cd7 ct7:Value} {f8:Addr} {od8 an8:Option Addr} {sl8:Array (Option Value)} {oc8 kV8 dc8 pm8 cd8 ct8:Value} {f9:Addr} {od9 an9:Option Addr} {sl9:Array (Option Value)} {oc9 kV9 dc9 pm9 cd9 ct9:Value} {f10:Addr} {od10 an10:Option Addr} {sl10:Array (Option Value)} {oc10 kV10 dc10 pm10 cd10 ct10:Value} {f11:Addr} {od11 an11:Option Addr} {sl11:Array (Option Value)} {oc11 kV11 dc11 pm11 cd11 ct11:Value} {f12:Addr} {od12 an12:Option Addr} {sl12:Array (Option Value)} {oc12 kV12 dc12 pm12 cd12 ct12:Value} {f13:Addr} {od13 an13:Option Addr} {sl13:Array (Option Value)} {oc13 kV13 dc13 pm13 cd13 ct13:Value} {f14:Addr} {od14 an14:Option Addr} {sl14:Array (Option Value)} {oc14 kV14 dc14 pm14 cd14 ct14:Value} {f15:Addr} {od15 an15:Option Addr} {sl15:Array (Option Value)} {oc15 kV15 dc15 pm15 cd15 ct15:Value} {f16:Addr} {od16 an16:Option Addr} {sl16:Array (Option Value)} {oc16 kV16 dc16 pm16 cd16 ct16:Value} {f17:Addr} {od17 an17:Option Addr} {sl17:Array (Option Value)} {oc17 kV17 dc17 pm17 cd17 ct17:Value} {f18:Addr} {od18 an18:Option Addr} {sl18:Array (Option Value)} {oc18 kV18 dc18 pm18 cd18 ct18:Value} {f19:Addr} {od19 an19:Option Addr} {sl19:Array (Option Value)} {oc19 kV19 dc19 pm19 cd19 ct19:Value} {t_LONGEST_ROW:Tok} {t_LONGEST_TABLED:Tok} {A_PARTS:Addr} {od_PARTS:Option Addr} {n_PARTS:Nat} {sl_PARTS:Array (Option Value)} {u0_PARTS:Tok} {u1_PARTS:Tok} {u2_PARTS:Tok} {A_SIGNS:Addr} {od_SIGNS:Option Addr} {n_SIGNS:Nat} {sl_SIGNS:Array (Option Value)} {u0_SIGNS:Tok} {u1_SIGNS:Tok}
  (a0:PySem.W.nsIn K mainGlobals "_law_cell" = some (some (.ref f0))) (l0:K.lookup f0=some ⟨oc0,od0,.func (PySem.W.fnOf "_law_cell" "_law_cell" (defArgs st__law_cell) (defBody st__law_cell) (defScope st__law_cell) .none kV0 dc0 pm0 an0 cd0 ct0),sl0⟩) (c0:PySem.W.codeIn K cd0 "_law_cell" = true) (k0:PySem.W.keepIn K (.ref f0)=true)
  (a1:PySem.W.nsIn K mainGlobals "_law_mix" = some (some (.ref f1))) (l1:K.lookup f1=some ⟨oc1,od1,.func (PySem.W.fnOf "_law_mix" "_law_mix" (defArgs st__law_mix) (defBody st__law_mix) (defScope st__law_mix) .none kV1 dc1 pm1 an1 cd1 ct1),sl1⟩) (c1:PySem.W.codeIn K cd1 "_law_mix" = true) (k1:PySem.W.keepIn K (.ref f1)=true)
  (a2:PySem.W.nsIn K mainGlobals "_law_box" = some (some (.ref f2))) (l2:K.lookup f2=some ⟨oc2,od2,.func (PySem.W.fnOf "_law_box" "_law_box" (defArgs st__law_box) (defBody st__law_box) (defScope st__law_box) .none kV2 dc2 pm2 an2 cd2 ct2),sl2⟩) (c2:PySem.W.codeIn K cd2 "_law_box" = true) (k2:PySem.W.keepIn K (.ref f2)=true)
  (a3:PySem.W.nsIn K mainGlobals "_law_layers" = some (some (.ref f3))) (l3:K.lookup f3=some ⟨oc3,od3,.func (PySem.W.fnOf "_law_layers" "_law_layers" (defArgs st__law_layers) (defBody st__law_layers) (defScope st__law_layers) .none kV3 dc3 pm3 an3 cd3 ct3),sl3⟩) (c3:PySem.W.codeIn K cd3 "_law_layers" = true) (k3:PySem.W.keepIn K (.ref f3)=true)
  (a4:PySem.W.nsIn K mainGlobals "_law_take" = some (some (.ref f4))) (l4:K.lookup f4=some ⟨oc4,od4,.func (PySem.W.fnOf "_law_take" "_law_take" (defArgs st__law_take) (defBody st__law_take) (defScope st__law_take) .none kV4 dc4 pm4 an4 cd4 ct4),sl4⟩) (c4:PySem.W.codeIn K cd4 "_law_take" = true) (k4:PySem.W.keepIn K (.ref f4)=true)
  (a5:PySem.W.nsIn K mainGlobals "_law_number" = some (some (.ref f5))) (l5:K.lookup f5=some ⟨oc5,od5,.func (PySem.W.fnOf "_law_number" "_law_number" (defArgs st__law_number) (defBody st__law_number) (defScope st__law_number) .none kV5 dc5 pm5 an5 cd5 ct5),sl5⟩) (c5:PySem.W.codeIn K cd5 "_law_number" = true) (k5:PySem.W.keepIn K (.ref f5)=true)
  (a6:PySem.W.nsIn K mainGlobals "_law_row" = some (some (.ref f6))) (l6:K.lookup f6=some ⟨oc6,od6,.func (PySem.W.fnOf "_law_row" "_law_row" (defArgs st__law_row) (defBody st__law_row) (defScope st__law_row) .none kV6 dc6 pm6 an6 cd6 ct6),sl6⟩) (c6:PySem.W.codeIn K cd6 "_law_row" = true) (k6:PySem.W.keepIn K (.ref f6)=true)
  (a7:PySem.W.nsIn K mainGlobals "stepped" = some (some (.ref f7))) (l7:K.lookup f7=some ⟨oc7,od7,.func (PySem.W.fnOf "stepped" "stepped" (defArgs st_stepped) (defBody st_stepped) (defScope st_stepped) .none kV7 dc7 pm7 an7 cd7 ct7),sl7⟩) (c7:PySem.W.codeIn K cd7 "stepped" = true) (k7:PySem.W.keepIn K (.ref f7)=true)
  (a8:PySem.W.nsIn K mainGlobals "least_layers" = some (some (.ref f8))) (l8:K.lookup f8=some ⟨oc8,od8,.func (PySem.W.fnOf "least_layers" "least_layers" (defArgs st_least_layers) (defBody st_least_layers) (defScope st_least_layers) .none kV8 dc8 pm8 an8 cd8 ct8),sl8⟩) (c8:PySem.W.codeIn K cd8 "least_layers" = true) (k8:PySem.W.keepIn K (.ref f8)=true)
  (a9:PySem.W.nsIn K mainGlobals "least_without" = some (some (.ref f9))) (l9:K.lookup f9=some ⟨oc9,od9,.func (PySem.W.fnOf "least_without" "least_without" (defArgs st_least_without) (defBody st_least_without) (defScope st_least_without) .none kV9 dc9 pm9 an9 cd9 ct9),sl9⟩) (c9:PySem.W.codeIn K cd9 "least_without" = true) (k9:PySem.W.keepIn K (.ref f9)=true)
  (a10:PySem.W.nsIn K mainGlobals "is_whole" = some (some (.ref f10))) (l10:K.lookup f10=some ⟨oc10,od10,.func (PySem.W.fnOf "is_whole" "is_whole" (defArgs st_is_whole) (defBody st_is_whole) (defScope st_is_whole) .none kV10 dc10 pm10 an10 cd10 ct10),sl10⟩) (c10:PySem.W.codeIn K cd10 "is_whole" = true) (k10:PySem.W.keepIn K (.ref f10)=true)
  (a11:PySem.W.nsIn K mainGlobals "is_row" = some (some (.ref f11))) (l11:K.lookup f11=some ⟨oc11,od11,.func (PySem.W.fnOf "is_row" "is_row" (defArgs st_is_row) (defBody st_is_row) (defScope st_is_row) .none kV11 dc11 pm11 an11 cd11 ct11),sl11⟩) (c11:PySem.W.codeIn K cd11 "is_row" = true) (k11:PySem.W.keepIn K (.ref f11)=true)
  (a12:PySem.W.nsIn K mainGlobals "need_row" = some (some (.ref f12))) (l12:K.lookup f12=some ⟨oc12,od12,.func (PySem.W.fnOf "need_row" "need_row" (defArgs st_need_row_n) (defBody st_need_row_n) (defScope st_need_row_n) .none kV12 dc12 pm12 an12 cd12 ct12),sl12⟩) (c12:PySem.W.codeIn K cd12 "need_row" = true) (k12:PySem.W.keepIn K (.ref f12)=true)
  (a13:PySem.W.nsIn K mainGlobals "need_few" = some (some (.ref f13))) (l13:K.lookup f13=some ⟨oc13,od13,.func (PySem.W.fnOf "need_few" "need_few" (defArgs st_need_few_n) (defBody st_need_few_n) (defScope st_need_few_n) .none kV13 dc13 pm13 an13 cd13 ct13),sl13⟩) (c13:PySem.W.codeIn K cd13 "need_few" = true) (k13:PySem.W.keepIn K (.ref f13)=true)
  (a14:PySem.W.nsIn K mainGlobals "need_number" = some (some (.ref f14))) (l14:K.lookup f14=some ⟨oc14,od14,.func (PySem.W.fnOf "need_number" "need_number" (defArgs st_need_number_n) (defBody st_need_number_n) (defScope st_need_number_n) .none kV14 dc14 pm14 an14 cd14 ct14),sl14⟩) (c14:PySem.W.codeIn K cd14 "need_number" = true) (k14:PySem.W.keepIn K (.ref f14)=true)
  (a15:PySem.W.nsIn K mainGlobals "need_row_and_number" = some (some (.ref f15))) (l15:K.lookup f15=some ⟨oc15,od15,.func (PySem.W.fnOf "need_row_and_number" "need_row_and_number" (defArgs st_need_row_and_number_n) (defBody st_need_row_and_number_n) (defScope st_need_row_and_number_n) .none kV15 dc15 pm15 an15 cd15 ct15),sl15⟩) (c15:PySem.W.codeIn K cd15 "need_row_and_number" = true) (k15:PySem.W.keepIn K (.ref f15)=true)
  (a16:PySem.W.nsIn K mainGlobals "need_few_and_number" = some (some (.ref f16))) (l16:K.lookup f16=some ⟨oc16,od16,.func (PySem.W.fnOf "need_few_and_number" "need_few_and_number" (defArgs st_need_few_and_number_n) (defBody st_need_few_and_number_n) (defScope st_need_few_and_number_n) .none kV16 dc16 pm16 an16 cd16 ct16),sl16⟩) (c16:PySem.W.codeIn K cd16 "need_few_and_number" = true) (k16:PySem.W.keepIn K (.ref f16)=true)
  (a17:PySem.W.nsIn K mainGlobals "layers_for" = some (some (.ref f17))) (l17:K.lookup f17=some ⟨oc17,od17,.func (PySem.W.fnOf "layers_for" "layers_for" (defArgs st_layers_for_n) (defBody st_layers_for_n) (defScope st_layers_for_n) .none kV17 dc17 pm17 an17 cd17 ct17),sl17⟩) (c17:PySem.W.codeIn K cd17 "layers_for" = true) (k17:PySem.W.keepIn K (.ref f17)=true)
  (a18:PySem.W.nsIn K mainGlobals "wide_layers_for" = some (some (.ref f18))) (l18:K.lookup f18=some ⟨oc18,od18,.func (PySem.W.fnOf "wide_layers_for" "wide_layers_for" (defArgs st_wide_layers_for_n) (defBody st_wide_layers_for_n) (defScope st_wide_layers_for_n) .none kV18 dc18 pm18 an18 cd18 ct18),sl18⟩) (c18:PySem.W.codeIn K cd18 "wide_layers_for" = true) (k18:PySem.W.keepIn K (.ref f18)=true)
  (a19:PySem.W.nsIn K mainGlobals "law" = some (some (.ref f19))) (l19:K.lookup f19=some ⟨oc19,od19,.func (PySem.W.fnOf "law" "law" (defArgs st_law) (defBody st_law) (defScope st_law) .none kV19 dc19 pm19 an19 cd19 ct19),sl19⟩) (c19:PySem.W.codeIn K cd19 "law" = true) (k19:PySem.W.keepIn K (.ref f19)=true)
  (z_abs:PySem.W.nsIn K mainGlobals "abs" = some none)
  (z_all:PySem.W.nsIn K mainGlobals "all" = some none)
  (z_bool:PySem.W.nsIn K mainGlobals "bool" = some none)
  (z_divmod:PySem.W.nsIn K mainGlobals "divmod" = some none)
  (z_int:PySem.W.nsIn K mainGlobals "int" = some none)
  (z_isinstance:PySem.W.nsIn K mainGlobals "isinstance" = some none)
  (z_len:PySem.W.nsIn K mainGlobals "len" = some none)
  (z_max:PySem.W.nsIn K mainGlobals "max" = some none)
  (z_min:PySem.W.nsIn K mainGlobals "min" = some none)
  (z_range:PySem.W.nsIn K mainGlobals "range" = some none)
  (z_repr:PySem.W.nsIn K mainGlobals "repr" = some none)
  (z_set:PySem.W.nsIn K mainGlobals "set" = some none)
  (z_sorted:PySem.W.nsIn K mainGlobals "sorted" = some none)
  (z_sum:PySem.W.nsIn K mainGlobals "sum" = some none)
  (z_tuple:PySem.W.nsIn K mainGlobals "tuple" = some none)
  (z_LONGEST_ROW:PySem.W.nsIn K mainGlobals "LONGEST_ROW" = some (some (.int 16 t_LONGEST_ROW)))
  (z_LONGEST_TABLED:PySem.W.nsIn K mainGlobals "LONGEST_TABLED" = some (some (.int 10 t_LONGEST_TABLED)))
  (zt_PARTS:PySem.W.nsIn K mainGlobals "PARTS" = some (some (.ref A_PARTS))) (yt_PARTS:K.lookup A_PARTS=some ⟨.type "tuple",od_PARTS,.seq #[.int (-1) u0_PARTS,.int (0) u1_PARTS,.int (1) u2_PARTS] n_PARTS,sl_PARTS⟩)
  (zt_SIGNS:PySem.W.nsIn K mainGlobals "SIGNS" = some (some (.ref A_SIGNS))) (yt_SIGNS:K.lookup A_SIGNS=some ⟨.type "tuple",od_SIGNS,.seq #[.int (-1) u0_SIGNS,.int (1) u1_SIGNS] n_SIGNS,sl_SIGNS⟩)
  (gt:PySem.W.specialIn K (.builtin "object.__class__") "__get__" = some (some (.builtin "getset_descriptor.__get__")))
  (tk:PySem.W.takesIn K (.builtin "object.__class__")=some true):
  ∃ fd:FuncData,(∀ (s:Shared) (v:Value),BindsTo s fd ⟨[v],[]⟩ [("script",v)])∧∀ base:Heap,K.In base→base.Ns mainGlobals mg→FnOk P w K mg base (CX1 P w) 7 fa fd ["script"] (spN K 1 F_law):=by
 have e:=hfa.symm.trans (PySem.W.mg_of X G a19)
 cases e
 have T:Txt K mg:=⟨cls_mk gt tk,PySem.W.mg_none_of X G z_abs,PySem.W.mg_none_of X G z_all,PySem.W.mg_none_of X G z_bool,PySem.W.mg_none_of X G z_divmod,PySem.W.mg_none_of X G z_int,PySem.W.mg_none_of X G z_isinstance,PySem.W.mg_none_of X G z_len,PySem.W.mg_none_of X G z_max,PySem.W.mg_none_of X G z_min,PySem.W.mg_none_of X G z_range,PySem.W.mg_none_of X G z_repr,PySem.W.mg_none_of X G z_set,PySem.W.mg_none_of X G z_sorted,PySem.W.mg_none_of X G z_sum,PySem.W.mg_none_of X G z_tuple,⟨_,PySem.W.mg_of X G z_LONGEST_ROW⟩,⟨_,PySem.W.mg_of X G z_LONGEST_TABLED⟩,tup3_mk X G zt_PARTS yt_PARTS,tup2_mk X G zt_SIGNS yt_SIGNS⟩
 have F0:=fun_mk (st:=st__law_cell) l0 c0 k0
 have b0:=F0.binds (ps:=["script","k"]) fun _ _ _ _ _ _=>us2 fun _ _=>rfl
 have F1:=fun_mk (st:=st__law_mix) l1 c1 k1
 have b1:=F1.binds (ps:=["cell","k"]) fun _ _ _ _ _ _=>us2 fun _ _=>rfl
 have F2:=fun_mk (st:=st__law_box) l2 c2 k2
 have b2:=F2.binds (ps:=["script","k"]) fun _ _ _ _ _ _=>us2 fun _ _=>rfl
 have F3:=fun_mk (st:=st__law_layers) l3 c3 k3
 have b3:=F3.binds (ps:=["row","kinds"]) fun _ _ _ _ _ _=>us2 fun _ _=>rfl
 have F4:=fun_mk (st:=st__law_take) l4 c4 k4
 have b4:=F4.binds (ps:=["box","many"]) fun _ _ _ _ _ _=>us2 fun _ _=>rfl
 have F5:=fun_mk (st:=st__law_number) l5 c5 k5
 have b5:=F5.binds (ps:=["box","row"]) fun _ _ _ _ _ _=>us2 fun _ _=>rfl
 have F6:=fun_mk (st:=st__law_row) l6 c6 k6
 have b6:=F6.binds (ps:=["box","most"]) fun _ _ _ _ _ _=>us2 fun _ _=>rfl
 have F7:=fun_mk (st:=st_stepped) l7 c7 k7
 have b7:=F7.binds (ps:=["table","step","choices"]) fun _ _ _ _ _ _=>us3 fun _ _ _=>rfl
 have F8:=fun_mk (st:=st_least_layers) l8 c8 k8
 have b8:=F8.binds (ps:=["row","choices"]) fun _ _ _ _ _ _=>us2 fun _ _=>rfl
 have F9:=fun_mk (st:=st_least_without) l9 c9 k9
 have b9:=F9.binds (ps:=["number","row","choices"]) fun _ _ _ _ _ _=>us3 fun _ _ _=>rfl
 have F10:=fun_mk (st:=st_is_whole) l10 c10 k10
 have b10:=F10.binds (ps:=["thing"]) fun _ _ _ _ _ _=>us1 fun _=>rfl
 have F11:=fun_mk (st:=st_is_row) l11 c11 k11
 have b11:=F11.binds (ps:=["thing"]) fun _ _ _ _ _ _=>us1 fun _=>rfl
 have F12:=fun_mk (st:=st_need_row_n) l12 c12 k12
 have b12:=F12.binds (ps:=["thing"]) fun _ _ _ _ _ _=>us1 fun _=>rfl
 have F13:=fun_mk (st:=st_need_few_n) l13 c13 k13
 have b13:=F13.binds (ps:=["row"]) fun _ _ _ _ _ _=>us1 fun _=>rfl
 have F14:=fun_mk (st:=st_need_number_n) l14 c14 k14
 have b14:=F14.binds (ps:=["thing"]) fun _ _ _ _ _ _=>us1 fun _=>rfl
 have F15:=fun_mk (st:=st_need_row_and_number_n) l15 c15 k15
 have b15:=F15.binds (ps:=["row","number"]) fun _ _ _ _ _ _=>us2 fun _ _=>rfl
 have F16:=fun_mk (st:=st_need_few_and_number_n) l16 c16 k16
 have b16:=F16.binds (ps:=["row","number"]) fun _ _ _ _ _ _=>us2 fun _ _=>rfl
 have F17:=fun_mk (st:=st_layers_for_n) l17 c17 k17
 have b17:=F17.binds (ps:=["row","number"]) fun _ _ _ _ _ _=>us2 fun _ _=>rfl
 have F18:=fun_mk (st:=st_wide_layers_for_n) l18 c18 k18
 have b18:=F18.binds (ps:=["row","number"]) fun _ _ _ _ _ _=>us2 fun _ _=>rfl
 have F19:=fun_mk (st:=st_law) l19 c19 k19
 have b19:=F19.binds (ps:=["script"]) fun _ _ _ _ _ _=>us1 fun _=>rfl
 refine ⟨PySem.W.fnOf "law" "law" (defArgs st_law) (defBody st_law) (defScope st_law) .none kV19 dc19 pm19 an19 cd19 ct19,fun s v=>.of_eq rfl,fun base _ _=>?_⟩
 have d__law_cell:DefN P w K mg base "_law_cell" 1 2 F__law_cell:=ok__law_cell F0 (PySem.W.mg_of X G a0) b0 T
 have d__law_mix:DefN P w K mg base "_law_mix" 1 2 F__law_mix:=ok__law_mix F1 (PySem.W.mg_of X G a1) b1 T
 have d__law_box:DefN P w K mg base "_law_box" 2 2 F__law_box:=ok__law_box F2 (PySem.W.mg_of X G a2) b2 T d__law_cell d__law_mix
 have d__law_layers:DefN P w K mg base "_law_layers" 1 2 F__law_layers:=ok__law_layers F3 (PySem.W.mg_of X G a3) b3 T
 have d__law_take:DefN P w K mg base "_law_take" 1 2 F__law_take:=ok__law_take F4 (PySem.W.mg_of X G a4) b4 T
 have d__law_number:DefN P w K mg base "_law_number" 2 2 F__law_number:=ok__law_number F5 (PySem.W.mg_of X G a5) b5 T d__law_take
 have d__law_row:DefN P w K mg base "_law_row" 2 2 F__law_row:=ok__law_row F6 (PySem.W.mg_of X G a6) b6 T d__law_take
 have d_stepped:DefN P w K mg base "stepped" 1 3 F_stepped:=ok_stepped F7 (PySem.W.mg_of X G a7) b7 T
 have d_least_layers:DefN P w K mg base "least_layers" 2 2 F_least_layers:=ok_least_layers F8 (PySem.W.mg_of X G a8) b8 T d_stepped
 have d_least_without:DefN P w K mg base "least_without" 3 3 F_least_without:=ok_least_without F9 (PySem.W.mg_of X G a9) b9 T d_least_layers
 have d_is_whole:DefN P w K mg base "is_whole" 1 1 F_is_whole:=ok_is_whole F10 (PySem.W.mg_of X G a10) b10 T
 have d_is_row:DefN P w K mg base "is_row" 2 1 F_is_row:=ok_is_row F11 (PySem.W.mg_of X G a11) b11 T d_is_whole
 have d_need_row_n:DefN P w K mg base "need_row" 3 1 F_need_row_n:=ok_need_row_n F12 (PySem.W.mg_of X G a12) b12 T d_is_row
 have d_need_few_n:DefN P w K mg base "need_few" 4 1 F_need_few_n:=ok_need_few_n F13 (PySem.W.mg_of X G a13) b13 T d_need_row_n
 have d_need_number_n:DefN P w K mg base "need_number" 2 1 F_need_number_n:=ok_need_number_n F14 (PySem.W.mg_of X G a14) b14 T d_is_whole
 have d_need_row_and_number_n:DefN P w K mg base "need_row_and_number" 4 2 F_need_row_and_number_n:=ok_need_row_and_number_n F15 (PySem.W.mg_of X G a15) b15 T d_need_number_n d_need_row_n
 have d_need_few_and_number_n:DefN P w K mg base "need_few_and_number" 5 2 F_need_few_and_number_n:=ok_need_few_and_number_n F16 (PySem.W.mg_of X G a16) b16 T d_need_few_n d_need_row_and_number_n
 have d_layers_for_n:DefN P w K mg base "layers_for" 6 2 F_layers_for_n:=ok_layers_for_n F17 (PySem.W.mg_of X G a17) b17 T d_least_without d_need_few_and_number_n
 have d_wide_layers_for_n:DefN P w K mg base "wide_layers_for" 6 2 F_wide_layers_for_n:=ok_wide_layers_for_n F18 (PySem.W.mg_of X G a18) b18 T d_least_without d_need_few_and_number_n
 exact law_ofN ["script","k","box","row","lap","number","kind","layers","due","turn","found"] ["script"] 6 7 1 11 rfl rfl rfl (m:=m_law) F19 sc_law fun cdv A outer s H E hr=>(ss_cons (ss_for PassesOwn.never rfl (si_range1 (by unfold Gl; kernel_rfl) T.b_range (sa_cons (se_callB (xc_max rfl) (by unfold Gl; kernel_rfl) T.b_max boo_max (sa_cons se_int (sa_cons (se_callB (xc_min rfl) (by unfold Gl; kernel_rfl) T.b_min boo_min (sa_cons (se_callB xc_len (by unfold Gl; kernel_rfl) T.b_len boo_len (sa_cons (se_var 0 (by kernel_rfl) (Or.inl (by kernel_rfl))) sa_nil)) (sa_cons se_int sa_nil))) sa_nil))) sa_nil)) (sg_name sc_law.nd (by kernel_rfl) (Or.inl (by kernel_rfl))) (ss_cons (ss_set sc_law.nd (by kernel_rfl) (Or.inl (by kernel_rfl)) (se_fnN d__law_box (hr.mono (by decide)) (by unfold Gl; kernel_rfl) (sa_cons (se_var 0 (by kernel_rfl) (Or.inl (by kernel_rfl))) (sa_cons (se_var 1 (by kernel_rfl) (Or.inl (by kernel_rfl))) sa_nil)) (alen_cons (alen_cons alen_nil)))) (ss_cons (ss_set sc_law.nd (by kernel_rfl) (Or.inl (by kernel_rfl)) (se_fnN d__law_row (hr.mono (by decide)) (by unfold Gl; kernel_rfl) (sa_cons (se_var 2 (by kernel_rfl) (Or.inl (by kernel_rfl))) (sa_cons se_int sa_nil)) (alen_cons (alen_cons alen_nil)))) (ss_one (ss_for PassesOwn.never rfl (si_range1 (by unfold Gl; kernel_rfl) T.b_range (sa_cons se_int sa_nil)) (sg_name sc_law.nd (by kernel_rfl) (Or.inl (by kernel_rfl))) (ss_cons (ss_set sc_law.nd (by kernel_rfl) (Or.inl (by kernel_rfl)) (se_fnN d__law_number (hr.mono (by decide)) (by unfold Gl; kernel_rfl) (sa_cons (se_var 2 (by kernel_rfl) (Or.inl (by kernel_rfl))) (sa_cons (se_var 3 (by kernel_rfl) (Or.inl (by kernel_rfl))) sa_nil)) (alen_cons (alen_cons alen_nil)))) (ss_one (ss_for PassesOwn.never rfl (si_range1 (by unfold Gl; kernel_rfl) T.b_range (sa_cons se_int sa_nil)) (sg_name sc_law.nd (by kernel_rfl) (Or.inl (by kernel_rfl))) (ss_cons (ss_set sc_law.nd (by kernel_rfl) (Or.inl (by kernel_rfl)) (se_fnN d__law_layers (hr.mono (by decide)) (by unfold Gl; kernel_rfl) (sa_cons (se_var 3 (by kernel_rfl) (Or.inl (by kernel_rfl))) (sa_cons (se_ix xi_ix (se_lst (sa_cons (se_tup (sa_cons (se_un xu_neg se_int) (sa_cons se_int sa_nil))) (sa_cons (se_tup (sa_cons (se_un xu_neg se_int) (sa_cons se_int (sa_cons se_int sa_nil)))) sa_nil))) (se_var 6 (by kernel_rfl) (Or.inl (by kernel_rfl)))) sa_nil)) (alen_cons (alen_cons alen_nil)))) (ss_cons (ss_set sc_law.nd (by kernel_rfl) (Or.inl (by kernel_rfl)) (se_ix xi_ix (se_lst (sa_cons (se_var 7 (by kernel_rfl) (Or.inl (by kernel_rfl))) (sa_cons se_non sa_nil))) (se_callTy xc_int (by unfold Gl; kernel_rfl) T.b_int boo_int (sa_cons (se_cmp xo_in (se_var 5 (by kernel_rfl) (Or.inl (by kernel_rfl))) (se_ix xi_ix (se_var 7 (by kernel_rfl) (Or.inl (by kernel_rfl))) (se_un xu_neg se_int))) sa_nil)))) (ss_one (ss_for PassesOwn.never rfl (si_range1 (by unfold Gl; kernel_rfl) T.b_range (sa_cons se_int sa_nil)) (sg_name sc_law.nd (by kernel_rfl) (Or.inl (by kernel_rfl))) (ss_cons (ss_set sc_law.nd (by kernel_rfl) (Or.inl (by kernel_rfl)) (se_if (st_cmp (xo_eqP hr) (se_var 6 (by kernel_rfl) (Or.inl (by kernel_rfl))) se_int) (se_fnN d_layers_for_n (hr.mono (by decide)) (by unfold Gl; kernel_rfl) (sa_cons (se_var 3 (by kernel_rfl) (Or.inl (by kernel_rfl))) (sa_cons (se_var 5 (by kernel_rfl) (Or.inl (by kernel_rfl))) sa_nil)) (alen_cons (alen_cons alen_nil))) (se_fnN d_wide_layers_for_n (hr.mono (by decide)) (by unfold Gl; kernel_rfl) (sa_cons (se_var 3 (by kernel_rfl) (Or.inl (by kernel_rfl))) (sa_cons (se_var 5 (by kernel_rfl) (Or.inl (by kernel_rfl))) sa_nil)) (alen_cons (alen_cons alen_nil))))) (ss_cons (ss_if (st_cmp (xo_neP hr) (se_callB (xc_reprS hr) (by unfold Gl; kernel_rfl) T.b_repr boo_repr (sa_cons (se_var 10 (by kernel_rfl) (Or.inl (by kernel_rfl))) sa_nil)) (se_callB (xc_reprS hr) (by unfold Gl; kernel_rfl) T.b_repr boo_repr (sa_cons (se_var 8 (by kernel_rfl) (Or.inl (by kernel_rfl))) sa_nil))) (ss_one (ss_ret se_bl)) ss_nil) (ss_one (ss_if (st_cmp xo_isnot (se_var 8 (by kernel_rfl) (Or.inl (by kernel_rfl))) se_non) (ss_one (ss_expr (se_mtL PySem.F.plainAttrs_list PySem.F.slot_list_append PySem.F.type_list_append xm_append (se_var 10 (by kernel_rfl) (Or.inl (by kernel_rfl))) (sa_cons (se_tup sa_nil) sa_nil)))) ss_nil)))))))))))))))) (ss_one (ss_ret se_bl)))
theorem walk {l:PySem.W.OpenLaw} {q:Program} {loose:List Str} {XP:(Str→Option Value)→Heap→Prop} {YP:World→Heap→Prop} {d:DefRec} {K:Params→PySem.W.Frag} (hn:l.most=some 63) (hdf:d.params.defaults=[])
  (hY:∀ (w:World) (h:Heap),YP w h→(K w.params).In h)
  (F:∀ (w:World) (mg:Str→Option Value) (fa:Addr) (h:Heap),(K w.params).In h→h.Ns mainGlobals mg→mg d.name=some (.ref fa)→
   ∃ fd:FuncData,(∀ (s:Shared) (u:Value),BindsTo s fd ⟨[u],[]⟩ [("script",u)])∧∀ base:Heap,(K w.params).In base→base.Ns mainGlobals mg→FnOk l.prog w (K w.params) mg base (CX1 l.prog w) 7 fa fd ["script"] (spN (K w.params) 1 F_law)):
  PySem.W.WalkO q loose XP YP l.row.toRowW d [] (fun f vs=>PySem.call f vs):=
 L2.walk_of (n:=63) (k:=7) (x:="script") (CX:=fun w=>CX1 l.prog w) (sp:=fun w=>spN (K w.params) 1 F_law) hn (by decide) hdf ⟨rfl,by decide,by decide,rfl⟩ hY F (fun w H a ns hl ho hS=>law_spN law_true (K w.params) H a ns hl ho hS) fun _ _ _ _ _ z=>cx1_no z
end Lw
open PySem PySem.W PyProof.Rows
set_option maxRecDepth 100000 in
set_option maxHeartbeats 0 in
theorem PySem.Challenge.cw_plusless_k11_layers_told_holds : PySem.Challenge.rw_plusless_k11_layers_told.Holds := by
  w_on; o_law
  refine holds_open (q := Lw.hV) (loose := []) (Xt := Lw.hX) (XP := XL Lw.hV []) (Yf := Hook.obs (kHook Lw.hK Lw.hA Lw.hKA)) (Ya := Hook.val (kHook Lw.hK Lw.hA Lw.hKA)) (YP := Hook.says (kHook Lw.hK Lw.hA Lw.hKA)) (N := 3204) Lw.left (Hook.of (kHook Lw.hK Lw.hA Lw.hKA)) (Hook.keeps (kHook Lw.hK Lw.hA Lw.hKA)) (fun s e => xl_of s (Bool.and_eq_true_iff.mp e).1) XL.keeps (by rfl) (by rfl) (by rfl) (fun s e => recFacts_of (Bool.and_eq_true_iff.mp e).2) (by rfl) (by first | assumption | decide +kernel) (by decide +kernel) ⟨rfl, rfl, rfl, rfl, rfl, by decide +kernel⟩ ?hw ?hc
  case hw => w_witness2
  k_fill
  refine Lw.walk (l := PySem.Challenge.rw_plusless_k11_layers_told) rfl rfl (fun w h Y => by first | exact PySem.W.kIn_of Y | exact Y.1) ?F
  case F =>
    intro w mg fa h KX G hmg
    refine' Lw.all_mk KX G hmg ?a0 ?l0 ?c0 ?k0 ?a1 ?l1 ?c1 ?k1 ?a2 ?l2 ?c2 ?k2 ?a3 ?l3 ?c3 ?k3 ?a4 ?l4 ?c4 ?k4 ?a5 ?l5 ?c5 ?k5 ?a6 ?l6 ?c6 ?k6 ?a7 ?l7 ?c7 ?k7 ?a8 ?l8 ?c8 ?k8 ?a9 ?l9 ?c9 ?k9 ?a10 ?l10 ?c10 ?k10 ?a11 ?l11 ?c11 ?k11 ?a12 ?l12 ?c12 ?k12 ?a13 ?l13 ?c13 ?k13 ?a14 ?l14 ?c14 ?k14 ?a15 ?l15 ?c15 ?k15 ?a16 ?l16 ?c16 ?k16 ?a17 ?l17 ?c17 ?k17 ?a18 ?l18 ?c18 ?k18 ?a19 ?l19 ?c19 ?k19 ?z_abs ?z_all ?z_bool ?z_divmod ?z_int ?z_isinstance ?z_len ?z_max ?z_min ?z_range ?z_repr ?z_set ?z_sorted ?z_sum ?z_tuple ?z_LONGEST_ROW ?z_LONGEST_TABLED ?zt_PARTS ?yt_PARTS ?zt_SIGNS ?yt_SIGNS ?gt ?tk
    (case a0 => k_is)
    (case l0 => k_is)
    (case c0 => k_is)
    (case k0 => k_is)
    (case a1 => k_is)
    (case l1 => k_is)
    (case c1 => k_is)
    (case k1 => k_is)
    (case a2 => k_is)
    (case l2 => k_is)
    (case c2 => k_is)
    (case k2 => k_is)
    (case a3 => k_is)
    (case l3 => k_is)
    (case c3 => k_is)
    (case k3 => k_is)
    (case a4 => k_is)
    (case l4 => k_is)
    (case c4 => k_is)
    (case k4 => k_is)
    (case a5 => k_is)
    (case l5 => k_is)
    (case c5 => k_is)
    (case k5 => k_is)
    (case a6 => k_is)
    (case l6 => k_is)
    (case c6 => k_is)
    (case k6 => k_is)
    (case a7 => k_is)
    (case l7 => k_is)
    (case c7 => k_is)
    (case k7 => k_is)
    (case a8 => k_is)
    (case l8 => k_is)
    (case c8 => k_is)
    (case k8 => k_is)
    (case a9 => k_is)
    (case l9 => k_is)
    (case c9 => k_is)
    (case k9 => k_is)
    (case a10 => k_is)
    (case l10 => k_is)
    (case c10 => k_is)
    (case k10 => k_is)
    (case a11 => k_is)
    (case l11 => k_is)
    (case c11 => k_is)
    (case k11 => k_is)
    (case a12 => k_is)
    (case l12 => k_is)
    (case c12 => k_is)
    (case k12 => k_is)
    (case a13 => k_is)
    (case l13 => k_is)
    (case c13 => k_is)
    (case k13 => k_is)
    (case a14 => k_is)
    (case l14 => k_is)
    (case c14 => k_is)
    (case k14 => k_is)
    (case a15 => k_is)
    (case l15 => k_is)
    (case c15 => k_is)
    (case k15 => k_is)
    (case a16 => k_is)
    (case l16 => k_is)
    (case c16 => k_is)
    (case k16 => k_is)
    (case a17 => k_is)
    (case l17 => k_is)
    (case c17 => k_is)
    (case k17 => k_is)
    (case a18 => k_is)
    (case l18 => k_is)
    (case c18 => k_is)
    (case k18 => k_is)
    (case a19 => k_is)
    (case l19 => k_is)
    (case c19 => k_is)
    (case k19 => k_is)
    (case z_abs => k_is)
    (case z_all => k_is)
    (case z_bool => k_is)
    (case z_divmod => k_is)
    (case z_int => k_is)
    (case z_isinstance => k_is)
    (case z_len => k_is)
    (case z_max => k_is)
    (case z_min => k_is)
    (case z_range => k_is)
    (case z_repr => k_is)
    (case z_set => k_is)
    (case z_sorted => k_is)
    (case z_sum => k_is)
    (case z_tuple => k_is)
    (case z_LONGEST_ROW => k_is)
    (case z_LONGEST_TABLED => k_is)
    (case zt_PARTS => k_is)
    (case yt_PARTS => k_is)
    (case zt_SIGNS => k_is)
    (case yt_SIGNS => k_is)
    (case gt => k_is)
    (case tk => k_is)
