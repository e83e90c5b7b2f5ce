import PyProof.Rows.All
import Wide.All
import OpenK.AllK
import Wide.FinOn
import PyProof.EqAt
import PyProof.EqKinds
import PyProof.TupleCall
import PyProof.ZipIter
import PyProof.EnumMake
import PyProof.Draws
import PyProof.LayNew
import PyProof.Rows.SortShell
import PyProof.IsRules
import PyProof.ListIndex
import PyProof.Cells
import PyProof.CompUse
import PyProof.DictItems
import PyProof.DictItemsLoops
import PyProof.Rows.MinMaxN
import PyProof.Rows.Range3
import KE.KRevIter
import PyProof.DictWalks
import PyProof.NeKinds
import PyProof.DictList
import PyProof.DictUpdate
import PyProof.Rows.Tup
import PyProof.FactsAll.tuple_2
import PyProof.Rows.CallKwBuiltin
import KE.KDictSum
import KE.KSortTup
import KE.KRevSl
import KE.KUnpack
import PyProof.Rows.SetFrom
import Lean
import PySem.Challenge.RW_plusless_k54_swing_papers
set_option Elab.async false
set_option linter.all false
set_option maxRecDepth 100000
set_option genSizeOf false
open PySem.W (Frag Hook KdlSrc KitX LeftO Looks RowW boot_o_1 callWith_K cellsFrom_some clsIn codeIn codeRec_of eq_bytes excIn exmOne exm_one findIn fnOf funFrames_hide hasDictIn hideAll hideAll_get hideAll_none hideAll_size instObj isNs_of_in kHook kdl_dict kdu_collect keepIn ki_setAt ki_setBack kia_one kitCls kitOne kitx_bool kitx_dict kitx_float kitx_int kitx_list kitx_none kitx_own kitx_str kitx_tuple krv_all krv_pick krv_range lookIn looks_findIn looks_mroIn looks_specialIn looks_takesIn methodObj mg_none_of mg_of mroIn ne_bytes nsIn nsMap_none_of_in of_hideAll plainGet plainOver recOk specialIn tail_of_in takesIn xlAt)
theorem zz2(h:True:=by decide):True:=h
theorem zz5(h:True:=by intro _;rfl):True:=h
theorem zz1(h:True:=by rfl):True:=h
theorem zz8(h:True:=by intro _ _ z;cases z):True:=h
theorem zz0(h:True:=by kernel_rfl):True:=h
theorem zz3(h:True:=by decide +kernel):True:=h
theorem zz9(h:True:=by first|exact L2.BI _|kernel_rfl):True:=h
theorem zz4(h:True:=by intro _;kernel_rfl):True:=h
theorem zz7(h:True:=by first|left;rfl|right;kernel_rfl):True:=h
theorem ex5{α β:Type}{a b c:α->β->Prop}{P:Prop}(z:∃x y,a x y/\b x y/\c x y)(f:∀x y,a x y->b x y->c x y->P):P:=by obtain⟨x,y,u,v,w⟩:=z;exact f x y u v w
def J9:=@PySem.wpAny_bind
def Ja:=@PySem.wpAny_pure
def Jb:=@PySem.Heap.get?_push_of_some
def Jc:=@List.getElem?_eq_getElem
def Jd:=@Nat.le_refl
def Je:=@if_pos
def Jf:=@List.getElem?_eq_some_iff
def Jg:=@List.length_map
def Jh:=@PyProof.Rows.wpS_bind
def Ji:=@if_neg
def Jj:=@Bool.false_ne_true
def Jk:=@List.length_cons
def Jl:=@PyProof.Rows.wpS_pure
def Jm:=@List.length_append
def Jn:=@PySem.Heap.lt_size
def Jo:=@PySem.Heap.get?_push_size
def Jp:=@List.map_cons
def Jq:=@List.mem_cons
def Jr:=@List.size_toArray
def Js:=@mg_of
def Jt:=@List.mem_append
def Ju:=@Nat.ne_of_lt
def Jv:=@List.mem_singleton
def Jw:=@List.getElem?_append_left
def Jx:=@List.getD_eq_getElem?_getD
def Jy:=@Bool.false_eq_true
def Jz:=@Array.length_toList
def Y0:=@Array.getElem?_eq_getElem
def Y1:=@Nat.lt_of_lt_of_le
def Y2:=@Nat.zero_le
def Y3:=@List.length_nil
def Y4:=@List.mem_cons_of_mem
def Y5:=@List.getElem?_append_right
def Y6:=@List.mem_cons_self
def Y7:=@List.mem_map
def Y8:=@mg_none_of
def Y9:=@PySem.wpAny_newObj_type
def Yb:=@decide_eq_false
def Yc:=@decide_eq_true
def Yd:=@Bool.and_eq_true
def Ye:=@List.getElem?_set_ne
def Yg:=@List.mem_append_right
def Yh:=@List.not_mem_nil
def Yi:=@PySem.wpAny_holding
def Yj:=@List.getElem?_set_self
def Yk:=@Option.some.inj
def Yl:=@Array.getElem?_toList
def Ym:=@List.append_nil
def Yn:=@List.set_cons_zero
def Yo:=@PySem.wpAny_call_entry
def Yp:=@if_false
def Yq:=@PySem.PassesOwn.never
def Yr:=@PySem.wpAny_callSpecial?_slot
def Ys:=@Nat.le_trans
def Yt:=@PySem.Heap.SameBut.update
def Yu:=@PySem.Heap.get?_update_other
def Yv:=@List.mem_filter
def Yw:=@Array.getElem?_eq_some_iff
def Yx:=@Array.toList_append
def Yy:=@PySem.codeAny_builtin
def Yz:=@List.drop_eq_getElem_cons
def Z0:=@if_true
def Z1:=@PyProof.Rows.wpS_forRange
def Z2:=@Bool.false_and
def Z3:=@PySem.wpAny_ite_split
def Z4:=@PySem.wpAny_field
def Z5:=@List.nodup_iff_pairwise_ne
def Z6:=@List.getElem?_cons_succ
def Z7:=@List.getElem?_cons_zero
def Z8:=@List.append_assoc
def Z9:=@PySem.Around.under_plainId
def Za:=@List.mem_of_getElem?
def Zb:=@PySem.Heap.size_push
def Zc:=@kia_one
def Zd:=@List.find?_cons
def Ze:=@Int.le_of_lt
def Zf:=@List.getElem?_map
def Zh:=@PyProof.Rows.slot_tuple_getitem
def Zi:=@Bool.and_false
def Zj:=@PySem.wpAny_rule
def Zk:=@PySem.wpAny_mono
def Zl:=@List.nil_append
def Zm:=@List.set_cons_succ
def Zn:=@List.getElem_mem
def Zo:=@PyProof.Rows.wpS_mono
def Zp:=@List.filter_cons
def Zq:=@Nat.lt_succ_of_lt
def Zr:=@PySem.wpAny_setField
def Zs:=@PySem.Heap.get?_update_self
def Zt:=@List.length_singleton
def Zu:=@Bool.eq_iff_iff
def Zv:=@List.pairwise_cons
def Zw:=@List.length_eq_zero_iff
def Zx:=@List.length_take
def Zy:=@List.length_set
def Zz:=@List.pairwise_iff_getElem
def Q0:=@or_false
def Q1:=@decide_false
def Q2:=@List.all_cons
def Q3:=@Int.le_refl
def Q4:=@List.pairwise_append
def Q5:=@List.getElem?_replicate
def Q6:=@PyProof.Rows.F.plain_set_update_loop
def Q7:=@congrArg
def Q8:=@Int.toNat_natCast
def Q9:=@List.replicate_succ
def Qa:=@Int.le_trans
def Qb:=@List.take_of_length_le
def Qc:=@List.any_cons
def Qd:=@List.sum_cons
def Qe:=@List.all_eq_true
def Qf:=@List.cons_append
def Qg:=@Nat.ne_of_gt
def Qh:=@List.mem_append_left
def Qi:=@List.map_append
def Qj:=@PySem.wpAny_pyIter_list
def Qk:=@of_decide_eq_true
def Ql:=@Array.toList_push
def Qm:=@List.flatMap_cons
def Qn:=@PySem.wpAny_attempt
def Qo:=@List.mem_range
def Qp:=@List.lookup_cons
def Qq:=@PyProof.Rows.callWith_type1
def Qr:=@PySem.codeAny_mono
def Qs:=@PySem.wpAny_typeOf
def Qt:=@Nat.lt_trans
def Qu:=@List.map_map
def Qv:=@decide_eq_true_iff
def Qw:=@PySem.Obj.isFreed_of_fields
def Qx:=@List.nodup_cons
def Qy:=@List.length_replicate
def Qz:=@List.take_append_drop
def W0:=@PySem.F.slot_tuple_iterator_next
def W3:=@PySem.plainId_quiet
def W4:=@Bool.true_and
def W5:=@List.flatten_cons
def W6:=@List.mem_iff_getElem
def W7:=@PyProof.Rows.wpS_modify
def W8:=@decide_true
def W9:=@PySem.wpAny_isInstance
def Wa:=@List.length_drop
def Wb:=@List.map_nil
def Wc:=@Nat.lt_or_ge
def We:=@PySem.AutoSeq1.wpAny_loadPart'
def Wf:=@Nat.lt_succ_self
def Wg:=@PySem.F.slot_list_append
def Wh:=@PySem.F.type_list_append
def Wi:=@PySem.mem_of_lookup
def Wj:=@PySem.wpAny_setEntries_of
def Wk:=@List.pairwise_singleton
def Wl:=@PyProof.Rows.F.entry_set_update_loop
def Wm:=@PySem.F.plainAttrs_list
def Wn:=@Nat.lt_irrefl
def Wo:=@PySem.Obj.data_mapFields
def Wp:=@List.mem_filterMap
def Wq:=@PySem.wpAny_of_eq
def Wr:=@PySem.wpAny_truthy_bool
def Ws:=@List.any_eq_false
def Wt:=@PySem.wpAny_setState_of
def Wu:=@PyProof.Rows.wpS_get
def Wv:=@List.getElem?_eq_none
def Ww:=@Classical.choose_spec
def Wx:=@PyProof.Rows.vals1
def Wy:=@PySem.call_meets
def Wz:=@PySem.codeAny_call_builtin
def V0:=@Array.toList_reverse
def V1:=@List.mem_of_mem_take
def V2:=@decide_eq_decide
def V3:=@beq_eq_false_iff_ne
def V4:=@List.filterMap_cons
def V5:=@List.reverse_append
def V6:=@List.length_reverse
def V7:=@PySem.wpAny_passesOwn
def V8:=@List.of_mem_zip
def V9:=@List.foldl_cons
def Va:=@PySem.Calls.call_function_entry
def Vb:=@PySem.wpAny_Call_Name_kw
def Vc:=@PySem.F.args_tuple_add_2
def Vd:=@PySem.Code.quiet_builtin
def Ve:=@PySem.wpAny_runValue
def Vf:=@PySem.wpAny_seqItems
def Vg:=@PySem.F.entry_tuple_add
def Vh:=@PySem.Value.isInt_shape
def Vi:=@List.nodup_append
def Vj:=@decide_eq_true_eq
def Vk:=@PySem.wpAny_dictEntries
def Vl:=@List.ext_getElem?
def Vm:=@List.reverse_cons
def Vn:=@List.pairwise_map
def Vo:=@List.length_range
def Vp:=@Sum.inl.inj
def Vq:=@PySem.wpAny_pyNext_list_item
def Vr:=@cellsFrom_some
def Vs:=@PySem.F.slot_tuple_add
def Vt:=@List.findIdx?_eq_some_iff_getElem
def Vu:=@Array.getElem?_eq_none
def Vv:=@Bool.not_true
def Vx:=@PyProof.Rows.wpS_lift
def Vy:=@List.any_eq_true
def Vz:=@PySem.wpAny_pyNext_list_end
def U0:=@PySem.F.slot_dict_get
def U1:=@List.mem_iff_getElem?
def U2:=@PySem.builtinLookup_eq_fast
def U3:=@List.set_getElem_self
def U4:=@Array.getElem?_setIfInBounds_ne
def U5:=@PySem.wpAny_call
def U6:=@PySem.Calls.evalArgs_plain
def U7:=@PySem.F.slot_int_rmul
def U8:=@Bool.or_eq_true
def U9:=@looks_findIn
def Ua:=@PyProof.Rows.get?_update_seq
def Ub:=@Array.toArray_toList
def Uc:=@List.mem_of_mem_drop
def Ud:=@List.take_append_of_le_length
def Ue:=@PySem.isSubtype_stop
def Uf:=@List.drop_drop
def Ug:=@PySem.wpAny_fieldsOf
def Uh:=@Nat.le_succ
def Ui:=@PySem.wpAny_pyIter_tuple
def Uj:=@PySem.Calls.spliced_cons
def Uk:=@PySem.tupleKind_room_in1
def Ul:=@PySem.F.args_tuple_mul_2
def Um:=@List.getElem?_drop
def Uo:=@Array.size_extract
def Uq:=@Array.getD_eq_getD_getElem?
def Ur:=@Int.emod_lt_of_pos
def Us:=@Int.fdiv_eq_ediv_of_nonneg
def Ut:=@Int.fmod_eq_emod_of_nonneg
def Uu:=@PySem.wpAny_newList
def Uv:=@Array.perm_iff_toList_perm
def Uw:=@List.length_eraseIdx_of_lt
def Ux:=@List.perm_ext_iff_of_nodup
def Uy:=@PySem.Obj.cls_mapFields
def Uz:=@List.take_sublist
def G0:=@PySem.wpAny_sequenceKey
def G1:=@Option.isSome_map
def G2:=@PySem.F.entry_tuple_mul
def G3:=@PySem.wpAny_pyIter_slot
def G4:=@PySem.fits_of_scanBound
def G5:=@PySem.typeIs_int
def G6:=@Nat.le_of_lt
def G7:=@Nat.succ_mul
def G8:=@Nat.mul_comm
def G9:=@List.drop_length
def Ga:=@List.take_length
def Gb:=@Looks.ld
def Gc:=@getElem?_pos
def Gd:=@List.mem_flatMap
def Ge:=@Nat.not_lt_zero
def Gf:=@Int.emod_nonneg
def Gg:=@List.filter_nil
def Gh:=@List.drop_zero
def Gi:=@Int.not_lt
namespace Lw
open PySem
noncomputable def top(i:Nat):Stmt:=PySem.Challenge.pw_plusless_k54_swing_papers.main.body.getD i (.Pass ⟨0,0,0,0⟩)
noncomputable def hdI(s:Stmt)(j:Nat):Stmt:=match s with
 |.ClassDef _ _ _ body _ _ _ _ _ _ _=>body.getD j (.Pass ⟨0,0,0,0⟩)
 |_=>.Pass ⟨0,0,0,0⟩
noncomputable def hdA(s:Stmt):Arguments:=match s with
 |.FunctionDef _ a _ _ _ _ _ _ _ _=>a
 |_=>{posonlyargs:=[],args:=[],vararg:=none,kwonlyargs:=[],kw_defaults:=[],kwarg:=none,defaults:=[]}
noncomputable def hdB(s:Stmt):List Stmt:=match s with
 |.FunctionDef _ _ b _ _ _ _ _ _ _=>b
 |_=>[]
noncomputable def hdS(s:Stmt):Scope:=match s with
 |.FunctionDef _ _ _ _ _ _ sc _ _ _=>sc
 |_=>{kind:=.function,names:=[],isGenerator:=false,isCoroutine:=false}
noncomputable def hE(P:Params)(n:Str)(t:Tok)(v:Value):DictEntry:={hash:=PyData.keyHash P n,key:=.str n t,val:=v}
noncomputable def hF(n:Str)(i:Nat)(m:Str)(t:Tok)(c:Addr):Obj:={cls:=.type "function",data:=.func {name:=n,qualname:=n,params:=hdA (top i),body:=.stmts (hdB (top i)),scope:=hdS (top i),globals:=3,closure:=[],defaults:=.none,kwdefaults:=.none,pyModule:=.str m t,code:=.ref c}}
noncomputable def hC(n:Str)(t0 t1 t2:Tok)(a b c d e:Int)(r0:Value)(f:Int)(r1 r2 r3 r4 r5:Value)(g h:Int)(t3:Tok):Obj:={cls:=.type "code",data:=.fields #[.str n t0,.str n t1,.str "/claim/cut.py" t2,.int a 0,.int b 0,.int c 0,.int d 0,.int e 0,r0,.bool true,.int f 0,r1,r2,r3,r4,r5,.int g 0,.int h 0,.str "/claim/cut.py" t3]}
noncomputable def hK:Params->Frag:=λP=>(nat_lit 1,boot_o_1 P)::
 (nat_lit 2,{ cls:=.none,data:=.dict #[] })::
 (nat_lit 3,{ cls:=.type "dict",data:=.dict #[hE P "__name__" 165 (.str "law_plusless_k54_swing_papers" 479),hE P "__doc__" 166 .none,hE P "__package__" 167 .none,hE P "__loader__" 168 (.builtin "__main__.__loader__#opaque"),hE P "__spec__" 169 .none,hE P "__annotations__" 170 (.ref 6),hE P "__builtins__" 171 (.ref 4),hE P "__file__" 173 (.str "/claim/cut.py" 172),hE P "__cached__" 174 .none,hE P "PlusError" 206 (.ref 24),hE P "NoRow" 222 (.ref 37),hE P "NoNumber" 238 (.ref 49),hE P "NoSigns" 254 (.ref 61),hE P "TooMany" 270 (.ref 73),hE P "Lacking" 286 (.ref 85),hE P "Bare" 302 (.ref 97),hE P "NoTable" 318 (.ref 109),hE P "NoLine" 334 (.ref 121),hE P "NoText" 359 (.ref 140),hE P "LONGEST_ROW" 363 (.int 16 362),hE P "is_whole" 370 (.ref 149),hE P "is_row" 376 (.ref 154),hE P "need_row" 383 (.ref 161),hE P "need_number" 390 (.ref 168),hE P "need_row_and_number" 398 (.ref 175),hE P "LONGEST_TABLED" 402 (.int 10 401),hE P "SIGNS" 406 (.ref 176),hE P "need_few" 413 (.ref 183),hE P "need_few_and_number" 421 (.ref 190),hE P "stepped" 435 (.ref 197),hE P "is_rising" 441 (.ref 202),hE P "kept_within" 449 (.ref 207),hE P "tables_within" 460 (.ref 214),hE P "leads_on_within" 466 (.ref 219),hE P "is_swing_paper" 472 (.ref 224),hE P "swing_paper" 478 (.ref 229),hE P "_law_box" 492 (.ref 236),hE P "_law_take" 502 (.ref 243),hE P "_law_whole" 509 (.ref 250),hE P "_law_row" 523 (.ref 257),hE P "_law_odd" 531 (.ref 264),hE P "_law_classes" 539 (.ref 271),hE P "_law_only" 545 (.ref 276),hE P "_law_least" 551 (.ref 281),hE P "_law_is_paper" 557 (.ref 286),hE P "_law_bent" 572 (.ref 293),hE P "_law_said" 578 (.ref 298),hE P "_law_right" 584 (.ref 303),hE P "law" 590 (.ref 308)] 49 })::
 (nat_lit 23,{ cls:=.type "dict",data:=.dict #[hE P "__module__" 196 (.str "plusless.errors" 187),hE P "__firstlineno__" 200 (.int 2 199),hE P "__static_attributes__" 201 (.ref 22),hE P "__weakref__" 203 (.ref 25),hE P "__doc__" 204 .none] 3 })::
 (nat_lit 24,{ cls:=.type "type",data:=.cls { name:="PlusError",bases:=[.type "ValueError"],mro:=[.ref 24,.type "ValueError",.type "Exception",.type "BaseException",.type "object"],ns:=23,qualname:="PlusError",subclasses:=[.ref 37,.ref 49,.ref 61,.ref 73,.ref 85,.ref 97,.ref 109,.ref 121,.ref 140] },slots:=#[some (.ref 15),none,some (.str "PlusError" 189),some (.str "PlusError" 197),some (.builtin "ValueError.__new__"),some (.bool true)] })::
 (nat_lit 36,{ cls:=.type "dict",data:=.dict #[hE P "__module__" 214 (.str "plusless.errors" 187),hE P "__firstlineno__" 218 (.int 4 217),hE P "__static_attributes__" 219 (.ref 35),hE P "__doc__" 220 .none] 2 })::
 (nat_lit 37,{ cls:=.type "type",data:=.cls { name:="NoRow",bases:=[.ref 24],mro:=[.ref 37,.ref 24,.type "ValueError",.type "Exception",.type "BaseException",.type "object"],ns:=36,qualname:="NoRow" },slots:=#[some (.ref 28),none,some (.str "NoRow" 207),some (.str "NoRow" 215),some (.builtin "ValueError.__new__"),some (.bool true)] })::
 (nat_lit 48,{ cls:=.type "dict",data:=.dict #[hE P "__module__" 230 (.str "plusless.errors" 187),hE P "__firstlineno__" 234 (.int 6 233),hE P "__static_attributes__" 235 (.ref 47),hE P "__doc__" 236 .none] 2 })::
 (nat_lit 49,{ cls:=.type "type",data:=.cls { name:="NoNumber",bases:=[.ref 24],mro:=[.ref 49,.ref 24,.type "ValueError",.type "Exception",.type "BaseException",.type "object"],ns:=48,qualname:="NoNumber" },slots:=#[some (.ref 40),none,some (.str "NoNumber" 223),some (.str "NoNumber" 231),some (.builtin "ValueError.__new__"),some (.bool true)] })::
 (nat_lit 60,{ cls:=.type "dict",data:=.dict #[hE P "__module__" 246 (.str "plusless.errors" 187),hE P "__firstlineno__" 250 (.int 8 249),hE P "__static_attributes__" 251 (.ref 59),hE P "__doc__" 252 .none] 2 })::
 (nat_lit 61,{ cls:=.type "type",data:=.cls { name:="NoSigns",bases:=[.ref 24],mro:=[.ref 61,.ref 24,.type "ValueError",.type "Exception",.type "BaseException",.type "object"],ns:=60,qualname:="NoSigns" },slots:=#[some (.ref 52),none,some (.str "NoSigns" 239),some (.str "NoSigns" 247),some (.builtin "ValueError.__new__"),some (.bool true)] })::
 (nat_lit 72,{ cls:=.type "dict",data:=.dict #[hE P "__module__" 262 (.str "plusless.errors" 187),hE P "__firstlineno__" 266 (.int 10 265),hE P "__static_attributes__" 267 (.ref 71),hE P "__doc__" 268 .none] 2 })::
 (nat_lit 73,{ cls:=.type "type",data:=.cls { name:="TooMany",bases:=[.ref 24],mro:=[.ref 73,.ref 24,.type "ValueError",.type "Exception",.type "BaseException",.type "object"],ns:=72,qualname:="TooMany" },slots:=#[some (.ref 64),none,some (.str "TooMany" 255),some (.str "TooMany" 263),some (.builtin "ValueError.__new__"),some (.bool true)] })::
 (nat_lit 84,{ cls:=.type "dict",data:=.dict #[hE P "__module__" 278 (.str "plusless.errors" 187),hE P "__firstlineno__" 282 (.int 12 281),hE P "__static_attributes__" 283 (.ref 83),hE P "__doc__" 284 .none] 2 })::
 (nat_lit 85,{ cls:=.type "type",data:=.cls { name:="Lacking",bases:=[.ref 24],mro:=[.ref 85,.ref 24,.type "ValueError",.type "Exception",.type "BaseException",.type "object"],ns:=84,qualname:="Lacking" },slots:=#[some (.ref 76),none,some (.str "Lacking" 271),some (.str "Lacking" 279),some (.builtin "ValueError.__new__"),some (.bool true)] })::
 (nat_lit 96,{ cls:=.type "dict",data:=.dict #[hE P "__module__" 294 (.str "plusless.errors" 187),hE P "__firstlineno__" 298 (.int 14 297),hE P "__static_attributes__" 299 (.ref 95),hE P "__doc__" 300 .none] 2 })::
 (nat_lit 97,{ cls:=.type "type",data:=.cls { name:="Bare",bases:=[.ref 24],mro:=[.ref 97,.ref 24,.type "ValueError",.type "Exception",.type "BaseException",.type "object"],ns:=96,qualname:="Bare" },slots:=#[some (.ref 88),none,some (.str "Bare" 287),some (.str "Bare" 295),some (.builtin "ValueError.__new__"),some (.bool true)] })::
 (nat_lit 108,{ cls:=.type "dict",data:=.dict #[hE P "__module__" 310 (.str "plusless.errors" 187),hE P "__firstlineno__" 314 (.int 16 313),hE P "__static_attributes__" 315 (.ref 107),hE P "__doc__" 316 .none] 2 })::
 (nat_lit 109,{ cls:=.type "type",data:=.cls { name:="NoTable",bases:=[.ref 24],mro:=[.ref 109,.ref 24,.type "ValueError",.type "Exception",.type "BaseException",.type "object"],ns:=108,qualname:="NoTable" },slots:=#[some (.ref 100),none,some (.str "NoTable" 303),some (.str "NoTable" 311),some (.builtin "ValueError.__new__"),some (.bool true)] })::
 (nat_lit 120,{ cls:=.type "dict",data:=.dict #[hE P "__module__" 326 (.str "plusless.errors" 187),hE P "__firstlineno__" 330 (.int 18 329),hE P "__static_attributes__" 331 (.ref 119),hE P "__doc__" 332 .none] 2 })::
 (nat_lit 121,{ cls:=.type "type",data:=.cls { name:="NoLine",bases:=[.ref 24],mro:=[.ref 121,.ref 24,.type "ValueError",.type "Exception",.type "BaseException",.type "object"],ns:=120,qualname:="NoLine" },slots:=#[some (.ref 112),none,some (.str "NoLine" 319),some (.str "NoLine" 327),some (.builtin "ValueError.__new__"),some (.bool true)] })::
 (nat_lit 139,{ cls:=.type "dict",data:=.dict #[hE P "__module__" 342 (.str "plusless.errors" 187),hE P "__firstlineno__" 346 (.int 20 345),hE P "__init__" 354 (.ref 137),hE P "__static_attributes__" 356 (.ref 138),hE P "__doc__" 357 .none] 2 })::
 (nat_lit 140,{ cls:=.type "type",data:=.cls { name:="NoText",bases:=[.ref 24],mro:=[.ref 140,.ref 24,.type "ValueError",.type "Exception",.type "BaseException",.type "object"],ns:=139,qualname:="NoText" },slots:=#[some (.ref 124),none,some (.str "NoText" 335),some (.str "NoText" 343),some (.builtin "ValueError.__new__"),some (.bool true)] })::
 (nat_lit 148,hC "is_whole" 364 365 366 26 1 0 0 3 (.ref 143) 181 (.ref 144) .none (.ref 145) (.ref 146) (.ref 147) 368 26 369)::
 (nat_lit 149,hF "is_whole" 13 "plusless.rows" 360 148)::
 (nat_lit 153,hC "is_row" 371 372 373 28 1 0 0 3 (.ref 150) 181 (.ref 151) .none .none .none (.ref 152) 374 28 375)::
 (nat_lit 154,hF "is_row" 14 "plusless.rows" 360 153)::
 (nat_lit 160,hC "need_row" 377 378 379 32 1 0 0 3 (.ref 155) 181 (.ref 156) .none (.ref 157) (.ref 158) (.ref 159) 381 32 382)::
 (nat_lit 161,hF "need_row" 15 "plusless.rows" 360 160)::
 (nat_lit 167,hC "need_number" 384 385 386 35 1 0 0 3 (.ref 162) 181 (.ref 163) .none (.ref 164) (.ref 165) (.ref 166) 388 35 389)::
 (nat_lit 168,hF "need_number" 16 "plusless.rows" 360 167)::
 (nat_lit 174,hC "need_row_and_number" 391 392 393 38 2 0 0 3 (.ref 169) 181 (.ref 170) .none (.ref 171) (.ref 172) (.ref 173) 396 38 397)::
 (nat_lit 175,hF "need_row_and_number" 17 "plusless.rows" 360 174)::
 (nat_lit 176,{ cls:=.type "tuple",data:=.seq #[.int (-1) 404,.int 1 405] })::
 (nat_lit 182,hC "need_few" 407 408 409 44 1 0 0 3 (.ref 177) 181 (.ref 178) .none (.ref 179) (.ref 180) (.ref 181) 411 44 412)::
 (nat_lit 183,hF "need_few" 21 "plusless.tables" 399 182)::
 (nat_lit 189,hC "need_few_and_number" 414 415 416 48 2 0 0 3 (.ref 184) 181 (.ref 185) .none (.ref 186) (.ref 187) (.ref 188) 419 48 420)::
 (nat_lit 190,hF "need_few_and_number" 22 "plusless.tables" 399 189)::
 (nat_lit 196,hC "stepped" 422 423 424 51 3 0 0 3 (.ref 191) 181 (.ref 192) .none (.ref 193) (.ref 194) (.ref 195) 433 51 434)::
 (nat_lit 197,hF "stepped" 23 "plusless.tables" 399 196)::
 (nat_lit 201,hC "is_rising" 436 437 438 58 1 0 0 3 (.ref 198) 181 (.ref 199) .none .none .none (.ref 200) 439 58 440)::
 (nat_lit 202,hF "is_rising" 24 "plusless.tables" 399 201)::
 (nat_lit 206,hC "kept_within" 444 445 446 63 2 0 0 3 (.ref 203) 181 (.ref 204) .none .none .none (.ref 205) 447 63 448)::
 (nat_lit 207,hF "kept_within" 26 "plusless.inturn" 442 206)::
 (nat_lit 213,hC "tables_within" 450 451 452 65 2 0 0 3 (.ref 208) 181 (.ref 209) .none (.ref 210) (.ref 211) (.ref 212) 458 65 459)::
 (nat_lit 214,hF "tables_within" 27 "plusless.inturn" 442 213)::
 (nat_lit 218,hC "leads_on_within" 461 462 463 72 4 0 0 3 (.ref 215) 181 (.ref 216) .none .none .none (.ref 217) 464 72 465)::
 (nat_lit 219,hF "leads_on_within" 28 "plusless.inturn" 442 218)::
 (nat_lit 223,hC "is_swing_paper" 467 468 469 80 3 0 0 3 (.ref 220) 181 (.ref 221) .none .none .none (.ref 222) 470 80 471)::
 (nat_lit 224,hF "is_swing_paper" 29 "plusless.inturn" 442 223)::
 (nat_lit 228,hC "swing_paper" 473 474 475 89 2 0 0 3 (.ref 225) 181 (.ref 226) .none .none .none (.ref 227) 476 89 477)::
 (nat_lit 229,hF "swing_paper" 30 "plusless.inturn" 442 228)::
 (nat_lit 235,hC "_law_box" 481 482 483 94 2 0 0 3 (.ref 230) 181 (.ref 231) .none (.ref 232) (.ref 233) (.ref 234) 490 94 491)::
 (nat_lit 236,hF "_law_box" 32 "law_plusless_k54_swing_papers" 479 235)::
 (nat_lit 242,hC "_law_take" 493 494 495 106 2 0 0 3 (.ref 237) 181 (.ref 238) .none (.ref 239) (.ref 240) (.ref 241) 500 106 501)::
 (nat_lit 243,hF "_law_take" 33 "law_plusless_k54_swing_papers" 479 242)::
 (nat_lit 249,hC "_law_whole" 503 504 505 110 1 0 0 3 (.ref 244) 181 (.ref 245) .none (.ref 246) (.ref 247) (.ref 248) 507 110 508)::
 (nat_lit 250,hF "_law_whole" 34 "law_plusless_k54_swing_papers" 479 249)::
 (nat_lit 256,hC "_law_row" 510 511 512 112 2 0 0 3 (.ref 251) 181 (.ref 252) .none (.ref 253) (.ref 254) (.ref 255) 521 112 522)::
 (nat_lit 257,hF "_law_row" 35 "law_plusless_k54_swing_papers" 479 256)::
 (nat_lit 263,hC "_law_odd" 524 525 526 121 1 0 0 3 (.ref 258) 181 (.ref 259) .none (.ref 260) (.ref 261) (.ref 262) 529 121 530)::
 (nat_lit 264,hF "_law_odd" 36 "law_plusless_k54_swing_papers" 479 263)::
 (nat_lit 270,hC "_law_classes" 532 533 534 124 1 0 0 3 (.ref 265) 181 (.ref 266) .none (.ref 267) (.ref 268) (.ref 269) 537 124 538)::
 (nat_lit 271,hF "_law_classes" 37 "law_plusless_k54_swing_papers" 479 270)::
 (nat_lit 275,hC "_law_only" 540 541 542 128 2 0 0 3 (.ref 272) 181 (.ref 273) .none .none .none (.ref 274) 543 128 544)::
 (nat_lit 276,hF "_law_only" 38 "law_plusless_k54_swing_papers" 479 275)::
 (nat_lit 280,hC "_law_least" 546 547 548 132 2 0 0 3 (.ref 277) 181 (.ref 278) .none .none .none (.ref 279) 549 132 550)::
 (nat_lit 281,hF "_law_least" 39 "law_plusless_k54_swing_papers" 479 280)::
 (nat_lit 285,hC "_law_is_paper" 552 553 554 138 3 0 0 3 (.ref 282) 181 (.ref 283) .none .none .none (.ref 284) 555 138 556)::
 (nat_lit 286,hF "_law_is_paper" 40 "law_plusless_k54_swing_papers" 479 285)::
 (nat_lit 292,hC "_law_bent" 558 559 560 152 3 0 0 3 (.ref 287) 181 (.ref 288) .none (.ref 289) (.ref 290) (.ref 291) 570 152 571)::
 (nat_lit 293,hF "_law_bent" 41 "law_plusless_k54_swing_papers" 479 292)::
 (nat_lit 297,hC "_law_said" 573 574 575 163 4 0 0 3 (.ref 294) 181 (.ref 295) .none .none .none (.ref 296) 576 163 577)::
 (nat_lit 298,hF "_law_said" 42 "law_plusless_k54_swing_papers" 479 297)::
 (nat_lit 302,hC "_law_right" 579 580 581 170 4 0 0 3 (.ref 299) 181 (.ref 300) .none .none .none (.ref 301) 582 170 583)::
 (nat_lit 303,hF "_law_right" 43 "law_plusless_k54_swing_papers" 479 302)::
 (nat_lit 307,hC "law" 585 586 587 185 1 0 0 3 (.ref 304) 181 (.ref 305) .none .none .none (.ref 306) 588 185 589)::
 (nat_lit 308,hF "law" 44 "law_plusless_k54_swing_papers" 479 307)::[]
noncomputable def hA:List Addr:=[1,2,3,23,24,36,37,48,49,60,61,72,73,84,85,96,97,108,109,120,121,139,140,148,149,153,154,160,161,167,168,174,175,176,182,183,189,190,196,197,201,202,206,207,213,214,218,219,223,224,228,229,235,236,242,243,249,250,256,257,263,264,270,271,275,276,280,281,285,286,292,293,297,298,302,303,307,308]
noncomputable def hV:Program:={PySem.Challenge.pw_plusless_k54_swing_papers with main:={PySem.Challenge.pw_plusless_k54_swing_papers.main with body:=[top 1,top 2,top 3,top 4,top 5,top 6,top 7,top 8,top 9,top 10,top 12,top 13,top 14,top 15,top 16,top 17,top 19,top 20,top 21,top 22,top 23,top 24,top 26,top 27,top 28,top 29,top 30,top 32,top 33,top 34,top 35,top 36,top 37,top 38,top 39,top 40,top 41,top 42,top 43,top 44]}}
theorem hKA(P:Params):hA=(hK P).map (·.1):=by kernel_rfl
noncomputable abbrev hX(s:Shared):Bool:=xlAt hV [] s&&recOk (RowW.records PySem.Challenge.rw_plusless_k54_swing_papers.row.toRowW) s
set_option maxHeartbeats 0 in
theorem left:LeftO PySem.Challenge.rw_plusless_k54_swing_papers.row.prog hV [] hX (Hook.obs (kHook hK hA hKA)) (Hook.val (kHook hK hA hKA)) 6126:=λw=>by kernel_rfl
end Lw
section
set_option Elab.async false
set_option linter.all false
set_option maxRecDepth 100000
namespace PySem
variable{l:List Env}
def ZO(o:Obj):Prop:=∃fs:Array Value,o.data=.fields fs/\fs[2]?=some .none
def Heap.Zat(h:Heap)(e:Addr):Prop:=∃o,h.get? e=some o/\ZO o
section
variable{M:Model}{A:Around}{E:Value->Shared->Prop}{s:Shared}{bs:Heap}{en:Env}{out:List Env}{L e:Addr}{cl a0:Value}
theorem Heap.Zat.same{h h':Heap}(z:h.Zat e)(k:h'.get? e=h.get? e):h'.Zat e:=let ⟨o,q,r⟩:=z;⟨o,k.trans q,r⟩
theorem wc{ob:Obj}{fs:Array Value}{hd:Value}{more:Bool}{Q:Unit->Shared->Prop}(hA:A.frames=some (en::out))(hF:s.heap.FunFrames bs (en::out))(hL:en.frame=some L)
  (hE:s.heap.get? e=some ob) (hB:bs.StaysIn s.heap) (hN:bs.get? e=none) (hD:ob.data=.fields fs) (h0:fs[0]?=some a0) (h2:fs[2]?=some .none)
  (k:∀h',Heap.NotedW bs (en::out) e ob.cls a0 (rawInt L) s.heap h'->h'.Zat e->Q () { s with heap:=h' }):
  wpAny M A (do let f <- frameOf en;let pl <- entryPlaceOf L more;let t <- EntryCells.newEntry hd f .none (rawInt L) .none pl;setField (.ref e) 1 t) Q E s:=by
 have lt:1<fs.size:=by have:=(Yw.mp h2).1;omega
 have notF:e∉(en::out).filterMap (·.frame):=λz=>by obtain⟨_,o',q,r⟩:=hF.mem z;rw[hE]at q;cases q;exact r fs hD
 refine J9 (wpAny_frameOf_fun hA hF hL λg1 so=>?_);refine J9 (wpAny_entryPlaceOf λpl place=>?_);unfold EntryCells.newEntry newFields;refine J9 (Y9 ?_ (place.sizeOk5 _ _ _ _ _))
 generalize htb:({ cls:=.type "traceback",data:=.fields ([hd,.ref L,.none,rawInt L,.none]++(if pl.isEmpty then List.replicate 6 Value.none else pl)).toArray }:Obj)=tb
 have e1:g1.get? e=some ob:=(so.2.1 e notF).trans hE
 have b1:bs.StaysIn g1:=λc o q=>(so.2.1 c λz=>by rw[(hF.mem z).1]at q;cases q).trans (hB c o q)
 have e2:=Jb (h:=g1) tb e1;refine Zr e2 hD lt ?_;generalize hfn:Obj.mapFields (λz=>z.setIfInBounds 1 (Value.ref g1.objs.size))=fn
 have d3:(fn ob).data=.fields (fs.setIfInBounds 1 (.ref g1.objs.size)):=by rw[<- hfn];exact Wo hD _
 have c3:(fn ob).cls=ob.cls:=by rw[<- hfn];exact Uy _ _
 have e3:((g1.push tb).update e fn).get? e=some (fn ob):=Zs fn e2 (Qw d3);have ne:g1.objs.size≠e:=Qg (Jn e1)
 have t3:((g1.push tb).update e fn).get? g1.objs.size=some tb:=(Yu (g1.push tb) fn (Ne.symm ne)).trans (Jo g1 (by rw[<- htb];rfl))
 have other:∀c o,c≠e->g1.get? c=some o->((g1.push tb).update e fn).get? c=some o:=λc o n q=>by rw[Yu (g1.push tb) fn (Ne.symm n)];exact Jb tb q
 have noE:∀c o,s.heap.get? c=some o->(∀ws,o.data≠.fields ws)->c≠e:=λc o q r z=>by rw[z,hE]at q;cases q;exact r fs hD
 refine k _ ⟨λc o q=>other c o (λz=>by rw[z,hN]at q;cases q) (b1 c o q),hF.of_keeps λc o q r=>?_,?_,λc o q r=>?_⟩ ⟨fn ob,e3,_,d3,?_⟩
 .obtain⟨sl,y⟩:=so.2.2 c o q;exact⟨_,other c _ (noE c o q r) y,rfl⟩
 .refine⟨fn ob,_,g1.objs.size,tb,_,e3,⟨c3,?_⟩,d3,?_,b1.fresh,ne,t3,(by rw[<- htb]),?_⟩
  .rw[U4 (by decide)];exact h0
  .simp[lt]
  .first|(simp;done)|(rcases place with rfl|⟨_,_,_,_,_,_,_,rfl⟩<;>simp)
 .obtain⟨sl,y⟩:=so.2.2 c o q;exact⟨sl,other c _ (noE c o q r) y⟩
 .rw[U4 (by decide)];exact h2
theorem yL{Q:Unit->Shared->Prop}(hA:A.frames=some (en::out))(hF:s.heap.FunFrames bs (en::out))(hL:en.frame=some L)(tr:s.heap.TracedW bs e cl a0)(hB:bs.StaysIn s.heap)(hN:bs.get? e=none)(z:s.heap.Zat e)
  (k:∀h',Heap.NotedW bs (en::out) e cl a0 (rawInt L) s.heap h'->h'.Zat e->Q () { s with heap:=h' }):wpAny M A (noteFrame (.ref e) en) Q E s:=by
 obtain⟨ob,fs,T,oT,ts,hE,⟨hC,h0⟩,hD,h1,nT,Te,hT,dT,h3⟩:=tr;obtain⟨ob',q',fs',d',h2⟩:=z;rw[hE]at q';cases q';rw[hD]at d';cases d';subst hC;unfold noteFrame;simp only[hL];refine J9 (Z4 hE hD h1 ?_)
 rw[Je (by simp)]
 refine J9 (Z4 hT dT h3 ?_)
 rw[Ji (by simp[rawInt])]
 refine J9 (Zr hT dT (Yw.mp h3).1 ?_);have oth:∀c,c≠T->(s.heap.update T (Obj.mapFields (λy=>y.setIfInBounds 3 Value.none))).get? c=s.heap.get? c:=λc n=>Yu _ _ (Ne.symm n)
 have noT:∀c o,s.heap.get? c=some o->(∀ws,o.data≠.fields ws)->c≠T:=λc o q r y=>by rw[y,hT]at q;cases q;exact r ts dT
 exact wc hA (hF.of_keeps λc o q r=>⟨o,(oth c (noT c o q r)).trans q,rfl⟩) hL ((oth e (Ne.symm Te)).trans hE) (λc o q=>(oth c λy=>by rw[y,nT]at q;cases q).trans (hB c o q)) hN hD h0 h2
  λh' ⟨x1,x2,x3,x4⟩ zz=>k h' ⟨x1,x2,x3,λc o q r=>x4 c o ((oth c (noT c o q r)).trans q) r⟩ zz
theorem rD{ob:Obj}{fs:Array Value}{Q:Unit->Shared->Prop}(hA:A.frames=some (en::out))(hF:s.heap.FunFrames bs (en::out))(hL:en.frame=some L)
  (hE:s.heap.get? e=some ob) (hB:bs.StaysIn s.heap) (hN:bs.get? e=none) (hD:ob.data=.fields fs) (h0:fs[0]?=some a0) (h1:fs[1]?=some .none) (h2:fs[2]?=some .none)
  (k:∀h',Heap.NotedW bs (en::out) e ob.cls a0 (rawInt L) s.heap h'->h'.Zat e->Q () { s with heap:=h' }):wpAny M A (noteFrame (.ref e) en) Q E s:=by
 unfold noteFrame;simp only[hL];refine J9 (Z4 hE hD h1 ?_)
 rw[Ji (by decide)]
 exact wc hA hF hL hE hB hN hD h0 h2 k
theorem nV{fl:Value}{Q:Unit->Shared->Prop}(hB:bs.StaysIn s.heap)(hF:s.heap.FunFrames bs l)(tr:s.heap.TracedAtW bs e cl a0 fl)(z:s.heap.Zat e)
  (k:∀h',bs.StaysIn h'->h'.FunFrames bs l->h'.TracedW bs e cl a0->s.heap.UpToSlots h'->h'.Zat e->Q () { s with heap:=h' }):wpAny M A (setFlight (.ref e) none) Q E s:=by
 obtain⟨ob,fs,T,oT,ts,hE,hC,hD,h1,nT,Te,hT,dT,h3⟩:=tr;have lt:3<ts.size:=(Yw.mp h3).1;generalize hfn:Obj.mapFields (λy=>y.setIfInBounds 3 ((none:Option Addr).elim Value.none λf=>rawInt f))=fn;have oth:∀c,c≠T->(s.heap.update T fn).get? c=s.heap.get? c:=λc n=>Yu _ _ (Ne.symm n)
 have noT:∀c o,s.heap.get? c=some o->(∀ws,o.data≠.fields ws)->c≠T:=λc o q r y=>by rw[y,hT]at q;cases q;exact r ts dT
 have dF:(fn oT).data=.fields (ts.setIfInBounds 3 .none):=by rw[<- hfn];exact Wo dT _
 unfold setFlight;refine J9 (Z4 hE hD h1 ?_)
 rw[Je (by simp)]
 refine Zr hT dT lt ?_;rw[hfn]
 refine k _ (λc o q=>(oth c λy=>by rw[y,nT]at q;cases q).trans (hB c o q)) (hF.of_keeps λc o q r=>⟨o,(oth c (noT c o q r)).trans q,rfl⟩) ?_ (λc o q r=>⟨o.slots,(oth c (noT c o q r)).trans q⟩) (z.same (oth e (Ne.symm Te)))
 exact⟨ob,fs,T,fn oT,_,(oth e (Ne.symm Te)).trans hE,hC,hD,h1,nT,Te,Zs fn hT (Qw dF),dF,by simp[lt]⟩
theorem wd{Q:Unit->Shared->Prop}(hA:A.frames=some (en::out))(hL:en.frame=some L)(fl:Heap.FlyingW bs (en::out) e cl a0 s.heap)(z:s.heap.Zat e)
  (k:∀h',Heap.HeldW bs (en::out) e cl a0 L h'->s.heap.UpToSlots h'->h'.Zat e->Q () { s with heap:=h' }):wpAny M A (noteFrame (.ref e) en) Q E s:=by
 obtain⟨y1,y2,y3,y4⟩:=fl;exact yL hA y3 hL y4 y1 y2 z λh' ⟨x1,x2,x3,x4⟩ zz=>k h' ⟨x1,y2,x2,x3⟩ x4 zz
theorem we{Q:Unit->Shared->Prop}(hh:Heap.HeldW bs l e cl a0 L s.heap)(z:s.heap.Zat e)
  (k:∀h',Heap.FlyingW bs l e cl a0 h'->s.heap.UpToSlots h'->h'.Zat e->Q () { s with heap:=h' }):wpAny M A (setFlight (.ref e) none) Q E s:=by
 obtain⟨y1,y2,y3,y4⟩:=hh;exact nV y1 y3 y4 z λh' x1 x2 x3 x4 zz=>k h' ⟨x1,y2,x2,x3⟩ x4 zz
theorem pz{Q:Unit->Shared->Prop}(fl:Heap.FlyingW bs l e cl a0 s.heap)(z:s.heap.Zat e)
  (k:∀h',Heap.FlyingW bs l e cl a0 h'->s.heap.UpToSlots h'->h'.Zat e->Q () { s with heap:=h' }):wpAny M A (setFlight (.ref e) none) Q E s:=by
 obtain⟨y1,y2,y3,y4⟩:=fl;exact nV y1 y3 y4.at z λh' x1 x2 x3 x4 zz=>k h' ⟨x1,y2,x2,x3⟩ x4 zz
theorem yM{Q:Unit->Shared->Prop}(hA:A.frames=some (en::out))(hL:en.frame=some L)(fl:Heap.FlyingW bs (en::out) e cl a0 s.heap)(z:s.heap.Zat e)
  (k:∀h',Heap.FlyingW bs out e cl a0 h'->s.heap.UpToSlots h'->h'.Zat e->Q () { s with heap:=h' }):wpAny M A (leaving en (.ref e)) Q E s:=by
 unfold leaving;refine J9 (wd hA hL fl z λh1 x1 x2 x3=>?_)
 refine we (s:={ s with heap:=h1 }) x1 x3 λh2 y1 y2 y3=>?_
 obtain⟨a,b,⟨_,_,c⟩,d⟩:=y1;exact k h2 ⟨a,b,c,d⟩ (x2.trans y2) y3
theorem pA{h:Heap}{vs:List Value}{Q:Unit->Shared->Prop}(hA:A.frames=some (en::out))(hL:en.frame=some L)(hB:bs.StaysIn h)(hF:h.FunFrames bs (en::out))(mk:Heap.MadeExcOf h s.heap e cl vs)
  (k:∀h' t,Heap.FlyingW bs out e cl (.ref t) h'->s.heap.UpToSlots h'->h'.Zat e->Q () { s with heap:=h' }):wpAny M A (leaving en (.ref e)) Q E s:=by
 obtain⟨t,hE,_,_⟩:=mk.there
 have nw:bs.get? e=none:=by
  cases q:bs.get? e with
  |none=>rfl
  |some o'=>have:=hB e o' q;rw[mk.new]at this;cases this
 unfold leaving;refine J9 (rD (a0:=.ref t) hA (hF.of_keeps λc o q _=>⟨o,mk.keeps c o q,rfl⟩) hL hE (λc o q=>mk.keeps c o (hB c o q)) nw rfl rfl rfl rfl λh1 x1 x2=>?_);obtain⟨a,b,c,d⟩:=x1
 refine nV (s:={ s with heap:=h1 }) a b c x2 λh2 y1 y2 y3 y4 y5=>?_
 obtain⟨_,_,y2⟩:=y2;exact k h2 t ⟨y1,nw,y2,y3⟩ (Heap.UpToSlots.trans d y4) y5
end
end PySem
namespace PySem
open PyProof.Rows
variable{ha:Addr}
theorem mR:entryFor table "proto.unchain" = some Builtin.«proto.unchain»:=entryFor_of_tree (by kernel_rfl)
theorem mS:plainId "proto.unchain" = true:=by decide +kernel
section
variable{prog:Program}{w:World}{A:Around}{E:Value->Shared->Prop}{s:Shared}
theorem wg{ea:Addr}{Q:Value->Shared->Prop}(z:s.heap.Zat ha)(h:Q .none s):wpAny (model prog w) A (runValue (.builtin "proto.unchain" ⟨[.ref ea,.ref ha,.ref ha,.bool false],[]⟩)) Q E s:=by
 obtain⟨o,ho,fs,hd,h2⟩:=z;refine Ve (Yy mR ?_);rw[Z9 mS _];unfold Builtin.«proto.unchain»;refine J9 (Z4 ho hd h2 ?_)
 rw[Je (by rfl)]
 refine J9 (Ja ?_);exact Ja h
theorem uZ{α:Type}{ea:Addr}{o:Obj}{fs:Array Value}{Q:α->Shared->Prop}(hh:A.handled=some (.ref ha))(z:s.heap.Zat ha)(ne:ha≠ea)(he:s.heap.get? ea=some o)(hd:o.data=.fields fs)(hs:2<fs.size)
  (h:E (.ref ea) { s with heap:=s.heap.update ea (Obj.mapFields (λy=>y.setIfInBounds 2 (.ref ha))) }):wpAny (model prog w) A (raiseNew (.ref ea):Sem α) Q E s:=by
 unfold raiseNew;refine J9 (wpAny_handled ?_);rw[hh];dsimp only
 rw[Je (by simpa using ne)]
 refine J9 (Yi (wg z ?_));refine J9 ?_;show wpAny _ _ (setField (.ref ea) 2 (.ref ha)) _ _ s;exact Zr he hd hs (wpAny_throw h)
theorem u6{it:Addr}{x left step:Int}{Q:Option Value->Shared->Prop}(hh:A.handled=some (.ref ha))(z:s.heap.Zat ha)(hit:IsRangeIter s.heap it x left step)(hl:left<=0)
  (k:∀h',Heap.ExtBut it s.heap h'->Q none { s with heap:=h' }):wpAny (model prog w) A (pyNext (.ref it)) Q E s:=by
 have ty:s.TypeIs (.ref it) "range_iterator":=⟨_,hit,rfl⟩
 have lta:ha<s.heap.objs.size:=let ⟨o,q,_⟩:=z;Jn q
 unfold pyNext;refine J9 (Qn (Yr (name:=Str.ofString "__next__") ty F.slot_range_iterator_next (Yo F.slot_range_iterator_next ty F.entry_range_iterator_next ?_ (F.args_range_iterator_next_1 _))))
 show wpAny _ _ (field (.ref it) 0 >>= _) _ _ s;refine J9 (Z4 hit rfl (x:=rawInt x) rfl ?_);show wpAny _ _ (field (.ref it) 1 >>= _) _ _ s;refine J9 (Z4 hit rfl (x:=rawInt left) rfl ?_);show wpAny _ _ (field (.ref it) 2 >>= _) _ _ s;refine J9 (Z4 hit rfl (x:=rawInt step) rfl ?_)
 show wpAny _ _ (if left<=0 then _ else _) _ _ s
 rw[Je hl];refine J9 (Zj ?_);refine J9 ?_;show wpAny _ _ (newExc (.type "StopIteration") [] >>= _) _ _ _
 refine J9 ?_;simp only[newExc,newTuple]
 refine J9 (Y9 ?_ (by size_fits))
 refine J9 (m:=firstArgMember _ _) (Wq (a:=Value.none) (by first|rfl|(simp only[firstArgMember];rfl)) ?_)
 refine Y9 ?_ (by size_fits)
 refine uZ (ha:=ha) (by first|exact hh|(show A.in1.handled=_;exact hh)) ?_ ?_ (Jo _ rfl) rfl ?_ ?_
 .obtain⟨o,q,r⟩:=z;exact⟨o,Jb _ (Jb _ q),r⟩
 .exact Ju (Y1 lta (by rw[Zb];exact Uh _))
 .rw[Array.size_append];exact Y1 (show 2<6 by decide) (Nat.le_add_right _ _)
 .dsimp only;generalize hfn:Obj.mapFields (λy=>y.setIfInBounds 2 (Value.ref ha))=fn;generalize hg:s.heap.push { cls:=Value.type "tuple",data:=Data.seq #[] }=g
  generalize hex:({ cls:=Value.type "StopIteration",data:=Data.fields (#[Value.ref s.heap.objs.size,Value.none,Value.none,Value.none,Value.bool false,Value.none]++ownMembersOf (Value.type "StopIteration") []) }:Obj)=ex
  have c0:ex.cls=.type "StopIteration":=by rw[<- hex]
  have d0:∃fs,ex.data=.fields fs:=⟨_,by rw[<- hex]⟩
  obtain⟨fs,d0⟩:=d0;have p0:(g.push ex).get? g.objs.size=some ex:=Jo g (Qw d0)
  have d1:(fn ex).data=.fields (fs.setIfInBounds 2 (.ref ha)):=by rw[<- hfn];exact Wo d0 _
  have c1:(fn ex).cls=.type "StopIteration":=by rw[<- hfn];exact(Uy _ _).trans c0
  have e1:((g.push ex).update g.objs.size fn).get? g.objs.size=some (fn ex):=Zs fn p0 (Qw d1);refine J9 (W9 (T:="StopIteration") (b:=true) ⟨fn ex,e1,c1⟩ Ue ?_)
  refine Ja (k _ λb o _ q=>?_)
  have q1:g.get? b=some o:=by rw[<- hg];exact Jb _ q
  rw[Yu (g.push ex) fn (Qg (Jn q1))];exact Jb ex q1
end
end PySem
namespace L2
open PySem PySem.Spec PyProof.Rows
variable{us:List Value}{u:Value}{a b:Addr}{P:Program}{w:World}{h:Heap}{i:Nat}{x:Str}{e tg:Expr}{A:Around}{s:Shared}{pos:Pos}{pins:List (Addr×Obj)}{qb:Bool}{fp:List Addr}{op:CmpOp}{kindOf:Str→Option NameKind}
noncomputable abbrev Key:=Sum Int Str
noncomputable def kU:Key->Value->Bool
 |.inl k,v=>Value.isInt k v
 |.inr x,v=>Value.isStrOf x v
noncomputable def Ey(w:World):Key->Int
 |.inl k=>hashInt k
 |.inr x=>hashStr w x
theorem bE:∀{k:Key}{v:Value},kU k v=true->(∃i t,k=Sum.inl i/\v=Value.int i t)\/(∃x t,k=Sum.inr x/\v=Value.str x t)
 |.inl i,v,h=>by obtain⟨t,e⟩:=Vh (k:=i) (v:=v) h;exact .inl ⟨i,t,rfl,e⟩
 |.inr x,v,h=>by obtain⟨t,e⟩:=Value.isStrOf_shape (x:=x) (v:=v) h;exact .inr ⟨x,t,rfl,e⟩
theorem u7(i:Int)(t:Tok):kU (.inl i) (.int i t)=true:=by simp[kU,Value.isInt]
theorem u9(x:Str)(t:Tok):kU (.inr x) (.str x t)=true:=by simp[kU,Value.isStrOf]
theorem Ba(a b:Int):decide ((Sum.inl a:Key)=Sum.inl b)=(a == b):=by
 by_cases e:a=b
 .subst e;simp
 .have h:¬(Sum.inl a:Key)=Sum.inl b:=λq=>e (Vp q);rw[Yb h];exact(V3.mpr e).symm
theorem Bb(a b:Str):decide ((Sum.inr a:Key)=Sum.inr b)=decide (a=b):=by
 by_cases e:a=b
 .subst e;simp
 .have h:¬(Sum.inr a:Key)=Sum.inr b:=λq=>e (Sum.inr.inj q);rw[Yb h,Yb e]
theorem Bc(a:Int)(b:Str):decide ((Sum.inl a:Key)=Sum.inr b)=false:=Yb (λq=>nomatch q)
theorem Bd(a:Str)(b:Int):decide ((Sum.inr a:Key)=Sum.inl b)=false:=Yb (λq=>nomatch q)
noncomputable def aV(prog:Program)(w:World):PySem.KeyKind prog w Key where
 is:=kU
 hash:=Ey w
 inj:=λv a b ha hb=>by
  rcases bE ha with⟨i,t,rfl,rfl⟩|⟨x,t,rfl,rfl⟩
  .rcases bE hb with⟨j,u,rfl,e⟩|⟨y,u,rfl,e⟩
   .injection e with e1 _;rw[e1]
   .exact nomatch e
  .rcases bE hb with⟨j,u,rfl,e⟩|⟨y,u,rfl,e⟩
   .exact nomatch e
   .injection e with e1 _;rw[e1]
 byValue:=λk v h=>by rcases bE h with⟨i,t,rfl,rfl⟩|⟨x,t,rfl,rfl⟩<;>rfl
 pyHash:=λhv h=>by
  rcases bE hv with⟨i,t,rfl,rfl⟩|⟨x,t,rfl,rfl⟩
  .exact wpAny_pyHash_int h
  .exact wpAny_pyHash_str h
 eqBool:=λhu hv h=>by
  rcases bE hu with⟨i,t,rfl,rfl⟩|⟨x,t,rfl,rfl⟩
  .rcases bE hv with⟨j,u,rfl,rfl⟩|⟨y,u,rfl,rfl⟩
   .rw[Ba]at h;exact wpAny_eqBool_int h
   .rw[Bc]at h;exact SeqAt.EqAt.int_str i t y u _ _ _ _ h
  .rcases bE hv with⟨j,u,rfl,rfl⟩|⟨y,u,rfl,rfl⟩
   .rw[Bd]at h;exact SeqAt.EqAt.str_int x t j u _ _ _ _ h
   .rw[Bb]at h;exact wpAny_eqBool_str h
 «strs»:=λk x t v h=>by
  rcases bE h with⟨i,u,rfl,e⟩|⟨y,u,rfl,e⟩
  .exact nomatch e
  .injection e with e1 _;subst e1;cases v<;>rfl
theorem rE(prog:Program)(w:World)(k:Key)(v:Value):(aV prog w).is k v=kU k v:=rfl
theorem pB(prog:Program)(w:World)(i:Int)(t:Tok):(aV prog w).is (.inl i) (.int i t)=true:=u7 i t
theorem pC(prog:Program)(w:World)(x:Str)(t:Tok):(aV prog w).is (.inr x) (.str x t)=true:=u9 x t
inductive V where
 |non|bl (b:Bool)|int (i:Int)|str (x:Str)|byt (b:Array UInt8)|flt (b:UInt64)|ref (a:Addr)|ty (n:String)
 deriving DecidableEq
noncomputable def RelV:V->Value->Prop
 |.non,u=>u=Value.none
 |.bl b,u=>u=Value.bool b
 |.int i,u=>∃t,u=Value.int i t
 |.str x,u=>∃t,u=Value.str x t
 |.byt b,u=>∃t,u=Value.bytes b t
 |.flt b,u=>∃t,u=Value.float b t
 |.ref a,u=>u=Value.ref a
 |.ty n,u=>u=Value.type n
noncomputable abbrev Vals:List V->List Value->Prop:=Paired RelV
theorem Vals.length{xs:List V}(r:Vals xs us):xs.length=us.length:=Paired.length r
theorem Vals.get:∀{xs:List V}{us:List Value}{i:Nat}{x:V},Vals xs us->xs[i]?=some x->∃u,us[i]?=some u/\RelV x u
 |_,_,_,_,.nil,e=>by simp at e
 |_,_,0,_,.cons r _,e=>by simp at e;subst e;exact⟨_,rfl,r⟩
 |_,_,i+1,x,.cons _ t,e=>by
  obtain⟨u,h1,h2⟩:=Vals.get (i:=i) (x:=x) t (by simpa using e)
  exact⟨u,by simpa using h1,h2⟩
theorem Vals.set{x:V}(r:RelV x u):∀{xs:List V}{us:List Value}(i:Nat),Vals xs us->Vals (xs.set i x) (us.set i u)
 |_,_,_,.nil=>.nil
 |_,_,0,.cons _ t=>.cons r t
 |_,_,i+1,.cons q t=>.cons q (Vals.set r i t)
theorem Vals.append:∀{xs ys:List V}{us ws:List Value},Vals xs us->Vals ys ws->Vals (xs++ys) (us++ws)
 |_,_,_,_,.nil,s=>s
 |_,_,_,_,.cons r t,s=>.cons r (Vals.append t s)
theorem Vals.take:∀{xs:List V}{us:List Value}(n:Nat),Vals xs us->Vals (xs.take n) (us.take n)
 |_,_,0,_=>.nil
 |_,_,_+1,.nil=>.nil
 |_,_,n+1,.cons r t=>.cons r (Vals.take n t)
theorem Vals.drop:∀{xs:List V}{us:List Value}(n:Nat),Vals xs us->Vals (xs.drop n) (us.drop n)
 |_,_,0,r=>r
 |_,_,_+1,.nil=>.nil
 |_,_,n+1,.cons _ t=>Vals.drop n t
noncomputable def nW:Option V->Option Value->Prop
 |some v,some u=>RelV v u
 |none,none=>True
 |_,_=>False
noncomputable def KV{κ:Type}:List (κ×V)->List (κ×Value)->Prop:=Paired λ(p:κ×V)(q:κ×Value)=>p.1=q.1/\RelV p.2 q.2
noncomputable def kV:Key->V
 |.inl i=>.int i
 |.inr x=>.str x
set_option genInjectivity false in
inductive HO where
 /-- a list -/
 |lst (xs:List V)
 /-- a tuple (never changes) -/
 |tup (xs:List V)
 /-- a dict whose keys are ints and texts;one whose keys are tuples of ints and texts (the empty one is both) -/
 |dK (kvs:List (Key×V))|dT (kvs:List (List Key×V))
 /-- a set of ints: its members,its size -/
 |set (S:Int->Bool) (n:Nat)
 /-- an instance of the class at C,its dict at dx,its attributes -/
 |ins (C dx:Addr) (fs:List (Str×V))
 /-- the dict of the instance at x -/
 |own (x:Addr)
 /-- the dict of an exception -/
 |xd (fs:List (Str×V))
 /-- a bound method,f of x -/
 |met (f x:Addr)
 /-- a range object lo,lo+1,.. below hi -/
 |rng (lo hi:Int)
 /-- a thing that is known to the object (the script;a dict while a loop walks it): read,never written while it is so -/
 |frz (o:Obj) (u:HO)
 /-- a code object's table -/
 |tbl (ps:Array Value)
 /-- any other thing,by what is true of its one object (a def of one's own: SetO a S n:=HO.ext λh=>..) -/
 |ext (φ:Heap->Prop)
variable{o:HO}
noncomputable abbrev Hp:=Addr->Option HO
variable{H:Hp}
noncomputable def upd(H:Hp)(a:Addr)(o:HO):Hp:=λb=>if b=a then some o else H b
theorem aC:upd H a o a=some o:=by unfold upd;rw[Je rfl]
theorem ax(h:b≠a):upd H a o b=H b:=by unfold upd;rw[Ji h]
theorem Ds{u:HO}(h:H a=some o)(h':H b=some u)(d:o≠u):a≠b:=by intro e;subst e;rw[h]at h';exact d (Yk h')
theorem aH(h:H a=some o)(h':H b=none):a≠b:=by intro e;subst e;rw[h]at h';cases h'
section
variable(P:Program)(w:World)
noncomputable def bw(H:Hp)(h:Heap)(a:Addr):HO->Prop
 |.lst xs=>xs.length<=sizeLine/\∃(its:List Value)(n:Nat),Vals xs its/\h.get? a=some { cls:=.type "list",data:=.seq its.toArray n }
 |.tup xs=>xs.length<=sizeLine/\∃its:List Value,Vals xs its/\IsTup h a its.toArray
 |.dK kvs=>kvs.length<=sizeLine/\(a == sysModules)=false/\∃vs,KV kvs vs/\h.DictOf (aV P w) a vs
 |.dT kvs=>kvs.length<=sizeLine/\(a == sysModules)=false/\∃xs:List (List Key×Addr×Value),
   Paired (λ(p:List Key×V)(q:List Key×Addr×Value)=>p.1=q.1/\H q.2.1=some (.tup (p.1.map kV))/\RelV p.2 q.2.2) kvs xs/\
   ∃o es ep,h.get? a=some o/\o.ExactDict/\o.data=.dict es ep/\es.toList=xs.map (entryOfKey (tupleKind (aV P w)))/\(xs.map (·.1)).Nodup
 |.set S n=>h.SetOf (intKind P w) a S n
 |.ins C dx fs=>H dx=some (.own a)/\fs.length<=1000/\dx≠a/\h.get? a=some (instObj C dx)/\
   ∃mA,h.Ns1 dx mA/\(∀f,nW (fs.lookup f) (mA f))/\PySem.Within mA (fs.map (·.1))
 |.own _=>∃o,h.get? a=some o
 |.xd fs=>∃mA,h.Ns1 a mA/\∀f,nW (fs.lookup f) (mA f)
 |.rng lo hi=>∃t u v,h.get? a=some { cls:=.type "range",data:=.fields #[.int lo t,.int hi u,.int 1 v] }
 |.frz o u=>h.get? a=some o/\bw H h a u
 |.tbl ps=>h.get? a=some { cls:=.none,data:=.fields ps }
 |.met f x=>h.get? a=some (methodObj (.ref f) (.ref x))
 |.ext φ=>φ h/\(∃o,h.get? a=some o)/\∀h1 h2:Heap,φ h1->(∀o,h1.get? a=some o->h2.get? a=some o)->φ h2
def HOk(H:Hp)(h:Heap):Prop:=∀a o,H a=some o->bw P w H h a o
end
section
variable{P:Program}{w:World}{H H':Hp}{h h':Heap}{a:Addr}{o:HO}
theorem bw.lt(x:bw P w H h a o):a<h.objs.size:=by
 cases o with
 |lst xs=>obtain⟨_,_,_,_,e⟩:=x;exact Jn e
 |tup xs=>obtain⟨_,_,_,p⟩:=x;exact p.lt
 |dK kvs=>obtain⟨_,_,_,_,o,_,_,e,_⟩:=x;exact Jn e
 |dT kvs=>obtain⟨_,_,_,_,o,_,_,e,_⟩:=x;exact Jn e
 |set S n=>obtain⟨o,_,_,_,e,_⟩:=x;exact Jn e
 |ins C dx fs=>obtain⟨_,_,_,e,_⟩:=x;exact Jn e
 |own y=>obtain⟨_,e⟩:=x;exact Jn e
 |xd fs=>obtain⟨_,⟨_,_,_,e,_⟩,_⟩:=x;exact Jn e
 |rng lo hi=>obtain⟨_,_,_,e⟩:=x;exact Jn e
 |frz ob u=>obtain⟨e,_⟩:=x;exact Jn e
 |tbl ps=>exact Jn (show h.get? a=some _ from x)
 |met f y=>exact Jn (show h.get? a=some _ from x)
 |ext φ=>obtain⟨_,⟨_,e⟩,_⟩:=x;exact Jn e
theorem Paired.mapP{α β:Type}{F G:α->β->Prop}:∀{l₁:List α}{l₂:List β},Paired F l₁ l₂->(∀a b,F a b->G a b)->Paired G l₁ l₂
 |_,_,.nil,_=>.nil
 |_,_,.cons r t,f=>.cons (f _ _ r) (Paired.mapP t f)
theorem bw.stay(x:bw P w H h a o)(k:∀b u,(b=a\/H b=some (.own a))->h.get? b=some u->h'.get? b=some u)
  (ho:∀b,H b=some (.own a)->H' b=some (.own a)) (ht:∀b xs,H b=some (.tup xs)->H' b=some (.tup xs)):bw P w H' h' a o:=by
 induction o with
 |lst xs=>obtain⟨z,its,n,r,e⟩:=x;exact⟨z,its,n,r,k _ _ (.inl rfl) e⟩
 |tup xs=>obtain⟨z,its,r,ob,e,c⟩:=x;exact⟨z,its,r,ob,k _ _ (.inl rfl) e,c⟩
 |dK kvs=>obtain⟨z,y,vs,r,ob,es,ep,e,c⟩:=x;exact⟨z,y,vs,r,ob,es,ep,k _ _ (.inl rfl) e,c⟩
 |dT kvs=>
  obtain⟨z,y,xs,r,ob,es,ep,e,c⟩:=x;exact⟨z,y,xs,Paired.mapP r λp q z=>⟨z.1,ht _ _ z.2.1,z.2.2⟩,ob,es,ep,k _ _ (.inl rfl) e,c⟩
 |set S n=>obtain⟨ob,es,ep,t,e,c⟩:=x;exact⟨ob,es,ep,t,k _ _ (.inl rfl) e,c⟩
 |ins C dx fs=>
  obtain⟨d,z,ne,e,mA,⟨od,es,ep,e2,c⟩,r⟩:=x;exact⟨ho _ d,z,ne,k _ _ (.inl rfl) e,mA,⟨od,es,ep,k _ _ (.inr d) e2,c⟩,r⟩
 |own y=>obtain⟨ob,e⟩:=x;exact⟨ob,k _ _ (.inl rfl) e⟩
 |xd fs=>obtain⟨mA,⟨od,es,ep,e,c⟩,r⟩:=x;exact⟨mA,⟨od,es,ep,k _ _ (.inl rfl) e,c⟩,r⟩
 |rng lo hi=>obtain⟨t,u,v,e⟩:=x;exact⟨t,u,v,k _ _ (.inl rfl) e⟩
 |frz ob u ih=>obtain⟨e,q⟩:=x;exact⟨k _ _ (.inl rfl) e,ih q⟩
 |tbl ps=>
  have e:h.get? a=some { cls:=.none,data:=.fields ps }:=x;show h'.get? a=some { cls:=.none,data:=.fields ps };exact k a _ (.inl rfl) e
 |met f y=>
  have e:h.get? a=some (methodObj (.ref f) (.ref y)):=x;show h'.get? a=some (methodObj (.ref f) (.ref y));exact k a _ (.inl rfl) e
 |ext φ=>obtain⟨p,⟨o,e⟩,st⟩:=x;exact⟨st _ _ p λo q=>k _ _ (.inl rfl) q,⟨o,k _ _ (.inl rfl) e⟩,st⟩
theorem HOk.lt(x:HOk P w H h)(e:H a=some o):a<h.objs.size:=(x a o e).lt
theorem HOk.fresh(x:HOk P w H h)(e:h.objs.size<=a):H a=none:=by
 cases q:H a with
 |none=>rfl
 |some u=>exact absurd (Y1 (x.lt q) e) (Wn _)
theorem HOk.kept(x:HOk P w H h)(k:∀b u,h.get? b=some u->h'.get? b=some u):HOk P w H h':=λa o e=>
 (x a o e).stay (λb u _ q=>k b u q) (λ_ q=>q) λ_ _ q=>q
theorem HOk.laid(x:HOk P w H h)(k:∀b u,h.get? b=some u->h'.get? b=some u)(hp:h.objs.size<=a)(new:bw P w (upd H a o) h' a o):HOk P w (upd H a o) h':=λb u e=>by
 have hn:=x.fresh hp;by_cases hb:b=a
 .subst hb;rw[aC]at e;cases e;exact new
 .rw[ax hb]at e
  exact(x b u e).stay (λc v _ q=>k c v q) (λc q=>by rw[ax (aH q hn)];exact q) λc xs q=>by rw[ax (aH q hn)];exact q
end
def Rd(H:Hp)(a:Addr)(u:HO):Prop:=H a=some u \/ ∃o,H a=some (.frz o u)
theorem Rd.ok{u:HO}(r:Rd H a u)(x:HOk P w H h):bw P w H h a u:=by
 rcases r with r|⟨o,r⟩
 .exact x a u r
 .obtain⟨_,q⟩:=x a _ r;exact q
noncomputable def Mut:Option HO->Prop
 |some (.lst _)=>True
 |some (.dK _)=>True
 |some (.dT _)=>True
 |some (.set _ _)=>True
 |some (.ins _ _ _)=>True
 |some (.ext _)=>True
 |_=>False
section
variable{P:Program}{w:World}{H:Hp}{h h':Heap}{x e:Addr}{o':HO}
theorem HOk.write(ok:HOk P w H h)(mu:Mut (H x))(he:e=x\/H e=some (.own x))(k:∀b u,b≠e->h.get? b=some u->h'.get? b=some u)(heo:∃u,h'.get? e=some u)
  (new:bw P w (upd H x o') h' x o'):HOk P w (upd H x o') h':=λb u q=>by
 have nown:∀c y,H c=some (.own y)->c≠x:=λc y r z=>by subst z;rw[r]at mu;exact mu
 have ntup:∀c xs,H c=some (.tup xs)->c≠x:=λc xs r z=>by subst z;rw[r]at mu;exact mu
 by_cases hb:b=x
 .subst hb;rw[aC]at q;cases q;exact new
 .rw[ax hb]at q;by_cases hbe:b=e
  .have q':H b=some (.own x):=by
    rcases he with z|z
    .exact absurd (hbe.trans z) hb
    .rw[hbe];exact z
   rw[q]at q';cases q';obtain⟨v,hv⟩:=heo
   exact⟨v,by rw[hbe];exact hv⟩
  .refine(ok b u q).stay (λc v hc r=>k c v ?_ r) (λc r=>by rw[ax (nown c b r)];exact r) λc xs r=>by rw[ax (ntup c xs r)];exact r
   rcases hc with rfl|hc
   .exact hbe
   .rintro rfl;rcases he with z|z
    .exact nown c b hc z
    .rw[hc]at z;cases z;exact hb rfl
end
structure Un(fs ex:List Addr)(H H':Hp)(h h':Heap):Prop where
 keep:∀b o,h.get? b=some o->H b=none->b∉fs->b∉ex->h'.get? b=some o
 slot:∀b o,h.get? b=some o->H b=none->b∈fs->b∉ex->∃sl,h'.get? b=some { o with slots:=sl }
 free:∀b o,h.get? b=some o->H b=none->b∉ex->H' b=none
 there:∀b o,h.get? b=some o->b∉ex->∃o',h'.get? b=some o'
 tups:∀b xs,H b=some (.tup xs)->H' b=some (.tup xs)
 frzs:∀b o u,H b=some (.frz o u)->H' b=some (.frz o u)
 tbls:∀b ps,H b=some (.tbl ps)->∃more,H' b=some (.tbl (ps++more))
section
variable{fs fs' ex ex':List Addr}{H H1 H2:Hp}{h h1 h2 h':Heap}{a x e:Addr}{o:HO}
theorem Un.any(u:Un fs ex H H1 h h1){ob:Obj}(q:h.get? b=some ob)(n:H b=none)(hx:b∉ex):∃sl,h1.get? b=some { ob with slots:=sl }:=by
 by_cases hb:b∈fs
 .exact u.slot b ob q n hb hx
 .exact⟨ob.slots,u.keep b ob q n hb hx⟩
theorem Un.trans(a:Un fs ex H H1 h h1)(b:Un fs ex H1 H2 h1 h2):Un fs ex H H2 h h2 where
 keep:=λc ob q n hc hx=>b.keep c ob (a.keep c ob q n hc hx) (a.free c ob q n hx) hc hx
 slot:=λc ob q n hc hx=>by obtain⟨sl,e1⟩:=a.slot c ob q n hc hx;obtain⟨sl',e2⟩:=b.slot c _ e1 (a.free c ob q n hx) hc hx;exact⟨sl',e2⟩
 free:=λc ob q n hx=>by obtain⟨o',e1⟩:=a.there c ob q hx;exact b.free c o' e1 (a.free c ob q n hx) hx
 there:=λc ob q hx=>by obtain⟨o',e1⟩:=a.there c ob q hx;exact b.there c o' e1 hx
 tups:=λc xs q=>b.tups c xs (a.tups c xs q)
 frzs:=λc ob xs q=>b.frzs c ob xs (a.frzs c ob xs q)
 tbls:=λc ps q=>by
  obtain⟨m1,e1⟩:=a.tbls c ps q;obtain⟨m2,e2⟩:=b.tbls c _ e1
  exact⟨m1++m2,by rw[e2,Array.append_assoc]⟩
theorem Un.kept(k:∀b u,h.get? b=some u->h'.get? b=some u):Un fs ex H H h h':=
 ⟨λb ob q _ _ _=>k b ob q,λb ob q _ _ _=>⟨ob.slots,k b ob q⟩,λ_ _ _ n _=>n,λb ob q _=>⟨ob,k b ob q⟩,λ_ _ q=>q,λ_ _ _ q=>q,λ_ ps q=>⟨#[],by rw[q];simp⟩⟩
theorem Un.refl:Un fs ex H H h h:=Un.kept λ_ _ q=>q
theorem Un.laid(k:∀b u,h.get? b=some u->h'.get? b=some u)(hp:h.objs.size<=a)(hn:H a=none):Un fs ex H (upd H a o) h h' where
 keep:=λb u q _ _ _=>k b u q
 slot:=λb u q _ _ _=>⟨u.slots,k b u q⟩
 free:=λb u q n _=>by rw[ax (Ju (Y1 (Jn q) hp))];exact n
 there:=λb u q _=>⟨u,k b u q⟩
 tups:=λb xs q=>by rw[ax (aH q hn)];exact q
 frzs:=λb u xs q=>by rw[ax (aH q hn)];exact q
 tbls:=λb ps q=>⟨#[],by rw[ax (aH q hn),q];simp⟩
theorem Un.write(mu:Mut (H x))(he:e=x\/H e=some (.own x))(k:∀b u,b≠e->h.get? b=some u->h'.get? b=some u)(heo:∃u,h'.get? e=some u):Un fs ex H (upd H x o) h h':=by
 have hx:∀b,H b=none->b≠x:=λb n z=>by subst z;rw[n]at mu;exact mu
 have hb:∀b,H b=none->b≠e:=λb n z=>by
  subst z;rcases he with r|r
  .exact hx b n r
  .rw[n]at r;cases r
 have hm:∀b u,H b=some u->¬Mut (some u)->b≠x:=λb u q nm z=>by subst z;rw[q]at mu;exact nm mu
 refine⟨λb u q n _ _=>k b u (hb b n) q,λb u q n _ _=>⟨u.slots,k b u (hb b n) q⟩,λb u q n _=>by rw[ax (hx b n)];exact n,λb u q _=>?_,
  λb xs q=>by rw[ax (hm b _ q λz=>z)];exact q,λb u xs q=>by rw[ax (hm b _ q λz=>z)];exact q,λb ps q=>⟨#[],by rw[ax (hm b _ q λz=>z),q];simp⟩⟩
 by_cases hbe:b=e
 .subst hbe;exact heo
 .exact⟨u,k b u hbe q⟩
end
noncomputable def trk(h:Heap)(H:Hp):List Addr:=(List.range h.objs.size).filter λa=>(H a).isSome
noncomputable def nX(h:Heap)(H:Hp):Heap:=hideAll h (trk h H)
theorem vb(h:Heap)(H:Hp):(nX h H).objs.size=h.objs.size:=hideAll_size _ _
theorem wj{o:Obj}(e:h.get? b=some o)(n:H b=none):(nX h H).get? b=some o:=
 hideAll_get _ e λhm=>by have q:(H b).isSome=true:=(Yv.mp hm).2;rw[n]at q;simp at q
theorem yN{o:Obj}(e:(nX h H).get? b=some o):h.get? b=some o/\H b=none:=by
 have e':h.get? b=some o:=of_hideAll (trk h H) e;refine⟨e',?_⟩;cases q:H b with
 |none=>rfl
 |some x=>
  have hm:b∈trk h H:=Yv.mpr ⟨Qo.mpr (Jn e'),by simp[q]⟩
  have z:(nX h H).get? b=none:=hideAll_none (trk h H) hm;rw[z]at e;cases e
structure Mod(K:Frag)(mg:Str->Option Value)(base:Heap):Prop where
 kin:K.In base
 glob:base.Ns mainGlobals mg
 blt:∃mb,base.Ns builtinsNs mb/\∀x:Str,x ≠ "__name__"->mb x=bootBuiltins x
 nolimit:base.NoLimit
structure Cx where
 prog:Program
 w:World
 K:Frag
 mg:Str->Option Value
 base:Heap
 A:Around
 N:List Str
 s₀:Shared
 H₀:Hp
 env:Env
 outer:List Env
 stack:List Env
 ex:List Addr
 fn:Str->Bool
 calm:Bool
 pn:List (Addr×Obj)
 xe:Value->Shared->Prop
variable{X:Cx}
noncomputable def frs(l:List Env):List Addr:=l.filterMap (·.frame)
noncomputable abbrev Cx.fs(X:Cx):List Addr:=frs X.outer
def Vis(sc:Scope)(x:Str):Prop:=sc.names.lookup x=some .local\/sc.names.lookup x=some .cell\/sc.names.lookup x=some .free
def Loc(sc:Scope)(x:Str):Prop:=sc.names.lookup x=some .local\/sc.names.lookup x=some .cell
def Look(env:Env)(h:Heap)(m:Str->Option Value)(x:Str)(u:Value):Prop:=
 (env.kindOf x=some .local/\m x=some u)\/((env.kindOf x=some .cell\/env.kindOf x=some .free)/\∃c,env.cells.lookup x=some c/\h.IsCell c (some u))
structure Cx.Ok(X:Cx):Prop where
 mod:Mod X.K X.mg X.base
 kind:X.env.scope.kind=.function
 glob:X.env.globals=mainGlobals
 blt:X.env.builtins=builtinsNs
 above:X.s₀.heap.objs.size<=X.env.locals
 inj:∀x y c,X.env.cells.lookup x=some c->X.env.cells.lookup y=some c->x=y
 has:∀x,(X.env.kindOf x=some .cell\/X.env.kindOf x=some .free)->∃c,X.env.cells.lookup x=some c
 cab:∀x c,X.fn x=true->X.env.cells.lookup x=some c->X.s₀.heap.objs.size<=c
 hd:X.calm=true->X.A.handled=none
 frames:X.A.frames=some X.stack
 stk:X.stack=X.outer\/(X.stack=X.env::X.outer/\X.env.frame=some X.env.locals)
 exf:∀b∈X.ex,b≠X.env.locals/\∀x c,X.env.cells.lookup x=some c->c≠b
 bs:∀b o,X.base.get? b=some o->X.s₀.heap.get? b=some o/\X.H₀ b=none
 bsz:X.base.objs.size<=X.s₀.heap.objs.size
 noex:∀b o,X.base.get? b=some o->b∉X.ex
 exfs:∀b∈X.ex,b∉X.fs
 funs:X.s₀.heap.FunFrames X.base X.outer
 frf:∀b∈X.fs,X.H₀ b=none
structure Inv(X:Cx)(pins:List (Addr×Obj))(σ:List (Option V))(H:Hp)(s:Shared):Prop where
 ok:X.Ok
 os:s.os=X.s₀.os
 bare:AllBare s.gens
 base:Un X.fs X.ex X.H₀ H X.s₀.heap s.heap
 loc:∃m,s.heap.Ns X.env.locals m/\∀(i:Nat)(x:Str)(v:V),X.N[i]?=some x->σ[i]?=some (some v)->Vis X.env.scope x->∃u,RelV v u/\Look X.env s.heap m x u
 cell:∀x c,X.env.cells.lookup x=some c->∃v,s.heap.IsCell c v
 free:H X.env.locals=none
 freeC:∀x c,X.env.cells.lookup x=some c->H c=none
 pin:∀p∈X.pn++pins,s.heap.get? p.1=some p.2/\H p.1=none/\p.1≠X.env.locals/\p.1∉X.fs/\∀v,p.2.data≠.cell v
 hok:HOk X.prog X.w H s.heap
 len:σ.length=X.N.length
section
variable{X:Cx}{pins:List (Addr×Obj)}{σ:List (Option V)}{H H':Hp}{s:Shared}{h':Heap}
theorem Cx.Ok.nofr(ok:X.Ok){o:Obj}(e:X.base.get? b=some o):b∉X.fs:=λhb=>by have:=(ok.funs.mem hb).1;rw[e]at this;cases this
theorem Inv.bs(I:Inv X pins σ H s):∀b o,X.base.get? b=some o->s.heap.get? b=some o/\H b=none:=λb o e=>
 ⟨I.base.keep b o (I.ok.bs b o e).1 (I.ok.bs b o e).2 (I.ok.nofr e) (I.ok.noex b o e),I.base.free b o (I.ok.bs b o e).1 (I.ok.bs b o e).2 (I.ok.noex b o e)⟩
theorem Inv.bk(I:Inv X pins σ H s):∀b o,X.base.get? b=some o->s.heap.get? b=some o:=λb o e=>(I.bs b o e).1
theorem Inv.mod(I:Inv X pins σ H s):Mod X.K X.mg X.base:=I.ok.mod
theorem Inv.kIn(I:Inv X pins σ H s):X.K.In s.heap:=I.ok.mod.kin.keeps I.bk
theorem Inv.lt(I:Inv X pins σ H s):X.env.locals<s.heap.objs.size:=let ⟨_,hn,_⟩:=I.loc;hn.lt
theorem Inv.sz(I:Inv X pins σ H s):X.s₀.heap.objs.size<=s.heap.objs.size:=Ys I.ok.above (G6 I.lt)
theorem Inv.nofs(I:Inv X pins σ H s)(h:s.heap.objs.size<=a):a∉X.fs:=λhb=>by obtain⟨_,o,ho,_⟩:=I.ok.funs.mem hb;exact absurd (Y1 (Jn ho) (Ys I.sz h)) (Wn _)
theorem Inv.cne(I:Inv X pins σ H s):∀x c,X.env.cells.lookup x=some c->c≠X.env.locals:=λx c e z=>by obtain⟨v,o,ho,hd⟩:=I.cell x c e;obtain⟨m,⟨o',es,ep,ho',hd',_⟩,_⟩:=I.loc;rw[z,ho']at ho;cases ho;rw[hd']at hd;cases hd
theorem Inv.funs(I:Inv X pins σ H s):s.heap.FunFrames X.base X.outer:=by
 have all:∀(l:List Env),(∀b∈frs l,b∈X.fs)->X.s₀.heap.FunFrames X.base l->s.heap.FunFrames X.base l:=by
  intro l
  induction l with
  |nil=>intro _ _;trivial
  |cons env r ih=>
   intro hs hl;obtain⟨hk,⟨L,o,hf,hn,ho,hd⟩,hr⟩:=hl
   have hL:L∈X.fs:=hs L (by unfold frs;rw[V4,hf];exact Y6)
   obtain⟨sl,e⟩:=I.base.slot L o ho (I.ok.frf L hL) hL λz=>I.ok.exfs L z hL
   exact⟨hk,⟨L,_,hf,hn,e,hd⟩,ih (λb hb=>hs b (by unfold frs;rw[V4,hf];exact Y4 _ hb)) hr⟩
 exact all X.outer (λ_ hb=>hb) I.ok.funs
theorem Inv.stack(I:Inv X pins σ H s):s.heap.FunFrames X.base X.stack:=by
 rcases I.ok.stk with e|⟨e,hf⟩
 .rw[e];exact I.funs
 .rw[e];obtain⟨m,hn,_⟩:=I.loc
  refine .cons (by rw[I.ok.kind];decide) hf hn ?_ I.funs
  exact Heap.get?_none_of_le (Ys I.ok.bsz I.ok.above)
theorem Inv.stkSub(I:Inv X pins σ H s):∀b∈frs X.stack,b∈X.env.locals::X.fs:=λb hb=>by
 rcases I.ok.stk with e|⟨e,hf⟩
 .rw[e]at hb;exact Y4 _ hb
 .rw[e]at hb;unfold frs at hb;rw[V4,hf]at hb;exact hb
theorem Inv.stkFree(I:Inv X pins σ H s):∀b∈frs X.stack,H b=none:=λb hb=>by
 rcases Jq.mp (I.stkSub b hb) with e|hb
 .rw[e];exact I.free
 .obtain⟨_,o,ho,_⟩:=I.ok.funs.mem hb;exact I.base.free b o ho (I.ok.frf b hb) λz=>I.ok.exfs b z hb
theorem Inv.step{g':Array GenState}{t':Nat}{d':Drawn}{ch:List Addr}(I:Inv X pins σ H s)
  (hch:∀b∈ch,(b∈X.ex\/X.s₀.heap.objs.size<=b)/\b≠X.env.locals/\(∀x c,X.env.cells.lookup x=some c->c≠b)/\∀p∈X.pn++pins,p.1≠b)
  (keep:∀b o,b≠X.env.locals->b∉X.fs->b∉ch->s.heap.get? b=some o->H b=none->h'.get? b=some o)
  (slot:∀b o,b≠X.env.locals->b∈X.fs->b∉ch->s.heap.get? b=some o->H b=none->∃sl,h'.get? b=some { o with slots:=sl }) (free:∀b o,b∉ch->s.heap.get? b=some o->H b=none->H' b=none)
  (there:∀b o,b∉ch->s.heap.get? b=some o->∃o',h'.get? b=some o')
  (tups:∀b xs,H b=some (.tup xs)->H' b=some (.tup xs)) (frzs:∀b o u,H b=some (.frz o u)->H' b=some (.frz o u)) (tbls:∀b ps,H b=some (.tbl ps)->∃more,H' b=some (.tbl (ps++more)))
  (ns:∀m,s.heap.Ns X.env.locals m->h'.Ns X.env.locals m) (hok:HOk X.prog X.w H' h') (hg:AllBare g'):
  Inv X pins σ H' { s with heap:=h',gens:=g',drawn:=d',toks:=t' }:=by
 have neL:∀b o,X.s₀.heap.get? b=some o->b≠X.env.locals:=λb o e=>Ju (Y1 (Jn e) I.ok.above)
 have neC:∀b o,X.s₀.heap.get? b=some o->b∉X.ex->b∉ch:=λb o e hx hb=>by
  rcases(hch b hb).1 with z|z
  .exact hx z
  .exact absurd (Y1 (Jn e) z) (Wn _)
 have cellK:∀x c,X.env.cells.lookup x=some c->∀v,s.heap.IsCell c v->h'.IsCell c v:=λx c e v ⟨o,ho,hd⟩=>by
  have nch:c∉ch:=λz=>(hch c z).2.2.1 x c e rfl;by_cases hc:c∈X.fs
  .obtain⟨sl,q⟩:=slot c o (I.cne x c e) hc nch ho (I.freeC x c e);exact⟨_,q,hd⟩
  .exact⟨o,keep c o (I.cne x c e) hc nch ho (I.freeC x c e),hd⟩
 refine⟨I.ok,I.os,hg,⟨λb o e n hb hx=>?_,λb o e n hb hx=>?_,λb o e n hx=>?_,λb o e hx=>?_,λb xs e=>tups b xs (I.base.tups b xs e),λb o xs e=>frzs b o xs (I.base.frzs b o xs e),λb ps e=>?_⟩,?_,λx c e=>?_,?_,λx c e=>?_,λp hp=>?_,hok,I.len⟩
 .exact keep b o (neL b o e) hb (neC b o e hx) (I.base.keep b o e n hb hx) (I.base.free b o e n hx)
 .obtain⟨sl,e1⟩:=I.base.slot b o e n hb hx;obtain⟨sl',e2⟩:=slot b _ (neL b o e) hb (neC b o e hx) e1 (I.base.free b o e n hx);exact⟨sl',e2⟩
 .obtain⟨o',e1⟩:=I.base.there b o e hx;exact free b o' (neC b o e hx) e1 (I.base.free b o e n hx)
 .obtain⟨o',e1⟩:=I.base.there b o e hx;exact there b o' (neC b o e hx) e1
 .obtain⟨m1,e1⟩:=I.base.tbls b ps e;obtain⟨m2,e2⟩:=tbls b _ e1
  exact⟨m1++m2,by rw[e2,Array.append_assoc]⟩
 .obtain⟨m,hn,hl⟩:=I.loc;refine⟨m,ns m hn,λi x v e1 e2 e3=>?_⟩;obtain⟨u,r,l⟩:=hl i x v e1 e2 e3;refine⟨u,r,?_⟩;rcases l with l|⟨k,c,e,z⟩
  .exact .inl l
  .exact .inr ⟨k,c,e,cellK x c e _ z⟩
 .obtain⟨v,z⟩:=I.cell x c e;exact⟨v,cellK x c e v z⟩
 .obtain⟨m,⟨o,_,_,ho,_⟩,_⟩:=I.loc;exact free _ o (λz=>(hch _ z).2.1 rfl) ho I.free
 .obtain⟨v,o,ho,hd⟩:=I.cell x c e;exact free c o (λz=>(hch c z).2.2.1 x c e rfl) ho (I.freeC x c e)
 .obtain⟨e,n,ne,nf,d⟩:=I.pin p hp;have nch:p.1∉ch:=λz=>(hch p.1 z).2.2.2 p hp rfl;exact⟨keep p.1 p.2 ne nf nch e n,free p.1 p.2 nch e n,ne,nf,d⟩
theorem Inv.un{t':Nat}(I:Inv X pins σ H s)(u:Un X.fs [] H H' s.heap h')(hok:HOk X.prog X.w H' h'):Inv X pins σ H' { s with heap:=h',toks:=t' }:=by
 obtain⟨m,⟨o,es,ep,ho,r⟩,_⟩:=id I.loc
 obtain⟨sl,hL⟩:=u.any ho I.free (by simp)
 exact I.step (g':=s.gens) (d':=s.drawn) (ch:=[]) (λ_ z=>nomatch z) (λb o _ hb _ e n=>u.keep b o e n hb (by simp)) (λb o _ hb _ e n=>u.slot b o e n hb (by simp)) (λb o _ e n=>u.free b o e n (by simp)) (λb o _ e=>u.there b o e (by simp)) u.tups u.frzs u.tbls (λm' hm=>by
  obtain⟨o',es',ep',ho',r'⟩:=hm;rw[ho]at ho';cases ho'
  exact⟨_,es',ep',hL,r'⟩) hok I.bare
theorem Inv.call{g':Array GenState}{t':Nat}{d':Drawn}{ch:List Addr}(I:Inv X pins σ H s)(u:Un (frs X.stack) ch H H' s.heap h')(hok:HOk X.prog X.w H' h')(hg:AllBare g')
  (hch:∀b∈ch,(b∈X.ex\/X.s₀.heap.objs.size<=b)/\b≠X.env.locals/\(∀x c,X.env.cells.lookup x=some c->c≠b)/\∀p∈X.pn++pins,p.1≠b):
  Inv X pins σ H' { s with heap:=h',gens:=g',drawn:=d',toks:=t' }:=by
 obtain⟨m,⟨o,es,ep,ho,r⟩,_⟩:=id I.loc;obtain⟨sl,hL⟩:=u.any ho I.free λz=>(hch _ z).2.1 rfl
 exact I.step (ch:=ch) hch (λb o hL hb hc e n=>u.keep b o e n (λz=>(Jq.mp (I.stkSub b z)).elim hL hb) hc) (λb o _ _ hc e n=>u.any e n hc) (λb o hc e n=>u.free b o e n hc) (λb o hc e=>u.there b o e hc) u.tups u.frzs u.tbls (λm' hm=>by
  obtain⟨o',es',ep',ho',r'⟩:=hm;rw[ho]at ho';cases ho'
  exact⟨_,es',ep',hL,r'⟩) hok hg
theorem Inv.turned{t':Nat}{it:Addr}(I:Inv X pins σ H s)(k:∀b o,b≠it->s.heap.get? b=some o->h'.get? b=some o)(hn:H it=none)(hL:it≠X.env.locals)
  (h1:it∈X.ex\/X.s₀.heap.objs.size<=it) (h2:∀x c,X.env.cells.lookup x=some c->c≠it) (h3:∀p∈X.pn++pins,p.1≠it):Inv X pins σ H { s with heap:=h',toks:=t' }:=by
 have nit:∀b u,H b=some u->b≠it:=λb u e z=>by rw[z,hn]at e;cases e
 refine I.step (g':=s.gens) (d':=s.drawn) (ch:=[it]) (λb hb=>?_) (λb o _ _ hc e _=>k b o (λz=>hc (by simp[z])) e) (λb o _ _ hc e _=>⟨o.slots,k b o (λz=>hc (by simp[z])) e⟩) (λ_ _ _ _ n=>n)
  (λb o hc e=>⟨o,k b o (λz=>hc (by simp[z])) e⟩) (λ_ _ e=>e) (λ_ _ _ e=>e) (λb ps e=>⟨#[],by rw[e];simp⟩) (λm hm=>?_) (λb u e=>?_) I.bare
 .have e:b=it:=by simpa using hb
  subst e;exact⟨h1,hL,h2,h3⟩
 .obtain⟨o,es,ep,ho,r⟩:=hm;exact⟨o,es,ep,k _ o (Ne.symm hL) ho,r⟩
 .refine(I.hok b u e).stay (λc v hc q=>k c v ?_ q) (λ_ q=>q) λ_ _ q=>q;rcases hc with z|z
  .rw[z];exact nit b u e
  .exact nit c _ z
theorem Inv.tok(I:Inv X pins σ H s)(t:Nat):Inv X pins σ H { s with toks:=t }:=I.un (h':=s.heap) (t':=t) Un.refl I.hok
theorem Inv.kept{t':Nat}(I:Inv X pins σ H s)(k:∀b u,s.heap.get? b=some u->h'.get? b=some u):Inv X pins σ H { s with heap:=h',toks:=t' }:=I.un (Un.kept k) (I.hok.kept k)
theorem Inv.laid{t':Nat}(I:Inv X pins σ H s)(k:∀b u,s.heap.get? b=some u->h'.get? b=some u)(hp:s.heap.objs.size<=a)(new:bw X.prog X.w (upd H a o) h' a o):
  Inv X pins σ (upd H a o) { s with heap:=h',toks:=t' }:=I.un (Un.laid k hp (I.hok.fresh hp)) (I.hok.laid k hp new)
theorem Inv.write{x e:Addr}{o:HO}{t':Nat}(I:Inv X pins σ H s)(mu:Mut (H x))(he:e=x\/H e=some (.own x))(k:∀b u,b≠e->s.heap.get? b=some u->h'.get? b=some u)(heo:∃u,h'.get? e=some u)
  (new:bw X.prog X.w (upd H x o) h' x o):Inv X pins σ (upd H x o) { s with heap:=h',toks:=t' }:=I.un (Un.write mu he k heo) (I.hok.write mu he k heo new)
theorem Inv.pins_of{pins':List (Addr×Obj)}(I:Inv X pins σ H s)(h:∀p∈pins',s.heap.get? p.1=some p.2/\H p.1=none/\p.1≠X.env.locals/\p.1∉X.fs/\∀v,p.2.data≠.cell v):Inv X pins' σ H s:=
 ⟨I.ok,I.os,I.bare,I.base,I.loc,I.cell,I.free,I.freeC,λp hp=>(Jt.mp hp).elim (λz=>I.pin p (Qh _ z)) (h p),I.hok,I.len⟩
theorem pD{N:List Str}(hN:N.Nodup){j:Nat}(a:N[i]?=some x)(b:N[j]?=some x):i=j:=by obtain⟨h1,e1⟩:=Jf.mp a;obtain⟨h2,e2⟩:=Jf.mp b;exact(List.getElem_inj hN).mp (e1.trans e2.symm)
theorem vc{M:Model}{A:Around}{E:Value->Shared->Prop}{v:V}{Q:Unit->Shared->Prop}(I:Inv X pins σ H s)(hN:X.N.Nodup)(hi:X.N[i]?=some x)(hx:Loc X.env.scope x)(r:RelV v u)
  (h:∀s',Inv X pins (σ.set i (some v)) H s'->(∃a,Heap.SameBut a s.heap s'.heap/\(a=X.env.locals\/X.env.cells.lookup x=some a))->Q () s') (hf:X.fn x=true\/X.env.scope.names.lookup x=some .local):wpAny M A (storeName X.env x u) Q E s:=by
 obtain⟨m,hn,hl⟩:=id I.loc
 have hcls:(X.env.scope.kind == .class||(X.env.scope.kind == .module&&X.env.locals != X.env.globals))=false:=by rw[I.ok.kind];rfl
 have hiσ:i < σ.length:=by rw[I.len];exact(Jf.mp hi).1
 have cne:=I.cne
 have tracked:∀{a:Addr}{h':Heap},(∃o,s.heap.get? a=some o/\H a=none)->Heap.SameBut a s.heap h'->HOk X.prog X.w H h':=λ{a h'} ha hs b ob e=>by
  obtain⟨_,_,hfree⟩:=ha;refine(I.hok b ob e).stay (λc w' hc q=>(hs.2 c ?_).trans q) (λ_ q=>q) λ_ _ q=>q;rintro rfl;rcases hc with rfl|hc
  .rw[hfree]at e;cases e
  .rw[hfree]at hc;cases hc
 rcases hx with hk|hk
 .refine wpAny_storeName_local hk hn (λh' hn' hs=>?_) hcls;obtain⟨oL,_,_,hoL,_⟩:=id hn
  refine h _ ⟨I.ok,I.os,I.bare,⟨λb o e n hb hx=>?_,λb o e n hb hx=>?_,I.base.free,λb o e hx=>?_,I.base.tups,I.base.frzs,I.base.tbls⟩,⟨_,hn',λj y v' e1 e2 e3=>?_⟩,λy c e=>?_,I.free,I.freeC,λp hp=>?_,tracked ⟨oL,hoL,I.free⟩ hs,by simpa using I.len⟩ ⟨_,hs,.inl rfl⟩
  .exact(hs.2 b (Ju (Y1 (Jn e) I.ok.above))).trans (I.base.keep b o e n hb hx)
  .obtain⟨sl,e1⟩:=I.base.slot b o e n hb hx;exact⟨sl,(hs.2 b (Ju (Y1 (Jn e) I.ok.above))).trans e1⟩
  .obtain⟨o',e1⟩:=I.base.there b o e hx;exact⟨o',(hs.2 b (Ju (Y1 (Jn e) I.ok.above))).trans e1⟩
  .by_cases hj:j=i
   .subst hj;rw[hi]at e1;cases e1;rw[Yj hiσ]at e2;cases e2
    exact⟨u,r,.inl ⟨hk,by simp⟩⟩
   .rw[Ye (Ne.symm hj)]at e2;obtain⟨u',r',q⟩:=hl j y v' e1 e2 e3;refine⟨u',r',?_⟩;rcases q with⟨k,e⟩|⟨k,c,e,z⟩
    .refine .inl ⟨k,?_⟩;have:y≠x:=λe=>hj (pD hN e1 (e▸hi));simp[this,e]
    .exact .inr ⟨k,c,e,z.sameBut hs (cne y c e)⟩
  .obtain⟨w',z⟩:=I.cell y c e;exact⟨w',z.sameBut hs (cne y c e)⟩
  .obtain⟨e,n,ne,nf,d⟩:=I.pin p hp;exact⟨(hs.2 p.1 ne).trans e,n,ne,nf,d⟩
 .have hfn:X.fn x=true:=by
   rcases hf with z|z
   .exact z
   .rw[z]at hk;cases hk
  obtain⟨c,hc⟩:=I.ok.has x (.inl hk);obtain⟨w',z⟩:=I.cell x c hc;refine wpAny_storeName_cell I.ok.kind hk hc z (λh' hc' hs=>?_);obtain⟨oc,hoc,hocd⟩:=id z
  refine h { s with heap:=h' } ⟨I.ok,I.os,I.bare,⟨λb o e n hb hx=>?_,λb o e n hb hx=>?_,I.base.free,λb o e hx=>?_,I.base.tups,I.base.frzs,I.base.tbls⟩,⟨m,hn.sameBut hs (Ne.symm (cne x c hc)),λj y v' e1 e2 e3=>?_⟩,λy c' e=>?_,I.free,I.freeC,λp hp=>?_,tracked ⟨oc,hoc,I.freeC x c hc⟩ hs,by simpa using I.len⟩ ⟨c,hs,.inr hc⟩
  .exact(hs.2 b (Ju (Y1 (Jn e) (I.ok.cab x c hfn hc)))).trans (I.base.keep b o e n hb hx)
  .obtain⟨sl,e1⟩:=I.base.slot b o e n hb hx;exact⟨sl,(hs.2 b (Ju (Y1 (Jn e) (I.ok.cab x c hfn hc)))).trans e1⟩
  .obtain⟨o',e1⟩:=I.base.there b o e hx;exact⟨o',(hs.2 b (Ju (Y1 (Jn e) (I.ok.cab x c hfn hc)))).trans e1⟩
  .by_cases hj:j=i
   .subst hj;rw[hi]at e1;cases e1;rw[Yj hiσ]at e2;cases e2;exact⟨u,r,.inr ⟨.inl hk,c,hc,hc'⟩⟩
   .rw[Ye (Ne.symm hj)]at e2;obtain⟨u',r',q⟩:=hl j y v' e1 e2 e3;refine⟨u',r',?_⟩;rcases q with q|⟨k,c',e,z'⟩
    .exact .inl q
    .refine .inr ⟨k,c',e,z'.sameBut hs ?_⟩;rintro rfl;exact hj (pD hN e1 (I.ok.inj _ _ _ e hc▸hi))
  .by_cases hcc:c'=c
   .subst hcc;exact⟨_,hc'⟩
   .obtain⟨w2,z2⟩:=I.cell y c' e;exact⟨w2,z2.sameBut hs hcc⟩
  .obtain⟨e,n,ne,nf,d⟩:=I.pin p hp;refine⟨(hs.2 p.1 ?_).trans e,n,ne,nf,d⟩;intro q;rw[q,hoc]at e;have q':oc=p.2:=Yk e
   exact d w' (by rw[<- q'];exact hocd)
theorem kW{M:Model}{A:Around}{E:Value->Shared->Prop}{v:V}{Q:Unit->Shared->Prop}(I:Inv X pins σ H s)(hN:X.N.Nodup)(hi:X.N[i]?=some x)(hx:Loc X.env.scope x)(r:RelV v u)
  (h:∀s',Inv X pins (σ.set i (some v)) H s'->Q () s') (hf:X.fn x=true\/X.env.scope.names.lookup x=some .local):wpAny M A (storeName X.env x u) Q E s:=
 vc I hN hi hx r (λs' I' _=>h s' I') hf
theorem Inv.call'{s':Shared}{ch:List Addr}(I:Inv X pins σ H s)(ho:s'.os=s.os)(u:Un (frs X.stack) ch H H' s.heap s'.heap)(hok:HOk X.prog X.w H' s'.heap)(hg:AllBare s'.gens)
  (hch:∀b∈ch,(b∈X.ex\/X.s₀.heap.objs.size<=b)/\b≠X.env.locals/\(∀x c,X.env.cells.lookup x=some c->c≠b)/\∀p∈X.pn++pins,p.1≠b):Inv X pins σ H' s':=by
 obtain⟨h',g',d',t',o'⟩:=s';have e:o'=s.os:=ho;subst e;exact I.call (g':=g') (t':=t') (d':=d') u hok hg hch
end
noncomputable abbrev XK:=Value->Option Addr->Hp->Prop
noncomputable abbrev St:=List (Option V)
variable{σ:St}
noncomputable abbrev VK:=V->Hp->Prop
noncomputable abbrev TE:=St->Hp->VK->Prop
noncomputable abbrev TT:=St->Hp->(Bool->Hp->Prop)->Prop
noncomputable abbrev TA:=St->Hp->(List V->Hp->Prop)->Prop
set_option genInjectivity false in
structure Ends where
 nx:St->Hp->Prop
 rt:VK
 bk:St->Hp->Prop:=λ_ _=>False
 ct:St->Hp->Prop:=λ_ _=>False
noncomputable abbrev TS:=Ends->St->Hp->Prop
def EP(X:Cx)(pins:List (Addr×Obj))(σ:St)(Q:VK)(u:Value)(s':Shared):Prop:=∃v H',Inv X pins σ H' s'/\RelV v u/\Q v H'
def TP(X:Cx)(pins:List (Addr×Obj))(σ:St)(Q:Bool->Hp->Prop)(b:Bool)(s':Shared):Prop:=∃H',Inv X pins σ H' s'/\Q b H'
def AP(X:Cx)(pins:List (Addr×Obj))(σ:St)(Q:List V->Hp->Prop)(us:List Value)(s':Shared):Prop:=∃vs H',Inv X pins σ H' s'/\Vals vs us/\Q vs H'
def SP(X:Cx)(pins:List (Addr×Obj))(D:Ends)(f:Flow)(s':Shared):Prop:=
 match f with
 |.next=>∃σ' H',Inv X pins σ' H' s'/\D.nx σ' H'
 |.brk=>∃σ' H',Inv X pins σ' H' s'/\D.bk σ' H'
 |.cont=>∃σ' H',Inv X pins σ' H' s'/\D.ct σ' H'
 |.ret u=>∃v σ' H',Inv X pins σ' H' s'/\RelV v u/\D.rt v H'
def PE(X:Cx)(e:Expr)(t:TE):Prop:=
 ∀(pins:List (Addr×Obj))(s:Shared)(σ:St)(H:Hp)(Q:VK),Inv X pins σ H s->t σ H Q->wpAny (model X.prog X.w) X.A (eval e X.env) (EP X pins σ Q) X.xe s
def PT(X:Cx)(e:Expr)(t:TT):Prop:=
 ∀(pins:List (Addr×Obj))(s:Shared)(σ:St)(H:Hp)(Q:Bool->Hp->Prop),Inv X pins σ H s->t σ H Q->wpAny (model X.prog X.w) X.A (isTrue e X.env (eval e X.env)) (TP X pins σ Q) X.xe s
def PW(X:Cx)(e:Expr)(t:TT):Prop:=
 ∀(whole:Sem Value)(pins:List (Addr×Obj))(s:Shared)(σ:St)(H:Hp)(Q:Bool->Hp->Prop),Inv X pins σ H s->t σ H Q->wpAny (model X.prog X.w) X.A (isTrue e X.env whole) (TP X pins σ Q) X.xe s
theorem PW.pt{t:TT}(h:PW X e t):PT X e t:=h _
def PA(X:Cx)(es:List Expr)(t:TA):Prop:=
 ∀(pos:Pos)(pins:List (Addr×Obj))(s:Shared)(σ:St)(H:Hp)(Q:List V->Hp->Prop),Inv X pins σ H s->t σ H Q->wpAny (model X.prog X.w) X.A (spliced (backTo pos (starEach es X.env))) (AP X pins σ Q) X.xe s
def PS(X:Cx)(st:Stmt)(t:TS):Prop:=
 ∀(pins:List (Addr×Obj))(s:Shared)(σ:St)(H:Hp)(D:Ends),Inv X pins σ H s->t D σ H->wpAny (model X.prog X.w) X.A (exec st X.env) (SP X pins D) X.xe s
def PSs(X:Cx)(st:List Stmt)(t:TS):Prop:=
 ∀(pins:List (Addr×Obj))(s:Shared)(σ:St)(H:Hp)(D:Ends),Inv X pins σ H s->t D σ H->wpAny (model X.prog X.w) X.A (execs st X.env) (SP X pins D) X.xe s
theorem thn{α:Type}{t:Sem α}{Q Q':α->Shared->Prop}{M:Model}{E:Value->Shared->Prop}(h:wpAny M A t Q E s)(hQ:∀a s,Q a s->Q' a s):wpAny M A t Q' E s:=Zk h hQ λ_ _ x=>x
section
variable{X:Cx}
noncomputable def Dt(i:Nat):TE:=λσ H Q=>∃v,σ[i]?=some (some v)/\Q v H
noncomputable def tC(v:V):TE:=λ_ H Q=>Q v H
theorem Be(hN:X.N[i]?=some x)(hv:Vis X.env.scope x)(hd:autoParam ((x == ("__debug__":Str))=false) zz2._auto_1)(hcd:autoParam ((x == ("__classdict__":Str))=false) zz2._auto_1):PE X (.Name x pos) (Dt i):=by
 intro pins s σ H Q I h;obtain⟨v,e,h⟩:=h;obtain⟨m,hn,hl⟩:=I.loc;obtain⟨u,r,l⟩:=hl i x v hN e hv;have fin:EP X pins σ Q u s:=⟨v,H,I,r,h⟩;rcases l with⟨hk,hm⟩|⟨hk,c,hc,hcell⟩
 .exact wpAny_Name (wpAny_loadName_local I.ok.kind hk hn hm fin) hd
 .rcases hk with hk|hk
  .exact wpAny_Name (wpAny_loadName_cell I.ok.kind hk hc hcell fin) hd
  .exact wpAny_Name (wpAny_loadName_free I.ok.kind hk hc hcell fin hcd) hd
theorem Bf{i j pos}:PE X (.Constant (.int i) j pos) (tC (.int i)):=λ_ _ _ H _ I h=>wpAny_Constant_int ⟨.int i,H,I.tok _,⟨_,rfl⟩,h⟩
theorem Du{b j pos}:PE X (.Constant (.bool b) j pos) (tC (.bl b)):=λ_ _ _ H _ I h=>Constant_bool ⟨.bl b,H,I,rfl,h⟩
theorem Bg{j pos}:PE X (.Constant .none j pos) (tC .non):=λ_ _ _ H _ I h=>Constant_none ⟨.non,H,I,rfl,h⟩
theorem Bh{x j pos}:PE X (.Constant (.str x) j pos) (tC (.str x)):=λ_ _ _ H _ I h=>Calls.Constant_str ⟨.str x,H,I.tok _,⟨_,rfl⟩,h⟩
def Gl(X:Cx)(x:Str):Prop:=X.env.kindOf x=some .globalImplicit
theorem je{E:Value->Shared->Prop}{pos:Pos}{Q:Value->Shared->Prop}(I:Inv X pins σ H s)(hg:Gl X x)(hm:X.mg x=some u)(h:Q u s)
  (hd:autoParam ((x == ("__debug__":Str))=false) zz2._auto_1):wpAny (model X.prog X.w) X.A (eval (.Name x pos) X.env) Q E s:=
 Calls.Name_function_global I.ok.kind hg (Calls.loadGlobal_global (by rw[I.ok.glob];exact I.mod.glob.keeps I.bk) hm h) hd
theorem jV{E:Value->Shared->Prop}{pos:Pos}{Q:Value->Shared->Prop}(I:Inv X pins σ H s)(hg:Gl X x)(hm:X.mg x=none)(hv:bootBuiltins x=some u)(h:Q u s)
  (hn:autoParam (x ≠ "__name__") zz2._auto_1) (hd:autoParam ((x == ("__debug__":Str))=false) zz2._auto_1):wpAny (model X.prog X.w) X.A (eval (.Name x pos) X.env) Q E s:=by
 obtain⟨mb,h1,h2⟩:=I.mod.blt
 exact Calls.Name_function_global I.ok.kind hg (Calls.loadGlobal_builtin (by rw[I.ok.glob];exact I.mod.glob.keeps I.bk) hm (by rw[I.ok.blt];exact h1.keeps I.bk) ((h2 x hn).trans hv) h) hd
theorem nY{v:V}(hg:Gl X x)(hm:X.mg x=some u)(r:RelV v u)(hd:autoParam ((x == ("__debug__":Str))=false) zz2._auto_1):PE X (.Name x pos) (tC v):=
 λ_ _ _ H _ I h=>je I hg hm ⟨v,H,I,r,h⟩ hd
theorem yO{v:V}(hg:Gl X x)(hm:X.mg x=none)(hv:bootBuiltins x=some u)(r:RelV v u)(hn:autoParam (x ≠ "__name__") zz2._auto_1)(hd:autoParam ((x == ("__debug__":Str))=false) zz2._auto_1):PE X (.Name x pos) (tC v):=
 λ_ _ _ H _ I h=>jV I hg hm hv ⟨v,H,I,r,h⟩ hn hd
variable{a b:Expr}{ta tb:TE}{pos:Pos}
noncomputable def tB(t:TE):TT:=λσ H Q=>t σ H λx H1=>∃c,x=.bl c/\Q c H1
theorem Bi{t:TE}(h:PE X e t)(he:autoParam (∀whole,isTrue e X.env whole=(do let v <- whole;standAt e.pos;holding [v] (truthy v))) zz5._auto_1):PT X e (tB t):=by intro pins s σ H Q I hw;refine isTrue_plain (thn (h pins s σ H _ I hw) λv s1 zq=>?_) (he _);obtain⟨x,H1,I1,r1,q1⟩:=zq;obtain⟨d,rfl,q⟩:=q1;cases r1;exact Wr ⟨H1,I1,q⟩
variable{tA tB':TT}{rest:List Expr}
noncomputable def iP(t u:TT):TT:=λσ H Q=>t σ H λc H1=>if c=true then u σ H1 Q else Q false H1
noncomputable def tOr(t u:TT):TT:=λσ H Q=>t σ H λc H1=>if c=true then Q true H1 else u σ H1 Q
noncomputable def cS(t:TT):TT:=λσ H Q=>t σ H λc H1=>Q (!c) H1
theorem yP(ha:PT X a tA):PW X (.BoolOp .And [a] pos) tA:=by
 intro wh pins s σ H Q I h;refine isTrue_and (thn (ha pins s σ H Q I h) λc s1 e=>?_);cases c with
 |true=>exact isTrue_and_nil e
 |false=>exact e
theorem Bj(ha:PT X a tA):PW X (.BoolOp .Or [a] pos) tA:=by
 intro wh pins s σ H Q I h;refine isTrue_or (thn (ha pins s σ H Q I h) λc s1 e=>?_);cases c with
 |false=>exact isTrue_or_nil e
 |true=>exact e
theorem Bk(ha:PT X a tA)(hb:PW X (.BoolOp .And (b::rest) pos) tB'):PW X (.BoolOp .And (a::b::rest) pos) (iP tA tB'):=by
 intro wh pins s σ H Q I h;refine isTrue_and (thn (ha pins s σ H _ I h) λc s1 zq=>?_);obtain⟨H1,I1,q1⟩:=zq;cases c with
 |true=>exact hb wh pins s1 σ H1 Q I1 q1
 |false=>exact⟨H1,I1,q1⟩
theorem Dv(ha:PT X a tA)(hb:PW X (.BoolOp .Or (b::rest) pos) tB'):PW X (.BoolOp .Or (a::b::rest) pos) (tOr tA tB'):=by
 intro wh pins s σ H Q I h;refine isTrue_or (thn (ha pins s σ H _ I h) λc s1 zq=>?_);obtain⟨H1,I1,q1⟩:=zq;cases c with
 |true=>exact⟨H1,I1,q1⟩
 |false=>exact hb wh pins s1 σ H1 Q I1 q1
theorem Bl(ha:PT X a tA):PT X (.UnaryOp .Not a pos) (cS tA):=by intro pins s σ H Q I h;exact isTrue_not (ha pins s σ H (λc H1=>Q (!c) H1) I h)
noncomputable def Dw(ta tb:TE):TE:=λσ H Q=>ta σ H λx H1=>∃c,x=.bl c/\if c=true then tb σ H1 Q else Q (.bl false) H1
noncomputable def Dx(ta:TE):TE:=λσ H Q=>ta σ H λx H1=>∃c,x=.bl c/\Q (.bl (!c)) H1
theorem Bm{op}{t:TE}(h:PE X a t):PE X (.BoolOp op [a] pos) t:=λpins s σ H Q I hw=>BoolOp_one (h pins s σ H Q I hw)
theorem Bn(ha:PE X a ta)(hb:PE X (.BoolOp .And (b::rest) pos) tb):PE X (.BoolOp .And (a::b::rest) pos) (Dw ta tb):=by
 intro pins s σ H Q I h;refine BoolOp_and (thn (ha pins s σ H _ I h) λv s1 zq=>?_);obtain⟨x,H1,I1,r1,q1⟩:=zq;obtain⟨c,rfl,q1⟩:=q1;cases r1;refine Wr ?_;cases c with
 |true=>exact hb pins s1 σ H1 Q I1 q1
 |false=>exact⟨.bl false,H1,I1,rfl,q1⟩
theorem Bo(ha:PE X a ta):PE X (.UnaryOp .Not a pos) (Dx ta):=by intro pins s σ H Q I h;refine UnaryOp_ (thn (ha pins s σ H _ I h) λv s1 zq=>?_);obtain⟨x,H1,I1,r1,q1⟩:=zq;obtain⟨c,rfl,q1⟩:=q1;cases r1;exact not_of (Wr ⟨.bl (!c),H1,I1,rfl,q1⟩)
noncomputable def tIf(t:TT)(ta tb:TE):TE:=λσ H Q=>t σ H λc H1=>if c=true then ta σ H1 Q else tb σ H1 Q
theorem wm{c:Expr}(hc:PT X c tA)(ha:PE X a ta)(hb:PE X b tb):PE X (.IfExp c a b pos) (tIf tA ta tb):=by
 intro pins s σ H Q I h;refine wpAny_IfExp (thn (hc pins s σ H _ I h) λd s1 zq=>?_);obtain⟨H1,I1,q1⟩:=zq;cases d with
 |true=>exact ha pins s1 σ H1 Q I1 q1
 |false=>exact hb pins s1 σ H1 Q I1 q1
end
def SqL(K:Frag)(H:Hp)(a:Addr)(xs:List V):Prop:=
 Rd H a (.lst xs) \/
  ∃(o:Obj)(its:Array Value)(n:Nat),K.lookup a=some o/\o.cls=.type "list"/\o.dict=none/\o.data=.seq its n/\its.size<=sizeLine/\Vals xs its.toList
def SqT(K:Frag)(H:Hp)(a:Addr)(xs:List V):Prop:=
 Rd H a (.tup xs) \/
  ∃(o:Obj)(its:Array Value)(n:Nat),K.lookup a=some o/\o.cls=.type "tuple"/\o.data=.seq its n/\its.size<=sizeLine/\Vals xs its.toList
noncomputable def Ez:Value->Option V
 |.none=>some .non
 |.bool b=>some (.bl b)
 |.int i _=>some (.int i)
 |.str x _=>some (.str x)
 |.bytes b _=>some (.byt b)
 |.float b _=>some (.flt b)
 |.ref a=>some (.ref a)
 |.type n=>some (.ty n)
 |_=>none
theorem RelV.abs{x:V}(r:RelV x u):Ez u=some x:=by
 cases x with
 |non=>cases r;rfl
 |bl _=>cases r;rfl
 |int _=>obtain⟨t,rfl⟩:=r;rfl
 |str _=>obtain⟨t,rfl⟩:=r;rfl
 |byt _=>obtain⟨t,rfl⟩:=r;rfl
 |flt _=>obtain⟨t,rfl⟩:=r;rfl
 |ref _=>cases r;rfl
 |ty _=>cases r;rfl
theorem RelV.inj{x y:V}(r:RelV x u)(q:RelV y u):x=y:=Yk (r.abs.symm.trans q.abs)
theorem Vals.inj:∀{xs ys:List V}{us:List Value},Vals xs us->Vals ys us->xs=ys
 |_,_,_,.nil,.nil=>rfl
 |_,_,_,.cons r t,.cons r' t'=>by rw[r.inj r',Vals.inj t t']
section
variable{X:Cx}{pins:List (Addr×Obj)}{σ:St}{H:Hp}{s:Shared}{a:Addr}{xs ys:List V}
theorem SqL.of{K:Frag}(h:H a=some (.lst xs)):SqL K H a xs:=.inl (.inl h)
theorem SqT.of{K:Frag}(h:H a=some (.tup xs)):SqT K H a xs:=.inl (.inl h)
theorem Inv.list(I:Inv X pins σ H s)(h:SqL X.K H a xs):∃its:List Value,Vals xs its/\PlainL s.heap a its.toArray/\xs.length<=sizeLine:=by
 rcases h with h|⟨o,its,n,hk,hc,hd,hs,hz,r⟩
 .obtain⟨z,its,n,r,e⟩:=h.ok I.hok;exact⟨its,r,⟨_,n,e,rfl,rfl,rfl⟩,z⟩
 .refine⟨its.toList,r,⟨o,n,I.kIn a o hk,hc,hd,by simpa using hs⟩,?_⟩
  have e:=r.length;simp only[Jz]at e;omega
theorem Inv.tuple(I:Inv X pins σ H s)(h:SqT X.K H a xs):∃its:List Value,Vals xs its/\IsTup s.heap a its.toArray/\xs.length<=sizeLine:=by
 rcases h with h|⟨o,its,n,hk,hc,hs,hz,r⟩
 .obtain⟨z,its,r,p⟩:=h.ok I.hok;exact⟨its,r,p,z⟩
 .refine⟨its.toList,r,⟨o,I.kIn a o hk,hc,n,by simpa using hs⟩,?_⟩
  have e:=r.length;simp only[Jz]at e;omega
theorem Inv.list_inj(I:Inv X pins σ H s)(h:SqL X.K H a xs)(h':SqL X.K H a ys):xs=ys:=by
 obtain⟨its,r,⟨o,n,e,_,_,d⟩,_⟩:=I.list h;obtain⟨its',r',⟨o',n',e',_,_,d'⟩,_⟩:=I.list h';rw[e]at e';cases e';rw[d]at d';injection d' with d1 _
 have:its=its':=by simpa using Q7 Array.toList d1
 subst this;exact r.inj r'
theorem Inv.tuple_inj(I:Inv X pins σ H s)(h:SqT X.K H a xs)(h':SqT X.K H a ys):xs=ys:=by
 obtain⟨its,r,⟨o,e,_,n,d⟩,_⟩:=I.tuple h;obtain⟨its',r',⟨o',e',_,n',d'⟩,_⟩:=I.tuple h';rw[e]at e';cases e';rw[d]at d';injection d' with d1 _
 have:its=its':=by simpa using Q7 Array.toList d1
 subst this;exact r.inj r'
end
noncomputable abbrev Cx.wish(X:Cx)(E:Value->Shared->Prop):Cx:={ X with xe:=E }
noncomputable abbrev Cx.nox(X:Cx):Cx:=X.wish λ_ _=>False
theorem Cx.Ok.wish(ok:X.Ok)(E:Value->Shared->Prop):(X.wish E).Ok:=
 ⟨ok.mod,ok.kind,ok.glob,ok.blt,ok.above,ok.inj,ok.has,ok.cab,ok.hd,ok.frames,ok.stk,ok.exf,ok.bs,ok.bsz,ok.noex,ok.exfs,ok.funs,ok.frf⟩
theorem Cx.Ok.unwish{E:Value->Shared->Prop}(ok:(X.wish E).Ok):X.Ok:=
 ⟨ok.mod,ok.kind,ok.glob,ok.blt,ok.above,ok.inj,ok.has,ok.cab,ok.hd,ok.frames,ok.stk,ok.exf,ok.bs,ok.bsz,ok.noex,ok.exfs,ok.funs,ok.frf⟩
section
variable{X:Cx}{pins:List (Addr×Obj)}{σ:St}{H:Hp}{s:Shared}{E:Value->Shared->Prop}
theorem Inv.wish(I:Inv X pins σ H s)(E:Value->Shared->Prop):Inv (X.wish E) pins σ H s:=⟨I.ok.wish E,I.os,I.bare,I.base,I.loc,I.cell,I.free,I.freeC,I.pin,I.hok,I.len⟩
theorem Inv.unwish(I:Inv (X.wish E) pins σ H s):Inv X pins σ H s:=⟨I.ok.unwish,I.os,I.bare,I.base,I.loc,I.cell,I.free,I.freeC,I.pin,I.hok,I.len⟩
theorem SP.unwish{D:Ends}{f:Flow}{s':Shared}(h:SP (X.wish E) pins D f s'):SP X pins D f s':=by
 cases f with
 |next=>obtain⟨σ',H',I,q⟩:=h;exact⟨σ',H',I.unwish,q⟩
 |brk=>obtain⟨σ',H',I,q⟩:=h;exact⟨σ',H',I.unwish,q⟩
 |cont=>obtain⟨σ',H',I,q⟩:=h;exact⟨σ',H',I.unwish,q⟩
 |ret u=>obtain⟨v,σ',H',I,r,q⟩:=h;exact⟨v,σ',H',I.unwish,r,q⟩
theorem PT.nox{t:TT}(h:PT X.nox e t):PT X e t:=λpins s σ H Q I hw=>
 Zk (h pins s σ H Q (I.wish _) hw) (λ_ _ ⟨H',I',q⟩=>⟨H',I'.unwish,q⟩) λ_ _ z=>False.elim z
theorem PSs.nox{st:List Stmt}{t:TS}(h:PSs X.nox st t):PSs X st t:=λpins s σ H D I hw=>
 Zk (h pins s σ H D (I.wish _) hw) (λ_ _ q=>q.unwish) λ_ _ z=>False.elim z
end
section
variable{X:Cx}{st:Stmt}{rest:List Stmt}{t u:TS}{e:Expr}{te:TE}{pos:Pos}
noncomputable def Dy:TS:=λD σ H=>D.nx σ H
noncomputable def EA(t u:TS):TS:=λD σ H=>t { D with nx:=u D } σ H
theorem tf:PSs X [] Dy:=λ_ _ σ H _ I h=>wpAny_execs_nil ⟨σ,H,I,h⟩
theorem wo(h1:PS X st t)(h2:PSs X rest u):PSs X (st::rest) (EA t u):=by
 intro pins s σ H D I h
 refine wpAny_execs_cons (thn (h1 pins s σ H { D with nx:=u D } I h) λf s1 q=>?_)
 cases f with
 |next=>
  obtain⟨σ',H',I',q⟩:=q;exact h2 pins s1 σ' H' D I' q
 |ret v=>exact q
 |brk=>exact q
 |cont=>exact q
theorem yQ(h1:PS X st t):PSs X [st] t:=by
 intro pins s σ H D I h;refine wpAny_execs_cons (thn (h1 pins s σ H D I h) λf s1 q=>?_);cases f with
 |next=>exact wpAny_execs_nil q
 |ret v=>exact q
 |brk=>exact q
 |cont=>exact q
theorem Inv.quiet(I:Inv X pins σ H s):interactive X.env=false:=by simp[interactive,I.ok.kind]
noncomputable def Dz(te:TE):TS:=λD σ H=>te σ H λ_ H1=>D.nx σ H1
theorem yR(he:PE X e te)(hs:autoParam (swapsWith e none pos.line X.env=pure false) zz1._auto_1):PS X (.Expr e pos) (Dz te):=by intro pins s σ H D I h;exact wpAny_Expr_any (thn (he pins s σ H _ I h) λv s1 zq=>ex5 zq λx H1 I1 r1 q1=>⟨σ,H1,I1,q1⟩) I.quiet hs
noncomputable def EB(te:TE):TS:=λD σ H=>te σ H D.rt
theorem Bp(he:PE X e te):PS X (.Return (some e) pos) (EB te):=by intro pins s σ H D I h;exact wpAny_Return_some (thn (he pins s σ H _ I h) λv s1 zq=>ex5 zq λx H1 I1 r1 q1=>⟨x,σ,H1,I1,r1,q1⟩)
noncomputable def EC(c:TT)(t u:TS):TS:=λD σ H=>c σ H λb H1=>if b=true then t D σ H1 else u D σ H1
theorem DA{c:Expr}{a b:List Stmt}{tc:TT}(hc:PT X c tc)(ha:PSs X a t)(hb:PSs X b u):PS X (.If c a b pos) (EC tc t u):=by
 intro pins s σ H D I h;refine wpAny_If (thn (hc pins s σ H _ I h) λd s1 zq=>?_);obtain⟨H1,I1,q1⟩:=zq;cases d with
 |true=>exact ha pins s1 σ H1 D I1 q1
 |false=>exact hb pins s1 σ H1 D I1 q1
end
noncomputable abbrev TG:=V->St->Hp->(St->Hp->Prop)->Prop
noncomputable abbrev TGs:=List V->St->Hp->(St->Hp->Prop)->Prop
def PG(X:Cx)(target:Expr)(t:TG):Prop:=
 ∀(pins:List (Addr×Obj))(s:Shared)(σ:St)(H:Hp)(v:V)(u:Value)(Q:St->Hp->Prop),Inv X pins σ H s->RelV v u->t v σ H Q->
  wpAny (model X.prog X.w) X.A (assign target X.env u) (λ_ s'=>∃σ' H',Inv X pins σ' H' s'/\Q σ' H') X.xe s
def PGs(X:Cx)(ts:List Expr)(t:TGs):Prop:=
 ∀(pins:List (Addr×Obj))(s:Shared)(σ:St)(H:Hp)(vs:List V)(us:List Value)(Q:St->Hp->Prop),Inv X pins σ H s->Vals vs us->t vs σ H Q->
  wpAny (model X.prog X.w) X.A (assignInOrder ((assignEach ts X.env).map (·.2)) us) (λ_ s'=>∃σ' H',Inv X pins σ' H' s'/\Q σ' H') X.xe s
noncomputable abbrev yS:=V->V->V->Hp->(Hp->Prop)->Prop
def nZ(X:Cx)(t:yS):Prop:=
 ∀(pins:List (Addr×Obj))(s:Shared)(σ:St)(H:Hp)(o i v:V)(ov iv u:Value)(Q:Hp->Prop),Inv X pins σ H s->RelV o ov->RelV i iv->RelV v u->t o i v H Q->
  wpAny (model X.prog X.w) X.A (setItem ov iv u) (λ_ s'=>∃H',Inv X pins σ H' s'/\Q H') X.xe s
section
variable{X:Cx}{pos:Pos}
noncomputable def AL(i:Nat):TG:=λv σ H Q=>Q (σ.set i (some v)) H
theorem yT(hN:X.N.Nodup)(hi:X.N[i]?=some x)(hx:Loc X.env.scope x)(hf:X.fn x=true\/X.env.scope.names.lookup x=some .local):PG X (.Name x pos) (AL i):=by intro pins s σ H v u Q I r h;exact wpAny_assign_Name (kW I hN hi hx r (λs' I'=>⟨_,H,I',h⟩) hf)
noncomputable def ED:TGs:=λvs σ H Q=>vs=[]/\Q σ H
noncomputable def DB(t:TG)(u:TGs):TGs:=λvs σ H Q=>∃v r,vs=v::r/\t v σ H λσ' H'=>u r σ' H' Q
theorem yU:PGs X [] ED:=by intro pins s σ H vs us Q I r h;obtain⟨e,h⟩:=h;subst e;cases r;exact assignInOrder_nil ⟨σ,H,I,h⟩
theorem wq{es:List Expr}{t:TG}{u:TGs}(h1:PG X e t)(h2:PGs X es u)
  (hs:autoParam ((assignEach (e::es) X.env).map (·.2)=assign e X.env::(assignEach es X.env).map (·.2)) zz1._auto_1):PGs X (e::es) (DB t u):=by
 intro pins s σ H vs us Q I r h;obtain⟨v,vr,e1,h⟩:=h;subst e1;cases r with
 |cons r rr=>
  rw[hs];refine assignInOrder_cons (thn (h1 pins s σ H _ _ _ I r h) λ_ s1 zq=>?_);obtain⟨σ1,H1,I1,q1⟩:=zq;exact h2 pins s1 σ1 H1 _ _ Q I1 rr q1
noncomputable def EE(K:Frag)(n:Nat)(t:TGs):TG:=λv σ H Q=>∃a xs,v=.ref a/\SqT K H a xs/\xs.length=n/\t xs σ H Q
theorem Bq{es:List Expr}{k:Nat}{t:TGs}{n:Nat}(hc:X.calm=true)(h:PGs X es t)
  (hn:autoParam ((assignEach es X.env).length=n) zz1._auto_1) (hst:autoParam ((assignEach es X.env).findIdx? (·.1)=none) zz1._auto_1):PG X (.Tuple es k pos) (EE X.K n t):=by
 intro pins s σ H v u Q I r hw;obtain⟨a,xs,e1,hq,hl,hw⟩:=hw;subst e1;cases r;obtain⟨its,rv,ht,hz⟩:=I.tuple hq
 refine assign_Tuple_tuple (I.ok.hd hc) ht (by simp[hn,<- hl,rv.length]) hst λh' hx=>?_
 have I1:Inv X pins σ H { s with heap:=h' }:=I.kept (t':=s.toks) λb o e=>hx b o (Ju (Jn e)) e
 exact h pins _ σ H xs _ Q I1 (by simpa using rv) hw
noncomputable def EF(to ti:TE)(t:yS):TG:=λv σ H Q=>to σ H λo H1=>ti σ H1 λi H2=>t o i v H2 λH3=>Q σ H3
theorem Br{o i:Expr}{to ti:TE}{t:yS}(ho:PE X o to)(hi:PE X i ti)(hs:nZ X t)
  (ha:autoParam (∀v,assign (.Subscript o i pos) X.env v=(do
   let ov <- holding [v] (eval o X.env)
   let iv <- holding [v,ov] (eval i X.env)
   standAt pos
   holding [v,ov,iv] (setItem ov iv v)
   release [v,ov,iv] [])) zz5._auto_1):PG X (.Subscript o i pos) (EF to ti t):=by
 intro pins s σ H v u Q I r h;rw[ha];refine J9 (Yi (thn (ho pins s σ H _ I h) λov s1 zq=>?_));obtain⟨x,H1,I1,r1,q1⟩:=zq;refine J9 (Yi (thn (hi pins s1 σ H1 _ I1 q1) λiv s2 zq=>?_));obtain⟨y,H2,I2,r2,q2⟩:=zq;refine J9 (wpAny_standAt (J9 (Yi (thn (hs pins s2 σ H2 x y v ov iv u _ I2 r1 r2 r q2) λ_ s3 zq=>?_))));obtain⟨H3,I3,q3⟩:=zq;exact wpAny_release ⟨σ,H3,I3,q3⟩
noncomputable def DC(te:TE)(g:TG):TS:=λD σ H=>te σ H λx H1=>g x σ H1 D.nx
theorem wt{te:TE}{g:TG}(he:PE X e te)(hg:PG X tg g)(hs:autoParam (swapsWithSole [tg] e pos.line X.env=pure false) zz1._auto_1)(hw:autoParam (swappedStores [tg] e X.env=pure none) zz1._auto_1)
  (h1:autoParam ((assignEach [tg] X.env).map (·.2)=[assign tg X.env]) zz1._auto_1):PS X (.Assign [tg] e pos) (DC te g):=by
 intro pins s σ H D I h;refine wpAny_Assign_stores (thn (he pins s σ H _ I h) λv s1 zq=>?_) hs hw;obtain⟨x,H1,I1,r1,q1⟩:=zq;rw[h1];exact thn (hg pins s1 σ H1 x v _ I1 r1 q1) λ_ s2 q=>q
theorem Bt{te:TE}{pos':Pos}(hN:X.N.Nodup)(hi:X.N[i]?=some x)(hx:Loc X.env.scope x)(he:PE X e te)(hs:autoParam (swapsWith e (some (.Name x pos')) pos.line X.env=pure false) zz1._auto_1)(hf:X.fn x=true\/X.env.scope.names.lookup x=some .local):
  PS X (.Assign [.Name x pos'] e pos) (DC te (AL i)):=by
 intro pins s σ H D I h;refine wpAny_Assign_Name (thn (he pins s σ H _ I h) λv s1 zq=>?_) hs;obtain⟨y,H1,I1,r1,q1⟩:=zq;exact kW I1 hN hi hx r1 (λs2 I2=>⟨_,H1,I2,q1⟩) hf
end
set_option genInjectivity false in
structure It where
 go:Nat->Hp->Prop
 yld:Nat->Hp->V->Hp->Prop
 stop:Nat->Hp->Prop
def FpOk(X:Cx)(pins:List (Addr×Obj))(H:Hp)(b:Addr):Prop:=
 H b=none/\b≠X.env.locals/\b∉X.fs/\(b∈X.ex\/X.s₀.heap.objs.size<=b)/\(∀x c,X.env.cells.lookup x=some c->c≠b)/\∀p∈X.pn++pins,p.1≠b
theorem Inv.fpOk{H':Hp}(I:Inv X pins σ H s)(hb:s.heap.objs.size<=b)(hn:H' b=none):FpOk X pins H' b:=by
 refine⟨hn,Qg (Y1 I.lt hb),I.nofs hb,.inr (Ys I.sz hb),λx c e z=>?_,λp hp z=>?_⟩
 .obtain⟨v,q⟩:=I.cell x c e
  exact absurd (Y1 q.lt (by rw[z];exact hb)) (Wn _)
 .exact absurd (Y1 (Jn (I.pin p hp).1) (by rw[z];exact hb)) (Wn _)
def QtH(X:Cx):Prop:=X.A.handled=none \/ ∃a o u,X.A.handled=some (.ref a)/\X.H₀ a=some (.frz o u)/\ZO o
def Cd(qb:Bool)(X:Cx):Prop:=X.calm=true\/(qb=true/\QtH X)
theorem Cd.cm(h:Cd false X):X.calm=true:=h.elim id λz=>nomatch z.1
theorem Inv.qt{σ:List (Option V)}(I:Inv X pins σ H s)(h:Cd qb X):X.A.handled=none \/ ∃a,X.A.handled=some (.ref a)/\s.heap.Zat a:=by
 rcases h with h|⟨_,h|⟨a,o,u,e,q,z⟩⟩
 .exact .inl (I.ok.hd h)
 .exact .inl h
 .exact .inr ⟨a,e,o,(I.hok a _ (I.base.frzs a o u q)).1,z⟩
structure Turn(qb:Bool)(P:Program)(w:World)(K:Frag)(tg:Expr)(J:It)(fp:List Addr)(it:Addr)(tn:Nat->Heap->Prop):Prop where
 mem:it∈fp
 obj:∀i h,tn i h->∀b∈fp,∃o,h.get? b=some o/\∀v,o.data≠.cell v
 keep:∀i h h',tn i h->(∀b∈fp,∀o,h.get? b=some o->h'.get? b=some o)->tn i h'
 item:∀(X:Cx),X.prog=P->X.w=w->X.K=K->Cd qb X->∀(i:Nat)(pins:List (Addr×Obj))(s:Shared)(σ:St)(H:Hp)(E:Value->Shared->Prop),Inv X pins σ H s->(∀b∈fp,FpOk X pins H b)->tn i s.heap->J.go i H->
  wpAny (model P w) X.A (pyNext (.ref it)) (λr s1=>∃u,r=some u/\
   wpAny (model P w) X.A (letOwnedTupleGo tg (.ref it) u) (λ_ s2=>∃x H',Inv X pins σ H' s2/\RelV x u/\J.yld i H x H'/\tn (i+1) s2.heap/\∀b∈fp,H' b=none) E s1) E s
 done:∀(X:Cx),X.prog=P->X.w=w->X.K=K->Cd qb X->∀(i:Nat)(pins:List (Addr×Obj))(s:Shared)(σ:St)(H:Hp)(E:Value->Shared->Prop),Inv X pins σ H s->(∀b∈fp,FpOk X pins H b)->tn i s.heap->J.stop i H->
  wpAny (model P w) X.A (pyNext (.ref it)) (λr s1=>r=none/\Inv X pins σ H s1) E s
 self:∀(A:Around)(i:Nat)(s:Shared)(Q:Value->Shared->Prop)(E:Value->Shared->Prop),tn i s.heap->Q (.ref it) s->wpAny (model P w) A (pyIter (.ref it)) Q E s
noncomputable abbrev TI:=St->Hp->(It->Hp->Prop)->Prop
def Bu(qb:Bool)(X:Cx)(pins:List (Addr×Obj))(σ:St)(tg:Expr)(R:It->Hp->Prop)(itv:Value)(s2:Shared):Prop:=
 ∃(it:Addr)(fp:List Addr)(tn:Nat->Heap->Prop)(J:It)(H':Hp),itv=.ref it/\Inv X pins σ H' s2/\Turn qb X.prog X.w X.K tg J fp it tn/\tn 0 s2.heap/\(∀b∈fp,FpOk X pins H' b)/\R J H'
def PIb(qb:Bool)(X:Cx)(tg iter:Expr)(wi:TI):Prop:=
 ∀(pins:List (Addr×Obj))(s:Shared)(σ:St)(H:Hp)(R:It->Hp->Prop),Inv X pins σ H s->wi σ H R->
  wpAny (model X.prog X.w) X.A (eval iter X.env) (λv s1=>wpAny (model X.prog X.w) X.A (pyIter v) (Bu qb X pins σ tg R) X.xe s1) X.xe s
noncomputable abbrev PIE:=Bu false
noncomputable abbrev PI:=PIb false
theorem wx{M:Model}{A:Around}{E:Value->Shared->Prop}{tg:Expr}{it:Addr}{u:Value}{o:Obj}{n:String}{vs:Array Value}{Q:Unit->Shared->Prop}(ho:s.heap.get? it=some o)(hc:o.cls=.type n)(hd:o.data=.fields vs)
    (hn:["enumerate","zip","dict_itemiterator","dict_reverseitemiterator","odict_iterator","itertools.zip_longest","itertools.pairwise"].contains n=false) (hQ:Q () s):wpAny M A (letOwnedTupleGo tg (.ref it) u) Q E s:=by
  unfold letOwnedTupleGo
  cases tg<;>first
    |exact Ja hQ
    | (cases u<;>first
        |exact Ja hQ
        | (refine J9 (wpAny_load ho ?_)
           rw[hc,hd]
           show wpAny M A (if (["enumerate","zip","dict_itemiterator","dict_reverseitemiterator","odict_iterator","itertools.zip_longest","itertools.pairwise"].contains n&&vs[0]? == some (rawInt _))=true then _ else _) Q E s
           rw[Ji (by intro h;rw[hn,Z2]at h;cases h)]
           exact Ja hQ))
noncomputable def Itl(K:Frag)(a:Addr):It:=
 ⟨λi H=>∃xs x,SqL K H a xs/\xs[i]?=some x,λi H x H'=>H'=H/\∀xs,SqL K H a xs->xs[i]?=some x,λi H=>∃xs,SqL K H a xs/\xs.length<=i⟩
noncomputable def Itt(K:Frag)(a:Addr):It:=
 ⟨λi H=>∃xs x,SqT K H a xs/\xs[i]?=some x,λi H x H'=>H'=H/\∀xs,SqT K H a xs->xs[i]?=some x,λi H=>∃xs,SqT K H a xs/\xs.length<=i⟩
noncomputable def Itr(lo:Int)(n:Nat):It:=⟨λi _=>i<n,λi H x H'=>H'=H/\x=.int (lo+i),λi _=>n<=i⟩
theorem m7{K:Frag}(a it:Addr):Turn false P w K tg (Itl K a) [it] it (λi h=>h.IsListIter it a i) where
 mem:=by simp
 obj:=λi h st b hb=>by
  have e:b=it:=by simpa using hb
  subst e;obtain⟨o,e,c,d⟩:=st
  exact⟨o,e,λv z=>by rw[d]at z;cases z⟩
 keep:=λi h h' st k=>st.at λo e=>k it (by simp) o e
 item:=by
  intro X hP hw hK hc i pins s σ H E I hf st hg;subst hP hw hK;obtain⟨xs,x,hq,hx⟩:=hg;obtain⟨its,rv,p,hz⟩:=I.list hq;obtain⟨u,hu,ru⟩:=rv.get hx
  obtain⟨f0,f1,f2,f3,f4,f5⟩:=hf it (by simp)
  refine Vq st p.isList (x:=u) (by simpa using hu) λh' st' sb=>?_
  have I1:Inv X pins σ H { s with heap:=h' }:=I.turned (t':=s.toks) (λb o hb e=>(sb.2 b hb).trans e) f0 f1 f3 f4 f5
  obtain⟨o,e,c,d⟩:=id st'
  exact⟨u,rfl,wx (s:={ s with heap:=h' }) e c d (by decide) ⟨x,H,I1,ru,⟨rfl,λys hy=>by rw[I.list_inj hy hq];exact hx⟩,st',λb hb=>(hf b hb).1⟩⟩
 done:=by
  intro X hP hw hK hc i pins s σ H E I hf st hg;subst hP hw hK;obtain⟨xs,hq,hx⟩:=hg;obtain⟨its,rv,p,hz⟩:=I.list hq
  obtain⟨f0,f1,f2,f3,f4,f5⟩:=hf it (by simp)
  have hl:=rv.length
  exact Vz (I.ok.hd hc.cm) st p.isList (by simp;omega) λh' eb=>⟨rfl,I.turned (t':=s.toks) (λb o hb e=>eb b o hb e) f0 f1 f3 f4 f5⟩
 self:=λ_ _ _ _ _ st h=>wpAny_pyIter_listiter st h
theorem rF{K:Frag}(a it:Addr):Turn false P w K tg (Itt K a) [it] it (λi h=>h.IsTupleIter it a i) where
 mem:=by simp
 obj:=λi h st b hb=>by
  have e:b=it:=by simpa using hb
  subst e;obtain⟨o,e,c,d⟩:=st
  exact⟨o,e,λv z=>by rw[d]at z;cases z⟩
 keep:=λi h h' st k=>st.at λo e=>k it (by simp) o e
 item:=by
  intro X hP hw hK hc i pins s σ H E I hf st hg;subst hP hw hK;obtain⟨xs,x,hq,hx⟩:=hg;obtain⟨its,rv,p,hz⟩:=I.tuple hq;obtain⟨u,hu,ru⟩:=rv.get hx
  obtain⟨f0,f1,f2,f3,f4,f5⟩:=hf it (by simp)
  refine wpAny_pyNext_tuple_item st (show s.heap.IsTuple a its.toArray from p) (x:=u) (by simpa using hu) λh' st' sb=>?_
  have I1:Inv X pins σ H { s with heap:=h' }:=I.turned (t':=s.toks) (λb o hb e=>(sb.2 b hb).trans e) f0 f1 f3 f4 f5
  obtain⟨o,e,c,d⟩:=id st'
  exact⟨u,rfl,wx (s:={ s with heap:=h' }) e c d (by decide) ⟨x,H,I1,ru,⟨rfl,λys hy=>by rw[I.tuple_inj hy hq];exact hx⟩,st',λb hb=>(hf b hb).1⟩⟩
 done:=by
  intro X hP hw hK hc i pins s σ H E I hf st hg;subst hP hw hK;obtain⟨xs,hq,hx⟩:=hg;obtain⟨its,rv,p,hz⟩:=I.tuple hq
  obtain⟨f0,f1,f2,f3,f4,f5⟩:=hf it (by simp)
  have hl:=rv.length
  exact wpAny_pyNext_tuple_end (I.ok.hd hc.cm) st (show s.heap.IsTuple a its.toArray from p) (by simp;omega) λh' eb=>⟨rfl,I.turned (t':=s.toks) (λb o hb e=>eb b o hb e) f0 f1 f3 f4 f5⟩
 self:=λ_ _ _ _ _ st h=>wpAny_pyIter_tupleiter st h
theorem rG{K:Frag}(it:Addr)(lo:Int)(n:Nat):Turn qb P w K tg (Itr lo n) [it] it (λi h=>IsRangeIter h it (lo+(i:Nat)*1) ((n:Int)-(i:Nat)) 1) where
 mem:=by simp
 obj:=λi h st b hb=>by
  have e:b=it:=by simpa using hb
  subst e
  exact⟨_,st,λv z=>by
   have z':Data.fields _=Data.cell v:=z
   cases z'⟩
 keep:=λi h h' st k=>k it (by simp) _ st
 item:=by
  intro X hP hw hK hc i pins s σ H E I hf st hg;subst hP hw hK
  obtain⟨f0,f1,f2,f3,f4,f5⟩:=hf it (by simp)
  have hg':(i:Nat)<n:=hg
  refine wpAny_pyNext_range_item st (by omega) λh' st' kk=>?_
  have I1:Inv X pins σ H { s with heap:=h',toks:=s.toks+1 }:=I.turned (λb o hb e=>(kk.2 b hb).trans e) f0 f1 f3 f4 f5
  have st2:IsRangeIter h' it (lo+((i+1:Nat):Int)*1) ((n:Int)-((i+1:Nat):Int)) 1:=by
   have e1:lo+((i+1:Nat):Int)*1=lo+(i:Nat)*1+1:=by omega
   have e2:(n:Int)-((i+1:Nat):Int)=(n:Int)-(i:Nat)-1:=by omega
   rw[e1,e2];exact st'
  refine⟨_,rfl,wx (s:={ s with heap:=h',toks:=s.toks+1 }) (n:="range_iterator") st2 rfl rfl (by decide) ⟨.int (lo+i),H,I1,⟨s.toks,?_⟩,⟨rfl,rfl⟩,st2,λb hb=>(hf b hb).1⟩⟩
  rw[Int.mul_one]
 done:=by
  intro X hP hw hK hc i pins s σ H E I hf st hg;subst hP hw hK
  obtain⟨f0,f1,f2,f3,f4,f5⟩:=hf it (by simp)
  have hg':n<=i:=hg;rcases I.qt hc with hh|⟨ha,hh,z⟩
  .exact wpAny_pyNext_range_end hh st (by omega) λh' eb=>⟨rfl,I.turned (t':=s.toks) (λb o hb e=>eb b o hb e) f0 f1 f3 f4 f5⟩
  .exact u6 hh z st (by omega) λh' eb=>⟨rfl,I.turned (t':=s.toks) (λb o hb e=>eb b o hb e) f0 f1 f3 f4 f5⟩
 self:=λ_ _ _ _ _ st h=>wpAny_pyIter_rangeiter st h
section
variable{X:Cx}{tg:Expr}
noncomputable def DD(K:Frag)(tl:TE):TI:=λσ H R=>tl σ H λx H1=>∃a,x=.ref a/\(∃xs,SqL K H1 a xs)/\R (Itl K a) H1
noncomputable def EG(K:Frag)(tl:TE):TI:=λσ H R=>tl σ H λx H1=>∃a,x=.ref a/\(∃xs,SqT K H1 a xs)/\R (Itt K a) H1
theorem yV{l:Expr}{tl:TE}(hl:PE X l tl):PI X tg l (DD X.K tl):=by
 intro pins s σ H R I h;refine thn (hl pins s σ H _ I h) λv s1 zq=>?_;obtain⟨x,H1,I1,r1,q1⟩:=zq;obtain⟨a,e,⟨xs,hq⟩,q⟩:=q1;subst e;cases r1;obtain⟨its,rv,p,hz⟩:=I1.list hq;refine Qj p.isList ?_;refine⟨s1.heap.objs.size,[s1.heap.objs.size],_,_,H1,rfl,I1.kept (t':=s1.toks) λb o e=>Jb _ e,m7 a _,⟨_,Jo _ rfl,rfl,rfl⟩,λb hb=>?_,q⟩
 have e:b=s1.heap.objs.size:=by simpa using hb
 subst e;exact I1.fpOk (Jd _) (I1.hok.fresh (Jd _))
theorem Bv{l:Expr}{tl:TE}(hl:PE X l tl):PI X tg l (EG X.K tl):=by
 intro pins s σ H R I h;refine thn (hl pins s σ H _ I h) λv s1 zq=>?_;obtain⟨x,H1,I1,r1,q1⟩:=zq;obtain⟨a,e,⟨xs,hq⟩,q⟩:=q1;subst e;cases r1;obtain⟨its,rv,p,hz⟩:=I1.tuple hq
 refine Ui (show s1.heap.IsTuple a its.toArray from p) ?_
 refine⟨s1.heap.objs.size,[s1.heap.objs.size],_,_,H1,rfl,I1.kept (t':=s1.toks) λb o e=>Jb _ e,rF a _,⟨_,Jo _ rfl,rfl,rfl⟩,λb hb=>?_,q⟩
 have e:b=s1.heap.objs.size:=by simpa using hb
 subst e;exact I1.fpOk (Jd _) (I1.hok.fresh (Jd _))
theorem pE{qb:Bool}{R:It->Hp->Prop}{E:Value->Shared->Prop}{lo hi:Int}{t u v:Tok}{tk:Nat}(I:Inv X pins σ H s)(h1:-(2^62)<=lo)(h2:lo<2^62)(h3:-(2^62)<=hi)(h4:hi<2^62)
  (q:R (Itr lo (hi-lo).toNat) H):wpAny (model X.prog X.w) X.A (pyIter (.ref s.heap.objs.size)) (Bu qb X pins σ tg R) E { s with heap:=s.heap.push { cls:=.type "range",data:=.fields #[.int lo t,.int hi u,.int 1 v] },toks:=tk }:=by
 refine wpAny_pyIter_range (IsRange.new ..) (small_one h1 h2 h3 h4) ?_
 have I1:Inv X pins σ H { s with heap:=s.heap.push { cls:=.type "range",data:=.fields #[.int lo t,.int hi u,.int 1 v] },toks:=tk }:=I.kept λb o e=>Jb _ e
 refine⟨(s.heap.push { cls:=.type "range",data:=.fields #[.int lo t,.int hi u,.int 1 v] }).objs.size,[(s.heap.push { cls:=.type "range",data:=.fields #[.int lo t,.int hi u,.int 1 v] }).objs.size],_,_,H,rfl,
  I1.kept (t':=tk) λb o e=>Jb _ e,rG _ lo (hi-lo).toNat,?_,λb hb=>?_,q⟩
 .have e1:lo+((0:Nat):Int)*1=lo:=by simp
  have e2:(((hi-lo).toNat:Nat):Int)-((0:Nat):Int)=Builtin.Range.rangeSize lo hi 1:=by rw[rangeSize_one];split<;>omega
  show IsRangeIter _ _ (lo+((0:Nat):Int)*1) ((((hi-lo).toNat:Nat):Int)-((0:Nat):Int)) 1;rw[e1,e2];exact Jo _ rfl
 .have e:b=(s.heap.push { cls:=.type "range",data:=.fields #[.int lo t,.int hi u,.int 1 v] }).objs.size:=by simpa using hb
  subst e;exact I1.fpOk (Jd _) (I1.hok.fresh (Jd _))
noncomputable def DE(ta:TA):TI:=λσ H R=>ta σ H λvs H1=>∃j:Int,vs=[.int j]/\-(2^62)<=j/\j<2^62/\R (Itr 0 j.toNat) H1
noncomputable def DF(ta:TA):TI:=λσ H R=>ta σ H λvs H1=>∃i j:Int,vs=[.int i,.int j]/\(-(2^62)<=i/\i<2^62/\-(2^62)<=j/\j<2^62)/\R (Itr i (j-i).toNat) H1
theorem ve{a:Expr}{ta:TA}{p:Pos}(hg:Gl X "range")(hm:X.mg "range" = none)(ha:PA X [a] ta)(hs:autoParam (starEach [a] X.env=[(false,eval a X.env)]) zz1._auto_1):PIb qb X tg (.Call (.Name "range" p) [a] [] pos) (DE ta):=by
 intro pins s σ H R I h;refine Call_ (jV I hg hm boot_range (Qq (thn (ha pos pins s σ H _ I h) λus s1 zq=>?_) hs rfl));obtain⟨vs,H1,I1,r1,q1⟩:=zq;obtain⟨j,e,q1,q2,q⟩:=q1;subst e;cases r1 with
 |cons r rr=>
  cases rr;obtain⟨t,rfl⟩:=r
  exact call_range_1 (pE I1 (by omega) (by omega) q1 q2 (by simpa using q))
theorem vf{a b:Expr}{ta:TA}{p pos:Pos}(hg:Gl X "range")(hm:X.mg "range" = none)(ha:PA X [a,b] ta)(hs:autoParam (starEach [a,b] X.env=[(false,eval a X.env),(false,eval b X.env)]) zz1._auto_1)(hs2:autoParam (starEach [b] X.env=[(false,eval b X.env)]) zz1._auto_1):
  PI X tg (.Call (.Name "range" p) [a,b] [] pos) (DF ta):=by
 intro pins s σ H R I h
 refine Call_ (jV I hg hm boot_range (Qq (thn (ha pos pins s σ H _ I h) λus s1 zq=>?_) (by rw[hs,hs2]) (by rw[hs2];rfl)))
 obtain⟨vs,H1,I1,r1,q1⟩:=zq;obtain⟨i,j,e,⟨q1,q2,q3,q4⟩,q⟩:=q1;subst e;cases r1 with
 |cons r rr=>
  cases rr with
  |cons r' rr=>
   cases rr;obtain⟨t,rfl⟩:=r;obtain⟨t',rfl⟩:=r';exact call_range_2 (pE I1 q1 q2 q3 q4 q)
noncomputable def EH(wi:TI)(g:TG)(tb:TS):TS:=λD σ H=>wi σ H λJ H1=>∃W:Nat->Nat->St->Hp->Prop,(∃m,W 0 m σ H1)/\∀i m σ H,W i m σ H->
 (J.stop i H/\D.nx σ H)\/(J.go i H/\∃N:St->Hp->Prop,(∀σ' H',N σ' H'->∃m',m'<m/\W (i+1) m' σ' H')/\∀x H',J.yld i H x H'->g x σ H' λσ2 H2=>tb { D with nx:=N,ct:=N,bk:=D.nx } σ2 H2)
noncomputable def kX(fp:List Addr)(h:Heap):List (Addr×Obj):=fp.filterMap λb=>(h.get? b).map λo=>(b,o)
theorem gx{o:Obj}(hb:b∈fp)(e:h.get? b=some o):(b,o)∈kX fp h:=Wp.mpr ⟨b,hb,by rw[e];rfl⟩
theorem vg{p:Addr×Obj}(hp:p∈kX fp h):p.1∈fp/\h.get? p.1=some p.2:=by
 obtain⟨b,hb,e⟩:=Wp.mp hp;cases q:h.get? b with
 |none=>rw[q]at e;cases e
 |some o=>
  rw[q]at e;have e':(b,o)=p:=Yk e;subst e';exact⟨hb,q⟩
theorem Inv.pinned(I:Inv X pins σ H s)(hf:∀b∈fp,FpOk X pins H b)(ho:∀b∈fp,∃o,s.heap.get? b=some o/\∀v,o.data≠.cell v):Inv X (pins++kX fp s.heap) σ H s:=
 I.pins_of λp hp=>(Jt.mp hp).elim (λz=>I.pin p (Yg _ z)) λz=>by obtain⟨hb,e⟩:=vg z;obtain⟨f0,f1,f2,_⟩:=hf p.1 hb;obtain⟨o,e',d⟩:=ho p.1 hb;rw[e]at e';cases e';exact⟨e,f0,f1,f2,d⟩
theorem Inv.unpinned{pl:List (Addr×Obj)}(I:Inv X (pins++pl) σ H s):Inv X pins σ H s:=I.pins_of λp hp=>I.pin p (Yg _ (Qh _ hp))
theorem Bw{iter:Expr}{body:List Stmt}{wi:TI}{g:TG}{tb:TS}{pos:Pos}(hp:PassesOwn (model X.prog X.w) X.A X.env X.xe)(hc:X.calm=true)(hi:PI X tg iter wi)(hg:PG X tg g)(hb:PSs X body tb)
  (hs:autoParam (∀x,foldedSetIterable iter X.env x=pure x) zz5._auto_1):PS X (.For tg iter body [] pos) (EH wi g tb):=by
 intro pins s σ H D I h;refine wpAny_For (thn (hi pins s σ H _ I h) λv s1 h1=>thn h1 λitv s2 h2=>?_) hs;obtain⟨it,fp,tn,J,H2,e,I2,T,st2,f2,W,⟨m0,w0⟩,turn⟩:=h2;subst e
 -- what stays true of the iterator's objects through the loop
 have stat:∀{H':Hp},(∀b∈fp,H' b=none)->∀b∈fp,FpOk X pins H' b:=λhn b hb=>⟨hn b hb,(f2 b hb).2⟩;refine codeAny_forLoop_any (λn s'=>∃i σ' H',Inv X pins σ' H' s'/\tn i s'.heap/\(∀b∈fp,H' b=none)/\W i n σ' H') ?_ m0 ⟨0,σ,H2,I2,st2,λb hb=>(f2 b hb).1,w0⟩;rintro n s3 ⟨i,σ3,H3,I3,st3,fr3,w3⟩;rcases turn i n σ3 H3 w3 with⟨stop,qn⟩|⟨go,N,hN,step⟩
 .refine V7 hp (thn (T.done X rfl rfl rfl (.inl hc) i pins s3 σ3 H3 X.xe I3 (stat fr3) st3 stop) λr s4 zq=>?_);obtain⟨hr,I4⟩:=zq;subst hr;exact wpAny_execs_nil ⟨σ3,H3,I4,qn⟩
 .refine V7 hp (thn (T.item X rfl rfl rfl (.inl hc) i pins s3 σ3 H3 X.xe I3 (stat fr3) st3 go) λr s4 zq=>?_);obtain⟨u,hr,h4⟩:=zq;subst hr;refine V7 hp (thn h4 λ_ s5 zq=>?_);obtain⟨x,H5,I5,r5,y5,st5,fr5⟩:=zq;have I5':=I5.pinned (stat fr5) (T.obj _ _ st5);refine V7 hp (thn (hg _ s5 σ3 H5 x u _ I5' r5 (step x H5 y5)) λ_ s6 zq=>?_);obtain⟨σ6,H6,I6,q6⟩:=zq;refine V7 hp (thn (hb _ s6 σ6 H6 _ I6 q6) λf s7 q7=>?_)
  have again:∀{σ7:St}{H7:Hp},Inv X (pins++kX fp s5.heap) σ7 H7 s7->N σ7 H7->∃m,m<n/\∃i σ' H',Inv X pins σ' H' s7/\tn i s7.heap/\(∀b∈fp,H' b=none)/\W i m σ' H':=λ{σ7 H7} I7 n7=>by obtain⟨m',hm,w7⟩:=hN σ7 H7 n7;refine⟨m',hm,i+1,σ7,H7,I7.unpinned,T.keep _ _ _ st5 λb hb o e=>(I7.pin (b,o) (Yg _ (Yg _ (gx hb e)))).1,λb hb=>?_,w7⟩;obtain⟨o,e,d⟩:=T.obj _ _ st5 b hb;exact(I7.pin (b,o) (Yg _ (Yg _ (gx hb e)))).2.1
  cases f with
  |next=>obtain⟨σ7,H7,I7,n7⟩:=q7;exact again I7 n7
  |cont=>obtain⟨σ7,H7,I7,n7⟩:=q7;exact again I7 n7
  |brk=>obtain⟨σ7,H7,I7,q7⟩:=q7;exact⟨σ7,H7,I7.unpinned,q7⟩
  |ret v=>obtain⟨x7,σ7,H7,I7,r7,q7⟩:=q7;exact⟨x7,σ7,H7,I7.unpinned,r7,q7⟩
end
noncomputable abbrev R2:=V->V->Hp->VK->Prop
variable{r:R2}
def OpR(X:Cx)(f:Value->Value->Sem Value)(r:R2):Prop:=
 ∀(pins:List (Addr×Obj))(s:Shared)(σ:St)(H:Hp)(x y:V)(v u:Value)(Q:VK),Inv X pins σ H s->RelV x v->RelV y u->r x y H Q->
  wpAny (model X.prog X.w) X.A (f v u) (EP X pins σ Q) X.xe s
def UnR(X:Cx)(f:Value->Sem Value)(r:V->Hp->VK->Prop):Prop:=
 ∀(pins:List (Addr×Obj))(s:Shared)(σ:St)(H:Hp)(x:V)(v:Value)(Q:VK),Inv X pins σ H s->RelV x v->r x H Q->
  wpAny (model X.prog X.w) X.A (f v) (EP X pins σ Q) X.xe s
def bI(X:Cx)(f:Value)(r:List V->Hp->VK->Prop):Prop:=
 ∀(pins:List (Addr×Obj))(s:Shared)(σ:St)(H:Hp)(xs:List V)(us:List Value)(Q:VK),Inv X pins σ H s->Vals xs us->r xs H Q->
  wpAny (model X.prog X.w) X.A (call f us) (EP X pins σ Q) X.xe s
noncomputable def tOp(r:R2)(ta tb:TE):TE:=λσ H Q=>ta σ H λx H1=>tb σ H1 λy H2=>r x y H2 Q
noncomputable def tUn(r:V->Hp->VK->Prop)(ta:TE):TE:=λσ H Q=>ta σ H λx H1=>r x H1 Q
noncomputable def rI(C:Int->Int->Prop)(g:Int->Int->V):R2:=λx y H Q=>∃i j,x=.int i/\y=.int j/\C i j/\Q (g i j) H
noncomputable def rI0(g:Int->Int->V):R2:=λx y H Q=>∃i j,x=.int i/\y=.int j/\Q (g i j) H
noncomputable def rU(g:Int->V):V->Hp->VK->Prop:=λx H Q=>∃i,x=.int i/\Q (g i) H
section
variable{X:Cx}{a b c:Expr}{ta tb tc:TE}{pos:Pos}
theorem By(ha:PE X a ta)(hb:PE X b tb){R:V->V->Hp->Prop}(I:Inv X pins σ H s)
  (h:ta σ H λx H1=>tb σ H1 λy H2=>R x y H2) {Q:Value->Shared->Prop} {f:Value->Value->Sem Value}
  (hf:∀v u s2 x y H2,Inv X pins σ H2 s2->RelV x v->RelV y u->R x y H2->wpAny (model X.prog X.w) X.A (f v u) Q X.xe s2):
  wpAny (model X.prog X.w) X.A (eval a X.env) (λv s₁=>wpAny (model X.prog X.w) X.A (eval b X.env) (λu s₂=>wpAny (model X.prog X.w) X.A (f v u) Q X.xe s₂) X.xe s₁) X.xe s:=by
 refine thn (ha pins s σ H _ I h) λv s1 zq=>?_;obtain⟨x,H1,I1,r1,q1⟩:=zq;refine thn (hb pins s1 σ H1 _ I1 q1) λu s2 zq=>?_;obtain⟨y,H2,I2,r2,q2⟩:=zq;exact hf v u s2 x y H2 I2 r1 r2 q2
theorem DG{op:Operator}(ho:OpR X (binaryOp op) r)(ha:PE X a ta)(hb:PE X b tb):PE X (.BinOp a op b pos) (tOp r ta tb):=by intro pins s σ H Q I h;exact wpAny_BinOp (By ha hb I h λv u s2 x y H2 I2 rx ry q=>ho pins s2 σ H2 x y v u Q I2 rx ry q)
theorem DH{op:UnaryOp}{r:V->Hp->VK->Prop}(ho:UnR X (unaryOp op) r)(ha:PE X a ta):PE X (.UnaryOp op a pos) (tUn r ta):=by intro pins s σ H Q I h;exact UnaryOp_ (thn (ha pins s σ H _ I h) λv s1 zq=>ex5 zq λx H1 I1 r1 q1=>ho pins s1 σ H1 x v Q I1 r1 q1)
theorem opI{f:Value->Value->Sem Value}{C:Int->Int->Prop}{g:Int->Int->Int}
  (rule:∀(i j:Int)(t u:Tok)(s:Shared)(Q:Value->Shared->Prop)(E:Value->Shared->Prop),C i j->Q (.int (g i j) s.toks) { s with toks:=s.toks+1 }->wpAny (model X.prog X.w) X.A (f (.int i t) (.int j u)) Q E s):
  OpR X f (rI C λi j=>.int (g i j)):=by
 intro pins s σ H x y v u Q I rx ry h;obtain⟨i,j,rfl,rfl,hc,q⟩:=h;obtain⟨t,rfl⟩:=rx;obtain⟨t',rfl⟩:=ry;exact rule i j t t' s _ _ hc ⟨.int (g i j),H,I.tok _,⟨_,rfl⟩,q⟩
theorem DI{f:Value->Value->Sem Value}{g:Int->Int->Int}
  (rule:∀(i j:Int)(t u:Tok)(s:Shared)(Q:Value->Shared->Prop)(E:Value->Shared->Prop),Q (.int (g i j) s.toks) { s with toks:=s.toks+1 }->wpAny (model X.prog X.w) X.A (f (.int i t) (.int j u)) Q E s):
  OpR X f (rI0 λi j=>.int (g i j)):=by
 intro pins s σ H x y v u Q I rx ry h;obtain⟨i,j,rfl,rfl,q⟩:=h;obtain⟨t,rfl⟩:=rx;obtain⟨t',rfl⟩:=ry;exact rule i j t t' s _ _ ⟨.int (g i j),H,I.tok _,⟨_,rfl⟩,q⟩
theorem yW{f:Value->Value->Sem Value}{g:Int->Int->Bool}
  (rule:∀(i j:Int)(t u:Tok)(s:Shared)(Q:Value->Shared->Prop)(E:Value->Shared->Prop),Q (.bool (g i j)) s->wpAny (model X.prog X.w) X.A (f (.int i t) (.int j u)) Q E s):
  OpR X f (rI0 λi j=>.bl (g i j)):=by
 intro pins s σ H x y v u Q I rx ry h;obtain⟨i,j,rfl,rfl,q⟩:=h;obtain⟨t,rfl⟩:=rx;obtain⟨t',rfl⟩:=ry;exact rule i j t t' s _ _ ⟨.bl (g i j),H,I,rfl,q⟩
def DJ(i j:Int):Prop:=0<j/\j<1073741824
def DK(i j:Int):Prop:=0<=j/\j<=1000000/\i.natAbs<2^64
def Bz(i j:Int):Prop:=(-(2^64)<i/\i<2^64)\/(-(2^64)<j/\j<2^64)
theorem Bz.ok{i j:Int}(h:Bz i j):IntMulOk i j:=by
 rcases h with⟨h1,h2⟩|⟨h1,h2⟩
 .exact .of_left (intBits_le_64 h1 h2)
 .exact .of_right (intBits_le_64 h1 h2)
theorem BA:OpR X (binaryOp .Add) (rI0 λi j=>.int (i+j)):=DI λ_ _ _ _ _ _ _ q=>add_int q
theorem BB:OpR X (binaryOp .Sub) (rI0 λi j=>.int (i-j)):=DI λ_ _ _ _ _ _ _ q=>sub_int q
theorem BC:OpR X (binaryOp .Mult) (rI Bz λi j=>.int (i*j)):=opI λ_ _ _ _ _ _ _ hc q=>mul_int q hc.ok
theorem yX:OpR X (binaryOp .FloorDiv) (rI DJ λi j=>.int (i/j)):=opI λi j _ _ _ _ _ hc q=>by
 have h1:(0:Int)<j:=hc.1;have h2:j<1073741824:=hc.2
 exact floordiv_int (by omega) (by rw[Us i (by omega)];exact q) (.inl (PyProof.noPylong_small (by omega)))
theorem BD:OpR X (binaryOp .Mod) (rI (λ_ j=>0<j) λi j=>.int (i%j)):=opI λi j _ _ _ _ _ hc q=>by
 have h1:(0:Int)<j:=hc
 exact mod_int' (by omega) (by rw[Ut i (by omega)];exact q)
theorem BE:OpR X (binaryOp .Pow) (rI DK λi j=>.int (i^j.toNat)):=opI λ_ _ _ _ _ _ _ hc q=>pow_int_small hc.1 hc.2.1 hc.2.2 q
theorem BF:OpR X (binaryOp .LShift) (rI DK λi j=>.int (i*2^j.toNat)):=opI λ_ _ _ _ _ _ _ hc q=>lshift_int_small hc.1 hc.2.1 hc.2.2 q
theorem unI{f:Value->Sem Value}{g:Int->Int}
  (rule:∀(i:Int)(t:Tok)(s:Shared)(Q:Value->Shared->Prop)(E:Value->Shared->Prop),Q (.int (g i) s.toks) { s with toks:=s.toks+1 }->wpAny (model X.prog X.w) X.A (f (.int i t)) Q E s):
  UnR X f (rU λi=>.int (g i)):=by
 intro pins s σ H x v Q I rx h;obtain⟨i,rfl,q⟩:=h;obtain⟨t,rfl⟩:=rx;exact rule i t s _ _ ⟨.int (g i),H,I.tok _,⟨_,rfl⟩,q⟩
theorem BG:UnR X (unaryOp .USub) (rU λi=>.int (-i)):=unI λ_ _ _ _ _ q=>neg_int q
end
noncomputable def BH:V->V->Bool
 |.non,.non=>true | .non,.int _=>true | .int _,.non=>true | .non,.bl _=>true | .bl _,.non=>true | .non,.str _=>true | .str _,.non=>true
 |.int _,.int _=>true | .bl _,.bl _=>true | .str _,.str _=>true | .byt _,.byt _=>true
 |.int _,.str _=>true | .str _,.int _=>true | .bl _,.str _=>true | .str _,.bl _=>true
 |_,_=>false
noncomputable def rEq:R2:=λx y H Q=>BH x y=true/\Q (.bl (decide (x=y))) H
noncomputable def rNe:R2:=λx y H Q=>BH x y=true/\Q (.bl (!decide (x=y))) H
theorem tj{i j:Int}:decide (V.int i=V.int j)=(i == j):=by rw[Zu];simp
theorem wy{i j:Bool}:decide (V.bl i=V.bl j)=(i == j):=by rw[Zu];simp
theorem tm{i j:Str}:decide (V.str i=V.str j)=(i == j):=by rw[Zu];simp
theorem tq{i j:Array UInt8}:decide (V.byt i=V.byt j)=(i.toList == j.toList):=by rw[Zu];cases i;cases j;simp
section
variable{X:Cx}{a b c:Expr}{ta tb tc:TE}{pos:Pos}
theorem bo{Q:VK}{k k':Bool}(I:Inv X pins σ H s)(q:Q (.bl k) H)(e:k=k'):EP X pins σ Q (.bool k') s:=by subst e;exact⟨.bl k,H,I,rfl,q⟩
theorem DL:OpR X (compareOp .Eq) rEq:=by
 intro pins s σ H x y v u Q I rx ry h;obtain⟨hs,q⟩:=h;cases x with
 |non=>
  cases rx;cases y with
  |non=>cases ry;exact PySem.EqNone.eq_none_none (bo I q (by simp))
  |bl j=>cases ry;exact PySem.EqNone.eq_none_bool (bo I q (by simp))
  |int j=>obtain⟨t',rfl⟩:=ry;exact PySem.EqNone.eq_none_int (bo I q (by simp))
  |str j=>obtain⟨t',rfl⟩:=ry;exact PySem.EqNone.eq_none_str (bo I q (by simp))
  |_=>exact absurd (show false=true from hs) Jj
 |bl i=>
  cases rx;cases y with
  |non=>cases ry;exact PySem.EqNone.eq_bool_none (bo I q (by simp))
  |bl j=>cases ry;exact eq_bool (bo I q wy)
  |str j=>obtain⟨t',rfl⟩:=ry;exact PySem.EqMixed.eq_bool_str (bo I q (by simp))
  |_=>exact absurd (show false=true from hs) Jj
 |int i=>
  obtain⟨t,rfl⟩:=rx;cases y with
  |non=>cases ry;exact PySem.EqNone.eq_int_none (bo I q (by simp))
  |int j=>obtain⟨t',rfl⟩:=ry;exact eq_int (bo I q tj)
  |str j=>obtain⟨t',rfl⟩:=ry;exact PySem.EqMixed.eq_int_str (bo I q (by simp))
  |_=>exact absurd (show false=true from hs) Jj
 |str i=>
  obtain⟨t,rfl⟩:=rx;cases y with
  |non=>cases ry;exact PySem.EqNone.eq_str_none (bo I q (by simp))
  |bl j=>cases ry;exact PySem.EqMixed.eq_str_bool (bo I q (by simp))
  |int j=>obtain⟨t',rfl⟩:=ry;exact PySem.EqMixed.eq_str_int (bo I q (by simp))
  |str j=>obtain⟨t',rfl⟩:=ry;exact eq_str (bo I q tm)
  |_=>exact absurd (show false=true from hs) Jj
 |byt i=>
  obtain⟨t,rfl⟩:=rx;cases y with
  |byt j=>obtain⟨t',rfl⟩:=ry;exact eq_bytes (bo I q tq)
  |_=>exact absurd (show false=true from hs) Jj
 |_=>cases y<;>exact absurd (show false=true from hs) Jj
theorem DM:OpR X (compareOp .NotEq) rNe:=by
 intro pins s σ H x y v u Q I rx ry h;obtain⟨hs,q⟩:=h;cases x with
 |non=>
  cases rx;cases y with
  |non=>cases ry;exact PySem.EqNone.ne_none_none (bo I q (by simp))
  |bl j=>cases ry;exact PySem.EqNone.ne_none_bool (bo I q (by simp))
  |int j=>obtain⟨t',rfl⟩:=ry;exact PySem.EqNone.ne_none_int (bo I q (by simp))
  |str j=>obtain⟨t',rfl⟩:=ry;exact PySem.EqNone.ne_none_str (bo I q (by simp))
  |_=>exact absurd (show false=true from hs) Jj
 |bl i=>
  cases rx;cases y with
  |non=>cases ry;exact PySem.EqNone.ne_bool_none (bo I q (by simp))
  |bl j=>cases ry;exact ne_bool (bo I q (Q7 not wy))
  |str j=>obtain⟨t',rfl⟩:=ry;exact PySem.EqMixed.ne_bool_str (bo I q (by simp))
  |_=>exact absurd (show false=true from hs) Jj
 |int i=>
  obtain⟨t,rfl⟩:=rx;cases y with
  |non=>cases ry;exact PySem.EqNone.ne_int_none (bo I q (by simp))
  |int j=>obtain⟨t',rfl⟩:=ry;exact ne_int (bo I q (Q7 not tj))
  |str j=>obtain⟨t',rfl⟩:=ry;exact PySem.EqMixed.ne_int_str (bo I q (by simp))
  |_=>exact absurd (show false=true from hs) Jj
 |str i=>
  obtain⟨t,rfl⟩:=rx;cases y with
  |non=>cases ry;exact PySem.EqNone.ne_str_none (bo I q (by simp))
  |bl j=>cases ry;exact PySem.EqMixed.ne_str_bool (bo I q (by simp))
  |int j=>obtain⟨t',rfl⟩:=ry;exact PySem.EqMixed.ne_str_int (bo I q (by simp))
  |str j=>obtain⟨t',rfl⟩:=ry;exact ne_str (bo I q (Q7 not tm))
  |_=>exact absurd (show false=true from hs) Jj
 |byt i=>
  obtain⟨t,rfl⟩:=rx;cases y with
  |byt j=>obtain⟨t',rfl⟩:=ry;exact ne_bytes (bo I q (Q7 not tq))
  |_=>exact absurd (show false=true from hs) Jj
 |_=>cases y<;>exact absurd (show false=true from hs) Jj
theorem DN:OpR X (compareOp .Lt) (rI0 λi j=>.bl (decide (i<j))):=yW λ_ _ _ _ _ _ _ q=>lt_int q
theorem DO:OpR X (compareOp .LtE) (rI0 λi j=>.bl (decide (i<=j))):=yW λ_ _ _ _ _ _ _ q=>le_int q
theorem DP:OpR X (compareOp .Gt) (rI0 λi j=>.bl (decide (j<i))):=yW λ_ _ _ _ _ _ _ q=>gt_int q
theorem DQ:OpR X (compareOp .GtE) (rI0 λi j=>.bl (decide (j<=i))):=yW λ_ _ _ _ _ _ _ q=>ge_int q
theorem BI(b:Expr)(h:autoParam (op≠.In) zz2._auto_1)(h2:autoParam (op≠.NotIn) zz2._auto_1):behindInMarks op b=false:=by
 have e1:(op == CmpOp.In)=false:=by cases op<;>first|rfl|exact absurd rfl h
 have e2:(op == CmpOp.NotIn)=false:=by cases op<;>first|rfl|exact absurd rfl h2
 cases b<;>simp[behindInMarks,e1,e2]
theorem yY(ho:OpR X (compareOp op) r)(ha:PE X a ta)(hb:PE X b tb)(hm:behindInMarks op b=false):PE X (.Compare a [op] [b] pos) (tOp r ta tb):=by intro pins s σ H Q I h;exact wpAny_Compare1 (By ha hb I h λv u s2 x y H2 I2 rx ry q=>ho pins s2 σ H2 x y v u Q I2 rx ry q) hm
noncomputable def DR(t:TE):TT:=λσ H Q=>t σ H λx H'=>∃k,x=.bl k/\Q k H'
theorem yZ(ho:OpR X (compareOp op) r)(ha:PE X a ta)(hb:PE X b tb)(hm:behindInMarks op b=false):PT X (.Compare a [op] [b] pos) (DR (tOp r ta tb)):=by
 intro pins s σ H Q I h
 refine wpAny_isTrue_Compare1 (thn (ha pins s σ H _ I h) λv s1 zq=>ex5 zq λx H1 I1 r1 q1=>thn (hb pins s1 σ H1 _ I1 q1) λu s2 zq=>ex5 zq λy H2 I2 r2 q2=>
  thn (ho pins s2 σ H2 x y v u _ I2 r1 r2 q2) λc s3 ⟨z,H3,I3,r3,k,e,q3⟩=>?_) hm
 subst e;cases r3;exact Wr ⟨H3,I3,q3⟩
theorem jW:(sizeLine:Nat)<2^63:=by rw[sizeLine_eq];decide
theorem rH:OpR X (binaryOp .Add) (λx y H Q=>∃i j,x=.str i/\y=.str j/\i.length+j.length<=sizeLine/\Q (.str (i++j)) H):=by intro pins s σ H x y v u Q I rx ry h;obtain⟨i,j,rfl,rfl,hz,q⟩:=h;obtain⟨t,rfl⟩:=rx;obtain⟨t',rfl⟩:=ry;exact add_str (λt' tk=>⟨.str (i++j),H,I.tok _,⟨_,rfl⟩,q⟩) hz
theorem Wx{x:V}(r:Vals [x] us):∃u,us=[u]/\RelV x u:=by
 cases r with
 |cons r1 r2=>cases r2;exact⟨_,rfl,r1⟩
theorem vals2{x y:V}(r:Vals [x,y] us):∃u w',us=[u,w']/\RelV x u/\RelV y w':=by
 cases r with
 |cons r1 r2=>
  cases r2 with
  |cons r3 r4=>cases r4;exact⟨_,_,rfl,r1,r3⟩
theorem wz:bI X (.builtin "abs") (λxs H Q=>∃i,xs=[.int i]/\Q (.int (if i<0 then -i else i)) H):=by
 intro pins s σ H xs us Q I r h;obtain⟨i,rfl,q⟩:=h;obtain⟨u,rfl,t,rfl⟩:=Wx r
 exact call_abs_int λu tk=>⟨.int (if i<0 then -i else i),H,I.tok _,⟨_,rfl⟩,q⟩
theorem vh(hc:X.calm=true):bI X (.builtin "max") (λxs H Q=>∃i j,xs=[.int i,.int j]/\Q (.int (if j>i then j else i)) H):=by
 intro pins s σ H xs us Q I r h;obtain⟨i,j,rfl,q⟩:=h;obtain⟨u,w',rfl,⟨t,rfl⟩,⟨t',rfl⟩⟩:=vals2 r;refine max_two_ints (I.ok.hd hc) λh' tk k=>⟨_,H,I.kept k,?_,q⟩;by_cases hj:j>i
 .rw[Je hj,Je hj];exact⟨_,rfl⟩
 .rw[Ji hj,Ji hj];exact⟨_,rfl⟩
theorem vi(hc:X.calm=true):bI X (.builtin "min") (λxs H Q=>∃i j,xs=[.int i,.int j]/\Q (.int (if j<i then j else i)) H):=by
 intro pins s σ H xs us Q I r h;obtain⟨i,j,rfl,q⟩:=h;obtain⟨u,w',rfl,⟨t,rfl⟩,⟨t',rfl⟩⟩:=vals2 r;refine min_two_ints (I.ok.hd hc) λh' tk k=>⟨_,H,I.kept k,?_,q⟩;by_cases hj:j<i
 .rw[Je hj,Je hj];exact⟨_,rfl⟩
 .rw[Ji hj,Ji hj];exact⟨_,rfl⟩
theorem pF:bI X (.builtin "divmod") (λxs H Q=>∃i j,xs=[.int i,.int j]/\DJ i j/\∀p,H p=none->Q (.ref p) (upd H p (.tup [.int (i/j),.int (i%j)]))):=by
 intro pins s σ H xs us Q I r h;obtain⟨i,j,rfl,⟨h1,h2⟩,q⟩:=h;obtain⟨u,w',rfl,⟨t,rfl⟩,⟨t',rfl⟩⟩:=vals2 r
 refine divmod_int (by omega) ?_ (.inl (PyProof.noPylong_small (by omega)))
 rw[Us i (by omega),Ut i (by omega)]
 have hn:H s.heap.objs.size=none:=I.hok.fresh (Jd _);refine⟨.ref s.heap.objs.size,_,?_,rfl,q _ hn⟩
 refine I.laid (λb o e=>Jb _ e) (Jd _) ⟨by simp only[Jk,Y3];rw[sizeLine_eq];decide,[.int (i/j) s.toks,.int (i%j) (s.toks+1)],.cons ⟨_,rfl⟩ (.cons ⟨_,rfl⟩ .nil),?_⟩
 exact⟨_,Jo s.heap rfl,rfl,0,rfl⟩
end
structure ObjM(h:Heap)(x dx C:Addr)(mA:Str->Option Value):Prop where
 obj:h.get? x=some (instObj C dx)
 ns:h.Ns1 dx mA
 ne:dx≠x
theorem vj{dx:Addr}{mA:Str->Option Value}(n:h.Ns1 dx mA):∃od,h.get? dx=some od/\∀name,lookIn name od=some (mA name):=by
 obtain⟨o,es,ep,ho,hd,hk,_,hm⟩:=n;refine⟨o,ho,λname=>?_⟩;have e:=hm name;unfold nsFind findBy at e;rw[<- Array.find?_toList]at e;unfold lookIn;rw[hd];dsimp only;split
 .rename_i y q;rw[q]at e;exact Q7 some e
 .rename_i q;rw[q]at e
  have a:es.toList.any (·.refKey)=false:=by rw[Ws];intro y hy;obtain⟨z,t,hkey⟩:=hk y (Array.mem_toList_iff.mp hy);simp[DictEntry.refKey,hkey]
  have a':¬es.toList.any (·.refKey)=true:=by rw[a];exact Jj
  rw[Ji a'];exact Q7 some e
theorem ObjM.look{x dx C:Addr}{mA:Str->Option Value}(I:ObjM h x dx C mA):∃od,PySem.W.InstAt h x (instObj C dx) C (some od)/\∀name,lookIn name od=some (mA name):=
 let ⟨od,ho,hl⟩:=vj I.ns
 ⟨od,⟨I.obj,rfl,rfl,ho⟩,hl⟩
section
variable{P:Program}{w:World}{H H':Hp}{h h':Heap}{a C dx:Addr}{fs fs':List (Str×V)}
theorem y0(hok:HOk P w H h)(e:H a=some (.ins C dx fs)):∃mA,ObjM h a dx C mA/\(∀f,nW (fs.lookup f) (mA f))/\PySem.Within mA (fs.map (·.1))/\fs.length<=1000/\H dx=some (.own a):=by
 obtain⟨d,z,ne,ob,mA,n,r,q⟩:=(show bw P w H h a (.ins C dx fs) from hok a _ e)
 exact⟨mA,⟨ob,n,ne⟩,r,q,z,d⟩
end
structure Cls(K:Frag)(C:Addr):Prop where
 pg:plainGet K C Str.empty=true
 hd:hasDictIn K C=true
 po:plainOver K C=true
 sa:findIn K (.ref C) "__setattr__" = some (some (.builtin "object.__setattr__"))
theorem Cls.get{K:Frag}{C:Addr}(c:Cls K C)(f:Str):plainGet K C f=true:=c.pg
section
variable{X:Cx}{pins:List (Addr×Obj)}{σ:St}{H:Hp}{s:Shared}{A:Around}{E:Value->Shared->Prop}{Q:Value->Shared->Prop}{c:Value}{b:Bool}
inductive TyOf(K:Frag)(H:Hp):V->Value->Prop where
 |non:TyOf K H .non (.type "NoneType")
 |bl (x:Bool):TyOf K H (.bl x) (.type "bool")
 |int (i:Int):TyOf K H (.int i) (.type "int")
 |str (x:Str):TyOf K H (.str x) (.type "str")
 |flt (x:UInt64):TyOf K H (.flt x) (.type "float")
 |lst {a:Addr} {xs:List V} (e:H a=some (.lst xs)):TyOf K H (.ref a) (.type "list")
 |frz {a:Addr} {o:Obj} {xs:List V} (e:H a=some (.frz o (.lst xs))):TyOf K H (.ref a) (.type "list")
 |tup {a:Addr} {xs:List V} (e:H a=some (.tup xs)):TyOf K H (.ref a) (.type "tuple")
 |dK {a:Addr} {kvs:List (Key×V)} (e:H a=some (.dK kvs)):TyOf K H (.ref a) (.type "dict")
 |dT {a:Addr} {kvs:List (List Key×V)} (e:H a=some (.dT kvs)):TyOf K H (.ref a) (.type "dict")
 |ins {a C dx:Addr} {fs:List (Str×V)} (e:H a=some (.ins C dx fs)) (cl:Cls K C) (ha:findIn K (.ref C) "__class__" = some (some (.builtin "object.__class__")))
   (hn:specialIn K (.builtin "object.__class__") "__get__" = some (some (.builtin "getset_descriptor.__get__"))) (htk:takesIn K (.builtin "object.__class__")=some true)
   (hm:mroIn K C (.type "object")=some true):TyOf K H (.ref a) (.ref C)
theorem m8{x:V}{t:Value}(I:Inv X pins σ H s)(rx:RelV x u)(ty:TyOf X.K H x t)(e:kitOne X.K t c=some b)(h:∀tk,Q (.bool b) { s with toks:=tk }):
  wpAny (model X.prog X.w) A (call (.builtin "isinstance") [u,c]) Q E s:=by
 cases ty with
 |non=>cases (show u=Value.none from rx);exact Zc kitx_none I.kIn True.intro e (λz=>nomatch z) h
 |bl y=>cases (show u=Value.bool y from rx);exact Zc kitx_bool I.kIn True.intro e (λz=>nomatch z) h
 |int i=>obtain⟨t,q⟩:=(show ∃t,u=Value.int i t from rx);cases q;exact Zc kitx_int I.kIn True.intro e (λz=>nomatch z) h
 |str y=>obtain⟨t,q⟩:=(show ∃t,u=Value.str y t from rx);cases q;exact Zc kitx_str I.kIn True.intro e (λz=>nomatch z) h
 |flt y=>obtain⟨t,q⟩:=(show ∃t,u=Value.float y t from rx);cases q;exact Zc kitx_float I.kIn True.intro e (λz=>nomatch z) h
 | @lst a xs ea=>
  cases (show u=Value.ref a from rx)
  obtain⟨_,_,n,_,h1⟩:=(show bw X.prog X.w H s.heap a (.lst xs) from I.hok a _ ea)
  exact Zc kitx_list I.kIn ⟨_,h1,rfl⟩ e (λz=>nomatch z) h
 | @frz a ob xs ea=>
  cases (show u=Value.ref a from rx)
  obtain⟨_,_,_,n,_,h1⟩:=(show bw X.prog X.w H s.heap a (.frz ob (.lst xs)) from I.hok a _ ea)
  exact Zc kitx_list I.kIn ⟨_,h1,rfl⟩ e (λz=>nomatch z) h
 | @tup a xs ea=>
  cases (show u=Value.ref a from rx)
  obtain⟨_,_,_,p⟩:=(show bw X.prog X.w H s.heap a (.tup xs) from I.hok a _ ea)
  obtain⟨o,h1,h2,_⟩:=p
  exact Zc kitx_tuple I.kIn ⟨o,h1,h2⟩ e (λz=>nomatch z) h
 | @dK a kvs ea=>
  cases (show u=Value.ref a from rx)
  obtain⟨_,_,vs,_,p⟩:=(show bw X.prog X.w H s.heap a (.dK kvs) from I.hok a _ ea)
  obtain⟨o,es,ep,h1,h2,_⟩:=p
  exact Zc kitx_dict I.kIn ⟨o,h1,h2.1⟩ e (λz=>nomatch z) h
 | @dT a kvs ea=>
  cases (show u=Value.ref a from rx)
  obtain⟨_,_,xs,_,o,es,ep,h1,h2,_⟩:=(show bw X.prog X.w H s.heap a (.dT kvs) from I.hok a _ ea)
  exact Zc kitx_dict I.kIn ⟨o,h1,h2.1⟩ e (λz=>nomatch z) h
 | @ins a C dx fs ea cl ha hn htk hm=>
  cases (show u=Value.ref a from rx)
  obtain⟨mA,O,_⟩:=y0 I.hok ea;obtain⟨od,J,_⟩:=O.look
  exact Zc (kitx_own (cl.get _) cl.hd ha hn htk hm) I.kIn J e (λz=>nomatch z) h
end
structure Room(k:Nat)(A:Around):Prop where
 hd:A.handled=none
 dp:A.depth+3*k+5<recursionLimit
 un:A.units+16*k+200<cLine
 gd:A.guards=some []
theorem Room.mono{j k:Nat}(r:Room k A)(h:j<=k):Room j A:=⟨r.hd,by have:=r.dp;omega,by have:=r.un;omega,r.gd⟩
theorem Room.deeper{k:Nat}(r:Room (k+1) A)(env:Env):Room k (A.deeper env):=
 ⟨r.hd,by have:=r.dp;show A.depth+1+3*k+5<_;omega,by have:=r.un;show A.units+3+16*k+200<_;omega,r.gd⟩
theorem Room.depth{k:Nat}(r:Room k A):A.depth<recursionLimit:=by have:=r.dp;omega
theorem Room.units{k:Nat}(r:Room k A):A.units+64<cLine:=by have:=r.un;omega
noncomputable def EI:TA:=λ_ H Q=>Q [] H
noncomputable def DS(ta:TE)(tr:TA):TA:=λσ H Q=>ta σ H λx H1=>tr σ H1 λxs H2=>Q (x::xs) H2
section
variable{X:Cx}{e:Expr}{es:List Expr}{te:TE}{t:TA}{pos:Pos}
theorem rJ:PA X [] EI:=λ_ _ _ _ H Q I h=>Calls.spliced_nil ⟨[],H,I,.nil,h⟩
theorem n4(ha:PE X e te)(hr:PA X es t)(hs:autoParam (starEach (e::es) X.env=(false,eval e X.env)::starEach es X.env) zz1._auto_1):PA X (e::es) (DS te t):=by intro pos pins s σ H Q I h;rw[hs];show wpAny _ _ (spliced ((false,eval e X.env)::backTo pos (starEach es X.env))) _ _ s;refine Uj (thn (ha pins s σ H _ I h) λu s1 zq=>?_);obtain⟨x,H1,I1,r1,q1⟩:=zq;exact thn (hr pos pins s1 σ H1 _ I1 q1) λus s2 zq=>ex5 zq λxs H2 I2 r2 q2=>⟨x::xs,H2,I2,.cons r1 r2,q2⟩
noncomputable def EJ(t:TA):TE:=λσ H Q=>t σ H λxs H1=>xs.length<=sizeLine/\∀p,H1 p=none->Q (.ref p) (upd H1 p (.tup xs))
noncomputable def EK(t:TA):TE:=λσ H Q=>t σ H λxs H1=>xs.length<=sizeLine/\∀p,H1 p=none->Q (.ref p) (upd H1 p (.lst xs))
theorem BJ{x1}(h:PA X es t):PE X (.Tuple es x1 pos) (EJ t):=by
 intro pins s σ H Q I hq
 refine wpAny_Tuple_spliced (thn (h pos pins s σ H _ I hq) λus s1 ⟨xs,H1,I1,r,z,q⟩=>⟨by rw[<- r.length];exact z,?_⟩)
 have hf:H1 s1.heap.objs.size=none:=I1.hok.fresh (Jd _);refine⟨.ref s1.heap.objs.size,upd H1 s1.heap.objs.size (.tup xs),I1.laid (t':=s1.toks) (λb u e=>Jb _ e) (Jd _) ?_,rfl,q _ hf⟩;exact⟨z,us,r,⟨_,Jo _ rfl,rfl,_,rfl⟩⟩
theorem wA(h:PA X es t):PE X (.List es pos) (EK t):=by
 intro pins s σ H Q I hq
 refine wpAny_List_spliced (thn (h pos pins s σ H _ I hq) λus s1 ⟨xs,H1,I1,r,z,q⟩=>⟨by rw[<- r.length];exact z,?_⟩)
 have hf:H1 s1.heap.objs.size=none:=I1.hok.fresh (Jd _);refine⟨.ref s1.heap.objs.size,upd H1 s1.heap.objs.size (.lst xs),I1.laid (t':=s1.toks) (λb u e=>Jb _ e) (Jd _) ?_,rfl,q _ hf⟩;exact⟨z,us,0,r,Jo _ rfl⟩
end
noncomputable abbrev Sp:=List V->Hp->VK->XK->Prop
noncomputable abbrev CXT:=List Env->Hp->Shared->XK->Value->Shared->Prop
structure Env0(P:Program)(w:World)(K:Frag)(mg:Str->Option Value)(base:Heap)(A:Around)(outer:List Env)(s:Shared)(H:Hp):Prop where
 frames:A.frames=some outer
 mod:Mod K mg base
 bs:∀b o,base.get? b=some o->s.heap.get? b=some o/\H b=none
 bsz:base.objs.size<=s.heap.objs.size
 funs:s.heap.FunFrames base outer
 frf:∀b∈frs outer,H b=none
 hok:HOk P w H s.heap
 bare:AllBare s.gens
def CE(outer:List Env)(P:Program)(w:World)(H:Hp)(s:Shared)(Q:VK)(u:Value)(s':Shared):Prop:=
 ∃v H',s'.os=s.os/\AllBare s'.gens/\Un (frs outer) [] H H' s.heap s'.heap/\HOk P w H' s'.heap/\RelV v u/\Q v H'
def CR(CX:CXT)(outer:List Env)(P:Program)(w:World)(H:Hp)(s:Shared)(Q:VK)(E:XK)(r:Result)(s':Shared):Prop:=
 match r with
 |.ok (.ret u)=>CE outer P w H s Q u s'
 |.ok _=>False
 |.error e=>CX outer H s E e s'
structure FnOk(P:Program)(w:World)(K:Frag)(mg:Str->Option Value)(base:Heap)(CX:CXT)(k:Nat)(f:Addr)(fd:FuncData)(ps:List Str)(sp:Sp):Prop where
 len:∀vs H Q E,sp vs H Q E->vs.length=ps.length
 run:∀(A:Around)(outer:List Env)(s:Shared)(H:Hp)(args:Args)(us:List Value)(vs:List V)(Q:VK)(E:XK),Room k A->Env0 P w K mg base A outer s H->BindsTo s fd args (ps.zip us)->Vals vs us->sp vs H Q E->
  codeAny (model P w) A (.call (.ref f) args) (CR CX outer P w H s Q E) s
section
variable{X:Cx}{pins:List (Addr×Obj)}{σ:St}{H:Hp}{s s':Shared}
theorem Inv.env0(I:Inv X pins σ H s):Env0 X.prog X.w X.K X.mg X.base X.A X.stack s H:=
 ⟨I.ok.frames,I.ok.mod,I.bs,Ys I.ok.bsz I.sz,I.stack,I.stkFree,I.hok,I.bare⟩
theorem Inv.after{Q:VK}(I:Inv X pins σ H s)(h:CE X.stack X.prog X.w H s Q u s'):EP X pins σ Q u s':=by
 obtain⟨v,H',os,bare,un,hok,r,q⟩:=h;obtain⟨hh,g,d,t,os'⟩:=s';obtain rfl:os'=s.os:=os
 exact⟨v,H',I.call (h':=hh) (g':=g) (d':=d) (t':=t) (ch:=[]) un hok bare (λb z=>absurd z (by simp)),r,q⟩
end
noncomputable def AN(sp:Sp)(dvs:List V)(E:XK)(t:TA):TE:=λσ H Q=>t σ H λvs H1=>sp (vs++dvs) H1 Q E
def Binds(K:Frag)(fd:FuncData)(ps:List Str)(ds:List Value):Prop:=
 ∀(s:Shared)(us:List Value),K.In s.heap->(us++ds).length=ps.length->BindsTo s fd ⟨us,[]⟩ (ps.zip (us++ds))
theorem Binds.all{K:Frag}{fd:FuncData}{ps:List Str}(h:∀us:List Value,us.length=ps.length->bindArgs fd ⟨us,[]⟩=pure (ps.zip us)):Binds K fd ps []:=λs us _ hl=>by rw[Ym]at hl ⊢;exact .of_eq (h us hl)
def Passes(CX:CXT)(X:Cx)(E:XK):Prop:=∀(pins:List (Addr×Obj))(σ:St)(H:Hp)(s:Shared)(e:Value)(s':Shared),Inv X pins σ H s->CX X.stack H s E e s'->X.xe e s'
section
variable{X:Cx}{CX:CXT}{k:Nat}{f C:Addr}{fd:FuncData}{ps:List Str}{sp:Sp}{dvs:List V}{ds:List Value}{E:XK}{x m:Str}{p pos apos:Pos}{e o:Expr}{es:List Expr}{ta:TE}{t:TA}
theorem BK{pins:List (Addr×Obj)}{σ:St}{H:Hp}{s:Shared}{Q:VK}{us:List Value}{vs:List V}(F:FnOk X.prog X.w X.K X.mg X.base CX k f fd ps sp)(hr:Room k X.A)(hb:Binds X.K fd ps ds)(hd:Vals dvs ds)(hx:Passes CX X E)
  (I:Inv X pins σ H s) (r:Vals vs us) (h:sp (vs++dvs) H Q E):wpAny (model X.prog X.w) X.A (call (.ref f) us) (EP X pins σ Q) X.xe s:=by
 have r2:Vals (vs++dvs) (us++ds):=r.append hd
 have hl:(us++ds).length=ps.length:=by rw[<- r2.length];exact F.len _ _ _ _ h
 refine U5 (Qr (F.run X.A X.stack s H ⟨us,[]⟩ (us++ds) (vs++dvs) Q E hr I.env0 (hb s us I.kIn hl) r2 h) λr s' hq=>?_);cases r with
 |error e=>exact hx pins σ H s e s' I hq
 |ok fl=>
  cases fl with
  |ret u=>exact I.after hq
  |next=>exact False.elim hq
  |brk=>exact False.elim hq
  |cont=>exact False.elim hq
theorem tu(F:FnOk X.prog X.w X.K X.mg X.base CX k f fd ps sp)(hr:Room k X.A)(hg:Gl X x)(hm:X.mg x=some (.ref f))(hk:keepIn X.K (.ref f)=true)(hb:Binds X.K fd ps ds)(hd:Vals dvs ds)(hx:Passes CX X E)
  (ha:PA X (e::es) t) (hdb:autoParam ((x == ("__debug__":Str))=false) zz2._auto_1) (he:autoParam (starEach (e::es) X.env=(false,eval e X.env)::starEach es X.env) zz1._auto_1) (hpl:autoParam ((backTo pos (starEach es X.env)).any (·.1)=false) zz1._auto_1):
  PE X (.Call (.Name x p) (e::es) [] pos) (AN sp dvs E t):=by
 intro pins s σ H Q I h;refine Vb (je I hg hm ?_ hdb);refine callWith_K (h₀:=X.base) I.ok.mod.kin hk (thn (ha pos pins s σ H _ I h) λus s1 zq=>ex5 zq λvs H1 I1 r q=>⟨I1.kIn,?_⟩) he hpl;exact BK F hr hb hd hx I1 r q
end
structure FnScope(N P:List Str)(sc:Scope):Prop where
 kind:sc.kind=.function
 co:sc.isCoroutine=false
 gen:sc.isGenerator=false
 nd:N.Nodup
 pre:N.take P.length=P
 par:∀x∈P,sc.names.lookup x=some .local\/sc.names.lookup x=some .cell
 nofree:∀y∈sc.names,y.2≠.free
theorem m9:∀{binds:List (Str×Value)}{m:Str->Option Value},(∀v,(x,v)∉binds)->bindL kindOf binds m x=m x
 |[],_,_=>rfl
 |(n,v)::r,m,h=>by
  unfold bindL;rw[m9 λw hw=>h w (Y4 _ hw)];split
  .have:x≠n:=by rintro rfl;exact h v Y6
   simp[this]
  .rfl
theorem nc:∀{binds:List (Str×Value)}{m:Str->Option Value},(∀v,(x,v)∉binds)->bindC kindOf binds m x=m x
 |[],_,_=>rfl
 |(n,v)::r,m,h=>by
  unfold bindC;rw[nc λw hw=>h w (Y4 _ hw)];split
  .rfl
  .have:x≠n:=by rintro rfl;exact h v Y6
   simp[this]
theorem ng{v:Value}:∀{P:List Str}{vs:List Value}{i:Nat}{m:Str->Option Value},P.Nodup->P[i]?=some x->vs[i]?=some v->kindOf x=some .local->
  bindL kindOf (P.zip vs) m x=some v
 |[],_,_,_,_,h,_,_=>by simp at h
 |_::_,[],_,_,_,_,h,_=>by simp at h
 |p::P,w::vs,0,m,nd,h1,h2,hk=>by simp at h1 h2;subst h1;subst h2;show bindL kindOf ((p,w)::P.zip vs) m p=_;unfold bindL;rw[m9 λv hv=>(Qx.mp nd).1 (V8 hv).1,Je hk];simp
 |p::P,w::vs,i+1,m,nd,h1,h2,hk=>by
  show bindL kindOf ((p,w)::P.zip vs) m x=_;unfold bindL
  exact ng (i:=i) (Qx.mp nd).2 (by simpa using h1) (by simpa using h2) hk
theorem nh{v:Value}:∀{P:List Str}{vs:List Value}{i:Nat}{m:Str->Option Value},P.Nodup->P[i]?=some x->vs[i]?=some v->kindOf x≠some .local->
  bindC kindOf (P.zip vs) m x=some v
 |[],_,_,_,_,h,_,_=>by simp at h
 |_::_,[],_,_,_,_,h,_=>by simp at h
 |p::P,w::vs,0,m,nd,h1,h2,hk=>by simp at h1 h2;subst h1;subst h2;show bindC kindOf ((p,w)::P.zip vs) m p=_;unfold bindC;rw[nc λv hv=>(Qx.mp nd).1 (V8 hv).1,Ji hk];simp
 |p::P,w::vs,i+1,m,nd,h1,h2,hk=>by
  show bindC kindOf ((p,w)::P.zip vs) m x=_;unfold bindC
  exact nh (i:=i) (Qx.mp nd).2 (by simpa using h1) (by simpa using h2) hk
noncomputable def start(N:List Str)(vs:List V):St:=vs.map some++List.replicate (N.length-vs.length) none
noncomputable def jX(CX:CXT)(P:Program)(w:World)(K:Frag)(mg:Str->Option Value)(base:Heap)(N:List Str)(qual:Str)(scope:Scope)(f:Addr)(cd:Value)(A:Around)(outer:List Env)(s:Shared)(H:Hp)(E:XK):Cx where
 prog:=P
 w:=w
 K:=K
 mg:=mg
 base:=base
 A:=A.deeper (envOfC qual scope s.heap.objs.size f cd)
 N:=N
 s₀:=s
 H₀:=H
 env:=envOfC qual scope s.heap.objs.size f cd
 outer:=outer
 stack:=envOfC qual scope s.heap.objs.size f cd::outer
 ex:=[]
 calm:=true
 fn:=λ_=>true
 pn:=[]
 xe:=λe s'=>wpAny (model P w) (A.deeper (envOfC qual scope s.heap.objs.size f cd)) (leaving (envOfC qual scope s.heap.objs.size f cd) e) (λ_ s''=>CX outer H s E e s'') (λe' s''=>CX outer H s E e' s'') s'
theorem pG{sc:Scope}{n:Nat}(h:sc.names.lookup x=some .cell):∃c,(cellsFrom n sc.names []).lookup x=some c:=by have q:=Vr sc.names n [] (.inl h);exact Option.isSome_iff_exists.mp q
theorem ni{CX:CXT}{P:Program}{w:World}{K:Frag}{mg:Str->Option Value}{base:Heap}{N ps:List Str}{qual:Str}{scope:Scope}{f:Addr}{cd:Value}{A:Around}{outer:List Env}{s s1:Shared}{H:Hp}{E:XK}{us:List Value}{vs:List V}
  (S:FnScope N ps scope) (hd:A.handled=none) (e0:Env0 P w K mg base A outer s H) (hl:vs.length=ps.length) (r:Vals vs us)
  (x:InCallC s s.heap.objs.size (bindL (envOfC qual scope s.heap.objs.size f cd).kindOf (ps.zip us) λ_=>none) (cellsFrom (s.heap.objs.size+1) scope.names []) (bindC (envOfC qual scope s.heap.objs.size f cd).kindOf (ps.zip us) λ_=>none) s1):
  Inv (jX CX P w K mg base N qual scope f cd A outer s H E) [] (start N vs) H s1:=by
 have hpl:ps.length<=N.length:=by have:=Q7 List.length S.pre;rw[Zx]at this;omega
 obtain⟨h1,tk,rfl,hk⟩:=x.done
 have noA:∀b:Addr,b∉(jX CX P w K mg base N qual scope f cd A outer s H E).ex:=λb z=>absurd (show b∈([]:List Addr) from z) (by simp)
 refine⟨⟨e0.mod,S.kind,rfl,rfl,Jd _,λy z c h1 h2=>?_,λy hy=>?_,λy c _ h=>?_,λ_=>hd,Around.frames_deeper e0.frames,.inr ⟨rfl,rfl⟩,λb z=>absurd z (noA b),e0.bs,e0.bsz,λb _ _=>noA b,λb z=>absurd z (noA b),e0.funs,e0.frf⟩,
  rfl,e0.bare,Un.kept hk,⟨_,x.toInCall.ns,λi y v h1 h2 h3=>?_⟩,λy c h=>⟨_,x.cell y c h⟩,e0.hok.fresh (Jd _),λy c h=>?_,λp hp=>absurd (show p∈([]:List (Addr×Obj)) from hp) (by simp),e0.hok.kept hk,?_⟩
 .exact name_of_addr x.apart (Wi h1) (Wi h2)
 .have hy:scope.names.lookup y=some .cell\/scope.names.lookup y=some .free:=hy;rcases hy with hy|hy
  .exact pG hy
  .exact absurd rfl (S.nofree _ (Wi hy))
 .exact G6 (x.above y c (Wi h))
 .have hi:i<vs.length:=by
   unfold start at h2;by_cases hi:i<vs.length
   .exact hi
   .rw[Y5 (by simpa using hi)]at h2
    rw[Q5]at h2;split at h2<;>cases h2
  have ha:vs[i]?=some v:=by
   unfold start at h2
   rw[Jw (by simpa using hi),Zf]at h2
   cases e:vs[i]? with
   |none=>rw[e]at h2;cases h2
   |some a=>rw[e]at h2;cases h2;rfl
  obtain⟨u,hu,rv⟩:=r.get ha
  have hp:ps[i]?=some y:=by rw[<- S.pre,List.getElem?_take_of_lt (by omega)];exact h1
  have ndP:ps.Nodup:=by rw[<- S.pre];exact S.nd.sublist (Uz _ _)
  refine⟨u,rv,?_⟩;rcases S.par y (Za hp) with k|k
  .exact .inl ⟨k,ng ndP hp hu k⟩
  .obtain⟨c,e⟩:=pG (n:=s.heap.objs.size+1) k;refine .inr ⟨.inl k,c,e,?_⟩;have q:=x.cell y c e
   rw[nh ndP hp hu (by show scope.names.lookup y≠_;rw[k];decide)]at q
   exact q
 .exact e0.hok.fresh (G6 (x.above y c (Wi h)))
 .unfold start;show _=N.length;rw[Jm,Jg,Qy];omega
theorem AO{CX:CXT}{P:Program}{w:World}{K:Frag}{mg:Str->Option Value}{base:Heap}{k:Nat}{f:Addr}{name qual:Str}{params:Arguments}{body:List Stmt}{scope:Scope}{dV kV doc pm cdv ct oc:Value}{an od:Option Addr}
  {osl:Array (Option Value)} {N ps:List Str} {sp:Sp} (lk:K.lookup f=some ⟨oc,od,.func (fnOf name qual params body scope dV kV doc pm an cdv ct),osl⟩) (hcd:codeIn K cdv qual=true) (S:FnScope N ps scope)
  (len:∀vs H Q E,sp vs H Q E->vs.length=ps.length)
  (hbody:∀(A:Around)(outer:List Env)(s:Shared)(H:Hp)(vs:List V)(Q:VK)(E:XK),Room k (A.deeper (envOfC qual scope s.heap.objs.size f cdv))->sp vs H Q E->
   ∃t,PSs (jX CX P w K mg base N qual scope f cdv A outer s H E) body t/\t { nx:=λ_ H'=>Q .non H',rt:=Q } (start N vs) H):
  FnOk P w K mg base CX (k+1) f (fnOf name qual params body scope dV kV doc pm an cdv ct) ps sp:=by
 refine⟨len,λA outer s H args us vs Q E hr e0 hb r hsp=>?_⟩;have hl:=len _ _ _ _ hsp;have KX:K.In s.heap:=e0.mod.kin.keeps λb o e=>(e0.bs b o e).1;have lim:s.heap.NoLimit:=e0.mod.nolimit.keeps λb o e=>(e0.bs b o e).1
 have hkind:∀y∈ps.zip us,scope.names.lookup y.1=some .local\/(scope.names.lookup y.1=some .cell/\((cellsFrom (s.heap.objs.size+1) scope.names []).lookup y.1).isSome=true):=λ⟨n,v⟩ hy=>by
  rcases S.par n (V8 hy).1 with q|q
  .exact .inl q
  .exact .inr ⟨q,Vr _ _ _ (.inl q)⟩
 refine codeAny_call_function hr.depth (KX _ _ lk) rfl S.co S.gen rfl (codeRec_of KX hcd) (hb _ _ _ _ ?_);refine wpAny_newFunctionEnv_cells S.kind hkind λenv he s1 x=>?_;subst he;refine⟨lim.keeps x.toInCall.keep,codeAny_func ?_⟩;obtain⟨t,ht,hq⟩:=hbody A outer s H vs Q E (hr.deeper _) hsp;have I:Inv (jX CX P w K mg base N qual scope f cdv A outer s H E) [] (start N vs) H s1:=ni S hr.hd e0 hl r x;refine Zk (ht [] s1 (start N vs) H _ I hq) (λfl s' hs=>?_) λe s' hs=>hs
 have fin:∀{σ':St}{H':Hp}{v:V}{u:Value},Inv (jX CX P w K mg base N qual scope f cdv A outer s H E) [] σ' H' s'->RelV v u->Q v H'->CE outer P w H s Q u s':=
  λ{σ' H' v u} J rv q=>⟨v,H',J.os,J.bare,J.base,J.hok,rv,q⟩
 cases fl with
 |ret u=>
  obtain⟨v,σ',H',J,rv,q⟩:=hs;exact fin J rv q
 |next=>
  obtain⟨σ',H',J,q⟩:=hs;exact fin (v:=V.non) (u:=Value.none) J rfl q
 |brk=>
  obtain⟨_,_,_,q⟩:=hs;exact False.elim q
 |cont=>
  obtain⟨_,_,_,q⟩:=hs;exact False.elim q
section
variable{X:Cx}{x:Str}{p pos:Pos}{e:Expr}{es:List Expr}{t:TA}{id T:String}{r:List V->Hp->VK->Prop}
noncomputable def tCB(r:List V->Hp->VK->Prop)(t:TA):TE:=λσ H Q=>t σ H λvs H1=>r vs H1 Q
theorem kY(hc:bI X (.builtin id) r)(hg:Gl X x)(hm:X.mg x=none)(hv:bootBuiltins x=some (.builtin id))(ha:PA X (e::es) t)(hn:autoParam (x ≠ "__name__") zz2._auto_1)(hdb:autoParam ((x == ("__debug__":Str))=false) zz2._auto_1)
  (he:autoParam (starEach (e::es) X.env=(false,eval e X.env)::starEach es X.env) zz1._auto_1) (hpl:autoParam ((backTo pos (starEach es X.env)).any (·.1)=false) zz1._auto_1):PE X (.Call (.Name x p) (e::es) [] pos) (tCB r t):=by
 intro pins s σ H Q I h;refine Vb (jV I hg hm hv ?_ hn hdb);exact PyProof.Rows.callWith_builtin1 (thn (ha pos pins s σ H _ I h) λus s1 zq=>ex5 zq λvs H1 I1 r1 q1=>hc pins s1 σ H1 vs us Q I1 r1 q1) he hpl
theorem iF(hc:bI X (.type T) r)(hg:Gl X x)(hm:X.mg x=none)(hv:bootBuiltins x=some (.type T))(ha:PA X (e::es) t)(hn:autoParam (x ≠ "__name__") zz2._auto_1)(hdb:autoParam ((x == ("__debug__":Str))=false) zz2._auto_1)
  (he:autoParam (starEach (e::es) X.env=(false,eval e X.env)::starEach es X.env) zz1._auto_1) (hpl:autoParam ((backTo pos (starEach es X.env)).any (·.1)=false) zz1._auto_1):PE X (.Call (.Name x p) (e::es) [] pos) (tCB r t):=by
 intro pins s σ H Q I h;refine Vb (jV I hg hm hv ?_ hn hdb);exact Qq (thn (ha pos pins s σ H _ I h) λus s1 zq=>ex5 zq λvs H1 I1 r1 q1=>hc pins s1 σ H1 vs us Q I1 r1 q1) he hpl
end
end L2
namespace HT
open PySem PyProof.Rows
section
variable{prog:Program}{w:World}{A:Around}{E:Value->Shared->Prop}{s:Shared}
theorem cat_tup{t b:Addr}{vs ws:List Value}{Q:Value->Shared->Prop}(ht:IsTup s.heap t vs.toArray)(hb:IsTup s.heap b ws.toArray)(hv:vs≠[])
  (h1:ws=[]->Q (.ref t) s) (h2:ws≠[]->Q (.ref s.heap.objs.size) { s with heap:=s.heap.push { cls:=.type "tuple",data:=.seq (vs++ws).toArray } })
  (hsz:vs.length+ws.length<=sizeLine):wpAny (model prog w) A (binaryOp .Add (.ref t) (.ref b)) Q E s:=by
 obtain⟨⟨cls,dd,data,sl⟩,ho,hc,n,hd⟩:=id ht;obtain⟨⟨cls2,dd2,data2,sl2⟩,ho2,hc2,n2,hd2⟩:=id hb;simp only at hc hd hc2 hd2;subst hc hd hc2 hd2
 have e:vs.toArray++ws.toArray=(vs++ws).toArray:=by simp
 by_cases hw:ws=[]
 .exact concat_meets ⟨_,ho,rfl⟩ ⟨_,ho2,rfl⟩ noFill_tuple_add seq_tuple_add Vs Vg (Vc _ _)
   (tuple_addW1 t b vs.toArray ws.toArray n n2 dd dd2 sl sl2 (by simpa using hv) (by simp[hw])) ⟨ho,ho2,h1 hw⟩
 .refine concat_meets ⟨_,ho,rfl⟩ ⟨_,ho2,rfl⟩ noFill_tuple_add seq_tuple_add Vs Vg (Vc _ _)
   (tuple_addW2 t b vs.toArray ws.toArray n n2 dd dd2 sl sl2 (by simpa using hv) (by simpa using hw) (by rw[Jr,Jr];exact hsz)) ⟨ho,ho2,?_⟩
  rw[e];exact h2 hw
noncomputable def sIx(n d:Nat):Option Int->Nat
 |none=>d
 |some v=>if v<0 then (v+(n:Int)).toNat else min v.toNat n
theorem BL(n d:Nat)(hd:d<=n)(o:Option Int):sIx n d o<=n:=by
 cases o with
 |none=>exact hd
 |some v=>
  show(if v<0 then (v+(n:Int)).toNat else min v.toNat n)<=n
  by_cases hv:v<0
  .rw[Je hv];omega
  .rw[Ji hv];exact Nat.min_le_right _ _
theorem tw(v:Int)(n d:Nat):(if v<0 then max (v+(n:Int)) 0 else min v (n:Int))=((sIx n d (some v):Nat):Int):=by
 show(if v<0 then max (v+(n:Int)) 0 else min v (n:Int))=(((if v<0 then (v+(n:Int)).toNat else min v.toNat n):Nat):Int)
 by_cases hv:v<0
 .simp only[Je hv];omega
 .simp only[Ji hv];omega
theorem rK(lo hi:Option Int)(n:Nat):Builtin.Slice.sliceAdjust lo hi 1 (n:Int)=(((sIx n 0 lo:Nat):Int),((sIx n n hi:Nat):Int)):=by
 have h1:¬((1:Int)<0):=by omega
 unfold Builtin.Slice.sliceAdjust;simp only[h1,Yp];refine Prod.ext ?_ ?_
 .cases lo with
  |none=>rfl
  |some v=>exact tw v n 0
 .cases hi with
  |none=>rfl
  |some v=>exact tw v n n
theorem rL(i j:Nat):Builtin.Slice.slicePlaces (i:Int) (j:Int) 1=j-i:=by
 unfold Builtin.Slice.slicePlaces
 have h1:(1:Int)>0:=by omega
 simp only[h1,Z0,Int.ediv_one];split<;>omega
theorem gy{v:Value}{o:Option Int}{Q:Option Int->Shared->Prop}(p:IsPart v o)(h:Q o s):wpAny (model prog w) A (Builtin.Slice.slicePartIndex v) Q E s:=by
 cases p with
 |none=>exact slicePart_none h
 |int i t=>exact slicePart_int h
theorem gb{sl:Addr}{vl vu:Value}{lo hi:Option Int}{n:Nat}{Q:Int×Int×Nat->Shared->Prop}(hs:s.heap.IsSliceOf sl vl vu .none)(pl:IsPart vl lo)(pu:IsPart vu hi)
  (h:Q (((sIx n 0 lo:Nat):Int),1,sIx n n hi-sIx n 0 lo) s):wpAny (model prog w) A (Builtin.Slice.sliceApplied (.ref sl) (pure (n:Int))) Q E s:=by
 obtain⟨os,hos,hcs,hds⟩:=id hs;unfold Builtin.Slice.sliceApplied Builtin.Slice.sliceFields;refine J9 (J9 (Z4 hos hds (x:=vl) rfl (J9 (Z4 hos hds (x:=vu) rfl (J9 (Z4 hos hds (x:=.none) rfl (Ja ?_)))))));refine J9 (slicePart_none ?_)
 show wpAny _ _ (if ((1:Int) == 0)=true then _ else _) _ _ s
 rw[Ji (by decide)]
 refine J9 (gy pl (J9 (gy pu (J9 (Ja ?_)))))
 show wpAny _ _ (match Builtin.Slice.sliceAdjust lo hi 1 (n:Int) with|(lo,hi)=>pure (lo,(1:Int),Builtin.Slice.slicePlaces lo hi 1)) _ _ s
 rw[rK lo hi n];show wpAny _ _ (pure (((sIx n 0 lo:Nat):Int),(1:Int),Builtin.Slice.slicePlaces ((sIx n 0 lo:Nat):Int) ((sIx n n hi:Nat):Int) 1)) _ _ s;rw[rL];exact Ja h
theorem wB(xs:Array Value)(i k:Nat):((List.range k).filterMap λ(m:Nat)=>xs[((i:Int)+(m:Int)*1).toNat]?).toArray=((xs.toList.drop i).take k).toArray:=by
 have e:(λ(m:Nat)=>xs[((i:Int)+(m:Int)*1).toNat]?)=λm=>xs[i+m]?:=by
  funext m
  have:((i:Int)+(m:Int)*1).toNat=i+m:=by omega
  rw[this]
 rw[e];have:=pick_run xs i k;rw[List.filterMap_map]at this;have e2:((λx=>xs[x]?)∘λx=>i+x)=λm=>xs[i+m]?:=rfl;rw[e2]at this;rw[this]
theorem getItem_tuple_cut{t sl:Addr}{items:Array Value}{vl vu:Value}{lo hi:Option Int}{Q:Value->Shared->Prop}(ht:IsTup s.heap t items)(hs:s.heap.IsSliceOf sl vl vu .none)(pl:IsPart vl lo)(pu:IsPart vu hi)
  (hw:¬(sIx items.size 0 lo=0/\sIx items.size items.size hi=items.size))
  (h:Q (.ref s.heap.objs.size) { s with heap:=s.heap.push { cls:=.type "tuple",data:=.seq ((items.toList.drop (sIx items.size 0 lo)).take (sIx items.size items.size hi-sIx items.size 0 lo)).toArray } })
  (hsz:items.size<=sizeLine):wpAny (model prog w) A (getItem (.ref t) (.ref sl)) Q E s:=by
 have htake:sizeOk (.seq ((items.toList.drop (sIx items.size 0 lo)).take (sIx items.size items.size hi-sIx items.size 0 lo)).toArray):=by show((items.toList.drop (sIx items.size 0 lo)).take (sIx items.size items.size hi-sIx items.size 0 lo)).toArray.size<=sizeLine;rw[Jr,Zx,Wa,Jz];omega
 have hj:sIx items.size items.size hi<=items.size:=BL _ _ (Jd _) hi;obtain⟨os,hos,hcs,hds⟩:=id hs;have hTs:s.TypeIs (.ref sl) "slice":=⟨os,hos,hcs⟩
 unfold getItem
 try with_reducible refine Yi ?_
 first|refine J9 (Ja ?_)|skip
 refine J9 (G0 ht.typeIs (by decide) ?_)
 refine J9 (Yr (name:=Str.ofString "__getitem__") ht.typeIs Zh
  (Yo Zh ht.typeIs entry_tuple_getitem ?_ (args_tuple_getitem _ _)))
 show wpAny _ _ (Builtin.Tuple.tupleItemsOf (.ref t) >>= _) _ _ s;refine J9 (tupleItemsOf_ ht ?_);refine J9 (Qs hTs ?_)
 rw[Je (by decide)]
 refine J9 (gb hs pl pu ?_)
 have hno:¬((((sIx items.size 0 lo:Nat):Int) == 0&&(1:Int) == 1&&(sIx items.size items.size hi-sIx items.size 0 lo) == items.size)=true):=by
  intro q;rw[Yd,Yd]at q;have q1:((sIx items.size 0 lo:Nat):Int)=0:=eq_of_beq q.1.1;have q2:sIx items.size items.size hi-sIx items.size 0 lo=items.size:=eq_of_beq q.2
  exact hw ⟨by omega,by omega⟩
 show wpAny _ _ (if (((sIx items.size 0 lo:Nat):Int) == 0&&(1:Int) == 1&&(sIx items.size items.size hi-sIx items.size 0 lo) == items.size)=true then _ else _) _ _ s
 rw[Ji hno,wB]
 first
  |exact J9 (m:=Builtin.Tuple.tupleExact _) (Y9 (Ja ⟨_,rfl,Ja h⟩) htake)
  |exact J9 (m:=Builtin.Tuple.tupleExact _) (Y9 (J9 (Ja (Ja ⟨_,rfl,Ja h⟩))) htake)
  |exact J9 (J9 (m:=Builtin.Tuple.tupleExact _) (Y9 (Ja (Ja ⟨_,rfl,Ja h⟩)) htake))
  |exact J9 (J9 (m:=Builtin.Tuple.tupleExact _) (Y9 (Ja ⟨_,rfl,Ja h⟩) htake))
end
end HT
namespace L2
open PySem PySem.Spec PyProof.Rows
variable{pins:List (Addr×Obj)}{σ:St}{H:Hp}{s:Shared}{u v:Value}{P:Program}{w:World}{xs:List (List Key×Addr×Value)}{Q:Value→Shared→Prop}{X:Cx}{pos:Pos}
noncomputable abbrev TO:=St->Hp->(Option Int->Hp->Prop)->Prop
def PO(X:Cx)(e:Option Expr)(t:TO):Prop:=
 ∀(pins:List (Addr×Obj))(s:Shared)(σ:St)(H:Hp)(Q:Option Int->Hp->Prop),Inv X pins σ H s->t σ H Q->
  wpAny (model X.prog X.w) X.A (evalPart e X.env) (λu s'=>∃o H',Inv X pins σ H' s'/\IsPart u o/\Q o H') X.xe s
noncomputable def y6:TO:=λ_ H Q=>Q none H
noncomputable def DT(t:TE):TO:=λσ H Q=>t σ H λx H1=>∃i,x=.int i/\Q (some i) H1
section
variable{X:Cx}{e:Expr}{te:TE}{lo hi:Option Expr}{tl th:TO}{pos p2:Pos}
theorem y8:PO X none y6:=by intro pins s σ H Q I h;rw[evalPart_none];exact Ja ⟨none,H,I,.none,h⟩
theorem y9(h:PE X e te):PO X (some e) (DT te):=by intro pins s σ H Q I hw;rw[evalPart_some];refine thn (h pins s σ H _ I hw) λu s1 zq=>?_;obtain⟨x,H1,I1,r1,q1⟩:=zq;obtain⟨i,rfl,q⟩:=q1;obtain⟨t,rfl⟩:=r1;exact⟨some i,H1,I1,.int i t,q⟩
def SlR(X:Cx)(r:V->Option Int->Option Int->Hp->VK->Prop):Prop:=
 ∀(pins:List (Addr×Obj))(s:Shared)(σ:St)(H:Hp)(x:V)(v vl vu:Value)(lo hi:Option Int)(sl:Addr)(Q:VK),Inv X pins σ H s->RelV x v->s.heap.IsSliceOf sl vl vu .none->IsPart vl lo->IsPart vu hi->r x lo hi H Q->
  ∃T id,typeLookup (.type T) "__getitem__" = pure (some (.builtin id))/\s.TypeIs v T/\wpAny (model X.prog X.w) X.A (getItem v (.ref sl)) (EP X pins σ Q) X.xe s
noncomputable def tSl(r:V->Option Int->Option Int->Hp->VK->Prop)(te:TE)(tl th:TO):TE:=λσ H Q=>te σ H λx H1=>tl σ H1 λl H2=>th σ H2 λu H3=>r x l u H3 Q
theorem wC{r:V->Option Int->Option Int->Hp->VK->Prop}(hr:SlR X r)(he:PE X e te)(hl:PO X lo tl)(hu:PO X hi th):PE X (.Subscript e (.Slice lo hi none p2) pos) (tSl r te tl th):=by
 intro pins s σ H Q I h;refine Subscript_ (thn (he pins s σ H _ I h) λv s1 zq=>?_);obtain⟨x,H1,I1,r1,q1⟩:=zq;refine wpAny_Slice (thn (hl pins s1 σ H1 _ I1 q1) λvl s2 zq=>ex5 zq λl H2 I2 pl q2=>thn (hu pins s2 σ H2 _ I2 q2) λvu s3 zq=>?_);obtain⟨u,H3,I3,pu,q3⟩:=zq;rw[evalPart_none];refine Ja ?_
 have I4:Inv X pins σ H3 { s3 with heap:=s3.heap.push { cls:=.type "slice",data:=.fields #[vl,vu,.none] } }:=I3.kept (t':=s3.toks) λb ob q=>Jb _ q
 obtain⟨T,id,hT,ht,hg⟩:=hr pins { s3 with heap:=s3.heap.push { cls:=.type "slice",data:=.fields #[vl,vu,.none] } } σ H3 x v vl vu l u s3.heap.objs.size Q I4 r1 (Heap.IsSliceOf.new ..) pl pu q3
 show wpAny (model X.prog X.w) X.A (subscriptTail e (.Slice lo hi none p2) v (.ref s3.heap.objs.size)) (EP X pins σ Q) X.xe { s3 with heap:=s3.heap.push { cls:=.type "slice",data:=.fields #[vl,vu,.none] } }
 exact tail_any (ops:=[.ref s3.heap.objs.size,v]) ht hT hg (by with_unfolding_all rfl)
noncomputable def pH(xs:List V)(lo hi:Option Int):List V:=(xs.drop (HT.sIx xs.length 0 lo)).take (HT.sIx xs.length xs.length hi-HT.sIx xs.length 0 lo)
theorem kr(xs:List V)(lo hi:Option Int):(pH xs lo hi).length<=xs.length:=by unfold pH;rw[Zx,Wa];omega
noncomputable def EL(K:Frag):V->Option Int->Option Int->Hp->VK->Prop:=λx lo hi H Q=>∃a xs,x=.ref a/\SqT K H a xs/\
 ¬(HT.sIx xs.length 0 lo=0/\HT.sIx xs.length xs.length hi=xs.length)/\∀p,H p=none->Q (.ref p) (upd H p (.tup (pH xs lo hi)))
theorem BM:SlR X (EL X.K):=by
 intro pins s σ H x v vl vu lo hi sl Q I rx hs pl pu h;obtain⟨a,xs,rfl,hx,hw,q⟩:=h;cases rx;obtain⟨its,r,ht,hz⟩:=I.tuple hx
 have hlen:its.toArray.size=xs.length:=by rw[Jr];exact r.length.symm
 refine⟨"tuple",_,PyProof.Rows.slot_tuple_getitem.lookup,ht.typeIs,?_⟩
 refine HT.getItem_tuple_cut ht hs pl pu (by rw[hlen];exact hw) ?_ (by rw[hlen];exact hz)
 rw[hlen];refine⟨.ref s.heap.objs.size,_,I.laid (t':=s.toks) (o:=.tup (pH xs lo hi)) (λb ob q=>Jb _ q) (Jd _) ?_,rfl,q _ (I.hok.fresh (Jd _))⟩;exact⟨Ys (kr xs lo hi) hz,_,(r.drop (HT.sIx xs.length 0 lo)).take (HT.sIx xs.length xs.length hi-HT.sIx xs.length 0 lo),IsTup.new _ _⟩
noncomputable def DU(K:Frag):R2:=λx y H Q=>∃a b xs ys,x=.ref a/\y=.ref b/\SqT K H a xs/\SqT K H b ys/\xs≠[]/\xs.length+ys.length<=sizeLine/\
 (ys=[]->Q (.ref a) H)/\(ys≠[]->∀p,H p=none->Q (.ref p) (upd H p (.tup (xs++ys))))
theorem Vals.nil_iff{xs:List V}{us:List Value}(r:Vals xs us):us=[]↔xs=[]:=by
 cases r with
 |nil=>simp
 |cons _ _=>simp
theorem zc:OpR X (binaryOp .Add) (DU X.K):=by
 intro pins s σ H x y v u Q I rx ry h;obtain⟨a,b,xs,ys,rfl,rfl,ha,hb,hx,hz,q1,q2⟩:=h;cases rx;cases ry;obtain⟨its,r1,p1,_⟩:=I.tuple ha;obtain⟨its2,r2,p2,_⟩:=I.tuple hb
 refine HT.cat_tup p1 p2 (λz=>hx (r1.nil_iff.mp z)) (λz=>⟨.ref a,H,I,rfl,q1 (r2.nil_iff.mp z)⟩) (λz=>?_) (by rw[<- r1.length,<- r2.length];exact hz)
 refine⟨.ref s.heap.objs.size,_,I.laid (t':=s.toks) (o:=.tup (xs++ys)) (λb ob q=>Jb _ q) (Jd _) ?_,rfl,q2 (λw=>z (r2.nil_iff.mpr w)) _ (I.hok.fresh (Jd _))⟩
 exact⟨by rw[Jm];exact hz,_,r1.append r2,IsTup.new _ _⟩
end
noncomputable def ixN(n:Nat)(i:Int):Option Nat:=if 0<=i then (if i<n then some i.toNat else none) else if -(n:Int)<=i then some (i+n).toNat else none
noncomputable def atI{α:Type}(xs:List α)(i:Int):Option α:=(ixN xs.length i).bind λj=>xs[j]?
theorem tD{n:Nat}{i:Int}{j:Nat}(h:ixN n i=some j):seqIndex? i n=some j/\j<n/\-(n:Int)<=i/\i<n:=by
 unfold ixN at h;by_cases h0:0<=i
 .rw[Je h0]at h;by_cases h1:i<n
  .rw[Je h1]at h;have e:i.toNat=j:=Yk h
   exact⟨by rw[seqIndex_of h0 h1,e],by omega,by omega,h1⟩
  .rw[Ji h1]at h;cases h
 .rw[Ji h0]at h;by_cases h1:-(n:Int)<=i
  .rw[Je h1]at h;have e:(i+n).toNat=j:=Yk h
   exact⟨by rw[seqIndex_neg (by omega) h1,e],by omega,h1,by omega⟩
  .rw[Ji h1]at h;cases h
theorem n5{α:Type}{xs:List α}{i:Int}{v:α}(h:atI xs i=some v):∃j,seqIndex? i xs.length=some j/\xs[j]?=some v/\j<xs.length/\-(xs.length:Int)<=i/\i<xs.length:=by
 unfold atI at h;cases e:ixN xs.length i with
 |none=>rw[e]at h;cases h
 |some j=>
  rw[e]at h;obtain⟨h1,h2,h3,h4⟩:=tD e;exact⟨j,h1,h,h2,h3,h4⟩
theorem zd{α:Type}{xs:List α}{j:Nat}{v:α}(h:xs[j]?=some v):atI xs (j:Int)=some v:=by
 have hj:j<xs.length:=(Jf.mp h).1
 have e:ixN xs.length (j:Int)=some j:=by
  unfold ixN
  rw[Je (by omega),Je (by omega)];simp
 unfold atI;rw[e];exact h
def tE(b:Expr):Prop:=∀o i,subscripted b false o i=operate [o,i] (getItem o i)
def IxR(X:Cx)(r:R2):Prop:=
 ∀(value slice:Expr)(pins:List (Addr×Obj))(s:Shared)(σ:St)(H:Hp)(x y:V)(v u:Value)(Q:VK),Inv X pins σ H s->RelV x v->RelV y u->r x y H Q->
  subscripted slice false v u=operate [v,u] (getItem v u)->wpAny (model X.prog X.w) X.A (subscriptTail value slice v u) (EP X pins σ Q) X.xe s
def MtR(X:Cx)(id:String)(r:V->List V->Hp->VK->Prop):Prop:=
 ∀(pins:List (Addr×Obj))(s:Shared)(σ:St)(H:Hp)(x:V)(xs:List V)(v:Value)(us:List Value)(Q:VK),Inv X pins σ H s->RelV x v->Vals xs us->r x xs H Q->
  wpAny (model X.prog X.w) X.A (call (.builtin id) (v::us)) (EP X pins σ Q) X.xe s
section
variable{X:Cx}{a b:Expr}{ta tb:TE}{pos:Pos}
theorem IxR.or{r r':R2}(h:IxR X r)(h':IxR X r'):IxR X (λx y H Q=>r x y H Q\/r' x y H Q):=by
 intro value slice pins s σ H x y v u Q I rx ry q hs;rcases q with q|q
 .exact h value slice pins s σ H x y v u Q I rx ry q hs
 .exact h' value slice pins s σ H x y v u Q I rx ry q hs
theorem DV{r:R2}(hr:IxR X r)(ha:PE X a ta)(hb:PE X b tb)(hs:tE b):PE X (.Subscript a b pos) (tOp r ta tb):=by intro pins s σ H Q I h;exact Subscript_ (By ha hb I h λv u s2 x y H2 I2 rx ry q=>hr a b pins s2 σ H2 x y v u Q I2 rx ry q (hs _ _))
noncomputable def DW(K:Frag):R2:=λx y H Q=>∃p xs i v,x=.ref p/\y=.int i/\SqL K H p xs/\atI xs i=some v/\Q v H
noncomputable def DX(K:Frag):R2:=λx y H Q=>∃p xs i v,x=.ref p/\y=.int i/\SqT K H p xs/\atI xs i=some v/\Q v H
noncomputable def DY:R2:=λx y H Q=>∃z i c,x=.str z/\y=.int i/\z.length<=sizeLine/\atI z.cps.toList i=some c/\Q (.str ⟨#[c]⟩) H
theorem ze:IxR X (DW X.K):=by
 intro value slice pins s σ H x y v u Q I rx ry h hs;obtain⟨p,xs,i,z,rfl,rfl,hq,he,q⟩:=h;cases rx;obtain⟨t,rfl⟩:=ry;obtain⟨its,r,pl,hz⟩:=I.list hq;obtain⟨j,h1,h2,h3,h4,h5⟩:=n5 he;obtain⟨w,ew,rw'⟩:=r.get h2;have hl:=r.length;have hn:=jW;have fin:EP X pins σ Q w s:=⟨z,H,I,rw',q⟩;by_cases h0:0<=i
 .have hj:i.toNat=j:=by rw[seqIndex_of h0 h5]at h1;exact Yk h1
  exact item_listR pl.isList h0 (by omega) (by rw[hj];simpa using ew) fin hs
 .have hj:(i+(its.toArray.size:Int)).toNat=j:=by
   rw[seqIndex_neg (by omega) h4]at h1
   rw[Jr,<- hl];exact Yk h1
  exact subscriptTail_builtinR (x:=w) pl.isList.typeIs slot_list_getitem.lookup
   (wpAny_getItem_list_neg (Q:=λr s'=>r=w/\EP X pins σ Q r s') pl.isList (by omega) (by rw[Jr]<;>omega) (by omega) (by rw[hj];simpa using ew) ⟨rfl,fin⟩) hs
theorem kZ:IxR X (DX X.K):=by
 intro value slice pins s σ H x y v u Q I rx ry h hs;obtain⟨p,xs,i,z,rfl,rfl,hq,he,q⟩:=h;cases rx;obtain⟨t,rfl⟩:=ry;obtain⟨its,r,pl,hz⟩:=I.tuple hq;obtain⟨j,h1,h2,h3,h4,h5⟩:=n5 he;obtain⟨w,ew,rw'⟩:=r.get h2;have hl:=r.length;have hn:=jW;have fin:EP X pins σ Q w s:=⟨z,H,I,rw',q⟩;exact subscriptTail_builtinR (x:=w) pl.typeIs slot_tuple_getitem.lookup
  (getItem_tuple (j:=j) (Q:=λr s'=>r=w/\EP X pins σ Q r s') pl (by omega) (by omega) (by rw[Jr,<- hl];exact h1) (by simpa using ew) ⟨rfl,fin⟩) hs
theorem BN:IxR X DY:=by
 intro value slice pins s σ H x y v u Q I rx ry h hs;obtain⟨z,i,c,rfl,rfl,hz,he,q⟩:=h;obtain⟨t,rfl⟩:=rx;obtain⟨t',rfl⟩:=ry;obtain⟨j,h1,h2,h3,h4,h5⟩:=n5 he
 have hl:z.cps.toList.length=z.length:=by simp[Str.length]
 rw[hl]at h1 h4 h5;have hn:=jW
 exact tail_any (typeIs_str s z t) slot_str_getitem.lookup (getItem_str (c:=c) (by
  have e1:decide (i < -(2^63:Int))=false:=Yb (by omega)
  have e2:decide (i >= 2^63)=false:=Yb (by omega)
  rw[e1,e2,Bool.or_false]) (by rw[h1];simpa using h2) ⟨.str ⟨#[c]⟩,H,I.tok _,⟨_,rfl⟩,q⟩) hs
noncomputable def rIx(K:Frag):R2:=λx y H Q=>DW K x y H Q\/DX K x y H Q\/DY x y H Q
theorem BO:IxR X (rIx X.K):=ze.or (kZ.or BN)
theorem rM(its:List Value)(n j:Nat)(u:Value):Obj.mapSeq (·.setIfInBounds j u) { cls:=.type "list",data:=.seq its.toArray n }={ cls:=.type "list",data:=.seq (its.set j u).toArray n }:=by simp[Obj.mapSeq]
theorem Inv.lst{pins:List (Addr×Obj)}{σ:St}{H:Hp}{s:Shared}{p:Addr}{xs:List V}(I:Inv X pins σ H s)(h:H p=some (.lst xs)):
  ∃(its:List Value)(n:Nat),Vals xs its/\s.heap.get? p=some { cls:=.type "list",data:=.seq its.toArray n }/\xs.length<=sizeLine:=by
 obtain⟨z,its,n,r,e⟩:=I.hok p _ h;exact⟨its,n,r,e,z⟩
theorem Inv.lstUpd{p:Addr}{xs ys:List V}{its its':List Value}{n n':Nat}{f:Obj->Obj}(I:Inv X pins σ H s)(h:H p=some (.lst xs))
  (ho:s.heap.get? p=some { cls:=.type "list",data:=.seq its.toArray n }) (hf:f { cls:=.type "list",data:=.seq its.toArray n }={ cls:=.type "list",data:=.seq its'.toArray n' }) (r:Vals ys its') (hz:ys.length<=sizeLine) (t:Nat):
  Inv X pins σ (upd H p (.lst ys)) { s with heap:=s.heap.update p f,toks:=t }:=by
 have e:(s.heap.update p f).get? p=some { cls:=.type "list",data:=.seq its'.toArray n' }:=by rw[Zs f ho (by rw[hf]<;>rfl),hf]
 refine I.write (x:=p) (e:=p) (by rw[h];trivial) (.inl rfl) (λb u hb q=>(Yu _ _ (Ne.symm hb)).trans q) ⟨_,e⟩ ?_
 exact⟨hz,its',n',r,e⟩
noncomputable def DZ:V->V->V->Hp->(Hp->Prop)->Prop:=λo i v H Q=>∃p xs k j,o=.ref p/\i=.int k/\H p=some (.lst xs)/\ixN xs.length k=some j/\Q (upd H p (.lst (xs.set j v)))
theorem set_list:nZ X DZ:=by
 intro pins s σ H o i v ov iv u Q I ro ri rv h;obtain⟨p,xs,k,j,rfl,rfl,hp,hj,q⟩:=h;cases ro;obtain⟨t,rfl⟩:=ri;obtain⟨its,n,r,ho,hz⟩:=I.lst hp;obtain⟨h1,h2,h3,h4⟩:=tD hj;have hl:=r.length;have hn:=jW
 have I':Inv X pins σ (upd H p (.lst (xs.set j v))) { s with heap:=s.heap.update p (Obj.mapSeq (·.setIfInBounds j u)) }:=
  I.lstUpd hp ho (rM its n j u) (r.set rv j) (by rw[Zy];exact hz) s.toks
 by_cases h0:0<=k
 .have hk:k.toNat=j:=by rw[seqIndex_of h0 h4]at h1;exact Yk h1
  exact ki_setAt ho h0 (by omega) (by rw[Jr,<- hl];exact h4) (by rw[hk];exact⟨_,I',q⟩)
 .have hk:(k+(its.toArray.size:Int)).toNat=j:=by
   rw[seqIndex_neg (by omega) h3]at h1
   rw[Jr,<- hl];exact Yk h1
  exact ki_setBack ho (by omega) (by rw[Jr,<- hl];exact h3) (by omega) (by rw[hk];exact⟨_,I',q⟩)
theorem n6(lo hi:Option Int)(n:Nat):(sliceBounds lo hi none n).1=((HT.sIx n 0 lo:Nat):Int)/\(sliceBounds lo hi none n).2.1=((HT.sIx n n hi:Nat):Int)/\(sliceBounds lo hi none n).2.2=1:=by
 refine⟨?_,?_,rfl⟩
 .cases lo with
  |none=>simp[sliceBounds,HT.sIx]
  |some i=>
   simp only[sliceBounds,HT.sIx,Option.getD_none,show(1:Int)>0 by decide,Z0]
   by_cases h:i<0
   .simp only[h,Z0]<;>omega
   .simp only[h,Yp]<;>omega
 .cases hi with
  |none=>simp[sliceBounds,HT.sIx]
  |some i=>
   simp only[sliceBounds,HT.sIx,Option.getD_none,show(1:Int)>0 by decide,Z0]
   by_cases h:i<0
   .simp only[h,Z0]<;>omega
   .simp only[h,Yp]<;>omega
theorem mU(its:List Value)(lo hi:Option Int):slicePick its.toArray lo hi none=((its.drop (HT.sIx its.length 0 lo)).take (HT.sIx its.length its.length hi-HT.sIx its.length 0 lo)).toArray:=by obtain⟨h1,h2,h3⟩:=n6 lo hi its.toArray.size;unfold slicePick;rw[h1,h2,h3];simp only[sliceRange_one,pick_run,Jr]<;>rfl
noncomputable def EN(K:Frag):V->Option Int->Option Int->Hp->VK->Prop:=λx lo hi H Q=>∃a xs,x=.ref a/\SqL K H a xs/\∀p,H p=none->Q (.ref p) (upd H p (.lst (pH xs lo hi)))
theorem tF:SlR X (EN X.K):=by
 intro pins s σ H x v vl vu lo hi sl Q I rx hs pl pu h;obtain⟨a,xs,rfl,hx,q⟩:=h;cases rx;obtain⟨its,r,ht,hz⟩:=I.list hx;have hlen:=r.length;refine⟨"list",_,slot_list_getitem.lookup,ht.isList.typeIs,?_⟩
 refine wpAny_getItem_list_slice ht.isList hs pl pu .none (by simp) ?_ (by rw[Jr]<;>omega)
 rw[mU,<- hlen];refine⟨.ref s.heap.objs.size,_,I.laid (t':=s.toks) (o:=.lst (pH xs lo hi)) (λb ob q=>Jb _ q) (Jd _) ?_,rfl,q _ (I.hok.fresh (Jd _))⟩;exact⟨Ys (kr xs lo hi) hz,_,0,(r.drop (HT.sIx xs.length 0 lo)).take (HT.sIx xs.length xs.length hi-HT.sIx xs.length 0 lo),Jo _ rfl⟩
noncomputable def iT:V->Bool
 |.non=>true
 |.bl _=>true
 |.int _=>true
 |.str _=>true
 |_=>false
noncomputable def eqV:V->V->Bool
 |.non,.non=>true
 |.bl a,.bl b=>a == b
 |.bl a,.int b=>(if a then 1 else 0) == b
 |.int a,.bl b=>a == (if b then 1 else 0)
 |.int a,.int b=>a == b
 |.str a,.str b=>a == b
 |_,_=>false
theorem BP{A:Around}{y x:V}(ry:RelV y u)(rx:RelV x v)(fy:iT y=true)(fx:iT x=true):SeqAt.EqAt A s u v (eqV y x):=by
 cases y with
 |non=>
  cases ry;cases x with
  |non=>cases rx;exact SeqAt.EqAt.same _
  |bl b=>cases rx;exact SeqAt.EqAt.none_bool b
  |int b=>obtain⟨t,rfl⟩:=rx;exact SeqAt.EqAt.none_int b t
  |str b=>obtain⟨t,rfl⟩:=rx;exact SeqAt.EqAt.none_str b t
  |_=>exact absurd (show false=true from fx) Jj
 |bl a=>
  cases ry;cases x with
  |non=>cases rx;exact SeqAt.EqAt.bool_none a
  |bl b=>cases rx;exact SeqAt.EqAt.bool_bool a b
  |int b=>obtain⟨t,rfl⟩:=rx;exact SeqAt.EqAt.bool_int a b t
  |str b=>obtain⟨t,rfl⟩:=rx;exact SeqAt.EqAt.bool_str a b t
  |_=>exact absurd (show false=true from fx) Jj
 |int a=>
  obtain⟨t',rfl⟩:=ry;cases x with
  |non=>cases rx;exact SeqAt.EqAt.int_none a t'
  |bl b=>cases rx;exact SeqAt.EqAt.int_bool a t' b
  |int b=>obtain⟨t,rfl⟩:=rx;exact SeqAt.EqAt.int_int a t' b t
  |str b=>obtain⟨t,rfl⟩:=rx;exact SeqAt.EqAt.int_str a t' b t
  |_=>exact absurd (show false=true from fx) Jj
 |str a=>
  obtain⟨t',rfl⟩:=ry;cases x with
  |non=>cases rx;exact SeqAt.EqAt.str_none a t'
  |bl b=>cases rx;exact SeqAt.EqAt.str_bool a t' b
  |int b=>obtain⟨t,rfl⟩:=rx;exact SeqAt.EqAt.str_int a t' b t
  |str b=>obtain⟨t,rfl⟩:=rx;exact SeqAt.EqAt.str_str a t' b t
  |_=>exact absurd (show false=true from fx) Jj
 |_=>exact absurd (show false=true from fy) Jj
noncomputable def eqU(x:V)(u:Value):Bool:=match u with
 |.none=>eqV .non x
 |.bool b=>eqV (.bl b) x
 |.int i _=>eqV (.int i) x
 |.str z _=>eqV (.str z) x
 |_=>false
theorem wD{x y:V}(r:RelV y u)(f:iT y=true):eqU x u=eqV y x:=by
 cases y with
 |non=>cases r;rfl
 |bl b=>cases r;rfl
 |int i=>obtain⟨t,rfl⟩:=r;rfl
 |str z=>obtain⟨t,rfl⟩:=r;rfl
 |_=>exact absurd (show false=true from f) Jj
theorem n8{x:V}:∀{xs:List V}{us:List Value},Vals xs us->xs.all iT=true->us.any (eqU x)=xs.any λy=>eqV y x
 |_,_,.nil,_=>rfl
 |y::xs,u::us,.cons r t,f=>by rw[Q2,Yd]at f;rw[Qc,Qc,wD r f.1,n8 t f.2]
theorem lh{A:Around}{x:V}(rx:RelV x v)(fx:iT x=true):∀{xs:List V}{us:List Value},Vals xs us->xs.all iT=true->∀u∈us,SeqAt.EqAt A s u v (eqU x u)
 |_,_,.nil,_=>λu hu=>by cases hu
 |y::xs,u::us,.cons r t,f=>λu' hu=>by
  rw[Q2,Yd]at f;rcases Jq.mp hu with rfl|hu
  .rw[wD r f.1];exact BP r rx f.1 fx
  .exact lh rx fx t f.2 u' hu
noncomputable def inV(x:V)(xs:List V):Bool:=xs.any λy=>eqV y x
noncomputable def rIn(K:Frag)(neg:Bool):R2:=λx y H Q=>∃p xs,y=.ref p/\(SqL K H p xs\/SqT K H p xs)/\iT x=true/\xs.all iT=true/\Q (.bl (if neg then !inV x xs else inV x xs)) H
theorem n9:OpR X (compareOp .NotIn) (rIn X.K true):=by
 intro pins s σ H x y v u Q I rx ry h;obtain⟨p,xs,rfl,hq,fx,fs,q⟩:=h;cases ry;rcases hq with hq|hq
 .obtain⟨its,r,pl,hz⟩:=I.list hq
  refine SeqAt.notIn_listAt (eqU x) pl.isList (λw hw=>lh rx fx r fs w (by simpa using hw)) ⟨.bl _,H,I,rfl,?_⟩
  rw[show its.toArray.any (eqU x)=its.any (eqU x) by simp,n8 r fs]
  exact q
 .obtain⟨its,r,pl,hz⟩:=I.tuple hq
  refine SeqAt.notIn_tupleAt (eqU x) pl (λw hw=>lh rx fx r fs w (by simpa using hw)) ⟨.bl _,H,I,rfl,?_⟩
  rw[show its.toArray.any (eqU x)=its.any (eqU x) by simp,n8 r fs]
  exact q
theorem og:bI X (.builtin "len") (λxs H Q=>∃p ys,xs=[.ref p]/\(SqL X.K H p ys\/SqT X.K H p ys)/\Q (.int ys.length) H):=by
 intro pins s σ H xs us Q I r h;obtain⟨p,ys,rfl,hq,q⟩:=h;obtain⟨u,rfl,rx⟩:=Wx r;cases rx;have hn:=jW;rcases hq with hq|hq
 .obtain⟨its,r',pl,hz⟩:=I.list hq;have hlen:=r'.length
  exact Calls.call_len_list pl.isList (by simp only[Jr]<;>omega) ⟨.int ys.length,H,I.tok _,⟨s.toks+1,by rw[Jr,hlen]⟩,q⟩
 .obtain⟨its,r',pl,hz⟩:=I.tuple hq;have hlen:=r'.length
  exact len_tuple pl (by simp only[Jr]<;>omega) ⟨.int ys.length,H,I.tok _,⟨s.toks+1,by rw[Jr,hlen]⟩,q⟩
theorem oh:bI X (.builtin "len") (λxs H Q=>∃z,xs=[.str z]/\z.length<=sizeLine/\Q (.int z.length) H):=by
 intro pins s σ H xs us Q I r h;obtain⟨z,rfl,hz,q⟩:=h;obtain⟨u,rfl,t,rfl⟩:=Wx r;have hn:=jW
 exact len_str (by omega) ⟨.int z.length,H,I.tok _,⟨_,rfl⟩,q⟩
theorem oi:bI X (.type "list") (λxs H Q=>∃p ys,xs=[.ref p]/\(SqL X.K H p ys\/SqT X.K H p ys)/\∀l,H l=none->Q (.ref l) (upd H l (.lst ys))):=by
 intro pins s σ H xs us Q I r h;obtain⟨p,ys,rfl,hq,q⟩:=h;obtain⟨u,rfl,rx⟩:=Wx r;cases rx
 have fin:∀(its:List Value),Vals ys its->ys.length<=sizeLine->∀(h':Heap)(c':Nat),(∀b o',s.heap.get? b=some o'->h'.get? b=some o')->
   h'.get? s.heap.objs.size=some { cls:=.type "list",dict:=none,data:=.seq its.toArray c',slots:=#[] }->EP X pins σ Q (.ref s.heap.objs.size) { s with heap:=h' }:=λits r' hz h' c' kp e=>
  ⟨.ref s.heap.objs.size,_,I.laid (t':=s.toks) kp (Jd _) (show bw X.prog X.w _ h' _ (.lst ys) from ⟨hz,its,c',r',e⟩),rfl,q _ (I.hok.fresh (Jd _))⟩
 rcases hq with hq|hq
 .obtain⟨its,r',pl,hz⟩:=I.list hq;have hlen:=r'.length;obtain⟨o,ho,hc,n,hd⟩:=pl.isList
  exact call_list_seq p (.inl rfl) ho hc hd (λh' c' kp e=>fin its r' hz h' c' kp e) (by simp only[Jr]<;>omega)
 .obtain⟨its,r',pl,hz⟩:=I.tuple hq;have hlen:=r'.length;obtain⟨o,ho,hc,n,hd⟩:=pl
  exact call_list_seq p (.inr rfl) ho hc hd (λh' c' kp e=>fin its r' hz h' c' kp e) (by simp only[Jr]<;>omega)
theorem iU:bI X (.type "tuple") (λxs H Q=>∃p ys,xs=[.ref p]/\((SqL X.K H p ys/\∀l,H l=none->Q (.ref l) (upd H l (.tup ys)))\/(SqT X.K H p ys/\Q (.ref p) H))):=by
 intro pins s σ H xs us Q I r h;obtain⟨p,ys,rfl,h⟩:=h;obtain⟨u,rfl,rx⟩:=Wx r;cases rx;rcases h with⟨hq,q⟩|⟨hq,q⟩
 .obtain⟨its,r',pl,hz⟩:=I.list hq;have hlen:=r'.length
  refine call_tuple_list pl.isList (λh' kp=>?_) (by simp only[Jr]<;>omega)
  have I1:Inv X pins σ H { s with heap:=h' }:=I.kept (t':=s.toks) kp
  have I2:Inv X pins σ (upd H h'.objs.size (.tup ys)) { s with heap:=h'.push { cls:=.type "tuple",data:=.seq its.toArray } }:=
   I1.laid (t':=s.toks) (λb o e=>Jb _ e) (Jd _) (show bw X.prog X.w _ _ _ (.tup ys) from ⟨hz,its,r',IsTup.new _ _⟩)
  exact⟨.ref h'.objs.size,_,I2,rfl,q _ (I1.hok.fresh (Jd _))⟩
 .obtain⟨its,r',pl,hz⟩:=I.tuple hq;exact call_tuple_same pl ⟨.ref p,H,I,rfl,q⟩
def tyV(K:Frag)(T:String)(x:V)(H:Hp):Prop:=match x with
 |.str _=>T = "str"
 |.int _=>T = "int"
 |.ref p=>(T = "list"/\∃xs,SqL K H p xs)\/(T = "tuple"/\∃o,K.lookup p=some o/\o.cls=.type "tuple"/\o.dict=none) \/
   (T = "dict"/\((∃kvs,H p=some (.dK kvs)) \/ ∃kvs,H p=some (.dT kvs)))\/(T = "set"/\∃S n,H p=some (.set S n))
 |_=>False
theorem BQ{T:String}{x:V}(I:Inv X pins σ H s)(r:RelV x v)(ty:tyV X.K T x H):
  s.TypeIs v T/\∀a,v=.ref a->∃ob,s.heap.get? a=some ob/\ob.dict=none:=by
 cases x with
 |str z=>
  obtain⟨t,rfl⟩:=r
  cases (show T = "str" from ty)
  exact⟨typeIs_str s z t,λ_ e=>nomatch e⟩
 |int i=>
  obtain⟨t,rfl⟩:=r
  cases (show T = "int" from ty)
  exact⟨G5 s i t,λ_ e=>nomatch e⟩
 |ref p=>
  cases r;rcases ty with⟨rfl,xs,hq⟩|⟨rfl,o,hk,hc,hd⟩|⟨rfl,hk⟩|⟨rfl,S,n,hk⟩
  .obtain⟨its,_,pl,_⟩:=I.list hq;refine⟨pl.isList.typeIs,λa e=>?_⟩;cases e;obtain⟨o,n,e,c,hd,_⟩:=pl;exact⟨o,e,hd⟩
  .refine⟨⟨o,I.kIn p o hk,hc⟩,λa e=>?_⟩;cases e;exact⟨o,I.kIn _ o hk,hd⟩
  .have z:∃o,s.heap.get? p=some o/\o.ExactDict:=by
    rcases hk with⟨kvs,hk⟩|⟨kvs,hk⟩
    .obtain⟨_,_,_,_,o,_,_,e,ex,_⟩:=I.hok p _ hk;exact⟨o,e,ex⟩
    .obtain⟨_,_,_,_,o,_,_,e,ex,_⟩:=I.hok p _ hk;exact⟨o,e,ex⟩
   obtain⟨o,e,ex⟩:=z;refine⟨⟨o,e,ex.1⟩,λa e2=>?_⟩;cases e2;exact⟨o,e,ex.2.1⟩
  .obtain⟨o,_,_,_,e,ex,_⟩:=I.hok p _ hk;refine⟨⟨o,e,ex.1⟩,λa e2=>?_⟩;cases e2;exact⟨o,e,ex.2.1⟩
 |_=>exact False.elim ty
noncomputable def tBM(K:Frag)(T:String)(r:V->List V->Hp->VK->Prop)(to:TE)(t:TA):TE:=λσ H Q=>to σ H λx H1=>tyV K T x H1/\t σ H1 λxs H2=>r x xs H2 Q
variable{o e:Expr}{es:List Expr}{to:TE}{t:TA}{name:Str}{apos cpos:Pos}{T id:String}{r:V->List V->Hp->VK->Prop}
theorem D0(pa:PlainAttrs T)(slot:Slot T name id)(hty:typeOf (.builtin id)=pure (.type "method_descriptor"))(hm:MtR X id r)(ho:PE X o to)(ha:PA X (e::es) t)
  (hbase:autoParam (attributeBase o name X.env (eval o X.env)=eval o X.env) zz1._auto_1)
  (hfew:autoParam (((backTo cpos (starEach (e::es) X.env)).all (λx=>!x.1)&&(backToKw cpos (keywordEach [] X.env)).all (λx=>x.1.isSome)
   && decide ((e::es).length+([]:List Keyword).length+(if ([]:List Keyword).isEmpty then 0 else 1)<30))=true) zz1._auto_1)
  (hline:autoParam ((apos.endLine == cpos.line)=true) zz1._auto_1) (hs:autoParam (starEach (e::es) X.env=(false,eval e X.env)::starEach es X.env) zz1._auto_1) (hplain:autoParam ((backTo cpos (starEach es X.env)).any (·.1)=false) zz1._auto_1):
  PE X (.Call (.Attribute o name apos) (e::es) [] cpos) (tBM X.K T r to t):=by
 intro pins s σ H Q I h;refine wpAny_Call_method_late hbase hfew hline rfl (thn (ho pins s σ H _ I h) λv s1 zq=>?_);obtain⟨x,H1,I1,r1,ty,q1⟩:=zq;obtain⟨h1,h2⟩:=BQ I1 r1 ty;refine⟨T,id,pa,slot,hty,h1,h2,?_⟩;have hA:=ha cpos pins s1 σ H1 _ I1 q1;rw[hs]at hA ⊢
 refine Calls.callWith_builtin (by show(false||(backTo cpos (starEach es X.env)).any (·.1))=false;rw[hplain]<;>rfl) (U6 ?_)
 exact thn hA λus s2 zq=>ex5 zq λvs H2 I2 r2 q2=>hm pins s2 σ H2 x vs v us Q I2 r1 r2 q2
end
def MtM(X:Cx)(id:String)(r:V->List V->Hp->VK->Prop):Prop:=
 ∀(pins:List (Addr×Obj))(s:Shared)(σ:St)(H:Hp)(x:V)(xs:List V)(v:Value)(us:List Value)(Q:VK),Inv X pins σ H s->RelV x v->Vals xs us->r x xs H Q->
  wpAny (model X.prog X.w) X.A (call (.builtin id) (v::us)) (EP X pins σ Q) X.xe s
theorem Vals.one:∀{x:V}{us:List Value},Vals [x] us->∃u,us=[u]/\RelV x u
 |_,_,.cons r .nil=>⟨_,rfl,r⟩
theorem Vals.rep{xs:List V}{us:List Value}(h:Vals xs us):∀k:Nat,Vals (List.replicate k xs).flatten (List.replicate k us).flatten
 |0=>.nil
 |k+1=>by rw[Q9,Q9,W5,W5];exact Vals.append h (Vals.rep h k)
theorem foldl_rep(its:List Value):∀(k:Nat)(acc:List Value),
  List.foldl (λx1 x2=>x1++x2) acc.toArray (List.replicate k its.toArray)=(acc++(List.replicate k its).flatten).toArray
 |0,acc=>by simp
 |k+1,acc=>by
  have e:acc.toArray++its.toArray=(acc++its).toArray:=by simp
  have e2:(acc++its)++(List.replicate k its).flatten=acc++(List.replicate (k+1) its).flatten:=by rw[Q9,W5,Z8]
  rw[<- e2,<- foldl_rep its k (acc++its),<- e,Q9,V9]
section
variable{X:Cx}{pins:List (Addr×Obj)}{σ:St}{H:Hp}{s:Shared}{l b:Addr}{xs ys zs:List V}
theorem Inv.lset{its its':List Value}{n:Nat}{f:Array Value->Array Value}{t':Nat}(I:Inv X pins σ H s)(hH:H l=some (.lst xs))
  (e:s.heap.get? l=some { cls:=.type "list",data:=.seq its.toArray n }) (hf:f its.toArray=its'.toArray) (hv:Vals ys its') (hz:ys.length<=sizeLine):
  Inv X pins σ (upd H l (.lst ys)) { s with heap:=s.heap.update l (Obj.mapSeq f),toks:=t' }:=by
 have q:=PySem.IsL.update e f;rw[hf]at q
 refine I.write (x:=l) (e:=l) (by rw[hH];exact trivial) (.inl rfl) (λb' u hb hu=>(Yu s.heap (Obj.mapSeq f) (Ne.symm hb)).trans hu) ⟨_,q⟩ ?_
 exact⟨hz,its',_,hv,q⟩
theorem Inv.lnew{its:List Value}{t':Nat}(I:Inv X pins σ H s)(hv:Vals ys its)(hz:ys.length<=sizeLine):
  Inv X pins σ (upd H s.heap.objs.size (.lst ys)) { s with heap:=s.heap.push { cls:=.type "list",data:=.seq its.toArray },toks:=t' }:=
 I.laid (λ_ _ q=>Jb _ q) (Jd _) ⟨hz,its,0,hv,Jo _ rfl⟩
theorem Inv.fresh(I:Inv X pins σ H s):H s.heap.objs.size=none:=I.hok.fresh (Jd _)
theorem Inv.lstM(I:Inv X pins σ H s)(hH:H l=some (.lst xs)):xs.length<=sizeLine/\∃(its:List Value)(n:Nat),Vals xs its/\xs.length=its.length/\s.heap.get? l=some { cls:=.type "list",data:=.seq its.toArray n }:=by obtain⟨z,its,n,r,e⟩:=I.hok l _ hH;exact⟨z,its,n,r,r.length,e⟩
theorem wF{n:Nat}(h:n<=sizeLine):Builtin.List.listTooLong n=false:=by
 unfold Builtin.List.listTooLong
 exact Yb (by omega)
end
section
variable{X:Cx}
noncomputable def zf:V->List V->Hp->VK->Prop:=λx vs H Q=>∃l xs y,x=.ref l/\vs=[y]/\H l=some (.lst xs)/\xs.length<sizeLine/\Q .non (upd H l (.lst (xs++[y])))
theorem nj:MtM X "list.append" zf:=by
 intro pins s σ H x vs v us Q I rx rv h;obtain⟨l,xs,y,rfl,rfl,hH,hz,q⟩:=h;cases rx;obtain⟨u,rfl,ru⟩:=rv.one;obtain⟨z,its,n,r,hl,e⟩:=I.lstM hH
 refine Wy F.slot_list_append ⟨_,e,rfl⟩ F.entry_list_append (F.args_list_append_2 _ _) (PySem.list_append l its.toArray n u (by rw[Jr];omega)) ⟨e,?_⟩
 refine⟨.non,_,I.lset (its':=its++[u]) hH e (by simp) (r.append (.cons ru .nil)) ?_,rfl,q⟩
 rw[Jm,Zt];omega
noncomputable def EO:R2:=λx y H Q=>∃l b xs zs,x=.ref l/\y=.ref b/\H l=some (.lst xs)/\H b=some (.lst zs)/\xs.length+zs.length<=sizeLine/\∀p,H p=none->Q (.ref p) (upd H p (.lst (xs++zs)))
theorem wG:OpR X (binaryOp .Add) EO:=by
 intro pins s σ H x y v u Q I rx ry h;obtain⟨l,b,xs,zs,rfl,rfl,hH,hB,hz,q⟩:=h;cases rx;cases ry;obtain⟨z,its,n,r,hl,e⟩:=I.lstM hH;obtain⟨z2,its2,n2,r2,hl2,e2⟩:=I.lstM hB
 refine PySem.P.add_list e e2 ?_ (by rw[Jr,Jr];omega)
 have ea:its.toArray++its2.toArray=(its++its2).toArray:=by simp
 rw[ea]
 exact⟨.ref _,_,I.lnew (t':=s.toks) (r.append r2) (by rw[Jm];omega),rfl,q _ I.fresh⟩
noncomputable def ER:R2:=λx y H Q=>∃l k xs,x=.ref l/\y=.int k/\H l=some (.lst xs)/\-(2^63)<=k/\k<2^63/\xs.length*k.toNat<=sizeLine/\
 ∀p,H p=none->Q (.ref p) (upd H p (.lst (List.replicate k.toNat xs).flatten))
theorem len_rep{α:Type}(xs:List α)(k:Nat):(List.replicate k xs).flatten.length=k*xs.length:=by
 induction k with
 |zero=>simp
 |succ k ih=>rw[Q9,W5,Jm,ih,G7,Nat.add_comm]
theorem BR:OpR X (binaryOp .Mult) ER:=by
 intro pins s σ H x y v u Q I rx ry h;obtain⟨l,k,xs,rfl,rfl,hH,h1,h2,hz,q⟩:=h;cases rx;obtain⟨t,rfl⟩:=ry;obtain⟨z,its,n,r,hl,e⟩:=I.lstM hH
 have hlen:its.toArray.size*k.toNat<=sizeLine:=by rw[Jr,<- hl];exact hz
 have hcap:¬its.toArray.size*k.toNat>(2^63-1)/8:=by
  have:(sizeLine:Nat)<=(2^63-1)/8:=by decide
  omega
 have hfit:¬(!Builtin.List.listFitsIndex k)=true:=by rw[fitsIndex_both h1 h2];exact Jj
 have hlong:¬Builtin.List.listTooLong (its.toArray.size*k.toNat)=true:=by rw[wF hlen];exact Jj
 have hnew:List.foldl (λx1 x2=>x1++x2) #[] (List.replicate (if its.toArray.isEmpty=true then 0 else k.toNat) its.toArray)=(List.replicate k.toNat its).flatten.toArray:=by
  have f0:∀m:Nat,List.foldl (λx1 x2=>x1++x2) #[] (List.replicate m its.toArray)=(List.replicate m its).flatten.toArray:=λm=>by have:=foldl_rep its m [];rw[Zl]at this;exact this
  rw[f0];cases its with
  |nil=>simp
  |cons a r'=>rw[Ji (by simp)]
 refine wpAny_binaryOp_repeat_ref (T:="list") (U:="int") (by decide) ⟨_,e,rfl⟩ (λs'=>G5 s' k t) noFill_list_mul F.fills_int_mul U7 repeat_list F.slot_int_index.lookup
  (Wy U7 (G5 s k t) F.entry_int_rmul (F.args_int_rmul_2 _ _) (int___rmul___int_list k t l its.toArray n)
   ⟨e,rfl,⟨_,e,rfl⟩,Wy F.slot_list_mul ⟨_,e,rfl⟩ F.entry_list_mul (F.args_list_mul_2 _ _) (AutoListH.list___mul___list_int_3 l its.toArray n k t hfit hcap hlong) ⟨e,?_⟩⟩)
 rw[hnew]
 exact⟨.ref _,_,I.lnew (t':=s.toks) (r.rep k.toNat) (by rw[len_rep,G8];exact hz),rfl,q _ I.fresh⟩
end
section
variable{κ:Type}[DecidableEq κ]
noncomputable def gz(kvs:List (κ×V))(k:κ):Option V:=(kvs.find? λkv=>decide (kv.1=k)).map (·.2)
noncomputable def putK(kvs:List (κ×V))(k:κ)(v:V):List (κ×V):=
 if (kvs.any λkv=>decide (kv.1=k))=true then kvs.map (λkv=>if kv.1=k then (kv.1,v) else kv) else kvs++[(k,v)]
theorem lj{p:κ×V}{r:List (κ×V)}{k:κ}(e:p.1=k):gz (p::r) k=some p.2:=by simp[gz,Zd,e]
theorem lq{p:κ×V}{r:List (κ×V)}{k:κ}(e:¬p.1=k):gz (p::r) k=gz r k:=by simp[gz,Zd,e]
theorem pI(k:κ):∀kvs:List (κ×V),(kvs.any λkv=>decide (kv.1=k))=(gz kvs k).isSome
 |[]=>rfl
 |p::r=>by
  rw[Qc];by_cases e:p.1=k
  .simp only[lj e,Yc e,Bool.true_or,Option.isSome_some]
  .rw[lq e,Yb e,Bool.false_or];exact pI k r
theorem g5(kvs:List (κ×V))(k:κ)(v:V):(putK kvs k v).length<=kvs.length+1:=by
 unfold putK;split
 .rw[Jg];omega
 .rw[Jm,Jk,Y3];omega
theorem nW.isSome_eq{o:Option V}{u:Option Value}(r:nW o u):o.isSome=u.isSome:=by
 cases o with
 |none=>cases u with
  |none=>rfl
  |some _=>exact(show False from r).elim
 |some _=>cases u with
  |none=>exact(show False from r).elim
  |some _=>rfl
theorem nW.getD{o:Option V}{u:Option Value}{d:V}{d':Value}(r:nW o u)(rd:RelV d d'):RelV (o.getD d) (u.getD d'):=by
 cases o with
 |none=>cases u with
  |none=>exact rd
  |some _=>exact(show False from r).elim
 |some _=>cases u with
  |none=>exact(show False from r).elim
  |some _=>exact r
theorem KV.val{kvs:List (κ×V)}{vs:List (κ×Value)}(r:KV kvs vs)(k:κ):nW (gz kvs k) (valueAt vs k):=by
 unfold KV at r
 induction r with
 |nil=>exact True.intro
 | @cons p q ps qs h t ih=>
  obtain⟨h1,h2⟩:=h;by_cases e:p.1=k
  .have e':q.1=k:=h1.symm.trans e
   have b:valueAt (q::qs) k=some q.2:=by simp[valueAt,Zd,e']
   rw[lj e,b];exact h2
  .have e':¬q.1=k:=λz=>e (h1.trans z)
   have b:valueAt (q::qs) k=valueAt qs k:=by simp[valueAt,Zd,e']
   rw[lq e,b];exact ih
theorem KV.any{kvs:List (κ×V)}{vs:List (κ×Value)}(r:KV kvs vs)(k:κ):(kvs.any λkv=>decide (kv.1=k))=vs.any λkv=>decide (kv.1=k):=by
 unfold KV at r
 induction r with
 |nil=>rfl
 |cons h t ih=>rw[Qc,Qc,ih,h.1]
theorem KV.repl{kvs:List (κ×V)}{vs:List (κ×Value)}(r:KV kvs vs)(k:κ){y:V}(ry:RelV y u):
  KV (kvs.map λkv=>if kv.1=k then (kv.1,y) else kv) (vs.map λkv=>if kv.1=k then (kv.1,u) else kv):=by
 unfold KV at r ⊢
 induction r with
 |nil=>exact .nil
 | @cons p q ps qs h t ih=>
  rw[Jp,Jp];refine .cons ?_ ih;obtain⟨h1,h2⟩:=h;by_cases e:p.1=k
  .rw[Je e,Je (h1.symm.trans e)];exact⟨h1,ry⟩
  .rw[Ji e,Ji (λz=>e (h1.trans z))];exact⟨h1,h2⟩
theorem KV.put{kvs:List (κ×V)}{vs:List (κ×Value)}(r:KV kvs vs)(k:κ){y:V}(ry:RelV y u):KV (putK kvs k y) (stored vs k u):=by
 unfold putK stored;rw[r.any k];by_cases e:(vs.any λkv=>decide (kv.1=k))=true
 .rw[Je e,Je e];exact r.repl k ry
 .rw[Ji e,Ji e];exact Paired.snoc r ⟨rfl,ry⟩
theorem KV.keys{kvs:List (κ×V)}{vs:List (κ×Value)}(r:KV kvs vs):kvs.map (·.1)=vs.map (·.1):=by
 unfold KV at r
 induction r with
 |nil=>rfl
 |cons h t ih=>rw[Jp,Jp,ih,h.1]
theorem KV.length{kvs:List (κ×V)}{vs:List (κ×Value)}(r:KV kvs vs):kvs.length=vs.length:=Paired.length r
end
theorem nk{k:Key}(r:RelV (kV k) u):(aV P w).is k u=true:=by
 cases k with
 |inl i=>obtain⟨t,e⟩:=(show ∃t,u=Value.int i t from r);subst e;exact pB P w i t
 |inr x=>obtain⟨t,e⟩:=(show ∃t,u=Value.str x t from r);subst e;exact pC P w x t
theorem nq:∀{ks:List Key}{us:List Value},Vals (ks.map kV) us->ItemsAre (aV P w) ks us
 |[],_,r=>by rw[Wb]at r;cases r;exact .nil
 |k::ks,_,r=>by
  rw[Jp]at r;cases r with
  |cons h t=>exact .cons (nk h) (nq t)
noncomputable abbrev KT(H:Hp):List (List Key×V)->List (List Key×Addr×Value)->Prop:=Paired λp q=>p.1=q.1/\H q.2.1=some (.tup (p.1.map kV))/\RelV p.2 q.2.2
theorem KT.val{kvs:List (List Key×V)}(r:KT H kvs xs)(k:List Key):nW (gz kvs k) ((atKey xs k).map (·.2)):=by
 induction r with
 |nil=>exact True.intro
 | @cons p q ps qs h t ih=>
  obtain⟨h1,_,h2⟩:=h;by_cases e:p.1=k
  .have e':q.1=k:=h1.symm.trans e
   have b:atKey (q::qs) k=some q.2:=by simp[atKey,Zd,e']
   rw[lj e,b];exact h2
  .have e':¬q.1=k:=λz=>e (h1.trans z)
   have b:atKey (q::qs) k=atKey qs k:=by simp[atKey,Zd,e']
   rw[lq e,b];exact ih
theorem KT.repl{kvs:List (List Key×V)}(r:KT H kvs xs)(k:List Key){y:V}(ry:RelV y u):
  KT H (kvs.map λkv=>if kv.1=k then (kv.1,y) else kv) (xs.map (putAt k u)):=by
 induction r with
 |nil=>exact .nil
 | @cons p q ps qs h t ih=>
  rw[Jp,Jp];refine .cons ?_ ih;obtain⟨h1,h2,h3⟩:=h;unfold putAt;by_cases e:p.1=k
  .rw[Je e,Je (h1.symm.trans e)];exact⟨h1,h2,ry⟩
  .rw[Ji e,Ji (λz=>e (h1.trans z))];exact⟨h1,h2,h3⟩
theorem KT.put{kvs:List (List Key×V)}(r:KT H kvs xs)(k:List Key){b:Addr}{y:V}(hb:H b=some (.tup (k.map kV)))(ry:RelV y u):
  KT H (putK kvs k y) (storedH xs k b u):=by
 have e:(kvs.any λkv=>decide (kv.1=k))=(atKey xs k).isSome:=by rw[pI,(r.val k).isSome_eq,G1]
 unfold putK storedH;rw[e];by_cases q:(atKey xs k).isSome=true
 .rw[Je q,Je q];exact r.repl k ry
 .rw[Ji q,Ji q];exact Paired.snoc r ⟨rfl,hb,ry⟩
theorem KT.keeps{H':Hp}{kvs:List (List Key×V)}(r:KT H kvs xs)(ht:∀b ys,H b=some (.tup ys)->H' b=some (.tup ys)):KT H' kvs xs:=
 Paired.mapP r λ_ _ z=>⟨z.1,ht _ _ z.2.1,z.2.2⟩
section
variable{P:Program}{w:World}{H:Hp}{h:Heap}{a:Addr}
theorem AQ{u:HO}(ok:HOk P w H h)(e:Rd H a u):bw P w H h a u:=e.ok ok
theorem nt{kvs:List (Key×V)}(ok:HOk P w H h)(e:Rd H a (.dK kvs)):kvs.length<=sizeLine/\(a == sysModules)=false/\∃vs,KV kvs vs/\h.DictOf (aV P w) a vs:=
 show bw P w H h a (.dK kvs) from AQ ok e
theorem AR{kvs:List (Key×V)}(ok:HOk P w H h)(e:H a=some (.dK kvs)):kvs.length<=sizeLine/\(a == sysModules)=false/\∃vs,KV kvs vs/\h.DictOf (aV P w) a vs:=nt ok (.inl e)
theorem oj{ks:List Key}(ok:HOk P w H h)(e:H a=some (.tup (ks.map kV))):(tupleKind (aV P w)).is h ks a:=by
 obtain⟨_,its,r,o,h1,h2,n,h3⟩:=(show bw P w H h a (.tup (ks.map kV)) from ok a _ e)
 exact⟨o,its.toArray,n,h1,h2,h3,by simpa using nq r⟩
theorem tG{kvs:List (List Key×V)}(ok:HOk P w H h)(e:Rd H a (.dT kvs)):kvs.length<=sizeLine/\(a == sysModules)=false/\
  ∃xs,KT H kvs xs/\h.DictOfH (tupleKind (aV P w)) a xs:=by
 obtain⟨z,y,xs,r,o,es,ep,h1,h2,h3,h4,h5⟩:=(show bw P w H h a (.dT kvs) from AQ ok e)
 refine⟨z,y,xs,r,o,es,ep,h1,h2,h3,h4,λx hx=>?_,h5⟩
 have all:∀{l:List (List Key×V)}{m:List (List Key×Addr×Value)},KT H l m->∀x∈m,(tupleKind (aV P w)).is h x.1 x.2.1:=by
  intro l m q
  induction q with
  |nil=>intro x hx;exact nomatch hx
  | @cons p q ps qs hq t ih=>
   intro x hx;rcases Jq.mp hx with e|hx
   .subst e
    exact oj ok (by rw[<- hq.1];exact hq.2.1)
   .exact ih x hx
 exact all r x hx
theorem D1{kvs:List (List Key×V)}(ok:HOk P w H h)(e:H a=some (.dT kvs)):kvs.length<=sizeLine/\(a == sysModules)=false/\
  ∃xs,KT H kvs xs/\h.DictOfH (tupleKind (aV P w)) a xs:=tG ok (.inl e)
end
def BS(H:Hp)(a:Addr)(y:V)(r:Option V):Prop:=
 (∃kvs k,Rd H a (.dK kvs)/\y=kV k/\r=gz kvs k) \/ ∃kvs k b,Rd H a (.dT kvs)/\y=.ref b/\H b=some (.tup (k.map kV))/\r=gz kvs k
def zg(H:Hp)(a:Addr)(y v:V)(H':Hp):Prop:=
 (∃kvs k,H a=some (.dK kvs)/\y=kV k/\kvs.length<sizeLine/\H'=upd H a (.dK (putK kvs k v))) \/
 ∃kvs k b,H a=some (.dT kvs)/\y=.ref b/\H b=some (.tup (k.map kV))/\kvs.length<sizeLine/\H'=upd H a (.dT (putK kvs k v))
theorem zg.k{a:Addr}{kvs:List (Key×V)}{k:Key}{v:V}(e:H a=some (.dK kvs))(hl:kvs.length<sizeLine):zg H a (kV k) v (upd H a (.dK (putK kvs k v))):=.inl ⟨kvs,k,e,rfl,hl,rfl⟩
section
variable{X:Cx}{pins:List (Addr×Obj)}{σ:St}{H:Hp}{s:Shared}{a:Addr}{y v:V}{u r:Value}{o:Option V}{A:Around}{E:Value->Shared->Prop}
theorem Inv.big(I:Inv X pins σ H s):sysModules<s.heap.objs.size:=by
 have h:mainGlobals<s.heap.objs.size:=(I.mod.glob.keeps I.bk).lt
 exact Qt (by decide) h
theorem zh(hu:A.units+1<cLine)(I:Inv X pins σ H s)(g:BS H a y o)(ry:RelV y u)(h:∀s',Inv X pins σ H s'->Q (.bool (!o.isSome)) s'):
  wpAny (model X.prog X.w) A (compareOp .NotIn u (.ref a)) Q E s:=by
 rcases g with⟨kvs,k,e,ey,l⟩|⟨kvs,k,b,e,ey,eb,l⟩
 .subst ey;obtain⟨z,hd,vs,rel,dd⟩:=nt I.hok e;refine wpAny_notIn_of (nk ry) hd dd.mapOf ?_;rw[<- (rel.val k).isSome_eq,<- l];exact h _ (I.tok _)
 .subst ey
  cases (show u=Value.ref b from ry)
  obtain⟨z,hd,xs,rel,dd⟩:=tG I.hok e;refine wpAny_notIn_heap (Uk hu) (oj I.hok eb) hd dd ?_;have q:=(rel.val k).isSome_eq;rw[G1]at q;rw[<- q,<- l];exact h _ (I.tok _)
theorem om{h':Heap}{t':Nat}{ob:HO}(I:Inv X pins σ H s)(mu:Mut (H a))(hs:Heap.SameBut a s.heap h')(he:∃q,h'.get? a=some q)(new:bw X.prog X.w (upd H a ob) h' a ob):
  Inv X pins σ (upd H a ob) { s with heap:=h',toks:=t' }:=
 I.write (x:=a) (e:=a) mu (.inl rfl) (λb q hb z=>(hs.2 b hb).trans z) he new
theorem wH{H':Hp}{h':Heap}{kvs:List (Key×V)}{vs:List (Key×Value)}(z:kvs.length<=sizeLine)(hd:(a == sysModules)=false)(rel:KV kvs vs)(dd:h'.DictOf (aV P w) a vs):
  bw P w H' h' a (.dK kvs):=⟨z,hd,vs,rel,dd⟩
theorem vm{H':Hp}{Q:Unit->Shared->Prop}(hu:A.units+1<cLine)(I:Inv X pins σ H s)(g:zg H a y v H')(ry:RelV y u)(rv:RelV v r)(h:∀s',Inv X pins σ H' s'->Q () s'):
  wpAny (model X.prog X.w) A (setItem (.ref a) u r) Q E s:=by
 rcases g with⟨kvs,k,e,ey,l,eH⟩|⟨kvs,k,b,e,ey,eb,l,eH⟩
 .subst ey eH;obtain⟨z,hd,vs,rel,dd⟩:=AR I.hok e
  have hz:vs.length<=sizeLine:=by rw[<- rel.length];exact z
  have hl:(putK kvs k v).length<=sizeLine:=by have:=g5 kvs k v;omega
  refine wpAny_setItem_pairs (hsz:=hz) (nk ry) dd λh' dd' hs=>h _ ?_
  have he:∃q,h'.get? a=some q:=let ⟨q,_,_,hq,_⟩:=dd';⟨q,hq⟩
  exact om I (by rw[e];exact True.intro) hs he (wH hl hd (rel.put k rv) dd')
 .subst ey eH
  cases (show u=Value.ref b from ry)
  obtain⟨z,hd,xs,rel,dd⟩:=D1 I.hok e
  have hz:xs.length<=sizeLine:=by rw[<- Paired.length rel];exact z
  have hl:(putK kvs k v).length<=sizeLine:=by have:=g5 kvs k v;omega
  refine wpAny_setItem_heap (hsz:=hz) (Uk hu) (oj I.hok eb) dd λh' dd' hs=>h _ ?_;obtain⟨q,es,ep,hq,h2,h3,h4,_,h5⟩:=dd'
  refine om I (by rw[e];exact True.intro) hs ⟨q,hq⟩ ⟨hl,hd,_,(rel.put k eb rv).keeps λc ys ec=>?_,q,es,ep,hq,h2,h3,h4,h5⟩
  rw[ax (Ds ec e (λz=>nomatch z))]
  exact ec
end
section
variable{X:Cx}{pins:List (Addr×Obj)}{σ:St}{H:Hp}{s:Shared}{a:Addr}{kvs:List (Key×V)}{k:Key}{u:Value}{A:Around}{E:Value->Shared->Prop}
theorem D2(I:Inv X pins σ H s)(e:Rd H a (.dK kvs))(h:∀t s',Inv X pins σ H s'->Q (.int kvs.length t) s'):wpAny (model X.prog X.w) A (call (.builtin "len") [.ref a]) Q E s:=by
 obtain⟨z,hd,vs,rel,dd⟩:=nt I.hok e
 refine call_len_dict hd dd (by rw[<- rel.length];rw[sizeLine_eq]at z;omega) ?_
 rw[<- rel.length];exact h _ _ (I.tok _)
end
theorem pJ(h:Heap)(hb:sysModules<h.objs.size):bw P w H (h.push { cls:=.type "dict",data:=.dict #[] }) h.objs.size (.dK []):=
 ⟨Y2 _,V3.mpr (Ne.symm (Ju hb)),[],.nil,Heap.DictOf.new h⟩
noncomputable def BU:TE:=λ_ H Q=>∀p,H p=none->Q (.ref p) (upd H p (.dK []))
section
variable{X:Cx}{pos:Pos}
theorem pK:PE X (.Dict [] [] pos) BU:=λpins s σ H Q I h=>
 wpAny_Dict_empty ⟨.ref s.heap.objs.size,_,I.laid (a:=s.heap.objs.size) (o:=.dK []) (t':=s.toks) (λ_ _ q=>Jb _ q) (Jd _) (pJ s.heap I.big),rfl,h _ (I.hok.fresh (Jd _))⟩
end
noncomputable def oo:List (TE×TE)->St->Hp->(List (V×V)->Hp->Prop)->Prop
 |[],_,H,Q=>Q [] H
 |(tk,tv)::r,σ,H,Q=>tk σ H λx H1=>tv σ H1 λy H2=>oo r σ H2 λps H3=>Q ((x,y)::ps) H3
noncomputable abbrev VV:List (V×V)->List (Value×Value)->Prop:=Paired λp q=>RelV p.1 q.1/\RelV p.2 q.2
def PPs(X:Cx)(pos:Pos)(keys:List (Option Expr))(values:List Expr)(trs:List (TE×TE)):Prop:=
 ∀(pins:List (Addr×Obj))(s:Shared)(σ:St)(H:Hp)(Q:List (V×V)->Hp->Prop),Inv X pins σ H s->oo trs σ H Q->
  wpAny (model X.prog X.w) X.A (evalPairs (pairTrees keys values X.env pos)) (λvs s'=>∃ps H',Inv X pins σ H' s'/\VV ps vs/\Q ps H') X.xe s
theorem zi:PPs X pos [] [] []:=λpins s σ H Q I h=>pairTrees_nil_walk ⟨[],H,I,.nil,h⟩
theorem wI{k v:Expr}{ks:List (Option Expr)}{vs:List Expr}{tk tv:TE}{trs:List (TE×TE)}(hk:PE X k tk)(hv:PE X v tv)(hr:PPs X pos ks vs trs):
  PPs X pos (some k::ks) (v::vs) ((tk,tv)::trs):=λpins s σ H Q I h=>
 pairTrees_cons_walk (thn (hk pins s σ H _ I h) λu s1 zq=>ex5 zq λx H1 I1 rx q1=>thn (hv pins s1 σ H1 _ I1 q1) λw2 s2 zq=>ex5 zq λy H2 I2 ry q2=>
  thn (hr pins s2 σ H2 _ I2 q2) λws s3 zq=>ex5 zq λps H3 I3 rel q3=>⟨(x,y)::ps,H3,I3,.cons ⟨rx,ry⟩ rel,q3⟩)
noncomputable def dH(kvs more:List (Key×V)):List (Key×V):=more.foldl (λacc kv=>putK acc kv.1 kv.2) kvs
theorem KV.merge:∀{more:List (Key×V)}{rs:List (Key×Value)}{kvs:List (Key×V)}{vs:List (Key×Value)},KV more rs->KV kvs vs->KV (dH kvs more) (merged vs rs):=by
 intro more rs kvs vs r;unfold KV at r
 induction r generalizing kvs vs with
 |nil=>intro q;exact q
 | @cons p q ps qs h t ih=>
  intro r0
  have e:KV (putK kvs p.1 p.2) (stored vs q.1 q.2):=by have:=r0.put p.1 h.2;rw[<- h.1];exact this
  exact ih e
theorem iV:∀(more kvs:List (Key×V)),(dH kvs more).length<=kvs.length+more.length
 |[],kvs=>by show kvs.length<=kvs.length+0;omega
 |p::r,kvs=>by have h1:=iV r (putK kvs p.1 p.2);have h2:=g5 kvs p.1 p.2;show(dH (putK kvs p.1 p.2) r).length<=_;rw[Jk];omega
theorem lr{P:Program}{w:World}:∀{kvs:List (Key×V)}{ws:List (Value×Value)},VV (kvs.map λkv=>(kV kv.1,kv.2)) ws->∃rs,Carries (aV P w) ws rs/\KV kvs rs
 |[],_,r=>by rw[Wb]at r;cases r;exact⟨[],True.intro,.nil⟩
 |p::kvs,_,r=>by
  rw[Jp]at r;cases r with
  | @cons a b as bs h t=>
   obtain⟨rs,c,q⟩:=lr (P:=P) (w:=w) t;obtain⟨b1,b2⟩:=b;exact⟨(p.1,b2)::rs,⟨nk h.1,rfl,c⟩,.cons ⟨rfl,h.2⟩ q⟩
noncomputable def AU(trs:List (TE×TE)):TE:=λσ H Q=>∀p,H p=none->oo trs σ (upd H p (.dK [])) λps H2=>H2 p=some (.dK [])/\∃kvs:List (Key×V),ps=kvs.map (λkv=>(kV kv.1,kv.2))/\kvs.length<=15/\Q (.ref p) (upd H2 p (.dK (dH [] kvs)))
theorem tH{keys:List (Option Expr)}{values:List Expr}{trs:List (TE×TE)}(h:PPs X pos keys values trs)(hall:keys.all (·.isSome)=true)(hl:keys.length=values.length)(h0:keys≠[])
  (h15:keys.length<=15):PE X (.Dict keys values pos) (AU trs):=by
 intro pins s σ H Q I q;have hn:=I.hok.fresh (Jd s.heap.objs.size);have I1:=I.laid (a:=s.heap.objs.size) (o:=.dK []) (h':=s.heap.push { cls:=.type "dict",data:=.dict #[] }) (t':=s.toks) (λ_ _ q=>Jb _ q) (Jd _) (pJ s.heap I.big)
 refine wpAny_Dict_walk (knd:=aV X.prog X.w) hall hl h0 h15 (thn (h pins _ σ _ _ I1 (q _ hn)) λws s2 zq=>?_);obtain⟨ps,H2,I2,rel,e,kvs,ep,lk,q2⟩:=zq;subst ep;obtain⟨rs,c,rk⟩:=lr (P:=X.prog) (w:=X.w) rel;obtain⟨z,hd,vs0,r0,dd⟩:=AR I2.hok e;cases r0;refine⟨rs,c,dd,λh' dd' hs=>⟨.ref s.heap.objs.size,_,?_,rfl,q2⟩⟩
 have hz:(dH [] kvs).length<=sizeLine:=by have h1:=iV kvs [];rw[Y3]at h1;rw[sizeLine_eq];omega
 have he:∃q,h'.get? s.heap.objs.size=some q:=let ⟨q,_,_,hq,_⟩:=dd';⟨q,hq⟩
 exact om I2 (by rw[e];exact True.intro) hs he (wH hz hd (rk.merge .nil) dd')
structure M2(X:Cx)(o:Expr)(m:Str)(apos:Pos)(e f:Expr)(cpos:Pos):Prop where
 base:attributeBase o m X.env (eval o X.env)=eval o X.env
 few:((backTo cpos (starEach [e,f] X.env)).all (λx=>!x.1)&&(backToKw cpos (keywordEach [] X.env)).all (λx=>x.1.isSome)
  && decide (([e,f]:List Expr).length+([]:List Keyword).length+(if ([]:List Keyword).isEmpty then 0 else 1)<30))=true
 line:(apos.endLine == cpos.line)=true
 trees:backTo cpos (starEach [e,f] X.env)=[(false,eval e X.env),(false,eval f X.env)]
def IsD(H:Hp)(a:Addr):Prop:=(∃kvs,Rd H a (.dK kvs)) \/ ∃kvs,Rd H a (.dT kvs)
theorem wJ{a:Addr}(I:Inv X pins σ H s)(d:IsD H a):
  s.TypeIs (.ref a) "dict"/\(∀b,Value.ref a=.ref b->∃ob,s.heap.get? b=some ob/\ob.dict=none)/\(a == sysModules)=false:=by
 rcases d with⟨kvs,e⟩|⟨kvs,e⟩
 .obtain⟨_,hd,vs,_,dd⟩:=nt I.hok e;refine⟨dd.typeIs,λb q=>?_,hd⟩;cases q;obtain⟨ob,_,_,h1,h2,_⟩:=dd;exact⟨ob,h1,h2.2.1⟩
 .obtain⟨_,hd,xs,_,dd⟩:=tG I.hok e;refine⟨dd.typeIs,λb q=>?_,hd⟩;cases q;obtain⟨ob,_,_,h1,h2,_⟩:=dd;exact⟨ob,h1,h2.2.1⟩
section
variable{X:Cx}{pins:List (Addr×Obj)}{σ:St}{H:Hp}{s:Shared}{a:Addr}{y d:V}{u r:Value}{o:Option V}{A:Around}{E:Value->Shared->Prop}
theorem BV(hu:A.units+1<cLine)(I:Inv X pins σ H s)(g:BS H a y o)(ry:RelV y u)(rd:RelV d r)(h:∀w' s',Inv X pins σ H s'->RelV (o.getD d) w'->Q w' s'):
  wpAny (model X.prog X.w) A (call (.builtin "dict.get") [.ref a,u,r]) Q E s:=by
 rcases g with⟨kvs,k,e,ey,l⟩|⟨kvs,k,b,e,ey,eb,l⟩
 .subst ey;obtain⟨z,hd,vs,rel,dd⟩:=nt I.hok e;refine call_meetsIn U0 dd.typeIs PySem.F.entry_dict_get (PySem.F.args_dict_get_3 _ _ _) (meets_dict_get_default (aV X.prog X.w) a (nk ry) hd r) ⟨_,dd.mapOf,h _ _ (I.tok _) ?_⟩;rw[l];exact(rel.val k).getD rd
 .subst ey
  cases (show u=Value.ref b from ry)
  obtain⟨z,hd,xs,rel,dd⟩:=tG I.hok e;refine call_meetsIn U0 dd.typeIs PySem.F.entry_dict_get (PySem.F.args_dict_get_3 _ _ _) (meetsH_dict_get_default (tupleKind (aV X.prog X.w)) a b hd r) ⟨Uk hu,k,xs,oj I.hok eb,dd,h _ _ (I.tok _) ?_⟩;rw[l];exact(rel.val k).getD rd
end
noncomputable def BW(td ty tx:TE):TE:=λσ H Q=>td σ H λx H1=>∃a,x=.ref a/\IsD H1 a/\ty σ H1 λy H2=>tx σ H2 λz H3=>∃o,BS H3 a y o/\Q (o.getD z) H3
section
variable{X:Cx}{o e f:Expr}{apos cpos:Pos}{td ty tx:TE}
theorem wK(hu:X.A.units+1<cLine)(ho:PE X o td)(he:PE X e ty)(hf:PE X f tx)(m:M2 X o "get" apos e f cpos):PE X (.Call (.Attribute o "get" apos) [e,f] [] cpos) (BW td ty tx):=by
 intro pins s σ H Q I h;refine wpAny_Call_method m.base m.few m.line PySem.F.plainAttrs_dict U0 PySem.F.type_dict_get (thn (ho pins s σ H _ I h) λu s1 zq=>?_);obtain⟨x,H1,I1,rx,a,ex,d,q1⟩:=zq;subst ex;obtain rfl:u=Value.ref a:=rx;obtain⟨t1,t2,_⟩:=wJ I1 d;refine⟨t1,t2,?_⟩;rw[m.trees]
 refine Calls.callWith_builtin rfl (U6 (Uj (thn (he pins s1 σ H1 _ I1 q1) λiv s2 zq=>ex5 zq λy H2 I2 ry q2=>
  Uj (thn (hf pins s2 σ H2 _ I2 q2) λfv s3 ⟨z,H3,I3,rz,ov,g,q3⟩=>Calls.spliced_nil ?_))))
 exact BV hu I3 g ry rz λw' s4 I4 rw'=>⟨_,H3,I4,rw',q3⟩
end
end L2
namespace Att
open PySem PySem.W PySem.Calls PyProof.Rows
theorem kF{P:Params}{h:Heap}:∀(ns:List Int)(vs:List Value),WellAll P h vs (ns.map WData.int)->IntsAre vs ns:=by
 intro ns
 induction ns with
 |nil=>
  intro vs w;rw[Wb]at w;cases w;exact .nil
 |cons n ns ih=>
  intro vs w;rw[Jp]at w;cases w with
  |cons a b=>
   cases a;exact .cons _ _ (ih _ b)
theorem vn{l:OpenLaw}{n:Nat}(hn:l.most=some n){P:Params}{h:Heap}{args:List WData}{vals:List Value}
  (hpre:l.row.toRowW.claim.pre args=true) (hwl:WellAll P h vals args):
  ∃a vs ns,vals=[Value.ref a]/\args=[WData.list (ns.map WData.int)]/\h.get? a=some { cls:=.type "list",data:=.seq vs.toArray }/\IntsAre vs ns/\ns.length<=n:=by
 have hsh:WShape.hasAll [] args [.list .int]=true:=(pre_splitW hpre).1;have hc:l.pre.holds [] { args:=args }=true:=(pre_splitW hpre).2;obtain⟨d,r,rfl,h1,h2⟩:=hasAllW_cons hsh;obtain rfl:=hasAllW_nil h2;obtain⟨xs,rfl,h3⟩:=hasW_list h1;obtain⟨ns,rfl⟩:=items_int h3
 have hlen:ns.length<=n:=by
  unfold OpenLaw.pre at hc
  have h4:(WTm.not (.lt (.lit (.int (n:Int))) (.len (.arg 0)))).holds [] { args:=[.list (ns.map .int)] }=true:=by have h4:=(holds_andW hc).1;rw[hn]at h4;exact h4
  have h5:=condW_of h4 (w_not (w_lt w_lit (w_len_list (w_arg rfl))));rw[Jg]at h5;refine Nat.le_of_not_lt λq=>?_
  have q':(n:Int)<((ns.length:Nat):Int):=by omega
  first
   |(rw[Yc q']at h5;exact absurd h5 (by decide))
   |(simp at h5;omega)
 cases hwl with
 |cons w1 w2=>
  cases w2;cases w1 with
  |list ho hall=>exact⟨_,_,ns,rfl,rfl,ho,kF ns _ hall,hlen⟩
theorem vo(l:OpenLaw)(args:List WData):l.row.toRowW.claim.post args (.bool true) args=true:=
 postW_of (r:=l.row.toRowW) (X:=(true == true))
  (show WShape.has [] (.bool true) .bool=true by first|rfl|decide|simp[WShape.has,WShape.arms,WShape.armsAll])
  (show(WTm.eq .res (.lit (.bool true))).value [] { args:=args,res:=some (.bool true),after:=args }=some (.bool (true == true)) from w_eq_bool (w_res rfl) w_lit) rfl
theorem attach_call{l:OpenLaw}{n:Nat}{q:Program}{loose:List Str}{XP:(Str->Option Value)->Heap->Prop}{YP:World->Heap->Prop}{d:DefRec}
  (hn:l.most=some n) (hdf:d.params.defaults=[])
  (call:∀(w:World)(s₀ s₁:Shared)(mg mb:Str->Option Value)(fa:Addr)(o:Obj)(pm cd doc:Value)(a:Addr)(vs:List Value)(ns:List Int),
   Ground q loose [] XP w s₀ mg mb s₁.heap->YP w s₁.heap->
   s₁.heap.get? fa=some o->o.data=.func (docDef d.name d.params d.body d.scope pm cd doc)->s₁.heap.CodeRec cd d.name->mg d.name=some (.ref fa)->
   s₁.heap.get? a=some { cls:=.type "list",data:=.seq vs.toArray }->IntsAre vs ns->ns.length<=n->s₁.gens = #[]->
   codeAny (model l.prog w) callerA (.call (.ref fa) ⟨[.ref a],[]⟩) (λr s'=>r=.ok (.ret (.bool true))/\OldK s₁.heap s'.heap/\s'.os=s₁.os/\AllBare s'.gens) s₁):
  WalkO q loose XP YP l.row.toRowW d [] (λf vs=>PySem.call f vs):=by
 intro w s₀ s₁ mg mb G Y fa o pm cd doc dV kV ho hd hcd hD hmg hg args vals as hpre hlay hrd hwl hlo;obtain rfl:dV=.none:=Dflts.none hD hdf;obtain rfl:kV=.none:=Dflts.noKw hD;obtain⟨a,vs,ns,rfl,rfl,hobj,hints,hlen⟩:=vn hn hpre hwl;refine enter_call (Qr (call w s₀ s₁ mg mb fa o pm cd doc a vs ns G Y ho (fd_plain hd) hcd hmg hobj hints hlen hg) λr s' hq=>?_);obtain⟨rfl,h2,h3,h4⟩:=hq
 exact⟨.inl ⟨.bool true,.bool true,[],rfl,λ_=>rfl,.bool true,vo l _,λ_=>⟨List.Pairwise.nil,λ_ hm=>(nomatch hm)⟩⟩,h2,h3,h4⟩
end Att
namespace L2
open PySem PySem.Spec PyProof.Rows
variable{x:Str}
theorem nu:∀{vs:List Value}{ns:List Int},IntsAre vs ns->Vals (ns.map V.int) vs
 |_,_,.nil=>.nil
 |_,_,.cons n t h=>.cons ⟨t,rfl⟩ (nu h)
def wL(H:Hp):Prop:=∀b,H b=none \/ ∃o xs,H b=some (.frz o (.lst xs))
theorem wM{P:Program}{w:World}{K:Frag}{mg mb:Str->Option Value}{CX:CXT}{k:Nat}{fa a:Addr}{fd:FuncData}{x:Str}{sp:Sp}{s₁:Shared}{vs:List Value}{ns:List Int}
  (KX:K.In s₁.heap) (hns:s₁.heap.Ns mainGlobals mg) (hb:s₁.heap.Ns builtinsNs mb) (hbb:∀x:Str,x ≠ "__name__"->mb x=bootBuiltins x) (hlim:s₁.heap.NoLimit) (hg:s₁.gens = #[])
  (ha:s₁.heap.get? a=some { cls:=.type "list",data:=.seq vs.toArray }) (hi:IntsAre vs ns) (hl:ns.length<=sizeLine) (hr:Room k callerA)
  (F:∀base:Heap,K.In base->base.Ns mainGlobals mg->FnOk P w K mg base CX k fa fd [x] sp) (hbind:∀(s:Shared)(u:Value),BindsTo s fd ⟨[u],[]⟩ [(x,u)])
  (hsp:∀H:Hp,wL H->SqL K H a (ns.map V.int)->sp [.ref a] H (λv _=>v=.bl true) λ_ _ _=>False)
  (hCX:∀H e s',CX [] H s₁ (λ_ _ _=>False) e s'->False):
  codeAny (model P w) callerA (.call (.ref fa) ⟨[.ref a],[]⟩) (λr s'=>r=.ok (.ret (.bool true))/\OldK s₁.heap s'.heap/\s'.os=s₁.os/\AllBare s'.gens) s₁:=by
 have rv:=nu hi;have lenV:=hi.length
 -- from an abstract heap in which nothing but the script may be tracked
 have core:∀H:Hp,wL H->SqL K H a (ns.map V.int)->HOk P w H s₁.heap->(∀b,H b≠none->b=a)->(H a≠none->K.lookup a=none)->
   codeAny (model P w) callerA (.call (.ref fa) ⟨[.ref a],[]⟩) (λr s'=>r=.ok (.ret (.bool true))/\OldK s₁.heap s'.heap/\s'.os=s₁.os/\AllBare s'.gens) s₁:=by
  intro H hO hS hok hA hK;have base_of:∀{b:Addr}{o:Obj},s₁.heap.get? b=some o->H b=none->(nX s₁.heap H).get? b=some o:=λe n=>wj e n
  have noA:∀{b:Addr}{o:Obj}{es:Array DictEntry}{ep:Nat},s₁.heap.get? b=some o->o.data=.dict es ep->H b=none:=λ{b o es ep} e d=>by
   cases q:H b with
   |none=>rfl
   |some u=>
    have e':b=a:=hA b (by rw[q];simp)
    subst e';rw[ha]at e;cases e;have d':Data.seq vs.toArray _=Data.dict es ep:=d;cases d'
  have nsK:∀{b:Addr}{m:Str->Option Value},s₁.heap.Ns b m->(nX s₁.heap H).Ns b m:=λ{b m} ⟨o,es,ep,e,d,r⟩=>⟨o,es,ep,base_of e (noA e d),d,r⟩
  have hKb:K.In (nX s₁.heap H):=λb o e=>base_of (KX b o e) (by
   cases q:H b with
   |none=>rfl
   |some u=>
    have e':b=a:=hA b (by rw[q];simp)
    subst e'
    rw[hK (by rw[q];simp)]at e;cases e)
  have hM:Mod K mg (nX s₁.heap H):=⟨hKb,nsK hns,⟨mb,nsK hb,hbb⟩,let ⟨mc,h1,h2⟩:=hlim;⟨mc,nsK h1,h2⟩⟩
  have e0:Env0 P w K mg (nX s₁.heap H) callerA [] s₁ H:=⟨rfl,hM,λb o e=>yN e,Nat.le_of_eq (vb _ _),trivial,λb hb=>absurd (show b∈([]:List Addr) from hb) (by simp),hok,.of_eq hg⟩
  refine Qr ((F _ hKb (nsK hns)).run callerA [] s₁ H ⟨[.ref a],[]⟩ [.ref a] [.ref a] _ _ hr e0 (hbind s₁ (.ref a)) (.cons rfl .nil) (hsp H hO hS)) λr s' h=>?_;cases r with
  |error e=>exact(hCX H e s' h).elim
  |ok fl=>
   cases fl with
   |next=>exact False.elim h
   |brk=>exact False.elim h
   |cont=>exact False.elim h
   |ret u=>
    obtain⟨v,H',os,bare,un,hok',r',q⟩:=h;have q':v=.bl true:=q;subst q';obtain rfl:u=Value.bool true:=r';refine⟨rfl,OldK.of_keep λb o e=>?_,os,bare⟩;cases q:H b with
    |none=>exact un.keep b o e q (by intro z;exact absurd (show b∈([]:List Addr) from z) (by simp)) (by simp)
    |some u=>
     rcases hO b with z|⟨ob,xs,z⟩
     .rw[q]at z;cases z
     .have z2:=un.frzs b ob _ z;obtain⟨e1,_⟩:=hok b _ z;obtain⟨e2,_⟩:=hok' b _ z2;rw[e]at e1;cases e1;exact e2
 cases hk:K.lookup a with
 |some o=>
  -- the script is one of the module's own objects
  have e:=KX a o hk;rw[ha]at e;cases e
  refine core (λ_=>none) (λ_=>.inl rfl) (.inr ⟨_,vs.toArray,_,hk,rfl,rfl,rfl,by rw[Jr,lenV];exact hl,by simpa using rv⟩) (λb u z=>by have z':(none:Option HO)=some u:=z;cases z') (λb z=>absurd rfl z) λz=>absurd rfl z
 |none=>
  refine core (λb=>if b=a then some (.frz { cls:=.type "list",data:=.seq vs.toArray } (.lst (ns.map V.int))) else none) (λb=>?_) (.inl (.inr ⟨{ cls:=.type "list",data:=.seq vs.toArray },Je rfl⟩)) (λb u z=>?_) (λb z=>?_) λ_=>hk
  .by_cases hb:b=a
   .exact .inr ⟨_,_,Je hb⟩
   .exact .inl (Ji hb)
  .by_cases hb:b=a
   .have z':=(Je hb).symm.trans z;cases z';subst hb
    exact⟨ha,by rw[Jg];exact hl,vs,_,rv,ha⟩
   .have z':=(Ji hb).symm.trans z;cases z'
  .by_cases hb:b=a
   .exact hb
   .exact absurd (Ji hb) z
theorem zj{l:PySem.W.OpenLaw}{n k:Nat}{q:Program}{loose:List Str}{XP:(Str->Option Value)->Heap->Prop}{YP:World->Heap->Prop}{d:DefRec}{K:Params->Frag}{CX:World->CXT}{sp:World->Sp}{x:Str}
  (hn:l.most=some n) (hn2:n<=sizeLine) (hdf:d.params.defaults=[]) (hr:Room k callerA)
  (hY:∀(w:World)(h:Heap),YP w h->(K w.params).In h)
  (F:∀(w:World)(mg:Str->Option Value)(fa:Addr)(h:Heap),(K w.params).In h->h.Ns mainGlobals mg->mg d.name=some (.ref fa)->
   ∃fd:FuncData,(∀(s:Shared)(u:Value),BindsTo s fd ⟨[u],[]⟩ [(x,u)])/\
    ∀base:Heap,(K w.params).In base->base.Ns mainGlobals mg->FnOk l.prog w (K w.params) mg base (CX w) k fa fd [x] (sp w))
  (hsp:∀(w:World)(H:Hp)(a:Addr)(ns:List Int),ns.length<=n->wL H->SqL (K w.params) H a (ns.map V.int)->sp w [.ref a] H (λv _=>v=.bl true) λ_ _ _=>False)
  (hCX:∀(w:World)(H:Hp)(s:Shared)(e:Value)(s':Shared),CX w [] H s (λ_ _ _=>False) e s'->False):
  PySem.W.WalkO q loose XP YP l.row.toRowW d [] (λf vs=>PySem.call f vs):=by
 refine Att.attach_call hn hdf λw s₀ s₁ mg mb fa o pm cd doc a vs ns G Y ho hd hcd hmg hobj hints hlen hg=>?_;have KX:=hY w _ Y;obtain⟨fd,hb,hF⟩:=F w mg fa _ KX G.T.g hmg;exact wM KX G.T.g G.T.b G.T.builtins G.T.nolimit hg hobj hints (Ys hlen hn2) hr hF hb (λH hO hS=>hsp w H a ns hlen hO hS) λH e s'=>hCX w H s₁ e s'
noncomputable def defArgs(s:Stmt):Arguments:=match s with
 |.FunctionDef _ a _ _ _ _ _ _ _ _=>a
 |_=>{ posonlyargs:=[],args:=[],vararg:=none,kwonlyargs:=[],kw_defaults:=[],kwarg:=none,defaults:=[] }
noncomputable def defBody(s:Stmt):List Stmt:=match s with
 |.FunctionDef _ _ b _ _ _ _ _ _ _=>b
 |_=>[]
noncomputable def defScope(s:Stmt):Scope:=match s with
 |.FunctionDef _ _ _ _ _ _ sc _ _ _=>sc
 |_=>{ kind:=.function,names:=[],isGenerator:=false,isCoroutine:=false }
noncomputable abbrev CX0:CXT:=λ_ _ _ _ _ _=>False
noncomputable abbrev E0:XK:=λ_ _ _=>False
structure Fun(K:Frag)(x qual:Str)(st:Stmt)(f:Addr)(fd:FuncData):Prop where
 ex:∃(oc:Value)(od:Option Addr)(kV doc pm:Value)(an:Option Addr)(cdv ct:Value)(osl:Array (Option Value)),
  fd=fnOf x qual (defArgs st) (defBody st) (defScope st) .none kV doc pm an cdv ct/\K.lookup f=some ⟨oc,od,.func fd,osl⟩/\codeIn K cdv qual=true
 kp:keepIn K (.ref f)=true
section
variable{P:Program}{w:World}{K:Frag}{mg:Str->Option Value}{base:Heap}
theorem Fun.binds{qual:Str}{st:Stmt}{f:Addr}{fd:FuncData}{ps:List Str}(F:Fun K x qual st f fd)
  (h:∀(kV doc pm:Value)(an:Option Addr)(cdv ct:Value)(us:List Value),us.length=ps.length->bindArgs (fnOf x qual (defArgs st) (defBody st) (defScope st) .none kV doc pm an cdv ct) ⟨us,[]⟩=pure (ps.zip us)):Binds K fd ps []:=by
 obtain⟨oc,od,kV,doc,pm,an,cdv,ct,osl,rfl,lk,hcd⟩:=F.ex;exact .all (h kV doc pm an cdv ct)
theorem bA{qual:Str}{st:Stmt}{f:Addr}{oc:Value}{od an:Option Addr}{osl:Array (Option Value)}{kV doc pm cdv ct:Value}(l:K.lookup f=some ⟨oc,od,.func (fnOf x qual (defArgs st) (defBody st) (defScope st) .none kV doc pm an cdv ct),osl⟩)
  (c:codeIn K cdv qual=true) (k:keepIn K (.ref f)=true):Fun K x qual st f (fnOf x qual (defArgs st) (defBody st) (defScope st) .none kV doc pm an cdv ct):=⟨⟨oc,od,kV,doc,pm,an,cdv,ct,osl,rfl,l,c⟩,k⟩
end
section
variable{X:Cx}
theorem pv(i:Nat){pos:Pos}(hN:autoParam (X.N[i]?=some x) zz1._auto_1)(hv:Vis X.env.scope x)(hd:autoParam ((x == ("__debug__":Str))=false) zz2._auto_1)
  (hcd:autoParam ((x == ("__classdict__":Str))=false) zz2._auto_1):PE X (.Name x pos) (Dt i):=Be hN hv hd hcd
end
theorem rN{A B:Prop}(h:B):if false=true then A else B:=by rw[Ji Jj];exact h
theorem rO{A B:Prop}(h:A):if true=true then A else B:=by rw[Je rfl];exact h
section
variable{X:Cx}
theorem nv:bI X (.builtin "len") (λxs H Q=>∃a kvs,xs=[V.ref a]/\H a=some (.dK kvs)/\Q (.int kvs.length) H):=by intro pins s σ H xs us Q I r h;obtain⟨a,kvs,rfl,ha,q⟩:=h;obtain⟨u,rfl,ru⟩:=Wx r;cases ru;exact D2 I (.inl ha) λt s' I'=>⟨.int kvs.length,H,I',⟨t,rfl⟩,q⟩
end
end L2
end
set_option autoImplicit false
namespace PD
open PySem
inductive D where
 |non|bl (b:Bool)|int (i:Int)|str (x:Str)
 |tup (xs:List D)|lst (xs:List D)|fz (xs:List D)|dic (kvs:List (Sum Int Str×D))|ref (n:Nat)|ty (n:String)
 /-- a caught exception of an own class;an own class -/
 |exc (c:Str)|cls (c:Str)
 deriving Inhabited
inductive SO where
 |lst (xs:List D)|dic (kvs:List (Sum Int Str×D))|ins (c:Str) (fs:List (Str×D))
 /-- a dict that has been walked: read,changed no more -/
 |fdic (kvs:List (Sum Int Str×D))
 /-- a list that has been walked: read,changed no more -/
 |flst (xs:List D)
 deriving Inhabited
noncomputable abbrev Sto:=List SO
set_option genInjectivity false in
structure XD where
 cls:Str
 arg:D
 deriving Inhabited
inductive R(A:Type) where
 |ok (a:A) (S:Sto)|err (x:XD) (S:Sto)|bad
noncomputable def R.bind{A B:Type}(r:R A)(f:A->Sto->R B):R B:=match r with
 |.ok a S=>f a S | .err x S=>.err x S | .bad=>.bad
theorem R.bind_ok{A B:Type}(a:A)(S:Sto)(f:A->Sto->R B):(R.ok a S).bind f=f a S:=rfl
theorem R.bind_err{A B:Type}(x:XD)(S:Sto)(f:A->Sto->R B):(R.err (A:=A) x S).bind f=.err x S:=rfl
theorem R.bind_bad{A B:Type}(f:A->Sto->R B):(R.bad (A:=A)).bind f=.bad:=rfl
noncomputable def R.of{A:Type}(S:Sto):Option A->R A
 |some a=>.ok a S|none=>.bad
theorem R.of_some{A:Type}(S:Sto)(a:A):R.of S (some a)=.ok a S:=rfl
noncomputable abbrev Rho:=List (Option D)
noncomputable abbrev EM:=Rho->Sto->R D
noncomputable abbrev TM:=Rho->Sto->R Bool
noncomputable abbrev AM:=Rho->Sto->R (List D)
set_option genInjectivity false in
inductive F where
 |nx (r:Rho)|rt (d:D)|bk (r:Rho)|ct (r:Rho)
noncomputable abbrev SM:=Rho->Sto->R F
noncomputable abbrev FM:=List D->Sto->R D
noncomputable def ag(i:Nat):EM:=λr S=>match r[i]? with
 |some (some d)=>.ok d S
 |_=>.bad
noncomputable def eC(d:D):EM:=λ_ S=>.ok d S
noncomputable def eUn(f:Sto->D->Option D)(a:EM):EM:=λr S=>(a r S).bind λx S1=>R.of S1 (f S1 x)
noncomputable def eOp(f:Sto->D->D->Option D)(a b:EM):EM:=λr S=>(a r S).bind λx S1=>(b r S1).bind λy S2=>R.of S2 (f S2 x y)
noncomputable def ES(f g:Sto->D->D->Option D)(a b c:EM):EM:=λr S=>(a r S).bind λx S1=>(b r S1).bind λy S2=>match f S2 x y with
 |some (.bl true)=>(c r S2).bind λz S3=>R.of S3 (g S3 y z)
 |some (.bl false)=>.ok (.bl false) S2
 |_=>.bad
noncomputable def rP(a b:EM):EM:=λr S=>(a r S).bind λx S1=>match x with
 |.bl true=>b r S1
 |.bl false=>.ok (.bl false) S1
 |_=>.bad
noncomputable def eOr(a b:EM):EM:=λr S=>(a r S).bind λx S1=>match x with
 |.bl true=>.ok (.bl true) S1
 |.bl false=>b r S1
 |_=>.bad
noncomputable def zk(a:EM):EM:=λr S=>(a r S).bind λx S1=>match x with
 |.bl b=>.ok (.bl (!b)) S1
 |_=>.bad
noncomputable def eIf(t:TM)(a b:EM):EM:=λr S=>(t r S).bind λc S1=>if c=true then a r S1 else b r S1
noncomputable def aj:AM:=λ_ S=>.ok [] S
noncomputable def aa(a:EM)(t:AM):AM:=λr S=>(a r S).bind λx S1=>(t r S1).bind λxs S2=>.ok (x::xs) S2
noncomputable def bz(t:AM):EM:=λr S=>(t r S).bind λxs S1=>if xs.length<=sizeLine then .ok (.tup xs) S1 else .bad
noncomputable def cC(t:AM):EM:=λr S=>(t r S).bind λxs S1=>if xs.length<=sizeLine then .ok (.lst xs) S1 else .bad
noncomputable def eNew(t:AM):EM:=λr S=>(t r S).bind λxs S1=>if xs.length<=sizeLine then .ok (.ref S1.length) (S1++[.lst xs]) else .bad
noncomputable def aA(f:FM)(t:AM):EM:=λr S=>(t r S).bind λxs S1=>f xs S1
noncomputable def eB(f:Sto->List D->Option D)(t:AM):EM:=λr S=>(t r S).bind λxs S1=>R.of S1 (f S1 xs)
noncomputable def eBN(f:Sto->List D->Option SO)(t:AM):EM:=λr S=>(t r S).bind λxs S1=>match f S1 xs with
 |some o=>.ok (.ref S1.length) (S1++[o])
 |none=>.bad
noncomputable def tV(a:EM):TM:=λr S=>(a r S).bind λx S1=>match x with
 |.bl b=>.ok b S1
 |_=>.bad
noncomputable def iP(a b:TM):TM:=λr S=>(a r S).bind λc S1=>if c=true then b r S1 else .ok false S1
noncomputable def tOr(a b:TM):TM:=λr S=>(a r S).bind λc S1=>if c=true then .ok true S1 else b r S1
noncomputable def cS(a:TM):TM:=λr S=>(a r S).bind λc S1=>.ok (!c) S1
noncomputable def R.nx{A:Type}:R A->R A
 |.err _ _=>.bad
 |r=>r
noncomputable def eNx(a:EM):EM:=λr S=>(a r S).nx
noncomputable def tNx(a:TM):TM:=λr S=>(a r S).nx
noncomputable def aNx(a:AM):AM:=λr S=>(a r S).nx
noncomputable def aY:SM:=λr S=>.ok (.nx r) S
noncomputable def E6:SM:=λ_ _=>.bad
noncomputable def aF(a b:SM):SM:=λr S=>(a r S).bind λf S1=>match f with
 |.nx r1=>b r1 S1
 |g=>.ok g S1
noncomputable def aT(a:EM):SM:=λr S=>(a r S).bind λx S1=>.ok (.rt x) S1
noncomputable def E4:SM:=λ_ S=>.ok (.rt .non) S
noncomputable def dg(a:EM):SM:=λr S=>(a r S).bind λ_ S1=>.ok (.nx r) S1
noncomputable def sIf(t:TM)(a b:SM):SM:=λr S=>(t r S).bind λc S1=>if c=true then a r S1 else b r S1
noncomputable def ET:SM:=λr S=>.ok (.bk r) S
noncomputable def E5:SM:=λr S=>.ok (.ct r) S
set_option genInjectivity false in
inductive G where
 |nm (i:Nat)|tp (gs:List G)
mutual
noncomputable def G.put:G->D->Rho->Option Rho
 |.nm i,d,r=>some (r.set i (some d))
 |.tp gs,d,r=>match d with
  |.tup xs=>G.puts gs xs r
  |_=>none
noncomputable def G.puts:List G->List D->Rho->Option Rho
 |[],[],r=>some r
 |g::gs,x::xs,r=>match G.put g x r with
  |some r1=>G.puts gs xs r1
  |none=>none
 |_,_,_=>none
end
noncomputable def ba(i:Nat)(a:EM):SM:=λr S=>(a r S).bind λx S1=>.ok (.nx (r.set i (some x))) S1
noncomputable def BX(g:G)(a:EM):SM:=λr S=>(a r S).bind λx S1=>match g.put x r with
 |some r1=>.ok (.nx r1) S1
 |none=>.bad
noncomputable def E7(i j:Nat)(t:AM):SM:=λr S=>(t r S).bind λxs S1=>match xs with
 |[x,y]=>.ok (.nx ((r.set i (some x)).set j (some y))) S1
 |_=>.bad
noncomputable def pL(f:Sto->D->D->D->Option Sto)(e o i:EM):SM:=λr S=>(e r S).bind λv S1=>(o r S1).bind λx S2=>(i r S2).bind λy S3=>match f S3 x y v with
 |some S4=>.ok (.nx r) S4
 |none=>.bad
noncomputable def E8(f:Sto->D->List D->Option Sto)(o:EM)(t:AM):SM:=λr S=>(o r S).bind λx S1=>(t r S1).bind λys S2=>match f S2 x ys with
 |some S3=>.ok (.nx r) S3
 |none=>.bad
noncomputable def sNx(a:SM):SM:=λr S=>(a r S).nx
noncomputable def jY(c:Str)(t:AM):SM:=λr S=>(t r S).bind λxs S1=>if xs.length<=sizeLine then .err ⟨c,.tup xs⟩ S1 else .bad
noncomputable def jZ(cs:List Str)(i n:Nat)(b h:SM):SM:=λr S=>match b r S with
 |.err x S1=>if cs.contains x.cls=true then (h ((List.replicate n none).set i (some (.exc x.cls))) S1).nx.bind λf S2=>match f with
   |.rt d=>.ok (.rt d) S2
   |_=>.bad
  else .bad
 |.ok f S1=>.ok f S1
 |.bad=>.bad
noncomputable def forL(g:G)(b:SM):List D->SM
 |[]=>λr S=>.ok (.nx r) S
 |x::xs=>λr S=>match g.put x r with
  |none=>.bad
  |some r1=>(b r1 S).bind λf S1=>match f with
   |.nx r2=>forL g b xs r2 S1
   |.ct r2=>forL g b xs r2 S1
   |.bk r2=>.ok (.nx r2) S1
   |.rt d=>.ok (.rt d) S1
noncomputable def d8(it:AM)(g:G)(b:SM):SM:=λr S=>(it r S).bind λxs S1=>forL g b xs r S1
noncomputable def wN(t:TM)(b:SM):Nat->SM
 |0=>λ_ _=>.bad
 |n+1=>λr S=>(t r S).bind λc S1=>if c=true then (b r S1).bind λf S2=>match f with
   |.nx r2=>wN t b n r2 S2
   |.ct r2=>wN t b n r2 S2
   |.bk r2=>.ok (.nx r2) S2
   |.rt d=>.ok (.rt d) S2
  else .ok (.nx r) S1
noncomputable def fF(k:Nat)(caps:List Nat)(r:Rho):Rho:=List.replicate k none++caps.map λi=>(r[i]?).join
noncomputable def cy(g:G)(t:TM)(e:EM):List D->Rho->Sto->R (List D)
 |[],_,S=>.ok [] S
 |x::xs,r,S=>match g.put x r with
  |none=>.bad
  |some r1=>(t r1 S).bind λc S1=>if c=true then (e r1 S1).bind λy S2=>(cy g t e xs r1 S2).bind λys S3=>.ok (y::ys) S3
    else cy g t e xs r1 S1
noncomputable def bf(it:AM)(k:Nat)(caps:List Nat)(g:G)(t:TM)(e:EM):EM:=λr S=>(it r S).bind λxs S1=>
 if xs.length<=sizeLine then (cy g t e xs (fF k caps r) S1).bind λys S2=>.ok (.lst ys) S2 else .bad
noncomputable def bh:TM:=λ_ S=>.ok true S
noncomputable def fnM(n:Nat)(b:SM):FM:=λds S=>(b (ds.map some++List.replicate (n-ds.length) none) S).bind λf S1=>match f with
 |.rt d=>.ok d S1
 |.nx _=>.ok .non S1
 |_=>.bad
end PD
namespace PD
open PySem PySem.Spec PyProof.Rows L2
variable{H H' H2:Hp}{a p:Addr}{o:HO}{n:Nat}{r:Rho}{X:Cx}{e tg:Expr}{t:TT}{x:Str}{i:Int}{T:String}{rest es:List Expr}{mt:TM}{ms:AM}{S:Sto}{qb:Bool}{N:List Str}{env:Env}{scope:Scope}{caps:List Nat}{ma:EM}{pins:List (Addr×Obj)}{s:Shared}
set_option genInjectivity false in
structure Wd where
 st:List Addr
 hid:List Addr
variable{w w' w2:Wd}
def Wd.no(w:Wd)(a:Addr):Prop:=a∉w.st/\a∉w.hid
noncomputable def Wd.add(w:Wd)(p:Addr):Wd:=⟨w.st++[p],w.hid⟩
noncomputable def Wd.hide(w:Wd)(p:Addr):Wd:=⟨w.st,p::w.hid⟩
def At(w:Wd)(H:Hp)(a:Addr)(o:HO):Prop:=H a=some o/\w.no a
def pN(K:Frag)(a:Addr)(vs:List V):Prop:=
 ∃(o:Obj)(its:Array Value)(n:Nat),K.lookup a=some o/\o.cls=.type "tuple"/\o.data=.seq its n/\its.size<=sizeLine/\Vals vs its.toList
def EU(K:Frag)(a:Addr)(vs:List V):Prop:=
 ∃(o:Obj)(its:Array Value)(n:Nat),K.lookup a=some o/\o.cls=.type "list"/\o.dict=none/\o.data=.seq its n/\its.size<=sizeLine/\Vals vs its.toList
def rQ(K:Frag)(w:Wd)(H:Hp)(a:Addr)(vs:List V):Prop:=(∃o,At w H a (.frz o (.lst vs)))\/EU K a vs
theorem rQ.sq{K:Frag}{vs:List V}(h:rQ K w H a vs):SqL K H a vs:=h.elim (λ⟨o,z⟩=>.inl (.inr ⟨o,z.1⟩)) .inr
noncomputable def ExcAt(a:Addr)(C:Value):Heap->Prop:=λh=>∃o,h.get? a=some o/\o.cls=C
mutual
noncomputable def RD(K:Frag)(w:Wd)(H:Hp):D->V->Prop
 |.non,v=>v=.non
 |.bl b,v=>v=.bl b
 |.int i,v=>v=.int i
 |.str x,v=>v=.str x
 |.tup ds,v=>∃a vs,v=.ref a/\(At w H a (.tup vs)\/pN K a vs)/\RDs K w H ds vs
 |.lst ds,v=>∃a vs,v=.ref a/\At w H a (.lst vs)/\RDs K w H ds vs
 |.fz ds,v=>∃a vs,v=.ref a/\rQ K w H a vs/\RDs K w H ds vs
 |.dic kvs,v=>∃a us,v=.ref a/\At w H a (.dK us)/\RDk K w H kvs us
 |.ref n,v=>∃a,v=.ref a/\w.st[n]?=some a
 |.ty n,v=>v=.ty n
 |.exc c,v=>∃a C o,v=.ref a/\nsIn K mainGlobals c=some (some C)/\At w H a (.frz o (.ext (ExcAt a C)))
 |.cls c,v=>∃C,nsIn K mainGlobals c=some (some (.ref C))/\v=.ref C
noncomputable def RDs(K:Frag)(w:Wd)(H:Hp):List D->List V->Prop
 |[],vs=>vs=[]
 |d::ds,vs=>∃v r,vs=v::r/\RD K w H d v/\RDs K w H ds r
noncomputable def RDk(K:Frag)(w:Wd)(H:Hp):List (Sum Int Str×D)->List (Key×V)->Prop
 |[],us=>us=[]
 |(k,d)::ds,us=>∃v r,us=(k,v)::r/\RD K w H d v/\RDk K w H ds r
end
structure Ext(w:Wd)(H:Hp)(w':Wd)(H':Hp):Prop where
 keep:∀a o,H a=some o->a∉w.st->H' a=some o
 sub:∃l,w'.st=w.st++l/\∀a∈l,H a=none
 hid:∀a,a∈w.hid->a∈w'.hid
 hnew:∀a,a∈w'.hid->a∈w.hid\/H a=none
 frz:∀a o u,H a=some (.frz o u)->H' a=some (.frz o u)
theorem Ext.refl(w:Wd)(H:Hp):Ext w H w H:=⟨λ_ _ h _=>h,⟨[],by simp,λ_ h=>nomatch h⟩,λ_ h=>h,λ_ h=>.inl h,λ_ _ _ h=>h⟩
theorem Ext.out(x:Ext w H w' H')(h:H a=some o)(n:a∉w.st):a∉w'.st:=by
 obtain⟨l,e,f⟩:=x.sub;rw[e];intro z;rcases Jt.mp z with z|z
 .exact n z
 .rw[f a z]at h;cases h
theorem Ext.at(x:Ext w H w' H')(h:At w H a o):At w' H' a o:=⟨x.keep a o h.1 h.2.1,x.out h.1 h.2.1,λz=>(x.hnew a z).elim h.2.2 λe=>by rw[h.1]at e;cases e⟩
theorem Ext.get(x:Ext w H w' H')(h:w.st[n]?=some a):w'.st[n]?=some a:=by obtain⟨l,e,f⟩:=x.sub;rw[e,Jw (Jf.mp h).1];exact h
theorem Ext.trans{w1:Wd}{H1:Hp}(x:Ext w H w1 H1)(y:Ext w1 H1 w2 H2)(fr:∀a∈w.st,∃o,H a=some o/\∃o',H1 a=some o'):Ext w H w2 H2:=by
 have hno:∀a,H1 a=none->H a=none:=λa z=>by
  cases e:H a with
  |none=>rfl
  |some o=>
   by_cases hw:a∈w.st
   .obtain⟨_,_,o',e'⟩:=fr a hw;rw[z]at e';cases e'
   .have:=x.keep a o e hw;rw[z]at this;cases this
 refine⟨λa o h n=>y.keep a o (x.keep a o h n) (x.out h n),?_,λa h=>y.hid a (x.hid a h),λa h=>(y.hnew a h).elim (x.hnew a) λz=>.inr (hno a z),λa o u h=>y.frz a o u (x.frz a o u h)⟩;obtain⟨l,e1,f⟩:=x.sub;obtain⟨l2,e2,f2⟩:=y.sub
 refine⟨l++l2,by rw[e2,e1];simp,λa ha=>?_⟩
 rcases Jt.mp ha with z|z
 .exact f a z
 .exact hno a (f2 a z)
section
variable{K:Frag}{w w':Wd}{H H':Hp}
mutual
theorem RD.ext(x:Ext w H w' H'):∀(d:D)(v:V),RD K w H d v->RD K w' H' d v
 |.non,_,h=>h
 |.bl _,_,h=>h
 |.int _,_,h=>h
 |.str _,_,h=>h
 |.tup ds,v,h=>by unfold RD at h ⊢;obtain⟨a,vs,e,p,r⟩:=h;exact⟨a,vs,e,p.imp x.at id,RDs.ext x ds vs r⟩
 |.lst ds,v,h=>by unfold RD at h ⊢;obtain⟨a,vs,e,p,r⟩:=h;exact⟨a,vs,e,x.at p,RDs.ext x ds vs r⟩
 |.fz ds,v,h=>by unfold RD at h ⊢;obtain⟨a,vs,e,p,r⟩:=h;exact⟨a,vs,e,p.imp (λ⟨o,z⟩=>⟨o,x.at z⟩) id,RDs.ext x ds vs r⟩
 |.dic kvs,v,h=>by unfold RD at h ⊢;obtain⟨a,us,e,p,r⟩:=h;exact⟨a,us,e,x.at p,RDk.ext x kvs us r⟩
 |.ref n,v,h=>by unfold RD at h ⊢;obtain⟨a,e,p⟩:=h;exact⟨a,e,x.get p⟩
 |.ty _,_,h=>h
 |.exc c,v,h=>by unfold RD at h ⊢;obtain⟨a,C,o,e,q,p⟩:=h;exact⟨a,C,o,e,q,x.at p⟩
 |.cls _,_,h=>h
theorem RDs.ext(x:Ext w H w' H'):∀(ds:List D)(vs:List V),RDs K w H ds vs->RDs K w' H' ds vs
 |[],_,h=>h
 |d::ds,vs,h=>by unfold RDs at h ⊢;obtain⟨v,r,e,p,q⟩:=h;exact⟨v,r,e,RD.ext x d v p,RDs.ext x ds r q⟩
theorem RDk.ext(x:Ext w H w' H'):∀(ds:List (Sum Int Str×D))(vs:List (Key×V)),RDk K w H ds vs->RDk K w' H' ds vs
 |[],_,h=>h
 |(k,d)::ds,vs,h=>by unfold RDk at h ⊢;obtain⟨v,r,e,p,q⟩:=h;exact⟨v,r,e,RD.ext x d v p,RDk.ext x ds r q⟩
end
end
def RDf(K:Frag)(w:Wd)(H:Hp)(fs:List (Str×D))(us:List (Str×V)):Prop:=fs.map (·.1)=us.map (·.1)/\RDs K w H (fs.map (·.2)) (us.map (·.2))
noncomputable def RO(K:Frag)(w:Wd)(H:Hp)(a:Addr):SO->Prop
 |.lst ds=>∃vs,H a=some (.lst vs)/\RDs K w H ds vs
 |.dic kvs=>∃us,H a=some (.dK us)/\RDk K w H kvs us
 |.fdic kvs=>∃o us,H a=some (.frz o (.dK us))/\RDk K w H kvs us
 |.ins c fs=>∃C dx us,nsIn K mainGlobals c=some (some (.ref C))/\H a=some (.ins C dx us)/\RDf K w H fs us
 |.flst ds=>∃o vs,H a=some (.frz o (.lst vs))/\RDs K w H ds vs
structure RS(K:Frag)(w:Wd)(H:Hp)(S:Sto):Prop where
 nd:w.st.Nodup
 len:w.st.length=S.length
 obj:∀(n:Nat)(o:SO),S[n]?=some o->∃a:Addr,w.st[n]?=some a/\RO K w H a o
 hid:∀a∈w.hid,a∉w.st/\∃o,H a=some o
section
variable{K:Frag}{w w':Wd}{H H':Hp}{S:Sto}
theorem RS.there(s:RS K w H S)(ha:a∈w.st):∃o,H a=some o:=by
 obtain⟨n,hn⟩:=U1.mp ha
 have hl:n<S.length:=by rw[<- s.len];exact(Jf.mp hn).1
 obtain⟨b,hb,r⟩:=s.obj n S[n] (Jc hl);rw[hn]at hb;cases hb;revert r;cases S[n] with
 |lst ds=>rintro⟨vs,e,_⟩;exact⟨_,e⟩
 |dic kvs=>rintro⟨vs,e,_⟩;exact⟨_,e⟩
 |fdic kvs=>rintro⟨o,vs,e,_⟩;exact⟨_,e⟩
 |ins c fs=>rintro⟨C,dx,us,_,e,_⟩;exact⟨_,e⟩
 |flst ds=>rintro⟨o,vs,e,_⟩;exact⟨_,e⟩
theorem RS.freshS(s:RS K w H S)(h:H a=none):a∉w.st:=λz=>by obtain⟨o,e⟩:=s.there z;rw[h]at e;cases e
theorem RS.fresh(s:RS K w H S)(h:H a=none):w.no a:=⟨s.freshS h,λz=>by
 obtain⟨_,o,e⟩:=s.hid a z
 rw[h]at e;cases e⟩
theorem Ext.trans'{w1:Wd}{H1:Hp}{S1:Sto}(x:Ext w H w1 H1)(y:Ext w1 H1 w2 H2)(s:RS K w H S)(s1:RS K w1 H1 S1):Ext w H w2 H2:=
 x.trans y λa ha=>by
  obtain⟨o,e⟩:=s.there ha;obtain⟨l,el,_⟩:=x.sub
  obtain⟨o',e'⟩:=s1.there (a:=a) (by rw[el];exact Qh _ ha)
  exact⟨o,e,o',e'⟩
theorem Ext.new(hp:H p=none):Ext w H w (upd H p o):=
 ⟨λa u e _=>by rw[ax (aH e hp)];exact e,⟨[],by simp,λ_ z=>nomatch z⟩,λ_ h=>h,λ_ h=>.inl h,λa o u e=>by rw[ax (aH e hp)];exact e⟩
theorem RO.ext(x:Ext w H w' H'){o:SO}(hk:∀u,H a=some u->H' a=some u)(r:RO K w H a o):RO K w' H' a o:=by
 cases o with
 |lst ds=>obtain⟨vs,e,q⟩:=r;exact⟨vs,hk _ e,RDs.ext x _ _ q⟩
 |dic kvs=>obtain⟨vs,e,q⟩:=r;exact⟨vs,hk _ e,RDk.ext x _ _ q⟩
 |fdic kvs=>obtain⟨o,vs,e,q⟩:=r;exact⟨o,vs,hk _ e,RDk.ext x _ _ q⟩
 |ins c fs=>obtain⟨C,dx,us,n,e,q1,q2⟩:=r;exact⟨C,dx,us,n,hk _ e,q1,RDs.ext x _ _ q2⟩
 |flst ds=>obtain⟨o,vs,e,q⟩:=r;exact⟨o,vs,hk _ e,RDs.ext x _ _ q⟩
theorem RS.new(s:RS K w H S)(hp:H p=none):RS K w (upd H p o) S:=
  ⟨s.nd,s.len,λn so e=>by
    obtain⟨a,ha,r⟩:=s.obj n so e
    exact⟨a,ha,r.ext (Ext.new hp) λu q=>by rw[ax (aH q hp)];exact q⟩,
   λa ha=>by
    obtain⟨h1,u,e⟩:=s.hid a ha
    exact⟨h1,u,by rw[ax (aH e hp)];exact e⟩⟩
theorem Ext.alloc(hp:H p=none):Ext w H (w.add p) (upd H p o):=
 ⟨λa u e _=>by rw[ax (aH e hp)];exact e,⟨[p],rfl,λa ha=>by
  have:a=p:=by simpa using ha
  subst this;exact hp⟩,λ_ h=>h,λ_ h=>.inl h,λa o u e=>by rw[ax (aH e hp)];exact e⟩
theorem RS.alloc{so:SO}(s:RS K w H S)(hp:H p=none)(r:RO K (w.add p) (upd H p o) p so):RS K (w.add p) (upd H p o) (S++[so]):=by
 have np:=s.freshS hp
 refine⟨?_,by simp[Wd.add,s.len],λn so' e=>?_,λa ha=>?_⟩
 .show(w.st++[p]).Nodup;rw[Vi]
  exact⟨s.nd,by simp,λa ha b hb=>by
   have:b=p:=by simpa using hb
   subst this;rintro rfl
   exact np ha⟩
 .by_cases hn:n<S.length
  .rw[Jw hn]at e;obtain⟨a,ha,q⟩:=s.obj n so' e
   exact⟨a,(Ext.alloc (o:=o) hp).get ha,q.ext (Ext.alloc hp) λu z=>by rw[ax (aH z hp)];exact z⟩
  .have hn':n=S.length:=by have:=(Jf.mp e).1;simp at this;omega
   subst hn';simp at e;subst e
   exact⟨p,by show(w.st++[p])[S.length]?=some p;rw[<- s.len];simp,r⟩
 .obtain⟨h1,u,e⟩:=s.hid a ha
  refine⟨?_,u,by rw[ax (aH e hp)];exact e⟩
  show a∉w.st++[p];intro z;rcases Jt.mp z with z|z
  .exact h1 z
  .have:a=p:=by simpa using z
   subst this;rw[hp]at e;cases e
theorem Ext.mut{u0:HO}(hp:p∈w.st)(h0:H p=some u0)(hu:autoParam (∀o u,u0≠.frz o u) zz8._auto_1):Ext w H w (upd H p o):=
 ⟨λa u e n=>by rw[ax (λz:a=p=>n (z▸hp))];exact e,⟨[],by simp,λ_ z=>nomatch z⟩,λ_ h=>h,λ_ h=>.inl h,λa o u e=>by rw[ax (λz:a=p=>by rw[z,h0]at e;exact hu o u (Yk e))];exact e⟩
theorem RS.mut{so:SO}(s:RS K w H S)(hp:w.st[n]?=some p){u0:HO}(h0:H p=some u0)(r:RO K w (upd H p o) p so)(hu:autoParam (∀o u,u0≠.frz o u) zz8._auto_1):RS K w (upd H p o) (S.set n so):=by
 have hm:p∈w.st:=Za hp
 refine⟨s.nd,by simp[s.len],λm so' e=>?_,λa ha=>?_⟩
 .by_cases hn:m=n
  .subst hn
   have hl:m<S.length:=by rw[<- s.len];exact(Jf.mp hp).1
   rw[Yj hl]at e;cases e;exact⟨p,hp,r⟩
  .rw[Ye (Ne.symm hn)]at e;obtain⟨a,ha,q⟩:=s.obj m so' e;refine⟨a,ha,q.ext (Ext.mut hm h0 hu) λu z=>?_⟩
   have:a≠p:=λz=>by subst z;obtain⟨h1,e1⟩:=Jf.mp ha;obtain⟨h2,e2⟩:=Jf.mp hp;exact hn ((List.getElem_inj s.nd).mp (e1.trans e2.symm))
   rw[ax this];exact z
 .obtain⟨h1,u,e⟩:=s.hid a ha
  exact⟨h1,u,by rw[ax (λz:a=p=>h1 (z▸hm))];exact e⟩
end
def RSt(K:Frag)(w:Wd)(H:Hp)(r:Rho)(s:L2.St):Prop:=
 s.length=r.length/\∀(i:Nat)(d:D),r[i]?=some (some d)->∃v,s[i]?=some (some v)/\RD K w H d v
theorem RSt.ext{K:Frag}{s:L2.St}(h:RSt K w H r s)(x:Ext w H w' H'):RSt K w' H' r s:=
 ⟨h.1,λi d e=>let ⟨v,e1,q⟩:=h.2 i d e;⟨v,e1,RD.ext x d v q⟩⟩
theorem RSt.set{K:Frag}{s:L2.St}(h:RSt K w H r s)(i:Nat){d:D}{v:V}(q:RD K w H d v):RSt K w H (r.set i (some d)) (s.set i (some v)):=by
 refine⟨by simp[h.1],λj d' e=>?_⟩
 by_cases hj:j=i
 .subst hj
  have hl:j<r.length:=by have:=(Jf.mp e).1;simpa using this
  rw[Yj hl]at e;cases e
  exact⟨v,Yj (by rw[h.1];exact hl),q⟩
 .rw[Ye (Ne.symm hj)]at e;obtain⟨v',e',q'⟩:=h.2 j d' e
  exact⟨v',by rw[Ye (Ne.symm hj)];exact e',q'⟩
section
variable{K:Frag}{w:Wd}{H:Hp}
theorem RDs.nil:RDs K w H [] []:=by unfold RDs;rfl
theorem RDs.cons{d:D}{v:V}{ds:List D}{vs:List V}(r:RD K w H d v)(q:RDs K w H ds vs):RDs K w H (d::ds) (v::vs):=by unfold RDs;exact⟨v,vs,rfl,r,q⟩
theorem RDs.nil_inv{vs:List V}(h:RDs K w H [] vs):vs=[]:=by unfold RDs at h;exact h
theorem RDs.cons_inv{d:D}{ds:List D}{vs:List V}(h:RDs K w H (d::ds) vs):∃v r,vs=v::r/\RD K w H d v/\RDs K w H ds r:=by unfold RDs at h;exact h
theorem RDs.one_inv{d:D}{vs:List V}(h:RDs K w H [d] vs):∃v,vs=[v]/\RD K w H d v:=by obtain⟨v,r,rfl,h1,h2⟩:=h.cons_inv;rw[h2.nil_inv];exact⟨v,rfl,h1⟩
theorem RDs.two_inv{d e:D}{vs:List V}(h:RDs K w H [d,e] vs):∃v u,vs=[v,u]/\RD K w H d v/\RD K w H e u:=by obtain⟨v,r,rfl,h1,h2⟩:=h.cons_inv;obtain⟨u,rfl,h3⟩:=h2.one_inv;exact⟨v,u,rfl,h1,h3⟩
theorem RDs.length:∀{ds:List D}{vs:List V},RDs K w H ds vs->vs.length=ds.length
 |[],_,h=>by rw[h.nil_inv];rfl
 |_::_,_,h=>by obtain⟨v,r,rfl,_,q⟩:=h.cons_inv;simp[q.length]
theorem RDs.get:∀{ds:List D}{vs:List V}{i:Nat}{d:D},RDs K w H ds vs->ds[i]?=some d->∃v,vs[i]?=some v/\RD K w H d v
 |[],_,_,_,_,e=>by simp at e
 |_::_,_,0,_,h,e=>by obtain⟨v,r,rfl,p,_⟩:=h.cons_inv;simp at e;subst e;exact⟨v,rfl,p⟩
 |_::ds,_,i+1,d,h,e=>by
  obtain⟨v,r,rfl,_,q⟩:=h.cons_inv
  obtain⟨u,e1,q1⟩:=q.get (i:=i) (d:=d) (by simpa using e)
  exact⟨u,by simpa using e1,q1⟩
theorem RDs.append:∀{ds es:List D}{vs us:List V},RDs K w H ds vs->RDs K w H es us->RDs K w H (ds++es) (vs++us)
 |[],_,_,_,h,q=>by rw[h.nil_inv];exact q
 |_::_,_,_,_,h,q=>by obtain⟨v,r,rfl,p,t⟩:=h.cons_inv;exact .cons p (t.append q)
theorem RDs.take:∀{ds:List D}{vs:List V}(n:Nat),RDs K w H ds vs->RDs K w H (ds.take n) (vs.take n)
 |_,_,0,_=>by simp;exact .nil
 |[],_,_+1,h=>by rw[h.nil_inv];simp;exact .nil
 |_::_,_,n+1,h=>by obtain⟨v,r,rfl,p,t⟩:=h.cons_inv;exact .cons p (t.take n)
theorem RDs.drop:∀{ds:List D}{vs:List V}(n:Nat),RDs K w H ds vs->RDs K w H (ds.drop n) (vs.drop n)
 |_,_,0,h=>h
 |[],_,_+1,h=>by rw[h.nil_inv];simp;exact .nil
 |_::_,_,n+1,h=>by obtain⟨v,r,rfl,_,t⟩:=h.cons_inv;exact t.drop n
theorem RDs.set{d:D}{v:V}(r:RD K w H d v):∀{ds:List D}{vs:List V}(i:Nat),RDs K w H ds vs->RDs K w H (ds.set i d) (vs.set i v)
 |[],_,_,h=>by rw[h.nil_inv];exact .nil
 |_::_,_,0,h=>by obtain⟨_,_,rfl,_,t⟩:=h.cons_inv;exact .cons r t
 |_::_,_,i+1,h=>by obtain⟨_,_,rfl,p,t⟩:=h.cons_inv;exact .cons p (RDs.set r i t)
end
def RX(K:Frag)(w:Wd)(H:Hp)(x:XD)(c:Value)(da:Option Addr):Prop:=nsIn K mainGlobals x.cls=some (some c)
def az{A B:Type}(K:Frag)(E:XK)(rel:Wd->Hp->A->B->Prop)(w:Wd)(H:Hp)(r:R A)(Q:B->Hp->Prop):Prop:=match r with
 |.ok a S'=>∀w' H' b,Ext w H w' H'->rel w' H' a b->RS K w' H' S'->Q b H'
 |.err x S'=>∀w' H' c da,Ext w H w' H'->RS K w' H' S'->RX K w' H' x c da->E c da H'
 |.bad=>False
section
variable{A B A2 B2:Type}{K:Frag}{E:XK}{rel:Wd->Hp->A->B->Prop}{rel2:Wd->Hp->A2->B2->Prop}{w w1:Wd}{H H1:Hp}{S S1:Sto}
theorem az.ext{r:R A}{Q:B->Hp->Prop}(h:az K E rel w H r Q)(x:Ext w H w1 H1)(s:RS K w H S)(s1:RS K w1 H1 S1):az K E rel w1 H1 r Q:=by
 cases r with
 |ok a S'=>exact λw' H' b y q t=>h w' H' b (x.trans' y s s1) q t
 |err e S'=>exact λw' H' c da y t q=>h w' H' c da (x.trans' y s s1) t q
 |bad=>exact h
theorem az.bind{r:R A}{f:A->Sto->R A2}{Q':B->Hp->Prop}{Q:B2->Hp->Prop}(h:az K E rel2 w H (r.bind f) Q)(s:RS K w H S)
  (k:∀a S1 w1 H1 b,Ext w H w1 H1->rel w1 H1 a b->RS K w1 H1 S1->az K E rel2 w1 H1 (f a S1) Q->Q' b H1):az K E rel w H r Q':=by
 cases r with
 |ok a S'=>exact λw1 H1 b x q s1=>k a S' w1 H1 b x q s1 (az.ext (r:=f a S') h x s s1)
 |err e S'=>exact h
 |bad=>exact h
theorem az.bindAt{w0:Wd}{H0:Hp}{S0:Sto}{r:R A}{f:A->Sto->R A2}{Q':B->Hp->Prop}{Q:B2->Hp->Prop}(h:az K E rel2 w0 H0 (r.bind f) Q)(x:Ext w0 H0 w H)(s0:RS K w0 H0 S0)(s:RS K w H S)
  (k:∀a S1 w1 H1 b,Ext w H w1 H1->rel w1 H1 a b->RS K w1 H1 S1->az K E rel2 w0 H0 (f a S1) Q->Q' b H1):az K E rel w H r Q':=by
 cases r with
 |ok a S'=>exact λw1 H1 b y q s1=>k a S' w1 H1 b y q s1 h
 |err e S'=>exact λw' H' c da y t q=>h w' H' c da (x.trans' y s0 s) t q
 |bad=>exact h
theorem az.ret{a:A}{b:B}{Q:B->Hp->Prop}(h:az K E rel w H (.ok a S) Q)(q:rel w H a b)(s:RS K w H S):Q b H:=h w H b (Ext.refl w H) q s
theorem az.at{a:A}{b:B}{Q:B->Hp->Prop}(h:az K E rel w H (.ok a S) Q)(x:Ext w H w1 H1)(q:rel w1 H1 a b)(s:RS K w1 H1 S):Q b H1:=h w1 H1 b x q s
theorem az.of{o:Option A}{Q:B->Hp->Prop}(h:az K E rel w H (R.of S o) Q):∃a,o=some a/\az K E rel w H (.ok a S) Q:=by
 cases o with
 |some a=>exact⟨a,rfl,h⟩
 |none=>exact h.elim
end
set_option genInjectivity false in
inductive FV where
 |nx (s:L2.St)|rt (v:V)|bk (s:L2.St)|ct (s:L2.St)
noncomputable def FV.to(D:Ends):FV->Hp->Prop
 |.nx s,H=>D.nx s H
 |.rt v,H=>D.rt v H
 |.bk s,H=>D.bk s H
 |.ct s,H=>D.ct s H
noncomputable def RF(K:Frag)(w:Wd)(H:Hp):F->FV->Prop
 |.nx r,f=>∃s,f=.nx s/\RSt K w H r s
 |.rt d,f=>∃v,f=.rt v/\RD K w H d v
 |.bk r,f=>∃s,f=.bk s/\RSt K w H r s
 |.ct r,f=>∃s,f=.ct s/\RSt K w H r s
def RB(w:Wd)(H:Hp)(a b:Bool):Prop:=b=a
noncomputable def uE(K:Frag)(E:XK)(m:EM):TE:=λs H Q=>∃w r S,RSt K w H r s/\RS K w H S/\az K E (RD K) w H (m r S) Q
noncomputable def uT(K:Frag)(E:XK)(m:TM):TT:=λs H Q=>∃w r S,RSt K w H r s/\RS K w H S/\az K E RB w H (m r S) Q
noncomputable def uA(K:Frag)(E:XK)(m:AM):TA:=λs H Q=>∃w r S,RSt K w H r s/\RS K w H S/\az K E (RDs K) w H (m r S) Q
noncomputable def uS(K:Frag)(E:XK)(m:SM):TS:=λD s H=>∃w r S,RSt K w H r s/\RS K w H S/\az K E (RF K) w H (m r S) (FV.to D)
theorem ex6{K:Frag}{s:L2.St}{c:Wd->Rho->Sto->Prop}{P:Prop}(z:∃w r S,RSt K w H r s/\RS K w H S/\c w r S)(f:∀w r S,RSt K w H r s->RS K w H S->c w r S->P):P:=by obtain⟨w,r,S,x,y,z⟩:=z;exact f w r S x y z
theorem ex8.{u} {α:Type u} {a:Wd->Rho->Prop} {b:Wd->Rho->α->Rho->Prop} {c:Wd->Rho->α->Rho->Prop} {d:Wd->Rho->α->Rho->Prop} {P:Prop} (z:∃w r e r',a w r/\b w r e r'/\c w r e r'/\d w r e r') (f:∀w r e r',a w r->b w r e r'->c w r e r'->d w r e r'->P):P:=by obtain⟨w,r,e,r',x,y,z,t⟩:=z;exact f w r e r' x y z t
structure Bx(p:Prop):Prop where
 out:p
abbrev SE(X:Cx)(E:XK)(e:Expr)(m:EM):Prop:=Bx (PE X e (uE X.K E m))
abbrev ST(X:Cx)(E:XK)(e:Expr)(m:TM):Prop:=Bx (PT X e (uT X.K E m))
abbrev SW(X:Cx)(E:XK)(e:Expr)(m:TM):Prop:=Bx (PW X e (uT X.K E m))
abbrev SA(X:Cx)(E:XK)(es:List Expr)(m:AM):Prop:=Bx (PA X es (uA X.K E m))
abbrev SS(X:Cx)(E:XK)(st:Stmt)(m:SM):Prop:=Bx (PS X st (uS X.K E m))
abbrev SSs(X:Cx)(E:XK)(st:List Stmt)(m:SM):Prop:=Bx (PSs X st (uS X.K E m))
theorem aR{t t':TE}(h:PE X e t)(k:∀s H Q,t' s H Q->t s H Q):PE X e t':=λpins s σ H Q I q=>h pins s σ H Q I (k σ H Q q)
theorem kK{t':TT}(h:PT X e t)(k:∀s H Q,t' s H Q->t s H Q):PT X e t':=λpins s σ H Q I q=>h pins s σ H Q I (k σ H Q q)
theorem tI{t':TT}(h:PW X e t)(k:∀s H Q,t' s H Q->t s H Q):PW X e t':=λwh pins s σ H Q I q=>h wh pins s σ H Q I (k σ H Q q)
theorem tJ{e:List Expr}{t t':TA}(h:PA X e t)(k:∀s H Q,t' s H Q->t s H Q):PA X e t':=λp pins s σ H Q I q=>h p pins s σ H Q I (k σ H Q q)
theorem fN{e:Stmt}{t t':TS}(h:PS X e t)(k:∀D s H,t' D s H->t D s H):PS X e t':=λpins s σ H Q I q=>h pins s σ H Q I (k Q σ H q)
theorem pO{e:List Stmt}{t t':TS}(h:PSs X e t)(k:∀D s H,t' D s H->t D s H):PSs X e t':=λpins s σ H Q I q=>h pins s σ H Q I (k Q σ H q)
section
variable{X:Cx}{E:XK}{a b c:Expr}{ma mb mc:EM}{pos:Pos}
theorem wO(i:Nat){pos:Pos}(hN:autoParam (X.N[i]?=some x) zz0._auto_1)(hv:Vis X.env.scope x)(hd:autoParam ((x == ("__debug__":Str))=false) zz3._auto_1)
  (hcd:autoParam ((x == ("__classdict__":Str))=false) zz3._auto_1):SE X E (.Name x pos) (ag i):=⟨
 aR (pv i hN hv hd hcd) λs H Q zq=>ex6 zq λw r S hr hS hp=>by
  unfold ag at hp;split at hp
  .rename_i d e;obtain⟨v,e',q⟩:=hr.2 i d e;exact⟨v,e',hp.ret q hS⟩
  .exact hp.elim⟩
theorem pP{v:V}{d:D}(h:PE X e (tC v))(q:∀w H,RD X.K w H d v):SE X E e (eC d):=⟨
 aR h λs H Q zq=>ex6 zq λw r S hr hS hp=>hp.ret (q w H) hS⟩
theorem ao{i j pos}:SE X E (.Constant (.int i) j pos) (eC (.int i)):=pP Bf λ_ _=>by unfold RD;rfl
theorem cM{i j pos}:SE X E (.Constant (.bool i) j pos) (eC (.bl i)):=pP Du λ_ _=>by unfold RD;rfl
theorem g6{j pos}:SE X E (.Constant .none j pos) (eC .non):=pP Bg λ_ _=>by unfold RD;rfl
theorem g7{i j pos}:SE X E (.Constant (.str i) j pos) (eC (.str i)):=pP Bh λ_ _=>by unfold RD;rfl
theorem zp{t:Tok}{pos:Pos}(hg:Gl X x)(hm:X.mg x=some (.int i t))(hd:autoParam ((x == ("__debug__":Str))=false) zz3._auto_1):SE X E (.Name x pos) (eC (.int i)):=
 pP (nY hg hm (v:=.int i) ⟨t,rfl⟩ hd) λ_ _=>by unfold RD;rfl
theorem g8{pos:Pos}(hg:Gl X x)(hm:X.mg x=none)(hv:bootBuiltins x=some (.type T))(hn:autoParam (x ≠ "__name__") zz3._auto_1)(hd:autoParam ((x == ("__debug__":Str))=false) zz3._auto_1):SE X E (.Name x pos) (eC (.ty T)):=
 pP (yO hg hm hv (v:=.ty T) rfl hn hd) λ_ _=>by unfold RD;rfl
noncomputable def xO(K:Frag)(E:XK)(f:Sto->D->D->Option D):R2:=λx y H Q=>∃w S d e,RS K w H S/\RD K w H d x/\RD K w H e y/\az K E (RD K) w H (R.of S (f S d e)) Q
noncomputable def xU(K:Frag)(E:XK)(f:Sto->D->Option D):V->Hp->VK->Prop:=λx H Q=>∃w S d,RS K w H S/\RD K w H d x/\az K E (RD K) w H (R.of S (f S d)) Q
noncomputable def xC(K:Frag)(E:XK)(f:Sto->List D->Option D):List V->Hp->VK->Prop:=λxs H Q=>∃w S ds,RS K w H S/\RDs K w H ds xs/\az K E (RD K) w H (R.of S (f S ds)) Q
theorem aE{op:Operator}{f:Sto->D->D->Option D}(ho:OpR X (binaryOp op) (xO X.K E f))(ha:SE X E a ma)(hb:SE X E b mb):SE X E (.BinOp a op b pos) (eOp f ma mb):=⟨
 aR (DG ho ha.out hb.out) λs H Q zq=>ex6 zq λw r S hr hS hp=>⟨w,r,S,hr,hS,hp.bind hS λd S1 w1 H1 v x1 q1 s1 p1=>
  ⟨w1,r,S1,hr.ext x1,s1,p1.bind s1 λe S2 w2 H2 u x2 q2 s2 p2=>⟨w2,S2,d,e,s2,RD.ext x2 d v q1,q2,p2⟩⟩⟩⟩
theorem gW{op:UnaryOp}{f:Sto->D->Option D}(ho:UnR X (unaryOp op) (xU X.K E f))(ha:SE X E a ma):SE X E (.UnaryOp op a pos) (eUn f ma):=⟨
 aR (DH ho ha.out) λs H Q zq=>ex6 zq λw r S hr hS hp=>⟨w,r,S,hr,hS,hp.bind hS λd S1 w1 H1 v x1 q1 s1 p1=>⟨w1,S1,d,s1,q1,p1⟩⟩⟩
theorem lu{op:CmpOp}{f:Sto->D->D->Option D}(ho:OpR X (compareOp op) (xO X.K E f))(ha:SE X E a ma)(hb:SE X E b mb)(hm:autoParam (behindInMarks op b=false) zz9._auto_1):
  SE X E (.Compare a [op] [b] pos) (eOp f ma mb):=⟨
 aR (yY ho ha.out hb.out hm) λs H Q zq=>ex6 zq λw r S hr hS hp=>⟨w,r,S,hr,hS,hp.bind hS λd S1 w1 H1 v x1 q1 s1 p1=>
  ⟨w1,r,S1,hr.ext x1,s1,p1.bind s1 λe S2 w2 H2 u x2 q2 s2 p2=>⟨w2,S2,d,e,s2,RD.ext x2 d v q1,q2,p2⟩⟩⟩⟩
theorem rR{op}(h:SE X E a ma):SE X E (.BoolOp op [a] pos) ma:=⟨Bm h.out⟩
theorem rS(ha:SE X E a ma)(hb:SE X E (.BoolOp .And (b::rest) pos) mb):SE X E (.BoolOp .And (a::b::rest) pos) (rP ma mb):=⟨
 aR (Bn ha.out hb.out) λs H Q zq=>ex6 zq λw r S hr hS hp=>⟨w,r,S,hr,hS,hp.bind hS λd S1 w1 H1 v x1 q1 s1 p1=>by
  cases d with
  |bl k=>
   unfold RD at q1;subst q1;refine⟨k,rfl,?_⟩;cases k with
   |true=>exact rO ⟨w1,r,S1,hr.ext x1,s1,p1⟩
   |false=>exact rN (az.ret p1 (by unfold RD;rfl) s1)
  |_=>exact p1.elim⟩⟩
theorem wQ(ha:SE X E a ma):SE X E (.UnaryOp .Not a pos) (zk ma):=⟨
 aR (Bo ha.out) λs H Q zq=>ex6 zq λw r S hr hS hp=>⟨w,r,S,hr,hS,hp.bind hS λd S1 w1 H1 v x1 q1 s1 p1=>by
  cases d with
  |bl k=>
   unfold RD at q1;subst q1
   exact⟨k,rfl,az.ret p1 (by unfold RD;rfl) s1⟩
  |_=>exact p1.elim⟩⟩
theorem wR(hc:ST X E c mt)(ha:SE X E a ma)(hb:SE X E b mb):SE X E (.IfExp c a b pos) (eIf mt ma mb):=⟨
 aR (wm hc.out ha.out hb.out) λs H Q zq=>ex6 zq λw r S hr hS hp=>⟨w,r,S,hr,hS,hp.bind hS λk S1 w1 H1 v x1 q1 s1 p1=>by
  have e:v=k:=q1;subst e;cases v with
  |true=>exact rO ⟨w1,r,S1,hr.ext x1,s1,p1⟩
  |false=>exact rN ⟨w1,r,S1,hr.ext x1,s1,p1⟩⟩⟩
theorem AV{s:L2.St}{Q:Bool->Hp->Prop}(h:uT X.K E (tV ma) s H Q):uE X.K E ma s H λx H1=>∃k,x=.bl k/\Q k H1:=by
 obtain⟨w,r,S,hr,hS,hp⟩:=h
 exact⟨w,r,S,hr,hS,hp.bind hS λd S1 w1 H1 v x1 q1 s1 p1=>by
  cases d with
  |bl k=>
   unfold RD at q1;exact⟨k,q1,az.ret p1 rfl s1⟩
  |_=>exact p1.elim⟩
theorem dq(h:SE X E a ma)(he:autoParam (∀whole,isTrue a X.env whole=(do let v <- whole;standAt a.pos;holding [v] (truthy v))) zz4._auto_1):ST X E a (tV ma):=⟨
 kK (Bi h.out he) λs H Q q=>AV q⟩
theorem bp{op:CmpOp}{f:Sto->D->D->Option D}(ho:OpR X (compareOp op) (xO X.K E f))(ha:SE X E a ma)(hb:SE X E b mb)(hm:autoParam (behindInMarks op b=false) zz9._auto_1):
  ST X E (.Compare a [op] [b] pos) (tV (eOp f ma mb)):=⟨
 kK (yZ ho ha.out hb.out hm) λs H Q q=>by
  obtain⟨w,r,S,hr,hS,hp⟩:=AV q
  exact⟨w,r,S,hr,hS,hp.bind hS λd S1 w1 H1 v x1 q1 s1 p1=>
   ⟨w1,r,S1,hr.ext x1,s1,p1.bind s1 λe S2 w2 H2 u x2 q2 s2 p2=>⟨w2,S2,d,e,s2,RD.ext x2 d v q1,q2,p2⟩⟩⟩⟩
theorem kL(ha:ST X E a mt):SW X E (.BoolOp .And [a] pos) mt:=⟨yP ha.out⟩
theorem gA(ha:ST X E a mt):SW X E (.BoolOp .Or [a] pos) mt:=⟨Bj ha.out⟩
theorem oq{mu:TM}(ha:ST X E a mt)(hb:SW X E (.BoolOp .And (b::rest) pos) mu):SW X E (.BoolOp .And (a::b::rest) pos) (PD.iP mt mu):=⟨
 tI (Bk ha.out hb.out) λs H Q zq=>ex6 zq λw r S hr hS hp=>⟨w,r,S,hr,hS,hp.bind hS λk S1 w1 H1 v x1 q1 s1 p1=>by
  have e:v=k:=q1;subst e;cases v with
  |true=>exact rO ⟨w1,r,S1,hr.ext x1,s1,p1⟩
  |false=>exact rN (az.ret p1 rfl s1)⟩⟩
theorem g9{mu:TM}(ha:ST X E a mt)(hb:SW X E (.BoolOp .Or (b::rest) pos) mu):SW X E (.BoolOp .Or (a::b::rest) pos) (PD.tOr mt mu):=⟨
 tI (Dv ha.out hb.out) λs H Q zq=>ex6 zq λw r S hr hS hp=>⟨w,r,S,hr,hS,hp.bind hS λk S1 w1 H1 v x1 q1 s1 p1=>by
  have e:v=k:=q1;subst e;cases v with
  |false=>exact rN ⟨w1,r,S1,hr.ext x1,s1,p1⟩
  |true=>exact rO (az.ret p1 rfl s1)⟩⟩
theorem gc(h:SW X E a mt):ST X E a mt:=⟨PW.pt h.out⟩
theorem dI(ha:ST X E a mt):ST X E (.UnaryOp .Not a pos) (PD.cS mt):=⟨
 kK (Bl ha.out) λs H Q zq=>ex6 zq λw r S hr hS hp=>⟨w,r,S,hr,hS,hp.bind hS λk S1 w1 H1 v x1 q1 s1 p1=>by
  have e:v=k:=q1;subst e
  exact az.ret p1 rfl s1⟩⟩
theorem ai:SA X E [] aj:=⟨tJ rJ λs H Q zq=>ex6 zq λw r S hr hS hp=>az.ret hp RDs.nil hS⟩
theorem ae(ha:SE X E a ma)(hrr:SA X E es ms)(hs:autoParam (starEach (a::es) X.env=(false,eval a X.env)::starEach es X.env) zz0._auto_1):SA X E (a::es) (aa ma ms):=⟨
 tJ (n4 ha.out hrr.out hs) λs H Q zq=>ex6 zq λw r S hr hS hp=>⟨w,r,S,hr,hS,hp.bind hS λd S1 w1 H1 v x1 q1 s1 p1=>
  ⟨w1,r,S1,hr.ext x1,s1,p1.bind s1 λe S2 w2 H2 u x2 q2 s2 p2=>az.ret p2 (RDs.cons (RD.ext x2 d v q1) q2) s2⟩⟩⟩
theorem bu{k}(h:SA X E es ms):SE X E (.Tuple es k pos) (bz ms):=⟨
 aR (BJ h.out) λs H Q zq=>ex6 zq λw r S hr hS hp=>⟨w,r,S,hr,hS,hp.bind hS λds S1 w1 H1 vs x1 q1 s1 p1=>by
  by_cases hl:ds.length<=sizeLine
  .rw[Je hl]at p1
   refine⟨by rw[q1.length];exact hl,λp hp=>?_⟩
   exact az.at p1 (Ext.new hp) (by unfold RD;exact⟨p,vs,rfl,.inl ⟨aC,s1.fresh hp⟩,RDs.ext (Ext.new hp) _ _ q1⟩) (s1.new hp)
  .rw[Ji hl]at p1;exact p1.elim⟩⟩
theorem ck(h:SA X E es ms):SE X E (.List es pos) (cC ms):=⟨
 aR (wA h.out) λs H Q zq=>ex6 zq λw r S hr hS hp=>⟨w,r,S,hr,hS,hp.bind hS λds S1 w1 H1 vs x1 q1 s1 p1=>by
  by_cases hl:ds.length<=sizeLine
  .rw[Je hl]at p1
   refine⟨by rw[q1.length];exact hl,λp hp=>?_⟩
   exact az.at p1 (Ext.new hp) (by unfold RD;exact⟨p,vs,rfl,⟨aC,s1.fresh hp⟩,RDs.ext (Ext.new hp) _ _ q1⟩) (s1.new hp)
  .rw[Ji hl]at p1;exact p1.elim⟩⟩
theorem RS.lastRef{K:Frag}(s:RS K w H S):RD K (w.add p) H' (.ref S.length) (.ref p):=by
 unfold RD
 exact⟨p,rfl,by show(w.st++[p])[S.length]?=some p;rw[<- s.len];simp⟩
theorem lx(h:SA X E es ms):SE X E (.List es pos) (eNew ms):=⟨
 aR (wA h.out) λs H Q zq=>ex6 zq λw r S hr hS hp=>⟨w,r,S,hr,hS,hp.bind hS λds S1 w1 H1 vs x1 q1 s1 p1=>by
  by_cases hl:ds.length<=sizeLine
  .rw[Je hl]at p1
   refine⟨by rw[q1.length];exact hl,λp hp=>?_⟩
   exact az.at p1 (Ext.alloc hp) s1.lastRef (s1.alloc hp ⟨vs,aC,RDs.ext (Ext.alloc hp) _ _ q1⟩)
  .rw[Ji hl]at p1;exact p1.elim⟩⟩
noncomputable def spM(K:Frag)(n:Nat)(f:FM):Sp:=λvs H Q E=>vs.length=n/\∃w S ds,RS K w H S/\RDs K w H ds vs/\az K E (RD K) w H (f ds S) Q
variable{CX:CXT}{k n:Nat}{fa:Addr}{fd:FuncData}{ps:List Str}{f:FM}{x:Str}{p:Pos}{es:List Expr}{ms:AM}
theorem zr(F:FnOk X.prog X.w X.K X.mg X.base CX k fa fd ps (spM X.K n f))(hr:Room k X.A)(hg:Gl X x)(hm:X.mg x=some (.ref fa))(hk:keepIn X.K (.ref fa)=true)(hb:Binds X.K fd ps [])(hx:Passes CX X E)
  (ha:SA X E (a::es) ms) (hn:∀r S ds S',ms r S=.ok ds S'->ds.length=n) (hdb:autoParam ((x == ("__debug__":Str))=false) zz3._auto_1) (he:autoParam (starEach (a::es) X.env=(false,eval a X.env)::starEach es X.env) zz0._auto_1) (hpl:autoParam ((backTo pos (starEach es X.env)).any (·.1)=false) zz0._auto_1):
  SE X E (.Call (.Name x p) (a::es) [] pos) (aA f ms):=⟨
 aR (tu F hr hg hm hk hb (dvs:=[]) .nil hx ha.out hdb he hpl) λs H Q zq=>ex6 zq λw r S hr hS hp=>by
  refine⟨w,r,S,hr,hS,?_⟩;have hp':az X.K E (RD X.K) w H ((ms r S).bind λxs S1=>f xs S1) Q:=hp;cases e:ms r S with
  |bad=>rw[e]at hp';exact hp'.elim
  |err y S'=>rw[e]at hp';exact hp'
  |ok ds S'=>
   rw[e]at hp';intro w1 H1 vs x1 q1 s1;rw[Ym]
   exact⟨by rw[q1.length];exact hn r S ds S' e,w1,S',ds,s1,q1,az.ext (r:=f ds S') hp' x1 hS s1⟩⟩
theorem av{id:String}{f:Sto->List D->Option D}(hc:bI X (.builtin id) (xC X.K E f))(hg:Gl X x)(hm:X.mg x=none)(hv:bootBuiltins x=some (.builtin id))(ha:SA X E (a::es) ms)(hn:autoParam (x ≠ "__name__") zz3._auto_1)(hdb:autoParam ((x == ("__debug__":Str))=false) zz3._auto_1)
  (he:autoParam (starEach (a::es) X.env=(false,eval a X.env)::starEach es X.env) zz0._auto_1) (hpl:autoParam ((backTo pos (starEach es X.env)).any (·.1)=false) zz0._auto_1):SE X E (.Call (.Name x p) (a::es) [] pos) (eB f ms):=⟨
 aR (kY hc hg hm hv ha.out hn hdb he hpl) λs H Q zq=>ex6 zq λw r S hr hS hp=>⟨w,r,S,hr,hS,hp.bind hS λds S1 w1 H1 vs x1 q1 s1 p1=>⟨w1,S1,ds,s1,q1,p1⟩⟩⟩
theorem eA{f:Sto->List D->Option D}(hc:bI X (.type T) (xC X.K E f))(hg:Gl X x)(hm:X.mg x=none)(hv:bootBuiltins x=some (.type T))(ha:SA X E (a::es) ms)(hn:autoParam (x ≠ "__name__") zz3._auto_1)(hdb:autoParam ((x == ("__debug__":Str))=false) zz3._auto_1)
  (he:autoParam (starEach (a::es) X.env=(false,eval a X.env)::starEach es X.env) zz0._auto_1) (hpl:autoParam ((backTo pos (starEach es X.env)).any (·.1)=false) zz0._auto_1):SE X E (.Call (.Name x p) (a::es) [] pos) (eB f ms):=⟨
 aR (iF hc hg hm hv ha.out hn hdb he hpl) λs H Q zq=>ex6 zq λw r S hr hS hp=>⟨w,r,S,hr,hS,hp.bind hS λds S1 w1 H1 vs x1 q1 s1 p1=>⟨w1,S1,ds,s1,q1,p1⟩⟩⟩
variable{st:Stmt}{rest:List Stmt}{m m':SM}
theorem bQ:SSs X E [] aY:=⟨pO tf λD s H zq=>ex6 zq λw r S hr hS hp=>az.ret (b:=FV.nx s) hp ⟨s,rfl,hr⟩ hS⟩
theorem ar(h1:SS X E st m)(h2:SSs X E rest m'):SSs X E (st::rest) (aF m m'):=⟨
 pO (wo h1.out h2.out) λD s H zq=>ex6 zq λw r S hr hS hp=>⟨w,r,S,hr,hS,hp.bind hS λf S1 w1 H1 fv x1 q1 s1 p1=>by
  cases f with
  |nx r1=>obtain⟨s',rfl,q⟩:=q1;exact⟨w1,r1,S1,q,s1,p1⟩
  |rt d=>obtain⟨v,rfl,q⟩:=q1;have z:=az.ret (Q:=FV.to D) (rel:=RF X.K) (a:=F.rt d) (b:=FV.rt v) p1 ⟨v,rfl,q⟩ s1;exact z
  |bk r1=>obtain⟨s',rfl,q⟩:=q1;have z:=az.ret (Q:=FV.to D) (rel:=RF X.K) (a:=F.bk r1) (b:=FV.bk s') p1 ⟨s',rfl,q⟩ s1;exact z
  |ct r1=>obtain⟨s',rfl,q⟩:=q1;have z:=az.ret (Q:=FV.to D) (rel:=RF X.K) (a:=F.ct r1) (b:=FV.ct s') p1 ⟨s',rfl,q⟩ s1;exact z⟩⟩
theorem ay(h1:SS X E st m):SSs X E [st] m:=⟨yQ h1.out⟩
theorem dJ(ha:SE X E a ma)(hs:autoParam (swapsWith a none pos.line X.env=pure false) zz0._auto_1):SS X E (.Expr a pos) (dg ma):=⟨
 fN (yR ha.out hs) λD s H zq=>ex6 zq λw r S hr hS hp=>⟨w,r,S,hr,hS,hp.bind hS λd S1 w1 H1 v x1 q1 s1 p1=>az.ret (b:=FV.nx s) p1 ⟨s,rfl,hr.ext x1⟩ s1⟩⟩
theorem aO(ha:SE X E a ma):SS X E (.Return (some a) pos) (aT ma):=⟨
 fN (Bp ha.out) λD s H zq=>ex6 zq λw r S hr hS hp=>⟨w,r,S,hr,hS,hp.bind hS λd S1 w1 H1 v x1 q1 s1 p1=>az.ret (b:=FV.rt v) p1 ⟨v,rfl,q1⟩ s1⟩⟩
theorem cN{sa sb:List Stmt}(hc:ST X E c mt)(ha:SSs X E sa m)(hb:SSs X E sb m'):SS X E (.If c sa sb pos) (sIf mt m m'):=⟨
 fN (DA hc.out ha.out hb.out) λD s H zq=>ex6 zq λw r S hr hS hp=>⟨w,r,S,hr,hS,hp.bind hS λk S1 w1 H1 v x1 q1 s1 p1=>by
  have e:v=k:=q1;subst e;cases v with
  |true=>exact rO ⟨w1,r,S1,hr.ext x1,s1,p1⟩
  |false=>exact rN ⟨w1,r,S1,hr.ext x1,s1,p1⟩⟩⟩
theorem aQ{i:Nat}{x:Str}{pos':Pos}(hN:X.N.Nodup)(hi:X.N[i]?=some x)(hx:Loc X.env.scope x)(ha:SE X E a ma)(hs:autoParam (swapsWith a (some (.Name x pos')) pos.line X.env=pure false) zz0._auto_1)(hf:autoParam (X.fn x=true\/X.env.scope.names.lookup x=some .local) zz7._auto_1):
  SS X E (.Assign [.Name x pos'] a pos) (ba i ma):=⟨
 fN (Bt hN hi hx ha.out hs hf) λD s H zq=>ex6 zq λw r S hr hS hp=>⟨w,r,S,hr,hS,hp.bind hS λd S1 w1 H1 v x1 q1 s1 p1=>
  az.ret (b:=FV.nx (s.set i (some v))) p1 ⟨_,rfl,(hr.ext x1).set i q1⟩ s1⟩⟩
end
noncomputable def uG(K:Frag)(g:G):TG:=λv s H Q=>∃w r d r',RSt K w H r s/\RD K w H d v/\g.put d r=some r'/\∀s',RSt K w H r' s'->Q s' H
noncomputable def uGs(K:Frag)(gs:List G):TGs:=λvs s H Q=>∃w r ds r',RSt K w H r s/\RDs K w H ds vs/\G.puts gs ds r=some r'/\∀s',RSt K w H r' s'->Q s' H
abbrev SG(X:Cx)(e:Expr)(g:G):Prop:=Bx (PG X e (uG X.K g))
abbrev SGs(X:Cx)(es:List Expr)(gs:List G):Prop:=Bx (PGs X es (uGs X.K gs))
theorem tK{t t':TG}(h:PG X e t)(k:∀v s H Q,t' v s H Q->t v s H Q):PG X e t':=λpins s σ H v u Q I r q=>h pins s σ H v u Q I r (k v σ H Q q)
theorem pQ{e:List Expr}{t t':TGs}(h:PGs X e t)(k:∀v s H Q,t' v s H Q->t v s H Q):PGs X e t':=λpins s σ H v u Q I r q=>h pins s σ H v u Q I r (k v σ H Q q)
theorem hJ:∀{gs:List G}{ds:List D}{r r':Rho},G.puts gs ds r=some r'->ds.length=gs.length
 |[],[],_,_,_=>rfl
 |[],_::_,_,_,h=>by simp[G.puts]at h
 |_::_,[],_,_,h=>by simp[G.puts]at h
 |g::gs,d::ds,r,r',h=>by
  unfold G.puts at h;cases e:G.put g d r with
  |none=>rw[e]at h;cases h
  |some r1=>
   rw[e]at h;have:=hJ h;simp[this]
section
variable{X:Cx}{E:XK}{a b c:Expr}{ma mb mc:EM}{pos:Pos}
theorem aJ{i:Nat}(hN:X.N.Nodup)(hi:X.N[i]?=some x)(hx:Loc X.env.scope x)(hf:autoParam (X.fn x=true\/X.env.scope.names.lookup x=some .local) zz7._auto_1):SG X (.Name x pos) (.nm i):=⟨
 tK (yT hN hi hx hf) λv s H Q zq=>ex8 zq λw r d r' hr q e k=>by
  unfold G.put at e;cases e
  exact k _ (hr.set i q)⟩
theorem jf:SGs X [] []:=⟨
 pQ yU λv s H Q zq=>ex8 zq λw r ds r' hr q e k=>by
  cases ds with
  |nil=>
   unfold G.puts at e;cases e;exact⟨q.nil_inv,k s hr⟩
  |cons d ds=>simp[G.puts]at e⟩
theorem dh{g:G}{gs:List G}(h1:SG X e g)(h2:SGs X es gs)
  (hs:autoParam ((assignEach (e::es) X.env).map (·.2)=assign e X.env::(assignEach es X.env).map (·.2)) zz0._auto_1):SGs X (e::es) (g::gs):=⟨
 pQ (wq h1.out h2.out hs) λv s H Q zq=>ex8 zq λw r ds r' hr q e k=>by
  cases ds with
  |nil=>simp[G.puts]at e
  |cons d ds=>
   obtain⟨v1,vs,rfl,q1,q2⟩:=q.cons_inv;unfold G.puts at e;cases e1:G.put g d r with
   |none=>rw[e1]at e;cases e
   |some r1=>
    rw[e1]at e
    exact⟨v1,vs,rfl,w,r,d,r1,hr,q1,e1,λs' hs'=>⟨w,r1,ds,r',hs',q2,e,k⟩⟩⟩
theorem cn{K:Frag}{vs:List V}(h:At w H p (.tup vs)\/pN K p vs):SqT K H p vs:=h.elim (λz=>SqT.of z.1) .inr
theorem lA{k:Nat}{gs:List G}(hc:X.calm=true)(h:SGs X es gs)
  (hn:autoParam ((assignEach es X.env).length=gs.length) zz0._auto_1) (hst:autoParam ((assignEach es X.env).findIdx? (·.1)=none) zz0._auto_1):SG X (.Tuple es k pos) (.tp gs):=⟨
 tK (Bq hc h.out hn hst) λv s H Q zq=>ex8 zq λw r d r' hr q e k=>by
  cases d with
  |tup ds=>
   unfold RD at q;obtain⟨p,vs,rfl,h1,q1⟩:=q;unfold G.put at e
   exact⟨p,vs,rfl,cn h1,by rw[q1.length];exact hJ e,w,r,ds,r',hr,q1,e,k⟩
  |_=>simp[G.put]at e⟩
theorem BY{g:G}(ha:SE X E a ma)(hg:SG X tg g)(hs:autoParam (swapsWithSole [tg] a pos.line X.env=pure false) zz0._auto_1)(hw:autoParam (swappedStores [tg] a X.env=pure none) zz0._auto_1)
  (h1:autoParam ((assignEach [tg] X.env).map (·.2)=[assign tg X.env]) zz0._auto_1):SS X E (.Assign [tg] a pos) (BX g ma):=⟨
 fN (wt ha.out hg.out hs hw h1) λD s H zq=>ex6 zq λw r S hr hS hp=>⟨w,r,S,hr,hS,hp.bind hS λd S1 w1 H1 v x1 q1 s1 p1=>by
  cases e:g.put d r with
  |none=>rw[e]at p1;exact p1.elim
  |some r'=>
   rw[e]at p1
   exact⟨w1,r,d,r',hr.ext x1,q1,e,λs' hs'=>az.ret (b:=FV.nx s') p1 ⟨s',rfl,hs'⟩ s1⟩⟩⟩
noncomputable def xS(K:Frag)(f:Sto->D->D->D->Option Sto):yS:=λo i v H Q=>∃w S x y z S',RS K w H S/\RD K w H x o/\RD K w H y i/\RD K w H z v/\f S x y z=some S'/\∀w' H',Ext w H w' H'->RS K w' H' S'->Q H'
theorem wU{f:Sto->D->D->D->Option Sto}{tpos:Pos}(hf:nZ X (xS X.K f))(ha:SE X E a ma)(ho:SE X E b mb)(hi:SE X E c mc)(hs:autoParam (swapsWithSole [.Subscript b c tpos] a pos.line X.env=pure false) zz0._auto_1)(hw:autoParam (swappedStores [.Subscript b c tpos] a X.env=pure none) zz0._auto_1)
  (h1:autoParam ((assignEach [.Subscript b c tpos] X.env).map (·.2)=[assign (.Subscript b c tpos) X.env]) zz0._auto_1)
  (hz:autoParam (∀v,assign (.Subscript b c tpos) X.env v=(do
   let ov <- holding [v] (eval b X.env)
   let iv <- holding [v,ov] (eval c X.env)
   standAt tpos
   holding [v,ov,iv] (setItem ov iv v)
   release [v,ov,iv] [])) zz4._auto_1):SS X E (.Assign [.Subscript b c tpos] a pos) (pL f ma mb mc):=⟨
 fN (wt ha.out (Br ho.out hi.out hf hz) hs hw h1) λD s H zq=>ex6 zq λw r S hr hS hp=>⟨w,r,S,hr,hS,hp.bind hS λd S1 w1 H1 v x1 q1 s1 p1=>
  ⟨w1,r,S1,hr.ext x1,s1,p1.bind s1 λe S2 w2 H2 u x2 q2 s2 p2=>⟨w2,r,S2,(hr.ext x1).ext x2,s2,p2.bind s2 λt S3 w3 H3 y x3 q3 s3 p3=>by
   cases hf:f S3 e t d with
   |none=>rw[hf]at p3;exact p3.elim
   |some S4=>
    rw[hf]at p3
    exact⟨w3,S3,e,t,d,S4,s3,RD.ext x3 _ _ q2,q3,RD.ext x3 _ _ (RD.ext x2 _ _ q1),hf,λw' H' x4 s4=>az.at (b:=FV.nx s) p3 x4 ⟨s,rfl,(((hr.ext x1).ext x2).ext x3).ext x4⟩ s4⟩⟩⟩⟩⟩
def RI(K:Frag)(w:Wd)(H:Hp)(ds:List D)(J:It):Prop:=∀(i:Nat)(w':Wd)(H':Hp),Ext w H w' H'->
 (i<ds.length->J.go i H'/\∀x H'',J.yld i H' x H''->(H''=H' \/ ∃p o,H' p=none/\H''=upd H' p o)/\∀S,RS K w' H' S->∃d,ds[i]?=some d/\RD K w' H'' d x)/\(ds.length<=i->J.stop i H')
noncomputable def uI(K:Frag)(E:XK)(m:AM):TI:=λs H Q=>∃w r S,RSt K w H r s/\RS K w H S/\az K E (RI K) w H (m r S) Q
abbrev SIb(qb:Bool)(X:Cx)(E:XK)(tg iter:Expr)(m:AM):Prop:=Bx (PIb qb X tg iter (uI X.K E m))
abbrev SI(X:Cx)(E:XK)(tg iter:Expr)(m:AM):Prop:=Bx (PI X tg iter (uI X.K E m))
theorem lB{K:Frag}(h:H'=H \/ ∃p o,H p=none/\H'=upd H p o)(s:RS K w H S):Ext w H w H'/\RS K w H' S:=by
 rcases h with rfl|⟨p,o,hp,rfl⟩
 .exact⟨Ext.refl _ _,s⟩
 .exact⟨Ext.new hp,s.new hp⟩
theorem cO{iter:Expr}{body:List Stmt}{it:AM}{g:G}{m:SM}(hp:PassesOwn (model X.prog X.w) X.A X.env X.xe)(hc:X.calm=true)(hi:SI X E tg iter it)(hg:SG X tg g)(hb:SSs X E body m)
  (hs:autoParam (∀x,foldedSetIterable iter X.env x=pure x) zz4._auto_1):SS X E (.For tg iter body [] pos) (d8 it g m):=⟨
 fN (Bw hp hc hi.out hg.out hb.out hs) λD s H zq=>ex6 zq λw r S hr hS hp=>⟨w,r,S,hr,hS,hp.bind hS λds S1 w1 H1 J x1 q1 s1 p1=>by
  refine⟨λi n s' H'=>n=ds.length-i/\i<=ds.length/\∃w' r' S',Ext w1 H1 w' H'/\RSt X.K w' H' r' s'/\RS X.K w' H' S'/\az X.K E (RF X.K) w' H' (forL g m (ds.drop i) r' S') (FV.to D),
   ⟨ds.length,by simp,Y2 _,w1,r,S1,Ext.refl _ _,hr.ext x1,s1,p1⟩,?_⟩
  rintro i n s2 H2 ⟨rfl,hi.out,w2,r2,S2,x2,hr2,hS2,hp2⟩;by_cases hlt:i<ds.length
  .obtain⟨go,yld⟩:=(q1 i w2 H2 x2).1 hlt
   refine .inr ⟨go,λs' H'=>∃w' r' S',Ext w1 H1 w' H'/\RSt X.K w' H' r' s'/\RS X.K w' H' S'/\az X.K E (RF X.K) w' H' (forL g m (ds.drop (i+1)) r' S') (FV.to D),
    λs' H' hN=>⟨ds.length-(i+1),by omega,rfl,hlt,hN⟩,λx H3 hy=>?_⟩
   obtain⟨gr,rd⟩:=yld x H3 hy;obtain⟨d,ed,qd⟩:=rd S2 hS2;obtain⟨x3,s3⟩:=lB gr hS2;have x13:Ext w1 H1 w2 H3:=x2.trans' x3 s1 hS2
   have hdrop:ds.drop i=d::ds.drop (i+1):=by rw[Yz hlt];rw[Jc hlt]at ed;cases ed;rfl
   rw[hdrop]at hp2;have hp3:=az.ext hp2 x3 hS2 s3;unfold forL at hp3;cases e:g.put d r2 with
   |none=>rw[e]at hp3;exact hp3.elim
   |some r3=>
    rw[e]at hp3;refine⟨w2,r2,d,r3,hr2.ext x3,qd,e,λs4 hr4=>⟨w2,r3,S2,hr4,s3,?_⟩⟩;refine az.bind (rel:=RF X.K) hp3 s3 λf S5 w5 H5 fv x5 q5 s5 p5=>?_;cases f with
    |nx r6=>obtain⟨s6,rfl,q6⟩:=q5;exact⟨w5,r6,S5,x13.trans' x5 s1 s3,q6,s5,p5⟩
    |ct r6=>obtain⟨s6,rfl,q6⟩:=q5;exact⟨w5,r6,S5,x13.trans' x5 s1 s3,q6,s5,p5⟩
    |bk r6=>obtain⟨s6,rfl,q6⟩:=q5;have z:=az.ret (Q:=FV.to D) (rel:=RF X.K) (a:=F.nx r6) (b:=FV.nx s6) p5 ⟨s6,rfl,q6⟩ s5;exact z
    |rt d6=>obtain⟨v6,rfl,q6⟩:=q5;have z:=az.ret (Q:=FV.to D) (rel:=RF X.K) (a:=F.rt d6) (b:=FV.rt v6) p5 ⟨v6,rfl,q6⟩ s5;exact z
  .have e:i=ds.length:=by omega
   subst e;rw[G9]at hp2
   exact .inl ⟨(q1 _ w2 H2 x2).2 (Jd _),az.ret (b:=FV.nx s2) hp2 ⟨s2,rfl,hr2⟩ hS2⟩⟩⟩
noncomputable def bJ(m:EM)(f:Sto->D->Option (List D)):AM:=λr S=>(m r S).bind λd S1=>R.of S1 (f S1 d)
noncomputable def D3:Sto->D->Option (List D)
 |_,.tup ds=>some ds
 |_,_=>none
noncomputable def D4:Sto->D->Option (List D)
 |_,.lst ds=>some ds
 |_,.fz ds=>some ds
 |_,_=>none
noncomputable def bC(t:AM):AM:=λr S=>(t r S).bind λxs S1=>match xs with
 |[.int n]=>if n<2^62/\-(2^62)<=n then .ok ((List.range n.toNat).map λ(i:Nat)=>D.int i) S1 else .bad
 |_=>.bad
theorem fo{X:Cx}{t t':TI}(h:PIb qb X tg e t)(k:∀s H Q,t' s H Q->t s H Q):PIb qb X tg e t':=λpins s σ H Q I q=>h pins s σ H Q I (k σ H Q q)
theorem BZ(ha:SE X E a ma):SI X E tg a (bJ ma D3):=⟨
 fo (Bv ha.out) λs H Q zq=>ex6 zq λw r S hr hS hp=>⟨w,r,S,hr,hS,hp.bind hS λd S1 w1 H1 v x1 q1 s1 p1=>by
  cases d with
  |tup ds=>
   unfold RD at q1;obtain⟨p,vs,rfl,h1,q⟩:=q1;refine⟨p,rfl,⟨vs,cn h1⟩,az.ret p1 ?_ s1⟩;intro i w' H' x';have h1':At w' H' p (.tup vs)\/pN X.K p vs:=h1.imp x'.at id;have q':=RDs.ext x' _ _ q
   refine⟨λhi=>⟨⟨vs,vs[i]'(by rw[q.length];exact hi),cn h1',Jc _⟩,λx H'' y=>?_⟩,λhi=>⟨vs,cn h1',by rw[q.length];exact hi⟩⟩
   obtain⟨rfl,y⟩:=y;refine⟨.inl rfl,λS _=>⟨ds[i],Jc hi,?_⟩⟩;obtain⟨v,e,rv⟩:=q'.get (Jc hi);rw[y vs (cn h1')]at e;cases e;exact rv
  |_=>exact p1.elim⟩⟩
theorem B0(ha:SE X E a ma):SI X E tg a (bJ ma D4):=⟨
 fo (yV ha.out) λs H Q zq=>ex6 zq λw r S hr hS hp=>⟨w,r,S,hr,hS,hp.bind hS λd S1 w1 H1 v x1 q1 s1 p1=>by
  have main:∀(ds:List D)(p:Addr)(vs:List V),RDs X.K w1 H1 ds vs->(∀w' H',Ext w1 H1 w' H'->SqL X.K H' p vs)->RI X.K w1 H1 ds (Itl X.K p):=by
   intro ds p vs q sq i w' H' x';have q':=RDs.ext x' _ _ q
   refine⟨λhi=>⟨⟨vs,vs[i]'(by rw[q.length];exact hi),sq _ _ x',Jc _⟩,λx H'' y=>?_⟩,λhi=>⟨vs,sq _ _ x',by rw[q.length];exact hi⟩⟩
   obtain⟨rfl,y⟩:=y;refine⟨.inl rfl,λS _=>⟨ds[i],Jc hi,?_⟩⟩;obtain⟨v,e,rv⟩:=q'.get (Jc hi);rw[y vs (sq _ _ x')]at e;cases e;exact rv
  cases d with
  |lst ds=>
   unfold RD at q1;obtain⟨p,vs,rfl,h1,q⟩:=q1;exact⟨p,rfl,⟨vs,SqL.of h1.1⟩,az.ret p1 (main ds p vs q λw' H' x'=>SqL.of (x'.at h1).1) s1⟩
  |fz ds=>
   unfold RD at q1;obtain⟨p,vs,rfl,h1,q⟩:=q1;exact⟨p,rfl,⟨vs,h1.sq⟩,az.ret p1 (main ds p vs q λw' H' x'=>rQ.sq (w:=w') (h1.imp (λ⟨o,z⟩=>⟨o,x'.at z⟩) id)) s1⟩
  |_=>exact p1.elim⟩⟩
noncomputable def bg:Sto->D->Option (List D)
 |_,.tup ds=>some ds
 |_,.lst ds=>some ds
 |_,.fz ds=>some ds
 |_,_=>none
theorem AW{t u:TI}(h1:PI X tg e t)(h2:PI X tg e u):PI X tg e (λs H Q=>t s H Q\/u s H Q):=λpins s σ H Q I q=>q.elim (h1 pins s σ H Q I) (h2 pins s σ H Q I)
theorem cA(ha:SE X E a ma):SI X E tg a (bJ ma bg):=⟨
 fo (AW (BZ ha).out (B0 ha).out) λs H Q zq=>ex6 zq λw r S hr hS hp=>by
  unfold bJ at hp;cases e:ma r S with
  |bad=>rw[e]at hp;exact hp.elim
  |err y S'=>rw[e]at hp;exact .inl ⟨w,r,S,hr,hS,by unfold bJ;rw[e];exact hp⟩
  |ok d S'=>
   rw[e]at hp;cases d with
   |tup ds=>exact .inl ⟨w,r,S,hr,hS,by unfold bJ;rw[e];exact hp⟩
   |lst ds=>exact .inr ⟨w,r,S,hr,hS,by unfold bJ;rw[e];exact hp⟩
   |fz ds=>exact .inr ⟨w,r,S,hr,hS,by unfold bJ;rw[e];exact hp⟩
   |_=>exact hp.elim⟩
theorem cT{p:Pos}(hg:Gl X "range")(hm:X.mg "range" = none)(ha:SA X E [a] ms)(hs:autoParam (starEach [a] X.env=[(false,eval a X.env)]) zz0._auto_1):SIb qb X E tg (.Call (.Name "range" p) [a] [] pos) (bC ms):=⟨
 fo (ve hg hm ha.out hs) λs H Q zq=>ex6 zq λw r S hr hS hp=>⟨w,r,S,hr,hS,hp.bind hS λds S1 w1 H1 vs x1 q1 s1 p1=>by
  rcases ds with _|⟨d,_|⟨d',ds⟩⟩
  .exact p1.elim
  .cases d with
   |int n=>
    obtain⟨v,rfl,q2⟩:=q1.one_inv;unfold RD at q2;subst q2;by_cases hn:n<2^62/\-(2^62)<=n
    .have p2:az X.K E (RI X.K) w1 H1 (if n<2^62/\-(2^62)<=n then R.ok ((List.range n.toNat).map λ(i:Nat)=>D.int i) S1 else R.bad) Q:=p1
     rw[Je hn]at p2;refine⟨n,rfl,hn.2,hn.1,az.ret p2 ?_ s1⟩;intro i w' H' x'
     refine⟨λhi=>⟨show i<n.toNat by simpa using hi,λx H'' y=>?_⟩,λhi=>show n.toNat<=i by simpa using hi⟩
     obtain⟨rfl,rfl⟩:=y;refine⟨.inl rfl,λS _=>⟨.int i,?_,?_⟩⟩
     .have:i<n.toNat:=by simpa using hi
      simp[this]
     .unfold RD;simp
    .have p2:az X.K E (RI X.K) w1 H1 (if n<2^62/\-(2^62)<=n then R.ok ((List.range n.toNat).map λ(i:Nat)=>D.int i) S1 else R.bad) Q:=p1
     rw[Ji hn]at p2;exact p2.elim
   |_=>exact p1.elim
  .cases d<;>exact p1.elim⟩⟩
end
section
variable{P:Program}{w:World}{K:Frag}{mg:Str->Option Value}{base:Heap}
theorem j0{K:Frag}{w:Wd}{ds:List D}{vs:List V}(q:RDs K w H ds vs):RSt K w H (ds.map some++List.replicate (N.length-ds.length) none) (L2.start N vs):=by
 unfold L2.start
 refine⟨by simp[q.length],λi d e=>?_⟩
 by_cases hi:i<ds.length
 .rw[Jw (by simpa using hi),Zf]at e
  rw[Jw (by rw[Jg,q.length];exact hi),Zf]
  cases e1:ds[i]? with
  |none=>rw[e1]at e;cases e
  |some d'=>
   rw[e1]at e;cases e;obtain⟨v,ev,rv⟩:=q.get e1
   exact⟨v,by rw[ev];rfl,rv⟩
 .rw[Y5 (by simpa using hi),Q5]at e
  split at e<;>cases e
end
section
variable{prog:Program}{w:World}{A:Around}{R:Result->Shared->Prop}{s:Shared}
theorem ot{elt target iter:Expr}{ifs:List Expr}{scope:Scope}{pos:Pos}{it acc:Value}{env:Env}(I:Nat->Shared->Prop)
  (turn:∀n s,I n s->wpAny (model prog w) A (pyNext it) (λr s1=>match r with
   |none=>R (.ok .next) s1
   |some v=>wpAny (model prog w) A (letOwnedTupleGo target it v) (λ_ s1'=>wpAny (model prog w) A (assign target env v) (λ_ s2=>
     wpAny (model prog w) A (forIn ifs true λc r=>if r=true then do let ok <- isTrue c env (eval c env);pure (ForInStep.yield ok) else pure (ForInStep.yield r)) (λok s3=>
      if ok=true then wpAny (model prog w) A (eval elt env) (λx s4=>
       wpAny (model prog w) A (call (.builtin "list.append") [acc,x]) (λ_ s5=>∃m,m<n/\I m s5) (λ_ _=>False) s4) (λ_ _=>False) s3
      else ∃m,m<n/\I m s3) (λ_ _=>False) s2) (λ_ _=>False) s1') (λ_ _=>False) s1) (λ_ _=>False) s)
  (n:Nat) (h:I n s):
  codeAny (model prog w) A (.compLoop (.ListComp elt [⟨target,iter,ifs,0⟩] scope pos) 0 it acc env) R s:=by
 refine codeAny_loop rfl I (λn s hI=>?_) n h
 show wpAny _ A ((compTurn (.ListComp elt [⟨target,iter,ifs,0⟩] scope pos) 0 it acc env).onRaise (λx=>do noteFrame x env;theTreesLotGoes x)) _ _ s
 refine wpAny_noted ?_;rw[compTurn_list];refine J9 (wpAny_standAt (J9 (Zk (turn n s hI) (λr s1 h1=>?_) λ_ _ h'=>h'.elim)));cases r with
 |none=>exact Ja h1
 |some v=>
  refine J9 (Zk h1 (λ_ s1' h1'=>?_) λ_ _ h'=>h'.elim);refine J9 (Zk h1' (λ_ s2 h2=>J9 (Zk h2 (λok s3 h3=>?_) λ_ _ h'=>h'.elim)) λ_ _ h'=>h'.elim);cases ok with
  |false=>exact Ja ⟨rfl,h3⟩
  |true=>
   exact J9 (J9 (Zk h3 (λx s4 h4=>J9 (Zk h4 (λ_ s5 h5=>Ja (Ja ⟨rfl,h5⟩)) λ_ _ h'=>h'.elim)) λ_ _ h'=>h'.elim))
end
def zu(X:Cx)(ifs:List Expr)(t:TT):Prop:=
 ∀(pins:List (Addr×Obj))(s:Shared)(σ:L2.St)(H:Hp)(Q:Bool->Hp->Prop),Inv X pins σ H s->t σ H Q->
  wpAny (model X.prog X.w) X.A (forIn ifs true λc r=>if r=true then do let ok <- isTrue c X.env (eval c X.env);pure (ForInStep.yield ok) else pure (ForInStep.yield r)) (TP X pins σ Q) X.xe s
theorem wV:zu X [] (λ_ H Q=>Q true H):=λpins s σ H Q I h=>wpAny_tests_nil ⟨H,I,h⟩
theorem wW{c:Expr}(h:PT X c t):zu X [c] t:=λpins s σ H Q I q=>wpAny_tests_one (h pins s σ H Q I q)
noncomputable def cxC(X:Cx)(N:List Str)(scope:Scope)(cl:List (Str×Addr))(s0:Shared)(H0:Hp)(ex:List Addr):Cx:=
 { X with N:=N,s₀:=s0,H₀:=H0,env:=compEnvC scope cl s0.heap.objs.size X.env,outer:=X.stack,ex:=ex,fn:=λ_=>false }
noncomputable def lC(k:Nat)(caps:List Nat)(s:L2.St):L2.St:=List.replicate k none++caps.map λi=>(s[i]?).join
structure CompScope(X:Cx)(N:List Str)(k:Nat)(caps:List Nat)(scope:Scope):Prop where
 kind:scope.kind=.function
 nocell:∀x∈scope.names,x.2≠.cell
 names:∀x∈scope.names,x.2=.local->scope.names.lookup x.1=some .local
 free:∀x∈scope.names,x.2=.free->X.env.kindOf x.1=some .cell\/X.env.kindOf x.1=some .free
 len:N.length=k+caps.length
 cap:∀t i,caps[t]?=some i->∃x,X.N[i]?=some x/\N[k+t]?=some x/\scope.names.lookup x=some .free
theorem dM{A B:Type}[BEq A][LawfulBEq A]:∀{l:List (A×B)}{x:A}{b:B},l.lookup x=some b->(x,b)∈l
 |[],_,_,h=>by simp at h
 |(y,c)::r,x,b,h=>by
  rw[Qp]at h;cases e:x == y with
  |true=>
   rw[e]at h;have:=eq_of_beq e;subst this;cases h;exact Y6
  |false=>
   rw[e]at h;exact Y4 _ (dM h)
theorem i5:∀(names:List (Str×NameKind))(cs:List (Str×Addr)),(∀x∈names,x.2=.free->∃c,env.cells.lookup x.1=some c)->
  ∃cl,(forIn names cs λ(x:Str×NameKind)(r:List (Str×Addr))=>(if x.2 == NameKind.free then do let a <- cellOf env x.1;pure (ForInStep.yield ((x.1,a)::r)) else pure (ForInStep.yield r):Sem (ForInStep (List (Str×Addr)))))=pure cl/\
   (∀p∈cl,p∈cs\/env.cells.lookup p.1=some p.2)/\(∀p∈cs,p∈cl)/\∀x∈names,x.2=.free->∃c,(x.1,c)∈cl
 |[],cs,_=>⟨cs,rfl,λp h=>.inl h,λp h=>h,λx h=>nomatch h⟩
 |(n,k)::r,cs,h=>by
  by_cases hk:k=.free
  .subst hk;obtain⟨c,hc⟩:=h (n,.free) Y6 rfl;obtain⟨cl,e,h1,h2,h3⟩:=i5 r ((n,c)::cs) λx hx=>h x (Y4 _ hx);refine⟨cl,?_,λp hp=>?_,λp hp=>h2 p (Y4 _ hp),λx hx hf=>?_⟩
   .rw[List.forIn_cons]
    have hco:cellOf env n=pure c:=by unfold cellOf;rw[hc]
    simp only[beq_self_eq_true,Z0,hco,pure_bind];exact e
   .rcases h1 p hp with z|z
    .rcases Jq.mp z with z|z
     .subst z;exact .inr hc
     .exact .inl z
    .exact .inr z
   .rcases Jq.mp hx with z|z
    .subst z;exact⟨c,h2 _ Y6⟩
    .exact h3 x z hf
  .obtain⟨cl,e,h1,h2,h3⟩:=i5 r cs λx hx=>h x (Y4 _ hx)
   have hb:(k == NameKind.free)=false:=by simpa using hk
   refine⟨cl,?_,h1,h2,λx hx hf=>?_⟩
   .rw[List.forIn_cons];simp only[hb,Jy,Yp,pure_bind];exact e
   .rcases Jq.mp hx with z|z
    .subst z;exact absurd hf hk
    .exact h3 x z hf
theorem pR(h:∀x∈scope.names,x.2=.free->∃c,env.cells.lookup x.1=some c):
  ∃cl,closureFor scope env=pure cl/\(∀x c,cl.lookup x=some c->env.cells.lookup x=some c)/\∀x∈scope.names,x.2=.free->∃c,cl.lookup x.1=some c:=by
 obtain⟨cl,e,h1,h2,h3⟩:=i5 (env:=env) scope.names [] h;refine⟨cl,?_,λx c hx=>?_,λx hx hf=>?_⟩
 .unfold closureFor
  show((forIn scope.names [] λ(x:Str×NameKind)(r:List (Str×Addr))=>(if x.2 == NameKind.free then do let a <- cellOf env x.1;pure (ForInStep.yield ((x.1,a)::r)) else pure (ForInStep.yield r):Sem (ForInStep (List (Str×Addr))))) >>= λl=>pure l)=pure cl
  rw[e,pure_bind]
 .rcases h1 _ (dM hx) with z|z
  .exact nomatch z
  .exact z
 .obtain⟨c,hc⟩:=h3 x hx hf;cases e2:cl.lookup x.1 with
  |some c'=>exact⟨c',rfl⟩
  |none=>
   rw[List.lookup_eq_none_iff]at e2;have:=e2 _ hc;simp at this
theorem pS{k:NameKind}(h:(relabel scope env).names.lookup x=some k):(x,k)∈scope.names\/(k=.cell/\(x,NameKind.free)∈scope.names):=by
 have m:=dM h;obtain⟨⟨n,j⟩,hn,e⟩:=Y7.mp m;dsimp only at e;split at e
 .rename_i hc;cases e
  have:j=NameKind.free:=by have:=(Yd _ _ |>.mp (Yd _ _ |>.mp hc).1).1;simpa using this
  subst this;exact .inr ⟨rfl,hn⟩
 .cases e;exact .inl hn
theorem jg{scope:Scope}{env:Env}{x:Str}:∀{names:List (Str×NameKind)},names.lookup x=some .free->
  ((names.map λ(n,k)=>if (k == NameKind.free&&env.scope.kind == .function&&env.kindOf n == some .cell) then (n,NameKind.cell) else (n,k)).lookup x=some .cell) \/
  ((names.map λ(n,k)=>if (k == NameKind.free&&env.scope.kind == .function&&env.kindOf n == some .cell) then (n,NameKind.cell) else (n,k)).lookup x=some .free)
 |[],h=>by simp at h
 |(n,k)::r,h=>by
  have ih:=@jg scope env x r;simp only[Jp];cases hx:x == n with
  |true=>
   simp only[Qp,hx]at h;cases h;by_cases hc:(NameKind.free == NameKind.free&&env.scope.kind == .function&&env.kindOf n == some .cell)=true
   .left;rw[Je hc];simp[Qp,hx]
   .right;rw[Ji hc];simp[Qp,hx]
  |false=>
   simp only[Qp,hx]at h;by_cases hc:(k == NameKind.free&&env.scope.kind == .function&&env.kindOf n == some .cell)=true
   .rw[Je hc];simp only[Qp,hx];exact ih h
   .rw[Ji hc];simp only[Qp,hx];exact ih h
section
variable{X:Cx}{pins:List (Addr×Obj)}{σ:L2.St}{H:Hp}{s:Shared}
theorem rT{k:Nat}{cl:List (Str×Addr)}{fp:List Addr}{h':Heap}{m:Str->Option Value}{t:Nat}(I:Inv X pins σ H s)(C:CompScope X N k caps scope)
  (hcl:∀x c,cl.lookup x=some c->X.env.cells.lookup x=some c) (hcf:∀x∈scope.names,x.2=.free->∃c,cl.lookup x.1=some c)
  (hfp:∀b∈fp,FpOk X pins H b/\b<s.heap.objs.size) (hn:h'.Ns s.heap.objs.size m) (hk:∀b o,s.heap.get? b=some o->h'.get? b=some o):
  Inv (cxC X N scope cl s H fp) pins (lC k caps σ) H { s with heap:=h',toks:=t }:=by
 have hfs:∀b,b∈frs X.stack->b<s.heap.objs.size:=λb hb=>by obtain⟨_,o,ho,_⟩:=I.stack.mem hb;exact Jn ho
 refine⟨⟨I.ok.mod,C.kind,I.ok.glob,I.ok.blt,Jd _,λx y c h1 h2=>I.ok.inj x y c (hcl x c h1) (hcl y c h2),λx hx=>?_,(λx c h=>nomatch h),I.ok.hd,I.ok.frames,.inl rfl,λb hb=>?_,λb o e=>?_,?_,λb o e hb=>?_,λb hb=>?_,I.stack,λb hb=>I.stkFree b hb⟩,
  rfl,I.bare,Un.kept hk,?_,λx c e=>?_,I.hok.fresh (Jd _),λx c e=>I.freeC x c (hcl x c e),λp hp=>?_,I.hok.kept hk,?_⟩
 ·-- has
  have key:∀kk,(kk=NameKind.cell\/kk=NameKind.free)->(relabel scope X.env).names.lookup x=some kk->∃c,cl.lookup x=some c:=λkk hkk hl=>by
   rcases pS hl with z|⟨_,z⟩
   .rcases hkk with q|q
    .subst q;exact absurd rfl (C.nocell _ z)
    .subst q;exact hcf _ z rfl
   .exact hcf _ z rfl
  rcases hx with z|z
  .exact key _ (.inl rfl) z
  .exact key _ (.inr rfl) z
 .obtain⟨f,lt⟩:=hfp b hb;exact⟨Ju lt,λx c e=>f.2.2.2.2.1 x c (hcl x c e)⟩
 .exact I.bs b o e
 .exact Ys I.ok.bsz I.sz
 .obtain⟨f,lt⟩:=hfp b hb;rcases f.2.2.2.1 with z|z
  .exact I.ok.noex b o e z
  .exact absurd (Y1 (Jn e) (Ys I.ok.bsz z)) (Wn _)
 .obtain⟨f,lt⟩:=hfp b hb;intro z;rcases Jq.mp (I.stkSub b z) with q|q
  .exact f.2.1 q
  .exact f.2.2.1 q
 .obtain⟨m0,hn0,hl0⟩:=I.loc;refine⟨m,hn,λi x v e1 e2 e3=>?_⟩;unfold lC at e2;by_cases hi:i<k
  .rw[Jw (by simpa using hi),Q5]at e2
   split at e2<;>cases e2
  .rw[Y5 (by simpa using hi),Zf,Qy]at e2
   cases ec:caps[i-k]? with
   |none=>rw[ec]at e2;cases e2
   |some j=>
    rw[ec]at e2;have e2':(σ[j]?).join=some v:=Yk e2;obtain⟨y,hy1,hy2,hy3⟩:=C.cap _ _ ec;have e1':N[i]?=some x:=e1
    rw[show k+(i-k)=i by omega]at hy2
    rw[hy2]at e1';have exy:y=x:=Yk e1';subst exy;have hfr:(y,NameKind.free)∈scope.names:=dM hy3
    have hsj:σ[j]?=some (some v):=by
     cases q:σ[j]? with
     |none=>rw[q]at e2';cases e2'
     |some o=>rw[q]at e2';rw[show o=some v from e2']
    have kinds:=C.free _ hfr rfl
    have hvis:Vis X.env.scope y:=by
     rcases kinds with z|z
     .exact .inr (.inl z)
     .exact .inr (.inr z)
    obtain⟨u,ru,lk⟩:=hl0 j y v hy1 hsj hvis;refine⟨u,ru,?_⟩;rcases lk with⟨z,_⟩|⟨_,c,hc,hcell⟩
    .rcases kinds with q|q<;>(rw[q]at z;cases z)
    .obtain⟨c',hc'⟩:=hcf _ hfr rfl;have:=hcl _ _ hc';rw[hc]at this;cases this;refine .inr ⟨?_,c,hc',hcell.keeps hk⟩;exact jg (scope:=scope) (env:=X.env) hy3
 .obtain⟨v,z⟩:=I.cell x c (hcl x c e);exact⟨v,z.keeps hk⟩
 .obtain⟨e,n,ne,nf,d⟩:=I.pin p hp;refine⟨hk _ _ e,n,Ju (Jn e),λz=>?_,d⟩;rcases Jq.mp (I.stkSub _ z) with q|q
  .exact ne q
  .exact nf q
 .unfold lC;show _=N.length;rw[C.len];simp
end
noncomputable def D5(wi:TI)(k:Nat)(caps:List Nat)(g:TG)(tt:TT)(te:TE):TE:=λσ H Q=>wi σ H λJ H1=>∀p,H1 p=none->∃W:Nat->Nat->L2.St->Hp->Prop,(∃m,W 0 m (lC k caps σ) (upd H1 p (.lst [])))/\∀i m σ' H',W i m σ' H'->
 (J.stop i H'/\Q (.ref p) H')\/(J.go i H'/\∃N:L2.St->Hp->Prop,(∀σ2 H2,N σ2 H2->∃m',m'<m/\W (i+1) m' σ2 H2)/\
  ∀x H3,J.yld i H' x H3->g x σ' H3 λσ4 H4=>tt σ4 H4 λb H5=>if b=true then te σ4 H5 λy H6=>∃ys,H6 p=some (.lst ys)/\ys.length<sizeLine/\N σ4 (upd H6 p (.lst (ys++[y]))) else N σ4 H5)
theorem pU{elt tg iter:Expr}{ifs:List Expr}{pos:Pos}{k:Nat}{wi:TI}{g:TG}{tt:TT}{te:TE}(hX:Cd qb X)(hxe:∀e s,¬X.xe e s)(C:CompScope X N k caps scope)
  (hi:PIb qb X tg iter wi) (hg:∀cl s0 H0 ex,Cd qb (cxC X N scope cl s0 H0 ex)->PG (cxC X N scope cl s0 H0 ex) tg g) (ht:∀cl s0 H0 ex,Cd qb (cxC X N scope cl s0 H0 ex)->zu (cxC X N scope cl s0 H0 ex) ifs tt) (he:∀cl s0 H0 ex,Cd qb (cxC X N scope cl s0 H0 ex)->PE (cxC X N scope cl s0 H0 ex) elt te)
  (hs:autoParam (∀x,foldedSetIterable iter X.env x=pure x) zz4._auto_1):PE X (.ListComp elt [⟨tg,iter,ifs,0⟩] scope pos) (D5 wi k caps g tt te):=by
 intro pins s σ H Q I h;have noX:∀{α:Type}{t:Sem α}{Q':α->Shared->Prop}{s':Shared},wpAny (model X.prog X.w) X.A t Q' X.xe s'->wpAny (model X.prog X.w) X.A t Q' (λ_ _=>False) s':=λh=>Zk h (λ_ _ x=>x) λe s z=>hxe e s z;obtain⟨cl,hclos,hcl,hcf⟩:=pR (scope:=scope) (env:=X.env) λx hx hf=>I.ok.has _ (C.free x hx hf);rw[eval_ListComp];refine wpAny_comprehension_free (use:=none) (cl:=cl) rfl hs hclos C.kind C.names ?_;refine thn (hi pins s σ H _ I h) λv s1 h1=>thn h1 λitv s2 h2=>?_;obtain⟨it,fp,tn,J,H2,e,I2,T,st2,f2,q⟩:=h2;subst e
 refine Uu (items:=[]) ?_ (by show 0<=sizeLine;exact Y2 _)
 have hp:H2 s2.heap.objs.size=none:=I2.hok.fresh (Jd _);obtain⟨W,⟨m0,w0⟩,turn⟩:=q _ hp
 have I3:Inv X pins σ (upd H2 s2.heap.objs.size (.lst [])) { s2 with heap:=s2.heap.push { cls:=.type "list",data:=.seq ([]:List Value).toArray } }:=
  I2.laid (t':=s2.toks) (λb u e=>Jb _ e) (Jd _) ⟨Y2 _,[],0,.nil,Jo _ rfl⟩
 refine wpAny_newFunctionEnv C.nocell (λx hx=>nomatch hx) (λh4 hn4 hs4=>?_) C.kind
 have ltfp:∀b∈fp,b<s2.heap.objs.size:=λb hb=>by obtain⟨o,ho,_⟩:=T.obj _ _ st2 b hb;exact Jn ho
 have hk4:∀b o,(s2.heap.push { cls:=.type "list",data:=.seq ([]:List Value).toArray }).get? b=some o->h4.get? b=some o:=λb o e=>by
  have ne:b≠(s2.heap.push { cls:=.type "list",data:=.seq ([]:List Value).toArray }).objs.size:=Ju (Jn e)
  rw[hs4.2 b ne];exact Jb _ e
 have f3:∀b∈fp,FpOk X pins (upd H2 s2.heap.objs.size (.lst [])) b:=λb hb=>by
  obtain⟨a1,a2⟩:=f2 b hb
  exact⟨by rw[ax (Ju (ltfp b hb))];exact a1,a2⟩
 have I4:=rT (N:=N) (k:=k) (caps:=caps) (scope:=scope) (cl:=cl) (fp:=fp) (t:=s2.toks+0) I3 C hcl hcf (λb hb=>⟨f3 b hb,by rw[show({ s2 with heap:=s2.heap.push { cls:=.type "list",data:=.seq ([]:List Value).toArray } }:Shared).heap.objs.size=s2.heap.objs.size+1 from Zb ..];exact Zq (ltfp b hb)⟩) hn4 hk4
 have tn4:tn 0 h4:=T.keep _ _ _ st2 λb hb o e=>hk4 b o (Jb _ e)
 have loop:codeAny (model X.prog X.w) X.A (.compLoop (.ListComp elt [⟨tg,iter,ifs,0⟩] scope pos) 0 (.ref it) (.ref s2.heap.objs.size) (compEnvC scope cl ({ s2 with heap:=s2.heap.push { cls:=.type "list",data:=.seq ([]:List Value).toArray } }:Shared).heap.objs.size X.env))
   (compPost (model X.prog X.w) X.A X.xe none (EP X pins σ Q) (.ref s2.heap.objs.size) ({ s2 with heap:=s2.heap.push { cls:=.type "list",data:=.seq ([]:List Value).toArray } }:Shared).heap.objs.size) { s2 with heap:=h4,toks:=s2.toks+0 }:=by
  generalize hs3:({ s2 with heap:=s2.heap.push { cls:=.type "list",data:=.seq ([]:List Value).toArray } }:Shared)=s3 at *
  have sz3:s2.heap.objs.size<=s3.heap.objs.size:=by rw[<- hs3];show _<=(s2.heap.push _).objs.size;rw[Zb];exact Uh _
  have k23:∀b o,s2.heap.get? b=some o->s3.heap.get? b=some o:=λb o e=>by rw[<- hs3];exact Jb _ e
  have hos:s3.os=s2.os:=by rw[<- hs3]
  have stat:∀{H':Hp},(∀b∈fp,H' b=none)->∀b∈fp,FpOk (cxC X N scope cl s3 (upd H2 s2.heap.objs.size (.lst [])) fp) pins H' b:=λ{H'} hn b hb=>by
   obtain⟨a1,a2,a3,a4,a5,a6⟩:=f3 b hb;refine⟨hn b hb,Ju (Y1 (ltfp b hb) sz3),λz=>?_,.inl hb,λx c e=>a5 x c (hcl x c e),a6⟩;rcases Jq.mp (I2.stkSub b z) with q|q
   .exact a2 q
   .exact a3 q
  have I4':Inv (cxC X N scope cl s3 (upd H2 s2.heap.objs.size (.lst [])) fp) pins (lC k caps σ) (upd H2 s2.heap.objs.size (.lst [])) { s2 with heap:=h4,toks:=s2.toks+0 }:=by subst hs3;exact I4
  have hX2:Cd qb (cxC X N scope cl s3 (upd H2 s2.heap.objs.size (.lst [])) fp):=by
   rcases hX with z|⟨z,y|⟨a,o,u,e1,e2,e3⟩⟩
   .exact .inl z
   .exact .inr ⟨z,.inl y⟩
   .refine .inr ⟨z,.inr ⟨a,o,u,e1,?_,e3⟩⟩;have q0:=I2.base.frzs a o u e2;show upd H2 s2.heap.objs.size (.lst []) a=_
    rw[ax (λy=>by rw[y,hp]at q0;cases q0)]
    exact q0
  refine ot (λn s'=>∃i σ' H',Inv (cxC X N scope cl s3 (upd H2 s2.heap.objs.size (.lst [])) fp) pins σ' H' s'/\tn i s'.heap/\(∀b∈fp,H' b=none)/\W i n σ' H') ?_ m0 ⟨0,_,_,I4',tn4,λb hb=>(f3 b hb).1,w0⟩;rintro n s5 ⟨i,σ5,H5,I5,st5,fr5,w5⟩;rcases turn i n σ5 H5 w5 with⟨stop,qn⟩|⟨go,Nn,hN,step⟩
  .refine thn (T.done (cxC X N scope cl s3 (upd H2 s2.heap.objs.size (.lst [])) fp) rfl rfl rfl hX2 i pins s5 σ5 H5 _ I5 (stat fr5) st5 stop) λr s6 zq=>?_;obtain⟨hr,I6⟩:=zq;subst hr;obtain⟨m6,hn6,_⟩:=I6.loc;refine⟨m6,hn6,λh7 hs7=>⟨.ref s2.heap.objs.size,H5,?_,rfl,qn⟩⟩;have u1:Un (frs X.stack) fp H2 (upd H2 s2.heap.objs.size (.lst [])) s2.heap s3.heap:=Un.laid k23 (Jd _) hp;have u2:Un (frs X.stack) fp H2 H5 s2.heap s6.heap:=u1.trans I6.base;have neC:∀b o,s2.heap.get? b=some o->b≠s3.heap.objs.size:=λb o e=>Ju (Y1 (Jn e) sz3);have hfree:H5 s3.heap.objs.size=none:=I6.free
   refine I2.call' (s':={ s6 with heap:=h7 }) (ch:=fp) (by rw[<- hos];exact I6.os) ⟨λb o e n hb hx=>?_,λb o e n hb hx=>?_,u2.free,λb o e hx=>?_,u2.tups,u2.frzs,u2.tbls⟩ (λb ob e=>?_) I6.bare λb hb=>?_
   .exact(hs7.2 b (neC b o e)).trans (u2.keep b o e n hb hx)
   .obtain⟨sl,e1⟩:=u2.slot b o e n hb hx;exact⟨sl,(hs7.2 b (neC b o e)).trans e1⟩
   .obtain⟨o',e1⟩:=u2.there b o e hx;exact⟨o',(hs7.2 b (neC b o e)).trans e1⟩
   .refine(I6.hok b ob e).stay (λc v hc z=>(hs7.2 c ?_).trans z) (λ_ z=>z) λ_ _ z=>z;intro y;rcases hc with z|z
    .rw[<- z,y,hfree]at e;cases e
    .rw[y,hfree]at z;cases z
   .obtain⟨a1,a2,a3,a4,a5,a6⟩:=f2 b hb;exact⟨a4,a2,a5,a6⟩
  .refine thn (T.item (cxC X N scope cl s3 (upd H2 s2.heap.objs.size (.lst [])) fp) rfl rfl rfl hX2 i pins s5 σ5 H5 _ I5 (stat fr5) st5 go) λr s6 zq=>?_;obtain⟨u,hr,h6⟩:=zq;subst hr;refine thn h6 λ_ s7 zq=>?_;obtain⟨x,H7,I7,r7,y7,st7,fr7⟩:=zq;have I7':=I7.pinned (stat fr7) (T.obj _ _ st7);refine noX (thn (hg cl s3 _ fp hX2 _ s7 σ5 H7 x u _ I7' r7 (step x H7 y7)) λ_ s8 zq=>?_);obtain⟨σ8,H8,I8,q8⟩:=zq;refine noX (thn (ht cl s3 _ fp hX2 _ s8 σ8 H8 _ I8 q8) λok s9 zq=>?_);obtain⟨H9,I9,q9⟩:=zq
   have again:∀{s':Shared}{σ':L2.St}{H':Hp},Inv (cxC X N scope cl s3 (upd H2 s2.heap.objs.size (.lst [])) fp) (pins++kX fp s7.heap) σ' H' s'->Nn σ' H'->
     ∃m,m<n/\∃i σ' H',Inv (cxC X N scope cl s3 (upd H2 s2.heap.objs.size (.lst [])) fp) pins σ' H' s'/\tn i s'.heap/\(∀b∈fp,H' b=none)/\W i m σ' H':=λ{s' σ' H'} I' n'=>by
    obtain⟨m',hm,w'⟩:=hN σ' H' n';refine⟨m',hm,i+1,σ',H',I'.unpinned,T.keep _ _ _ st7 λb hb o e=>(I'.pin (b,o) (Yg _ (Yg _ (gx hb e)))).1,λb hb=>?_,w'⟩;obtain⟨o,e,d⟩:=T.obj _ _ st7 b hb;exact(I'.pin (b,o) (Yg _ (Yg _ (gx hb e)))).2.1
   cases ok with
   |false=>exact again I9 q9
   |true=>
    refine noX (thn (he cl s3 _ fp hX2 _ s9 σ8 H9 _ I9 q9) λy s10 zq=>?_);obtain⟨yv,H10,I10,r10,ys,hys,hlt,q10⟩:=zq;refine noX (thn (nj (X:=cxC X N scope cl s3 (upd H2 s2.heap.objs.size (.lst [])) fp) _ s10 σ8 H10 (.ref s2.heap.objs.size) [yv] _ [y] (λ_ H'=>Nn σ8 H') I10 rfl (.cons r10 .nil) ⟨_,ys,yv,rfl,rfl,hys,hlt,q10⟩) λ_ s11 zq=>?_);obtain⟨_,H11,I11,_,q11⟩:=zq;exact again I11 q11
 exact codeAny_compStart_list loop (T.self X.A 0 _ _ _ tn4 loop)
def du(i:Int):Prop:=-(2^64)<i/\i<2^64
noncomputable instance (i:Int):Decidable (du i):=by unfold du;infer_instance
noncomputable def aI:Sto->D->D->Option D
 |_,.int i,.int j=>some (.int (i+j))
 |_,.str a,.str b=>if a.length+b.length<=sizeLine then some (.str (a++b)) else none
 |_,.tup a,.tup b=>if a.length+b.length<=sizeLine then some (.tup (a++b)) else none
 |_,.lst a,.lst b=>if a.length+b.length<=sizeLine then some (.lst (a++b)) else none
 |_,_,_=>none
noncomputable def hU:Sto->D->D->Option D
 |_,.int i,.int j=>some (.int (i-j))
 |_,_,_=>none
noncomputable def cD:Sto->D->D->Option D
 |_,.int i,.int j=>if du i\/du j then some (.int (i*j)) else none
 |_,.tup a,.int k=>if -(2^63)<=k/\k<2^63/\a.length*k.toNat<=sizeLine then some (.tup (List.replicate k.toNat a).flatten) else none
 |_,.lst a,.int k=>if -(2^63)<=k/\k<2^63/\a.length*k.toNat<=sizeLine then some (.lst (List.replicate k.toNat a).flatten) else none
 |_,_,_=>none
noncomputable def iW:Sto->D->D->Option D
 |_,.int i,.int j=>if 0<j/\j<1073741824 then some (.int (i/j)) else none
 |_,_,_=>none
noncomputable def oMod:Sto->D->D->Option D
 |_,.int i,.int j=>if 0<j then some (.int (i%j)) else none
 |_,_,_=>none
noncomputable def ou:Sto->D->D->Option D
 |_,.int i,.int j=>if 0<=j/\j<=1000000/\i.natAbs<2^64 then some (.int (i^j.toNat)) else none
 |_,_,_=>none
noncomputable def rV:Sto->D->D->Option D
 |_,.int i,.int j=>if 0<=j/\j<=1000000/\i.natAbs<2^64 then some (.int (i*2^j.toNat)) else none
 |_,_,_=>none
noncomputable def ef:Sto->D->Option D
 |_,.int i=>some (.int (-i))
 |_,_=>none
noncomputable def lD(p:Int->Int->Bool):Sto->D->D->Option D
 |_,.int i,.int j=>some (.bl (p i j))
 |_,_,_=>none
noncomputable abbrev oLt:=lD λi j=>decide (i<j)
noncomputable abbrev oLe:=lD λi j=>decide (i<=j)
noncomputable abbrev oGt:=lD λi j=>decide (j<i)
noncomputable abbrev oGe:=lD λi j=>decide (j<=i)
noncomputable def eqS:D->D->Option Bool
 |.int i,.int j=>some (decide (i=j))
 |.bl i,.bl j=>some (decide (i=j))
 |.str i,.str j=>some (decide (i=j))
 |.non,.non=>some true
 |.non,.int _=>some false
 |.int _,.non=>some false
 |.non,.bl _=>some false
 |.bl _,.non=>some false
 |.non,.str _=>some false
 |.str _,.non=>some false
 |.int _,.str _=>some false
 |.str _,.int _=>some false
 |.bl _,.str _=>some false
 |.str _,.bl _=>some false
 |_,_=>none
noncomputable def oEq:Sto->D->D->Option D:=λ_ a b=>(eqS a b).map .bl
noncomputable def oNe:Sto->D->D->Option D:=λ_ a b=>(eqS a b).map λc=>.bl (!c)
noncomputable def ic:D->Bool
 |.non=>true
 |.bl _=>true
 |.int _=>true
 |.str _=>true
 |_=>false
noncomputable def eqF:D->D->Bool
 |.non,.non=>true
 |.bl a,.bl b=>a == b
 |.bl a,.int b=>(if a then 1 else 0) == b
 |.int a,.bl b=>a == (if b then 1 else 0)
 |.int a,.int b=>a == b
 |.str a,.str b=>a == b
 |_,_=>false
noncomputable def bO(S:Sto):D->Option (List D)
 |.tup a=>some a
 |.lst a=>some a
 |.fz a=>some a
 |.ref n=>match S[n]? with
  |some (.lst a)=>some a
  |some (.flst a)=>some a
  |_=>none
 |_=>none
noncomputable def oIn(neg:Bool):Sto->D->D->Option D:=λS x y=>match bO S y with
 |some a=>if ic x=true/\a.all ic=true then some (.bl (if neg then !(a.any λz=>eqF z x) else a.any λz=>eqF z x)) else none
 |none=>none
noncomputable def oIx:Sto->D->D->Option D:=λS x y=>match bO S x,y with
 |some a,.int i=>atI a i
 |_,_=>none
noncomputable def cutD(xs:List D)(lo hi:Option Int):List D:=(xs.drop (HT.sIx xs.length 0 lo)).take (HT.sIx xs.length xs.length hi-HT.sIx xs.length 0 lo)
section
variable{X:Cx}{E:XK}
theorem RD.int{K:Frag}{v:V}(q:RD K w H (.int i) v):v=.int i:=by unfold RD at q;exact q
theorem RD.bl{K:Frag}{i:Bool}{v:V}(q:RD K w H (.bl i) v):v=.bl i:=by unfold RD at q;exact q
theorem RD.str{K:Frag}{i:Str}{v:V}(q:RD K w H (.str i) v):v=.str i:=by unfold RD at q;exact q
theorem RD.non{K:Frag}{v:V}(q:RD K w H .non v):v=.non:=by unfold RD at q;exact q
theorem RD.mkI{K:Frag}:RD K w H (.int i) (.int i):=by unfold RD;rfl
theorem RD.mkB{K:Frag}{i:Bool}:RD K w H (.bl i) (.bl i):=by unfold RD;rfl
theorem RD.mkS{K:Frag}{i:Str}:RD K w H (.str i) (.str i):=by unfold RD;rfl
theorem RD.tupI{K:Frag}{ds:List D}{v:V}(q:RD K w H (.tup ds) v):∃a vs,v=.ref a/\(At w H a (.tup vs)\/pN K a vs)/\RDs K w H ds vs:=by unfold RD at q;exact q
theorem RD.lstI{K:Frag}{ds:List D}{v:V}(q:RD K w H (.lst ds) v):∃a vs,v=.ref a/\At w H a (.lst vs)/\RDs K w H ds vs:=by unfold RD at q;exact q
theorem RD.fzI{K:Frag}{ds:List D}{v:V}(q:RD K w H (.fz ds) v):∃a vs,v=.ref a/\rQ K w H a vs/\RDs K w H ds vs:=by unfold RD at q;exact q
theorem RD.refI{K:Frag}{v:V}(q:RD K w H (.ref n) v):∃a,v=.ref a/\w.st[n]?=some a:=by unfold RD at q;exact q
theorem RD.newTup{K:Frag}{ds:List D}{vs:List V}(s:RS K w H S)(hp:H p=none)(q:RDs K w H ds vs):RD K w (upd H p (.tup vs)) (.tup ds) (.ref p):=by unfold RD;exact⟨p,vs,rfl,.inl ⟨aC,s.fresh hp⟩,RDs.ext (Ext.new hp) _ _ q⟩
theorem RD.newLst{K:Frag}{ds:List D}{vs:List V}(s:RS K w H S)(hp:H p=none)(q:RDs K w H ds vs):RD K w (upd H p (.lst vs)) (.lst ds) (.ref p):=by unfold RD;exact⟨p,vs,rfl,⟨aC,s.fresh hp⟩,RDs.ext (Ext.new hp) _ _ q⟩
theorem zv{f:Value->Value->Sem Value}{C:Int->Int->Prop}{g:Int->Int->D}{gv:Int->Int->V}{o:Sto->D->D->Option D}(h:OpR X f (rI C gv))(hg:∀K w H i j,RD K w H (g i j) (gv i j))
  (ho:∀S d e z,o S d e=some z->∃i j,d=.int i/\e=.int j/\C i j/\z=g i j):OpR X f (xO X.K E o):=by
 rintro pins s σ H x y v u Q I rx ry ⟨w,S,d,e,hS,qd,qe,p⟩;obtain⟨z,hz,p⟩:=p.of;obtain⟨i,j,rfl,rfl,c,rfl⟩:=ho _ _ _ _ hz;cases qd.int;cases qe.int;exact h pins s σ H _ _ v u Q I rx ry ⟨i,j,rfl,rfl,c,p.ret (hg _ _ _ _ _) hS⟩
theorem pV{f:Value->Value->Sem Value}{g:Int->Int->D}{gv:Int->Int->V}{o:Sto->D->D->Option D}(h:OpR X f (rI0 gv))(hg:∀K w H i j,RD K w H (g i j) (gv i j))
  (ho:∀S d e z,o S d e=some z->∃i j,d=.int i/\e=.int j/\z=g i j):OpR X f (xO X.K E o):=by
 rintro pins s σ H x y v u Q I rx ry ⟨w,S,d,e,hS,qd,qe,p⟩;obtain⟨z,hz,p⟩:=p.of;obtain⟨i,j,rfl,rfl,rfl⟩:=ho _ _ _ _ hz;cases qd.int;cases qe.int;exact h pins s σ H _ _ v u Q I rx ry ⟨i,j,rfl,rfl,p.ret (hg _ _ _ _ _) hS⟩
theorem j3:OpR X (binaryOp .Sub) (xO X.K E hU):=pV (g:=λi j=>.int (i-j)) BB (λ_ _ _ _ _=>RD.mkI) λS d e z h=>by
 unfold hU at h;split at h
 .cases h;exact⟨_,_,rfl,rfl,rfl⟩
 .cases h
theorem oy:OpR X (binaryOp .FloorDiv) (xO X.K E iW):=zv (g:=λi j=>.int (i/j)) yX (λ_ _ _ _ _=>RD.mkI) λS d e z h=>by
 unfold iW at h;split at h
 .split at h
  .cases h;exact⟨_,_,rfl,rfl,by assumption,rfl⟩
  .cases h
 .cases h
theorem lE:OpR X (binaryOp .Mod) (xO X.K E oMod):=zv (g:=λi j=>.int (i%j)) BD (λ_ _ _ _ _=>RD.mkI) λS d e z h=>by
 unfold oMod at h;split at h
 .split at h
  .cases h;exact⟨_,_,rfl,rfl,by assumption,rfl⟩
  .cases h
 .cases h
theorem wX:OpR X (binaryOp .Pow) (xO X.K E ou):=zv (g:=λi j=>.int (i^j.toNat)) BE (λ_ _ _ _ _=>RD.mkI) λS d e z h=>by
 unfold ou at h;split at h
 .split at h
  .cases h;exact⟨_,_,rfl,rfl,by assumption,rfl⟩
  .cases h
 .cases h
theorem B1:OpR X (binaryOp .LShift) (xO X.K E rV):=zv (g:=λi j=>.int (i*2^j.toNat)) BF (λ_ _ _ _ _=>RD.mkI) λS d e z h=>by
 unfold rV at h;split at h
 .split at h
  .cases h;exact⟨_,_,rfl,rfl,by assumption,rfl⟩
  .cases h
 .cases h
theorem jh{p:Int->Int->Bool}{d e z:D}(h:lD p S d e=some z):∃i j,d=.int i/\e=.int j/\z=.bl (p i j):=by
 unfold lD at h;split at h
 .cases h;exact⟨_,_,rfl,rfl,rfl⟩
 .cases h
theorem wY:OpR X (compareOp .Lt) (xO X.K E oLt):=pV (g:=λi j=>.bl (decide (i<j))) DN (λ_ _ _ _ _=>RD.mkB) λS d e z h=>jh h
theorem pW:OpR X (compareOp .LtE) (xO X.K E oLe):=pV (g:=λi j=>.bl (decide (i<=j))) DO (λ_ _ _ _ _=>RD.mkB) λS d e z h=>jh h
theorem AX:OpR X (compareOp .Gt) (xO X.K E oGt):=pV (g:=λi j=>.bl (decide (j<i))) DP (λ_ _ _ _ _=>RD.mkB) λS d e z h=>jh h
theorem tL:OpR X (compareOp .GtE) (xO X.K E oGe):=pV (g:=λi j=>.bl (decide (j<=i))) DQ (λ_ _ _ _ _=>RD.mkB) λS d e z h=>jh h
theorem fc:UnR X (unaryOp .USub) (xU X.K E ef):=by
 rintro pins s σ H x v Q I rx ⟨w,S,d,hS,qd,p⟩;obtain⟨z,hz,p⟩:=p.of;unfold ef at hz;split at hz
 .cases hz;cases qd.int;exact BG pins s σ H _ v Q I rx ⟨_,rfl,p.ret RD.mkI hS⟩
 .cases hz
theorem wZ{K:Frag}{d e:D}{x y:V}{c:Bool}(qd:RD K w H d x)(qe:RD K w H e y)(h:eqS d e=some c):BH x y=true/\decide (x=y)=c:=by
 unfold eqS at h
 split at h<;>(try (cases h;done))<;>(unfold RD at qd qe;subst qd;subst qe;cases h;refine⟨rfl,?_⟩;simp)
theorem w8:OpR X (compareOp .Eq) (xO X.K E oEq):=by
 rintro pins s σ H x y v u Q I rx ry ⟨w,S,d,e,hS,qd,qe,p⟩;obtain⟨z,hz,p⟩:=p.of;unfold oEq at hz;cases h:eqS d e with
 |none=>rw[h]at hz;cases hz
 |some c=>
  rw[h]at hz;cases hz;obtain⟨h1,h2⟩:=wZ qd qe h
  exact DL pins s σ H _ _ v u Q I rx ry ⟨h1,by rw[h2];exact p.ret RD.mkB hS⟩
theorem D6:OpR X (compareOp .NotEq) (xO X.K E oNe):=by
 rintro pins s σ H x y v u Q I rx ry ⟨w,S,d,e,hS,qd,qe,p⟩;obtain⟨z,hz,p⟩:=p.of;unfold oNe at hz;cases h:eqS d e with
 |none=>rw[h]at hz;cases hz
 |some c=>
  rw[h]at hz;cases hz;obtain⟨h1,h2⟩:=wZ qd qe h
  exact DM pins s σ H _ _ v u Q I rx ry ⟨h1,by rw[h2];exact p.ret RD.mkB hS⟩
theorem j6{K:Frag}{d:D}{v:V}{a:List D}(s:RS K w H S)(q:RD K w H d v)(h:bO S d=some a):∃p vs,v=.ref p/\(SqL K H p vs\/SqT K H p vs)/\RDs K w H a vs:=by
 unfold bO at h;split at h
 .cases h;obtain⟨p,vs,e,z,r⟩:=q.tupI;exact⟨p,vs,e,.inr (cn z),r⟩
 .cases h;obtain⟨p,vs,e,z,r⟩:=q.lstI;exact⟨p,vs,e,.inl (SqL.of z.1),r⟩
 .cases h;obtain⟨p,vs,e,z,r⟩:=q.fzI;exact⟨p,vs,e,.inl z.sq,r⟩
 .split at h
  .rename_i n b hn;cases h;obtain⟨p,e,hp⟩:=q.refI;obtain⟨p',hp',vs,hv,r⟩:=s.obj _ _ hn;rw[hp]at hp';cases hp';exact⟨p,vs,e,.inl (SqL.of hv),r⟩
  .rename_i n b hn;cases h;obtain⟨p,e,hp⟩:=q.refI;obtain⟨p',hp',o,vs,hv,r⟩:=s.obj _ _ hn;rw[hp]at hp';cases hp';exact⟨p,vs,e,.inl (.inl (.inr ⟨o,hv⟩)),r⟩
  .cases h
 .cases h
theorem RDs.atI{K:Frag}{a:List D}{vs:List V}{d:D}(r:RDs K w H a vs)(h:atI a i=some d):∃v,L2.atI vs i=some v/\RD K w H d v:=by
 unfold L2.atI at h ⊢;rw[r.length];cases e:ixN a.length i with
 |none=>rw[e]at h;cases h
 |some j=>
  rw[e]at h
  obtain⟨v,ev,rv⟩:=r.get (show a[j]?=some d from h)
  exact⟨v,ev,rv⟩
theorem cH:IxR X (xO X.K E oIx):=by
 rintro va sl pins s σ H x y v u Q I rx ry ⟨w,S,d,e,hS,qd,qe,p⟩ hsub;obtain⟨z,hz,p'⟩:=p.of;clear p;unfold oIx at hz;split at hz
 .rename_i a i ha;obtain⟨q,vs,rfl,sq,r⟩:=j6 hS qd ha;cases qe.int;obtain⟨v',ev,rv⟩:=r.atI hz;exact BO va sl pins s σ H _ _ v u Q I rx ry (sq.elim (λz=>.inl ⟨q,vs,i,v',rfl,rfl,z,ev,p'.ret rv hS⟩) λz=>.inr (.inl ⟨q,vs,i,v',rfl,rfl,z,ev,p'.ret rv hS⟩)) hsub
 .cases hz
theorem tM{K:Frag}{d:D}{v:V}(q:RD K w H d v)(h:ic d=true):iT v=true:=by
 unfold ic at h;split at h
 .cases q.non;rfl
 .cases q.bl;rfl
 .cases q.int;rfl
 .cases q.str;rfl
 .cases h
theorem pX{K:Frag}:∀{ds:List D}{vs:List V},RDs K w H ds vs->ds.all ic=true->vs.all iT=true
 |[],_,q,_=>by rw[q.nil_inv];rfl
 |d::ds,_,q,h=>by obtain⟨v,r,rfl,p,t⟩:=q.cons_inv;rw[Q2,Yd]at h ⊢;exact⟨tM p h.1,pX t h.2⟩
theorem B3{K:Frag}{d e:D}{x y:V}(qd:RD K w H d x)(qe:RD K w H e y)(h1:ic d=true)(h2:ic e=true):eqV x y=eqF d e:=by
 unfold ic at h1 h2
 split at h1<;>(try (cases h1;done))<;>split at h2<;>(try (cases h2;done))<;>(unfold RD at qd qe;subst qd;subst qe;rfl)
theorem tN{K:Frag}{d:D}{x:V}(qd:RD K w H d x)(hd:ic d=true):∀{ds:List D}{vs:List V},RDs K w H ds vs->ds.all ic=true->(vs.any λy=>eqV y x)=ds.any λz=>eqF z d
 |[],_,q,_=>by rw[q.nil_inv];rfl
 |e::ds,_,q,h=>by obtain⟨v,r,rfl,p,t⟩:=q.cons_inv;rw[Q2,Yd]at h;rw[Qc,Qc,B3 p qd h.1 hd,tN qd hd t h.2]
theorem ji:OpR X (compareOp .NotIn) (xO X.K E (oIn true)):=by
 rintro pins s σ H x y v u Q I rx ry ⟨w,S,d,e,hS,qd,qe,p⟩;obtain⟨z,hz,p⟩:=p.of;unfold oIn at hz;split at hz
 .rename_i a ha;split at hz
  .rename_i hf;obtain⟨q,vs,rfl,sq,r⟩:=j6 hS qe ha;cases hz;refine n9 pins s σ H _ _ v u Q I rx ry ⟨q,vs,rfl,sq,tM qd hf.1,pX r hf.2,?_⟩;have hi:inV x vs=a.any λz=>eqF z d:=tN qd hf.1 r hf.2;simp only[Z0]at p ⊢;rw[hi];exact p.ret RD.mkB hS
  .cases hz
 .cases hz
end
section
open PySem.SeqAt
open PySem.AutoSeq1 (wpAny_loadPart')
open PySem.MeetsSeq PySem.MeetsSeq2 PySem.MeetsSeq3
theorem oz(a:Int)(t:Tok)(l:Addr)(items:Array Value)(n:Nat)(dd:Option Addr)(sl:Array (Option Value)):
  Meets (Builtin.«int.__rmul__» ⟨[.int a t,.ref l],[]⟩) (λ_ R s=>s.heap.get? l=some { cls:=.type "tuple",dict:=dd,data:=.seq items n,slots:=sl }/\R (.ok (.ret Value.notImplemented)) s):=
 .of_wp λprog w A R s h=>by obtain⟨hp,g,d,tk,os⟩:=s;obtain⟨hl,h⟩:=h;wp_walk using wpAny_loadPart' hl;exact⟨_,rfl,h⟩
theorem oA(l:Addr)(items:Array Value)(n:Nat)(k:Int)(t:Tok)(dd:Option Addr)(sl:Array (Option Value))(h1:¬(decide (k < -(2^63))||decide (k >= 2^63))=true)(h2:(items.isEmpty||k == 1)=true):
  Meets (Builtin.«tuple.__mul__» ⟨[.ref l,.int k t],[]⟩) (λ_ R s=>s.heap.get? l=some { cls:=.type "tuple",dict:=dd,data:=.seq items n,slots:=sl }/\R (.ok (.ret (.ref l))) s):=
 .of_wp λprog w A R s h=>by obtain⟨hp,g,d,tk,os⟩:=s;obtain⟨hl,h⟩:=h;have f1:=AutoSeq1.idx_int;wp_walk using wpAny_loadPart' hl;rw[Ji h1];wp_walk using wpAny_loadPart' hl;exact⟨_,rfl,h⟩
theorem oB(l:Addr)(items:Array Value)(n:Nat)(k:Int)(t:Tok)(dd:Option Addr)(sl:Array (Option Value))(h1:¬(decide (k < -(2^63))||decide (k >= 2^63))=true)(h2:¬(items.isEmpty||k == 1)=true)(h3:(decide (k<=0)||items.isEmpty)=true):
  Meets (Builtin.«tuple.__mul__» ⟨[.ref l,.int k t],[]⟩) (λ_ R s=>s.heap.get? l=some { cls:=.type "tuple",dict:=dd,data:=.seq items n,slots:=sl }/\R (.ok (.ret (Value.ref s.heap.objs.size))) { s with heap:=s.heap.push { cls:=Value.type "tuple",data:=Data.seq #[] },toks:=s.toks }):=
 .of_wp λprog w A R s h=>by obtain⟨hp,g,d,tk,os⟩:=s;obtain⟨hl,h⟩:=h;have f1:=AutoSeq1.idx_int;wp_walk using wpAny_loadPart' hl;rw[Ji h1];wp_walk using wpAny_loadPart' hl;exact⟨_,rfl,h⟩
theorem oC(l:Addr)(items:Array Value)(n:Nat)(k:Int)(t:Tok)(dd:Option Addr)(sl:Array (Option Value))(h1:¬(decide (k < -(2^63))||decide (k >= 2^63))=true)(h2:¬(items.isEmpty||k == 1)=true)(h3:¬(decide (k<=0)||items.isEmpty)=true)
  (h4:¬(items.size:Int)*k>(2^63-1)/8) (h5:¬Builtin.Tuple.tupleTooMany ((items.size:Int)*k)=true) (hsz:(List.foldl (λx1 x2=>x1++x2) #[] (List.replicate k.toNat items)).size<=sizeLine):
  Meets (Builtin.«tuple.__mul__» ⟨[.ref l,.int k t],[]⟩) (λ_ R s=>s.heap.get? l=some { cls:=.type "tuple",dict:=dd,data:=.seq items n,slots:=sl }/\R (.ok (.ret (Value.ref s.heap.objs.size))) { s with heap:=s.heap.push { cls:=Value.type "tuple",data:=Data.seq (List.foldl (λx1 x2=>x1++x2) #[] (List.replicate k.toNat items)) },toks:=s.toks }):=
 .of_wp λprog w A R s h=>by obtain⟨hp,g,d,tk,os⟩:=s;obtain⟨hl,h⟩:=h;have f1:=AutoSeq1.idx_int;wp_walk using wpAny_loadPart' hl;rw[Ji h1];wp_walk using wpAny_loadPart' hl;rw[Ji h4];wp_walk using wpAny_loadPart' hl;exact⟨_,rfl,h⟩
end
section
variable{prog:Program}{w:World}{A:Around}{E:Value->Shared->Prop}{s:Shared}
theorem j7:fillsNumberSlot (.type "tuple") "mul" = pure false:=
 PySem.fillsNumberSlot_seq (id:="tuple.__mul__") (r:=some (.builtin "tuple.__rmul__")) F.slot_tuple_mul.lookup (by decide +kernel) F.slot_tuple_rmul.lookup (by decide +kernel)
theorem oD:seqRepeat? (.type "tuple")=pure (some (.builtin "tuple.__mul__")):=by
 unfold seqRepeat?
 rw[PySem.seqSlot_of (T:="tuple") (name:="__mul__") (id:="tuple.__mul__") F.slot_tuple_mul.lookup (by decide +kernel),PySem.seqSlot_of (T:="tuple") (name:="__rmul__") (id:="tuple.__rmul__") F.slot_tuple_rmul.lookup (by decide +kernel)]
 rfl
theorem zw{t:Addr}{vs:List Value}{k:Int}{tk:Tok}{Q:Value->Shared->Prop}(ht:IsTup s.heap t vs.toArray)(h1:-(2^63)<=k)(h2:k<2^63)(hz:vs.length*k.toNat<=sizeLine)
  (q1:(vs=[]\/k=1)->Q (.ref t) s) (q2:¬(vs=[]\/k=1)->Q (.ref s.heap.objs.size) { s with heap:=s.heap.push { cls:=.type "tuple",data:=.seq (List.replicate k.toNat vs).flatten.toArray } }):
  wpAny (model prog w) A (binaryOp .Mult (.ref t) (.int k tk)) Q E s:=by
 obtain⟨⟨cls,dd,data,sl⟩,ho,hc,n,hd⟩:=id ht;simp only at hc hd;subst hc hd
 have hk:¬(decide (k < -(2^63))||decide (k >= 2^63))=true:=by simp;omega
 refine wpAny_binaryOp_repeat_ref (T:="tuple") (U:="int") (by decide) ⟨_,ho,rfl⟩ (λs'=>G5 s' k tk) j7 F.fills_int_mul U7 oD F.slot_int_index.lookup
  (Wy U7 (G5 s k tk) F.entry_int_rmul (F.args_int_rmul_2 _ _) (oz k tk t vs.toArray n dd sl) ⟨ho,rfl,⟨_,ho,rfl⟩,?_⟩)
 have hfold:∀m:Nat,List.foldl (λx1 x2=>x1++x2) #[] (List.replicate m vs.toArray)=(List.replicate m vs).flatten.toArray:=λm=>by have:=foldl_rep vs m [];rw[Zl]at this;exact this
 by_cases c1:vs=[]\/k=1
 .refine Wy F.slot_tuple_mul ⟨_,ho,rfl⟩ G2 (Ul _ _) (oA t vs.toArray n k tk dd sl hk ?_) ⟨ho,q1 c1⟩;rcases c1 with rfl|rfl
  .rfl
  .simp
 .have c2:¬(vs.toArray.isEmpty||k == 1)=true:=by
   intro z;rw[U8]at z;rcases z with z|z
   .exact c1 (.inl (by simpa using z))
   .exact c1 (.inr (by simpa using z))
  by_cases c3:k<=0
  .refine Wy F.slot_tuple_mul ⟨_,ho,rfl⟩ G2 (Ul _ _) (oB t vs.toArray n k tk dd sl hk c2 (by simp[c3])) ⟨ho,?_⟩
   have:=q2 c1
   rw[show k.toNat=0 by omega]at this
   exact this
  .have c4:¬(decide (k<=0)||vs.toArray.isEmpty)=true:=by
    intro z;rw[U8]at z;rcases z with z|z
    .exact c3 (Qk z)
    .exact c1 (.inl (by simpa using z))
   have hmul:((vs.toArray.size:Nat):Int)*k=((vs.length*k.toNat:Nat):Int):=by rw[Jr,Int.natCast_mul,Int.toNat_of_nonneg (by omega)]
   have hs0:(sizeLine:Nat)=2^24:=rfl;refine Wy F.slot_tuple_mul ⟨_,ho,rfl⟩ G2 (Ul _ _) (oC t vs.toArray n k tk dd sl hk c2 c4 ?_ ?_ ?_) ⟨ho,?_⟩
   .rw[hmul];intro z
    have:((2:Int)^63-1)/8 >= 2^24:=by decide
    omega
   .rw[hmul];unfold Builtin.Tuple.tupleTooMany;simp only[Vj];intro z;have z':((sizeLine:Nat):Int)<((vs.length*k.toNat:Nat):Int):=z;omega
   .rw[hfold,Jr,len_rep,G8];exact hz
   .rw[hfold];exact q2 c1
end
section
variable{prog:Program}{w:World}{A:Around}{E:Value->Shared->Prop}{s:Shared}
theorem w9{t b:Addr}{ws:List Value}{Q:Value->Shared->Prop}(ht:IsTup s.heap t ([]:List Value).toArray)(hb:IsTup s.heap b ws.toArray)(h:Q (.ref b) s):wpAny (model prog w) A (binaryOp .Add (.ref t) (.ref b)) Q E s:=by obtain⟨⟨cls,dd,data,sl⟩,ho,hc,n,hd⟩:=id ht;obtain⟨⟨cls2,dd2,data2,sl2⟩,ho2,hc2,n2,hd2⟩:=id hb;simp only at hc hd hc2 hd2;subst hc hd hc2 hd2;exact concat_meets ⟨_,ho,rfl⟩ ⟨_,ho2,rfl⟩ noFill_tuple_add seq_tuple_add Vs Vg (Vc _ _) (tuple_addW0 t b _ ws.toArray n n2 dd dd2 sl sl2 rfl) ⟨ho,ho2,h⟩
open HT in
theorem iQ{t sl:Addr}{items:Array Value}{vl vu:Value}{lo hi:Option Int}{Q:Value->Shared->Prop}(ht:IsTup s.heap t items)(hs:s.heap.IsSliceOf sl vl vu .none)(pl:IsPart vl lo)(pu:IsPart vu hi)
  (hw:sIx items.size 0 lo=0/\sIx items.size items.size hi=items.size) (h:Q (.ref t) s):wpAny (model prog w) A (getItem (.ref t) (.ref sl)) Q E s:=by
 obtain⟨os,hos,hcs,hds⟩:=id hs;have hTs:s.TypeIs (.ref sl) "slice":=⟨os,hos,hcs⟩
 unfold getItem
 try with_reducible refine Yi ?_
 first|refine J9 (Ja ?_)|skip
 refine J9 (G0 ht.typeIs (by decide) ?_)
 refine J9 (Yr (name:=Str.ofString "__getitem__") ht.typeIs Zh
  (Yo Zh ht.typeIs entry_tuple_getitem ?_ (args_tuple_getitem _ _)))
 show wpAny _ _ (Builtin.Tuple.tupleItemsOf (.ref t) >>= _) _ _ s;refine J9 (tupleItemsOf_ ht ?_);refine J9 (Qs hTs ?_)
 rw[Je (by decide)]
 refine J9 (gb hs pl pu ?_)
 have hyes:(((sIx items.size 0 lo:Nat):Int) == 0&&(1:Int) == 1&&(sIx items.size items.size hi-sIx items.size 0 lo) == items.size)=true:=by rw[hw.1,hw.2];simp
 show wpAny _ _ (if (((sIx items.size 0 lo:Nat):Int) == 0&&(1:Int) == 1&&(sIx items.size items.size hi-sIx items.size 0 lo) == items.size)=true then _ else _) _ _ s
 rw[Je hyes];obtain⟨ob,hob,hcl,_⟩:=id ht
 have hex:∀{Q':Bool->Shared->Prop},Q' true s->wpAny (model prog w) A.in1 (Builtin.Tuple.tupleIsExact (.ref t)) Q' E s:=λq=>by unfold Builtin.Tuple.tupleIsExact;refine J9 (Qs ht.typeIs (Ja ?_));exact q
 refine J9 (hex ?_);rw[Je rfl]
 first
  |exact J9 (Zj (Ja ⟨_,rfl,Ja h⟩))
  |exact J9 (Zj (J9 (Ja ⟨_,rfl,Ja h⟩)))
  |exact J9 (Zj (J9 (Ja (Ja ⟨_,rfl,Ja h⟩))))
  |exact J9 (J9 (Zj (Ja (Ja ⟨_,rfl,Ja h⟩))))
end
section
variable{X:Cx}{E:XK}
theorem jj{K:Frag}{vs:List V}{ds:List D}(z:At w H p (.tup vs)\/pN K p vs)(r:RDs K w H ds vs):RD K w H (.tup ds) (.ref p):=by unfold RD;exact⟨p,vs,rfl,z,r⟩
theorem aM:OpR X (binaryOp .Add) (xO X.K E aI):=by
 rintro pins s σ H x y v u Q I rx ry ⟨w,S,d,e,hS,qd,qe,p⟩;obtain⟨z,hz,p'⟩:=p.of;clear p;unfold aI at hz;split at hz
 .cases hz;cases qd.int;cases qe.int;exact BA pins s σ H _ _ v u Q I rx ry ⟨_,_,rfl,rfl,p'.ret RD.mkI hS⟩
 .split at hz
  .cases hz;cases qd.str;cases qe.str
   exact rH pins s σ H _ _ v u Q I rx ry ⟨_,_,rfl,rfl,by assumption,p'.ret RD.mkS hS⟩
  .cases hz
 .split at hz
  .rename_i S' a b hl;cases hz;obtain⟨pa,xs,rfl,za,ra⟩:=qd.tupI;obtain⟨pb,ys,rfl,zb,rb⟩:=qe.tupI;by_cases ha:a=[]
   .subst ha;have hxs:=ra.nil_inv;subst hxs;cases rx;cases ry;obtain⟨its,r1,p1,_⟩:=I.tuple (cn za);obtain⟨its2,r2,p2,_⟩:=I.tuple (cn zb);have:its=[]:=r1.nil_iff.mpr rfl;subst this;exact w9 p1 p2 ⟨.ref pb,H,I,rfl,p'.ret (jj zb rb) hS⟩
   .refine zc pins s σ H _ _ v u Q I rx ry ⟨pa,pb,xs,ys,rfl,rfl,cn za,cn zb,λz=>ha ?_,by rw[ra.length,rb.length];exact hl,λz=>?_,λz q hq=>?_⟩
    .have:=ra.length;rw[z]at this;exact Zw.mp this.symm
    .have hb:b=[]:=by have:=rb.length;rw[z]at this;exact Zw.mp this.symm
     subst hb;rw[Ym]at p';exact p'.ret (jj za ra) hS
    .exact p'.at (Ext.new hq) (RD.newTup hS hq (ra.append rb)) (hS.new hq)
  .cases hz
 .split at hz
  .rename_i S' a b hl;cases hz;obtain⟨pa,xs,rfl,za,ra⟩:=qd.lstI;obtain⟨pb,ys,rfl,zb,rb⟩:=qe.lstI
   exact wG pins s σ H _ _ v u Q I rx ry ⟨pa,pb,xs,ys,rfl,rfl,za.1,zb.1,by rw[ra.length,rb.length];exact hl,λq hq=>p'.at (Ext.new hq) (RD.newLst hS hq (ra.append rb)) (hS.new hq)⟩
  .cases hz
 .cases hz
theorem RDs.rep{K:Frag}{ds:List D}{vs:List V}(r:RDs K w H ds vs):∀k:Nat,RDs K w H (List.replicate k ds).flatten (List.replicate k vs).flatten
 |0=>by simp;exact .nil
 |k+1=>by rw[Q9,Q9,W5,W5];exact r.append (RDs.rep r k)
theorem eD:OpR X (binaryOp .Mult) (xO X.K E cD):=by
 rintro pins s σ H x y v u Q I rx ry ⟨w,S,d,e,hS,qd,qe,p⟩;obtain⟨z,hz,p'⟩:=p.of;clear p;unfold cD at hz;split at hz
 .split at hz
  .cases hz;cases qd.int;cases qe.int
   exact BC pins s σ H _ _ v u Q I rx ry ⟨_,_,rfl,rfl,by assumption,p'.ret RD.mkI hS⟩
  .cases hz
 .split at hz
  .rename_i S' a k hl;cases hz;obtain⟨pa,xs,rfl,za,ra⟩:=qd.tupI;cases qe.int;cases rx;obtain⟨t,rfl⟩:=ry;obtain⟨its,r1,p1,_⟩:=I.tuple (cn za)
   have e1:its.length=a.length:=by rw[<- r1.length,ra.length]
   refine zw p1 hl.1 hl.2.1 (by rw[e1];exact hl.2.2) (λc=>?_) λc=>?_
   .refine⟨.ref pa,H,I,rfl,?_⟩
    have:(List.replicate k.toNat a).flatten=a:=by
     rcases c with c|c
     .have:a=[]:=by rw[c]at e1;exact Zw.mp e1.symm
      subst this;simp
     .subst c;simp
    rw[this]at p';exact p'.ret (jj za ra) hS
   .have hn:H s.heap.objs.size=none:=I.hok.fresh (Jd _);refine⟨.ref s.heap.objs.size,_,I.laid (t':=s.toks) (o:=.tup (List.replicate k.toNat xs).flatten) (λb ob q=>Jb _ q) (Jd _) ?_,rfl,p'.at (Ext.new hn) (RD.newTup hS hn (ra.rep _)) (hS.new hn)⟩
    exact⟨by rw[len_rep,G8,ra.length];exact hl.2.2,_,r1.rep _,IsTup.new _ _⟩
  .cases hz
 .split at hz
  .rename_i S' a k hl;cases hz;obtain⟨pa,xs,rfl,za,ra⟩:=qd.lstI;cases qe.int
   exact BR pins s σ H _ _ v u Q I rx ry ⟨pa,k,xs,rfl,rfl,za.1,hl.1,hl.2.1,by rw[ra.length];exact hl.2.2,λq hq=>p'.at (Ext.new hq) (RD.newLst hS hq (ra.rep _)) (hS.new hq)⟩
  .cases hz
 .cases hz
theorem cI{a b:Expr}{mb:EM}{pos:Pos}{f:Sto->D->D->Option D}(hr:IxR X (xO X.K E f))(ha:SE X E a ma)(hb:SE X E b mb)(hs:tE b:=by intro _ _;kernel_rfl):SE X E (.Subscript a b pos) (eOp f ma mb):=⟨
 aR (DV hr ha.out hb.out hs) λs H Q zq=>ex6 zq λw r S hr hS hp=>⟨w,r,S,hr,hS,hp.bind hS λd S1 w1 H1 v x1 q1 s1 p1=>
  ⟨w1,r,S1,hr.ext x1,s1,p1.bind s1 λe S2 w2 H2 u x2 q2 s2 p2=>⟨w2,S2,d,e,s2,RD.ext x2 d v q1,q2,p2⟩⟩⟩⟩
noncomputable abbrev OM:=Rho->Sto->R (Option Int)
def ROp(w:Wd)(H:Hp)(a b:Option Int):Prop:=b=a
noncomputable def uO(K:Frag)(E:XK)(m:OM):TO:=λs H Q=>∃w r S,RSt K w H r s/\RS K w H S/\az K E ROp w H (m r S) Q
noncomputable def oNo:OM:=λ_ S=>.ok none S
noncomputable def bT(a:EM):OM:=λr S=>(a r S).bind λx S1=>match x with
 |.int i=>.ok (some i) S1
 |_=>.bad
abbrev SO'(X:Cx)(E:XK)(e:Option Expr)(m:OM):Prop:=Bx (PO X e (uO X.K E m))
theorem dN:SO' X E none oNo:=⟨λpins s σ H Q I zq=>ex6 zq λw r S hr hS hp=>y8 pins s σ H Q I (hp.ret rfl hS)⟩
theorem dO{a:Expr}(ha:SE X E a ma):SO' X E (some a) (bT ma):=⟨λpins s σ H Q I zq=>ex6 zq λw r S hr hS hp=>y9 ha.out pins s σ H Q I
 ⟨w,r,S,hr,hS,hp.bind hS λd S1 w1 H1 v x1 q1 s1 p1=>by
  cases d with
  |int i=>cases q1.int;exact⟨i,rfl,p1.ret rfl s1⟩
  |_=>exact p1.elim⟩⟩
noncomputable def xL(K:Frag)(E:XK)(f:Sto->D->Option Int->Option Int->Option D):V->Option Int->Option Int->Hp->VK->Prop:=λx lo hi H Q=>∃w S d,RS K w H S/\RD K w H d x/\az K E (RD K) w H (R.of S (f S d lo hi)) Q
noncomputable def eSl(f:Sto->D->Option Int->Option Int->Option D)(a:EM)(lo hi:OM):EM:=λr S=>(a r S).bind λx S1=>(lo r S1).bind λl S2=>(hi r S2).bind λu S3=>R.of S3 (f S3 x l u)
theorem ie{a:Expr}{lo hi:Option Expr}{ml mh:OM}{p2 pos:Pos}{f:Sto->D->Option Int->Option Int->Option D}(hf:SlR X (xL X.K E f))(ha:SE X E a ma)(hl:SO' X E lo ml)(hh:SO' X E hi mh):
  SE X E (.Subscript a (.Slice lo hi none p2) pos) (eSl f ma ml mh):=⟨
 aR (wC hf ha.out hl.out hh.out) λs H Q zq=>ex6 zq λw r S hr hS hp=>⟨w,r,S,hr,hS,hp.bind hS λd S1 w1 H1 v x1 q1 s1 p1=>
  ⟨w1,r,S1,hr.ext x1,s1,p1.bind s1 λl S2 w2 H2 l' x2 q2 s2 p2=>⟨w2,r,S2,(hr.ext x1).ext x2,s2,p2.bind s2 λu S3 w3 H3 u' x3 q3 s3 p3=>by
   have e1:l'=l:=q2;have e2:u'=u:=q3;subst e1 e2
   exact⟨w3,S3,d,s3,RD.ext x3 _ _ (RD.ext x2 _ _ q1),p3⟩⟩⟩⟩⟩
noncomputable def fe:Sto->D->Option Int->Option Int->Option D
 |_,.tup a,lo,hi=>some (.tup (cutD a lo hi))
 |_,.lst a,lo,hi=>some (.lst (cutD a lo hi))
 |_,_,_,_=>none
theorem RDs.cut{K:Frag}{ds:List D}{vs:List V}(r:RDs K w H ds vs)(lo hi:Option Int):RDs K w H (cutD ds lo hi) (pH vs lo hi):=by unfold cutD pH;rw[r.length];exact(r.drop _).take _
theorem gB:SlR X (xL X.K E fe):=by
 rintro pins s σ H x v vl vu lo hi sl Q I rx hs pl pu ⟨w,S,d,hS,qd,p⟩;obtain⟨z,hz,p'⟩:=p.of;clear p;unfold fe at hz;split at hz
 .rename_i a;cases hz;obtain⟨pa,xs,rfl,za,ra⟩:=qd.tupI;by_cases hw:HT.sIx xs.length 0 lo=0/\HT.sIx xs.length xs.length hi=xs.length
  .cases rx;obtain⟨its,r,ht,hz⟩:=I.tuple (cn za)
   have hlen:its.toArray.size=xs.length:=by rw[Jr];exact r.length.symm
   refine⟨"tuple",_,PyProof.Rows.slot_tuple_getitem.lookup,ht.typeIs,?_⟩
   refine iQ ht hs pl pu (by rw[hlen];exact hw) ⟨.ref pa,H,I,rfl,?_⟩
   have e:cutD a lo hi=a:=by unfold cutD;rw[<- ra.length,hw.1,hw.2];rw[Gh,Nat.sub_zero,ra.length,Ga]
   rw[e]at p';exact p'.ret (jj za ra) hS
  .exact BM pins s σ H _ v vl vu lo hi sl Q I rx hs pl pu ⟨pa,xs,rfl,cn za,hw,λq hq=>p'.at (Ext.new hq) (RD.newTup hS hq (ra.cut lo hi)) (hS.new hq)⟩
 .rename_i a;cases hz;obtain⟨pa,xs,rfl,za,ra⟩:=qd.lstI;exact tF pins s σ H _ v vl vu lo hi sl Q I rx hs pl pu ⟨pa,xs,rfl,SqL.of za.1,λq hq=>p'.at (Ext.new hq) (RD.newLst hS hq (ra.cut lo hi)) (hS.new hq)⟩
 .cases hz
noncomputable def cL:Sto->List D->Option D
 |_,[.str x]=>if x.length<=sizeLine then some (.int x.length) else none
 |_,[.dic x]=>some (.int x.length)
 |S,[d]=>match bO S d with
  |some a=>some (.int a.length)
  |none=>match d with
   |.ref n=>match S[n]? with
    |some (.dic kvs)=>some (.int kvs.length)
    |_=>none
   |_=>none
 |_,_=>none
theorem RDk.length{K:Frag}:∀{ds:List (Sum Int Str×D)}{vs:List (Key×V)},RDk K w H ds vs->vs.length=ds.length
 |[],_,h=>by unfold RDk at h;rw[h];rfl
 |(k,d)::ds,_,h=>by unfold RDk at h;obtain⟨v,r,rfl,_,q⟩:=h;simp[RDk.length q]
theorem eF:bI X (.builtin "len") (xC X.K E cL):=by
 rintro pins s σ H xs us Q I r ⟨w,S,ds,hS,qs,p⟩;obtain⟨z,hz,p'⟩:=p.of;clear p;unfold cL at hz;split at hz
 .split at hz
  .cases hz;obtain⟨v,rfl,q⟩:=qs.one_inv;cases q.str
   exact oh pins s σ H _ us Q I r ⟨_,rfl,by assumption,p'.ret RD.mkI hS⟩
  .cases hz
 .cases hz;obtain⟨v,rfl,q⟩:=qs.one_inv;unfold RD at q;obtain⟨a,uu,rfl,z,rk⟩:=q
  exact nv pins s σ H _ us Q I r ⟨_,_,rfl,z.1,by rw[rk.length];exact p'.ret RD.mkI hS⟩
 .obtain⟨v,rfl,q⟩:=qs.one_inv;split at hz
  .rename_i a ha;cases hz;obtain⟨pp,vs,rfl,sq,ra⟩:=j6 hS q ha
   exact og pins s σ H _ us Q I r ⟨pp,vs,rfl,sq,by rw[ra.length];exact p'.ret RD.mkI hS⟩
  .split at hz
   .split at hz
    .rename_i n kvs hn;cases hz;obtain⟨pp,rfl,hp⟩:=q.refI;obtain⟨p2,hp2,vs,hv,rk⟩:=hS.obj _ _ hn;rw[hp]at hp2;cases hp2
     exact nv pins s σ H _ us Q I r ⟨_,_,rfl,hv,by rw[rk.length];exact p'.ret RD.mkI hS⟩
    .cases hz
   .cases hz
 .cases hz
noncomputable def ig:Sto->List D->Option D
 |_,[.int i]=>some (.int (if i<0 then -i else i))
 |_,_=>none
theorem lG:bI X (.builtin "abs") (xC X.K E ig):=by
 rintro pins s σ H xs us Q I r ⟨w,S,ds,hS,qs,p⟩;obtain⟨z,hz,p'⟩:=p.of;clear p;unfold ig at hz;split at hz
 .cases hz;obtain⟨v,rfl,q⟩:=qs.one_inv;cases q.int;exact wz pins s σ H _ us Q I r ⟨_,rfl,p'.ret RD.mkI hS⟩
 .cases hz
noncomputable def xc:Sto->List D->Option D
 |_,[.int i,.int j]=>some (.int (if j>i then j else i))
 |_,_=>none
theorem B4(hc:X.calm=true):bI X (.builtin "max") (xC X.K E xc):=by
 rintro pins s σ H xs us Q I r ⟨w,S,ds,hS,qs,p⟩;obtain⟨z,hz,p'⟩:=p.of;clear p;unfold xc at hz;split at hz
 .cases hz;obtain⟨v,u,rfl,q,q'⟩:=qs.two_inv;cases q.int;cases q'.int;exact vh hc pins s σ H _ us Q I r ⟨_,_,rfl,p'.ret RD.mkI hS⟩
 .cases hz
noncomputable def xf:Sto->List D->Option D
 |_,[.int i,.int j]=>some (.int (if j<i then j else i))
 |_,_=>none
theorem B5(hc:X.calm=true):bI X (.builtin "min") (xC X.K E xf):=by
 rintro pins s σ H xs us Q I r ⟨w,S,ds,hS,qs,p⟩;obtain⟨z,hz,p'⟩:=p.of;clear p;unfold xf at hz;split at hz
 .cases hz;obtain⟨v,u,rfl,q,q'⟩:=qs.two_inv;cases q.int;cases q'.int;exact vi hc pins s σ H _ us Q I r ⟨_,_,rfl,p'.ret RD.mkI hS⟩
 .cases hz
noncomputable def kM:Sto->List D->Option D
 |_,[.int i,.int j]=>if 0<j/\j<1073741824 then some (.tup [.int (i/j),.int (i%j)]) else none
 |_,_=>none
theorem vp:bI X (.builtin "divmod") (xC X.K E kM):=by
 rintro pins s σ H xs us Q I r ⟨w,S,ds,hS,qs,p⟩;obtain⟨z,hz,p'⟩:=p.of;clear p;unfold kM at hz;split at hz
 .split at hz
  .cases hz;obtain⟨v,u,rfl,q,q'⟩:=qs.two_inv;cases q.int;cases q'.int
   exact pF pins s σ H _ us Q I r ⟨_,_,rfl,by assumption,λt ht=>p'.at (Ext.new ht) (RD.newTup hS ht (.cons RD.mkI (.cons RD.mkI .nil))) (hS.new ht)⟩
  .cases hz
 .cases hz
noncomputable def df:Sto->List D->Option D
 |_,[.tup a]=>some (.tup a)
 |S,[d]=>(bO S d).map .tup
 |_,_=>none
theorem ip:bI X (.type "tuple") (xC X.K E df):=by
 rintro pins s σ H xs us Q I r ⟨w,S,ds,hS,qs,p⟩;obtain⟨z,hz,p'⟩:=p.of;clear p;unfold df at hz;split at hz
 .cases hz;obtain⟨v,rfl,q⟩:=qs.one_inv;obtain⟨pa,vs,rfl,za,ra⟩:=q.tupI;exact iU pins s σ H _ us Q I r ⟨pa,vs,rfl,.inr ⟨cn za,p'.ret (jj za ra) hS⟩⟩
 .rename_i d hd;obtain⟨v,rfl,q⟩:=qs.one_inv;cases ha:bO S d with
  |none=>rw[ha]at hz;cases hz
  |some a=>
   rw[ha]at hz;cases hz
   have hq:∃pa vs,v=.ref pa/\SqL X.K H pa vs/\RDs X.K w H a vs:=by
    unfold bO at ha;split at ha
    .exact(hd _ rfl).elim
    .cases ha;obtain⟨p,vs,e,z,r⟩:=q.lstI;exact⟨p,vs,e,SqL.of z.1,r⟩
    .cases ha;obtain⟨p,vs,e,z,r⟩:=q.fzI;exact⟨p,vs,e,z.sq,r⟩
    .split at ha
     .rename_i n b hn;cases ha;obtain⟨p,e,hp⟩:=q.refI;obtain⟨p2,hp2,vs,hv,rk⟩:=hS.obj _ _ hn;rw[hp]at hp2;cases hp2;exact⟨p,vs,e,SqL.of hv,rk⟩
     .rename_i n b hn;cases ha;obtain⟨p,e,hp⟩:=q.refI;obtain⟨p2,hp2,o,vs,hv,rk⟩:=hS.obj _ _ hn;rw[hp]at hp2;cases hp2;exact⟨p,vs,e,.inl (.inr ⟨o,hv⟩),rk⟩
     .cases ha
    .cases ha
   obtain⟨pa,vs,rfl,sq,ra⟩:=hq;exact iU pins s σ H _ us Q I r ⟨pa,vs,rfl,.inl ⟨sq,λt ht=>p'.at (Ext.new ht) (RD.newTup hS ht ra) (hS.new ht)⟩⟩
 .cases hz
noncomputable def lH:Sto->List D->Option D
 |S,[d]=>(bO S d).map .lst
 |_,_=>none
theorem tO:bI X (.type "list") (xC X.K E lH):=by
 rintro pins s σ H xs us Q I r ⟨w,S,ds,hS,qs,p⟩;obtain⟨z,hz,p'⟩:=p.of;clear p;unfold lH at hz;split at hz
 .rename_i d;obtain⟨v,rfl,q⟩:=qs.one_inv;cases ha:bO S d with
  |none=>rw[ha]at hz;cases hz
  |some a=>
   rw[ha]at hz;cases hz;obtain⟨pa,vs,rfl,sq,ra⟩:=j6 hS q ha;exact oi pins s σ H _ us Q I r ⟨pa,vs,rfl,sq,λt ht=>p'.at (Ext.new ht) (RD.newLst hS ht ra) (hS.new ht)⟩
 .cases hz
end
section
variable{X:Cx}{E:XK}
noncomputable def boolsOf:List D->Option (List Bool)
 |[]=>some []
 |.bl b::r=>(boolsOf r).map (b :: ·)
 |_::_=>none
noncomputable def gC:Sto->List D->Option D
 |_,[.lst a]=>(boolsOf a).map λbs=>.bl (bs.all id)
 |_,_=>none
theorem pY{K:Frag}:∀{ds:List D}{vs:List V}{us:List Value}{bs:List Bool},RDs K w H ds vs->Vals vs us->boolsOf ds=some bs->LSm.BoolsAre us bs
 |[],_,_,_,q,r,h=>by rw[q.nil_inv]at r;cases r;unfold boolsOf at h;cases h;exact .nil
 |d::ds,_,_,bs,q,r,h=>by
  obtain⟨v,vs,rfl,p,t⟩:=q.cons_inv;cases d with
  |bl b=>
   unfold boolsOf at h;cases e:boolsOf ds with
   |none=>rw[e]at h;cases h
   |some cs=>
    rw[e]at h;cases h;cases p.bl;cases r with
    |cons r1 r2=>
     cases r1;exact .cons b (pY t r2 e)
  |_=>unfold boolsOf at h;cases h
theorem j8(hc:X.calm=true):bI X (.builtin "all") (xC X.K E gC):=by
 rintro pins s σ H xs us Q I r ⟨w,S,ds,hS,qs,p⟩;obtain⟨z,hz,p'⟩:=p.of;clear p;unfold gC at hz;split at hz
 .rename_i a;cases e:boolsOf a with
  |none=>rw[e]at hz;cases hz
  |some bs=>
   rw[e]at hz;cases hz;obtain⟨v,rfl,q⟩:=qs.one_inv;obtain⟨pa,vs,rfl,za,ra⟩:=q.lstI;obtain⟨u,rfl,ru⟩:=Wx r;cases ru;obtain⟨its,r1,⟨o,n,ho,hcl,hdn,hd⟩,_⟩:=I.list (SqL.of za.1);have hb:=pY ra r1 e;have hlt:pa<s.heap.objs.size:=Jn ho;have hl:s.heap.IsList pa its.toArray:=⟨o,ho,hcl,n,hd⟩;refine call_all_walk (Qj hl ?_)
   refine⟨s.heap.objs.size,[s.heap.objs.size,pa],[s.heap.objs.size],its.toArray.size,_,_,λi=>(bs[i]?).getD true,rfl,Walks.list (A:=X.A.in1) (I.ok.hd hc) _ pa (Ju hlt) its.toArray,
    ⟨⟨_,Jo _ rfl,rfl,rfl⟩,hl.push _⟩,λi v s' Q' E' hP hQ=>?_,λh' tk hk=>?_⟩
   .obtain⟨b,e,rfl⟩:=hb.get i v (by simpa using hP)
    simp only[e,Option.getD_some]at hQ;exact Wr hQ
   .have e:((List.range its.toArray.size).all λi=>(bs[i]?).getD true)=bs.all id:=by rw[Jr,hb.length];exact LSm.range_all bs
    rw[e];exact⟨.bl _,H,I.kept (LSm.kept_iter hk),rfl,p'.ret RD.mkB hS⟩
 .cases hz
noncomputable def tyD(S:Sto):D->Option String
 |.non=>some "NoneType"
 |.bl _=>some "bool"
 |.int _=>some "int"
 |.str _=>some "str"
 |.tup _=>some "tuple"
 |.lst _=>some "list"
 |.fz _=>none
 |.dic _=>some "dict"
 |.ref n=>match S[n]? with
  |some (.lst _)=>some "list"
  |some (.dic _)=>some "dict"
  |_=>none
 |.ty _=>none
 |.exc _=>none
 |.cls _=>none
noncomputable def dP:List String:=["int","bool","tuple","str","list","dict"]
noncomputable def di:Sto->List D->Option D
 |S,[d,.ty T]=>match tyD S d with
  |some t=>if T∈dP then some (.bl (t == T||(t == "bool" && T == "int"))) else none
  |none=>none
 |_,_=>none
theorem xg(K:Frag){t:String}(ht:t∈["NoneType","bool","int","str","tuple","list","dict"])(hT:T∈dP):kitOne K (.type t) (.type T)=some (t == T||(t == "bool" && T == "int")):=by unfold dP at hT;simp only[Jq,Yh,Q0]at ht hT;rcases ht with rfl|rfl|rfl|rfl|rfl|rfl|rfl<;>rcases hT with rfl|rfl|rfl|rfl|rfl|rfl<;>first|rfl|(with_unfolding_all rfl)|(unfold kitOne kitCls;with_unfolding_all decide)
theorem zx{K:Frag}{d:D}{v:V}{t:String}(hS:RS K w H S)(q:RD K w H d v)(h:tyD S d=some t)(hk:∀a vs,¬pN K a vs\/True):
  (L2.TyOf K H v (.type t) \/ ∃a vs,v=.ref a/\t = "tuple"/\pN K a vs)/\t∈["NoneType","bool","int","str","tuple","list","dict"]:=by
 cases d with
 |non=>cases q.non;cases h;exact⟨.inl .non,by simp⟩
 |bl b=>cases q.bl;cases h;exact⟨.inl (.bl b),by simp⟩
 |int i=>cases q.int;cases h;exact⟨.inl (.int i),by simp⟩
 |str x=>cases q.str;cases h;exact⟨.inl (.str x),by simp⟩
 |tup ds=>
  obtain⟨p,vs,rfl,z,_⟩:=q.tupI;cases h
  refine⟨?_,by simp⟩
  rcases z with z|z
  .exact .inl (.tup z.1)
  .exact .inr ⟨p,vs,rfl,rfl,z⟩
 |lst ds=>obtain⟨p,vs,rfl,z,_⟩:=q.lstI;cases h;exact⟨.inl (.lst z.1),by simp⟩
 |fz ds=>cases h
 |dic kvs=>unfold RD at q;obtain⟨p,us,rfl,z,_⟩:=q;cases h;exact⟨.inl (.dK z.1),by simp⟩
 |ref n=>
  obtain⟨p,rfl,hp⟩:=q.refI;unfold tyD at h;simp only at h;cases e:S[n]? with
  |none=>rw[e]at h;cases h
  |some o=>
   rw[e]at h;obtain⟨p',hp',r⟩:=hS.obj n o e;rw[hp]at hp';cases hp';cases o with
   |lst a=>cases h;obtain⟨vs,hv,_⟩:=r;exact⟨.inl (.lst hv),by simp⟩
   |dic a=>cases h;obtain⟨vs,hv,_⟩:=r;exact⟨.inl (.dK hv),by simp⟩
   |fdic a=>cases h
   |ins c fs=>cases h
   |flst a=>cases h
 |ty n=>cases h
 |exc c=>cases h
 |cls c=>cases h
theorem fY:bI X (.builtin "isinstance") (xC X.K E di):=by
 rintro pins s σ H xs us Q I r ⟨w,S,ds,hS,qs,p⟩;obtain⟨z,hz,p'⟩:=p.of;clear p;unfold di at hz;split at hz
 .rename_i d T;split at hz
  .rename_i t ht;split at hz
   .rename_i hT;cases hz;obtain⟨v,u,rfl,q,q'⟩:=qs.two_inv;unfold RD at q';subst q';obtain⟨v1,v2,rfl,rv,rt⟩:=vals2 r
    cases (show v2=Value.type T from rt)
    obtain⟨ty,hm⟩:=zx hS q ht λ_ _=>.inr trivial;have kk:=xg X.K hm hT;rcases ty with ty|⟨a,vs,rfl,rfl,kt⟩
    .exact m8 I rv ty kk λtk=>⟨.bl _,H,I.tok tk,rfl,p'.ret RD.mkB hS⟩
    .cases (show v1=Value.ref a from rv)
     obtain⟨o,its,n,e,hcl,_⟩:=kt
     exact Zc kitx_tuple I.kIn ⟨o,I.kIn _ _ e,hcl⟩ kk (λz=>nomatch z) λtk=>⟨.bl _,H,I.tok tk,rfl,p'.ret RD.mkB hS⟩
   .cases hz
  .cases hz
 .cases hz
noncomputable def xh:Sto->D->D->D->Option Sto
 |S,.ref n,.int i,v=>match S[n]? with
  |some (.lst a)=>(ixN a.length i).map λj=>S.set n (.lst (a.set j v))
  |_=>none
 |_,_,_,_=>none
theorem xi:nZ X (xS X.K xh):=by
 rintro pins s σ H o i v ov iv u Q I ro ri ru ⟨w,S,x,y,z,S',hS,qx,qy,qz,hf,k⟩;unfold xh at hf;split at hf
 .rename_i n j;split at hf
  .rename_i a hn;cases e:ixN a.length j with
   |none=>rw[e]at hf;cases hf
   |some m=>
    rw[e]at hf;cases hf;obtain⟨p,rfl,hp⟩:=qx.refI;cases qy.int;obtain⟨p',hp',vs,hv,ra⟩:=hS.obj _ _ hn;rw[hp]at hp';cases hp';have hm:p∈w.st:=Za hp
    refine set_list pins s σ H _ _ _ ov iv u Q I ro ri ru ⟨p,vs,j,m,rfl,rfl,hv,by rw[ra.length];exact e,k w _ (Ext.mut hm hv) ?_⟩
    exact hS.mut hp hv ⟨_,aC,RDs.ext (Ext.mut hm hv) _ _ (RDs.set qz m ra)⟩
  .cases hf
 .cases hf
noncomputable def xM(K:Frag)(E:XK)(f:Sto->D->List D->R D):V->List V->Hp->VK->Prop:=λx xs H Q=>∃w S d ds,RS K w H S/\RD K w H d x/\RDs K w H ds xs/\az K E (RD K) w H (f S d ds) Q
noncomputable def isL(S:Sto):D->Bool
 |.lst _=>true
 |.fz _=>true
 |.ref n=>match S[n]? with
  |some (.lst _)=>true
  |_=>false
 |_=>false
theorem B6{K:Frag}{d:D}{v:V}(hS:RS K w H S)(q:RD K w H d v)(h:isL S d=true):tyV K "list" v H:=by
 cases d with
 |lst ds=>obtain⟨p,vs,rfl,z,_⟩:=q.lstI;exact .inl ⟨rfl,vs,SqL.of z.1⟩
 |fz ds=>obtain⟨p,vs,rfl,z,_⟩:=q.fzI;exact .inl ⟨rfl,vs,z.sq⟩
 |ref n=>
  obtain⟨p,rfl,hp⟩:=q.refI;unfold isL at h;simp only at h;cases e:S[n]? with
  |none=>rw[e]at h;cases h
  |some o=>
   rw[e]at h;cases o with
   |lst a=>
    obtain⟨p',hp',vs,hv,_⟩:=hS.obj n _ e;rw[hp]at hp';cases hp';exact .inl ⟨rfl,vs,SqL.of hv⟩
   |_=>cases h
 |_=>cases h
noncomputable def lI(f:Sto->D->List D->R D)(o:EM)(t:AM):EM:=λr S=>(o r S).bind λx S1=>if isL S1 x=true then (t r S1).bind λys S2=>f S2 x ys else .bad
theorem oE{o e:Expr}{es:List Expr}{mo:EM}{ms:AM}{name:Str}{apos cpos:Pos}{id:String}{f:Sto->D->List D->R D}(pa:PlainAttrs "list")(slot:Slot "list" name id)(hty:typeOf (.builtin id)=pure (.type "method_descriptor"))(hm:MtR X id (xM X.K E f))
  (ho:SE X E o mo) (ha:SA X E (e::es) ms) (hbase:autoParam (attributeBase o name X.env (eval o X.env)=eval o X.env) zz0._auto_1)
  (hfew:autoParam (((backTo cpos (starEach (e::es) X.env)).all (λx=>!x.1)&&(backToKw cpos (keywordEach [] X.env)).all (λx=>x.1.isSome)
   && decide ((e::es).length+([]:List Keyword).length+(if ([]:List Keyword).isEmpty then 0 else 1)<30))=true) zz0._auto_1)
  (hline:autoParam ((apos.endLine == cpos.line)=true) zz0._auto_1) (hs:autoParam (starEach (e::es) X.env=(false,eval e X.env)::starEach es X.env) zz0._auto_1) (hplain:autoParam ((backTo cpos (starEach es X.env)).any (·.1)=false) zz0._auto_1):
  SE X E (.Call (.Attribute o name apos) (e::es) [] cpos) (lI f mo ms):=⟨
 aR (D0 pa slot hty hm ho.out ha.out hbase hfew hline hs hplain) λs H Q zq=>ex6 zq λw r S hr hS hp=>⟨w,r,S,hr,hS,hp.bind hS λd S1 w1 H1 v x1 q1 s1 p1=>by
  by_cases hl:isL S1 d=true
  .rw[Je hl]at p1;exact⟨B6 s1 q1 hl,w1,r,S1,hr.ext x1,s1,p1.bind s1 λds S2 w2 H2 us x2 q2 s2 p2=>⟨w2,S2,d,ds,s2,RD.ext x2 _ _ q1,q2,p2⟩⟩
  .rw[Ji hl]at p1
   exact p1.elim⟩⟩
noncomputable def dj:Sto->D->List D->R D
 |S,.ref n,[v]=>match S[n]? with
  |some (.lst a)=>if a.length<sizeLine then .ok .non (S.set n (.lst (a++[v]))) else .bad
  |_=>.bad
 |_,_,_=>.bad
theorem iG:MtR X "list.append" (xM X.K E dj):=by
 rintro pins s σ H x xs v us Q I rx rs ⟨w,S,d,ds,hS,qd,qs,p⟩;unfold dj at p;split at p
 .rename_i n y;split at p
  .rename_i a hn;split at p
   .rename_i hl;obtain⟨pp,rfl,hp⟩:=qd.refI;obtain⟨yv,rfl,qy⟩:=qs.one_inv;obtain⟨p',hp',vs,hv,ra⟩:=hS.obj _ _ hn;rw[hp]at hp';cases hp';have hm:pp∈w.st:=Za hp
    refine nj pins s σ H _ _ v us Q I rx rs ⟨pp,vs,yv,rfl,rfl,hv,by rw[ra.length];exact hl,p.at (Ext.mut hm hv) (by unfold RD;rfl) ?_⟩
    exact hS.mut hp hv ⟨_,aC,RDs.ext (Ext.mut hm hv) _ _ (ra.append (.cons qy .nil))⟩
   .exact p.elim
  .exact p.elim
 .exact p.elim
end
noncomputable def xj:Sum Int Str->PyData
 |.inl i=>.int i
 |.inr x=>.str x
mutual
noncomputable def toPy:D->Option PyData
 |.non=>some .none
 |.bl b=>some (.bool b)
 |.int i=>some (.int i)
 |.str x=>some (.str x)
 |.tup ds=>(cE ds).map .tuple
 |.lst ds=>(cE ds).map .list
 |.dic kvs=>(gX kvs).map .dict
 |.fz _=>none
 |.ref _=>none
 |.ty _=>none
 |.exc _=>none
 |.cls _=>none
noncomputable def cE:List D->Option (List PyData)
 |[]=>some []
 |d::ds=>match toPy d,cE ds with
  |some p,some q=>some (p::q)
  |_,_=>none
noncomputable def gX:List (Sum Int Str×D)->Option (List (PyData×PyData))
 |[]=>some []
 |(k,d)::r=>match toPy d,gX r with
  |some p,some q=>some ((xj k,p)::q)
  |_,_=>none
end
mutual
noncomputable def noL:D->Bool
 |.tup ds=>vq ds
 |.lst _=>false
 |.dic kvs=>zy kvs
 |_=>true
noncomputable def vq:List D->Bool
 |[]=>true
 |d::ds=>noL d&&vq ds
noncomputable def zy:List (Sum Int Str×D)->Bool
 |[]=>true
 |(_,d)::r=>noL d&&zy r
end
section
variable{X:Cx}{E:XK}
mutual
theorem eV{σ:L2.St}(I:Inv X pins σ H s):∀(d:D)(v:V)(u:Value)(p:PyData),RD X.K w H d v->RelV v u->toPy d=some p->∃as,Reads s.heap u p as/\(noL d=true->sysModules∉as)
 |.non,v,u,p,q,r,h=>by cases q.non;cases (show u=Value.none from r);unfold toPy at h;cases h;exact⟨_,.none,λ_ z=>nomatch z⟩
 |.bl b,v,u,p,q,r,h=>by cases q.bl;cases (show u=Value.bool b from r);unfold toPy at h;cases h;exact⟨_,.bool b,λ_ z=>nomatch z⟩
 |.int i,v,u,p,q,r,h=>by cases q.int;obtain⟨t,rfl⟩:=(show ∃t,u=Value.int i t from r);unfold toPy at h;cases h;exact⟨_,.int i t,λ_ z=>nomatch z⟩
 |.str x,v,u,p,q,r,h=>by cases q.str;obtain⟨t,rfl⟩:=(show ∃t,u=Value.str x t from r);unfold toPy at h;cases h;exact⟨_,.str x t,λ_ z=>nomatch z⟩
 |.tup ds,v,u,p,q,r,h=>by
  obtain⟨a,vs,rfl,z,rs⟩:=q.tupI
  cases (show u=Value.ref a from r)
  unfold toPy at h;cases e:cE ds with
  |none=>rw[e]at h;cases h
  |some ps=>
   rw[e]at h;cases h;obtain⟨its,r1,⟨o,ho,hc,n,hd⟩,_⟩:=I.tuple (cn z);obtain⟨as,ra,hn⟩:=j9 I ds vs its ps rs r1 e
   exact⟨as,.tuple ho hc hd ra,λz=>hn (by unfold noL at z;exact z)⟩
 |.lst ds,v,u,p,q,r,h=>by
  obtain⟨a,vs,rfl,z,rs⟩:=q.lstI
  cases (show u=Value.ref a from r)
  unfold toPy at h;cases e:cE ds with
  |none=>rw[e]at h;cases h
  |some ps=>
   rw[e]at h;cases h;obtain⟨its,r1,⟨o,n,ho,hc,_,hd⟩,_⟩:=I.list (SqL.of z.1);obtain⟨as,ra,hn⟩:=j9 I ds vs its ps rs r1 e
   exact⟨a::as,.list ho hc hd ra,λz=>by unfold noL at z;cases z⟩
 |.dic kvs,v,u,p,q,r,h=>by
  unfold RD at q;obtain⟨a,us,rfl,z,rk⟩:=q
  cases (show u=Value.ref a from r)
  unfold toPy at h;cases e:gX kvs with
  |none=>rw[e]at h;cases h
  |some ps=>
   rw[e]at h;cases h
   obtain⟨_,hsys,vs,kv,o,es,ep,ho,hex,hd,_,hp,_⟩:=(show bw X.prog X.w H s.heap a (.dK us) from I.hok a _ z.1)
   obtain⟨as,bs,ra,rb,hn⟩:=ny I kvs us vs es.toList ps rk kv hp e;refine⟨a::as++bs,.dict ho hex.1 hd ra rb,λz=>?_⟩;unfold noL at z;intro hm;rcases Jt.mp hm with hm|hm
   .rcases Jq.mp hm with hm|hm
    .rw[<- hm]at hsys;simp at hsys
    .exact(hn z).1 hm
   .exact(hn z).2 hm
 |.fz _,_,_,_,_,_,h=>by unfold toPy at h;cases h
 |.ref _,_,_,_,_,_,h=>by unfold toPy at h;cases h
 |.ty _,_,_,_,_,_,h=>by unfold toPy at h;cases h
 |.exc _,_,_,_,_,_,h=>by unfold toPy at h;cases h
 |.cls _,_,_,_,_,_,h=>by unfold toPy at h;cases h
theorem j9{σ:L2.St}(I:Inv X pins σ H s):∀(ds:List D)(vs:List V)(us:List Value)(ps:List PyData),RDs X.K w H ds vs->Vals vs us->cE ds=some ps->∃as,ReadsAll s.heap us ps as/\(vq ds=true->sysModules∉as)
 |[],vs,us,ps,q,r,h=>by
  rw[q.nil_inv]at r;cases r;unfold cE at h;cases h
  exact⟨_,.nil,λ_ z=>nomatch z⟩
 |d::ds,_,us,ps,q,r,h=>by
  obtain⟨v,vs,rfl,p,t⟩:=q.cons_inv;unfold cE at h;cases e1:toPy d with
  |none=>rw[e1]at h;cases h
  |some p1=>
   cases e2:cE ds with
   |none=>rw[e1,e2]at h;cases h
   |some p2=>
    rw[e1,e2]at h;cases h;cases r with
    |cons r1 r2=>
     obtain⟨as,ra,h1⟩:=eV I d v _ p1 p r1 e1;obtain⟨bs,rb,h2⟩:=j9 I ds vs _ p2 t r2 e2;refine⟨as++bs,.cons ra rb,λz=>?_⟩;unfold vq at z;rw[Yd]at z;intro hm;rcases Jt.mp hm with hm|hm
     .exact h1 z.1 hm
     .exact h2 z.2 hm
theorem ny{σ:L2.St}(I:Inv X pins σ H s):∀(ds:List (Sum Int Str×D))(us:List (Key×V))(vs:List (Key×Value))(es:List DictEntry)(ps:List (PyData×PyData)),RDk X.K w H ds us->KV us vs->Pairs (aV X.prog X.w) es vs->gX ds=some ps->
  ∃as bs,ReadsAll s.heap (es.map (·.key)) (ps.map (·.1)) as/\ReadsAll s.heap (es.map (·.val)) (ps.map (·.2)) bs/\(zy ds=true->sysModules∉as/\sysModules∉bs)
 |[],us,vs,es,ps,q,r,hp,h=>by
  unfold RDk at q;subst q;cases r;unfold gX at h;cases h;cases hp
  exact⟨_,_,.nil,.nil,λ_=>⟨(λz=>nomatch z),(λz=>nomatch z)⟩⟩
 |(k,d)::ds,us,vs,es,ps,q,r,hp,h=>by
  unfold RDk at q;obtain⟨v,ur,rfl,p,t⟩:=q;unfold gX at h;cases e1:toPy d with
  |none=>rw[e1]at h;cases h
  |some p1=>
   cases e2:gX ds with
   |none=>rw[e1,e2]at h;cases h
   |some p2=>
    rw[e1,e2]at h;cases h;cases r with
    |cons r1 r2=>
     cases hp with
     |cons hk hv hr=>
      rename_i q0 vr e0 es0;obtain⟨k',v'⟩:=q0;obtain⟨ek,rv⟩:=r1;have ek':k=k':=ek;subst ek';obtain⟨as,ra,h1⟩:=eV I d v _ p1 p rv e1;obtain⟨as2,bs2,ra2,rb2,h2⟩:=ny I ds ur vr es0 p2 t r2 hr e2
      have hkey:∃cs,Reads s.heap e0.key (xj k) cs/\cs=[]:=by
       rcases bE hk with⟨i,tk,z1,z2⟩|⟨x,tk,z1,z2⟩
       .have z1':k=Sum.inl i:=z1;subst z1';rw[z2];exact⟨_,.int i tk,rfl⟩
       .have z1':k=Sum.inr x:=z1;subst z1';rw[z2];exact⟨_,.str x tk,rfl⟩
      obtain⟨cs,rc,ec⟩:=hkey;subst ec;have hv':e0.val=v':=hv
      refine⟨[]++as2,as++bs2,.cons rc ra2,.cons (by show Reads s.heap e0.val p1 as;rw[hv'];exact ra) rb2,λz=>?_⟩
      unfold zy at z;rw[Yd]at z
      refine⟨by rw[Zl];exact(h2 z.2).1,λhm=>?_⟩
      rcases Jt.mp hm with hm|hm
      .exact h1 z.1 hm
      .exact(h2 z.2).2 hm
end
end
section
variable{K:Frag}{w:Wd}{H:Hp}
structure Mv(w:Wd)(H:Hp)(w2:Wd)(H2:Hp):Prop where
 st:∀(n:Nat)(a:Addr),w.st[n]?=some a->w2.st[n]?=some a
 at_:∀a o,At w H a o->At w2 H2 a o
mutual
theorem RD.mv(x:Mv w H w2 H2):∀(d:D)(v:V),RD K w H d v->RD K w2 H2 d v
 |.non,_,h=>h
 |.bl _,_,h=>h
 |.int _,_,h=>h
 |.str _,_,h=>h
 |.tup ds,v,h=>by unfold RD at h ⊢;obtain⟨a,vs,e,p,r⟩:=h;exact⟨a,vs,e,p.imp (x.at_ _ _) id,RDs.mv x ds vs r⟩
 |.lst ds,v,h=>by unfold RD at h ⊢;obtain⟨a,vs,e,p,r⟩:=h;exact⟨a,vs,e,x.at_ _ _ p,RDs.mv x ds vs r⟩
 |.fz ds,v,h=>by unfold RD at h ⊢;obtain⟨a,vs,e,p,r⟩:=h;exact⟨a,vs,e,p.imp (λ⟨o,z⟩=>⟨o,x.at_ _ _ z⟩) id,RDs.mv x ds vs r⟩
 |.dic kvs,v,h=>by unfold RD at h ⊢;obtain⟨a,us,e,p,r⟩:=h;exact⟨a,us,e,x.at_ _ _ p,RDk.mv x kvs us r⟩
 |.ref n,v,h=>by unfold RD at h ⊢;obtain⟨a,e,p⟩:=h;exact⟨a,e,x.st n a p⟩
 |.ty _,_,h=>h
 |.exc c,v,h=>by unfold RD at h ⊢;obtain⟨a,C,o,e,q,p⟩:=h;exact⟨a,C,o,e,q,x.at_ _ _ p⟩
 |.cls _,_,h=>h
theorem RDs.mv(x:Mv w H w2 H2):∀(ds:List D)(vs:List V),RDs K w H ds vs->RDs K w2 H2 ds vs
 |[],_,h=>h
 |d::ds,vs,h=>by unfold RDs at h ⊢;obtain⟨v,r,e,p,q⟩:=h;exact⟨v,r,e,RD.mv x d v p,RDs.mv x ds r q⟩
theorem RDk.mv(x:Mv w H w2 H2):∀(ds:List (Sum Int Str×D))(vs:List (Key×V)),RDk K w H ds vs->RDk K w2 H2 ds vs
 |[],_,h=>h
 |(k,d)::ds,vs,h=>by unfold RDk at h ⊢;obtain⟨v,r,e,p,q⟩:=h;exact⟨v,r,e,RD.mv x d v p,RDk.mv x ds r q⟩
end
theorem RO.mv(x:Mv w H w2 H2){o:SO}(hk:∀u,H a=some u->H2 a=some u)(r:RO K w H a o):RO K w2 H2 a o:=by
 cases o with
 |lst ds=>obtain⟨vs,e,q⟩:=r;exact⟨vs,hk _ e,RDs.mv x _ _ q⟩
 |dic kvs=>obtain⟨vs,e,q⟩:=r;exact⟨vs,hk _ e,RDk.mv x _ _ q⟩
 |fdic kvs=>obtain⟨o,vs,e,q⟩:=r;exact⟨o,vs,hk _ e,RDk.mv x _ _ q⟩
 |ins c fs=>obtain⟨C,dx,us,n,e,q1,q2⟩:=r;exact⟨C,dx,us,n,hk _ e,q1,RDs.mv x _ _ q2⟩
 |flst ds=>obtain⟨o,vs,e,q⟩:=r;exact⟨o,vs,hk _ e,RDs.mv x _ _ q⟩
theorem RSt.mv{s:L2.St}(x:Mv w H w2 H2)(h:RSt K w H r s):RSt K w2 H2 r s:=
 ⟨h.1,λi d e=>let ⟨v,e1,q⟩:=h.2 i d e;⟨v,e1,RD.mv x d v q⟩⟩
theorem Ext.hide(hp:H p=none):Ext w H (w.hide p) (upd H p o):=
 ⟨λa u e _=>by rw[ax (aH e hp)];exact e,⟨[],by simp[Wd.hide],λ_ z=>nomatch z⟩,λa h=>Y4 _ h,λa h=>(Jq.mp h).elim (λe=>.inr (e▸hp)) .inl,λa o u e=>by rw[ax (aH e hp)];exact e⟩
noncomputable def Wd.unhide(w:Wd)(p:Addr):Wd:=⟨w.st,w.hid.filter λa=>decide (a≠p)⟩
theorem Wd.mem_unhide(h:a∈(w.unhide p).hid):a∈w.hid/\a≠p:=⟨(Yv.mp h).1,Qk (Yv.mp h).2⟩
theorem Mv.write(hp:p∈w.hid):Mv w H w (upd H p o):=
 ⟨λ_ _ z=>z,λa u h=>⟨by rw[ax (λz:a=p=>h.2.2 (z▸hp))];exact h.1,h.2⟩⟩
theorem Mv.unhide:Mv w H (w.unhide p) H:=
 ⟨λ_ _ z=>z,λa u h=>⟨h.1,h.2.1,λz=>h.2.2 (Wd.mem_unhide z).1⟩⟩
theorem RS.hide(s:RS K w H S)(hp:H p=none):RS K (w.hide p) (upd H p o) S:=by
 refine⟨s.nd,s.len,λn so e=>?_,λa ha=>?_⟩
 .obtain⟨a,ha,r⟩:=s.obj n so e
  exact⟨a,ha,r.ext (Ext.hide hp) λu z=>by rw[ax (aH z hp)];exact z⟩
 .rcases Jq.mp ha with z|z
  .subst z;exact⟨s.freshS hp,o,aC⟩
  .obtain⟨h1,u,e⟩:=s.hid a z
   exact⟨h1,u,by rw[ax (aH e hp)];exact e⟩
theorem RS.write(s:RS K w H S)(hp:p∈w.hid):RS K w (upd H p o) S:=by
 have np:=(s.hid p hp).1;refine⟨s.nd,s.len,λn so e=>?_,λa ha=>?_⟩
 .obtain⟨a,ha,r⟩:=s.obj n so e;have:a≠p:=λz=>np (z▸Za ha)
  exact⟨a,ha,r.mv (Mv.write hp) λu z=>by rw[ax this];exact z⟩
 .obtain⟨h1,u,e⟩:=s.hid a ha;by_cases z:a=p
  .subst z;exact⟨h1,o,aC⟩
  .exact⟨h1,u,by rw[ax z];exact e⟩
theorem RS.unhide(s:RS K w H S):RS K (w.unhide p) H S:=
 ⟨s.nd,s.len,λn so e=>by
  obtain⟨a,ha,r⟩:=s.obj n so e
  exact⟨a,ha,r.mv Mv.unhide λu z=>z⟩,λa ha=>s.hid a (Wd.mem_unhide ha).1⟩
theorem tP{s:L2.St}(k:Nat)(caps:List Nat)(h:RSt K w H r s):RSt K w H (fF k caps r) (lC k caps s):=by
 unfold fF lC
 refine⟨by simp,λi d e=>?_⟩
 by_cases hi:i<k
 .rw[Jw (by simpa using hi),Q5]at e
  split at e<;>cases e
 .rw[Y5 (by simpa using hi),Zf,Qy]at e
  rw[Y5 (by simpa using hi),Zf,Qy]
  cases ec:caps[i-k]? with
  |none=>rw[ec]at e;cases e
  |some j=>
   rw[ec]at e;have e':(r[j]?).join=some d:=Yk e
   have hj:r[j]?=some (some d):=by
    cases q:r[j]? with
    |none=>rw[q]at e';cases e'
    |some o=>rw[q]at e';rw[show o=some d from e']
   obtain⟨v,ev,rv⟩:=h.2 j d hj
   exact⟨v,by show some ((s[j]?).join)=some (some v);rw[ev];rfl,rv⟩
end
abbrev SIf(X:Cx)(E:XK)(ifs:List Expr)(m:TM):Prop:=Bx (zu X ifs (uT X.K E m))
theorem cU{E:XK}:SIf X E [] bh:=⟨λpins s σ H Q I zq=>ex6 zq λw r S hr hS hp=>wV pins s σ H Q I (hp.ret rfl hS)⟩
theorem kN{E:XK}{c:Expr}{m:TM}(h:ST X E c m):SIf X E [c] m:=⟨wW h.out⟩
theorem lJ{E:XK}{elt tg iter:Expr}{ifs:List Expr}{pos:Pos}{k:Nat}{it:AM}{g:G}{mt:TM}{me:EM}(hX:Cd qb X)(hxe:∀e s,¬X.xe e s)(C:CompScope X N k caps scope)
  (hi:SIb qb X E tg iter it) (hg:∀cl s0 H0 ex,Cd qb (cxC X N scope cl s0 H0 ex)->SG (cxC X N scope cl s0 H0 ex) tg g) (ht:∀cl s0 H0 ex,Cd qb (cxC X N scope cl s0 H0 ex)->SIf (cxC X N scope cl s0 H0 ex) E ifs mt) (he:∀cl s0 H0 ex,Cd qb (cxC X N scope cl s0 H0 ex)->SE (cxC X N scope cl s0 H0 ex) E elt me)
  (hs:autoParam (∀x,foldedSetIterable iter X.env x=pure x) zz4._auto_1):SE X E (.ListComp elt [⟨tg,iter,ifs,0⟩] scope pos) (bf it k caps g mt me):=⟨
 aR (pU hX hxe C hi.out (g:=uG X.K g) (λcl s0 H0 ex z=>(hg cl s0 H0 ex z).out) (tt:=uT X.K E mt) (λcl s0 H0 ex z=>(ht cl s0 H0 ex z).out) (te:=uE X.K E me) (λcl s0 H0 ex z=>(he cl s0 H0 ex z).out) hs) λs H Q zq=>ex6 zq λw r S hr hS hp=>⟨w,r,S,hr,hS,hp.bind hS λds S1 w1 H1 J x1 q1 s1 p1=>by
  intro p hp;have hr1:=hr.ext x1;have pno:p∉w1.hid:=(s1.fresh hp).2
  have hz:ds.length<=sizeLine:=by
   rcases Wc sizeLine ds.length with z|z
   .rw[Ji (by omega)]at p1;exact p1.elim
   .exact z
  rw[Je hz]at p1
  -- the list is made at p,which is hidden
  refine⟨λi n s' H'=>n=ds.length-i/\i<=ds.length/\∃w' r' S' ys vs,Ext w1 H1 w' H'/\p∈w'.hid/\RSt X.K w' H' r' s'/\RS X.K w' H' S'/\H' p=some (.lst vs)/\RDs X.K w' H' ys vs/\ys.length<=i/\
    az X.K E (RD X.K) w1 H1 ((cy g mt me (ds.drop i) r' S').bind λzs S2=>R.ok (.lst (ys++zs)) S2) Q,
   ⟨ds.length,by simp,Y2 _,w1.hide p,fF k caps r,S1,[],[],Ext.hide hp,Y6,(tP k caps hr1).ext (Ext.hide hp),s1.hide hp,aC,.nil,Jd _,p1⟩,?_⟩
  rintro i n s2 H2 ⟨rfl,hi.out,w2,r2,S2,ys,vs,x2,hph,hr2,hS2,hpv,ry,hyl,hp2⟩;have hpn:p∉w2.st:=(hS2.hid p hph).1;by_cases hlt:i<ds.length
  .obtain⟨go,yld⟩:=(q1 i w2 H2 x2).1 hlt
   refine .inr ⟨go,λs' H'=>∃w' r' S' ys vs,Ext w1 H1 w' H'/\p∈w'.hid/\RSt X.K w' H' r' s'/\RS X.K w' H' S'/\H' p=some (.lst vs)/\RDs X.K w' H' ys vs/\ys.length<=i+1/\
     az X.K E (RD X.K) w1 H1 ((cy g mt me (ds.drop (i+1)) r' S').bind λzs S2=>R.ok (.lst (ys++zs)) S2) Q,
    λs' H' hN=>⟨ds.length-(i+1),by omega,rfl,hlt,hN⟩,λx H3 hy=>?_⟩
   obtain⟨gr,rd⟩:=yld x H3 hy;obtain⟨d,ed,qd⟩:=rd S2 hS2;obtain⟨x3,s3⟩:=lB gr hS2
   have hdrop:ds.drop i=d::ds.drop (i+1):=by rw[Yz hlt];rw[Jc hlt]at ed;cases ed;rfl
   rw[hdrop]at hp2;have hpv3:H3 p=some (.lst vs):=x3.keep _ _ hpv hpn;have ry3:=RDs.ext x3 _ _ ry;have x13:Ext w1 H1 w2 H3:=x2.trans' x3 s1 hS2;unfold cy at hp2;cases e:g.put d r2 with
   |none=>rw[e]at hp2;exact hp2.elim
   |some r3=>
    rw[e]at hp2;refine⟨w2,r2,d,r3,hr2.ext x3,qd,e,λs4 hr4=>⟨w2,r3,S2,hr4,s3,?_⟩⟩
    -- hp2:(mt r3 S2).bind .. |>.bind ..
    have hass:∀{A B C:Type}(r:R A)(f:A->Sto->R B)(h:B->Sto->R C),(r.bind f).bind h=r.bind λa S=>(f a S).bind h:=λr f h=>by cases r<;>rfl
    simp only[hass]at hp2;refine az.bindAt (rel:=RB) hp2 x13 s1 s3 λc S5 w5 H5 c' x5 q5 s5 p5=>?_;have ec:c'=c:=q5;subst ec;have x15:Ext w1 H1 w5 H5:=x13.trans' x5 s1 s3;have hph5:p∈w5.hid:=x5.hid p hph;have hpv5:H5 p=some (.lst vs):=x5.keep _ _ hpv3 hpn;cases c' with
    |false=>
     refine rN ⟨w5,r3,S5,ys,vs,x15,hph5,hr4.ext x5,s5,hpv5,RDs.ext x5 _ _ ry3,Nat.le_succ_of_le hyl,p5⟩
    |true=>
     refine rO ⟨w5,r3,S5,hr4.ext x5,s5,?_⟩;have p5':az X.K E (RD X.K) w1 H1 (((me r3 S5).bind λy S2=>(cy g mt me (ds.drop (i+1)) r3 S2).bind λys S3=>R.ok (y::ys) S3).bind λzs S2=>R.ok (D.lst (ys++zs)) S2) Q:=p5;simp only[hass]at p5';refine az.bindAt (rel:=RD X.K) p5' x15 s1 s5 λy S6 w6 H6 yv x6 q6 s6 p6=>?_;have x16:Ext w1 H1 w6 H6:=x15.trans' x6 s1 s5;have hph6:p∈w6.hid:=x6.hid p hph5;have hpn5:p∉w5.st:=(s5.hid p hph5).1;have hpn6:p∉w6.st:=(s6.hid p hph6).1;have hpv6:H6 p=some (.lst vs):=x6.keep _ _ hpv5 hpn5;have ry6:=RDs.ext x6 _ _ (RDs.ext x5 _ _ ry3)
     refine⟨vs,hpv6,by rw[ry6.length];omega,w6,r3,S6,ys++[y],vs++[yv],⟨λa o h n=>?_,x16.sub,x16.hid,x16.hnew,λa o u h=>by have z:=x16.frz a o u h;rw[ax (λe:a=p=>by rw[e,hpv6]at z;cases z)];exact z⟩,hph6,(hr4.ext x5).ext x6 |>.mv (Mv.write hph6),s6.write hph6,aC,(RDs.mv (Mv.write hph6) _ _ ry6).append (.cons (RD.mv (Mv.write hph6) _ _ q6) .nil),by simp;omega,?_⟩
     .have:a≠p:=aH h hp;rw[ax this];exact x16.keep a o h n
     .have he2:∀zs:List D,(ys++[y])++zs=ys++y::zs:=λzs=>by simp
      simp only[he2];exact p6
  .have e:i=ds.length:=by omega
   subst e;rw[G9]at hp2;refine .inl ⟨(q1 _ w2 H2 x2).2 (Jd _),?_⟩;have hp3:az X.K E (RD X.K) w1 H1 (R.ok (D.lst (ys++[])) S2) Q:=hp2;rw[Ym]at hp3;refine az.at hp3 (w1:=w2.unhide p) ⟨x2.keep,x2.sub,λa h=>Yv.mpr ⟨x2.hid a h,Yc λz=>pno (z▸h)⟩,λa h=>x2.hnew a (Wd.mem_unhide h).1,x2.frz⟩ ?_ hS2.unhide;unfold RD
   exact⟨p,vs,rfl,⟨hpv,hpn,λz=>(Wd.mem_unhide z).2 rfl⟩,RDs.mv Mv.unhide _ _ ry⟩⟩⟩
theorem cJ{E:XK}{elt tg iter:Expr}{ifs:List Expr}{pos:Pos}{k:Nat}{it:AM}{g:G}{mt:TM}{me:EM}(hX:X.calm=true)(hxe:∀e s,¬X.xe e s)(C:CompScope X N k caps scope)
  (hi:SI X E tg iter it) (hg:∀cl s0 H0 ex,SG (cxC X N scope cl s0 H0 ex) tg g) (ht:∀cl s0 H0 ex,SIf (cxC X N scope cl s0 H0 ex) E ifs mt) (he:∀cl s0 H0 ex,SE (cxC X N scope cl s0 H0 ex) E elt me)
  (hs:autoParam (∀x,foldedSetIterable iter X.env x=pure x) zz4._auto_1):SE X E (.ListComp elt [⟨tg,iter,ifs,0⟩] scope pos) (bf it k caps g mt me):=lJ (qb:=false) (.inl hX) hxe C hi (λa b c d _=>hg a b c d) (λa b c d _=>ht a b c d) (λa b c d _=>he a b c d) hs
noncomputable abbrev KD:=Sum Int Str
noncomputable def jk:D->Option KD
 |.int i=>some (.inl i)
 |.str x=>some (.inr x)
 |_=>none
noncomputable def putD(kvs:List (KD×D))(k:KD)(d:D):List (KD×D):=
 if kvs.any (λkv=>decide (kv.1=k)) then kvs.map (λkv=>if kv.1=k then (kv.1,d) else kv) else kvs++[(k,d)]
noncomputable def dv(kvs more:List (KD×D)):List (KD×D):=more.foldl (λacc kv=>putD acc kv.1 kv.2) kvs
noncomputable def iX:List (D×D)->Option (List (KD×D))
 |[]=>some []
 |(k,v)::r=>match jk k,iX r with
  |some k',some r'=>some ((k',v)::r')
  |_,_=>none
noncomputable def pM:List (EM×EM)->Rho->Sto->R (List (D×D))
 |[],_,S=>.ok [] S
 |(a,b)::t,r,S=>(a r S).bind λx S1=>(b r S1).bind λy S2=>(pM t r S2).bind λps S3=>.ok ((x,y)::ps) S3
noncomputable def rW(ms:List (EM×EM)):EM:=λr S=>(pM ms r S).bind λps S1=>match iX ps with
 |some kvs=>if kvs.length<=15 then .ok (.dic (dv [] kvs)) S1 else .bad
 |none=>.bad
noncomputable def tQ(ms:List (EM×EM)):EM:=λr S=>(pM ms r S).bind λps S1=>match iX ps with
 |some kvs=>if kvs.length<=15 then .ok (.ref S1.length) (S1++[.dic (dv [] kvs)]) else .bad
 |none=>.bad
section
variable{K:Frag}{w:Wd}{H:Hp}
theorem RDk.nil:RDk K w H [] []:=by unfold RDk;rfl
theorem RDk.cons{k:KD}{d:D}{v:V}{ds:List (KD×D)}{vs:List (Key×V)}(r:RD K w H d v)(q:RDk K w H ds vs):RDk K w H ((k,d)::ds) ((k,v)::vs):=by unfold RDk;exact⟨v,vs,rfl,r,q⟩
theorem RDk.nil_inv{vs:List (Key×V)}(h:RDk K w H [] vs):vs=[]:=by unfold RDk at h;exact h
theorem RDk.cons_inv{k:KD}{d:D}{ds:List (KD×D)}{vs:List (Key×V)}(h:RDk K w H ((k,d)::ds) vs):∃v r,vs=(k,v)::r/\RD K w H d v/\RDk K w H ds r:=by unfold RDk at h;exact h
theorem RDk.append:∀{ds es:List (KD×D)}{vs us:List (Key×V)},RDk K w H ds vs->RDk K w H es us->RDk K w H (ds++es) (vs++us)
 |[],_,_,_,h,q=>by rw[h.nil_inv];exact q
 |(_,_)::_,_,_,_,h,q=>by obtain⟨v,r,rfl,p,t⟩:=h.cons_inv;exact .cons p (RDk.append t q)
theorem RDk.any:∀{ds:List (KD×D)}{vs:List (Key×V)}(k:KD),RDk K w H ds vs->(ds.any λkv=>decide (kv.1=k))=(vs.any λkv=>decide (kv.1=k))
 |[],_,_,h=>by rw[h.nil_inv];rfl
 |(_,_)::_,_,k,h=>by obtain⟨v,r,rfl,p,t⟩:=h.cons_inv;rw[Qc,Qc,RDk.any k t]
theorem RDk.repl{d:D}{v:V}(r:RD K w H d v):∀{ds:List (KD×D)}{vs:List (Key×V)}(k:KD),RDk K w H ds vs->RDk K w H (ds.map λkv=>if kv.1=k then (kv.1,d) else kv) (vs.map λkv=>if kv.1=k then (kv.1,v) else kv)
 |[],_,_,h=>by rw[h.nil_inv];exact .nil
 |(j,_)::_,_,k,h=>by
  obtain⟨v',r',rfl,p,t⟩:=h.cons_inv;simp only[Jp];by_cases hj:j=k
  .rw[Je hj,Je hj];exact .cons r (RDk.repl r k t)
  .rw[Ji hj,Ji hj];exact .cons p (RDk.repl r k t)
theorem RDk.put{ds:List (KD×D)}{vs:List (Key×V)}{d:D}{v:V}(q:RDk K w H ds vs)(k:KD)(r:RD K w H d v):RDk K w H (putD ds k d) (putK vs k v):=by
 unfold putD putK;rw[q.any k];split
 .exact q.repl r k
 .exact q.append (.cons r .nil)
theorem RDk.merge:∀{more:List (KD×D)}{mvs:List (Key×V)}{ds:List (KD×D)}{vs:List (Key×V)},RDk K w H more mvs->RDk K w H ds vs->RDk K w H (dv ds more) (dH vs mvs)
 |[],_,_,_,h,q=>by rw[h.nil_inv];exact q
 |(k,d)::r,_,ds,vs,h,q=>by obtain⟨v',r',rfl,p,t⟩:=h.cons_inv;show RDk K w H (dv (putD ds k d) r) (dH (putK vs k v') r');exact RDk.merge t (q.put k p)
theorem jl{d:D}{v:V}{k:KD}(q:RD K w H d v)(h:jk d=some k):v=kV k:=by
 cases d with
 |int i=>cases q.int;cases h;rfl
 |str x=>cases q.str;cases h;rfl
 |_=>cases h
noncomputable def RPs(K:Frag)(w:Wd)(H:Hp):List (D×D)->List (V×V)->Prop
 |[],vs=>vs=[]
 |(a,b)::r,vs=>∃x y t,vs=(x,y)::t/\RD K w H a x/\RD K w H b y/\RPs K w H r t
theorem pZ:∀{ps:List (D×D)}{vs:List (V×V)}{kvs:List (KD×D)},RPs K w H ps vs->iX ps=some kvs->∃us:List (Key×V),vs=us.map (λkv=>(kV kv.1,kv.2))/\RDk K w H kvs us
 |[],_,_,h,e=>by have h':_=[]:=h;subst h';unfold iX at e;cases e;exact⟨[],rfl,.nil⟩
 |(a,b)::r,_,kvs,h,e=>by
  obtain⟨u,v,t,rfl,h1,h2,h3⟩:=h;unfold iX at e;cases e1:jk a with
  |none=>rw[e1]at e;cases e
  |some k=>
   cases e2:iX r with
   |none=>rw[e1,e2]at e;cases e
   |some r'=>
    rw[e1,e2]at e;cases e;obtain⟨us,rfl,q⟩:=pZ h3 e2
    exact⟨(k,v)::us,by rw[jl h1 e1];rfl,.cons h2 q⟩
end
section
variable{X:Cx}{E:XK}{pos:Pos}
noncomputable def uPs(K:Frag)(E:XK)(ms:List (EM×EM)):List (TE×TE):=ms.map λp=>(uE K E p.1,uE K E p.2)
theorem AY{A2 B2:Type}{K:Frag}{rel2:Wd->Hp->A2->B2->Prop}{w0:Wd}{H0:Hp}{S0:Sto}{Q:B2->Hp->Prop}(s0:RS K w0 H0 S0):∀(ms:List (EM×EM)){w:Wd}{H:Hp}{S:Sto}{r:Rho}{s:L2.St}{f:List (D×D)->Sto->R A2}{Q':List (V×V)->Hp->Prop},RSt K w H r s->RS K w H S->Ext w0 H0 w H->
  az K E rel2 w0 H0 ((pM ms r S).bind f) Q->(∀ps S1 w1 H1 vs,Ext w H w1 H1->RPs K w1 H1 ps vs->RS K w1 H1 S1->az K E rel2 w0 H0 (f ps S1) Q->Q' vs H1)->oo (uPs K E ms) s H Q'
 |[],w,H,S,r,s,f,Q',hr,hS,x,hp,k=>k [] S w H [] (Ext.refl _ _) rfl hS hp
 |(a,b)::t,w,H,S,r,s,f,Q',hr,hS,x,hp,k=>by
  have hass:∀{A B C:Type}(r:R A)(f:A->Sto->R B)(h:B->Sto->R C),(r.bind f).bind h=r.bind λa S=>(f a S).bind h:=λr f h=>by cases r<;>rfl
  unfold pM at hp;rw[hass]at hp;refine⟨w,r,S,hr,hS,az.bindAt (rel:=RD K) hp x s0 hS λd S1 w1 H1 u x1 q1 s1 p1=>?_⟩;rw[hass]at p1;have x01:=x.trans' x1 s0 hS;refine⟨w1,r,S1,hr.ext x1,s1,az.bindAt (rel:=RD K) p1 x01 s0 s1 λe S2 w2 H2 v x2 q2 s2 p2=>?_⟩;rw[hass]at p2;have x02:=x01.trans' x2 s0 s1
  exact AY s0 t ((hr.ext x1).ext x2) s2 x02 p2 λps S3 w3 H3 vs x3 q3 s3 p3=>
   k ((d,e)::ps) S3 w3 H3 ((u,v)::vs) ((x1.trans' x2 hS s1).trans' x3 hS s2) ⟨u,v,vs,rfl,RD.ext x3 _ _ (RD.ext x2 _ _ q1),RD.ext x3 _ _ q2,q3⟩ s3 p3
abbrev SPs(X:Cx)(E:XK)(pos:Pos)(keys:List (Option Expr))(values:List Expr)(ms:List (EM×EM)):Prop:=Bx (PPs X pos keys values (uPs X.K E ms))
theorem tR:SPs X E pos [] [] []:=⟨zi⟩
theorem p8{k v:Expr}{ks:List (Option Expr)}{vs:List Expr}{mk mv:EM}{ms:List (EM×EM)}(hk:SE X E k mk)(hv:SE X E v mv)(hr:SPs X E pos ks vs ms):SPs X E pos (some k::ks) (v::vs) ((mk,mv)::ms):=⟨wI hk.out hv.out hr.out⟩
theorem nz{keys:List (Option Expr)}{values:List Expr}{ms:List (EM×EM)}{m:EM}{s:L2.St}{H:Hp}{Q:VK}{fin:List (KD×D)->Sto->R D}
  (hm:∀r S,m r S=(pM ms r S).bind λps S1=>match iX ps with|some kvs=>if kvs.length<=15 then fin kvs S1 else .bad|none=>.bad)
  (hfin:∀(kvs:List (KD×D))(us:List (Key×V))(w0 w:Wd)(H0 H:Hp)(S0 S:Sto)(p:Addr),H0 p=none->RS X.K w0 H0 S0->RS X.K w H S->Ext w0 H0 w H->p∈w.hid->RDk X.K w H (dv [] kvs) (dH [] us)->az X.K E (RD X.K) w0 H0 (fin kvs S) Q->Q (.ref p) (upd H p (.dK (dH [] us))))
  (h:uE X.K E m s H Q):AU (uPs X.K E ms) s H Q:=by
 obtain⟨w,r,S,hr,hS,hp⟩:=h;rw[hm]at hp;intro p hpn;refine AY hS ms (hr.ext (Ext.hide hpn)) (hS.hide hpn) (Ext.hide hpn) hp λps S1 w1 H1 vs x1 q1 s1 p1=>?_;have hh:p∈w1.hid:=x1.hid p Y6;have hx:Ext w H w1 H1:=(Ext.hide hpn).trans' x1 hS (hS.hide hpn);refine⟨x1.keep p _ aC ((hS.hide (o:=HO.dK []) hpn).hid p Y6).1,?_⟩;cases e:iX ps with
 |none=>rw[e]at p1;exact p1.elim
 |some kvs=>
  rw[e]at p1;obtain⟨us,rfl,rk⟩:=pZ q1 e;have hl:=rk.length;by_cases hz:kvs.length<=15
  .have p2:az X.K E (RD X.K) w H (if kvs.length<=15 then fin kvs S1 else R.bad) Q:=p1
   rw[Je hz]at p2
   exact⟨us,rfl,by rw[hl];exact hz,hfin kvs us w w1 H H1 S S1 p hpn hS s1 hx hh (rk.merge .nil) p2⟩
  .have p2:az X.K E (RD X.K) w H (if kvs.length<=15 then fin kvs S1 else R.bad) Q:=p1
   rw[Ji hz]at p2;exact p2.elim
theorem B7{keys:List (Option Expr)}{values:List Expr}{ms:List (EM×EM)}(h:SPs X E pos keys values ms)(hall:autoParam (keys.all (·.isSome)=true) zz0._auto_1)(hl:autoParam (keys.length=values.length) zz0._auto_1)(h0:keys≠[]:=by intro z;cases z)(h15:autoParam (keys.length<=15) zz3._auto_1):
  SE X E (.Dict keys values pos) (rW ms):=⟨
 aR (tH h.out hall hl h0 h15) λs H Q q=>nz (keys:=keys) (values:=values) (fin:=λkvs S1=>R.ok (.dic (dv [] kvs)) S1) (λr S=>rfl) (λkvs us w0 w H0 H S0 S p hp s0 s x hh rk p1=>by
  have hpn:=(s.hid p hh).1
  have mv:Mv w H (w.unhide p) (upd H p (.dK (dH [] us))):=⟨λ_ _ z=>z,λa o z=>⟨by rw[ax (λy:a=p=>z.2.2 (y▸hh))];exact z.1,z.2.1,λy=>z.2.2 (Wd.mem_unhide y).1⟩⟩
  refine az.at p1 (w1:=w.unhide p) ⟨λa o h n=>by rw[ax (aH h hp)];exact x.keep a o h n,x.sub,λa h=>Yv.mpr ⟨x.hid a h,Yc λz=>(s0.fresh hp).2 (z▸h)⟩,λa h=>x.hnew a (Wd.mem_unhide h).1,λa o u h=>by rw[ax (aH h hp)];exact x.frz a o u h⟩ ?_ (s.write hh).unhide
  unfold RD
  exact⟨p,_,rfl,⟨aC,hpn,λz=>(Wd.mem_unhide z).2 rfl⟩,RDk.mv mv _ _ rk⟩) q⟩
end
def vt(m:AM)(n:Nat):Prop:=∀r S ds S',m r S=.ok ds S'->ds.length=n
theorem aD:vt aj 0:=λr S ds S' h=>by unfold aj at h;cases h;rfl
theorem ak{a:EM}{t:AM}(h:vt t n):vt (aa a t) (n+1):=λr S ds S' e=>by
 unfold aa at e;cases e1:a r S with
 |bad=>rw[e1]at e;cases e
 |err x S1=>rw[e1]at e;cases e
 |ok d S1=>
  rw[e1]at e;cases e2:t r S1 with
  |bad=>simp only[R.bind_ok,e2,R.bind_bad]at e;cases e
  |err x S2=>simp only[R.bind_ok,e2,R.bind_err]at e;cases e
  |ok es S2=>
   simp only[R.bind_ok,e2]at e;cases e;simp[h r S1 es _ e2]
section
variable{X:Cx}{E:XK}
theorem AZ{pos:Pos}(hm:∃t,X.mg x=some (.int i t))(hg:Gl X x)(hd:autoParam ((x == ("__debug__":Str))=false) zz3._auto_1):SE X E (.Name x pos) (eC (.int i)):=by obtain⟨t,e⟩:=hm;exact zp hg e hd
end
noncomputable def oF(N0 N:List Str)(k:Nat)(scope:Scope):List Nat->Nat->Bool
 |[],_=>true
 |i::r,t=>(match N0[i]?,N[k+t]? with
  |some x,some y=>x == y&&scope.names.lookup x == some .free
  |_,_=>false)&&oF N0 N k scope r (t+1)
theorem lK{N0:List Str}{k:Nat}:∀{caps:List Nat}{t0:Nat},oF N0 N k scope caps t0=true->∀(t i:Nat),caps[t]?=some i->∃x,N0[i]?=some x/\N[k+(t0+t)]?=some x/\scope.names.lookup x=some .free
 |[],_,_,_,_,h=>by simp at h
 |j::r,t0,h,t,i,e=>by
  unfold oF at h;rw[Yd]at h;cases t with
  |zero=>
   simp at e;subst e;have h1:=h.1;cases e1:N0[j]? with
   |none=>rw[e1]at h1;cases h1
   |some x=>
    cases e2:N[k+t0]? with
    |none=>rw[e1,e2]at h1;cases h1
    |some y=>
     rw[e1,e2]at h1;simp only[Yd]at h1;have hxy:x=y:=eq_of_beq h1.1;subst hxy
     exact⟨x,rfl,by simpa using e2,eq_of_beq h1.2⟩
  |succ t=>
   obtain⟨x,a,b,c⟩:=lK h.2 t i (by simpa using e)
   exact⟨x,a,by rw[show t0+(t+1)=t0+1+t by omega];exact b,c⟩
theorem eW{X:Cx}{N:List Str}{k:Nat}{caps:List Nat}(h1:scope.kind=.function)(h2:scope.names.all (λx=>x.2 != .cell)=true)(h3:scope.names.all (λx=>x.2 != .local||scope.names.lookup x.1 == some .local)=true)
  (h4:scope.names.all (λx=>x.2 != .free||X.env.kindOf x.1 == some .cell||X.env.kindOf x.1 == some .free)=true) (h5:N.length=k+caps.length) (h6:oF X.N N k scope caps 0=true):CompScope X N k caps scope:=by
 refine⟨h1,λx hx z=>?_,λx hx z=>?_,λx hx z=>?_,h5,λt i e=>?_⟩
 .have:=Qe.mp h2 x hx;rw[z]at this;simp at this
 .have:=Qe.mp h3 x hx;rw[z]at this;simpa using this
 .have:=Qe.mp h4 x hx;rw[z]at this;simpa using this
 .obtain⟨x,a,b,c⟩:=lK h6 t i e
  exact⟨x,a,by simpa using b,c⟩
theorem B8{f:FM}(h:∀ns:List Int,ns.length<=63->∃S,f [.fz (ns.map .int)] []=.ok (.bl true) S)(K:Frag)(H:Hp)(a:Addr)(ns:List Int)(hn:ns.length<=63)(ho:wL H)(hs:SqL K H a (ns.map V.int)):
  spM K 1 f [.ref a] H (λv _=>v=.bl true) λ_ _ _=>False:=by
 obtain⟨S,e⟩:=h ns hn
 have hfz:rQ K ⟨[],[]⟩ H a (ns.map V.int):=by
  rcases hs with(hs|⟨o,hs⟩)|hs
  .rcases ho a with z|⟨o,xs,z⟩
   .rw[z]at hs;cases hs
   .rw[z]at hs;cases hs
  .exact .inl ⟨o,hs,(λz=>nomatch z),(λz=>nomatch z)⟩
  .exact .inr hs
 have hints:∀l:List Int,RDs K ⟨[],[]⟩ H (l.map D.int) (l.map V.int):=λl=>by
  induction l with
  |nil=>exact .nil
  |cons i l ih=>exact .cons RD.mkI ih
 refine⟨rfl,⟨[],[]⟩,[],[.fz (ns.map .int)],⟨List.nodup_nil,rfl,λn o z=>?_,(λa z=>nomatch z)⟩,.cons (by unfold RD;exact⟨a,_,rfl,hfz,hints ns⟩) .nil,?_⟩
 .simp at z
 .rw[e];intro w' H' b x q s;unfold RD at q;exact q
end PD
namespace PD
open PySem L2
variable{S:Sto}
theorem fG{i j:Int}(h:du i\/du j):cD S (.int i) (.int j)=some (.int (i*j)):=Je h
theorem B9{i:Nat}(h:i<1000):rV S (.int 1) (.int i)=some (.int (2^i)):=by
 have:rV S (.int 1) (.int i)=some (.int (1*2^((i:Int)).toNat)):=Je ⟨by omega,by omega,by decide⟩
 rw[this,Q8,Int.one_mul]
theorem xk{i j:Int}(h:0<=j/\j<=1000000/\i.natAbs<2^64):ou S (.int i) (.int j)=some (.int (i^j.toNat)):=Je h
theorem rX:ou S (.int 10) (.int 12)=some (.int 1000000000000):=by
 rw[xk ⟨by decide,by decide,by decide⟩]
 have e:(10:Int)^(12:Int).toNat=1000000000000:=by decide
 rw[e]
theorem Cb{a:List D}{k:Int}(h:-(2^63)<=k/\k<2^63/\a.length*k.toNat<=sizeLine):cD S (.tup a) (.int k)=some (.tup (List.replicate k.toNat a).flatten):=Je h
theorem gf{A:Type}{xs:List A}{i:Nat}(h:i<xs.length):atI xs (i:Int)=some xs[i]:=zd (Jc h)
end PD
namespace PD
open PySem PyProof.Rows L2
def Sh(nl:Bool)(d:D):Prop:=∃p,toPy d=some p/\p.showable=true/\p.depth<=3/\p.shown.length<=64/\(if nl=true then noL d=true else p.hasDict=false)
theorem Cc{nl:Bool}{i:Int}(h:i.natAbs<10^30):Sh nl (.int i):=by
 refine⟨.int i,rfl,?_,by show 0<=3;omega,?_,?_⟩
 .unfold PyData.showable;refine Yc ?_
  have:i.natAbs<2^1920:=Qt h (by decide +kernel)
  rcases Nat.eq_zero_or_pos i.natAbs with z|z
  .rw[z];decide
  .exact(Nat.log2_lt (by omega)).mpr this
 .have e:=PySem.int_text_length_le10 (k:=30) (by decide) h
  show(Str.ofString (toString i)).length<=64;rw[PySem.ofString_length];omega
 .cases nl<;>rfl
end PD
namespace L2
open PySem PySem.Spec PyProof.Rows
def Fly(l:List Env)(H':Hp)(h hs:Heap)(ea:Addr)(cls:Value):Prop:=
 ∃(B:Heap)(a0:Value),Heap.FlyingW B l ea cls a0 hs/\(∀b o,h.get? b=some o->b∉frs l->∃o',B.get? b=some o')/\(∀b u,H' b=some u->∃o',B.get? b=some o')/\hs.Zat ea
noncomputable def CX1(P:Program)(w:World):CXT:=λouter H s E e s'=>
 ∃ea cls H',e=.ref ea/\s'.os=s.os/\AllBare s'.gens/\Un (frs outer) [] H H' s.heap s'.heap/\HOk P w H' s'.heap/\Fly outer H' s.heap s'.heap ea cls/\E cls none H'
section
variable{P:Program}{w:World}{fs:List Addr}{H H':Hp}{h h1 h2 B:Heap}{l:List Env}
theorem bw.thereO{a:Addr}{o:HO}(x:bw P w H h a o):∃ob,h.get? a=some ob:=by
 cases o with
 |lst xs=>obtain⟨_,_,_,_,e⟩:=x;exact⟨_,e⟩
 |tup xs=>obtain⟨_,_,_,ob,e,_⟩:=x;exact⟨_,e⟩
 |dK kvs=>obtain⟨_,_,_,_,ob,_,_,e,_⟩:=x;exact⟨_,e⟩
 |dT kvs=>obtain⟨_,_,_,_,ob,_,_,e,_⟩:=x;exact⟨_,e⟩
 |set S n=>obtain⟨ob,_,_,_,e,_⟩:=x;exact⟨_,e⟩
 |ins C dx fs=>obtain⟨_,_,_,e,_⟩:=x;exact⟨_,e⟩
 |own y=>exact x
 |xd fs=>obtain⟨_,⟨_,_,_,e,_⟩,_⟩:=x;exact⟨_,e⟩
 |rng lo hi=>obtain⟨_,_,_,e⟩:=x;exact⟨_,e⟩
 |frz ob u=>obtain⟨e,_⟩:=x;exact⟨_,e⟩
 |tbl ps=>exact⟨_,x⟩
 |met f y=>exact⟨_,x⟩
 |ext φ=>exact x.2.1
theorem Un.fly(u:Un fs [] H H' h h1)(b1:B.StaysIn h1)(b2:B.StaysIn h2)(old:∀b o,h.get? b=some o->b∉fs->∃o',B.get? b=some o')(up:h1.UpToSlots h2)
  (fr:∀b∈fs,∀o,h1.get? b=some o->∀vs,o.data≠.fields vs):Un fs [] H H' h h2 where
 keep:=λb o e n nf nx=>by obtain⟨o',e'⟩:=old b o e nf;have q:=b1 b o' e';rw[u.keep b o e n nf nx]at q;cases q;exact b2 b o e'
 slot:=λb o e n hb nx=>by obtain⟨sl,q⟩:=u.slot b o e n hb nx;obtain⟨sl',q'⟩:=up b _ q (fr b hb _ q);exact⟨sl',q'⟩
 free:=u.free
 there:=λb o e nx=>by
  by_cases hb:b∈fs
  .obtain⟨o1,q⟩:=u.there b o e nx;obtain⟨sl,q'⟩:=up b o1 q (fr b hb o1 q);exact⟨_,q'⟩
  .obtain⟨o',e'⟩:=old b o e hb;exact⟨o',b2 b o' e'⟩
 tups:=u.tups
 frzs:=u.frzs
 tbls:=u.tbls
theorem HOk.fly(k:HOk P w H' h1)(b1:B.StaysIn h1)(b2:B.StaysIn h2)(tr:∀b u,H' b=some u->∃o',B.get? b=some o'):HOk P w H' h2:=λa o e=>
 (k a o e).stay (λb u hb q=>by
  have:∃v,H' b=some v:=hb.elim (λz=>⟨o,z▸e⟩) λz=>⟨_,z⟩;obtain⟨v,hv⟩:=this;obtain⟨o',e'⟩:=tr b v hv;have q':=b1 b o' e';rw[q]at q';cases q'
  exact b2 b u e') (λ_ z=>z) λ_ _ z=>z
theorem gD{ea:Addr}{cls a0:Value}(f:Heap.FlyingW B l ea cls a0 h1):∀b∈frs l,∀o,h1.get? b=some o->∀vs,o.data≠.fields vs:=λb hb o e=>by obtain⟨_,o',e',z⟩:=f.2.2.1.mem hb;rw[e]at e';cases e';exact z
end
section
variable{X:Cx}{pins:List (Addr×Obj)}{σ:St}{H:Hp}{s s':Shared}{E:XK}{e:Value}
theorem Inv.old(I:Inv X pins σ H s)(hex:X.ex=[])(hf:X.stack=X.env::X.outer/\X.env.frame=some X.env.locals){B:Heap}(hB:∀b o,s.heap.get? b=some o->b∉frs X.stack->∃o',B.get? b=some o'):
  ∀b o,X.s₀.heap.get? b=some o->b∉X.fs->∃o',B.get? b=some o':=λb o q n=>by
 obtain⟨o1,q1⟩:=I.base.there b o q (by rw[hex];exact λz=>nomatch z)
 refine hB b o1 q1 λz=>?_;rcases Jq.mp (I.stkSub b z) with z|z
 .exact absurd (Y1 (Jn q) (z▸I.ok.above)) (Wn _)
 .exact n z
theorem xl{E':Value->Shared->Prop}(I:Inv X pins σ H s)(hex:X.ex=[])(hf:X.stack=X.env::X.outer/\X.env.frame=some X.env.locals)(c:CX1 X.prog X.w X.stack H s E e s'):
  wpAny (model X.prog X.w) X.A («leaving» X.env e) (λ_ s''=>CX1 X.prog X.w X.outer X.H₀ X.s₀ E e s'') E' s':=by
 obtain⟨ea,cls,H',rfl,os,bare,un,hok,⟨B,a0,fl,old,tr,zt⟩,hE⟩:=c
 have J:Inv X pins σ H' s':=I.call' os un hok bare (λb z=>nomatch z)
 rw[hf.1]at fl
 refine yM (by rw[I.ok.frames,hf.1]) hf.2 fl zt λh' x1 x2 x3=>?_
 have hb:=J.base;rw[hex]at hb;have ol:=I.old hex hf old
 exact⟨ea,cls,H',rfl,J.os,bare,Un.fly hb fl.1 x1.1 ol x2 (λb hb=>gD fl b (Wp.mpr (by
   obtain⟨en,he,hfr⟩:=Wp.mp hb
   exact⟨en,Y4 _ he,hfr⟩))),HOk.fly hok fl.1 x1.1 tr,⟨B,a0,x1,ol,tr,x3⟩,hE⟩
theorem leave_new{E':Value->Shared->Prop}{ea:Addr}{cls:Value}{args:List Value}{h':Heap}(I:Inv X pins σ H s)(hex:X.ex=[])(hf:X.stack=X.env::X.outer/\X.env.frame=some X.env.locals)(hx:Heap.MadeExcOf s.heap h' ea cls args)
  (hE:E cls none H):wpAny (model X.prog X.w) X.A («leaving» X.env (.ref ea)) (λ_ s''=>CX1 X.prog X.w X.outer X.H₀ X.s₀ E (.ref ea) s'') E' { s with heap:=h' }:=by
 have hin:∀en∈X.stack,∀a,en.frame=some a->a∈frs X.stack:=λen he a ha=>Wp.mpr ⟨en,he,ha⟩;have st:(hideAll s.heap (frs X.stack)).StaysIn s.heap:=λb o q=>of_hideAll _ q;have old:∀b o,s.heap.get? b=some o->b∉frs X.stack->∃o',(hideAll s.heap (frs X.stack)).get? b=some o':=λb o q n=>⟨o,hideAll_get _ q n⟩;have ff:=funFrames_hide I.stack hin
 have tr:∀b u,H b=some u->∃o',(hideAll s.heap (frs X.stack)).get? b=some o':=λb u e=>by
  have hlt:=(I.hok b u e).lt;obtain⟨o,q⟩:∃o,s.heap.get? b=some o:=(I.hok b u e).thereO
  exact old b o q λz=>by rw[I.stkFree b z]at e;cases e
 have hfr:X.A.frames=some (X.env::X.outer):=by rw[I.ok.frames,hf.1]
 rw[hf.1]at ff
 have ff':s.heap.FunFrames (hideAll s.heap (frs X.stack)) (X.env::X.outer):=by rw[hf.1];exact ff
 refine pA (s:={ s with heap:=h' }) hfr hf.2 st ff' hx λh'' t x1 x4 zt=>?_
 have hb:=I.base;rw[hex]at hb;have ol:=I.old hex hf old;have up:s.heap.UpToSlots h'':=(Heap.UpToSlots.of_keeps hx.keeps).trans x4;refine⟨ea,cls,H,rfl,I.os,I.bare,Un.fly hb st x1.1 ol up (λb hb o q=>?_),HOk.fly I.hok st x1.1 tr,⟨_,_,x1,ol,tr,zt⟩,hE⟩;obtain⟨_,o',e',z⟩:=I.funs.mem hb;rw[q]at e';cases e';exact z
end
end L2
namespace PD
open PySem PySem.Spec PyProof.Rows L2
section
variable{X:Cx}{E:XK}
theorem az.nx{A B:Type}{K:Frag}{rel:Wd->Hp->A->B->Prop}{w:Wd}{H:Hp}{r:R A}{Q:B->Hp->Prop}(h:az K E rel w H r.nx Q):az K E0 rel w H r Q:=by
 cases r with
 |ok a S=>exact h
 |err x S=>exact h.elim
 |bad=>exact h
theorem Ce{st:Stmt}{t:TS}(h:PS X.nox st t):PS X st t:=λpins s σ H D I hw=>Zk (h pins s σ H D (I.wish _) hw) (λ_ _ q=>q.unwish) λ_ _ z=>False.elim z
theorem tS{e:Expr}{m:TM}(h:ST X.nox E0 e m):ST X E e (tNx m):=⟨kK h.out.nox λs H Q zq=>ex6 zq λw r S hr hS hp=>⟨w,r,S,hr,hS,hp.nx⟩⟩
theorem nA{e:Stmt}{m:SM}(h:SS X.nox E0 e m):SS X E e (sNx m):=⟨fN (Ce h.out) λD s H zq=>ex6 zq λw r S hr hS hp=>⟨w,r,S,hr,hS,hp.nx⟩⟩
end
variable{st:Stmt}{x:Str}{f:Addr}{fd:FuncData}
abbrev veMro:List Value:=[.type "ValueError",.type "Exception",.type "BaseException",.type "object"]
structure XC(K:Frag)(mg:Str->Option Value)(x:Str):Prop where
 ex:∃C,mg x=some (.ref C)/\nsIn K mainGlobals x=some (some (.ref C))/\excIn K C veMro "ValueError.__new__" = true
theorem zA{K:Frag}{h:Heap}{C:Addr}{bmB:List Value}{newId:String}(X:K.In h)(q:excIn K C bmB newId=true):
  ∃bm N nm qn bs hdct sn sub ab col dd k0 k1 k2 k3 k5 mN,h.get? C=some (excClassObj nm qn C N bs bm hdct sn sub ab col dd k0 k1 k2 k3 k5 newId)/\h.Ns N mN/\mN "__init__" = none/\OwnTail h bmB bm:=by
 unfold excIn at q;split at q
 next dd cd sl ho=>
  split at q
  next C' bm k0 k1 k2 k3 n k5 hm hs=>
   simp only[Yd,beq_iff_eq,Bool.not_eq_true']at q;have g1:C'=C:=q.1.1.1.1.1;have g2:n=newId:=q.1.1.1.1.2;have g3:cd.hasDel=false:=q.1.1.1.2;have ho':=X _ _ ho;have e2:sl = #[k0,k1,k2,k3,some (.builtin n),k5]:=Array.ext' hs;refine⟨bm,cd.ns,cd.name,cd.qualname,cd.bases,cd.hasDict,cd.slotNames,cd.subclasses,cd.abstract,cd.collection,dd,k0,k1,k2,k3,k5,h.nsMap cd.ns,?_,.of_isNs (isNs_of_in X q.1.2),nsMap_none_of_in X q.1.2 q.2,tail_of_in X q.1.1.2⟩;rw[ho',e2,<- g2]
   have e3:cd={ name:=cd.name,bases:=cd.bases,mro:=.ref C::bm,ns:=cd.ns,qualname:=cd.qualname,hasDict:=cd.hasDict,slotNames:=cd.slotNames,subclasses:=cd.subclasses,abstract:=cd.abstract,collection:=cd.collection,hasDel:=false }:=by rw[<- g1,<- hm,<- g3]
   exact Q7 (λz=>some ({ cls:=.type "type",dict:=dd,data:=.cls z,slots:=#[k0,k1,k2,k3,some (.builtin n),k5] }:Obj)) e3
  next=>cases q
 next=>cases q
def Raises(X:Cx)(E:XK):Prop:=∀(pins:List (Addr×Obj))(σ:L2.St)(H:Hp)(s:Shared)(h':Heap)(ea:Addr)(cls:Value)(args:List Value),Inv X pins σ H s->Heap.MadeExcOf s.heap h' ea cls args->E cls none H->X.xe (.ref ea) { s with heap:=h' }
section
variable{X:Cx}{E:XK}{x:Str}{a:Expr}{es:List Expr}{ms:AM}{np cpos pos:Pos}
theorem lM(hX:XC X.K X.mg x)(hR:Raises X E)(hh:X.A.handled=none)(hg:Gl X x)(ha:SA X E (a::es) ms)(hdb:autoParam ((x == ("__debug__":Str))=false) zz3._auto_1)
  (he:autoParam (starEach (a::es) X.env=(false,eval a X.env)::starEach es X.env) zz0._auto_1) (hpl:autoParam ((backTo cpos (starEach es X.env)).any (·.1)=false) zz0._auto_1):
  SS X E (.Raise (some (.Call (.Name x np) (a::es) [] cpos)) none pos) (jY x ms):=⟨by
 intro pins s σ H D I ⟨w,r,S,hr,hS,hp⟩;obtain⟨C,hm,hns,hq⟩:=hX.ex;obtain⟨tl,N,nm,q,bs,hdct,sn,sub,ab,col,dd,k0,k1,k2,k3,k5,mN,hC,hN,hni,T⟩:=zA I.ok.mod.kin hq;refine wpAny_Raise_call_subT (bm:=tl) (C:=C) (N:=N) (nm:=nm) (q:=q) (bs:=bs) (hdct:=hdct) (sn:=sn) (sub:=sub) (ab:=ab) (col:=col) (dd:=dd) (k0:=k0) (k1:=k1) (k2:=k2) (k3:=k3) (k5:=k5)
  PySem.F.excBase_ValueError (mN:=mN) (T.hasType PySem.F.excBase_ValueError.hasBase) hh (by rw[he];show(false||(backTo cpos (starEach es X.env)).any (·.1))=false;rw[hpl];rfl) hni (je I hg hm ⟨rfl,?_⟩ hdb)
 have h:=ha.out cpos pins s σ H (λvs H1=>vs.length<=sizeLine/\E (.ref C) none H1) I ⟨w,r,S,hr,hS,hp.bind hS λxs S1 w1 H1 vs x1 q1 s1 p1=>by
  by_cases hl:xs.length<=sizeLine
  .rw[Je hl]at p1
   exact⟨by rw[q1.length];exact hl,p1 w1 H1 (.ref C) none (Ext.refl _ _) s1 hns⟩
  .rw[Ji hl]at p1;exact p1.elim⟩
 rw[he]at h ⊢;refine U6 (Zk h (λus s₂ h₂=>?_) λ_ _ y=>y);obtain⟨vs,H1,I1,rv,hl,hE⟩:=h₂
 exact⟨rfl,by rw[<- rv.length];exact hl,I1.bk _ _ hC,hN.keeps I1.bk,T.keeps I1.bk,λh' e hm=>hR pins σ H1 s₂ h' e _ _ I1 hm hE⟩⟩
end
section
variable{P:Program}{w:World}{K:Frag}{mg:Str->Option Value}{base:Heap}{N:List Str}{qual:Str}{scope:Scope}{f:Addr}{cdv:Value}{A:Around}{outer:List Env}{s:Shared}{H:Hp}{E:XK}
theorem eG:Passes (CX1 P w) (jX (CX1 P w) P w K mg base N qual scope f cdv A outer s H E) E:=λpins σ H' s' e s'' I c=>xl I rfl ⟨rfl,rfl⟩ c
theorem kc:Raises (jX (CX1 P w) P w K mg base N qual scope f cdv A outer s H E) E:=λpins σ H' s' h' ea cls args I hx hE=>leave_new I rfl ⟨rfl,rfl⟩ hx hE
theorem vv{X:Cx}:Passes (CX1 X.prog X.w) X E0:=λ_ _ _ _ _ _ _ zq=>by obtain⟨_,_,_,_,_,_,_,_,_,z⟩:=zq;exact z.elim
end
noncomputable def spN(K:Frag)(n:Nat)(f:FM):Sp:=λvs H Q _=>vs.length=n/\∃w S ds,RS K w H S/\RDs K w H ds vs/\az K E0 (RD K) w H (f ds S) Q
structure DefN(P:Program)(w:World)(K:Frag)(mg:Str->Option Value)(base:Heap)(x:Str)(k n:Nat)(f:FM):Prop where
 ex:∃(fa:Addr)(fd:FuncData)(ps:List Str),mg x=some (.ref fa)/\keepIn K (.ref fa)=true/\Binds K fd ps []/\FnOk P w K mg base (CX1 P w) k fa fd ps (spN K n f)
structure DefR(P:Program)(w:World)(K:Frag)(mg:Str->Option Value)(base:Heap)(x:Str)(k n:Nat)(f:FM):Prop where
 ex:∃(fa:Addr)(fd:FuncData)(ps:List Str),mg x=some (.ref fa)/\keepIn K (.ref fa)=true/\Binds K fd ps []/\FnOk P w K mg base (CX1 P w) k fa fd ps (spM K n f)
section
variable{X:Cx}{E:XK}{x:Str}{k n:Nat}{f:FM}{a:Expr}{es:List Expr}{ms:AM}{p pos:Pos}
theorem gE(D:DefR X.prog X.w X.K X.mg X.base x k n f)(hx:Passes (CX1 X.prog X.w) X E)(hr:Room k X.A)(hg:Gl X x)(ha:SA X E (a::es) ms)(hn:vt ms n)(hdb:autoParam ((x == ("__debug__":Str))=false) zz3._auto_1)
  (he:autoParam (starEach (a::es) X.env=(false,eval a X.env)::starEach es X.env) zz0._auto_1) (hpl:autoParam ((backTo pos (starEach es X.env)).any (·.1)=false) zz0._auto_1):
  SE X E (.Call (.Name x p) (a::es) [] pos) (aA f ms):=by
 obtain⟨fa,fd,ps,hm,hk,hb,F⟩:=D.ex;exact zr F hr hg hm hk hb hx ha hn hdb he hpl
theorem bq(D:DefN X.prog X.w X.K X.mg X.base x k n f)(hr:Room k X.A)(hg:Gl X x)(ha:SA X E0 (a::es) ms)(hn:vt ms n)(hdb:autoParam ((x == ("__debug__":Str))=false) zz3._auto_1)
  (he:autoParam (starEach (a::es) X.env=(false,eval a X.env)::starEach es X.env) zz0._auto_1) (hpl:autoParam ((backTo pos (starEach es X.env)).any (·.1)=false) zz0._auto_1):
  SE X E0 (.Call (.Name x p) (a::es) [] pos) (aA f ms):=by
 obtain⟨fa,fd,ps,hm,hk,hb,F⟩:=D.ex;refine⟨aR (tu F hr hg hm hk hb (dvs:=[]) .nil vv ha.out hdb he hpl) λs H Q zq=>?_⟩;obtain⟨w,r,S,hr,hS,hp⟩:=zq;refine⟨w,r,S,hr,hS,?_⟩;have hp':az X.K E0 (RD X.K) w H ((ms r S).bind λxs S1=>f xs S1) Q:=hp;cases e:ms r S with
 |bad=>rw[e]at hp';exact hp'.elim
 |err y S'=>rw[e]at hp';exact hp'
 |ok ds S'=>
  rw[e]at hp';intro w1 H1 vs x1 q1 s1;rw[Ym]
  exact⟨by rw[q1.length];exact hn r S ds S' e,w1,S',ds,s1,q1,az.ext (r:=f ds S') hp' x1 hS s1⟩
end
section
variable{P:Program}{w:World}{K:Frag}{mg:Str->Option Value}{base:Heap}
theorem Cf{qual:Str}{N ps:List Str}{k:Nat}{m:SM}(F:Fun K x qual st f fd)(S:FnScope N ps (defScope st))
  (hbody:∀(cdv:Value)(A:Around)(outer:List Env)(s:Shared)(H:Hp)(E:XK),Room k (A.deeper (envOfC qual (defScope st) s.heap.objs.size f cdv))->
   SSs (jX (CX1 P w) P w K mg base N qual (defScope st) f cdv A outer s H E) E (defBody st) m):FnOk P w K mg base (CX1 P w) (k+1) f fd ps (spM K ps.length (fnM N.length m)):=by
 obtain⟨oc,od,kV,doc,pm,an,cdv,ct,osl,rfl,lk,hcd⟩:=F.ex;refine AO lk hcd S (λvs H Q E h=>h.1) λA outer s H vs Q E hr h=>?_;obtain⟨hl,u,T,ds,hT,q,p⟩:=h;refine⟨_,(hbody cdv A outer s H E hr).out,u,_,T,j0 q,hT,?_⟩;refine az.bind (rel:=RF K) p hT λg S1 w1 H1 fv x1 q1 s1 p1=>?_;cases g with
 |nx r=>obtain⟨s',rfl,_⟩:=q1;have z:=az.ret (Q:=Q) (rel:=RD K) (a:=D.non) (b:=V.non) p1 (by unfold RD;rfl) s1;exact z
 |rt d=>obtain⟨v,rfl,q2⟩:=q1;have z:=az.ret (Q:=Q) (rel:=RD K) (a:=d) (b:=v) p1 q2 s1;exact z
 |bk r=>exact p1.elim
 |ct r=>exact p1.elim
theorem xm{qual:Str}{N ps:List Str}{k:Nat}{m:SM}(F:Fun K x qual st f fd)(S:FnScope N ps (defScope st))
  (hbody:∀(cdv:Value)(A:Around)(outer:List Env)(s:Shared)(H:Hp)(E:XK),Room k (A.deeper (envOfC qual (defScope st) s.heap.objs.size f cdv))->
   SSs (jX (CX1 P w) P w K mg base N qual (defScope st) f cdv A outer s H E).nox E0 (defBody st) m):FnOk P w K mg base (CX1 P w) (k+1) f fd ps (spN K ps.length (fnM N.length m)):=by
 obtain⟨oc,od,kV,doc,pm,an,cdv,ct,osl,rfl,lk,hcd⟩:=F.ex;refine AO lk hcd S (λvs H Q E h=>h.1) λA outer s H vs Q E hr h=>?_;obtain⟨hl,u,T,ds,hT,q,p⟩:=h;refine⟨_,(hbody cdv A outer s H E hr).out.nox,u,_,T,j0 q,hT,?_⟩;refine az.bind (rel:=RF K) p hT λg S1 w1 H1 fv x1 q1 s1 p1=>?_;cases g with
 |nx r=>obtain⟨s',rfl,_⟩:=q1;have z:=az.ret (Q:=Q) (rel:=RD K) (a:=D.non) (b:=V.non) p1 (by unfold RD;rfl) s1;exact z
 |rt d=>obtain⟨v,rfl,q2⟩:=q1;have z:=az.ret (Q:=Q) (rel:=RD K) (a:=d) (b:=v) p1 q2 s1;exact z
 |bk r=>exact p1.elim
 |ct r=>exact p1.elim
theorem gF{m:SM}(N ps:List Str)(k k1 n0 n1:Nat)(hk:k1=k+1)(h0:n0=ps.length)(h1:n1=N.length)(F:Fun K x x st f fd)(hm:mg x=some (.ref f))(hb:Binds K fd ps [])(S:FnScope N ps (defScope st))
  (hbody:∀(cdv:Value)(A:Around)(outer:List Env)(s:Shared)(H:Hp)(E:XK),Room k (A.deeper (envOfC x (defScope st) s.heap.objs.size f cdv))->
   SSs (jX (CX1 P w) P w K mg base N x (defScope st) f cdv A outer s H E) E (defBody st) m):DefR P w K mg base x k1 n0 (fnM n1 m):=by
 subst hk h0 h1;exact⟨f,fd,ps,hm,F.kp,hb,Cf F S hbody⟩
theorem bU{m:SM}(N ps:List Str)(k k1 n0 n1:Nat)(hk:k1=k+1)(h0:n0=ps.length)(h1:n1=N.length)(F:Fun K x x st f fd)(hm:mg x=some (.ref f))(hb:Binds K fd ps [])(S:FnScope N ps (defScope st))
  (hbody:∀(cdv:Value)(A:Around)(outer:List Env)(s:Shared)(H:Hp)(E:XK),Room k (A.deeper (envOfC x (defScope st) s.heap.objs.size f cdv))->
   SSs (jX (CX1 P w) P w K mg base N x (defScope st) f cdv A outer s H E).nox E0 (defBody st) m):DefN P w K mg base x k1 n0 (fnM n1 m):=by
 subst hk h0 h1;exact⟨f,fd,ps,hm,F.kp,hb,xm F S hbody⟩
theorem zB{m:SM}(N ps:List Str)(k k1 n0 n1:Nat)(hk:k1=k+1)(h0:n0=ps.length)(h1:n1=N.length)(F:Fun K x x st f fd)(S:FnScope N ps (defScope st))
  (hbody:∀(cdv:Value)(A:Around)(outer:List Env)(s:Shared)(H:Hp)(E:XK),Room k (A.deeper (envOfC x (defScope st) s.heap.objs.size f cdv))->
   SSs (jX (CX1 P w) P w K mg base N x (defScope st) f cdv A outer s H E).nox E0 (defBody st) m):FnOk P w K mg base (CX1 P w) k1 f fd ps (spN K n0 (fnM n1 m)):=by
 subst hk h0 h1;exact xm F S hbody
end
end PD
namespace L2
open PySem PySem.Spec PyProof.Rows
section
variable{X:Cx}{pins:List (Addr×Obj)}{σ:St}{H:Hp}{s:Shared}
noncomputable abbrev Cx.with(X:Cx)(p:List (Addr×Obj))(W:Value->Shared->Prop):Cx:={ X with pn:=p,xe:=W }
noncomputable abbrev Cx.suite(X:Cx)(ea:Addr)(ho:HO):Cx:={ X with A:=X.A.mark (some (.ref ea)),calm:=false,xe:=λ_ _=>False,H₀:=upd X.H₀ ea ho }
theorem Cx.Ok.with{p:List (Addr×Obj)}{W:Value->Shared->Prop}(ok:X.Ok):(X.with p W).Ok:=⟨ok.mod,ok.kind,ok.glob,ok.blt,ok.above,ok.inj,ok.has,ok.cab,ok.hd,ok.frames,ok.stk,ok.exf,ok.bs,ok.bsz,ok.noex,ok.exfs,ok.funs,ok.frf⟩
theorem Cx.Ok.suite{ea:Addr}{ho:HO}(ok:X.Ok)(n0:X.s₀.heap.get? ea=none):(X.suite ea ho).Ok:=⟨ok.mod,ok.kind,ok.glob,ok.blt,ok.above,ok.inj,ok.has,ok.cab,(λz=>by cases z),ok.frames,ok.stk,ok.exf,
 λb o e=>⟨(ok.bs b o e).1,by
  have q:=(ok.bs b o e).1;show upd X.H₀ ea ho b=none
  rw[ax (λz=>by rw[z,n0]at q;cases q)]
  exact(ok.bs b o e).2⟩,ok.bsz,ok.noex,ok.exfs,ok.funs,λb hb=>by
  obtain⟨_,o,q,_⟩:=ok.funs.mem hb;show upd X.H₀ ea ho b=none
  rw[ax (λz=>by rw[z,n0]at q;cases q)]
  exact ok.frf b hb⟩
theorem Inv.with{W:Value->Shared->Prop}(I:Inv X pins σ H s):Inv (X.with (X.pn++pins) W) [] σ H s:=
 ⟨I.ok.with,I.os,I.bare,I.base,I.loc,I.cell,I.free,I.freeC,λp hp=>I.pin p (by simpa using hp),I.hok,I.len⟩
theorem Inv.unwith{W:Value->Shared->Prop}{pins':List (Addr×Obj)}(ok:X.Ok)(I:Inv (X.with (X.pn++pins) W) pins' σ H s):Inv X pins σ H s:=
 ⟨ok,I.os,I.bare,I.base,I.loc,I.cell,I.free,I.freeC,λp hp=>I.pin p (Qh _ hp),I.hok,I.len⟩
theorem Inv.suite{ea:Addr}{o:Obj}{u:HO}(I:Inv X pins σ H s)(n0:X.s₀.heap.get? ea=none)(hH:H ea=some (.frz o u)):Inv (X.suite ea (.frz o u)) pins σ H s:=by
 have ne:∀b q,X.s₀.heap.get? b=some q->b≠ea:=λb q e z=>by rw[z,n0]at e;cases e
 have old:∀b q,X.s₀.heap.get? b=some q->upd X.H₀ ea (.frz o u) b=none->X.H₀ b=none:=λb q e n=>by rw[ax (ne b q e)]at n;exact n
 refine⟨I.ok.suite n0,I.os,I.bare,⟨λb q e n=>I.base.keep b q e (old b q e n),λb q e n=>I.base.slot b q e (old b q e n),λb q e n=>I.base.free b q e (old b q e n),I.base.there,λb xs e=>?_,λb q v e=>?_,λb ps e=>?_⟩,I.loc,I.cell,I.free,I.freeC,I.pin,I.hok,I.len⟩
 .by_cases z:b=ea
  .rw[z]at e;have e:upd X.H₀ ea (.frz o u) ea=_:=e;rw[aC]at e;cases e
  .have e:upd X.H₀ ea (.frz o u) b=_:=e;rw[ax z]at e;exact I.base.tups b xs e
 .by_cases z:b=ea
  .rw[z]at e ⊢;have e:upd X.H₀ ea (.frz o u) ea=_:=e;rw[aC]at e;rw[<- e];exact hH
  .have e:upd X.H₀ ea (.frz o u) b=_:=e;rw[ax z]at e;exact I.base.frzs b q v e
 .by_cases z:b=ea
  .rw[z]at e;have e:upd X.H₀ ea (.frz o u) ea=_:=e;rw[aC]at e;cases e
  .have e:upd X.H₀ ea (.frz o u) b=_:=e;rw[ax z]at e;exact I.base.tbls b ps e
theorem Inv.unsuite{ea:Addr}{ho:HO}(ok:X.Ok)(n0:X.s₀.heap.get? ea=none)(n1:∀v,X.H₀ ea=some v->(∀xs,v≠.tup xs)/\(∀q w,v≠.frz q w)/\∀ps,v≠.tbl ps)(I:Inv (X.suite ea ho) pins σ H s):Inv X pins σ H s:=by
 have ne:∀b q,X.s₀.heap.get? b=some q->b≠ea:=λb q e z=>by rw[z,n0]at e;cases e
 have new:∀b q,X.s₀.heap.get? b=some q->X.H₀ b=none->upd X.H₀ ea ho b=none:=λb q e n=>by rw[ax (ne b q e)];exact n
 refine⟨ok,I.os,I.bare,⟨λb q e n=>I.base.keep b q e (new b q e n),λb q e n=>I.base.slot b q e (new b q e n),λb q e n=>I.base.free b q e (new b q e n),I.base.there,λb xs e=>I.base.tups b xs ?_,λb q v e=>I.base.frzs b q v ?_,λb ps e=>I.base.tbls b ps ?_⟩,I.loc,I.cell,I.free,I.freeC,I.pin,I.hok,I.len⟩
 .show upd X.H₀ ea ho b=_
  rw[ax (λz=>by rw[z]at e;exact(n1 _ e).1 _ rfl)];exact e
 .show upd X.H₀ ea ho b=_
  rw[ax (λz=>by rw[z]at e;exact(n1 _ e).2.1 _ _ rfl)];exact e
 .show upd X.H₀ ea ho b=_
  rw[ax (λz=>by rw[z]at e;exact(n1 _ e).2.2 _ rfl)];exact e
end
section
variable{X:Cx}{pins:List (Addr×Obj)}{σ:St}{H H':Hp}{s s':Shared}{B:Heap}{ea:Addr}{cls a0:Value}{h2:Heap}
theorem zC{l:List Env}{h:Heap}(fl:Heap.FlyingW B l ea cls a0 s'.heap)(old:∀b o,h.get? b=some o->b∉frs l->∃o',B.get? b=some o')(tr:∀b u,H' b=some u->∃o',B.get? b=some o'):h.get? ea=none/\H' ea=none:=by
 have hB:=fl.2.1;constructor
 .cases e:h.get? ea with
  |none=>rfl
  |some o=>
   exfalso;by_cases hb:ea∈frs l
   .obtain⟨oe,vs,e1,_,d1,_⟩:=fl.first;exact gD fl ea hb oe e1 vs d1
   .obtain⟨o',e'⟩:=old ea o e hb;rw[hB]at e';cases e'
 .cases e:H' ea with
  |none=>rfl
  |some u=>
   obtain⟨o',e'⟩:=tr ea u e;rw[hB]at e';cases e'
theorem vw{l:List Env}{P:Program}{w:World}{h h1:Heap}(fl:Heap.FlyingW B l ea cls a0 h1)(old:∀b o,h.get? b=some o->b∉frs l->∃o',B.get? b=some o')(tr:∀b u,H' b=some u->∃o',B.get? b=some o')
  (hn:h.get? ea=none) (hn':H' ea=none) (u:Un (frs l) [] H H' h h1) (k:HOk P w H' h1) {ob:Obj} (hob:h1.get? ea=some ob):
  Un (frs l) [] H (upd H' ea (.frz ob (.ext (PD.ExcAt ea cls)))) h h1/\HOk P w (upd H' ea (.frz ob (.ext (PD.ExcAt ea cls)))) h1:=by
 have ne:∀b o,h.get? b=some o->b≠ea:=λb o e z=>by rw[z,hn]at e;cases e
 have ne':∀b v,H' b=some v->b≠ea:=λb o e z=>by rw[z,hn']at e;cases e
 refine⟨⟨u.keep,u.slot,λb o e n x=>by rw[ax (ne b o e)];exact u.free b o e n x,u.there,λb xs e=>?_,λb o v e=>?_,λb ps e=>?_⟩,λb v e=>?_⟩
 .have:=u.tups b xs e;rw[ax (ne' _ _ this)];exact this
 .have:=u.frzs b o v e;rw[ax (ne' _ _ this)];exact this
 .obtain⟨m,this⟩:=u.tbls b ps e;exact⟨m,by rw[ax (ne' _ _ this)];exact this⟩
 .by_cases hb:b=ea
  .subst hb;rw[aC]at e;cases e;obtain⟨o,e1,c1⟩:=fl.there;exact⟨hob,⟨o,e1,c1⟩,⟨o,e1⟩,λg1 g2 ⟨o1,z1,z2⟩ kk=>⟨o1,kk o1 z1,z2⟩⟩
  .rw[ax hb]at e
   exact(k b v e).stay (λ_ _ _ q=>q) (λc q=>by rw[ax (ne' c _ q)];exact q) λc xs q=>by rw[ax (ne' c _ q)];exact q
end
variable{A:Around}
structure RoomM(k:Nat)(A:Around):Prop where
 dp:A.depth+3*k+5<recursionLimit
 un:A.units+16*k+200<cLine
 gd:A.guards=some []
theorem Room.m{k:Nat}(r:Room k A):RoomM k A:=⟨r.dp,r.un,r.gd⟩
theorem RoomM.mono{j k:Nat}(r:RoomM k A)(h:j<=k):RoomM j A:=⟨by have:=r.dp;omega,by have:=r.un;omega,r.gd⟩
theorem RoomM.mark{k:Nat}(r:RoomM k A)(e:Option Value):RoomM k (A.mark e):=⟨r.dp,r.un,r.gd⟩
theorem RoomM.deeper{k:Nat}(r:RoomM (k+1) A)(env:Env):RoomM k (A.deeper env):=
 ⟨by have:=r.dp;show A.depth+1+3*k+5<_;omega,by have:=r.un;show A.units+3+16*k+200<_;omega,r.gd⟩
def QA(A:Around)(H:Hp):Prop:=A.handled=none \/ ∃a o u,A.handled=some (.ref a)/\H a=some (.frz o u)/\ZO o
theorem Inv.qa{X:Cx}{pins:List (Addr×Obj)}{σ:List (Option V)}{H:Hp}{s:Shared}(I:Inv X pins σ H s)(h:QtH X):QA X.A H:=h.imp id λ⟨a,o,u,e,q,z⟩=>⟨a,o,u,e,I.base.frzs a o u q,z⟩
theorem Cd.qt{X:Cx}{qb:Bool}(h:Cd qb X)(n:X.calm=false):QtH X:=h.elim (λz=>by rw[n]at z;cases z) λz=>z.2
structure FnOkM(P:Program)(w:World)(K:Frag)(mg:Str->Option Value)(base:Heap)(k:Nat)(f:Addr)(fd:FuncData)(ps:List Str)(sp:Sp):Prop where
 len:∀vs H Q E,sp vs H Q E->vs.length=ps.length
 run:∀(A:Around)(outer:List Env)(s:Shared)(H:Hp)(args:Args)(us:List Value)(vs:List V)(Q:VK),RoomM k A->QA A H->Env0 P w K mg base A outer s H->BindsTo s fd args (ps.zip us)->Vals vs us->sp vs H Q E0->
  codeAny (model P w) A (.call (.ref f) args) (CR CX0 outer P w H s Q E0) s
noncomputable abbrev cxM(P:Program)(w:World)(K:Frag)(mg:Str->Option Value)(base:Heap)(N:List Str)(qual:Str)(scope:Scope)(f:Addr)(cd:Value)(A:Around)(outer:List Env)(s:Shared)(H:Hp):Cx:=
 { jX CX0 P w K mg base N qual scope f cd A outer s H E0 with calm:=false,xe:=λ_ _=>False }
section
variable{P:Program}{w:World}{K:Frag}{mg:Str->Option Value}{base:Heap}
theorem rY{N ps:List Str}{qual:Str}{scope:Scope}{f:Addr}{cd:Value}{outer:List Env}{s s1:Shared}{H:Hp}{us:List Value}{vs:List V}(S:FnScope N ps scope)(e0:Env0 P w K mg base A outer s H)(hl:vs.length=ps.length)(r:Vals vs us)
  (x:InCallC s s.heap.objs.size (bindL (envOfC qual scope s.heap.objs.size f cd).kindOf (ps.zip us) λ_=>none) (cellsFrom (s.heap.objs.size+1) scope.names []) (bindC (envOfC qual scope s.heap.objs.size f cd).kindOf (ps.zip us) λ_=>none) s1):
  Inv (cxM P w K mg base N qual scope f cd A outer s H) [] (start N vs) H s1:=by
 have e1:Env0 P w K mg base { A with handled:=none } outer s H:=⟨e0.frames,e0.mod,e0.bs,e0.bsz,e0.funs,e0.frf,e0.hok,e0.bare⟩
 have I:=ni (CX:=CX0) (E:=E0) (A:={ A with handled:=none }) S rfl e1 hl r x
 exact⟨⟨I.ok.mod,I.ok.kind,I.ok.glob,I.ok.blt,I.ok.above,I.ok.inj,I.ok.has,I.ok.cab,(λz=>by cases z),I.ok.frames,I.ok.stk,I.ok.exf,I.ok.bs,I.ok.bsz,I.ok.noex,I.ok.exfs,I.ok.funs,I.ok.frf⟩,I.os,I.bare,I.base,I.loc,I.cell,I.free,I.freeC,I.pin,I.hok,I.len⟩
theorem Cg{k:Nat}{f:Addr}{name qual:Str}{params:Arguments}{body:List Stmt}{scope:Scope}{dV kV doc pm cdv ct oc:Value}{an od:Option Addr}
  {osl:Array (Option Value)} {N ps:List Str} {sp:Sp} (lk:K.lookup f=some ⟨oc,od,.func (fnOf name qual params body scope dV kV doc pm an cdv ct),osl⟩) (hcd:codeIn K cdv qual=true) (S:FnScope N ps scope)
  (len:∀vs H Q E,sp vs H Q E->vs.length=ps.length)
  (hbody:∀(A:Around)(outer:List Env)(s:Shared)(H:Hp)(vs:List V)(Q:VK),RoomM k (A.deeper (envOfC qual scope s.heap.objs.size f cdv))->QtH (cxM P w K mg base N qual scope f cdv A outer s H)->sp vs H Q E0->
   ∃t,PSs (cxM P w K mg base N qual scope f cdv A outer s H) body t/\t { nx:=λ_ H'=>Q .non H',rt:=Q } (start N vs) H):
  FnOkM P w K mg base (k+1) f (fnOf name qual params body scope dV kV doc pm an cdv ct) ps sp:=by
 refine⟨len,λA outer s H args us vs Q hr hqa e0 hb r hsp=>?_⟩;have hl:=len _ _ _ _ hsp;have KX:K.In s.heap:=e0.mod.kin.keeps λb o e=>(e0.bs b o e).1;have lim:s.heap.NoLimit:=e0.mod.nolimit.keeps λb o e=>(e0.bs b o e).1
 have hkind:∀y∈ps.zip us,scope.names.lookup y.1=some .local\/(scope.names.lookup y.1=some .cell/\((cellsFrom (s.heap.objs.size+1) scope.names []).lookup y.1).isSome=true):=λ⟨n,v⟩ hy=>by
  rcases S.par n (V8 hy).1 with q|q
  .exact .inl q
  .exact .inr ⟨q,Vr _ _ _ (.inl q)⟩
 refine codeAny_call_function (by have:=hr.dp;omega) (KX _ _ lk) rfl S.co S.gen rfl (codeRec_of KX hcd) (hb _ _ _ _ ?_)
 refine wpAny_newFunctionEnv_cells S.kind hkind λenv he s1 x=>?_;subst he;refine⟨lim.keeps x.toInCall.keep,codeAny_func ?_⟩;obtain⟨t,ht,hq⟩:=hbody A outer s H vs Q (hr.deeper _) hqa hsp;have I:Inv (cxM P w K mg base N qual scope f cdv A outer s H) [] (start N vs) H s1:=rY S e0 hl r x;refine Zk (ht [] s1 (start N vs) H _ I hq) (λfl s' hs=>?_) λe s' hs=>False.elim hs
 have fin:∀{σ':St}{H':Hp}{v:V}{u:Value},Inv (cxM P w K mg base N qual scope f cdv A outer s H) [] σ' H' s'->RelV v u->Q v H'->CE outer P w H s Q u s':=
  λ{σ' H' v u} J rv q=>⟨v,H',J.os,J.bare,J.base,J.hok,rv,q⟩
 cases fl with
 |ret u=>
  obtain⟨v,σ',H',J,rv,q⟩:=hs;exact fin J rv q
 |next=>
  obtain⟨σ',H',J,q⟩:=hs;exact fin (v:=V.non) (u:=Value.none) J rfl q
 |brk=>
  obtain⟨_,_,_,q⟩:=hs;exact False.elim q
 |cont=>
  obtain⟨_,_,_,q⟩:=hs;exact False.elim q
end
section
variable{X:Cx}{k:Nat}{f:Addr}{fd:FuncData}{ps:List Str}{sp:Sp}{x:Str}{p pos:Pos}{e:Expr}{es:List Expr}{t:TA}
theorem xn(F:FnOkM X.prog X.w X.K X.mg X.base k f fd ps sp)(hr:RoomM k X.A)(hqt:QtH X)(hg:Gl X x)(hm:X.mg x=some (.ref f))(hk:keepIn X.K (.ref f)=true)(hb:Binds X.K fd ps [])
  (ha:PA X (e::es) t) (hdb:autoParam ((x == ("__debug__":Str))=false) zz2._auto_1) (he:autoParam (starEach (e::es) X.env=(false,eval e X.env)::starEach es X.env) zz1._auto_1) (hpl:autoParam ((backTo pos (starEach es X.env)).any (·.1)=false) zz1._auto_1):
  PE X (.Call (.Name x p) (e::es) [] pos) (AN sp [] E0 t):=by
 intro pins s σ H Q I h;refine Vb (je I hg hm ?_ hdb);refine callWith_K (h₀:=X.base) I.ok.mod.kin hk (thn (ha pos pins s σ H _ I h) λus s1 zq=>ex5 zq λvs H1 I1 r q=>⟨I1.kIn,?_⟩) he hpl
 have q:sp vs H1 Q E0:=by
  have z:sp (vs++[]) H1 Q E0:=q
  rwa [Ym]at z
 show wpAny _ _ (call (Value.ref f) us) _ _ _
 have hl:us.length=ps.length:=by rw[<- r.length];exact F.len _ _ _ _ q
 have hb':=hb s1 us I1.kIn (by rw[Ym];exact hl)
 rw[Ym]at hb';refine U5 (Qr (F.run X.A X.stack s1 H1 ⟨us,[]⟩ us vs Q hr (I1.qa hqt) I1.env0 hb' r q) λrr s' hq=>?_);cases rr with
 |error e=>exact False.elim hq
 |ok fl=>
  cases fl with
  |ret u=>exact I1.after hq
  |next=>exact False.elim hq
  |brk=>exact False.elim hq
  |cont=>exact False.elim hq
end
end L2
namespace PD
open PySem PySem.Spec PyProof.Rows L2
structure DefM(P:Program)(w:World)(K:Frag)(mg:Str->Option Value)(base:Heap)(x:Str)(k n:Nat)(f:FM):Prop where
 ex:∃(fa:Addr)(fd:FuncData)(ps:List Str),mg x=some (.ref fa)/\keepIn K (.ref fa)=true/\Binds K fd ps []/\FnOkM P w K mg base k fa fd ps (spN K n f)
section
variable{X:Cx}{x:Str}{k n:Nat}{f:FM}{a:Expr}{es:List Expr}{ms:AM}{p pos:Pos}
theorem xo(D:DefM X.prog X.w X.K X.mg X.base x k n f)(hr:RoomM k X.A)(hqt:QtH X)(hg:Gl X x)(ha:SA X E0 (a::es) ms)(hn:vt ms n)(hdb:autoParam ((x == ("__debug__":Str))=false) zz3._auto_1)
  (he:autoParam (starEach (a::es) X.env=(false,eval a X.env)::starEach es X.env) zz0._auto_1) (hpl:autoParam ((backTo pos (starEach es X.env)).any (·.1)=false) zz0._auto_1):
  SE X E0 (.Call (.Name x p) (a::es) [] pos) (aA f ms):=by
 obtain⟨fa,fd,ps,hm,hk,hb,F⟩:=D.ex;refine⟨aR (xn F hr hqt hg hm hk hb ha.out hdb he hpl) λs H Q zq=>?_⟩;obtain⟨w,r,S,hr,hS,hp⟩:=zq;refine⟨w,r,S,hr,hS,?_⟩;have hp':az X.K E0 (RD X.K) w H ((ms r S).bind λxs S1=>f xs S1) Q:=hp;cases e:ms r S with
 |bad=>rw[e]at hp';exact hp'.elim
 |err y S'=>rw[e]at hp';exact hp'
 |ok ds S'=>
  rw[e]at hp';intro w1 H1 vs x1 q1 s1;rw[Ym]
  exact⟨by rw[q1.length];exact hn r S ds S' e,w1,S',ds,s1,q1,az.ext (r:=f ds S') hp' x1 hS s1⟩
end
section
variable{P:Program}{w:World}{K:Frag}{mg:Str->Option Value}{base:Heap}
theorem tT{x:Str}{st:Stmt}{f:Addr}{fd:FuncData}{m:SM}(N ps:List Str)(k k1 n0 n1:Nat)(hk:k1=k+1)(h0:n0=ps.length)(h1:n1=N.length)(F:Fun K x x st f fd)(hm:mg x=some (.ref f))(hb:Binds K fd ps [])(S:FnScope N ps (defScope st))
  (hbody:∀(cdv:Value)(A:Around)(outer:List Env)(s:Shared)(H:Hp),RoomM k (A.deeper (envOfC x (defScope st) s.heap.objs.size f cdv))->QtH (cxM P w K mg base N x (defScope st) f cdv A outer s H)->
   SSs (cxM P w K mg base N x (defScope st) f cdv A outer s H) E0 (defBody st) m):DefM P w K mg base x k1 n0 (fnM n1 m):=by
 subst hk h0 h1;refine⟨f,fd,ps,hm,F.kp,hb,?_⟩;obtain⟨oc,od,kV,doc,pm,an,cdv,ct,osl,rfl,lk,hcd⟩:=F.ex;refine Cg lk hcd S (λvs H Q E h=>h.1) λA outer s H vs Q hr hqt h=>?_;obtain⟨hl,u,T,ds,hT,q,p⟩:=h;refine⟨_,(hbody cdv A outer s H hr hqt).out,u,_,T,j0 q,hT,?_⟩;refine az.bind (rel:=RF K) p hT λg S1 w1 H1 fv x1 q1 s1 p1=>?_;cases g with
 |nx r=>obtain⟨s',rfl,_⟩:=q1;have z:=az.ret (Q:=Q) (rel:=RD K) (a:=D.non) (b:=V.non) p1 (by unfold RD;rfl) s1;exact z
 |rt d=>obtain⟨v,rfl,q2⟩:=q1;have z:=az.ret (Q:=Q) (rel:=RD K) (a:=d) (b:=v) p1 q2 s1;exact z
 |bk r=>exact p1.elim
 |ct r=>exact p1.elim
end
end PD
namespace L2
open PySem PySem.Spec PyProof.Rows
theorem vx:builtinKind "BaseException.__getattribute__" = some .slot:=by decide +kernel
theorem rZ:splitId "BaseException.__getattribute__" = some ("BaseException","__getattribute__"):=by decide +kernel
section
variable{prog:Program}{w:World}{A:Around}{E:Value->Shared->Prop}{s:Shared}{K:Frag}{ea C:Addr}{ox:Obj}{od:Option Obj}
theorem vA{M:Model}{v:Value}{Q:Unit->Shared->Prop}(LI:Looks M s.heap (isInstance (.ref ea) (.type "BaseException")) true)(h:Q () s):wpAny M A (checkBuiltinCall "BaseException.__getattribute__" ⟨[.ref ea,v],[]⟩) Q E s:=by
 obtain⟨hh,g,d,t,os⟩:=s;have ha:=PySem.F.args_bexc_ga (.ref ea) v;simp only[checkBuiltinCall,vx,rZ];refine J9 (LI.at ?_);simp only[Vv,Jy,Yp];cases hsig:Manifest.signature? "BaseException.__getattribute__" with
 |none=>exact Ja h
 |some sig=>
  simp only[argsOk,hsig]at ha;have h2:Bind.checkArgs "BaseException.__getattribute__" sig ⟨[.ref ea,v],[]⟩=pure ():=ha
  show wpAny M A (Bind.checkArgs "BaseException.__getattribute__" sig ⟨[.ref ea,v],[]⟩) Q E _
  rw[h2];exact Ja h
theorem zD{tp:Value}{R:Result->Shared->Prop}(LT:Looks (model prog w) s.heap (typeOf (.ref ea)) (.ref C))(LO:Looks (model prog w) s.heap (isSubtype (.ref C) (.type "object")) true)(hR:R (.ok (.ret (.ref C))) s):
  codeAny (model prog w) A (.call (.builtin "getset_descriptor.__get__") ⟨[.builtin "object.__class__",.ref ea,tp],[]⟩) R s:=by
 obtain⟨hh,g,dr,t,os⟩:=s;have LI:Looks (model prog w) hh (isInstance (.ref ea) (.type "object")) true:=LT.andThen LO
 have ty:(⟨hh,g,dr,t,os⟩:Shared).TypeIs (.builtin "object.__class__") "getset_descriptor":=PySem.F.typeOf_object_class
 refine Wz PySem.F.slot_gs_get.plain PySem.F.entry_gs_get (PySem.F.slot_gs_get.check _ _ _ _ _ _ _ _ ty (PySem.F.args_gs_get _ _ _) ?_)
 repeat (any_goals (first|assumption|(with_reducible refine Looks.at (by assumption) ?_)|wp_step))
 have own:(".".intercalate ("object.__class__".cutAt '.').dropLast) = "object":=by
  have e0:"object.__class__".cutAt '.'=["object","__class__"]:=by first|rfl|decide +kernel
  rw[e0];decide +kernel
 rw[own];refine LO.at ?_;refine Ja ?_
 refine Ja ⟨Vd _ (by decide +kernel),Yy PySem.F.entry_object_class ?_⟩
 repeat (any_goals (first|assumption|(with_reducible refine Looks.at (by assumption) ?_)|wp_step))
theorem vB{Q:Option Value->Shared->Prop}(X:K.In s.heap)(hx:s.heap.get? ea=some ox)(hc:ox.cls=.ref C)(hga:findIn K (.ref C) "__getattribute__" = some (some (.builtin "BaseException.__getattribute__")))
  (hgh:findIn K (.ref C) "__getattr__" = some none) (hf:findIn K (.ref C) "__class__" = some (some (.builtin "object.__class__")))
  (hn:specialIn K (.builtin "object.__class__") "__get__" = some (some (.builtin "getset_descriptor.__get__"))) (htk:takesIn K (.builtin "object.__class__")=some true)
  (hb:mroIn K C (.type "BaseException")=some true) (hm:mroIn K C (.type "object")=some true) (h:Q (some (.ref C)) { s with toks:=s.toks+1 }):wpAny (model prog w) A (getAttr? (.ref ea) "__class__") Q E s:=by
 obtain⟨hh,g,d,t,os⟩:=s;have L0:Looks (model prog w) hh (typeOf (.ref ea)) (.ref C):=hc▸(Gb hx).andThen .now;have L1:=U9 (M:=model prog w) X hga;have L2:=U9 (M:=model prog w) X hgh
 have LF:Looks (model prog w) hh (Builtin.ObjectAttr.find (.ref ea) (.ref C) "__class__") (.bind (.builtin "getset_descriptor.__get__") (.builtin "object.__class__")):=by
  refine(U9 X hf).andThen ((looks_specialIn X hn).andThen (Looks.andThen (a:=some (.builtin "getset_descriptor.__get__",.builtin "object.__class__")) ?_ ?_))
  .exact(looks_takesIn X htk).andThen .now
  .exact Looks.tag .now
 have LB:=looks_mroIn (M:=model prog w) X hb;have LO:=looks_mroIn (M:=model prog w) X hm;have LI:Looks (model prog w) hh (isInstance (.ref ea) (.type "BaseException")) true:=L0.andThen LB
 have f3:=PySem.F.excAttr_ValueError.ga.bind (.ref ea);unfold getAttr? getAttrBy? getAttrBy;refine J9 (wpAny_mkText (J9 ?_));refine Qn (Yi (J9 (L0.at (J9 (L1.at ?_)))));show wpAny _ _ (getAttrByItsOwn _ _ _ _ _ _) _ _ _;unfold getAttrByItsOwn hookBefore;refine J9 ?_;show wpAny _ _ (typeLookup (.ref C) "__getattr__") _ _ _
 refine L2.at ?_;refine J9 (Qn (Yi ?_));show wpAny _ _ (boundAndCalled _ _ _) _ _ _;unfold boundAndCalled;rw[f3];refine J9 (Ja ?_);show wpAny _ _ (call (.builtin "BaseException.__getattribute__") [.ref ea,.str "__class__" t]) _ _ _
 refine U5 (Wz PySem.F.excAttr_ValueError.ga.plain PySem.F.entry_bexc_ga (vA LI ?_));unfold Builtin.«object.__getattribute__»;refine J9 (Ja (J9 (Ja (J9 (L0.at (J9 (LF.at ?_)))))));show wpAny _ _ (holding [.builtin "object.__class__"] (call (.builtin "getset_descriptor.__get__") [.builtin "object.__class__",.ref ea,.ref C]) >>= ret) _ _ _
 refine J9 (Yi (U5 (zD L0 LO ?_)));exact Ja (Ja (Ja h))
structure ExK(K:Frag)(C:Addr):Prop where
 ga:findIn K (.ref C) "__getattribute__" = some (some (.builtin "BaseException.__getattribute__"))
 gh:findIn K (.ref C) "__getattr__" = some none
 cl:findIn K (.ref C) "__class__" = some (some (.builtin "object.__class__"))
 bs:mroIn K C (.type "BaseException")=some true
 ob:mroIn K C (.type "object")=some true
 is:(clsIn K C).isSome=true
theorem ExK.lk(e:ExK K C):∃a b cd d,K.lookup C=some ⟨a,b,.cls cd,d⟩:=by
 have h:=e.is;unfold clsIn at h;split at h
 next a b cd d q=>exact⟨_,_,_,_,q⟩
 next=>cases h
theorem xp(e:ExK K C)(hn:specialIn K (.builtin "object.__class__") "__get__" = some (some (.builtin "getset_descriptor.__get__")))(htk:takesIn K (.builtin "object.__class__")=some true):
  KitX K (.ref ea) (.ref C) (PD.ExcAt ea (.ref C)) where
 ty:=λM h X ⟨o,e1,e2⟩=>e2▸(Gb e1).andThen .now
 it:=λM h X _=>by obtain⟨_,_,_,_,q⟩:=e.lk;intro A' Q' E' s' k z;unfold isType loadHead;exact J9 (wpAny_loadPart (k _ _ (X _ _ q)) (Ja z))
 ne:=λh tp dd its n sl X ht=>by
  obtain⟨_,_,_,_,q⟩:=e.lk;cases hb:(Value.ref C == Value.ref tp) with
  |false=>rfl
  |true=>
   have:C=tp:=Value.ref.inj (beq_iff_eq.mp hb);subst this;have z:=(X _ _ q).symm.trans ht;cases z
 ca:=λX ⟨o,e1,e2⟩ k=>vB X e1 e2 e.ga e.gh e.cl hn htk e.bs e.ob k
end
end L2
namespace PD
open PySem PySem.Spec PyProof.Rows L2
variable{H:Hp}
structure Cls(K:Frag)(cs ks:List Str)(isa:Str->Str->Bool):Prop where
 gt:specialIn K (.builtin "object.__class__") "__get__" = some (some (.builtin "getset_descriptor.__get__"))
 tk:takesIn K (.builtin "object.__class__")=some true
 ex:∀c∈cs,∃C,nsIn K mainGlobals c=some (some (.ref C))/\ExK K C/\kitOne K (.ref C) (.type "ValueError")=some true
 isa:∀c∈cs,∀k∈ks,∃C D,nsIn K mainGlobals c=some (some C)/\nsIn K mainGlobals k=some (some D)/\kitOne K C D=some (isa c k)
noncomputable def kf(cs ks:List Str)(isa:Str->Str->Bool):Sto->List D->Option D
 |S,[.exc c,.cls k]=>if c∈cs/\k∈ks then some (.bl (isa c k)) else none
 |S,[.exc c,.ty T]=>if c∈cs/\T = "ValueError" then some (.bl true) else none
 |S,xs=>di S xs
section
variable{X:Cx}{E:XK}{cs ks:List Str}{isa:Str->Str->Bool}
theorem tU{pins:List (Addr×Obj)}{σ:L2.St}{s:Shared}{w:Wd}{S:Sto}{c:Str}{v:V}{u c2:Value}{b:Bool}{Q:VK}(T:Cls X.K cs ks isa)(I:Inv X pins σ H s)(hc:c∈cs)(q:RD X.K w H (.exc c) v)(rv:RelV v u)(hS:RS X.K w H S)
  (hk:∀C,nsIn X.K mainGlobals c=some (some C)->kitOne X.K C c2=some b) (p:az X.K E (RD X.K) w H (.ok (.bl b) S) Q):wpAny (model X.prog X.w) X.A (call (.builtin "isinstance") [u,c2]) (EP X pins σ Q) X.xe s:=by
 unfold RD at q;obtain⟨a,C,o,rfl,hns,hat⟩:=q;obtain⟨Ca,hns',hE,_⟩:=T.ex c hc;rw[hns]at hns';cases hns'
 cases (show u=Value.ref a from rv)
 have hx:=(I.hok a _ hat.1).2.1
 exact Zc (xp hE T.gt T.tk) I.kIn hx (hk _ hns) (λz=>nomatch z) λtk=>⟨.bl b,H,I.tok tk,rfl,p.ret RD.mkB hS⟩
theorem fH(T:Cls X.K cs ks isa):bI X (.builtin "isinstance") (xC X.K E (kf cs ks isa)):=by
 rintro pins s σ H xs us Q I r ⟨w,S,ds,hS,qs,p⟩;obtain⟨z,hz,p'⟩:=p.of;unfold kf at hz;split at hz
 .rename_i c k;split at hz
  .rename_i h;cases hz;obtain⟨v,u,rfl,q,q'⟩:=qs.two_inv;obtain⟨v1,v2,rfl,rv,rt⟩:=vals2 r;unfold RD at q';obtain⟨C2,hn2,rfl⟩:=q'
   cases (show v2=Value.ref C2 from rt)
   refine tU T I h.1 q rv hS (λC hC=>?_) p';obtain⟨C',D',e1,e2,e3⟩:=T.isa c h.1 k h.2;rw[hC]at e1;rw[hn2]at e2;cases e1;cases e2;exact e3
  .cases hz
 .rename_i c t;split at hz
  .rename_i h;cases hz;obtain⟨v,u,rfl,q,q'⟩:=qs.two_inv;obtain⟨v1,v2,rfl,rv,rt⟩:=vals2 r;unfold RD at q';subst q'
   cases (show v2=Value.type t from rt)
   refine tU T I h.1 q rv hS (λC hC=>?_) p';obtain⟨Ca,hn,_,hv⟩:=T.ex c h.1;rw[hn]at hC;cases hC;rw[h.2];exact hv
  .cases hz
 .exact fY pins s σ H xs us Q I r ⟨w,S,ds,hS,qs,by rw[hz];exact p'⟩
def ClsAt(K:Frag)(mg:Str->Option Value)(x:Str):Prop:=∃C,mg x=some (.ref C)/\nsIn K mainGlobals x=some (some (.ref C))
theorem fZ{x:Str}{pos:Pos}(h:ClsAt X.K X.mg x)(hg:Gl X x)(hd:autoParam ((x == ("__debug__":Str))=false) zz3._auto_1):SE X E (.Name x pos) (eC (.cls x)):=by
 obtain⟨C,hm,hn⟩:=h
 exact pP (nY hg hm (v:=.ref C) rfl hd) λ_ _=>by unfold RD;exact⟨C,hn,rfl⟩
def TryAt(K:Frag)(mg:Str->Option Value)(x:Str)(cs:List Str):Prop:=∃Cp,mg x=some Cp/\∀y∈cs,∃c,nsIn K mainGlobals y=some (some c)/\exmOne K c Cp=some true
end
section
variable{X:Cx}{E:XK}
noncomputable def intsOf:List D->Option (List Int)
 |[]=>some []
 |.int b::r=>(intsOf r).map (b :: ·)
 |_::_=>none
theorem p9:∀{ds:List D}{ns:List Int},intsOf ds=some ns->ns.length=ds.length
 |[],_,h=>by unfold intsOf at h;cases h;rfl
 |d::ds,ns,h=>by
  cases d with
  |int i=>
   unfold intsOf at h;cases e:intsOf ds with
   |none=>rw[e]at h;cases h
   |some cs=>rw[e]at h;cases h;simp[p9 e]
  |_=>unfold intsOf at h;cases h
theorem kO{K:Frag}{w:Wd}:∀{ds:List D}{vs:List V}{us:List Value}{ns:List Int},RDs K w H ds vs->Vals vs us->intsOf ds=some ns->∀(i:Nat)(v:Value),us[i]?=some v->∃t,v=.int ((ns[i]?).getD 0) t
 |[],_,_,_,q,r,h,i,v,e=>by rw[q.nil_inv]at r;cases r;simp at e
 |d::ds,_,_,ns,q,r,h,i,v,e=>by
  obtain⟨y,vs,rfl,p,t⟩:=q.cons_inv;cases d with
  |int b=>
   unfold intsOf at h;cases e':intsOf ds with
   |none=>rw[e']at h;cases h
   |some cs=>
    rw[e']at h;cases h;cases p.int;cases r with
    |cons r1 r2=>
     cases i with
     |zero=>
      obtain⟨t,rfl⟩:=r1;simp at e
      exact⟨t,by simp[e]⟩
     |succ i=>
      have z:=kO t r2 e' i v (by simpa using e)
      simpa using z
  |_=>unfold intsOf at h;cases h
end
open Classical in
section
variable{X:Cx}{E:XK}
noncomputable def eqP(a b:D):Option Bool:=match eqS a b with
 |some c=>some c
 |none=>match toPy a,toPy b with
  |some p,some q=>if SeqAt.shaped p=true/\SeqAt.shaped q=true then some (PyData.eqv p q) else none
  |_,_=>none
noncomputable def fI:Sto->D->D->Option D:=λ_ a b=>(eqP a b).map .bl
noncomputable def eh:Sto->D->D->Option D:=λ_ a b=>(eqP a b).map λc=>.bl (!c)
theorem kg{a b:D}{c:Bool}(h:eqP a b=some c):eqS a b=some c \/ ∃p q,toPy a=some p/\toPy b=some q/\SeqAt.shaped p=true/\SeqAt.shaped q=true/\c=PyData.eqv p q:=by
 unfold eqP at h;split at h
 .rename_i c' e;cases h;exact .inl e
 .split at h
  .rename_i p q e1 e2;split at h
   .rename_i hs;cases h;exact .inr ⟨p,q,e1,e2,hs.1,hs.2,rfl⟩
   .cases h
  .cases h
theorem lO{k:Nat}(hr:Room k X.A):OpR X (compareOp .Eq) (xO X.K E fI):=by
 rintro pins s σ H x y v u Q I rx ry ⟨w,S,d,e,hS,qd,qe,p⟩;obtain⟨z,hz,p⟩:=p.of;unfold fI at hz;cases h:eqP d e with
 |none=>rw[h]at hz;cases hz
 |some c=>
  rw[h]at hz;cases hz;rcases kg h with h|⟨a,b,e1,e2,s1,s2,rfl⟩
  .exact w8 pins s σ H x y v u Q I rx ry ⟨w,S,d,e,hS,qd,qe,by unfold oEq;rw[h];exact p⟩
  .obtain⟨as,r1,_⟩:=eV I d x v a qd rx e1;obtain⟨bs,r2,_⟩:=eV I e y u b qe ry e2;exact eq_dataH r1 r2 s1 s2 hr.units ⟨.bl _,H,I,rfl,p.ret RD.mkB hS⟩
theorem gG{k:Nat}(hr:Room k X.A):OpR X (compareOp .NotEq) (xO X.K E eh):=by
 rintro pins s σ H x y v u Q I rx ry ⟨w,S,d,e,hS,qd,qe,p⟩;obtain⟨z,hz,p⟩:=p.of;unfold eh at hz;cases h:eqP d e with
 |none=>rw[h]at hz;cases hz
 |some c=>
  rw[h]at hz;cases hz;rcases kg h with h|⟨a,b,e1,e2,s1,s2,rfl⟩
  .exact D6 pins s σ H x y v u Q I rx ry ⟨w,S,d,e,hS,qd,qe,by unfold oNe;rw[h];exact p⟩
  .obtain⟨as,r1,_⟩:=eV I d x v a qd rx e1;obtain⟨bs,r2,_⟩:=eV I e y u b qe ry e2;exact ne_dataH r1 r2 s1 s2 hr.units ⟨.bl _,H,I,rfl,p.ret RD.mkB hS⟩
end
theorem zE{f:FM}(h:∀ns:List Int,ns.length<=63->∃S,f [.fz (ns.map .int)] []=.ok (.bl true) S)(K:Frag)(H:Hp)(a:Addr)(ns:List Int)(hn:ns.length<=63)(ho:wL H)(hs:SqL K H a (ns.map V.int)):
  spN K 1 f [.ref a] H (λv _=>v=.bl true) λ_ _ _=>False:=B8 h K H a ns hn ho hs
theorem Ci{P:Program}{w:World}{l:List Env}{s s':Shared}{e:Value}(h:CX1 P w l H s (λ_ _ _=>False) e s'):False:=by obtain⟨_,_,_,_,_,_,_,_,_,z⟩:=h;exact z
theorem se{K:Frag}{C:Addr}{cd:ClassData}(g1:findIn K (.ref C) "__getattribute__" = some (some (.builtin "BaseException.__getattribute__")))(g2:findIn K (.ref C) "__getattr__" = some none)
  (g3:findIn K (.ref C) "__class__" = some (some (.builtin "object.__class__"))) (m1:mroIn K C (.type "BaseException")=some true) (m2:mroIn K C (.type "object")=some true) (c:clsIn K C=some cd):ExK K C:=
 ⟨g1,g2,g3,m1,m2,by rw[c];rfl⟩
end PD
namespace SQ
open PySem PySem.Spec PyProof.Rows
open Sem (wp)
variable{h h':Heap}{it a l:Addr}{i:Nat}
noncomputable def nm:Bool->String
 |true=>"tuple_iterator"
 |false=>"list_iterator"
noncomputable def Is:Bool->Heap->Addr->Array Value->Prop
 |true,h,a,xs=>h.IsTuple a xs
 |false,h,a,xs=>h.IsList a xs
def It(k:Bool)(h:Heap)(it a:Addr)(i:Nat):Prop:=∃o,h.get? it=some o/\o.cls=.type (nm k)/\o.data=.fields #[.ref a,.int i 0]
theorem It.move{k:Bool}(x:It k h it a i)(q:∀o,h.get? it=some o->h'.get? it=some o):It k h' it a i:=let ⟨o,e,r⟩:=x;⟨o,q o e,r⟩
theorem Is.move{k:Bool}{xs:Array Value}(x:Is k h a xs)(q:∀o,h.get? a=some o->h'.get? a=some o):Is k h' a xs:=by
 cases k with
 |true=>obtain⟨o,e,r⟩:=x;exact⟨o,q o e,r⟩
 |false=>obtain⟨o,e,r⟩:=x;exact⟨o,q o e,r⟩
theorem Is.obj{k:Bool}{xs:Array Value}(x:Is k h a xs):∃o,h.get? a=some o/\(o.cls=.type "tuple" \/ o.cls=.type "list")/\∃n,o.data=.seq xs n:=by
 cases k with
 |true=>obtain⟨o,e,c,n,d⟩:=x;exact⟨o,e,.inl c,n,d⟩
 |false=>obtain⟨o,e,c,n,d⟩:=x;exact⟨o,e,.inr c,n,d⟩
section
variable{prog:Program}{w:World}{A:Around}{E:Value->Shared->Prop}{s:Shared}
theorem iter{k:Bool}{t:Addr}{items}{Q:Value->Shared->Prop}(ht:Is k s.heap t items)
  (hQ:Q (.ref s.heap.objs.size) { s with heap:=s.heap.push { cls:=.type (nm k),data:=.fields #[.ref t,.int 0 0] } }):wpAny (model prog w) A (pyIter (.ref t)) Q E s:=by
 cases k with
 |true=>exact Ui ht hQ
 |false=>exact Qj ht hQ
theorem xq{items}{x:Value}{Q:Value->Shared->Prop}(hit:s.heap.IsTupleIter it l i)(hl:s.heap.IsTuple l items)(hx:items[i]?=some x)
  (hQ:∀h',h'.IsTupleIter it l (i+1)->Heap.SameBut it s.heap h'->Q x { s with heap:=h' }):wpAny (model prog w) A (Builtin.SmallTypes.nextOf (.ref it)) Q E s:=by
 obtain⟨o,ho,hc,hd⟩:=id hit;obtain⟨ol,hol,_,nl,hdl⟩:=hl;unfold Builtin.SmallTypes.nextOf;refine J9 (Yr (name:=Str.ofString "__next__") hit.typeIs W0 (Yo W0 hit.typeIs F.entry_tuple_iterator_next ?_ (F.args_tuple_iterator_next_1 _)))
 show wpAny _ _ (field (.ref it) 0 >>= _) _ _ s;refine J9 (Z4 ho hd (x:=.ref l) rfl ?_);show wpAny _ _ (if (Value.ref l == Value.none)=true then _ else _) _ _ s
 rw[Ji (show ¬((Value.ref l == Value.none)=true) from Jj)];show wpAny _ _ (field (.ref it) 1 >>= _) _ _ s;refine J9 (Z4 ho hd (x:=.int i 0) rfl ?_)
 show wpAny _ _ (seqItems? (.ref l) >>= _) _ _ s;refine J9 (Vf hol hdl ?_);simp only[Q8,hx]
 refine J9 (Zr ho hd (by simp) (Ja ⟨x,rfl,Ja (hQ _ ?_ (Yt ..))⟩));exact⟨_,Zs _ ho (Qw (Wo hd _)),(Uy ..).trans hc,by rw[Wo hd];simp[rawInt]⟩
theorem zF{items}{Q:Value->Shared->Prop}(hh:A.handled=none)(hit:s.heap.IsTupleIter it l i)(hl:s.heap.IsTuple l items)(hx:items[i]?=none)
  (hE:∀h' e,Heap.ExtBut it s.heap h'->(∃o,h'.get? e=some o/\o.cls=.type "StopIteration")->E (.ref e) { s with heap:=h' }):wpAny (model prog w) A (Builtin.SmallTypes.nextOf (.ref it)) Q E s:=by
 obtain⟨o,ho,hc,hd⟩:=id hit;obtain⟨ol,hol,_,nl,hdl⟩:=hl;unfold Builtin.SmallTypes.nextOf;refine J9 (Yr (name:=Str.ofString "__next__") hit.typeIs W0 (Yo W0 hit.typeIs F.entry_tuple_iterator_next ?_ (F.args_tuple_iterator_next_1 _)))
 show wpAny _ _ (field (.ref it) 0 >>= _) _ _ s;refine J9 (Z4 ho hd (x:=.ref l) rfl ?_);show wpAny _ _ (if (Value.ref l == Value.none)=true then _ else _) _ _ s
 rw[Ji (show ¬((Value.ref l == Value.none)=true) from Jj)];show wpAny _ _ (field (.ref it) 1 >>= _) _ _ s;refine J9 (Z4 ho hd (x:=.int i 0) rfl ?_)
 show wpAny _ _ (seqItems? (.ref l) >>= _) _ _ s;refine J9 (Vf hol hdl ?_);simp only[Q8,hx]
 refine J9 (Zj (J9 (Zr ho hd (by simp) ?_)));show wpAny _ _ (newExc (.type "StopIteration") [] >>= _) _ _ _;refine J9 ?_
 simp only[newExc,newTuple];refine J9 (Y9 ?_ (by size_fits));refine J9 (m:=firstArgMember _ _) (Wq (a:=Value.none) (by first|rfl|(simp only[firstArgMember];rfl)) ?_)
 refine Y9 ?_ (by size_fits);simp only[raiseNew];refine J9 (wpAny_handled ?_);first|rw[show A.in1.handled=none from hh]|rw[hh]
 refine J9 (Ja (wpAny_throw ?_));exact hE _ _ (((Yt ..).extBut.push _).push _) ⟨_,Jo _ rfl,rfl⟩
theorem next{k:Bool}{items}{x:Value}{Q:Value->Shared->Prop}(hit:It k s.heap it l i)(hl:Is k s.heap l items)(hx:items[i]?=some x)
  (hQ:∀h',It k h' it l (i+1)->Heap.SameBut it s.heap h'->Q x { s with heap:=h' }):wpAny (model prog w) A (Builtin.SmallTypes.nextOf (.ref it)) Q E s:=by
 cases k with
 |true=>exact xq hit hl hx hQ
 |false=>exact wpAny_nextOf_list_item hit hl hx hQ
theorem ends{k:Bool}{items}{Q:Value->Shared->Prop}(hh:A.handled=none)(hit:It k s.heap it l i)(hl:Is k s.heap l items)(hx:items[i]?=none)
  (hE:∀h' e,Heap.ExtBut it s.heap h'->(∃o,h'.get? e=some o/\o.cls=.type "StopIteration")->E (.ref e) { s with heap:=h' }):wpAny (model prog w) A (Builtin.SmallTypes.nextOf (.ref it)) Q E s:=by
 cases k with
 |true=>exact zF hh hit hl hx hE
 |false=>exact wpAny_nextOf_list_end hh hit hl hx hE
theorem sb{t b:Addr}{o:Obj}(hs:Heap.SameBut t h h')(n:b≠t)(e:h.get? b=some o):h'.get? b=some o:=(hs.2 b n).trans e
end
noncomputable abbrev z1(k:Bool)(h:Heap)(l1:Addr):Heap:=h.push { cls:=.type (nm k),data:=.fields #[.ref l1,.int 0 0] }
noncomputable abbrev z2(k m:Bool)(h:Heap)(l1 l2:Addr):Heap:=(z1 k h l1).push { cls:=.type (nm m),data:=.fields #[.ref l2,.int 0 0] }
noncomputable abbrev z3(k m:Bool)(h:Heap)(l1 l2:Addr):Heap:=(z2 k m h l1 l2).push { cls:=.type "tuple",data:=.seq #[.ref h.objs.size,.ref (z1 k h l1).objs.size] }
noncomputable abbrev z4(k m:Bool)(h:Heap)(l1 l2:Addr):Heap:=(z3 k m h l1 l2).push { cls:=.type "tuple",data:=.seq #[.none,.none] }
noncomputable abbrev z5(k m:Bool)(h:Heap)(l1 l2:Addr):Heap:=(z4 k m h l1 l2).push { cls:=.type "zip",data:=.fields #[.none,.bool false,.bool false,.ref (z2 k m h l1 l2).objs.size,.ref (z3 k m h l1 l2).objs.size] }
theorem sf(k:Bool)(l:Addr)(items:Array Value)(ob:Obj):
  Meets (Builtin.«enumerate.__new__» ⟨[.type "enumerate",.ref l],[]⟩) (λ_ R s=>Is k s.heap l items/\s.heap.get? l=some ob/\
   R (.ok (.ret (.ref (s.heap.push { cls:=.type (nm k),data:=.fields #[.ref l,.int 0 0] }).objs.size)))
    { s with heap:=(s.heap.push { cls:=.type (nm k),data:=.fields #[.ref l,.int 0 0] }).push { cls:=.type "enumerate",data:=.fields #[.none,.bool false,.ref s.heap.objs.size,rawInt 0,.none,.none] } }):=
 .of_wp λprog w A R s h=>by
  obtain⟨hp,g,d,tk,os⟩:=s;obtain⟨hl,ho,h⟩:=h;have hsub:=sub_enumerate;have hL:Is k (Shared.heap ⟨hp,g,d,tk,os⟩) l items:=hl
  wp_walk using We ho
  refine wpAny_stack_any λst=>Ja ?_;split
  .rename_i c _ _ _ _ _;cases (c == Value.type "enumerate")
   .wp_walk using We ho,iter hL
    exact⟨_,rfl,h⟩
   .wp_walk using We ho,iter hL
    exact⟨_,rfl,h⟩
  .wp_walk using We ho,iter hL
   exact⟨_,rfl,h⟩
section
variable{prog:Program}{w:World}{A:Around}{E:Value->Shared->Prop}{s:Shared}
theorem call_enum{k:Bool}{items:Array Value}{Q:Value->Shared->Prop}(hL:Is k s.heap l items)
  (h:∀h',IsEnum h' (s.heap.objs.size+1) s.heap.objs.size 0 .none->It k h' s.heap.objs.size l 0->h'.objs.size=s.heap.objs.size+2->
   (∀b o,s.heap.get? b=some o->h'.get? b=some o)->Q (.ref (s.heap.objs.size+1)) { s with heap:=h' }):wpAny (model prog w) A (call (.type "enumerate") [.ref l]) Q E s:=by
 obtain⟨ob,ho,_,_,_⟩:=hL.obj
 refine callType_new F.called_enumerate (by decide) (F.typeCall_enumerate_1 _) (F.newCall_enumerate_1 _) (λobj=>F.args_object_init_2 obj _) F.entry_enumerate_new (sf k l items ob) ⟨hL,ho,?_⟩
 have hz:(s.heap.push { cls:=.type (nm k),data:=.fields #[.ref l,.int 0 0] }).objs.size=s.heap.objs.size+1:=Zb ..;show _/\_;rw[hz]
 have he:IsEnum ((s.heap.push { cls:=.type (nm k),data:=.fields #[.ref l,.int 0 0] }).push { cls:=.type "enumerate",data:=.fields #[.none,.bool false,.ref s.heap.objs.size,rawInt 0,.none,.none] }) (s.heap.objs.size+1) s.heap.objs.size 0 .none:=by
  have:=Jo (s.heap.push { cls:=.type (nm k),data:=.fields #[.ref l,.int 0 0] }) (o:={ cls:=.type "enumerate",data:=.fields #[.none,.bool false,.ref s.heap.objs.size,rawInt 0,.none,.none] }) rfl
  rw[hz]at this;exact this
 exact⟨⟨_,he,rfl⟩,h _ he ⟨_,Jb _ (Jo _ rfl),rfl,rfl⟩ (by rw[Zb,hz]) λb o x=>Jb _ (Jb _ x)⟩
end
theorem draws{prog:Program}{w:World}{A:Around}(k:Bool)(hh:A.handled=none)(it l:Addr)(hne:l≠it)(items:Array Value):
  Draws prog w A it [it,l] items.size (λi v=>items[i]?=some v) (λi h=>It k h it l i/\Is k h l items) where
 live:=λ_ _ st=>let ⟨o,ho,_⟩:=st.1;⟨o,ho⟩
 frame:=λ_ _ _ st hk=>⟨st.1.move λo e=>hk it (by simp) o e,st.2.move λo e=>hk l (by simp) o e⟩
 item:=λi s Q E hi st hQ=>next st.1 st.2 (x:=items[i]) (by simp[hi]) λh' hit' hs'=>hQ _ h' s.toks (by simp[hi]) ⟨hit',st.2.move λo=>sb hs' hne⟩ hs'
 done:=λs Q E st hE=>ends hh st.1 st.2 (by simp) hE
end SQ
namespace L2
open PySem PySem.Spec PyProof.Rows
section
variable{X:Cx}{pins:List (Addr×Obj)}{σ:St}{H:Hp}{s:Shared}{h':Heap}
theorem Inv.turnedS{t':Nat}{fp:List Addr}(I:Inv X pins σ H s)(k:∀b o,b∉fp->s.heap.get? b=some o->h'.get? b=some o)(hf:∀b∈fp,FpOk X pins H b):Inv X pins σ H { s with heap:=h',toks:=t' }:=by
 refine I.step (g':=s.gens) (d':=s.drawn) (ch:=fp) (λb hb=>?_) (λb o _ _ hc e _=>k b o hc e) (λb o _ _ hc e _=>⟨o.slots,k b o hc e⟩) (λ_ _ _ _ n=>n)
  (λb o hc e=>⟨o,k b o hc e⟩) (λ_ _ e=>e) (λ_ _ _ e=>e) (λb ps e=>⟨#[],by rw[e];simp⟩) (λm hm=>?_) (λb u e=>?_) I.bare
 .obtain⟨f0,f1,f2,f3,f4,f5⟩:=hf b hb;exact⟨f3,f1,f4,f5⟩
 .obtain⟨o,es,ep,ho,r⟩:=hm;exact⟨o,es,ep,k _ o (λz=>(hf _ z).2.1 rfl) ho,r⟩
 .refine(I.hok b u e).stay (λc v hc q=>k c v (λz=>?_) q) (λ_ q=>q) λ_ _ q=>q;have hn:=(hf c z).1;rcases hc with y|y
  .rw[y,e]at hn;cases hn
  .rw[y]at hn;cases hn
theorem Inv.turnedP{t':Nat}{fp:List Addr}{x y:V}{u v:Value}(I:Inv X pins σ H s)(hf:∀b∈fp,FpOk X pins H b)(hlt:∀b∈fp,b<s.heap.objs.size)(rx:RelV x u)(ry:RelV y v)
  (k:∀b o,b∉fp->s.heap.get? b=some o->h'.get? b=some o) (hp:IsPair h' s.heap.objs.size u v):Inv X pins σ (upd H s.heap.objs.size (.tup [x,y])) { s with heap:=h',toks:=t' }:=by
 have I1:Inv X pins σ (upd H s.heap.objs.size (.tup [x,y])) { s with heap:=s.heap.push { cls:=.type "tuple",data:=.seq #[u,v] },toks:=t' }:=
  I.laid (t':=t') (λb u e=>Jb _ e) (Jd _) ⟨by show 2<=sizeLine;decide,[u,v],.cons rx (.cons ry .nil),⟨_,Jo _ rfl,rfl,_,rfl⟩⟩
 refine Inv.turnedS (s:={ s with heap:=s.heap.push { cls:=.type "tuple",data:=.seq #[u,v] },toks:=t' }) (fp:=fp) (t':=t') (h':=h') I1 (λb o hb e=>?_) λb hb=>?_
 .rcases Heap.get?_push_cases e with⟨rfl,rfl⟩|e
  .exact hp
  .exact k b o hb e
 .obtain⟨f0,f1⟩:=hf b hb
  exact⟨by rw[ax (Ju (hlt b hb))];exact f0,f1⟩
theorem tW{fp:List Addr}(hf:∀b∈fp,FpOk X pins H b)(hlt:∀b∈fp,b<s.heap.objs.size){o:HO}:∀b∈fp,upd H s.heap.objs.size o b=none:=λb hb=>by rw[ax (Ju (hlt b hb))];exact(hf b hb).1
end
noncomputable def SqK(K:Frag):Bool->Hp->Addr->List V->Prop
 |true,H,a,xs=>SqT K H a xs
 |false,H,a,xs=>SqL K H a xs
theorem Inv.sqk{X:Cx}{pins:List (Addr×Obj)}{σ:St}{H:Hp}{s:Shared}{k:Bool}{a:Addr}{xs:List V}(I:Inv X pins σ H s)(h:SqK X.K k H a xs):∃its:List Value,Vals xs its/\SQ.Is k s.heap a its.toArray/\xs.length<=sizeLine:=by
 cases k with
 |true=>obtain⟨its,r,p,z⟩:=I.tuple h;exact⟨its,r,show s.heap.IsTuple a its.toArray from p,z⟩
 |false=>obtain⟨its,r,p,z⟩:=I.list h;exact⟨its,r,p.isList,z⟩
theorem Inv.sqk_inj{X:Cx}{pins:List (Addr×Obj)}{σ:St}{H:Hp}{s:Shared}{k:Bool}{a:Addr}{xs ys:List V}(I:Inv X pins σ H s)(h:SqK X.K k H a xs)(h2:SqK X.K k H a ys):xs=ys:=by
 cases k with
 |true=>exact I.tuple_inj h h2
 |false=>exact I.list_inj h h2
noncomputable def Ite(K:Frag)(k:Bool)(a:Addr):It:=
  ⟨λi H=>∃xs x,SqK K k H a xs/\xs[i]?=some x,
   λi H v H'=>∃p x,v=.ref p/\H p=none/\H'=upd H p (.tup [.int i,x])/\∀xs,SqK K k H a xs->xs[i]?=some x,
   λi H=>∃xs,SqK K k H a xs/\xs.length<=i⟩
structure Est(k:Bool)(e it a:Addr)(i:Nat)(h:Heap):Prop where
 he:∃old,IsEnum h e it i old
 h1:SQ.It k h it a i
theorem vD{P:Program}{w:World}{K:Frag}{es:List Expr}{n:Nat}{pos:Pos}{k:Bool}(e it a:Addr)(ne:e≠it)(na:a≠e/\a≠it):
  Turn false P w K (.Tuple es n pos) (Ite K k a) [e,it] e (Est k e it a) where
 mem:=by simp
 obj:=λi h st c hc=>by
  obtain⟨⟨old,he⟩,⟨o1,e1,c1,d1⟩⟩:=st;simp only[Jq,Yh,Q0]at hc;rcases hc with rfl|rfl
  .exact⟨_,he,λv z=>by cases z⟩
  .exact⟨_,e1,λv z=>by rw[d1]at z;cases z⟩
 keep:=λi h h' ⟨⟨old,he⟩,h1⟩ q=>⟨⟨old,q e (by simp) _ he⟩,h1.move λo x=>q it (by simp) o x⟩
 item:=by
  intro X hP hw hK hc i pins s σ H E I hf st hg;subst hP hw hK;obtain⟨xs,x,hq,hx⟩:=hg;obtain⟨us,ru,pu,_⟩:=I.sqk hq;obtain⟨u,hu,rxu⟩:=ru.get hx;obtain⟨⟨old,he⟩,h1⟩:=st
  have hlt:∀c∈[e,it],c<s.heap.objs.size:=λc hc=>by
   simp only[Jq,Yh,Q0]at hc;rcases hc with rfl|rfl
   .exact Jn he
   .obtain⟨_,e,_⟩:=h1;exact Jn e
  have hi:i<us.toArray.size:=by have:=(Jf.mp hu).1;simpa using this
  have D:=SQ.draws (prog:=X.prog) (w:=X.w) (A:=X.A.in1) k (I.ok.hd hc.cm) it a na.2 us.toArray
  refine wpAny_pyNext_enum_itemD D he ⟨h1,pu⟩ hi ne (by simp[ne,Ne.symm na.1]) λy h' tk hy a1 a2 a3 a4 a5=>⟨_,rfl,?_⟩
  have ey:y=u:=by simpa[hu] using hy.symm
  subst ey
  refine wpAny_letOwnedTupleGo_enum (s:={ s with heap:=h',toks:=tk+1 }) a1 λh2' hz' hs'=>?_
  have up:∀c o,c≠e->h'.get? c=some o->h2'.get? c=some o:=λc o n q=>SQ.sb hs' n q
  refine⟨.ref s.heap.objs.size,_,Inv.turnedP (s:=s) (t':=tk+1) (h':=h2') (x:=.int i) (u:=.int i tk) I hf hlt ⟨tk,rfl⟩ rxu (λc o hc q=>up c o (λr=>hc (by simp[r])) (a5 c o (λr=>hc (by simp[r])) (λr=>hc (by simp[r])) q)) (up _ _ (Qg (Jn he)) a3),rfl,
   ⟨_,x,rfl,I.fresh,rfl,λxs' q1=>by rw[I.sqk_inj q1 hq];exact hx⟩,
   ⟨⟨y,by simpa using hz'⟩,a2.1.move λo q=>up _ o (Ne.symm ne) q⟩,tW hf hlt⟩
 done:=by
  intro X hP hw hK hc i pins s σ H E I hf st hg;subst hP hw hK;obtain⟨xs,hq,hx⟩:=hg;obtain⟨us,ru,pu,_⟩:=I.sqk hq;obtain⟨⟨old,he⟩,h1⟩:=st;have l1:=ru.length;have hT:s.TypeIs (.ref e) "enumerate":=⟨_,he,rfl⟩
  unfold pyNext;refine J9 (Qn (Yr (name:=Str.ofString "__next__") hT F.slot_enumerate_next (Yo F.slot_enumerate_next hT F.entry_enumerate_next ?_ (F.args_enumerate_next_1 _))))
  show wpAny _ _ (field (.ref e) 2 >>= _) _ _ _;refine J9 (Z4 he rfl (x:=.ref it) rfl ?_)
  refine J9 (SQ.ends (I.ok.hd hc.cm) h1 pu (by simp;omega) λh' x he' hx'=>?_)
  obtain⟨o,ho,hcl⟩:=hx';refine J9 (W9 (T:="StopIteration") (b:=true) ⟨o,ho,hcl⟩ Ue ?_)
  exact Ja ⟨rfl,I.turnedS (t':=s.toks) (λb o hb q=>he' b o (λr=>hb (by simp[r])) q) hf⟩
 self:=λ_ _ _ _ _ st h=>let ⟨⟨_,he⟩,_⟩:=st;wpAny_pyIter_enum he h
section
variable{X:Cx}{es:List Expr}{n:Nat}{tp:Pos}
theorem boot_enumerate:bootBuiltins "enumerate" = some (.type "enumerate"):=by decide +kernel
theorem tX(n a:Nat)(h:a<n):(n+1≠n)/\a≠n+1/\a≠n:=by omega
theorem lP(n c:Nat)(hc:c∈[n+1,n]):n<=c:=by simp only[Jq,Yh,Q0]at hc;omega
noncomputable def D7(K:Frag)(ta:TA):TI:=λσ H R=>ta σ H λvs H1=>∃a k,vs=[.ref a]/\(∃xs,SqK K k H1 a xs)/\R (Ite K k a) H1
theorem zG{a:Expr}{ta:TA}{p pos:Pos}(hg:Gl X "enumerate")(hm:X.mg "enumerate" = none)(ha:PA X [a] ta)(hs:autoParam (starEach [a] X.env=[(false,eval a X.env)]) zz0._auto_1):
  PI X (.Tuple es n tp) (.Call (.Name "enumerate" p) [a] [] pos) (D7 X.K ta):=by
 intro pins s σ H R I h;refine Call_ (jV I hg hm boot_enumerate (Qq (thn (ha pos pins s σ H _ I h) λus s1 zq=>?_) hs rfl));obtain⟨vs,H1,I1,r1,q1⟩:=zq;obtain⟨a,k,e,⟨xs,hx⟩,q⟩:=q1;subst e;cases r1 with
 |cons r rr=>
  cases rr;cases r;obtain⟨us,ru,pu,_⟩:=I1.sqk hx;refine SQ.call_enum pu λh' a1 a2 a3 a4=>?_
  have I2:Inv X pins σ H1 { s1 with heap:=h' }:=I1.kept (t':=s1.toks) a4
  obtain⟨oa,ea,_⟩:=pu.obj;have la:=Jn ea
  refine wpAny_pyIter_enum (s:={ s1 with heap:=h' }) a1 ⟨_,[s1.heap.objs.size+1,s1.heap.objs.size],_,_,H1,rfl,I2,vD (k:=k) _ _ a (tX _ a la).1 (tX _ a la).2,⟨⟨_,a1⟩,a2⟩,λc hc=>?_,q⟩
  exact I1.fpOk (lP _ c hc) (I1.hok.fresh (lP _ c hc))
end
end L2
namespace PD
open PySem PySem.Spec PyProof.Rows L2
noncomputable def zH:D->Option (List D)
 |.tup ds=>some ds
 |.lst ds=>some ds
 |.fz ds=>some ds
 |_=>none
noncomputable def numbered:Nat->List D->List D
 |_,[]=>[]
 |i,x::xs=>.tup [.int i,x]::numbered (i+1) xs
noncomputable def tY(t:AM):AM:=λr S=>(t r S).bind λxs S1=>match xs with
 |[a]=>match zH a with
  |some us=>.ok (numbered 0 us) S1
  |_=>.bad
 |_=>.bad
theorem fq:∀(us:List D)(j i:Nat),(numbered j us).length=us.length/\∀x,us[i]?=some x->(numbered j us)[i]?=some (.tup [.int ((j+i:Nat):Int),x])
 |[],j,i=>by simp[numbered]
 |u::us,j,0=>by simp[numbered,(fq us (j+1) 0).1]
 |u::us,j,i+1=>by have ih:=fq us (j+1) i;simp only[numbered,Jk,Z6,ih.1,true_and];intro x hx;rw[ih.2 x hx];congr 4;omega
theorem Cj{K:Frag}{w:Wd}{H:Hp}{d:D}{ds:List D}{v:V}(e:zH d=some ds)(q:RD K w H d v):∃p k vs,v=.ref p/\RDs K w H ds vs/\∀w' H',Ext w H w' H'->SqK K k H' p vs:=by
 cases d with
 |tup us=>
  cases e;unfold RD at q;obtain⟨p,vs,rfl,h1,q⟩:=q;exact⟨p,true,vs,rfl,q,λw' H' x'=>cn (h1.imp x'.at id)⟩
 |lst us=>
  cases e;unfold RD at q;obtain⟨p,vs,rfl,h1,q⟩:=q;exact⟨p,false,vs,rfl,q,λw' H' x'=>SqL.of (x'.at h1).1⟩
 |fz us=>
  cases e;unfold RD at q;obtain⟨p,vs,rfl,h1,q⟩:=q;exact⟨p,false,vs,rfl,q,λw' H' x'=>rQ.sq (w:=w') (h1.imp (λ⟨o,z⟩=>⟨o,x'.at z⟩) id)⟩
 |_=>cases e
section
variable{X:Cx}{E:XK}{a b:Expr}{pos:Pos}
theorem zJ{es:List Expr}{n:Nat}{tp:Pos}{ms:AM}{p:Pos}(hg:Gl X "enumerate")(hm:X.mg "enumerate" = none)(ha:SA X E [a] ms)(hs:autoParam (starEach [a] X.env=[(false,eval a X.env)]) zz0._auto_1):
  SI X E (.Tuple es n tp) (.Call (.Name "enumerate" p) [a] [] pos) (tY ms):=⟨
 fo (zG hg hm ha.out hs) λs H Q zq=>ex6 zq λw r S hr hS hp=>⟨w,r,S,hr,hS,hp.bind hS λds S1 w1 H1 vs x1 q1 s1 p1=>by
  match ds,q1,p1 with
  |[d],q1,p1=>
   obtain⟨v,rfl,q2⟩:=q1.one_inv
   change az X.K E (RI X.K) w1 H1 (match zH d with|some us=>R.ok (numbered 0 us) S1|_=>R.bad) Q at p1
   cases e1:zH d with
   |none=>rw[e1]at p1;exact p1.elim
   |some us=>
    rw[e1]at p1;obtain⟨pa,k,xs,rfl,ra,sa⟩:=Cj e1 q2;refine⟨pa,k,rfl,⟨xs,sa _ _ (Ext.refl _ _)⟩,az.ret p1 ?_ s1⟩;intro i w' H' x';have ra':=RDs.ext x' _ _ ra;have la:=ra.length;have ln:=(fq us 0 i).1
    refine⟨λhi=>?_,λhi=>⟨xs,sa _ _ x',by omega⟩⟩
    have h1:i<us.length:=by omega
    refine⟨⟨xs,xs[i]'(by omega),sa _ _ x',Jc _⟩,λv H'' y=>?_⟩
    obtain⟨p,x,rfl,hp,rfl,q⟩:=y;have qx:=q xs (sa _ _ x');obtain⟨x0,ex,rx⟩:=ra'.get (Jc h1);rw[qx]at ex;cases ex;refine⟨.inr ⟨p,_,hp,rfl⟩,λS hS=>⟨_,(fq us 0 i).2 _ (Jc h1),?_⟩⟩;unfold RD;refine⟨p,[.int i,x],rfl,.inl ⟨aC,hS.fresh hp⟩,?_⟩;unfold RDs RDs RDs
    exact⟨.int i,[x],rfl,by unfold RD;simp,x,[],rfl,RD.ext (Ext.new hp) _ _ rx,rfl⟩
  |[],_,p1=>exact p1.elim
  |_::_::_,_,p1=>exact p1.elim⟩⟩
end
noncomputable def vE(x:Int):List Int->List Int
 |[]=>[x]
 |y::r=>if x<=y then x::y::r else y::vE x r
noncomputable def bV:List Int->List Int
 |[]=>[]
 |x::r=>vE x (bV r)
theorem kh(x:Int):∀l:List Int,(vE x l).Perm (x::l)
 |[]=>.refl _
 |y::r=>by
  unfold vE;split
  .exact .refl _
  .exact((kh x r).cons y).trans (.swap x y r)
theorem bB:∀l:List Int,(bV l).Perm l
 |[]=>.refl _
 |x::r=>(kh x _).trans ((bB r).cons x)
theorem ku(x:Int):∀l:List Int,l.Pairwise (· <= ·)->(vE x l).Pairwise (· <= ·)
 |[],_=>Wk _ _
 |y::r,h=>by
  obtain⟨h1,h2⟩:=Zv.mp h;unfold vE;split
  .rename_i hxy
   exact Zv.mpr ⟨λz hz=>by
    rcases Jq.mp hz with rfl|hz
    .exact hxy
    .exact Qa hxy (h1 z hz),h⟩
  .rename_i hxy
   exact Zv.mpr ⟨λz hz=>by
    rcases Jq.mp ((kh x r).mem_iff.mp hz) with rfl|hz
    .omega
    .exact h1 z hz,ku x r h2⟩
theorem cV:∀l:List Int,(bV l).Pairwise (· <= ·)
 |[]=>.nil
 |x::r=>ku x _ (cV r)
theorem eX:∀{a b:List Int},a.Perm b->a.Pairwise (· <= ·)->b.Pairwise (· <= ·)->a=b
 |[],b,p,_,_=>p.nil_eq
 |x::r,[],p,_,_=>absurd p.length_eq (by simp)
 |x::r,y::t,p,h1,h2=>by
  obtain⟨a1,a2⟩:=Zv.mp h1;obtain⟨b1,b2⟩:=Zv.mp h2
  have e:x=y:=by
   have hx:x∈y::t:=p.mem_iff.mp (.head _);have hy:y∈x::r:=p.mem_iff.mpr (.head _);rcases Jq.mp hx with h|h
   .exact h
   .rcases Jq.mp hy with h'|h'
    .exact h'.symm
    .exact Int.le_antisymm (a1 y h') (b1 x h)
  subst e;rw[eX (List.Perm.cons_inv p) a2 b2]
end PD
namespace SQ
open PySem PySem.Spec PyProof.Rows
section
variable{prog:Program}{w:World}{A:Around}{E:Value->Shared->Prop}{s:Shared}
theorem qc{l:Addr}{vs:List Value}{Q:List Value->Shared->Prop}(hl:s.heap.IsTuple l vs.toArray)
  (h:Q vs { s with heap:=(s.heap.push (seqObj "list" #[] 0)).update s.heap.objs.size (Obj.mapSeq (· ++ vs.toArray)) }) (hsz:vs.length<=sizeLine):wpAny (model prog w) A (collect (.ref l)) Q E s:=by
 obtain⟨o,ho,hc,n,hd⟩:=id hl;unfold collect;refine J9 (Ve (Yy entry_proto_collect' ?_))
 show wpAny _ _ (do again (.builtin "list.__iadd__" ⟨[<- newList [],.ref l],[]⟩)) _ _ s;refine J9 (Uu (Ja ⟨Vd _ (by decide +kernel),Yy entry_list_iadd' ?_⟩))
 show wpAny _ _ (Builtin.List.listExtendWith (.ref s.heap.objs.size) (.ref l) (.ref s.heap.objs.size)) _ _ { s with heap:=s.heap.push (seqObj "list" #[] 0) };unfold Builtin.List.listExtendWith
 have ho':(s.heap.push (seqObj "list" #[] 0)).get? l=some o:=Jb _ ho
 refine J9 (Qs (T:="tuple") ⟨o,ho',hc⟩ ?_)
 have ht:(Value.type "tuple" == Value.type "tuple")=true:=by rfl
 rw[Je (by rw[ht];simp)];refine J9 (listItems_at ho' hd ?_);refine J9 (listItems_at (xs:=#[]) (n:=0) (Jo _ rfl) rfl ?_);rw[Ji (by simp)]
 refine J9 (listUpdate_at (xs:=#[]) (n:=0) (Jo _ rfl) rfl ?_ (Y2 _) (by show(#[]++vs.toArray).size<=sizeLine+1;simp only[Array.size_append,Jr,Y3];omega));refine Ja ?_
 show wpAny (model prog w) A (do
   let o <- load s.heap.objs.size
   match o.data with
   |.seq xs _=>pure xs.toList
   |_=>unsupported "internal:collect") Q E { s with heap:=(s.heap.push (seqObj "list" #[] 0)).update s.heap.objs.size (Obj.mapSeq (· ++ vs.toArray)) }
 refine J9 (wpAny_load (Ua (Jo _ rfl) _) ?_);show wpAny _ _ (pure ((#[]:Array Value)++vs.toArray).toList) Q E _
 rw[show((#[]:Array Value)++vs.toArray).toList=vs by simp];exact Ja h
theorem collects{k:Bool}{l:Addr}{vs:List Value}{Q:List Value->Shared->Prop}(hl:Is k s.heap l vs.toArray)
  (h:Q vs { s with heap:=(s.heap.push (seqObj "list" #[] 0)).update s.heap.objs.size (Obj.mapSeq (· ++ vs.toArray)) }) (hsz:vs.length<=sizeLine):wpAny (model prog w) A (collect (.ref l)) Q E s:=by
 cases k with
 |true=>exact qc hl h hsz
 |false=>exact collect_list hl h hsz
end
end SQ
namespace PD
open PySem PySem.Spec PyProof.Rows L2
section
variable{X:Cx}{E:XK}
theorem jm{K:Frag}{w:Wd}{H:Hp}:∀{ds:List D}{vs:List V}{us:List Value}{ns:List Int},RDs K w H ds vs->Vals vs us->intsOf ds=some ns->IntsAre us ns
 |[],_,_,_,q,r,h=>by rw[q.nil_inv]at r;cases r;unfold intsOf at h;cases h;exact .nil
 |d::ds,_,_,ns,q,r,h=>by
  obtain⟨y,vs,rfl,p,t⟩:=q.cons_inv;cases d with
  |int b=>
   unfold intsOf at h;cases e':intsOf ds with
   |none=>rw[e']at h;cases h
   |some cs=>
    rw[e']at h;cases h;cases p.int;cases r with
    |cons r1 r2=>
     obtain⟨t',rfl⟩:=r1;exact .cons _ _ (jm t r2 e')
  |_=>unfold intsOf at h;cases h
theorem oG:∀{us:List Value}{ns:List Int},IntsAre us ns->Vals (ns.map .int) us
 |_,_,.nil=>.nil
 |_,_,.cons _ _ h=>.cons ⟨_,rfl⟩ (oG h)
theorem jn{K:Frag}{w:Wd}{H:Hp}:∀ns:List Int,RDs K w H (ns.map .int) (ns.map .int)
 |[]=>.nil
 |n::ns=>.cons (by unfold RD;rfl) (jn ns)
noncomputable def zK(neg:Bool):Sto->D->D->Option D:=λ_ a b=>match b with
 |.non=>match a with
  |.non=>some (.bl (!neg))
  |.int _=>some (.bl neg)
  |.bl _=>some (.bl neg)
  |.str _=>some (.bl neg)
  |.tup _=>some (.bl neg)
  |.lst _=>some (.bl neg)
  |.ref _=>some (.bl neg)
  |.dic _=>some (.bl neg)
  |_=>none
 |_=>none
theorem sg{neg:Bool}{S:Sto}{a b z:D}(h:zK neg S a b=some z):b=.non/\((a=.non/\z=.bl (!neg))\/(z=.bl neg/\∀(K:Frag)(w:Wd)(H:Hp)(v:V),RD K w H a v->v≠.non)):=by
 cases b<;>first|(cases h;done)|skip
 refine⟨rfl,?_⟩;cases a with
 |non=>cases h;exact .inl ⟨rfl,rfl⟩
 |int i=>cases h;exact .inr ⟨rfl,λK w H v q z=>by cases q.int;cases z⟩
 |bl i=>cases h;exact .inr ⟨rfl,λK w H v q z=>by cases q.bl;cases z⟩
 |str i=>cases h;exact .inr ⟨rfl,λK w H v q z=>by cases q.str;cases z⟩
 |tup i=>cases h;exact .inr ⟨rfl,λK w H v q z=>by obtain⟨p,vs,e,_⟩:=q.tupI;rw[e]at z;cases z⟩
 |lst i=>cases h;exact .inr ⟨rfl,λK w H v q z=>by obtain⟨p,vs,e,_⟩:=q.lstI;rw[e]at z;cases z⟩
 |ref i=>cases h;exact .inr ⟨rfl,λK w H v q z=>by obtain⟨p,e,_⟩:=q.refI;rw[e]at z;cases z⟩
 |dic i=>cases h;exact .inr ⟨rfl,λK w H v q z=>by unfold RD at q;obtain⟨p,vs,e,_⟩:=q;rw[e]at z;cases z⟩
 |_=>cases h
theorem vF{v:Value}(hb:∀id,v≠.builtin id):plainIs v .none=true:=by cases v<;>first|rfl|(exact absurd rfl (hb _))
theorem zL{x:V}{v:Value}(r:RelV x v):∀id,v≠.builtin id:=by
 intro id e;subst e
 cases x<;>first|(cases r;done)|(obtain⟨_,e⟩:=r;cases e;done)|skip
theorem vG{x:V}{v:Value}(r:RelV x v)(h:x≠.non):v≠.none:=by
 intro e;subst e
 cases x<;>first|(exact h rfl)|(cases r;done)|(obtain⟨_,e⟩:=r;cases e;done)|skip
theorem xr:OpR X (compareOp .IsNot) (xO X.K E (zK true)):=by
 rintro pins s σ H x y v u Q I rx ry ⟨w,S,d,e,hS,qd,qe,p⟩;obtain⟨z,hz,p⟩:=p.of;obtain⟨rfl,h⟩:=sg hz
 have ey:y=.non:=by unfold RD at qe;exact qe
 subst ey;cases ry;rcases h with⟨rfl,rfl⟩|⟨rfl,h⟩
 .have ex:x=.non:=by unfold RD at qd;exact qd
  subst ex;cases rx;exact wpAny_isNot_self rfl ⟨.bl false,H,I,rfl,p.ret RD.mkB hS⟩
 .have hx:=h _ _ _ _ qd;exact wpAny_isNot_other (vF (zL rx)) (vG rx hx) ⟨.bl true,H,I,rfl,p.ret RD.mkB hS⟩
end
noncomputable def eBR(f:Sto->List D->R D)(t:AM):EM:=λr S=>(t r S).bind λxs S1=>f S1 xs
noncomputable def xCR(K:Frag)(E:XK)(f:Sto->List D->R D):List V->Hp->VK->Prop:=λxs H Q=>∃w S ds,RS K w H S/\RDs K w H ds xs/\az K E (RD K) w H (f S ds) Q
section
variable{X:Cx}{E:XK}{a b:Expr}{es:List Expr}{ms:AM}{x:Str}{p pos:Pos}
theorem lQ{T:String}{f:Sto->List D->R D}(hc:bI X (.type T) (xCR X.K E f))(hg:Gl X x)(hm:X.mg x=none)(hv:bootBuiltins x=some (.type T))(ha:SA X E (a::es) ms)(hn:autoParam (x ≠ "__name__") zz3._auto_1)(hdb:autoParam ((x == ("__debug__":Str))=false) zz3._auto_1)
  (he:autoParam (starEach (a::es) X.env=(false,eval a X.env)::starEach es X.env) zz0._auto_1) (hpl:autoParam ((backTo pos (starEach es X.env)).any (·.1)=false) zz0._auto_1):SE X E (.Call (.Name x p) (a::es) [] pos) (eBR f ms):=⟨
 aR (iF hc hg hm hv ha.out hn hdb he hpl) λs H Q zq=>ex6 zq λw r S hr hS hp=>⟨w,r,S,hr,hS,hp.bind hS λds S1 w1 H1 vs x1 q1 s1 p1=>⟨w1,S1,ds,s1,q1,p1⟩⟩⟩
end
noncomputable def dQ(S:Sto):D->Option (List (KD×D))
 |.dic kvs=>some kvs
 |.ref n=>match S[n]? with
  |some (.dic kvs)=>some kvs
  |some (.fdic kvs)=>some kvs
  |_=>none
 |_=>none
noncomputable def gg(kvs:List (KD×D))(k:KD):Option D:=(kvs.find? λkv=>decide (kv.1=k)).map (·.2)
section
variable{K:Frag}{w:Wd}{H:Hp}{S:Sto}
theorem ki{d:D}{v:V}{kvs:List (KD×D)}(hS:RS K w H S)(q:RD K w H d v)(h:dQ S d=some kvs):∃p us,v=.ref p/\Rd H p (.dK us)/\RDk K w H kvs us:=by
 unfold dQ at h;split at h
 .cases h;unfold RD at q;obtain⟨p,us,rfl,z,r⟩:=q;exact⟨p,us,rfl,.inl z.1,r⟩
 .rename_i n;obtain⟨p,rfl,hp⟩:=q.refI;split at h
  .rename_i e;cases h;obtain⟨p',hp',us,hv,r⟩:=hS.obj _ _ e;rw[hp]at hp';cases hp';exact⟨p,us,rfl,.inl hv,r⟩
  .rename_i e;cases h;obtain⟨p',hp',o,us,hv,r⟩:=hS.obj _ _ e;rw[hp]at hp';cases hp';exact⟨p,us,rfl,.inr ⟨o,hv⟩,r⟩
  .cases h
 .cases h
theorem RDk.get(k:KD):∀{ds:List (KD×D)}{us:List (Key×V)},RDk K w H ds us->(∀d,gg ds k=some d->∃v,gz us k=some v/\RD K w H d v)/\(gg ds k=none->gz us k=none)
 |[],us,q=>by
  rw[q.nil_inv]
  exact⟨λd h=>(by cases h),λ_=>rfl⟩
 |(j,d)::ds,_,q=>by
  obtain⟨v,r,rfl,p,t⟩:=q.cons_inv;by_cases hj:j=k
  .have e1:gg ((j,d)::ds) k=some d:=by unfold gg;rw[Zd];simp[hj]
   have e2:gz ((j,v)::r) k=some v:=by unfold gz;rw[Zd];simp[hj]
   rw[e1,e2]
   exact⟨λd' h=>by cases h;exact⟨v,rfl,p⟩,λh=>by cases h⟩
  .have e1:gg ((j,d)::ds) k=gg ds k:=by unfold gg;rw[Zd];simp[hj]
   have e2:gz ((j,v)::r) k=gz r k:=by unfold gz;rw[Zd];simp[hj]
   rw[e1,e2];exact RDk.get k t
theorem RDk.getO{ds:List (KD×D)}{us:List (Key×V)}(q:RDk K w H ds us)(k:KD):(gz us k).isSome=(gg ds k).isSome:=by
 obtain⟨h1,h2⟩:=q.get k;cases e:gg ds k with
 |none=>rw[h2 e];rfl
 |some d=>obtain⟨v,hv,_⟩:=h1 d e;rw[hv];rfl
end
section
variable{X:Cx}{E:XK}
theorem D8{f:Value->Value->Sem Value}{o o1 o2:Sto->D->D->Option D}(h1:OpR X f (xO X.K E o1))(h2:OpR X f (xO X.K E o2))(h:∀S x y,o S x y=o1 S x y\/o S x y=o2 S x y):OpR X f (xO X.K E o):=by
 rintro pins s σ H x y v u Q I rx ry ⟨w,S,d,e,hS,qd,qe,p⟩;rcases h S d e with z|z
 .exact h1 pins s σ H x y v u Q I rx ry ⟨w,S,d,e,hS,qd,qe,z▸p⟩
 .exact h2 pins s σ H x y v u Q I rx ry ⟨w,S,d,e,hS,qd,qe,z▸p⟩
theorem Room.hu{k:Nat}{A:Around}(r:Room k A):A.units+1<cLine:=by have:=r.un;omega
noncomputable def zM(neg:Bool):Sto->D->D->Option D:=λS x y=>match dQ S y,jk x with
 |some kvs,some k=>some (.bl (if neg then !(gg kvs k).isSome else (gg kvs k).isSome))
 |_,_=>none
noncomputable def sh(neg:Bool):Sto->D->D->Option D:=λS x y=>if (bO S y).isSome then oIn neg S x y else zM neg S x y
theorem vH{k:Nat}(hr:Room k X.A):OpR X (compareOp .NotIn) (xO X.K E (zM true)):=by
 rintro pins s σ H x y v u Q I rx ry ⟨w,S,d,e,hS,qd,qe,p⟩;obtain⟨z,hz,p⟩:=p.of;unfold zM at hz;split at hz
 .rename_i kvs k e1 e2;cases hz;obtain⟨pp,us,rfl,rd,rk⟩:=ki hS qe e1;cases ry;have ex:=jl qd e2;subst ex;refine zh (Room.hu hr) I (.inl ⟨us,k,rd,rfl,rfl⟩) rx λs' I'=>⟨.bl _,H,I',rfl,?_⟩;rw[rk.getO k];exact p.ret RD.mkB hS
 .cases hz
theorem vI{k:Nat}(hr:Room k X.A):OpR X (compareOp .NotIn) (xO X.K E (sh true)):=D8 ji (vH hr) λS x y=>by
 unfold sh;cases (bO S y).isSome with
 |true=>exact .inl rfl
 |false=>exact .inr rfl
noncomputable def tZ:Sto->D->D->D->Option Sto
 |S,.ref n,y,v=>match S[n]? with
  |some (.dic kvs)=>match jk y with
   |some k=>if kvs.length<sizeLine then some (S.set n (.dic (putD kvs k v))) else none
   |none=>none
  |_=>none
 |_,_,_,_=>none
noncomputable def t4(S:Sto):D->Bool
 |.ref n=>match S[n]? with
  |some (.dic _)=>true
  |_=>false
 |_=>false
noncomputable def nB:Sto->D->D->D->Option Sto:=λS x y v=>if t4 S x then tZ S x y v else xh S x y v
theorem zN{k:Nat}(hr:Room k X.A):nZ X (xS X.K tZ):=by
 rintro pins s σ H o i v ov iv u Q I ro ri ru ⟨w,S,x,y,z,S',hS,qx,qy,qz,hf,kk⟩;unfold tZ at hf;split at hf
 .rename_i n;split at hf
  .rename_i kvs hn;split at hf
   .rename_i ky hk;split at hf
    .rename_i hl;cases hf;obtain⟨pp,rfl,hp⟩:=qx.refI;cases ro;obtain⟨p',hp',us,hv,rk⟩:=hS.obj _ _ hn;rw[hp]at hp';cases hp';have ey:=jl qy hk;subst ey;have hm:pp∈w.st:=Za hp
     have hul:us.length<sizeLine:=by rw[rk.length];exact hl
     refine vm (Room.hu hr) I (zg.k hv hul) ri ru λs' I'=>⟨_,I',kk w _ (Ext.mut hm hv) (hS.mut hp hv ⟨_,aC,?_⟩)⟩;exact RDk.ext (Ext.mut hm hv) _ _ (rk.put ky qz)
    .cases hf
   .cases hf
  .cases hf
 .cases hf
theorem D9{f f1 f2:Sto->D->D->D->Option Sto}(h1:nZ X (xS X.K f1))(h2:nZ X (xS X.K f2))(h:∀S x y v,f S x y v=f1 S x y v\/f S x y v=f2 S x y v):nZ X (xS X.K f):=by
 rintro pins s σ H o i v ov iv u Q I ro ri ru ⟨w,S,x,y,z,S',hS,qx,qy,qz,hf,kk⟩;rcases h S x y z with e|e
 .exact h1 pins s σ H o i v ov iv u Q I ro ri ru ⟨w,S,x,y,z,S',hS,qx,qy,qz,e▸hf,kk⟩
 .exact h2 pins s σ H o i v ov iv u Q I ro ri ru ⟨w,S,x,y,z,S',hS,qx,qy,qz,e▸hf,kk⟩
theorem zO{k:Nat}(hr:Room k X.A):nZ X (xS X.K nB):=D9 (zN hr) xi λS x y v=>by
 unfold nB;cases t4 S x with
 |true=>exact .inl rfl
 |false=>exact .inr rfl
noncomputable def lR(o a b:EM):EM:=λr S=>(o r S).bind λd S1=>if (dQ S1 d).isSome=true then (a r S1).bind λy S2=>(b r S2).bind λz S3=>(match dQ S3 d,jk y with
  |some kvs,some k=>R.ok ((gg kvs k).getD z) S3
  |_,_=>R.bad) else R.bad
theorem Ea{o e f:Expr}{m:Str}{apos cpos:Pos}(h1:attributeBase o m X.env (eval o X.env)=eval o X.env)(h2:((backTo cpos (starEach [e,f] X.env)).all (λx=>!x.1)&&(backToKw cpos (keywordEach [] X.env)).all (λx=>x.1.isSome)
  && decide (([e,f]:List Expr).length+([]:List Keyword).length+(if ([]:List Keyword).isEmpty then 0 else 1)<30))=true) (h3:(apos.endLine == cpos.line)=true) (h4:backTo cpos (starEach [e,f] X.env)=[(false,eval e X.env),(false,eval f X.env)]):M2 X o m apos e f cpos:=⟨h1,h2,h3,h4⟩
theorem zP{o e f:Expr}{mo ma mb:EM}{apos cpos:Pos}{k:Nat}(hr:Room k X.A)(ho:SE X E o mo)(ha:SE X E e ma)(hb:SE X E f mb)(m:M2 X o "get" apos e f cpos):SE X E (.Call (.Attribute o "get" apos) [e,f] [] cpos) (lR mo ma mb):=⟨
 aR (wK (Room.hu hr) ho.out ha.out hb.out m) λs H Q zq=>ex6 zq λw r S hrr hS hp=>⟨w,r,S,hrr,hS,hp.bind hS λd S1 w1 H1 v x1 q1 s1 p1=>by
  cases hd:dQ S1 d with
  |none=>rw[hd]at p1;exact p1.elim
  |some kvs=>
   rw[hd]at p1;obtain⟨pp,us,rfl,rd,rk⟩:=ki s1 q1 hd;refine⟨pp,rfl,.inl ⟨us,rd⟩,w1,r,S1,hrr.ext x1,s1,az.bind (rel:=RD X.K) p1 s1 λy S2 w2 H2 vy x2 q2 s2 p2=>⟨w2,r,S2,(hrr.ext x1).ext x2,s2,az.bind (rel:=RD X.K) p2 s2 λz S3 w3 H3 vz x3 q3 s3 p3=>?_⟩⟩;have q1':=RD.ext x3 _ _ (RD.ext x2 _ _ q1);have q2':=RD.ext x3 _ _ q2;cases hd3:dQ S3 d with
   |none=>rw[hd3]at p3;exact p3.elim
   |some kvs3=>
    cases hk:jk y with
    |none=>rw[hd3,hk]at p3;exact p3.elim
    |some ky=>
     rw[hd3,hk]at p3;obtain⟨pp3,us3,e3,rd3,rk3⟩:=ki s3 q1' hd3;cases e3;have ey:=jl q2' hk;subst ey;refine⟨gz us3 ky,.inl ⟨us3,ky,rd3,rfl,rfl⟩,?_⟩;obtain⟨g1,g2⟩:=rk3.get ky;have p4:az X.K E (RD X.K) w3 H3 (R.ok ((gg kvs3 ky).getD z) S3) Q:=p3;cases hg:gg kvs3 ky with
     |none=>rw[hg]at p4;rw[g2 hg];exact az.ret p4 q3 s3
     |some dd=>rw[hg]at p4;obtain⟨vd,hv,rv⟩:=g1 dd hg;rw[hv];exact az.ret p4 rv s3⟩⟩
end
end PD
namespace L2
open PySem PySem.Spec PyProof.Rows
variable{X:Cx}{s:Shared}
theorem qf{P:Program}{w:World}{k:Key}{u:Value}(h:(aV P w).is k u=true):RelV (kV k) u:=by
 rw[rE]at h;cases k with
 |inl i=>obtain⟨t,e⟩:=Vh (k:=i) (v:=u) h;exact⟨t,e⟩
 |inr x=>obtain⟨t,e⟩:=Value.isStrOf_shape (x:=x) (v:=u) h;exact⟨t,e⟩
theorem KV.getI{kvs:List (Key×V)}{vs:List (Key×Value)}(r:KV kvs vs){i:Nat}{k:Key}{x:V}(h:kvs[i]?=some (k,x)):∃v,vs[i]?=some (k,v)/\RelV x v:=by
 unfold KV at r
 induction r generalizing i with
 |nil=>simp at h
 |cons hd tl ih=>
  cases i with
  |zero=>
   simp at h;rename_i p q _ _;obtain⟨e,rv⟩:=hd;subst h
   exact⟨q.2,by simp;exact Prod.ext e.symm rfl,rv⟩
  |succ i=>simpa using ih (by simpa using h)
noncomputable def Iti(a:Addr)(o:Obj)(us:List (Key×V)):It:=
  ⟨λi H=>H a=some (.frz o (.dK us))/\∃kv,us[i]?=some kv,
   λi H v H'=>∃p k x,v=.ref p/\H p=none/\H'=upd H p (.tup [kV k,x])/\us[i]?=some (k,x),
   λi H=>H a=some (.frz o (.dK us))/\us.length<=i⟩
theorem oH{pins:List (Addr×Obj)}{σ:St}{H:Hp}{a:Addr}{o:Obj}{us:List (Key×V)}{es:Array DictEntry}{ep:Nat}(I:Inv X pins σ H s)(h:H a=some (.frz o (.dK us)))(ed:o.data=.dict es ep):
  ∃vs,KV us vs/\s.heap.DictAt (aV X.prog X.w) a vs ep/\(a == sysModules)=false:=by
 obtain⟨e,z,hd,vs,rel,⟨o',es',ep',ho,hx,hdat,k1,k2,k3⟩⟩:s.heap.get? a=some o/\bw X.prog X.w H s.heap a (.dK us):=I.hok a _ h;rw[e]at ho;cases ho;rw[ed]at hdat;cases hdat;exact⟨vs,rel,⟨o,es,e,hx,ed,k1,k2,k3⟩,hd⟩
theorem oI:entryFor table "dict_itemiterator.__iter__" = some Builtin.«dict_keyiterator.__iter__»:=
 entryFor_alias (id':="dict_keyiterator.__iter__") (by kernel_rfl) (by first|rfl|decide +kernel|(unfold String.splitOn;simp +decide [String.splitOnAux])) (by decide +kernel) (by kernel_rfl)
theorem qg{prog:Program}{w:World}{A:Around}{E:Value->Shared->Prop}{it d:Addr}{i n ep:Nat}{ok ov:Value}{Q:Value->Shared->Prop}(hz:IsItemIter s.heap it d i n ep ok ov)(h:Q (.ref it) s):wpAny (model prog w) A (pyIter (.ref it)) Q E s:=by
 have hT:s.TypeIs (.ref it) "dict_itemiterator":=⟨_,hz,rfl⟩
 refine G3 hT F.slot_dict_itemiterator_iter (Yo F.slot_dict_itemiterator_iter hT oI ?_ (F.args_dict_itemiterator_iter_1 _));show wpAny _ _ (ret (.ref it)) _ _ s;exact Ja ⟨_,rfl,"dict_itemiterator",_,hT,F.slot_dict_itemiterator_next.lookup,h⟩
theorem si{P:Program}{w:World}{K:Frag}{es:List Expr}{n:Nat}{pos:Pos}(it a:Addr)(o:Obj)(us:List (Key×V))(ee:Array DictEntry)(ep:Nat)(ed:o.data=.dict ee ep)(na:a≠it):
  Turn false P w K (.Tuple es n pos) (Iti a o us) [it] it (λi h=>∃ok ov,IsItemIter h it a i us.length ep ok ov) where
 mem:=by simp
 obj:=λi h ⟨ok,ov,st⟩ c hc=>by
  simp only[Jq,Yh,Q0]at hc;subst hc
  exact⟨_,st,λv z=>by cases z⟩
 keep:=λi h h' ⟨ok,ov,st⟩ q=>⟨ok,ov,q it (by simp) _ st⟩
 item:=by
  intro X hP hw hK hc i pins s σ H E I hf ⟨ok,ov,st⟩ hg;subst hP hw hK;obtain⟨ha,⟨k,x⟩,hx⟩:=hg;obtain⟨vs,rel,dd,_⟩:=oH I ha ed;obtain⟨v,hv,rv⟩:=rel.getI hx;have hl:=rel.length;rw[hl]at st
  have hlt:∀c∈[it],c<s.heap.objs.size:=λc hc=>by simp only[Jq,Yh,Q0]at hc;subst hc;exact Jn st
  refine wpAny_pyNext_items_item st dd hv λkey h' hk a1 a2 a3 a4=>⟨_,rfl,?_⟩
  refine wpAny_letOwnedTupleGo_items (s:={ s with heap:=h' }) a1 λh2' hz' hs'=>?_
  have up:∀c ob,c≠it->h'.get? c=some ob->h2'.get? c=some ob:=λc ob n q=>SQ.sb hs' n q
  refine⟨.ref s.heap.objs.size,_,I.turnedP (t':=s.toks) (h':=h2') hf hlt (qf hk) rv (λc ob hc q=>up c ob (λr=>hc (by simp[r])) (a4 c ob (λr=>hc (by simp[r])) q)) (up _ _ (Qg (Jn st)) a2),rfl,
   ⟨_,k,x,rfl,I.fresh,rfl,hx⟩,⟨_,_,by rw[hl];exact hz'⟩,tW hf hlt⟩
 done:=by
  intro X hP hw hK hc i pins s σ H E I hf ⟨ok,ov,st⟩ hg;subst hP hw hK;obtain⟨ha,hx⟩:=hg;obtain⟨vs,rel,dd,_⟩:=oH I ha ed;have hl:=rel.length;rw[hl]at st
  exact wpAny_pyNext_items_end (I.ok.hd hc.cm) st dd (by simp;omega) λh' eb=>⟨rfl,I.turnedS (t':=s.toks) (λb ob hb q=>eb b ob (λr=>hb (by simp[r])) q) hf⟩
 self:=λ_ _ _ _ _ ⟨_,_,st⟩ h=>qg st h
theorem Inv.freeze{pins:List (Addr×Obj)}{σ:St}{H:Hp}{a:Addr}{us:List (Key×V)}(I:Inv X pins σ H s)(h:H a=some (.dK us)):∃o,Inv X pins σ (upd H a (.frz o (.dK us))) s:=by
 obtain⟨z,hd,vs,rel,⟨o,es,ep,ho,r⟩⟩:bw X.prog X.w H s.heap a (.dK us):=I.hok a _ h
 have I2:Inv X pins σ (upd H a (.frz o (.dK us))) { s with heap:=s.heap,toks:=s.toks }:=I.write (x:=a) (e:=a) (by rw[h];exact True.intro) (.inl rfl) (λb u _ q=>q) ⟨o,ho⟩ ⟨ho,z,hd,vs,rel,⟨o,es,ep,ho,r⟩⟩
 exact⟨o,I2⟩
noncomputable def Ck(td:TE):TI:=λσ H R=>td σ H λx H1=>∃a us,x=.ref a/\((H1 a=some (.dK us)/\∀o,R (Iti a o us) (upd H1 a (.frz o (.dK us)))) \/ ∃o,H1 a=some (.frz o (.dK us))/\R (Iti a o us) H1)
theorem xt{es:List Expr}{n:Nat}{tp:Pos}{d:Expr}{td:TE}{apos pos:Pos}(hd:PE X d td)(hbase:autoParam (attributeBase d "items" X.env (eval d X.env)=eval d X.env) zz0._auto_1)(hline:autoParam ((apos.endLine == pos.line)=true) zz0._auto_1)
  (hfew:autoParam (((backTo pos (starEach [] X.env)).all (λx=>!x.1)&&(backToKw pos (keywordEach [] X.env)).all (λx=>x.1.isSome)&&decide (([]:List Expr).length+([]:List Keyword).length+(if ([]:List Keyword).isEmpty then 0 else 1)<30))=true) zz0._auto_1):
  PI X (.Tuple es n tp) (.Call (.Attribute d "items" apos) [] [] pos) (Ck td):=by
 intro pins s σ H R I h;refine wpAny_Call_method (T:="dict") (id:="dict.items") hbase hfew hline F.plainAttrs_dict F.slot_dict_items F.type_dict_items (thn (hd pins s σ H _ I h) λu s1 zq=>?_)
 obtain⟨x,H1,I1,rx,a,us,ex,q1⟩:=zq;subst ex;obtain rfl:u=Value.ref a:=rx
 have main:∀(H2:Hp)(o:Obj),Inv X pins σ H2 s1->H2 a=some (.frz o (.dK us))->R (Iti a o us) H2->s1.TypeIs (.ref a) "dict"/\(∀b,Value.ref a=.ref b->∃ob,s1.heap.get? b=some ob/\ob.dict=none)/\
   wpAny (model X.prog X.w) X.A (callWith pos (.builtin "dict.items") [.ref a] (backTo pos (starEach [] X.env)) []) (λv s2=>wpAny (model X.prog X.w) X.A (pyIter v) (PIE X pins σ (.Tuple es n tp) R) X.xe s2) X.xe s1:=λH2 o I2 hH2 q=>by
  obtain⟨t1,t2,t3⟩:=wJ I2 (a:=a) (.inl ⟨us,.inr ⟨o,hH2⟩⟩);refine⟨t1,t2,?_⟩;obtain⟨eo,z,hdd,vs,rel,⟨o',ee,ep,ho,hx,hdat,k1,k2,k3⟩⟩:s1.heap.get? a=some o/\bw X.prog X.w H2 s1.heap a (.dK us):=I2.hok a _ hH2;rw[eo]at ho;cases ho;have dat:s1.heap.DictAt (aV X.prog X.w) a vs ep:=⟨o,ee,eo,hx,hdat,k1,k2,k3⟩;show wpAny _ _ (callWith pos (.builtin "dict.items") [.ref a] [] []) _ _ s1
  refine method_meetsIn F.slot_dict_items F.entry_dict_items rfl (PySem.evalArgs_none ⟨rfl,t1,F.args_dict_items_1 _,_,meets_dict_items (aV X.prog X.w) a t3,⟨vs,dat.dictOf⟩,?_⟩)
  have I3:Inv X pins σ H2 { s1 with heap:=s1.heap.push { cls:=.type "dict_items",data:=.fields #[.ref a] } }:=I2.kept (t':=s1.toks) λb u e=>Jb _ e
  refine wpAny_pyIter_items (s:={ s1 with heap:=s1.heap.push { cls:=.type "dict_items",data:=.fields #[.ref a] } }) ⟨_,Jo _ rfl,rfl,rfl⟩ (dat.push _) ?_
  have hl:=rel.length;have la:a<s1.heap.objs.size:=Jn eo
  have sz:({ s1 with heap:=s1.heap.push { cls:=.type "dict_items",data:=.fields #[.ref a] } }:Shared).heap.objs.size=s1.heap.objs.size+1:=Zb ..
  refine⟨_,[_],_,_,H2,rfl,I3.kept (t':=s1.toks) λb u e=>Jb _ e,si _ a o us ee ep hdat (by rw[sz];exact Ju (Zq la)),⟨.none,.none,by rw[hl];exact Jo _ rfl⟩,λc hc=>?_,q⟩
  have ec:c=({ s1 with heap:=s1.heap.push { cls:=.type "dict_items",data:=.fields #[.ref a] } }:Shared).heap.objs.size:=by simpa using hc
  subst ec;exact I3.fpOk (Jd _) (I3.hok.fresh (Jd _))
 rcases q1 with⟨hH,q⟩|⟨o,hH,q⟩
 .obtain⟨o,I2⟩:=I1.freeze hH;exact main _ o I2 aC (q o)
 .exact main _ o I1 hH q
end L2
namespace PD
open PySem PySem.Spec PyProof.Rows L2
variable{w:Wd}{H:Hp}
noncomputable def kD:KD->D
 |.inl i=>.int i
 |.inr x=>.str x
noncomputable def pairD(kv:KD×D):D:=.tup [kD kv.1,kv.2]
noncomputable def kj(m:EM):AM:=λr S=>(m r S).bind λd S1=>match d with
 |.ref n=>match S1[n]? with
  |some (.dic kvs)=>.ok (kvs.map pairD) (S1.set n (.fdic kvs))
  |some (.fdic kvs)=>.ok (kvs.map pairD) S1
  |_=>.bad
 |_=>.bad
theorem RDk.getI{K:Frag}:∀{ds:List (KD×D)}{us:List (Key×V)}{i:Nat}{k:KD}{d:D},RDk K w H ds us->ds[i]?=some (k,d)->∃v,us[i]?=some (k,v)/\RD K w H d v
 |[],_,_,_,_,_,h=>by simp at h
 |(j,e)::ds,_,i,k,d,q,h=>by
  obtain⟨v,r,rfl,p,t⟩:=q.cons_inv;cases i with
  |zero=>simp at h;obtain⟨rfl,rfl⟩:=h;exact⟨v,by simp,p⟩
  |succ i=>simpa using RDk.getI t (by simpa using h)
theorem Cm{K:Frag}(k:KD):RD K w H (kD k) (kV k):=by
 cases k with
 |inl i=>unfold kD RD;rfl
 |inr x=>unfold kD RD;rfl
theorem qh{K:Frag}{a:Addr}{o:Obj}{kvs:List (KD×D)}{us:List (Key×V)}(hst:∀w' H',Ext w H w' H'->H' a=some (.frz o (.dK us)))(rk:RDk K w H kvs us):RI K w H (kvs.map pairD) (Iti a o us):=by
 intro i w' H' x';have rk':=RDk.ext x' _ _ rk;have hl:=rk.length;have ha:=hst w' H' x'
 refine⟨λhi=>?_,λhi=>⟨ha,by rw[Jg]at hi;omega⟩⟩
 rw[Jg]at hi
 refine⟨⟨ha,us[i]'(by omega),Jc _⟩,λv H'' y=>?_⟩
 obtain⟨p,k,x,rfl,hp,rfl,hx⟩:=y
 obtain⟨v2,e2,r2⟩:=rk'.getI (i:=i) (k:=kvs[i].1) (d:=kvs[i].2) (by rw[Jc hi])
 rw[hx]at e2;cases e2
 refine⟨.inr ⟨p,_,hp,rfl⟩,λS hS=>⟨pairD kvs[i],by simp[hi],?_⟩⟩
 unfold pairD RD;refine⟨p,[kV kvs[i].1,x],rfl,.inl ⟨aC,hS.fresh hp⟩,?_⟩;unfold RDs RDs RDs;exact⟨_,_,rfl,Cm _,_,_,rfl,RD.ext (Ext.new hp) _ _ r2,rfl⟩
section
variable{X:Cx}{E:XK}
theorem qi{es:List Expr}{n:Nat}{tp:Pos}{d:Expr}{md:EM}{apos pos:Pos}(ha:SE X E d md)(hbase:autoParam (attributeBase d "items" X.env (eval d X.env)=eval d X.env) zz0._auto_1)(hline:autoParam ((apos.endLine == pos.line)=true) zz0._auto_1)
  (hfew:autoParam (((backTo pos (starEach [] X.env)).all (λx=>!x.1)&&(backToKw pos (keywordEach [] X.env)).all (λx=>x.1.isSome)&&decide (([]:List Expr).length+([]:List Keyword).length+(if ([]:List Keyword).isEmpty then 0 else 1)<30))=true) zz0._auto_1):
  SI X E (.Tuple es n tp) (.Call (.Attribute d "items" apos) [] [] pos) (kj md):=⟨
 fo (xt ha.out hbase hline hfew) λs H Q zq=>ex6 zq λw r S hr hS hp=>⟨w,r,S,hr,hS,hp.bind hS λd S1 w1 H1 v x1 q1 s1 p1=>by
  cases d with
  |ref m=>
   obtain⟨pp,rfl,hp⟩:=q1.refI;have hm:pp∈w1.st:=Za hp;cases e:S1[m]? with
   |none=>simp only[e]at p1;exact p1.elim
   |some ob=>
    obtain⟨p',hp',ro⟩:=s1.obj _ _ e;rw[hp]at hp';cases hp';cases ob with
    |dic kvs=>
     simp only[e]at p1;obtain⟨us,hv,rk⟩:=ro;refine⟨pp,us,rfl,.inl ⟨hv,λo=>?_⟩⟩;have rk':=RDk.ext (Ext.mut hm hv (o:=.frz o (.dK us))) _ _ rk;exact az.at p1 (Ext.mut hm hv) (qh (λw' H' x'=>x'.frz _ _ _ aC) rk') (s1.mut hp hv ⟨o,us,aC,rk'⟩)
    |fdic kvs=>
     simp only[e]at p1;obtain⟨o,us,hv,rk⟩:=ro;exact⟨pp,us,rfl,.inr ⟨o,hv,az.ret p1 (qh (λw' H' x'=>x'.frz _ _ _ hv) rk) s1⟩⟩
    |lst xs=>simp only[e]at p1;exact p1.elim
    |ins c fs=>simp only[e]at p1;exact p1.elim
    |flst xs=>simp only[e]at p1;exact p1.elim
  |_=>exact p1.elim⟩⟩
end
def TupAt(K:Frag)(mg:Str->Option Value)(x:Str)(is:List Int):Prop:=∃a,mg x=some (.ref a)/\pN K a (is.map .int)
section
variable{X:Cx}{E:XK}
theorem rdi{K:Frag}:∀is:List Int,RDs K w H (is.map .int) (is.map .int)
 |[]=>.nil
 |i::is=>.cons (by unfold RD;rfl) (rdi is)
theorem A1{x:Str}{is:List Int}{pos:Pos}(h:TupAt X.K X.mg x is)(hg:Gl X x)(hd:autoParam ((x == ("__debug__":Str))=false) zz3._auto_1):SE X E (.Name x pos) (eC (.tup (is.map .int))):=by
 obtain⟨a,hm,k⟩:=h
 exact pP (nY hg hm (v:=.ref a) rfl hd) λ_ _=>by unfold RD;exact⟨a,_,rfl,.inr k,rdi is⟩
end
theorem zQ{K:Frag}{h:Heap}{mg:Str->Option Value}(X:K.In h)(G:h.Ns mainGlobals mg){x:Str}{a:Addr}{od:Option Addr}{n:Nat}{sl:Array (Option Value)}{i j:Int}{t1 t2:Tok}(hn:nsIn K mainGlobals x=some (some (.ref a)))(hl:K.lookup a=some ⟨.type "tuple",od,.seq #[.int i t1,.int j t2] n,sl⟩):TupAt K mg x [i,j]:=
 ⟨a,Js X G hn,_,_,n,hl,rfl,rfl,by show 2<=sizeLine;decide,.cons ⟨t1,rfl⟩ (.cons ⟨t2,rfl⟩ .nil)⟩
section
variable{K:Frag}{w:Wd}{H:Hp}
theorem Mv.adopt{p:Addr}{o:HO}(hh:p∈w.hid):Mv w H ((w.unhide p).add p) (upd H p o):=
  ⟨λn a h=>by
      show(w.st++[p])[n]?=some a
      rw[Jw (Jf.mp h).1];exact h,
   λa u h=>⟨by rw[ax (λz:a=p=>h.2.2 (z▸hh))];exact h.1,λz=>by
      rcases Jt.mp z with z|z
      · exact h.2.1 z
      · exact h.2.2 (by rw[Jv.mp z];exact hh),λz=>h.2.2 (Wd.mem_unhide z).1⟩⟩
theorem RS.adopt{p:Addr}{o:HO}{so:SO}{S:Sto}(s:RS K w H S)(hh:p∈w.hid)(r:RO K ((w.unhide p).add p) (upd H p o) p so):RS K ((w.unhide p).add p) (upd H p o) (S++[so]):=by
 have np:=(s.hid p hh).1
 refine⟨?_,by simp[Wd.add,Wd.unhide,s.len],λn so' e=>?_,λa ha=>?_⟩
 .show(w.st++[p]).Nodup;rw[Vi]
  exact⟨s.nd,by simp,λa ha b hb=>by
   have:b=p:=by simpa using hb
   subst this;rintro rfl
   exact np ha⟩
 .by_cases hn:n<S.length
  .rw[Jw hn]at e;obtain⟨a,ha,q⟩:=s.obj n so' e;have ne:a≠p:=λz=>np (z▸Za ha)
   exact⟨a,(Mv.adopt (H:=H) (o:=o) hh).st n a ha,q.mv (Mv.adopt hh) λu z=>by rw[ax ne];exact z⟩
  .have hn':n=S.length:=by have:=(Jf.mp e).1;simp at this;omega
   subst hn';simp at e;subst e
   exact⟨p,by show(w.st++[p])[S.length]?=some p;rw[<- s.len];simp,r⟩
 .obtain⟨h1,h2⟩:=Wd.mem_unhide ha;obtain⟨h3,u,e⟩:=s.hid a h1
  refine⟨?_,u,by rw[ax h2];exact e⟩
  show a∉w.st++[p];intro z;rcases Jt.mp z with z|z
  .exact h3 z
  .exact h2 (by simpa using z)
end
section
variable{X:Cx}{E:XK}{pos:Pos}
theorem zR{keys:List (Option Expr)}{values:List Expr}{ms:List (EM×EM)}(h:SPs X E pos keys values ms)(hall:autoParam (keys.all (·.isSome)=true) zz0._auto_1)(hl:autoParam (keys.length=values.length) zz0._auto_1)(h0:keys≠[]:=by intro z;cases z)(h15:autoParam (keys.length<=15) zz3._auto_1):
  SE X E (.Dict keys values pos) (tQ ms):=⟨
 aR (tH h.out hall hl h0 h15) λs H Q q=>nz (keys:=keys) (values:=values) (m:=tQ ms) (fin:=λkvs S1=>R.ok (D.ref S1.length) (S1++[SO.dic (dv [] kvs)])) (λr S=>rfl) (λkvs us w0 w H0 H S0 S p hp s0 s x hh rk p1=>by
  have hpn:=(s.hid p hh).1
  refine az.at p1 (w1:=(w.unhide p).add p) ⟨λa o h n=>by rw[ax (aH h hp)];exact x.keep a o h n,?_,λa h=>Yv.mpr ⟨x.hid a h,Yc λz=>(s0.fresh hp).2 (z▸h)⟩,λa h=>x.hnew a (Wd.mem_unhide h).1,λa o u h=>by rw[ax (aH h hp)];exact x.frz a o u h⟩ ?_ (s.adopt hh ⟨_,aC,RDk.mv (Mv.adopt hh) _ _ rk⟩)
  .obtain⟨l,e,f⟩:=x.sub
   exact⟨l++[p],by show w.st++[p]=_;rw[e,Z8],λa ha=>(Jt.mp ha).elim (f a) λz=>by rw[Jv.mp z];exact hp⟩
  .unfold RD
   exact⟨p,rfl,by show(w.st++[p])[S.length]?=some p;rw[<- s.len];simp⟩) q⟩
noncomputable def A3:EM:=λ_ S=>.ok (.ref S.length) (S++[.dic []])
theorem zS:SE X E (.Dict [] [] pos) A3:=⟨
 aR pK λs H Q zq=>ex6 zq λw r S hr hS hp=>λp hpn=>az.at hp (Ext.alloc hpn) hS.lastRef (hS.alloc hpn ⟨[],aC,RDk.nil⟩)⟩
end
noncomputable def iY(S:Sto):D->Option (List D)
 |.lst a=>some a
 |.ref n=>match S[n]? with
  |some (.lst a)=>some a
  |_=>none
 |_=>none
section
variable{X:Cx}{E:XK}
theorem Cn{K:Frag}{S:Sto}{d:D}{v:V}{a:List D}(s:RS K w H S)(q:RD K w H d v)(h:iY S d=some a):∃p vs,v=.ref p/\SqL K H p vs/\RDs K w H a vs:=by
 unfold iY at h;split at h
 .cases h;obtain⟨p,vs,e,z,r⟩:=q.lstI;exact⟨p,vs,e,SqL.of z.1,r⟩
 .rename_i n;split at h
  .rename_i e;cases h;obtain⟨p,rfl,hp⟩:=q.refI;obtain⟨p',hp',vs,hv,r⟩:=s.obj _ _ e;rw[hp]at hp';cases hp';exact⟨p,vs,rfl,SqL.of hv,r⟩
  .cases h
 .cases h
end
section
variable{X:Cx}{E:XK}{pos:Pos}
theorem zT:SE X E (.Dict [] [] pos) (rW []):=⟨
 aR pK λs H Q zq=>ex6 zq λw r S hr hS hp=>λp hpn=>az.at (show az X.K E (RD X.K) w H (R.ok (D.dic []) S) Q from hp) (Ext.new hpn) (by unfold RD;exact⟨p,[],rfl,⟨aC,hS.fresh hpn⟩,RDk.nil⟩) (hS.new hpn)⟩
end
end PD
namespace PySem
open PyProof.Rows
section
variable{prog:Program}{w:World}{A:Around}{E:Value->Shared->Prop}{s:Shared}{K:Type}[DecidableEq K]{knd:KeyKind prog w K}
noncomputable def jo:Value->Option Int
 |.int i _=>some i
 |_=>none
noncomputable def dR(vs vs':List (K×Value)):Bool:=decide (vs.length=vs'.length)&&vs.all λkv=>decide ((valueAt vs' kv.1).bind jo=jo kv.2)
theorem sj{a b:Addr}{vs vs':List (K×Value)}{ep ep':Nat}{id:String}{Q:Bool->Shared->Prop}(ha:(a == sysModules)=false)(hb:(b == sysModules)=false)(dA:s.heap.DictAt knd a vs ep)(dB:s.heap.DictAt knd b vs' ep')
  (iA:∀kv∈vs,∃n t,kv.2=.int n t) (iB:∀kv∈vs',∃n t,kv.2=.int n t) (h:Q (dR vs vs') s):wpAny (model prog w) A (Builtin.Dict.samePairs id a b) Q E s:=by
 obtain⟨oa,ea,hoa,xa,hda,ka,pa,na⟩:=dA;obtain⟨ob,eb,hob,xb,hdb,kb,pb,nb⟩:=dB;unfold Builtin.Dict.samePairs;unfold Builtin.Dict.showsAll;rw[ha,hb];refine J9 (Ja ?_);refine J9 (Ja ?_);refine J9 (Vk hoa hda ?_);refine J9 (Vk hob hdb ?_)
 have la:ea.size=vs.length:=by have:=pa.length;simpa using this
 have lb:eb.size=vs'.length:=by have:=pb.length;simpa using this
 by_cases hsz:ea.size=eb.size
 .rw[Ji (by simp[hsz])]
  refine J9 (wpAny_dictEpoch hoa hda ?_);refine J9 ?_;rw[Std.Legacy.Range.forIn_eq_forIn_range'];simp only[Std.Legacy.Range.size,Nat.sub_zero,Nat.add_sub_cancel,Nat.div_one]
  have key:∀i (hi:i<ea.size),∃kv,vs[i]?=some kv/\knd.is kv.1 ea[i].key=true/\ea[i].hash=knd.hash kv.1/\ea[i].val=kv.2:=λi hi=>by
   obtain⟨kv,hkv⟩:∃kv,vs[i]?=some kv:=⟨vs[i]'(by rw[<- la];exact hi),Jc _⟩
   obtain⟨h1,h2⟩:=pa.get? (e:=ea[i]) (by simp[hi]) hkv
   obtain⟨k',hk',hh⟩:=ka ea[i] (Array.getElem_mem hi);obtain rfl:k'=kv.1:=knd.inj _ _ _ hk' h1;exact⟨kv,hkv,h1,hh,h2⟩
  refine wpAny_forIn_list _ (λrest b s'=>s'=s/\b=(none,())/\∃i,rest=List.range' i (ea.size-i)/\i<=ea.size/\∀j,j<i->∀kv,vs[j]?=some kv->(valueAt vs' kv.1).bind jo=jo kv.2) _ ?_ ?_ _ _ ⟨rfl,rfl,0,by simp,Y2 _,λj hj=>absurd hj (Ge _)⟩
  .rintro x rest b s' ⟨rfl,rfl,i,hr,hi,hall⟩
   have hlt:i<ea.size:=by
    rcases Wc i ea.size with h|h
    .exact h
    .rw[Nat.sub_eq_zero_of_le h]at hr;simp at hr
   obtain⟨rfl,hrest⟩:x=i/\rest=List.range' (i+1) (ea.size-(i+1)):=by
    have e:ea.size-i=(ea.size-(i+1))+1:=by omega
    rw[e,List.range'_succ]at hr;injection hr with h1 h2;exact⟨h1,h2⟩
   obtain⟨kv,hkv,hk1,hh,hval⟩:=key x hlt;refine J9 (Vk hoa hda ?_);rw[Y0 hlt];dsimp only;have hmem:kv∈vs:=Za hkv;obtain⟨n,tn,hn⟩:=iA kv hmem
   have stop:(valueAt vs' kv.1).bind jo≠jo kv.2->wpAny (model prog w) A (match ((some false,()):Option Bool×Unit).fst with|some r=>pure r|none=>pure true) Q E s':=λhne=>by
    have e:dR vs vs'=false:=by unfold dR;rw[Bool.and_eq_false_iff];refine .inr (List.all_eq_false.mpr ⟨kv,hmem,?_⟩);rw[Yb hne];decide
    rw[e]at h;exact Ja h
   have go:(valueAt vs' kv.1).bind jo=jo kv.2->∃i,rest=List.range' i (ea.size-i)/\i<=ea.size/\∀j,j<i->∀kv,vs[j]?=some kv->(valueAt vs' kv.1).bind jo=jo kv.2:=λhe=>
    ⟨x+1,hrest,hlt,λj hj kv2 hkv2=>by
     rcases Wc j x with hjx|hjx
     .exact hall j hjx kv2 hkv2
     .have:j=x:=by omega
      subst this;rw[hkv]at hkv2;cases hkv2
      exact he⟩
   have hfi:(eb.findIdx? λe=>knd.is kv.1 e.key)=vs'.findIdx? λkv'=>decide (kv'.1=kv.1):=by rw[<- pb.findIdx kv.1,<- List.findIdx?_toArray,Ub]
   refine J9 (Yi (J9 ?_));rw[hh];refine wpAny_dictFind_of hk1 hob hdb kb ?_;rw[hfi];cases hj:vs'.findIdx? λkv'=>decide (kv'.1=kv.1) with
   |none=>
    dsimp only;refine Ja ?_
    rw[Je (by decide)]
    refine Ja (stop ?_)
    have:valueAt vs' kv.1=none:=by
     unfold valueAt;rw[List.findIdx?_eq_none_iff]at hj
     have:(vs'.find? λkv'=>decide (kv'.1=kv.1))=none:=List.find?_eq_none.mpr λy hy hd=>by have:=hj y hy;rw[hd]at this;cases this
     rw[this];rfl
    rw[this,hn];intro z;cases z
   |some j=>
    dsimp only;obtain⟨hjl,hjt,hjf⟩:=Vt.mp hj
    have hjb:j<eb.size:=by omega
    obtain⟨q1,q2⟩:=pb.get? (e:=eb[j]) (by simp[hjb]) (Jc hjl)
    have hva:valueAt vs' kv.1=some vs'[j].2:=by
     unfold valueAt
     have:(vs'.find? λkv'=>decide (kv'.1=kv.1))=some vs'[j]:=by
      rw[List.find?_eq_some_iff_getElem]
      exact⟨hjt,j,hjl,rfl,λk hk=>by
       have:=hjf k hk
       simpa using this⟩
     rw[this];rfl
    obtain⟨n',tn',hn'⟩:=iB vs'[j] (Zn hjl);refine J9 (Vk hob hdb ?_);rw[Y0 hjb];dsimp only;refine Yi ?_
    rw[hval,show eb[j].val=vs'[j].2 from q2,hn,hn']
    refine wpAny_eqBool_int ?_;by_cases hnn:n=n'
    .subst hnn
     rw[Ji (by simp)]
     refine J9 (wpAny_dictEpoch hoa hda ?_)
     rw[Ji (by simp)]
     refine Ja ⟨rfl,rfl,go ?_⟩;rw[hva,hn,Option.bind_some,hn'];rfl
    .rw[Je (by simp[hnn])]
     refine Ja (stop ?_);rw[hva,hn,Option.bind_some,hn'];intro z;exact hnn (Yk z).symm
  .rintro b' s' ⟨rfl,rfl,i,hr,hi,hall⟩
   have hin:i=ea.size:=by
    rcases Wc i ea.size with h|h
    .have e:ea.size-i=(ea.size-(i+1))+1:=by omega
     rw[e,List.range'_succ]at hr;cases hr
    .omega
   have e:dR vs vs'=true:=by
    unfold dR;rw[Yd]
    refine⟨Yc (by omega),Qe.mpr λkv hkv=>?_⟩
    obtain⟨j,hj,rfl⟩:=List.getElem_of_mem hkv
    exact Yc (hall j (by omega) _ (Jc hj))
   rw[e]at h;exact Ja h
 .rw[Je (by simpa using hsz)]
  refine J9 (Zj ?_)
  have e:dR vs vs'=false:=by
   unfold dR
   rw[Yb (by omega)];rfl
  rw[e]at h;exact Ja h
end
end PySem
namespace PD
open PySem PySem.Spec PyProof.Rows L2
variable{T:List (KD×Int)}{vs:List (Key×Value)}
noncomputable def jq:List (KD×D)->Option (List (KD×Int))
 |[]=>some []
 |(k,.int i)::r=>(jq r).map ((k,i) :: ·)
 |_::_=>none
noncomputable def xu(T T':List (KD×Int)):Bool:=decide (T.length=T'.length)&&T.all λe=>decide (((T'.find? λe'=>decide (e'.1=e.1)).map (·.2))=some e.2)
inductive VT:List (KD×Int)->List (Key×Value)->Prop
 |nil:VT [] []
 |cons {k:KD} {i:Int} {t:Tok} {T:List (KD×Int)} {vs:List (Key×Value)}:VT T vs->VT ((k,i)::T) ((k,.int i t)::vs)
theorem VT.length(h:VT T vs):T.length=vs.length:=by
 induction h with
 |nil=>rfl
 |cons _ ih=>simp[ih]
theorem VT.ints(h:VT T vs):∀kv∈vs,∃n t,kv.2=Value.int n t:=by
 induction h with
 |nil=>intro kv z;cases z
 |cons _ ih=>
  intro kv z;rcases Jq.mp z with rfl|z
  .exact⟨_,_,rfl⟩
  .exact ih kv z
theorem VT.at(h:VT T vs)(k:KD):(valueAt vs k).bind jo=(T.find? λe'=>decide (e'.1=k)).map (·.2):=by
 induction h with
 |nil=>rfl
 | @cons k' i t T vs _ ih=>
  unfold valueAt at ih ⊢;rw[Zd,Zd];by_cases hk:k'=k
  .simp[hk,jo]
  .simp only[hk,Q1];exact ih
theorem VT.same{T':List (KD×Int)}{vs':List (Key×Value)}(h:VT T vs)(h':VT T' vs'):dR vs vs'=xu T T':=by
 unfold dR xu;rw[h.length,h'.length];congr 1
 have:∀{T:List (KD×Int)}{vs:List (Key×Value)},VT T vs->(vs.all λkv=>decide ((valueAt vs' kv.1).bind jo=jo kv.2))=T.all λe=>decide (((T'.find? λe'=>decide (e'.1=e.1)).map (·.2))=some e.2):=λh=>by
  induction h with
  |nil=>rfl
  | @cons k i t T vs _ ih=>
   rw[Q2,Q2,ih,h'.at k];rfl
 exact this h
theorem xv{K:Frag}{w:Wd}{H:Hp}:∀{kvs:List (KD×D)}{T:List (KD×Int)}{us:List (Key×V)}{vs:List (Key×Value)},jq kvs=some T->RDk K w H kvs us->KV us vs->VT T vs
 |[],T,us,vs,hi,q,r=>by cases hi;rw[q.nil_inv]at r;cases r;exact .nil
 |(k,d)::kvs,T,us,vs,hi,q,r=>by
  obtain⟨v,us',rfl,p,q'⟩:=q.cons_inv;cases d with
  |int i=>
   unfold jq at hi;cases ht:jq kvs with
   |none=>rw[ht]at hi;cases hi
   |some T'=>
    rw[ht]at hi;cases hi;cases p.int;cases r with
    | @cons _ x _ vs' hd tl=>
     obtain⟨k',u⟩:=x;obtain⟨e,rv⟩:=hd;obtain⟨t,rfl⟩:=rv
     cases (show k'=k from e.symm)
     exact .cons (xv ht q' tl)
  |_=>unfold jq at hi;cases hi
end PD
namespace SR
open PySem PyProof.Rows
variable{xs a b:Array Keyed}{i lo j n:Nat}{st:SortSt}{p key:Keyed}{Q:Option Bool→SortSt→Prop}{tot o L X Y:List Keyed}{c:Prop}
noncomputable abbrev SM(α:Type):=StateT SortSt Sem α
def Up(xs:Array Keyed)(lo hi:Nat):Prop:=∀i j,lo<=i->i<=j->j<hi->K xs i<=K xs j
def Dn(xs:Array Keyed)(lo hi:Nat):Prop:=∀i j,lo<=i->i<=j->j<hi->K xs j<=K xs i
def Num(p:Keyed):Prop:=∃n t,p.1=.int n t
def IK(xs:Array Keyed):Prop:=∀p∈xs.toList,Num p
theorem IK.get(h:IK xs)(hi:i<xs.size):Num xs[i]:=h _ (by simp)
theorem bK(hi:i<xs.size):K xs i=numOf xs[i].1:=by unfold K;rw[Gc xs i hi]
section
variable{prog:Program}{w:World}{A:Around}{E:Value->Shared->Prop}{s:Shared}
theorem qj{q:Keyed}(hk:kindOf st=oneType')(hp:Num p)(hq:Num q)(h:Q (some (decide (numOf p.1<numOf q.1))) st):wpS (model prog w) A E s (lt' p q) Q st:=by obtain⟨p1,p2⟩:=p;obtain⟨q1,q2⟩:=q;obtain⟨a,t,e1⟩:=hp;obtain⟨b,u,e2⟩:=hq;dsimp only at e1 e2;subst e1 e2;rw[lt'_eq];refine Jh (Wu ?_);rw[hk,keyLt'_oneType];exact Jh (Vx (Qn (oneLt_int ⟨rfl,Jl h⟩)))
theorem aW{Q:Keyed->SortSt->Prop}(hi:i<xs.size)(h:Q xs[i] st):wpS (model prog w) A E s (elem' xs i) Q st:=by rw[elem'_eq,Gc xs i hi];exact Jl h
end
noncomputable def gal:Bool->Keyed->Array Keyed->Nat->Nat->Nat->SM (Option Nat):=sortPriv% PySem.Builtin.gallop
noncomputable def by1(left:Bool)(key:Keyed)(arr:Array Keyed)(z:Nat):SM (Option Bool):=do
 let x <- elem' arr z
 if left then lt' x key else return (<- lt' key x).map (!·)
theorem Co(left:Bool)(key:Keyed)(arr:Array Keyed)(base n hint:Nat):gal left key arr base n hint=(do
 let f:Nat->SM (Option Bool):=λi=>by1 left key arr (base+i)
 let mut l1:=0
 let mut o1:=1
 let mut lo:=0
 let mut hi:=0
 let some rg <- f hint|return none
 if rg then
  let mx:=n-hint
  for _ in [0:n] do
   if o1 >= mx then break
   let some b <- f (hint+o1)|return none
   if !b then break
   l1:=o1
   o1:=2*o1+1
  lo:=hint+l1+1
  hi:=hint+min o1 mx
 else
  let mx:=hint+1
  for _ in [0:n] do
   if o1 >= mx then break
   let some b <- f (hint-o1)|return none
   if b then break
   l1:=o1
   o1:=2*o1+1
  lo:=hint+1-min o1 mx
  hi:=hint-l1
 for _ in [0:n] do
  if lo >= hi then break
  let m:=lo+(hi-lo)/2
  let some b <- f m|return none
  if b then lo:=m+1 else hi:=m
 return some hi):=rfl
section
variable{prog:Program}{w:World}{A:Around}{E:Value->Shared->Prop}{s:Shared}
noncomputable def bef(left:Bool)(key:Keyed)(arr:Array Keyed)(i:Nat):Bool:=if left=true then decide (K arr i<numOf key.1) else !decide (numOf key.1<K arr i)
theorem jr{left:Bool}{arr:Array Keyed}{hi:Nat}(hs:Up arr lo hi)(hi1:lo<=i)(hij:i<=j)(hj:j<hi)(h:bef left key arr j=true):bef left key arr i=true:=by
 have z:=hs i j hi1 hij hj;cases left
 .simp[bef]at h ⊢;omega
 .simp[bef]at h ⊢;omega
theorem oJ{left:Bool}{arr:Array Keyed}(hk:kindOf st=oneType')(ha:IK arr)(hy:Num key)(hi:i<arr.size)(h:Q (some (bef left key arr i)) st):wpS (model prog w) A E s (by1 left key arr i) Q st:=by
 unfold by1;refine Jh (aW hi ?_);have e:=bK hi;cases left
 .refine Jh (qj hk hy (ha.get hi) (Jl ?_));simpa[bef,e] using h
 .refine qj hk (ha.get hi) hy ?_;simpa[bef,e] using h
theorem A4{left:Bool}{arr:Array Keyed}{base lo hi:Nat}{Q:Option (Option Nat)×Nat×Nat->SortSt->Prop}(hk:kindOf st=oneType')(ha:IK arr)(hy:Num key)(hn:base+n<=arr.size)(hs:Up arr base (base+n))
  (h1:lo<=hi) (h2:hi<=n) (h3:∀i,i<lo->bef left key arr (base+i)=true) (h4:∀i,hi<=i->i<n->bef left key arr (base+i)=false)
  (h:∀l k,k<=n->(∀i,i<k->bef left key arr (base+i)=true)->(∀i,k<=i->i<n->bef left key arr (base+i)=false)->Q (none,l,k) st):
  wpS (model prog w) A E s (forIn [0:n] ((none,lo,hi):Option (Option Nat)×Nat×Nat) λ_ c=>
    if c.2.1 >= c.2.2 then pure (.done (none,c.2.1,c.2.2)) else do
     match <- by1 left key arr (base+(c.2.1+(c.2.2-c.2.1)/2)) with
     |some b=>if b=true then pure (.yield (none,c.2.1+(c.2.2-c.2.1)/2+1,c.2.2)) else pure (.yield (none,c.2.1,c.2.1+(c.2.2-c.2.1)/2))
     |_=>pure (.done (some none,c.2.1,c.2.2))) Q st:=by
 refine Zo (Z1 (I:=λx c st'=>st'=st/\∃l u,c=(none,l,u)/\l<=u/\u<=n/\u-l<=n-x/\(∀i,i<l->bef left key arr (base+i)=true)/\(∀i,u<=i->i<n->bef left key arr (base+i)=false))
  (Q:=λc st'=>st'=st/\∃l u,c=(none,l,u)/\u<=n/\(∀i,i<u->bef left key arr (base+i)=true)/\(∀i,u<=i->i<n->bef left key arr (base+i)=false)) ?a ?b ⟨rfl,lo,hi,rfl,h1,h2,by omega,h3,h4⟩) ?c
 case b=>
  rintro c st' ⟨rfl,l,u,rfl,b1,b2,b3,b4,b5⟩
  have:l=u:=by omega
  subst this;exact⟨rfl,l,l,rfl,b2,b4,b5⟩
 case c=>
  rintro c st' ⟨rfl,l,u,rfl,b2,b4,b5⟩;exact h l u b2 b4 b5
 case a=>
  rintro x c st' _ hx ⟨rfl,l,u,rfl,b1,b2,b3,b4,b5⟩;dsimp only;by_cases g:l >= u
  .rw[Je g]
   have:l=u:=by omega
   subst this;exact Jl ⟨rfl,l,l,rfl,b2,b4,b5⟩
  .rw[Ji g]
   refine Jh (oJ hk ha hy (by omega) ?_)
   dsimp only;cases eb:bef left key arr (base+(l+(u-l)/2)) with
   |true=>
    rw[Je rfl]
    refine Jl ⟨rfl,_,_,rfl,by omega,b2,by omega,λi hi=>?_,b5⟩
    exact jr hs (by omega) (by omega) (by omega) eb
   |false=>
    rw[Ji Jj]
    refine Jl ⟨rfl,_,_,rfl,by omega,by omega,by omega,b4,λi h1 h2=>?_⟩
    cases e2:bef left key arr (base+i) with
    |false=>rfl
    |true=>
     have:=jr (left:=left) (key:=key) hs (i:=base+(l+(u-l)/2)) (j:=base+i) (by omega) (by omega) (by omega) e2
     rw[eb]at this;cases this
theorem i6{left:Bool}{arr:Array Keyed}{base hint:Nat}{Q:Option Nat->SortSt->Prop}(hk:kindOf st=oneType')(ha:IK arr)(hy:Num key)(hn:base+n<=arr.size)(hh:hint<n)(hs:Up arr base (base+n))
  (h:∀k,k<=n->(∀i,i<k->bef left key arr (base+i)=true)->(∀i,k<=i->i<n->bef left key arr (base+i)=false)->Q (some k) st):
  wpS (model prog w) A E s (gal left key arr base n hint) Q st:=by
 have no:∀i j,i<=j->j<n->bef left key arr (base+i)=false->bef left key arr (base+j)=false:=λi j h1 h2 e=>by
  cases e2:bef left key arr (base+j) with
  |false=>rfl
  |true=>
   have:=jr (left:=left) (key:=key) hs (i:=base+i) (j:=base+j) (by omega) (by omega) (by omega) e2
   rw[e]at this;cases this
 have ys:∀i j,i<=j->j<n->bef left key arr (base+j)=true->bef left key arr (base+i)=true:=λi j h1 h2 e=>
  jr hs (by omega) (by omega) (by omega) e
 rw[Co];dsimp only
 refine Jh (oJ hk ha hy (by omega) ?_)
 dsimp only;cases e0:bef left key arr (base+hint) with
 |true=>
  rw[Je rfl]
  refine Jh (Zo (Z1 (I:=λx c st'=>st'=st/\∃l o,c=(none,l,o)/\l<o/\x+1<=o/\l<n-hint/\bef left key arr (base+(hint+l))=true)
   (Q:=λc st'=>st'=st/\∃l o,c=(none,l,o)/\l<o/\l<n-hint/\bef left key arr (base+(hint+l))=true/\(o<n-hint->bef left key arr (base+(hint+o))=false)) ?a ?b ⟨rfl,0,1,rfl,by omega,by omega,by omega,e0⟩) ?c)
  case b=>
   rintro c st' ⟨rfl,l,o,rfl,b1,b2,b3,b4⟩
   exact⟨rfl,l,o,rfl,b1,b3,b4,λz=>by omega⟩
  case a=>
   rintro x c st' _ hx ⟨rfl,l,o,rfl,b1,b2,b3,b4⟩;dsimp only;by_cases g:o >= n-hint
   .rw[Je g]
    exact Jl ⟨rfl,l,o,rfl,b1,b3,b4,λz=>by omega⟩
   .rw[Ji g]
    refine Jh (oJ hk ha hy (by omega) ?_)
    dsimp only;cases eb:bef left key arr (base+(hint+o)) with
    |false=>
     rw[Je (by decide)]
     exact Jl ⟨rfl,l,o,rfl,b1,b3,b4,λ_=>eb⟩
    |true=>
     rw[Ji (by decide)]
     exact Jl ⟨rfl,o,2*o+1,rfl,by omega,by omega,by omega,eb⟩
  case c=>
   rintro c st' ⟨rfl,l,o,rfl,b1,b3,b4,b5⟩;dsimp only
   refine Jh (A4 (lo:=hint+l+1) (hi:=hint+min o (n-hint)) hk ha hy hn hs (by omega) (by omega) (λi hi=>?_) (λi h1 h2=>?_) λ_ k a b c=>Jl (h k a b c))
   .exact ys i (hint+l) (by omega) (by omega) b4
   .by_cases g:o<n-hint
    .exact no (hint+o) i (by omega) h2 (b5 g)
    .omega
 |false=>
  rw[Ji Jj]
  refine Jh (Zo (Z1 (I:=λx c st'=>st'=st/\∃l o,c=(none,l,o)/\l<o/\x+1<=o/\l<=hint/\bef left key arr (base+(hint-l))=false)
   (Q:=λc st'=>st'=st/\∃l o,c=(none,l,o)/\l<o/\l<=hint/\bef left key arr (base+(hint-l))=false/\(o<=hint->bef left key arr (base+(hint-o))=true)) ?a ?b ⟨rfl,0,1,rfl,by omega,by omega,by omega,e0⟩) ?c)
  case b=>
   rintro c st' ⟨rfl,l,o,rfl,b1,b2,b3,b4⟩
   exact⟨rfl,l,o,rfl,b1,b3,b4,λz=>by omega⟩
  case a=>
   rintro x c st' _ hx ⟨rfl,l,o,rfl,b1,b2,b3,b4⟩;dsimp only;by_cases g:o >= hint+1
   .rw[Je g]
    exact Jl ⟨rfl,l,o,rfl,b1,b3,b4,λz=>by omega⟩
   .rw[Ji g]
    refine Jh (oJ hk ha hy (by omega) ?_)
    dsimp only;cases eb:bef left key arr (base+(hint-o)) with
    |true=>
     rw[Je rfl];exact Jl ⟨rfl,l,o,rfl,b1,b3,b4,λ_=>eb⟩
    |false=>
     rw[Ji Jj]
     exact Jl ⟨rfl,o,2*o+1,rfl,by omega,by omega,by omega,eb⟩
  case c=>
   rintro c st' ⟨rfl,l,o,rfl,b1,b3,b4,b5⟩;dsimp only
   refine Jh (A4 (lo:=hint+1-min o (hint+1)) (hi:=hint-l) hk ha hy hn hs (by omega) (by omega) (λi hi=>?_) (λi h1 h2=>?_) λ_ k a b c=>Jl (h k a b c))
   .by_cases g:o<=hint
    .exact ys i (hint-o) (by omega) (by omega) (b5 g)
    .omega
   .exact no (hint-l) i (by omega) h2 b4
end
noncomputable def mLo:Array Keyed->Array Keyed->SM (Array Keyed):=sortPriv% PySem.Builtin.mergeLo
noncomputable def sMG:Nat->SM Unit:=sortPriv% PySem.Builtin.setMinGallop
theorem Cq(a b:Array Keyed):mLo a b=(do
 rule "list.sort.merge-lo"
 let tt:=a.size+b.size
 let dn (o:Array Keyed) (i j:Nat):=o++a.extract i a.size++b.extract j b.size
 let la (o:Array Keyed) (i j:Nat):=o++b.extract j b.size++a.extract i a.size
 let mut o:Array Keyed:=#[<- elem' b 0]
 let mut i:=0
 let mut j:=1
 if j == b.size then return dn o i j
 if i+1 == a.size then return la o i j
 let mut g:=gallopOf (<- get)
 for _ in [0:tt] do
  let mut ca:=0
  let mut cb:=0
  for _ in [0:tt] do
   let some v <- lt' (<- elem' b j) (<- elem' a i)|return dn o i j
   if v then
    o:=o.push (<- elem' b j);j:=j+1;cb:=cb+1;ca:=0
    if j == b.size then return dn o i j
    if cb >= g then break
   else
    o:=o.push (<- elem' a i);i:=i+1;ca:=ca+1;cb:=0
    if i+1 == a.size then return la o i j
    if ca >= g then break
  rule "list.sort.gallop"
  g:=g+1
  for _ in [0:tt] do
   if g>1 then g:=g-1
   sMG g
   let some k <- gal false (<- elem' b j) a i (a.size-i) 0|return dn o i j
   ca:=k
   if k>0 then
    o:=o++a.extract i (i+k);i:=i+k
    if i+1 == a.size then return la o i j
    if i == a.size then return dn o i j
   o:=o.push (<- elem' b j);j:=j+1
   if j == b.size then return dn o i j
   let some k <- gal true (<- elem' a i) b j (b.size-j) 0|return dn o i j
   cb:=k
   if k>0 then
    o:=o++b.extract j (j+k);j:=j+k
    if j == b.size then return dn o i j
   o:=o.push (<- elem' a i);i:=i+1
   if i+1 == a.size then return la o i j
   if ca<7&&cb<7 then break
  g:=g+1
  sMG g
 unsupported "internal:list.sort.merge-bound"):=rfl
noncomputable def ke(p:Keyed):Int:=numOf p.1
def Sd(l:List Keyed):Prop:=l.Pairwise λp q=>ke p<=ke q
structure Ml(tot o X Y:List Keyed):Prop where
 perm:(o++(X++Y)).Perm tot
 sd:Sd o
 le:∀p∈o,∀q∈X++Y,ke p<=ke q
theorem Ml.left(h:Ml tot o (L++X) Y)(hs:Sd (L++X))(hl:∀p∈L,∀q∈Y,ke p<=ke q):Ml tot (o++L) X Y:=by
 obtain⟨s1,s2,s3⟩:=Q4.mp hs
 refine⟨by simpa[Z8] using h.perm,Q4.mpr ⟨h.sd,s1,λp hp q hq=>h.le p hp q (by simp[hq])⟩,λp hp q hq=>?_⟩
 rcases Jt.mp hp with hp|hp
 .refine h.le p hp q ?_;rcases Jt.mp hq with hq|hq<;>simp[hq]
 .rcases Jt.mp hq with hq|hq
  .exact s3 p hp q hq
  .exact hl p hp q hq
theorem Ml.swap(h:Ml tot o X Y):Ml tot o Y X:=⟨(List.perm_append_comm.append_left o).trans h.perm,h.sd,λp hp q hq=>h.le p hp q (by rcases Jt.mp hq with z|z<;>simp[z])⟩
theorem Ml.right(h:Ml tot o X (L++Y))(hs:Sd (L++Y))(hl:∀p∈L,∀q∈X,ke p<=ke q):Ml tot (o++L) X Y:=(h.swap.left hs hl).swap
theorem Ml.done(h:Ml tot o [] []):o.Perm tot/\Sd o:=⟨by simpa using h.perm,h.sd⟩
def Mg(a b o:Array Keyed)(i j:Nat):Prop:=Ml (a.toList++b.toList) o.toList (a.toList.drop i) (b.toList.drop j)
def Good(a b r:Array Keyed):Prop:=r.toList.Perm (a.toList++b.toList)/\Sd r.toList
theorem fk(h:Up a 0 a.size):Sd a.toList:=by
 unfold Sd;rw[Zz];intro i j hi hj hij
 have hi':i<a.size:=by simpa using hi
 have hj':j<a.size:=by simpa using hj
 have z:=h i j (Y2 _) (G6 hij) hj';rw[bK hi',bK hj']at z;simpa[ke] using z
theorem Eb(h:Sd a.toList):Up a 0 a.size:=by
 intro i j _ hij hj;by_cases e:i=j
 .subst e;exact Q3 _
 .unfold Sd at h;rw[Zz]at h
  have z:=h i j (by simpa using(by omega:i<a.size)) (by simpa using hj) (by omega)
  rw[bK (by omega),bK hj]
  simpa[ke] using z
theorem Sd.drop{l:List Keyed}(h:Sd l)(i:Nat):Sd (l.drop i):=List.Pairwise.sublist (List.drop_sublist i l) h
theorem js(hi:i<a.size):a.toList.drop i=[a[i]]++a.toList.drop (i+1):=by
 rw[Yz (by simpa using hi)]
 simp
theorem jt(i k:Nat):a.toList.drop i=(a.toList.drop i).take k++a.toList.drop (i+k):=by rw[<- Uf,Qz]
theorem dS(a:Array Keyed)(i j:Nat):(a.extract i j).toList=(a.toList.drop i).take (j-i):=by rw[Array.toList_extract]
theorem gi(h:p∈a.toList.drop i):∃t,i<=t/\t<a.size/\ke p=K a t:=by
 obtain⟨n,hn,e⟩:=W6.mp h
 have hl:i+n<a.size:=by simp at hn;omega
 refine⟨i+n,by omega,hl,?_⟩
 rw[bK hl,<- e];simp[ke]
theorem iH{k:Nat}(h:p∈(a.toList.drop i).take k):∃t,t<k/\i+t<a.size/\ke p=K a (i+t):=by
 obtain⟨n,hn,e⟩:=W6.mp h
 have hl:n<k/\i+n<a.size:=by simp at hn;omega
 refine⟨n,hl.1,hl.2,?_⟩;rw[bK hl.2,<- e];simp[ke]
section
variable{a b o:Array Keyed}{i j k:Nat}
theorem Mg.bulkA(ha:Up a 0 a.size)(hb:Up b 0 b.size)(h:Mg a b o i j)(hj:j<b.size)(hk:∀t,t<k->i+t<a.size->K a (i+t)<=K b j):Mg a b (o++a.extract i (i+k)) (i+k) j:=by
 unfold Mg at h ⊢
 have e:(o++a.extract i (i+k)).toList=o.toList++(a.toList.drop i).take k:=by rw[Yx,dS];simp
 rw[e];rw[jt i k]at h
 refine h.left (by rw[<- jt];exact(fk ha).drop i) λp hp q hq=>?_
 obtain⟨t,t1,t2,e1⟩:=iH hp;obtain⟨u,u1,u2,e2⟩:=gi hq;have:=hk t t1 t2;have:=hb j u (Y2 _) u1 u2;omega
theorem Mg.bulkB(ha:Up a 0 a.size)(hb:Up b 0 b.size)(h:Mg a b o i j)(hi:i<a.size)(hk:∀t,t<k->j+t<b.size->K b (j+t)<=K a i):Mg a b (o++b.extract j (j+k)) i (j+k):=by
 unfold Mg at h ⊢
 have e:(o++b.extract j (j+k)).toList=o.toList++(b.toList.drop j).take k:=by rw[Yx,dS];simp
 rw[e];rw[jt j k]at h
 refine h.right (by rw[<- jt];exact(fk hb).drop j) λp hp q hq=>?_
 obtain⟨t,t1,t2,e1⟩:=iH hp;obtain⟨u,u1,u2,e2⟩:=gi hq;have:=hk t t1 t2;have:=ha i u (Y2 _) u1 u2;omega
theorem Mg.pushA(ha:Up a 0 a.size)(hb:Up b 0 b.size)(h:Mg a b o i j)(hi:i<a.size)(hj:j<b.size)(hk:K a i<=K b j):Mg a b (o.push a[i]) (i+1) j:=by
 unfold Mg at h ⊢;rw[js hi]at h;rw[Ql]
 refine h.left (by rw[<- js hi];exact(fk ha).drop i) λp hp q hq=>?_
 rw[Jv.mp hp];obtain⟨u,u1,u2,e2⟩:=gi hq;have:=hb j u (Y2 _) u1 u2;have e:=bK hi;unfold ke at e2 ⊢;omega
theorem Mg.pushB(ha:Up a 0 a.size)(hb:Up b 0 b.size)(h:Mg a b o i j)(hi:i<a.size)(hj:j<b.size)(hk:K b j<=K a i):Mg a b (o.push b[j]) i (j+1):=by
 unfold Mg at h ⊢;rw[js hj]at h;rw[Ql]
 refine h.right (by rw[<- js hj];exact(fk hb).drop j) λp hp q hq=>?_
 rw[Jv.mp hp];obtain⟨u,u1,u2,e2⟩:=gi hq;have:=ha i u (Y2 _) u1 u2;have e:=bK hj;unfold ke at e2 ⊢;omega
theorem kP(a:Array Keyed)(i:Nat):(a.extract i a.size).toList=a.toList.drop i:=by rw[dS,Qb (by simp)]
theorem Mg.dn(ha:Up a 0 a.size)(hb:Up b 0 b.size)(h:Mg a b o i j)(hz:j=b.size\/i=a.size):Good a b (o++a.extract i a.size++b.extract j b.size):=by
 unfold Mg at h;unfold Good;rw[Yx,Yx,kP,kP];rcases hz with rfl|rfl
 .have e:b.toList.drop b.size=[]:=by simp
  rw[e]at h ⊢;rw[Ym]
  refine Ml.done (Ml.left (by simpa using h) (by simpa using(fk ha).drop i) λp hp q hq=>by cases hq)
 .have e:a.toList.drop a.size=[]:=by simp
  rw[e]at h ⊢;rw[Ym]
  refine Ml.done (Ml.right (by simpa using h) (by simpa using(fk hb).drop j) λp hp q hq=>by cases hq)
theorem Mg.la(ha:Up a 0 a.size)(hb:Up b 0 b.size)(h:Mg a b o i j)(hi:i+1=a.size)(hl:∀t,t<b.size->K b t<=K a (a.size-1)):Good a b (o++b.extract j b.size++a.extract i a.size):=by
 unfold Mg at h;unfold Good;rw[Yx,Yx,kP,kP]
 have h1:Ml (a.toList++b.toList) (o.toList++b.toList.drop j) (a.toList.drop i) []:=by
  refine Ml.right (by simpa using h) (by simpa using(fk hb).drop j) λp hp q hq=>?_
  obtain⟨t,t1,t2,e1⟩:=gi hp;obtain⟨u,u1,u2,e2⟩:=gi hq;have:=hl t t2
  have:u=a.size-1:=by omega
  subst this;omega
 exact Ml.done (Ml.left (by simpa using h1) (by simpa using(fk ha).drop i) λp hp q hq=>by cases hq)
end
section
variable{prog:Program}{w:World}{A:Around}{E:Value->Shared->Prop}{s:Shared}
def Sg(st st':SortSt):Prop:=kindOf st'=kindOf st/\arrOf st'=arrOf st/\pendingOf st'=pendingOf st/\failedOf st'=failedOf st
theorem Sg.refl(st:SortSt):Sg st st:=⟨rfl,rfl,rfl,rfl⟩
theorem oK{st0:SortSt}{g:Nat}{Q:Unit->SortSt->Prop}(h0:Sg st0 st)(h:∀st',Sg st0 st'->Q () st'):wpS (model prog w) A E s (sMG g) Q st:=by have e:sMG g=modify λst=>SortSt.mk' (kindOf st) (arrOf st) (pendingOf st) g (failedOf st):=rfl;rw[e];exact W7 (h _ ⟨h0.1,h0.2.1,h0.2.2.1,h0.2.2.2⟩)
end
section
variable{prog:Program}{w:World}{A:Around}{E:Value->Shared->Prop}{s:Shared}
structure Mid(a b o:Array Keyed)(i j:Nat):Prop where
 mg:Mg a b o i j
 ia:i+1<a.size
 jb:j<b.size
theorem zU{σ α β:Type}{M:Model}{dc:Decidable c}{T:β->StateT σ Sem α}{p:StateT σ Sem α}{Q:α->σ->Prop}{st:σ}{y x:β}(hp:p=T x)(h:∀g,wpS M A E s (T g) Q st):wpS M A E s (if c then p else T y) Q st:=by
 split
 .rw[hp];exact h x
 .exact h y
theorem xw{σ α β γ:Type}{M:Model}{dc:Decidable c}{T:β->γ->StateT σ Sem α}{p:StateT σ Sem α}{Q:α->σ->Prop}{st:σ}{I:β->γ->Prop}{y1:β}{y2:γ}(hn:¬c->I y1 y2)
  (ht:∀o i,I o i->wpS M A E s (T o i) Q st) (hp:c->(∀o i,I o i->wpS M A E s (T o i) Q st)->wpS M A E s p Q st):wpS M A E s (if c then p else T y1 y2) Q st:=by
 by_cases hc:c
 .rw[Je hc];exact hp hc ht
 .rw[Ji hc];exact ht _ _ (hn hc)
theorem Cr{Q:Array Keyed->SortSt->Prop}(hk:kindOf st=oneType')(ia:IK a)(ib:IK b)(ha:Up a 0 a.size)(hb:Up b 0 b.size)(a1:1<=a.size)(b1:1<=b.size)(h0:K b 0<=K a 0)(hl:∀t,t<b.size->K b t<=K a (a.size-1))
  (h:∀r st',Good a b r->Sg st st'->Q r st'):wpS (model prog w) A E s (mLo a b) Q st:=by
 rw[Cq];dsimp only;refine Jh (Vx (Zj ⟨rfl,?_⟩))
 refine Jh (aW (by omega) ?_)
 have m0:Mg a b #[b[0]] 0 1:=by
  have z:Mg a b #[] 0 0:=⟨by simp,List.Pairwise.nil,λp hp=>by cases hp⟩
  exact z.pushB ha hb (by omega) (by omega) h0
 by_cases g1:1=b.size
 .rw[Je (by simpa using g1)]
  exact Jl (h _ _ (m0.dn ha hb (.inl g1)) (Sg.refl st))
 rw[Ji (by simpa using g1)]
 by_cases g2:0+1=a.size
 .rw[Je (by simpa using g2)]
  exact Jl (h _ _ (m0.la ha hb g2 hl) (Sg.refl st))
 rw[Ji (by simpa using g2)]
 refine Jh (Wu ?_);have kd:∀{st'},Sg st st'->kindOf st'=oneType':=λz=>z.1.trans hk
 refine Jh (Zo (Z1 (I:=λx c st'=>Sg st st'/\∃o i j g,c=(none,o,i,j,g)/\Mid a b o i j/\x+1<=i+j)
  (Q:=λc st'=>Sg st st'/\∃r,c.1=some r/\Good a b r) ?step ?fin ⟨Sg.refl st,_,0,1,_,rfl,⟨m0,by omega,by omega⟩,by omega⟩) ?post)
 case fin=>
  rintro c st' ⟨_,o,i,j,g,_,m,hx⟩;have:=m.ia;have:=m.jb;omega
 case post=>
  rintro⟨c,o,i,j,g⟩ st' ⟨z,r,e,hr⟩;cases e;exact Jl (h r st' hr z)
 case step=>
  rintro x c st' _ hx ⟨z,o,i,j,g,rfl,m,hp⟩;dsimp only
  refine Jh (Zo (Z1 (I:=λy c st'=>Sg st st'/\∃o' i' j' ca cb,c=(none,o',i',j',ca,cb)/\Mid a b o' i' j'/\i+j+y<=i'+j')
   (Q:=λc st'=>Sg st st'/\((∃r,c.1=some r/\Good a b r) \/ ∃o' i' j' ca cb,c=(none,o',i',j',ca,cb)/\Mid a b o' i' j'/\i+j+1<=i'+j')) ?s1 ?f1 ⟨z,o,i,j,0,0,rfl,m,by omega⟩) ?p1)
  case f1=>
   rintro c st' ⟨z,o',i',j',ca,cb,rfl,m,hy⟩
   exact⟨z,.inr ⟨o',i',j',ca,cb,rfl,m,by omega⟩⟩
  case s1=>
   rintro y c st' _ hy ⟨z,o',i',j',ca,cb,rfl,m,hp'⟩;dsimp only;have mi:=m.ia;have mj:=m.jb;refine Jh (aW mj ?_)
   refine Jh (aW (by omega) ?_)
   refine Jh (qj (kd z) (ib.get mj) (ia.get (by omega)) ?_)
   dsimp only
   rw[<- bK mj,<- bK (show i'<a.size by omega)]
   by_cases hlt:K b j'<K a i'
   .rw[Je (by simpa using hlt)]
    refine Jh (aW mj ?_)
    have m2:=m.mg.pushB ha hb (by omega) mj (Ze hlt)
    by_cases e1:j'+1=b.size
    .rw[Je (by simpa using e1)]
     exact Jl ⟨z,.inl ⟨_,rfl,m2.dn ha hb (.inl e1)⟩⟩
    .rw[Ji (by simpa using e1)]
     split
     .exact Jl ⟨z,.inr ⟨_,_,_,_,_,rfl,⟨m2,by omega,by omega⟩,by omega⟩⟩
     .exact Jl ⟨z,_,_,_,_,_,rfl,⟨m2,by omega,by omega⟩,by omega⟩
   .rw[Ji (by simpa using hlt)]
    refine Jh (aW (by omega) ?_)
    have m2:=m.mg.pushA ha hb (by omega) mj (Gi.mp hlt)
    by_cases e1:i'+1+1=a.size
    .rw[Je (by simpa using e1)]
     exact Jl ⟨z,.inl ⟨_,rfl,m2.la ha hb e1 hl⟩⟩
    .rw[Ji (by simpa using e1)]
     split
     .exact Jl ⟨z,.inr ⟨_,_,_,_,_,rfl,⟨m2,by omega,by omega⟩,by omega⟩⟩
     .exact Jl ⟨z,_,_,_,_,_,rfl,⟨m2,by omega,by omega⟩,by omega⟩
  case p1=>
   rintro c st' ⟨z,⟨r,e,hr⟩|⟨o',i',j',ca,cb,rfl,m,hp'⟩⟩
   .obtain⟨c,o',i',j',ca,cb⟩:=c;cases e;exact Jl ⟨z,r,rfl,hr⟩
   dsimp only;refine Jh (Vx (Zj ⟨rfl,?_⟩))
   refine Jh (Zo (Z1 (I:=λy c st'=>Sg st st'/\∃o2 i2 j2 g ca cb,c=(none,o2,i2,j2,g,ca,cb)/\Mid a b o2 i2 j2/\i+j+1<=i2+j2)
    (Q:=λc st'=>Sg st st'/\((∃r,c.1=some r/\Good a b r) \/ ∃o2 i2 j2 g ca cb,c=(none,o2,i2,j2,g,ca,cb)/\Mid a b o2 i2 j2/\i+j+1<=i2+j2)) ?s2 ?f2 ⟨z,_,_,_,_,_,_,rfl,m,hp'⟩) ?p2)
   case f2=>
    rintro c st' ⟨z,o2,i2,j2,g2,ca,cb,rfl,m,hy⟩;exact⟨z,.inr ⟨o2,i2,j2,g2,ca,cb,rfl,m,hy⟩⟩
   case p2=>
    rintro c st' ⟨z,⟨r,e,hr⟩|⟨o2,i2,j2,g2,ca,cb,rfl,m,hp'⟩⟩
    .obtain⟨c,o2,i2,j2,g2,ca,cb⟩:=c;cases e;exact Jl ⟨z,r,rfl,hr⟩
    dsimp only
    exact Jh (oK z λst' z=>Jl ⟨z,_,_,_,_,rfl,m,by omega⟩)
   case s2=>
    rintro y c st' _ hy ⟨z,o2,i2,j2,g2,ca,cb,rfl,m,hp'⟩;dsimp only;have mi:=m.ia;have mj:=m.jb;have hm:=m.mg;clear m;apply zU (y:=g2) (x:=g2-1)
    case hp=>rfl
    intro g3;refine Jh (oK z λst' z=>?_);refine Jh (aW mj ?_)
    refine Jh (i6 (kd z) ia (ib.get mj) (by omega) (by omega) (λp q _ hpq hq=>ha p q (Y2 _) hpq (by omega)) λk k1 k2 k3=>?_)
    dsimp only
    have q2:∀t,t<k->i2+t<a.size->K a (i2+t)<=K b j2:=λt ht _=>by have:=k2 t ht;rw[bK mj];simpa[bef] using this
    have q3:k<a.size-i2->K b j2<=K a (i2+k):=λhkk=>by
     have:=k3 k (Jd _) hkk;rw[bK mj]
     exact Ze (by simpa[bef] using this)
    have hm':=hm.bulkA ha hb mj q2;apply xw (I:=λo3 i3=>Mg a b o3 i3 j2/\i3+1<a.size/\i2<=i3/\K b j2<=K a i3) (y1:=o2) (y2:=i2)
    case hn=>
     intro hk0
     have hk1:k=0:=by omega
     subst hk1
     have hq3:=q3 (by omega)
     rw[Nat.add_zero]at hq3
     exact⟨hm,by omega,Jd _,hq3⟩
    case hp=>
     intro hk0 key;split
     .rename_i e3
      exact Jl ⟨z,.inl ⟨_,rfl,hm'.la ha hb (by simpa using e3) hl⟩⟩
     .rename_i e3;split
      .rename_i e4
       exact Jl ⟨z,.inl ⟨_,rfl,hm'.dn ha hb (.inr (by simpa using e4))⟩⟩
      .rename_i e4;simp at e3 e4
       exact key _ _ ⟨hm',by omega,by omega,q3 (by omega)⟩
    intro o3 i3 y3;obtain⟨hm3,hi3,le3,hq3⟩:=y3
    have hi4:i3<a.size:=by omega
    refine Jh (aW mj ?_)
    have m4:=hm3.pushB ha hb (by omega) mj hq3
    by_cases e4:j2+1=b.size
    .rw[Je (by simpa using e4)]
     exact Jl ⟨z,.inl ⟨_,rfl,m4.dn ha hb (.inl e4)⟩⟩
    rw[Ji (by simpa using e4)]
    generalize o3.push b[j2]=o5 at m4 ⊢;generalize ej:j2+1=j5 at m4 e4 ⊢;refine Jh (aW hi4 ?_)
    refine Jh (i6 (kd z) ib (ia.get hi4) (by omega) (by omega) (λp q _ hpq hq=>hb p q (Y2 _) hpq (by omega)) λu u1 u2 u3=>?_)
    dsimp only;apply xw (I:=λo4 j4=>Mg a b o4 i3 j4/\j4<b.size/\j2+1<=j4/\K a i3<=K b j4) (y1:=o5) (y2:=j5)
    case hn=>
     intro hu
     have hu0:u=0:=by omega
     subst hu0
     have hq6:=u3 0 (Jd _) (by omega)
     simp[bef]at hq6;rw[<- bK hi4]at hq6
     exact⟨m4,by omega,by omega,hq6⟩
    case hp=>
     intro hu key
     have hm6:=m4.bulkB (k:=u) ha hb hi4 λt ht _=>by
      have:=u2 t ht;rw[bK hi4]
      exact Ze (by simpa[bef] using this)
     split
     .rename_i e5
      exact Jl ⟨z,.inl ⟨_,rfl,hm6.dn ha hb (.inl (by simpa using e5))⟩⟩
     .rename_i e5;simp at e5
      have hq6:=u3 u (Jd _) (by omega)
      simp[bef]at hq6;rw[<- bK hi4]at hq6
      exact key _ _ ⟨hm6,by omega,by omega,hq6⟩
    intro o4 j4 y4;obtain⟨hm6,hj6,le6,hq6⟩:=y4
    refine Jh (aW (by omega) ?_)
    have m6:=hm6.pushA ha hb (by omega) hj6 hq6
    split
    .rename_i e6
     exact Jl ⟨z,.inl ⟨_,rfl,m6.la ha hb (by simpa using e6) hl⟩⟩
    .rename_i e6;simp at e6;split
     .exact Jl ⟨z,.inr ⟨_,_,_,_,_,_,rfl,⟨m6,by omega,by omega⟩,by omega⟩⟩
     .exact Jl ⟨z,_,_,_,_,_,_,rfl,⟨m6,by omega,by omega⟩,by omega⟩
end
noncomputable def mHi:Array Keyed->Array Keyed->SM (Array Keyed):=sortPriv% PySem.Builtin.mergeHi
theorem Cs(a b:Array Keyed):mHi a b=(do
 rule "list.sort.merge-hi"
 let tt:=a.size+b.size
 let dn (o:Array Keyed) (i j:Nat):=a.extract 0 i++b.extract 0 j++o.reverse
 let fb (o:Array Keyed) (i j:Nat):=b.extract 0 j++a.extract 0 i++o.reverse
 let mut i:=a.size-1
 let mut j:=b.size
 let mut o:Array Keyed:=#[<- elem' a i]
 if i == 0 then return dn o i j
 if j == 1 then return fb o i j
 let mut g:=gallopOf (<- get)
 for _ in [0:tt] do
  let mut ca:=0
  let mut cb:=0
  for _ in [0:tt] do
   let some v <- lt' (<- elem' b (j-1)) (<- elem' a (i-1))|return dn o i j
   if v then
    i:=i-1;o:=o.push (<- elem' a i);ca:=ca+1;cb:=0
    if i == 0 then return dn o i j
    if ca >= g then break
   else
    j:=j-1;o:=o.push (<- elem' b j);cb:=cb+1;ca:=0
    if j == 1 then return fb o i j
    if cb >= g then break
  rule "list.sort.gallop"
  g:=g+1
  for _ in [0:tt] do
   if g>1 then g:=g-1
   sMG g
   let some z <- gal false (<- elem' b (j-1)) a 0 i (i-1)|return dn o i j
   let k:=i-z
   ca:=k
   if k>0 then
    o:=o++(a.extract z i).reverse;i:=z
    if i == 0 then return dn o i j
   j:=j-1;o:=o.push (<- elem' b j)
   if j == 1 then return fb o i j
   let some z <- gal true (<- elem' a (i-1)) b 0 j (j-1)|return dn o i j
   let k:=j-z
   cb:=k
   if k>0 then
    o:=o++(b.extract z j).reverse;j:=z
    if j == 1 then return fb o i j
    if j == 0 then return dn o i j
   i:=i-1;o:=o.push (<- elem' a i)
   if i == 0 then return dn o i j
   if ca<7&&cb<7 then break
  g:=g+1
  sMG g
 unsupported "internal:list.sort.merge-bound"):=rfl
structure Mr(tot X Y o:List Keyed):Prop where
 perm:(X++Y++o).Perm tot
 sd:Sd o
 le:∀q∈X++Y,∀p∈o,ke q<=ke p
theorem Mr.swap(h:Mr tot X Y o):Mr tot Y X o:=⟨(List.perm_append_comm.append_right o).trans h.perm,h.sd,λq hq=>h.le q (by rcases Jt.mp hq with z|z<;>simp[z])⟩
theorem Mr.left(h:Mr tot Y (X++L) o)(hs:Sd (X++L))(hl:∀q∈Y,∀p∈L,ke q<=ke p):Mr tot Y X (L++o):=by
 obtain⟨s1,s2,s3⟩:=Q4.mp hs
 refine⟨by simpa[Z8] using h.perm,Q4.mpr ⟨s2,h.sd,λp hp q hq=>h.le p (by simp[hp]) q hq⟩,λq hq p hp=>?_⟩
 rcases Jt.mp hp with hp|hp
 .rcases Jt.mp hq with hq|hq
  .exact hl q hq p hp
  .exact s3 q hq p hp
 .refine h.le q ?_ p hp;rcases Jt.mp hq with hq|hq<;>simp[hq]
theorem Mr.right(h:Mr tot (X++L) Y o)(hs:Sd (X++L))(hl:∀q∈Y,∀p∈L,ke q<=ke p):Mr tot X Y (L++o):=(h.swap.left hs hl).swap
theorem Mr.done(h:Mr tot [] [] o):o.Perm tot/\Sd o:=⟨by simpa using h.perm,h.sd⟩
def Mt(a b o:Array Keyed)(i j:Nat):Prop:=Mr (a.toList++b.toList) (a.toList.take i) (b.toList.take j) o.toList.reverse
theorem Sd.take{l:List Keyed}(h:Sd l)(i:Nat):Sd (l.take i):=List.Pairwise.sublist (Uz i l) h
theorem gj(h:p∈a.toList.take i):∃t,t<i/\t<a.size/\ke p=K a t:=by
 obtain⟨t,h1,h2,e⟩:=iH (i:=0) (k:=i) (a:=a) (p:=p) (by simpa using h)
 exact⟨t,h1,by omega,by simpa using e⟩
theorem ju(hi:i<a.size):a.toList.take (i+1)=a.toList.take i++[a[i]]:=by
 rw[List.take_succ_eq_append_getElem (by simpa using hi)]
 simp
theorem jv{z:Nat}(hz:z<=i):a.toList.take i=a.toList.take z++(a.toList.drop z).take (i-z):=by
 have e:i=z+(i-z):=by omega
 conv=>lhs;rw[e,List.take_add]
theorem jw(a:Array Keyed)(i:Nat):(a.extract 0 i).toList=a.toList.take i:=by rw[dS];simp
section
variable{a b o:Array Keyed}{i j k z:Nat}
theorem Mt.bulkA(ha:Up a 0 a.size)(hb:Up b 0 b.size)(h:Mt a b o i j)(hj:j<=b.size)(j1:1<=j)(hz:z<=i)(hi:i<=a.size)(hk:∀t,z<=t->t<i->K b (j-1)<=K a t):Mt a b (o++(a.extract z i).reverse) z j:=by
 unfold Mt at h ⊢
 have e:(o++(a.extract z i).reverse).toList.reverse=(a.toList.drop z).take (i-z)++o.toList.reverse:=by rw[Yx,V5,V0,List.reverse_reverse,dS]
 rw[e];rw[jv hz]at h
 refine h.right (by rw[<- jv hz];exact(fk ha).take i) λq hq p hp=>?_
 obtain⟨t,t1,t2,e1⟩:=iH hp;obtain⟨u,u1,u2,e2⟩:=gj hq
 have:=hk (z+t) (by omega) (by omega)
 have:=hb u (j-1) (Y2 _) (by omega) (by omega)
 omega
theorem Mt.bulkB(ha:Up a 0 a.size)(hb:Up b 0 b.size)(h:Mt a b o i j)(hj:j<=b.size)(i1:1<=i)(hz:z<=j)(hi:i<=a.size)(hk:∀t,z<=t->t<j->K a (i-1)<=K b t):Mt a b (o++(b.extract z j).reverse) i z:=by
 unfold Mt at h ⊢
 have e:(o++(b.extract z j).reverse).toList.reverse=(b.toList.drop z).take (j-z)++o.toList.reverse:=by rw[Yx,V5,V0,List.reverse_reverse,dS]
 rw[e];rw[jv hz]at h
 refine h.left (by rw[<- jv hz];exact(fk hb).take j) λq hq p hp=>?_
 obtain⟨t,t1,t2,e1⟩:=iH hp;obtain⟨u,u1,u2,e2⟩:=gj hq
 have:=hk (z+t) (by omega) (by omega)
 have:=ha u (i-1) (Y2 _) (by omega) (by omega)
 omega
theorem Mt.pushA(ha:Up a 0 a.size)(hb:Up b 0 b.size)(h:Mt a b o (i+1) j)(hi:i<a.size)(hk:∀t,t<j->t<b.size->K b t<=K a i):Mt a b (o.push a[i]) i j:=by
 unfold Mt at h ⊢;rw[ju hi]at h;rw[Ql,V5]
 refine h.right (by rw[<- ju hi];exact(fk ha).take _) λq hq p hp=>?_
 rw[Jv.mp hp];obtain⟨u,u1,u2,e2⟩:=gj hq;have:=hk u u1 u2;have e:=bK hi;unfold ke at e2 ⊢;omega
theorem Mt.pushB(ha:Up a 0 a.size)(hb:Up b 0 b.size)(h:Mt a b o i (j+1))(hj:j<b.size)(hk:∀t,t<i->t<a.size->K a t<=K b j):Mt a b (o.push b[j]) i j:=by
 unfold Mt at h ⊢;rw[ju hj]at h;rw[Ql,V5]
 refine h.left (by rw[<- ju hj];exact(fk hb).take _) λq hq p hp=>?_
 rw[Jv.mp hp];obtain⟨u,u1,u2,e2⟩:=gj hq;have:=hk u u1 u2;have e:=bK hj;unfold ke at e2 ⊢;omega
theorem Mt.dn(ha:Up a 0 a.size)(hb:Up b 0 b.size)(h:Mt a b o i j)(hz:i=0\/j=0):Good a b (a.extract 0 i++b.extract 0 j++o.reverse):=by
 unfold Mt at h;unfold Good;rw[Yx,Yx,jw,jw,V0];rcases hz with rfl|rfl
 .rw[List.take_zero]at h ⊢;rw[Zl]
  exact Mr.done (Mr.left (by simpa using h) (by simpa using(fk hb).take j) λq hq=>by cases hq)
 .rw[List.take_zero]at h ⊢;rw[Ym]
  exact Mr.done (Mr.right (by simpa using h) (by simpa using(fk ha).take i) λq hq=>by cases hq)
theorem Mt.fb(ha:Up a 0 a.size)(hb:Up b 0 b.size)(h:Mt a b o i j)(hj:j=1)(hl:∀t,t<a.size->K b 0<=K a t):Good a b (b.extract 0 j++a.extract 0 i++o.reverse):=by
 subst hj;unfold Mt at h;unfold Good;rw[Yx,Yx,jw,jw,V0,Z8]
 have h1:Mr (a.toList++b.toList) [] (b.toList.take 1) (a.toList.take i++o.toList.reverse):=by
  refine Mr.right (by simpa using h) (by simpa using(fk ha).take i) λq hq p hp=>?_
  obtain⟨t,t1,t2,e1⟩:=gj hp;obtain⟨u,u1,u2,e2⟩:=gj hq;have:=hl t t2
  have:u=0:=by omega
  subst this;omega
 exact Mr.done (Mr.left (by simpa using h1) (by simpa using(fk hb).take 1) λq hq=>by cases hq)
end
section
variable{prog:Program}{w:World}{A:Around}{E:Value->Shared->Prop}{s:Shared}
structure Mie(a b o:Array Keyed)(i j:Nat):Prop where
 mg:Mt a b o i j
 i1:1<=i
 ia:i<=a.size
 j1:2<=j
 jb:j<=b.size
set_option maxHeartbeats 2000000 in
theorem Ct{Q:Array Keyed->SortSt->Prop}(hk:kindOf st=oneType')(ia:IK a)(ib:IK b)(ha:Up a 0 a.size)(hb:Up b 0 b.size)(a1:1<=a.size)(b1:1<=b.size)(hl:∀t,t<a.size->K b 0<=K a t)(h0:∀t,t<b.size->K b t<=K a (a.size-1))
  (h:∀r st',Good a b r->Sg st st'->Q r st'):wpS (model prog w) A E s (mHi a b) Q st:=by
 rw[Cs];dsimp only;refine Jh (Vx (Zj ⟨rfl,?_⟩))
 refine Jh (aW (by omega) ?_)
 have m0:Mt a b #[a[a.size-1]] (a.size-1) b.size:=by
  have z:Mt a b #[] (a.size-1+1) b.size:=⟨by rw[show a.size-1+1=a.size by omega,Qb (by simp),Qb (by simp)];simp,List.Pairwise.nil,λq hq p hp=>by cases hp⟩
  exact z.pushA ha hb (by omega) λt _ ht=>h0 t ht
 by_cases g1:a.size-1=0
 .rw[Je (by simpa using g1)]
  exact Jl (h _ _ (m0.dn ha hb (.inl g1)) (Sg.refl st))
 rw[Ji (by simpa using g1)]
 by_cases g2:b.size=1
 .rw[Je (by simpa using g2)]
  exact Jl (h _ _ (m0.fb ha hb g2 hl) (Sg.refl st))
 rw[Ji (by simpa using g2)]
 refine Jh (Wu ?_);have kd:∀{st'},Sg st st'->kindOf st'=oneType':=λz=>z.1.trans hk
 refine Jh (Zo (Z1 (I:=λx c st'=>Sg st st'/\∃o i j g,c=(none,i,j,o,g)/\Mie a b o i j/\i+j+x+1<=a.size+b.size)
  (Q:=λc st'=>Sg st st'/\∃r,c.1=some r/\Good a b r) ?step ?fin ⟨Sg.refl st,_,_,_,_,rfl,⟨m0,by omega,by omega,by omega,by omega⟩,by omega⟩) ?post)
 all_goals skip
 case fin=>
  rintro c st' ⟨_,o,i,j,g,_,m,hx⟩;have:=m.i1;omega
 case post=>
  rintro⟨c,i,j,o,g⟩ st' ⟨z,r,e,hr⟩;cases e;exact Jl (h r st' hr z)
 case step=>
  rintro x c st' _ hx ⟨z,o,i,j,g,rfl,m,hp⟩;dsimp only
  refine Jh (Zo (Z1 (I:=λy c st'=>Sg st st'/\∃o' i' j' ca cb,c=(none,i',j',o',ca,cb)/\Mie a b o' i' j'/\i'+j'+y<=i+j)
   (Q:=λc st'=>Sg st st'/\((∃r,c.1=some r/\Good a b r) \/ ∃o' i' j' ca cb,c=(none,i',j',o',ca,cb)/\Mie a b o' i' j'/\i'+j'+1<=i+j)) ?s1 ?f1 ⟨z,_,_,_,0,0,rfl,m,by omega⟩) ?p1)
  case f1=>
   rintro c st' ⟨z,o',i',j',ca,cb,rfl,m,hy⟩
   exact⟨z,.inr ⟨o',i',j',ca,cb,rfl,m,by omega⟩⟩
  case s1=>
   rintro y c st' _ hy ⟨z,o',i',j',ca,cb,rfl,⟨mm,mi1,mi,mj1,mj⟩,hp'⟩;dsimp only
   have hj9:j'-1<b.size:=by omega
   have hi9:i'-1<a.size:=by omega
   refine Jh (aW hj9 ?_);refine Jh (aW hi9 ?_);refine Jh (qj (kd z) (ib.get hj9) (ia.get hi9) ?_);dsimp only;rw[<- bK hj9,<- bK hi9];by_cases hlt:K b (j'-1)<K a (i'-1)
   .rw[Je (by simpa using hlt)]
    refine Jh (aW hi9 ?_)
    have m2:=Mt.pushA (i:=i'-1) ha hb (by rw[show i'-1+1=i' by omega];exact mm) hi9 λt h1 h2=>Qa (hb t (j'-1) (Y2 _) (by omega) hj9) (Ze hlt)
    by_cases e1:i'-1=0
    .rw[Je (by simpa using e1)]
     exact Jl ⟨z,.inl ⟨_,rfl,m2.dn ha hb (.inl e1)⟩⟩
    .rw[Ji (by simpa using e1)]
     split
     .exact Jl ⟨z,.inr ⟨_,_,_,_,_,rfl,⟨m2,by omega,by omega,by omega,by omega⟩,by omega⟩⟩
     .exact Jl ⟨z,_,_,_,_,_,rfl,⟨m2,by omega,by omega,by omega,by omega⟩,by omega⟩
   .rw[Ji (by simpa using hlt)]
    refine Jh (aW hj9 ?_)
    have m2:=Mt.pushB (j:=j'-1) ha hb (by rw[show j'-1+1=j' by omega];exact mm) hj9 λt h1 h2=>Qa (ha t (i'-1) (Y2 _) (by omega) hi9) (Gi.mp hlt)
    by_cases e1:j'-1=1
    .rw[Je (by simpa using e1)]
     exact Jl ⟨z,.inl ⟨_,rfl,m2.fb ha hb e1 hl⟩⟩
    .rw[Ji (by simpa using e1)]
     split
     .exact Jl ⟨z,.inr ⟨_,_,_,_,_,rfl,⟨m2,by omega,by omega,by omega,by omega⟩,by omega⟩⟩
     .exact Jl ⟨z,_,_,_,_,_,rfl,⟨m2,by omega,by omega,by omega,by omega⟩,by omega⟩
  case p1=>
   rintro c st' ⟨z,⟨r,e,hr⟩|⟨o',i',j',ca,cb,rfl,m,hp'⟩⟩
   .obtain⟨c,o',i',j',ca,cb⟩:=c;cases e;exact Jl ⟨z,r,rfl,hr⟩
   dsimp only;refine Jh (Vx (Zj ⟨rfl,?_⟩))
   refine Jh (Zo (Z1 (I:=λy c st'=>Sg st st'/\∃o2 i2 j2 g ca cb,c=(none,i2,j2,o2,g,ca,cb)/\Mie a b o2 i2 j2/\i2+j2+1<=i+j)
    (Q:=λc st'=>Sg st st'/\((∃r,c.1=some r/\Good a b r) \/ ∃o2 i2 j2 g ca cb,c=(none,i2,j2,o2,g,ca,cb)/\Mie a b o2 i2 j2/\i2+j2+1<=i+j)) ?s2 ?f2 ⟨z,_,_,_,_,_,_,rfl,m,hp'⟩) ?p2)
   case f2=>
    rintro c st' ⟨z,o2,i2,j2,g2,ca,cb,rfl,m,hy⟩;exact⟨z,.inr ⟨o2,i2,j2,g2,ca,cb,rfl,m,hy⟩⟩
   case p2=>
    rintro c st' ⟨z,⟨r,e,hr⟩|⟨o2,i2,j2,g2,ca,cb,rfl,m,hp'⟩⟩
    .obtain⟨c,o2,i2,j2,g2,ca,cb⟩:=c;cases e;exact Jl ⟨z,r,rfl,hr⟩
    dsimp only
    exact Jh (oK z λst' z=>Jl ⟨z,_,_,_,_,rfl,m,by omega⟩)
   case s2=>
    rintro y c st' _ hy ⟨z,o2,i2,j2,g2,ca,cb,rfl,⟨hm,mi1,mi,mj1,mj⟩,hp'⟩;dsimp only
    have hj9:j2-1<b.size:=by omega
    by_cases hg:g2>1
    all_goals (first|rw[Je hg]|rw[Ji hg])
    all_goals
     refine Jh (oK z λst' z=>?_);refine Jh (aW hj9 ?_)
     refine Jh (i6 (kd z) ia (ib.get hj9) (by omega) (by omega) (λp q _ hpq hq=>ha p q (Y2 _) hpq (by omega)) λk k1 k2 k3=>?_)
     dsimp only
     have q2:∀t,t<k->t<a.size->K a t<=K b (j2-1):=λt ht _=>by have:=k2 t ht;rw[bK hj9];simpa[bef] using this
     have q3:∀t,k<=t->t<i2->K b (j2-1)<=K a t:=λt h1 h2=>by
      have:=k3 t h1 h2;rw[bK hj9]
      exact Ze (by simpa[bef] using this)
     by_cases hk0:i2-k>0
     .rw[Je hk0]
      have hm3:=hm.bulkA (z:=k) ha hb mj (by omega) k1 mi q3
      split
      .rename_i e3
       exact Jl ⟨z,.inl ⟨_,rfl,hm3.dn ha hb (.inl (by simpa using e3))⟩⟩
      .rename_i e3;simp at e3;obtain⟨i3,hi3⟩:∃i3,i3=k:=⟨k,rfl⟩;subst hi3;have hq3:=q2
       refine Jh (aW (by omega) ?_)
       have m4:=Mt.pushB (j:=j2-1) ha hb (by rw[show j2-1+1=j2 by omega];exact hm3) (by omega) hq3
       split
       .rename_i e4
        exact Jl ⟨z,.inl ⟨_,rfl,m4.fb ha hb (by simpa using e4) hl⟩⟩
       rename_i e4;simp at e4
       have hi4:i3-1<a.size:=by omega
       refine Jh (aW hi4 ?_)
       refine Jh (i6 (kd z) ib (ia.get hi4) (by omega) (by omega) (λp q _ hpq hq=>hb p q (Y2 _) hpq (by omega)) λu u1 u2 u3=>?_)
       dsimp only
       have v2:∀t,t<u->K b t<=K a (i3-1):=λt ht=>by
        have:=u2 t ht;rw[bK hi4]
        exact Ze (by simpa[bef] using this)
       have v3:∀t,u<=t->t<j2-1->K a (i3-1)<=K b t:=λt h1 h2=>by have:=u3 t h1 h2;rw[bK hi4];simpa[bef] using this
       by_cases hu:j2-1-u>0
       .rw[Je hu]
        have hm6:=m4.bulkB (z:=u) ha hb (by omega) (by omega) (by omega) (by omega) v3
        split
        .rename_i e5
         exact Jl ⟨z,.inl ⟨_,rfl,hm6.fb ha hb (by simpa using e5) hl⟩⟩
        .rename_i e5;split
         .rename_i e7
          exact Jl ⟨z,.inl ⟨_,rfl,hm6.dn ha hb (.inr (by simpa using e7))⟩⟩
         .rename_i e7;simp at e5 e7;have hq6:∀t,t<u->t<b.size->K b t<=K a (i3-1):=λt h1 _=>v2 t h1
          refine Jh (aW (by omega) ?_)
          have m6:=Mt.pushA (i:=i3-1) ha hb (by rw[show i3-1+1=i3 by omega];exact hm6) (by omega) hq6
          split
          .rename_i e6
           exact Jl ⟨z,.inl ⟨_,rfl,m6.dn ha hb (.inl (by simpa using e6))⟩⟩
          .rename_i e6;simp at e6;split
           .exact Jl ⟨z,.inr ⟨_,_,_,_,_,_,rfl,⟨m6,by omega,by omega,by omega,by omega⟩,by omega⟩⟩
           .exact Jl ⟨z,_,_,_,_,_,_,rfl,⟨m6,by omega,by omega,by omega,by omega⟩,by omega⟩
       .rw[Ji hu]
        have hu0:u=j2-1:=by omega
        have hm6:=m4
        have hq6:∀t,t<j2-1->t<b.size->K b t<=K a (i3-1):=λt h1 _=>v2 t (by omega)
        refine Jh (aW (by omega) ?_)
        have m6:=Mt.pushA (i:=i3-1) ha hb (by rw[show i3-1+1=i3 by omega];exact hm6) (by omega) hq6
        split
        .rename_i e6
         exact Jl ⟨z,.inl ⟨_,rfl,m6.dn ha hb (.inl (by simpa using e6))⟩⟩
        .rename_i e6;simp at e6;split
         .exact Jl ⟨z,.inr ⟨_,_,_,_,_,_,rfl,⟨m6,by omega,by omega,by omega,by omega⟩,by omega⟩⟩
         .exact Jl ⟨z,_,_,_,_,_,_,rfl,⟨m6,by omega,by omega,by omega,by omega⟩,by omega⟩
     .rw[Ji hk0]
      have hk1:k=i2:=by omega
      subst hk1;have hm3:=hm;obtain⟨i3,hi3⟩:∃i3,i3=k:=⟨k,rfl⟩;subst hi3;have hq3:=q2
      refine Jh (aW (by omega) ?_)
      have m4:=Mt.pushB (j:=j2-1) ha hb (by rw[show j2-1+1=j2 by omega];exact hm3) (by omega) hq3
      split
      .rename_i e4
       exact Jl ⟨z,.inl ⟨_,rfl,m4.fb ha hb (by simpa using e4) hl⟩⟩
      rename_i e4;simp at e4
      have hi4:i3-1<a.size:=by omega
      refine Jh (aW hi4 ?_)
      refine Jh (i6 (kd z) ib (ia.get hi4) (by omega) (by omega) (λp q _ hpq hq=>hb p q (Y2 _) hpq (by omega)) λu u1 u2 u3=>?_)
      dsimp only
      have v2:∀t,t<u->K b t<=K a (i3-1):=λt ht=>by
       have:=u2 t ht;rw[bK hi4]
       exact Ze (by simpa[bef] using this)
      have v3:∀t,u<=t->t<j2-1->K a (i3-1)<=K b t:=λt h1 h2=>by have:=u3 t h1 h2;rw[bK hi4];simpa[bef] using this
      by_cases hu:j2-1-u>0
      .rw[Je hu]
       have hm6:=m4.bulkB (z:=u) ha hb (by omega) (by omega) (by omega) (by omega) v3
       split
       .rename_i e5
        exact Jl ⟨z,.inl ⟨_,rfl,hm6.fb ha hb (by simpa using e5) hl⟩⟩
       .rename_i e5;split
        .rename_i e7
         exact Jl ⟨z,.inl ⟨_,rfl,hm6.dn ha hb (.inr (by simpa using e7))⟩⟩
        .rename_i e7;simp at e5 e7;have hq6:∀t,t<u->t<b.size->K b t<=K a (i3-1):=λt h1 _=>v2 t h1
         refine Jh (aW (by omega) ?_)
         have m6:=Mt.pushA (i:=i3-1) ha hb (by rw[show i3-1+1=i3 by omega];exact hm6) (by omega) hq6
         split
         .rename_i e6
          exact Jl ⟨z,.inl ⟨_,rfl,m6.dn ha hb (.inl (by simpa using e6))⟩⟩
         .rename_i e6;simp at e6;split
          .exact Jl ⟨z,.inr ⟨_,_,_,_,_,_,rfl,⟨m6,by omega,by omega,by omega,by omega⟩,by omega⟩⟩
          .exact Jl ⟨z,_,_,_,_,_,_,rfl,⟨m6,by omega,by omega,by omega,by omega⟩,by omega⟩
      .rw[Ji hu]
       have hu0:u=j2-1:=by omega
       have hm6:=m4
       have hq6:∀t,t<j2-1->t<b.size->K b t<=K a (i3-1):=λt h1 _=>v2 t (by omega)
       refine Jh (aW (by omega) ?_)
       have m6:=Mt.pushA (i:=i3-1) ha hb (by rw[show i3-1+1=i3 by omega];exact hm6) (by omega) hq6
       split
       .rename_i e6
        exact Jl ⟨z,.inl ⟨_,rfl,m6.dn ha hb (.inl (by simpa using e6))⟩⟩
       .rename_i e6;simp at e6;split
        .exact Jl ⟨z,.inr ⟨_,_,_,_,_,_,rfl,⟨m6,by omega,by omega,by omega,by omega⟩,by omega⟩⟩
        .exact Jl ⟨z,_,_,_,_,_,_,rfl,⟨m6,by omega,by omega,by omega,by omega⟩,by omega⟩
end
structure SB(a0 A0:Array Keyed)(P:Array (Nat×Nat×Nat))(lo:Nat)(st:SortSt):Prop where
 perm:(arrOf st).Perm a0
 kind:kindOf st=oneType'
 failed:failedOf st=none
 pend:pendingOf st=P
 low:∀t,t<lo->K (arrOf st) t=K A0 t
theorem SB.size{a0 A0:Array Keyed}{P:Array (Nat×Nat×Nat)}(h:SB a0 A0 P lo st):(arrOf st).size=a0.size:=h.perm.size_eq
theorem t5(h:IK b)(p:a.Perm b):IK a:=λx hx=>h x ((Uv.mp p).mem_iff.mp hx)
theorem SB.arr{a0 A0:Array Keyed}{P:Array (Nat×Nat×Nat)}(h:SB a0 A0 P lo st)(p:xs.Perm (arrOf st))(hl:∀t,t<lo->K xs t=K (arrOf st) t):SB a0 A0 P lo (setArr st xs):=
 ⟨p.trans h.perm,h.kind,h.failed,h.pend,λt ht=>(hl t ht).trans (h.low t ht)⟩
section
variable{prog:Program}{w:World}{A:Around}{E:Value->Shared->Prop}{s:Shared}{a0 A0:Array Keyed}{P:Array (Nat×Nat×Nat)}{lo:Nat}
theorem lS(hB:SB a0 A0 P lo st)(h0:IK a0)(hi:i<a0.size)(hj:j<a0.size)(h:Q (some (decide (K (arrOf st) i<K (arrOf st) j))) st):wpS (model prog w) A E s (ltAt' i j) Q st:=by
 have h1:i<(arrOf st).size:=by rw[hB.size];exact hi
 have h2:j<(arrOf st).size:=by rw[hB.size];exact hj
 have ik:=t5 h0 hB.perm;rw[ltAt'_eq];refine Jh (Wu ?_);refine Jh (aW h1 (Jh (aW h2 (qj hB.kind (ik.get h1) (ik.get h2) ?_))));rw[bK h1,bK h2]at h;exact h
theorem gH{Q:Unit->SortSt->Prop}(hB:SB a0 A0 P lo st)(hi:lo<=i)(hj:j<=a0.size)(h:SB a0 A0 P lo (setArr st (mirror (arrOf st) i j ((j-i)/2)))->Q () (setArr st (mirror (arrOf st) i j ((j-i)/2)))):wpS (model prog w) A E s (reverseSlice' i j) Q st:=by
 rw[reverseSlice'_eq];refine W7 (h (hB.arr (mirror_perm _ _ _ _) λt ht=>?_))
 rw[K_mirror (by rw[hB.size];exact hj),Ji (by omega)]
theorem zV{ok:Nat}{Q:Bool->SortSt->Prop}(h0:IK a0)(hn:lo+n<=a0.size)(hB:SB a0 A0 P lo st)(hs:Up (arrOf st) lo (lo+ok))(hok:ok<=n)
  (h:∀st',SB a0 A0 P lo st'->Up (arrOf st') lo (lo+n)->Q true st'):wpS (model prog w) A E s (binarySort' lo n ok) Q st:=by
 rw[binarySort'_eq]
 refine Jh (Zo (Z1 (I:=λk c st'=>c=(none,())/\SB a0 A0 P lo st'/\Up (arrOf st') lo (lo+min k n))
  (Q:=λc st'=>c=(none,())/\SB a0 A0 P lo st'/\Up (arrOf st') lo (lo+n)) ?ste ?fi ⟨rfl,hB,?ini⟩) ?po)
 case ini=>
  intro i j h1 h2 h3;by_cases z:ok=0
  .have:i=j:=by omega
   subst this;exact Q3 _
  .exact hs i j h1 h2 (by omega)
 case po=>
  rintro c st' ⟨rfl,b1,b2⟩;exact Jl (h st' b1 b2)
 case fi=>
  rintro c st' ⟨hc,b1,b2⟩
  rw[show min (max (max ok 1) n) n=n by omega]at b2
  exact⟨hc,b1,b2⟩
 case ste=>
  rintro k c st' hak hkn ⟨rfl,b1,b2⟩
  rw[show min k n=k by omega]at b2
  refine Jh (Zo (Z1 (I:=λx c st2=>st2=st'/\∃l r,c=(none,l,r)/\l<=r/\r<=k/\r-l<=k-x/\(∀i,lo<=i->i<lo+l->K (arrOf st') i<=K (arrOf st') (lo+k))/\(∀i,lo+r<=i->i<lo+k->K (arrOf st') (lo+k)<K (arrOf st') i))
   (Q:=λc st2=>st2=st'/\∃l r,c=(none,l,r)/\l<=k/\(∀i,lo<=i->i<lo+l->K (arrOf st') i<=K (arrOf st') (lo+k))/\(∀i,lo+l<=i->i<lo+k->K (arrOf st') (lo+k)<K (arrOf st') i)) ?a ?b ⟨rfl,0,k,rfl,by omega,by omega,by omega,λi _ hi=>by omega,λi _ _=>by omega⟩) ?c)
  case b=>
   rintro c st2 ⟨rfl,l,r,rfl,c1,c2,c3,c4,c5⟩
   have:l=r:=by omega
   subst this;exact⟨rfl,l,l,rfl,c2,c4,c5⟩
  case a=>
   rintro x c st2 _ hx ⟨rfl,l,r,rfl,c1,c2,c3,c4,c5⟩;dsimp only;by_cases g:l >= r
   .rw[Je g]
    have:l=r:=by omega
    subst this;exact Jl ⟨rfl,l,l,rfl,c2,c4,c5⟩
   .rw[Ji g]
    refine Jh (lS b1 h0 (by omega) (by omega) ?_)
    by_cases hl:K (arrOf st2) (lo+k)<K (arrOf st2) (lo+(l+r)/2)
    .simp only[hl,W8,Z0]
     exact Jl ⟨rfl,l,(l+r)/2,rfl,by omega,by omega,by omega,c4,λi h1 h2=>Int.lt_of_lt_of_le hl (b2 _ _ (by omega) h1 h2)⟩
    .simp only[hl,Q1,Jy,Yp]
     exact Jl ⟨rfl,(l+r)/2+1,r,rfl,by omega,by omega,by omega,λi h1 h2=>Qa (b2 i (lo+(l+r)/2) h1 (by omega) (by omega)) (Gi.mp hl),c5⟩
  case c=>
   rintro c st2 ⟨rfl,l,r,rfl,c2,c4,c5⟩
   show wpS _ _ _ _ (do moveDown' (lo+k) (lo+l);pure (ForInStep.yield (none,()))) _ _
   rw[moveDown'_eq]
   have hks:lo+k<(arrOf st2).size:=by rw[b1.size];omega
   have kb:=λt=>K_bubble (xs:=arrOf st2) (src:=lo+k) (d:=lo+k-(lo+l)) hks (by omega) t
   rw[show lo+k-(lo+k-(lo+l))=lo+l by omega]at kb
   refine Jh (W7 (Jl ⟨rfl,b1.arr (bubble_perm _ _ _) λt ht=>?_,λi j h1 h2 h3=>?_⟩))
   .rw[kb,Ji (by omega),Ji (by omega)]
   .rw[show min (k+1) n=k+1 by omega]at h3
    show K (bubble _ _ _) i<=K (bubble _ _ _) j;rw[kb,kb]
    repeat' split
    all_goals first
     |(exfalso;omega)
     |exact Q3 _
     |exact c4 _ (by omega) (by omega)
     |exact Ze (c5 _ (by omega) (by omega))
     |exact b2 _ _ (by omega) (by omega) (by omega)
end
theorem mir(hj:j<=xs.size)(h:∀k,i<=k->k<j->K xs k=K xs (j-1))(k:Nat):K (mirror xs i j ((j-i)/2)) k=K xs k:=by
 rw[K_mirror hj];split
 .rw[h _ (by omega) (by omega),h k (by omega) (by omega)]
 .rfl
section
variable{prog:Program}{w:World}{A:Around}{E:Value->Shared->Prop}{s:Shared}{a0 A0:Array Keyed}{P:Array (Nat×Nat×Nat)}{lo:Nat}
noncomputable abbrev AS:=Option (Option Nat)×Nat
theorem lU{a nrem:Nat}{f:Nat->AS->SM (ForInStep AS)}{Q:AS->SortSt->Prop}(h0:IK a0)(hn:lo+nrem<=a0.size)(ha:1<=a)(han:a<=nrem)(hB:SB a0 A0 P lo st)(hs:Up (arrOf st) lo (lo+a))
  (hf:∀x n (R:ForInStep AS->SortSt->Prop),wpS (model prog w) A E s (ltAt' (lo+n) (lo+n-1)) (λr st'=>∃b,r=some b/\R (if b=true then .done (none,n) else .yield (none,n+1)) st') st->wpS (model prog w) A E s (f x (none,n)) R st)
  (h:∀n,a<=n->n<=nrem->Up (arrOf st) lo (lo+n)->(n=nrem\/K (arrOf st) (lo+n)<K (arrOf st) (lo+n-1))->Q (none,n) st):wpS (model prog w) A E s (forIn [a:nrem] ((none,a):AS) f) Q st:=by
 refine Z1 (I:=λx c st'=>st'=st/\c=(none,x)/\Up (arrOf st) lo (lo+x)) ?a ?b ⟨rfl,rfl,hs⟩
 case b=>
  rintro c st' ⟨rfl,rfl,b1⟩
  rw[show max a nrem=nrem by omega]at b1 ⊢
  exact h nrem han (Jd _) b1 (.inl rfl)
 case a=>
  rintro x c st' h1 h2 ⟨rfl,rfl,b1⟩
  refine hf _ _ _ (lS hB h0 (by omega) (by omega) ⟨_,rfl,?_⟩)
  by_cases hl:K (arrOf st') (lo+x)<K (arrOf st') (lo+x-1)
  .simp only[hl,W8,Z0]
   exact h x h1 (by omega) b1 (.inr hl)
  .simp only[hl,Q1,Jy,Yp];refine⟨trivial,trivial,λi j i1 i2 i3=>?_⟩;by_cases hj:j<lo+x
   .exact b1 i j i1 i2 hj
   .have hj':j=lo+x:=by omega
    subst hj';by_cases e:i=lo+x
    .subst e;exact Q3 _
    .exact Qa (b1 i (lo+x-1) i1 (by omega) (by omega)) (Gi.mp hl)
set_option maxHeartbeats 2000000 in
theorem Cu{nrem:Nat}{Q:Option Nat->SortSt->Prop}(h0:IK a0)(hn:lo+nrem<=a0.size)(h1:1<=nrem)(hB:SB a0 A0 P lo st)
  (h:∀m st',SB a0 A0 P lo st'->1<=m->m<=nrem->Up (arrOf st') lo (lo+m)->Q (some m) st'):wpS (model prog w) A E s (countRun' lo nrem) Q st:=by
 rw[countRun'_eq];dsimp only
 refine Jh (lU h0 hn (Jd 1) h1 hB (λi j i1 i2 i3=>by rw[show i=j by omega];exact Q3 _) ?hf λn n1 n2 u ho=>?_)
 case hf=>
  intro x n R hR;dsimp only;refine Jh (Zo hR ?_);rintro r st' ⟨b,rfl,hb⟩;cases b
  .exact Jl hb
  .exact Jl hb
 dsimp only;by_cases e:n=nrem
 .rw[Je (by simpa using e)]
  exact Jl (h n st hB n1 n2 u)
 rw[Ji (by simpa using e)]
 have hlt:K (arrOf st) (lo+n)<K (arrOf st) (lo+n-1):=ho.resolve_left e;by_cases g:n>1
 .rw[Je g]
  refine Jh (lS hB h0 (by omega) (by omega) ?_)
  by_cases hr:K (arrOf st) lo<K (arrOf st) (lo+n-1)
  .simp only[hr,W8,Z0];exact Jl (h n st hB n1 n2 u)
  .simp only[hr,Q1,Jy,Yp]
   have hsz:lo+n<=(arrOf st).size:=by rw[hB.size];omega
   have all:∀k,lo<=k->k<lo+n->K (arrOf st) k=K (arrOf st) (lo+n-1):=λk k1 k2=>by
    have a1:=u lo k (Jd _) k1 k2
    have a2:=u k (lo+n-1) k1 (by omega) (by omega)
    omega
   refine Jh (gH hB (Jd _) (by omega) λhB1=>?_)
   have hD1:Dn (mirror (arrOf st) lo (lo+n) ((lo+n-lo)/2)) lo (lo+(n+1)):=λi j i1 i2 i3=>by
    rw[mir hsz all,mir hsz all];by_cases hj:j<lo+n
    .rw[all i i1 (by omega),all j (by omega) hj];exact Q3 _
    .have hj':j=lo+n:=by omega
     subst hj';by_cases e:i=lo+n
     .subst e;exact Q3 _
     .rw[all i i1 (by omega)];exact Ze hlt
   refine Jh (Vx (Zj ⟨rfl,?_⟩))
   refine Jh (Zo (Z1 (I:=λx c st'=>∃neq,c=(none,x,neq)/\SB a0 A0 P lo st'/\Dn (arrOf st') lo (lo+x)/\neq+1<=x/\(∀i,lo+x-(neq+1)<=i->i<lo+x->K (arrOf st') i=K (arrOf st') (lo+x-1)))
    (Q:=λc st'=>∃m neq,c=(none,m,neq)/\n+1<=m/\m<=nrem/\SB a0 A0 P lo st'/\Dn (arrOf st') lo (lo+m)/\neq+1<=m/\(∀i,lo+m-(neq+1)<=i->i<lo+m->K (arrOf st') i=K (arrOf st') (lo+m-1))) ?a ?b ⟨0,rfl,hB1,hD1,by omega,λi i1 i2=>by congr 1;omega⟩) ?c)
   case b=>
    rintro c st' ⟨neq,rfl,b1,b2,b3,b4⟩
    rw[show max (n+1) nrem=nrem by omega]at b2 b3 b4 ⊢
    exact⟨nrem,neq,rfl,by omega,Jd _,b1,b2,b3,b4⟩
   case a=>
    rintro x c st' x1 x2 ⟨neq,rfl,b1,b2,b3,b4⟩;dsimp only
    have hsz:lo+x<=(arrOf st').size:=by rw[b1.size];omega
    refine Jh (lS b1 h0 (by omega) (by omega) ?_)
    have more:∀xs:Array Keyed,(∀k,K xs k=K (arrOf st') k)->K (arrOf st') (lo+x)<=K (arrOf st') (lo+x-1)->Dn xs lo (lo+(x+1)):=by
     intro xs hk hle i j i1 i2 i3;rw[hk,hk];by_cases hj:j<lo+x
     .exact b2 i j i1 i2 hj
     .have hj':j=lo+x:=by omega
      subst hj';by_cases e:i=lo+x
      .subst e;exact Q3 _
      .exact Qa hle (b2 i (lo+x-1) i1 (by omega) (by omega))
    by_cases hl:K (arrOf st') (lo+x)<K (arrOf st') (lo+x-1)
    .simp only[hl,W8,Z0];by_cases hq:neq>0
     .rw[Je hq]
      refine Jh (gH b1 (by omega) (by omega) λb9=>Jl ⟨0,rfl,b9,more _ (mir hsz b4) (Ze hl),by omega,λi i1 i2=>by congr 1;omega⟩)
     .rw[Ji hq]
      exact Jl ⟨0,rfl,b1,more _ (λ_=>rfl) (Ze hl),by omega,λi i1 i2=>by congr 1;omega⟩
    .simp only[hl,Q1,Jy,Yp]
     refine Jh (lS b1 h0 (by omega) (by omega) ?_)
     by_cases hg:K (arrOf st') (lo+x-1)<K (arrOf st') (lo+x)
     .simp only[hg,W8,Z0]
      exact Jl ⟨x,neq,rfl,x1,by omega,b1,b2,b3,b4⟩
     .simp only[hg,Q1,Jy,Yp]
      have he:K (arrOf st') (lo+x)=K (arrOf st') (lo+x-1):=by omega
      refine Jl ⟨neq+1,rfl,b1,more _ (λ_=>rfl) (by omega),by omega,λi i1 i2=>?_⟩
      rw[show lo+(x+1)-1=lo+x by omega]
      by_cases e:i=lo+x
      .subst e;rfl
      .rw[he];exact b4 i (by omega) (by omega)
   case c=>
    rintro c st' ⟨m,neq,rfl,m1,m2,b1,b2,b3,b4⟩;dsimp only
    have hsz:lo+m<=(arrOf st').size:=by rw[b1.size];omega
    have last:∀st2,SB a0 A0 P lo st2->Dn (arrOf st2) lo (lo+m)->Up (mirror (arrOf st2) lo (lo+m) ((lo+m-lo)/2)) lo (lo+m):=λst2 c1 c2 i j i1 i2 i3=>by
     rw[K_mirror (by rw[c1.size];omega),K_mirror (by rw[c1.size];omega),Je (by omega),Je (by omega)]
     exact c2 _ _ (by omega) (by omega) (by omega)
    by_cases hq:neq>0
    .rw[Je hq]
     refine Jh (gH b1 (by omega) (by omega) λb9=>?_)
     have d9:Dn (mirror (arrOf st') (lo+m-(neq+1)) (lo+m) ((lo+m-(lo+m-(neq+1)))/2)) lo (lo+m):=λi j i1 i2 i3=>by rw[mir hsz b4,mir hsz b4];exact b2 i j i1 i2 i3
     refine Jh (gH b9 (Jd _) (by omega) λb8=>?_)
     refine Jh (lU h0 hn (by omega) m2 b8 (last _ b9 d9) ?_ λn2 n1 n3 u _=>Jl (h n2 _ b8 (by omega) n3 u))
     intro x n R hR;dsimp only;refine Jh (Zo hR ?_);rintro r st' ⟨b,rfl,hb⟩;cases b
     .exact Jl hb
     .exact Jl hb
    .rw[Ji hq]
     refine Jh (gH b1 (Jd _) (by omega) λb8=>?_)
     refine Jh (lU h0 hn (by omega) m2 b8 (last _ b1 b2) ?_ λn2 n1 n3 u _=>Jl (h n2 _ b8 (by omega) n3 u))
     intro x n R hR;dsimp only;refine Jh (Zo hR ?_);rintro r st' ⟨b,rfl,hb⟩;cases b
     .exact Jl hb
     .exact Jl hb
 .rw[Ji g]
  have hn1:n=1:=by omega
  have hB1:=hB
  have hD1:Dn (arrOf st) lo (lo+(n+1)):=λi j i1 i2 i3=>by
   by_cases e:i=j
   .subst e;exact Q3 _
   .have e1:i=lo+n-1:=by omega
    have e2:j=lo+n:=by omega
    rw[e1,e2];exact Ze hlt
  refine Jh (Vx (Zj ⟨rfl,?_⟩))
  refine Jh (Zo (Z1 (I:=λx c st'=>∃neq,c=(none,x,neq)/\SB a0 A0 P lo st'/\Dn (arrOf st') lo (lo+x)/\neq+1<=x/\(∀i,lo+x-(neq+1)<=i->i<lo+x->K (arrOf st') i=K (arrOf st') (lo+x-1)))
   (Q:=λc st'=>∃m neq,c=(none,m,neq)/\n+1<=m/\m<=nrem/\SB a0 A0 P lo st'/\Dn (arrOf st') lo (lo+m)/\neq+1<=m/\(∀i,lo+m-(neq+1)<=i->i<lo+m->K (arrOf st') i=K (arrOf st') (lo+m-1))) ?a ?b ⟨0,rfl,hB1,hD1,by omega,λi i1 i2=>by congr 1;omega⟩) ?c)
  case b=>
   rintro c st' ⟨neq,rfl,b1,b2,b3,b4⟩
   rw[show max (n+1) nrem=nrem by omega]at b2 b3 b4 ⊢
   exact⟨nrem,neq,rfl,by omega,Jd _,b1,b2,b3,b4⟩
  case a=>
   rintro x c st' x1 x2 ⟨neq,rfl,b1,b2,b3,b4⟩;dsimp only
   have hsz:lo+x<=(arrOf st').size:=by rw[b1.size];omega
   refine Jh (lS b1 h0 (by omega) (by omega) ?_)
   have more:∀xs:Array Keyed,(∀k,K xs k=K (arrOf st') k)->K (arrOf st') (lo+x)<=K (arrOf st') (lo+x-1)->Dn xs lo (lo+(x+1)):=by
    intro xs hk hle i j i1 i2 i3;rw[hk,hk];by_cases hj:j<lo+x
    .exact b2 i j i1 i2 hj
    .have hj':j=lo+x:=by omega
     subst hj';by_cases e:i=lo+x
     .subst e;exact Q3 _
     .exact Qa hle (b2 i (lo+x-1) i1 (by omega) (by omega))
   by_cases hl:K (arrOf st') (lo+x)<K (arrOf st') (lo+x-1)
   .simp only[hl,W8,Z0];by_cases hq:neq>0
    .rw[Je hq]
     refine Jh (gH b1 (by omega) (by omega) λb9=>Jl ⟨0,rfl,b9,more _ (mir hsz b4) (Ze hl),by omega,λi i1 i2=>by congr 1;omega⟩)
    .rw[Ji hq]
     exact Jl ⟨0,rfl,b1,more _ (λ_=>rfl) (Ze hl),by omega,λi i1 i2=>by congr 1;omega⟩
   .simp only[hl,Q1,Jy,Yp]
    refine Jh (lS b1 h0 (by omega) (by omega) ?_)
    by_cases hg:K (arrOf st') (lo+x-1)<K (arrOf st') (lo+x)
    .simp only[hg,W8,Z0]
     exact Jl ⟨x,neq,rfl,x1,by omega,b1,b2,b3,b4⟩
    .simp only[hg,Q1,Jy,Yp]
     have he:K (arrOf st') (lo+x)=K (arrOf st') (lo+x-1):=by omega
     refine Jl ⟨neq+1,rfl,b1,more _ (λ_=>rfl) (by omega),by omega,λi i1 i2=>?_⟩
     rw[show lo+(x+1)-1=lo+x by omega]
     by_cases e:i=lo+x
     .subst e;rfl
     .rw[he];exact b4 i (by omega) (by omega)
  case c=>
   rintro c st' ⟨m,neq,rfl,m1,m2,b1,b2,b3,b4⟩;dsimp only
   have hsz:lo+m<=(arrOf st').size:=by rw[b1.size];omega
   have last:∀st2,SB a0 A0 P lo st2->Dn (arrOf st2) lo (lo+m)->Up (mirror (arrOf st2) lo (lo+m) ((lo+m-lo)/2)) lo (lo+m):=λst2 c1 c2 i j i1 i2 i3=>by
    rw[K_mirror (by rw[c1.size];omega),K_mirror (by rw[c1.size];omega),Je (by omega),Je (by omega)]
    exact c2 _ _ (by omega) (by omega) (by omega)
   by_cases hq:neq>0
   .rw[Je hq]
    refine Jh (gH b1 (by omega) (by omega) λb9=>?_)
    have d9:Dn (mirror (arrOf st') (lo+m-(neq+1)) (lo+m) ((lo+m-(lo+m-(neq+1)))/2)) lo (lo+m):=λi j i1 i2 i3=>by rw[mir hsz b4,mir hsz b4];exact b2 i j i1 i2 i3
    refine Jh (gH b9 (Jd _) (by omega) λb8=>?_)
    refine Jh (lU h0 hn (by omega) m2 b8 (last _ b9 d9) ?_ λn2 n1 n3 u _=>Jl (h n2 _ b8 (by omega) n3 u))
    intro x n R hR;dsimp only;refine Jh (Zo hR ?_);rintro r st' ⟨b,rfl,hb⟩;cases b
    .exact Jl hb
    .exact Jl hb
   .rw[Ji hq]
    refine Jh (gH b1 (Jd _) (by omega) λb8=>?_)
    refine Jh (lU h0 hn (by omega) m2 b8 (last _ b1 b2) ?_ λn2 n1 n3 u _=>Jl (h n2 _ b8 (by omega) n3 u))
    intro x n R hR;dsimp only;refine Jh (Zo hR ?_);rintro r st' ⟨b,rfl,hb⟩;cases b
    .exact Jl hb
    .exact Jl hb
end
noncomputable def wr(xs:Array Keyed)(z:Nat)(l:List (Keyed×Nat)):Array Keyed:=l.foldl (λa (x:Keyed×Nat)=>match x with|(p,j)=>a.setIfInBounds (z+j) p) xs
theorem sk(z:Nat):∀(m:List Keyed)(k:Nat)(xs:Array Keyed),z+k+m.length<=xs.size->∀t,(wr xs z (m.zipIdx k))[t]?=if z+k<=t/\t<z+k+m.length then m[t-(z+k)]? else xs[t]?
 |[],k,xs,_,t=>by
  rw[Ji (by rw[Y3];omega)]
  rfl
 |p::m,k,xs,h,t=>by
  rw[Jk]at h;show(wr (xs.setIfInBounds (z+k) p) z (m.zipIdx (k+1)))[t]?=_
  rw[sk z m (k+1) _ (by rw[Array.size_setIfInBounds];omega),Jk,Array.getElem?_setIfInBounds]
  by_cases h1:z+(k+1)<=t/\t<z+(k+1)+m.length
  .rw[Je h1,Je (by omega)]
   obtain⟨d,hd⟩:∃d,t-(z+k)=d+1:=⟨t-(z+k)-1,by omega⟩
   rw[hd,Z6];congr 1;omega
  .rw[Ji h1];by_cases h2:z+k=t
   .rw[Je h2,Je (by omega),Je (by omega)]
    rw[show t-(z+k)=0 by omega]
    rfl
   .rw[Ji h2,Ji (by omega)]
theorem zW{z:Nat}{m:List Keyed}(h:z+m.length<=xs.size):(wr xs z m.zipIdx).toList=xs.toList.take z++(m++xs.toList.drop (z+m.length)):=by
 refine Vl λt=>?_
 rw[Yl,sk z m 0 xs (by omega)]
 have hlt:(xs.toList.take z).length=z:=by rw[Zx];simp;omega
 by_cases h1:t<z
 .rw[Ji (by omega),Jw (by omega),List.getElem?_take_of_lt h1,Yl]
 .rw[Y5 (by omega),hlt]
  by_cases h2:t<z+m.length
  .rw[Je (by omega),Jw (by omega)]
   rfl
  .rw[Ji (by omega),Y5 (by omega),Um,Yl]
   congr 1;omega
noncomputable def Ch(xs:Array Keyed):Nat->List (Nat×Nat×Nat)->Nat->Prop
 |z,[],y=>z=y
 |z,(s,n,_)::r,y=>s=z/\1<=n/\Up xs z (z+n)/\Ch xs (z+n) r y
theorem Ch.le:∀{l:List (Nat×Nat×Nat)}{z y:Nat},Ch xs z l y->z+l.length<=y
 |[],z,y,h=>by unfold Ch at h;simp;omega
 |(s,n,p)::r,z,y,h=>by obtain⟨_,h1,_,h2⟩:=h;have:=h2.le;rw[Jk];omega
theorem Ch.app:∀{l r:List (Nat×Nat×Nat)}{z y:Nat},Ch xs z (l++r) y↔∃m,Ch xs z l m/\Ch xs m r y
 |[],r,z,y=>⟨λh=>⟨z,rfl,h⟩,λ⟨m,h1,h2⟩=>by unfold Ch at h1;subst h1;exact h2⟩
 |(s,n,p)::l,r,z,y=>by
  constructor
  .rintro⟨h1,h2,h3,h4⟩;obtain⟨m,h5,h6⟩:=Ch.app.mp h4;exact⟨m,⟨h1,h2,h3,h5⟩,h6⟩
  .rintro⟨m,⟨h1,h2,h3,h5⟩,h6⟩;exact⟨h1,h2,h3,Ch.app.mpr ⟨m,h5,h6⟩⟩
theorem Ch.like{ys:Array Keyed}:∀{l:List (Nat×Nat×Nat)}{z y:Nat},Ch xs z l y->(∀t,z<=t->t<y->K ys t=K xs t)->Ch ys z l y
 |[],z,y,h,_=>h
 |(s,n,p)::r,z,y,⟨h1,h2,h3,h4⟩,hk=>by
  have:=h4.le
  refine⟨h1,h2,λi j i1 i2 i3=>?_,h4.like λt t1 t2=>hk t (by omega) t2⟩
  rw[hk i i1 (by omega),hk j (by omega) (by omega)]
  exact h3 i j i1 i2 i3
theorem Ch.pow(f:Nat×Nat×Nat->Nat×Nat×Nat)(hf:∀s n p,∃q,f (s,n,p)=(s,n,q)):∀{l:List (Nat×Nat×Nat)}{z y:Nat}(k:Nat),Ch xs z l y->Ch xs z (l.modify k f) y
 |[],z,y,k,h=>by simpa using h
 |(s,n,p)::r,z,y,0,⟨h1,h2,h3,h4⟩=>by obtain⟨q,e⟩:=hf s n p;rw[List.modify_zero_cons,e];exact⟨h1,h2,h3,h4⟩
 |(s,n,p)::r,z,y,k+1,⟨h1,h2,h3,h4⟩=>by rw[List.modify_succ_cons];exact⟨h1,h2,h3,Ch.pow f hf k h4⟩
structure Bs(a0:Array Keyed)(st:SortSt):Prop where
 perm:(arrOf st).Perm a0
 kind:kindOf st=oneType'
 failed:failedOf st=none
theorem sr(i:Nat):mergeAt' i=(do
 let s <- get
 let (some (sa,na,pw),some (sb,nb,_)):=((pendingOf s)[i]?,(pendingOf s)[i+1]?)|unsupported "internal:list.sort.pending"
 set (setPending s (((pendingOf s).setIfInBounds i (sa,na+nb,pw)).eraseIdxIfInBounds (i+1)))
 let some k <- gal false (<- elem' (arrOf s) sb) (arrOf s) sa na 0|return false
 let (sa,na):=(sa+k,na-k)
 if na == 0 then return true
 let some nb <- gal true (<- elem' (arrOf s) (sa+na-1)) (arrOf s) sb nb (nb-1)|return false
 if nb == 0 then return true
 let x:=(arrOf s).extract sa sb
 let y:=(arrOf s).extract sb (sb+nb)
 let m <- if na<=nb then mLo x y else mHi x y
 modify λs=>setArr s (m.toList.zipIdx.foldl (λa (p,j)=>a.setIfInBounds (sa+j) p) (arrOf s))
 return (failedOf (<- get)).isNone):=rfl
section
variable{prog:Program}{w:World}{A:Around}{E:Value->Shared->Prop}{s:Shared}{a0:Array Keyed}
theorem zX{st1:SortSt}{Q:PUnit->SortSt->Prop}(h:Q ⟨⟩ st1):wpS (model prog w) A E s (set st1:StateT SortSt Sem PUnit) Q st:=by unfold wpS;rw[StateT.run_set];exact Ja ⟨rfl,h⟩
theorem nC{t:Nat}(ht:i+t<j)(hj:j<=xs.size):K (xs.extract i j) t=K xs (i+t):=by
 unfold K;rw[Array.getElem?_extract]
 rw[Je (by omega)]
theorem oM(h:IK xs)(i j:Nat):IK (xs.extract i j):=λp hp=>h p (by
 rw[dS]at hp
 exact Uc (V1 hp))
theorem xx(h:Up xs i j)(hj:j<=xs.size):Up (xs.extract i j) 0 (xs.extract i j).size:=by
 have hs:(xs.extract i j).size=j-i:=by rw[Uo];omega
 rw[hs];intro p q _ h2 h3
 rw[nC (by omega) hj,nC (by omega) hj]
 exact h _ _ (by omega) (by omega) (by omega)
theorem Cv{sa na p sb nb q:Nat}{l1 l2:List (Nat×Nat×Nat)}{y:Nat}{Q:Bool->SortSt->Prop}(h0:IK a0)(hB:Bs a0 st)(hi:i=l1.length)(hP:(pendingOf st).toList=l1++(sa,na,p)::(sb,nb,q)::l2)(hC:Ch (arrOf st) 0 (pendingOf st).toList y)(hy:y<=a0.size)
  (h:∀st',Bs a0 st'->(pendingOf st').toList=l1++(sa,na+nb,p)::l2->Ch (arrOf st') 0 (pendingOf st').toList y->(∀t,y<=t->K (arrOf st') t=K (arrOf st) t)->Q true st'):wpS (model prog w) A E s (mergeAt' i) Q st:=by
 have hsz:(arrOf st).size=a0.size:=hB.perm.size_eq;have ik:=t5 h0 hB.perm;rw[hP]at hC;obtain⟨z,c1,e1,n1,u1,e2,n2,u2,c2⟩:=Ch.app.mp hC;subst e1 e2;have c2l:=c2.le
 have g1:(pendingOf st)[i]?=some (sa,na,p):=by rw[<- Yl,hP,hi];simp
 have g2:(pendingOf st)[i+1]?=some (sa+na,nb,q):=by rw[<- Yl,hP,hi,Y5 (by omega)];simp
 have hP2:(((pendingOf st).setIfInBounds i (sa,na+nb,p)).eraseIdxIfInBounds (i+1)).toList=l1++(sa,na+nb,p)::l2:=by
  have hl:i+1<(pendingOf st).size:=by rw[<- Jz,hP,hi,Jm,Jk,Jk];omega
  rw[Array.eraseIdxIfInBounds,dif_pos (by rw[Array.size_setIfInBounds];exact hl),Array.toList_eraseIdx,Array.toList_setIfInBounds,hP,hi]
  rw[List.set_append_right _ _ (Jd _),List.eraseIdx_append_of_length_le (by omega)]
  simp
 rw[sr];refine Jh (Wu ?_);rw[g1,g2];dsimp only;refine Jh (zX ?_)
 have hsb:sa+na<(arrOf st).size:=by omega
 refine Jh (aW hsb ?_)
 refine Jh (i6 hB.kind ik (ik.get hsb) (by omega) (by omega) u1 λk k1 k2 k3=>?_)
 dsimp only
 have q2:∀t,sa<=t->t<sa+k->K (arrOf st) t<=K (arrOf st) (sa+na):=λt t1 t2=>by
  have:=k2 (t-sa) (by omega)
  rw[show sa+(t-sa)=t by omega]at this
  rw[bK hsb];simpa[bef] using this
 have q3:∀t,sa+k<=t->t<sa+na->K (arrOf st) (sa+na)<=K (arrOf st) t:=λt t1 t2=>by
  have:=k3 (t-sa) (by omega) (by omega)
  rw[show sa+(t-sa)=t by omega]at this
  rw[bK hsb]
  exact Ze (by simpa[bef] using this)
 -- when nothing is to be moved
 have still:Up (arrOf st) sa (sa+(na+nb))->Q true (setPending st (((pendingOf st).setIfInBounds i (sa,na+nb,p)).eraseIdxIfInBounds (i+1))):=λhu=>by
  refine h _ ⟨hB.perm,hB.kind,hB.failed⟩ hP2 ?_ λt _=>rfl;show Ch (arrOf st) 0 (((pendingOf st).setIfInBounds i (sa,na+nb,p)).eraseIdxIfInBounds (i+1)).toList y;rw[hP2]
  exact Ch.app.mpr ⟨sa,c1,rfl,by omega,hu,by rw[<- Nat.add_assoc];exact c2⟩
 by_cases e1:na-k=0
 .rw[Je (by simpa using e1)]
  refine Jl (still λi j i1 i2 i3=>?_);by_cases hj:j<sa+na
  .exact u1 i j i1 i2 hj
  .by_cases hi':i<sa+na
   .exact Qa (q2 i i1 (by omega)) (u2 (sa+na) j (Jd _) (by omega) (by omega))
   .exact u2 i j (by omega) i2 (by omega)
 rw[Ji (by simpa using e1)]
 have hla:sa+k+(na-k)-1<(arrOf st).size:=by omega
 refine Jh (aW hla ?_)
 refine Jh (i6 hB.kind ik (ik.get hla) (by omega) (by omega) u2 λm m1 m2 m3=>?_)
 dsimp only
 have v2:∀t,sa+na<=t->t<sa+na+m->K (arrOf st) t<=K (arrOf st) (sa+na-1):=λt t1 t2=>by
  have:=m2 (t-(sa+na)) (by omega)
  rw[show sa+na+(t-(sa+na))=t by omega]at this
  have e:sa+na-1=sa+k+(na-k)-1:=by omega
  rw[e,bK hla]
  exact Ze (by simpa[bef] using this)
 have v3:∀t,sa+na+m<=t->t<sa+na+nb->K (arrOf st) (sa+na-1)<=K (arrOf st) t:=λt t1 t2=>by
  have:=m3 (t-(sa+na)) (by omega) (by omega)
  rw[show sa+na+(t-(sa+na))=t by omega]at this
  have e:sa+na-1=sa+k+(na-k)-1:=by omega
  rw[e,bK hla];simpa[bef] using this
 by_cases e2:m=0
 .rw[Je (by simpa using e2)]
  refine Jl (still λi j i1 i2 i3=>?_);by_cases hj:j<sa+na
  .exact u1 i j i1 i2 hj
  .by_cases hi':i<sa+na
   .exact Qa (u1 i (sa+na-1) i1 (by omega) (by omega)) (v3 j (by omega) (by omega))
   .exact u2 i j (by omega) i2 (by omega)
 rw[Ji (by simpa using e2)]
 have sx:((arrOf st).extract (sa+k) (sa+na)).size=na-k:=by rw[Uo];omega
 have sy:((arrOf st).extract (sa+na) (sa+na+m)).size=m:=by rw[Uo];omega
 have ux:Up ((arrOf st).extract (sa+k) (sa+na)) 0 ((arrOf st).extract (sa+k) (sa+na)).size:=xx (λi j i1 i2 i3=>u1 i j (by omega) i2 i3) (by omega)
 have uy:Up ((arrOf st).extract (sa+na) (sa+na+m)) 0 ((arrOf st).extract (sa+na) (sa+na+m)).size:=xx (λi j i1 i2 i3=>u2 i j i1 i2 (by omega)) (by omega)
 have hlast:∀t,t<((arrOf st).extract (sa+na) (sa+na+m)).size->K ((arrOf st).extract (sa+na) (sa+na+m)) t<=K ((arrOf st).extract (sa+k) (sa+na)) (((arrOf st).extract (sa+k) (sa+na)).size-1):=λt ht=>by
  rw[sy]at ht
  rw[sx,nC (by omega) (by omega),nC (by omega) (by omega),show sa+k+(na-k-1)=sa+na-1 by omega]
  exact v2 _ (by omega) (by omega)
 have hfirst:∀t,t<((arrOf st).extract (sa+k) (sa+na)).size->K ((arrOf st).extract (sa+na) (sa+na+m)) 0<=K ((arrOf st).extract (sa+k) (sa+na)) t:=λt ht=>by
  rw[sx]at ht
  rw[nC (by omega) (by omega),nC (by omega) (by omega),Nat.add_zero]
  exact q3 _ (by omega) (by omega)
 have fin:∀(r:Array Keyed)(st':SortSt),Good ((arrOf st).extract (sa+k) (sa+na)) ((arrOf st).extract (sa+na) (sa+na+m)) r->Sg (setPending st (((pendingOf st).setIfInBounds i (sa,na+nb,p)).eraseIdxIfInBounds (i+1))) st'->
   Q true (setArr st' (wr (arrOf st') (sa+k) r.toList.zipIdx)):=by
  rintro r st' ⟨g1,g2⟩ ⟨s1,s2,s3,s4⟩;have s2:arrOf st'=arrOf st:=s2
  have rl:r.toList.length=na-k+m:=by rw[g1.length_eq,Jm,Jz,Jz,sx,sy]
  have hw:sa+k+r.toList.length<=(arrOf st).size:=by omega
  have hxy:((arrOf st).extract (sa+k) (sa+na)).toList++((arrOf st).extract (sa+na) (sa+na+m)).toList=((arrOf st).toList.drop (sa+k)).take (na-k+m):=by rw[dS,dS,show sa+na-(sa+k)=na-k by omega,show sa+na+m-(sa+na)=m by omega,List.take_add,Uf,show sa+k+(na-k)=sa+na by omega]
  rw[hxy]at g1
  have hk:∀t,K (wr (arrOf st) (sa+k) r.toList.zipIdx) t=if sa+k<=t/\t<sa+na+m then K r (t-(sa+k)) else K (arrOf st) t:=λt=>by
   have e:=sk (sa+k) r.toList 0 (arrOf st) (by omega) t
   rw[rl]at e;by_cases ht:sa+k<=t/\t<sa+na+m
   .rw[Je ht]
    rw[Je (by omega),Yl]at e
    exact K_congr e
   .rw[Ji ht]
    rw[Ji (by omega)]at e
    exact K_congr e
  have hfrom:∀t,sa+k<=t->t<sa+na+m->∃u,sa+k<=u/\u<sa+na+m/\K r (t-(sa+k))=K (arrOf st) u:=λt t1 t2=>by
   have ht:t-(sa+k)<r.size:=by rw[<- Jz,rl];omega
   obtain⟨u,hu1,hu2,hu3⟩:=iH (g1.mem_iff.mp (by simp:r[t-(sa+k)]∈r.toList))
   exact⟨sa+k+u,by omega,by omega,by rw[bK ht];exact hu3⟩
  have ur:=Eb g2
  have rs:r.size=na-k+m:=by rw[<- Jz,rl]
  have wu:Up (wr (arrOf st) (sa+k) r.toList.zipIdx) sa (sa+(na+nb)):=by
   intro i j i1 i2 i3;rw[hk,hk]
   have low:∀a u,sa<=a->a<sa+k->sa+k<=u->u<sa+na+nb->K (arrOf st) a<=K (arrOf st) u:=λa u a1 a2 u3 u4=>by
    by_cases hu:u<sa+na
    .exact u1 a u a1 (by omega) hu
    .exact Qa (q2 a a1 a2) (u2 _ _ (Jd _) (by omega) u4)
   have high:∀a u,sa+k<=a->a<sa+na+m->sa+na+m<=u->u<sa+na+nb->K (arrOf st) a<=K (arrOf st) u:=λa u a1 a2 u3 u4=>by
    by_cases ha:a<sa+na
    .exact Qa (u1 a (sa+na-1) (by omega) (by omega) (by omega)) (v3 u u3 u4)
    .exact u2 a u (by omega) (by omega) u4
   by_cases hi1:sa+k<=i/\i<sa+na+m
   .rw[Je hi1];by_cases hj1:sa+k<=j/\j<sa+na+m
    .rw[Je hj1]
     exact ur _ _ (Y2 _) (by omega) (by omega)
    .rw[Ji hj1];obtain⟨u,w1,w2,w3⟩:=hfrom i hi1.1 hi1.2;rw[w3]
     exact high u j w1 w2 (by omega) (by omega)
   .rw[Ji hi1];by_cases hj1:sa+k<=j/\j<sa+na+m
    .rw[Je hj1];obtain⟨u,w1,w2,w3⟩:=hfrom j hj1.1 hj1.2;rw[w3]
     exact low i u i1 (by omega) w1 (by omega)
    .rw[Ji hj1];by_cases hil:i<sa+k
     .by_cases hjl:j<sa+na
      .exact u1 i j i1 i2 hjl
      .exact low i j i1 hil (by omega) (by omega)
     .exact u2 i j (by omega) i2 (by omega)
  have wp:(wr (arrOf st) (sa+k) r.toList.zipIdx).Perm a0:=by
   refine Array.Perm.trans (Uv.mpr ?_) hB.perm;rw[zW hw,rl];refine List.Perm.trans ((g1.append_right _).append_left _) ?_
   rw[show(arrOf st).toList.drop (sa+k+(na-k+m))=((arrOf st).toList.drop (sa+k)).drop (na-k+m) by rw[Uf],Qz,Qz]
  rw[s2]
  refine h _ ⟨wp,s1.trans hB.kind,s4.trans hB.failed⟩ (by show(pendingOf st').toList=_;rw[s3];exact hP2) ?_ λt ht=>?_
  .show Ch (wr (arrOf st) (sa+k) r.toList.zipIdx) 0 (pendingOf st').toList y;rw[s3];show Ch _ 0 (((pendingOf st).setIfInBounds i (sa,na+nb,p)).eraseIdxIfInBounds (i+1)).toList y;rw[hP2]
   refine Ch.app.mpr ⟨sa,c1.like λt t1 t2=>?_,rfl,by omega,wu,?_⟩
   .rw[hk,Ji (by omega)]
   .rw[<- Nat.add_assoc]
    exact c2.like λt t1 t2=>by rw[hk,Ji (by omega)]
  .show K (wr (arrOf st) (sa+k) r.toList.zipIdx) t=_
   rw[hk,Ji (by omega)]
 have endS:∀(r:Array Keyed)(st':SortSt),Good ((arrOf st).extract (sa+k) (sa+na)) ((arrOf st).extract (sa+na) (sa+na+m)) r->Sg (setPending st (((pendingOf st).setIfInBounds i (sa,na+nb,p)).eraseIdxIfInBounds (i+1))) st'->
   wpS (model prog w) A E s (do
    modify λs=>setArr s (r.toList.zipIdx.foldl (λa (p,j)=>a.setIfInBounds (sa+k+j) p) (arrOf s))
    return (failedOf (<- get)).isNone) Q st':=λr st' g z=>by
  refine Jh (W7 (Jh (Wu (Jl ?_))));have hf:failedOf st'=none:=z.2.2.2.trans hB.failed;show Q (failedOf st').isNone (setArr st' (wr (arrOf st') (sa+k) r.toList.zipIdx));rw[hf];exact fin r st' g z
 by_cases hc:na-k<=m
 .rw[Je hc]
  exact Jh (Cr hB.kind (oM ik _ _) (oM ik _ _) ux uy (by omega) (by omega) (hfirst 0 (by omega)) hlast λr st' g z=>endS r st' g z)
 .rw[Ji hc]
  exact Jh (Ct hB.kind (oM ik _ _) (oM ik _ _) ux uy (by omega) (by omega) hfirst hlast λr st' g z=>endS r st' g z)
end
section
variable{prog:Program}{w:World}{A:Around}{E:Value->Shared->Prop}{s:Shared}{a0:Array Keyed}
structure Al(a0:Array Keyed)(y:Nat)(st:SortSt):Prop where
 bs:Bs a0 st
 ch:Ch (arrOf st) 0 (pendingOf st).toList y
theorem Cw[Decidable c](h:2<=n):(if c then n-2-1 else n-2)+1<n:=by split<;>omega
theorem Cy{l:List (Nat×Nat×Nat)}(h:i+1<l.length):∃l1 sa na p sb nb q l2,l=l1++(sa,na,p)::(sb,nb,q)::l2/\i=l1.length:=by
 refine⟨l.take i,l[i].1,l[i].2.1,l[i].2.2,l[i+1].1,l[i+1].2.1,l[i+1].2.2,l.drop (i+2),?_,by rw[Zx];omega⟩
 have e1:l.drop i=l[i]::l.drop (i+1):=Yz (by omega)
 have e2:l.drop (i+1)=l[i+1]::l.drop (i+2):=Yz h;have e3:=Qz i l;rw[e1,e2]at e3;exact e3.symm
theorem xy{y:Nat}{Q:Bool->SortSt->Prop}(h0:IK a0)(h1:Al a0 y st)(hy:y<=a0.size)(hi:i+1<(pendingOf st).size)
  (h:∀st',Al a0 y st'->(pendingOf st').size+1=(pendingOf st).size->(∀t,y<=t->K (arrOf st') t=K (arrOf st) t)->Q true st'):wpS (model prog w) A E s (mergeAt' i) Q st:=by
 rw[<- Jz]at hi;obtain⟨l1,sa,na,p,sb,nb,q,l2,e,el⟩:=Cy hi;refine Cv h0 h1.bs el e h1.ch hy λst' b1 b2 b3 b4=>h st' ⟨b1,b3⟩ ?_ b4;rw[<- Jz,<- Jz,b2,e];simp[Nat.add_assoc]
set_option maxHeartbeats 2000000 in
theorem Cz{Q:Unit->SortSt->Prop}(h0:IK a0)(hB:Bs a0 st)(hP:pendingOf st = #[])(h2:1<=a0.size)
  (h:∀st',(arrOf st').Perm a0->failedOf st'=none->Up (arrOf st') 0 a0.size->Q () st'):wpS (model prog w) A E s sortRuns' Q st:=by
 rw[sortRuns'_eq];refine Jh (Wu ?_);dsimp only;have hsz:(arrOf st).size=a0.size:=hB.perm.size_eq;rw[hsz];generalize minRun' a0.size a0.size 0=mr
 refine Jh (Zo (Z1 (I:=λx c st'=>∃lo,c=(none,lo)/\Al a0 lo st'/\lo<=a0.size/\(x<=lo\/lo=a0.size))
  (Q:=λc st'=>c=(none,a0.size)/\Al a0 a0.size st') ?step ?fin ⟨0,rfl,⟨hB,by rw[hP];exact rfl⟩,Y2 _,.inl (Jd _)⟩) ?post)
 case fin=>
  rintro c st' ⟨lo,rfl,b1,b2,b3⟩
  have:lo=a0.size:=by omega
  subst this;exact⟨rfl,b1⟩
 case step=>
  rintro x c st' _ hx ⟨lo,rfl,b1,b2,b3⟩;dsimp only;by_cases g:lo >= a0.size
  .rw[Je g]
   have:lo=a0.size:=by omega
   subst this;exact Jl ⟨rfl,b1⟩
  rw[Ji g];have hSB:SB a0 (arrOf st') (pendingOf st') lo st':=⟨b1.bs.perm,b1.bs.kind,b1.bs.failed,rfl,λ_ _=>rfl⟩
  -- what follows when the run of n is there
  have nxt:∀(n:Nat)(st2:SortSt),SB a0 (arrOf st') (pendingOf st') lo st2->1<=n->lo+n<=a0.size->Up (arrOf st2) lo (lo+n)->Al a0 lo st2:=λn st2 c1 _ _ _=>
   ⟨⟨c1.perm,c1.kind,c1.failed⟩,by rw[c1.pend];exact b1.ch.like λt _ ht=>c1.low t ht⟩
  refine Jh (Cu h0 (by omega) (by omega) hSB λm st2 c1 m1 m2 u=>?_)
  dsimp only
  have last:∀(n:Nat)(st2:SortSt),Al a0 lo st2->1<=n->lo+n<=a0.size->Up (arrOf st2) lo (lo+n)->Al a0 (lo+n) (setPending st2 ((pendingOf st2).push (lo,n,0))):=λn st2 d1 d2 d3 d4=>by refine⟨⟨d1.bs.perm,d1.bs.kind,d1.bs.failed⟩,?_⟩;show Ch (arrOf st2) 0 ((pendingOf st2).push (lo,n,0)).toList (lo+n);rw[Ql];exact Ch.app.mpr ⟨lo,d1.ch,rfl,d2,d4,rfl⟩
  by_cases hm:m<mr
  all_goals first|rw[Je hm]|rw[Ji hm]
  .refine Jh (Vx (Zj ⟨rfl,?_⟩))
   refine Jh (zV h0 (n:=min (a0.size-lo) mr) (by omega) c1 u (by omega) λst3 d1 d2=>?_)
   simp only[Vv,Jy,Yp];refine Jh (Wu ?_);obtain⟨n,hn⟩:∃n,n=min (a0.size-lo) mr:=⟨_,rfl⟩;rw[<- hn]at d2 ⊢
   have n1:1<=n:=by omega
   have n2:lo+n<=a0.size:=by omega
   have al:=nxt n st3 d1 n1 n2 d2;cases hb:(pendingOf st3).back? with
   |none=>
    dsimp only
    exact Jh (W7 (Jl ⟨lo+n,rfl,last n st3 al n1 n2 d2,n2,by omega⟩))
   |some e=>
    obtain⟨s1,n3,p3⟩:=e;dsimp only;generalize power' a0.size (2*s1+n3) (2*s1+n3+n3+n) a0.size=pw
    refine Jh (Zo (Z1 (I:=λy c st4=>c=(none,())/\Al a0 lo st4/\Up (arrOf st4) lo (lo+n))
     (Q:=λc st4=>c=(none,())/\Al a0 lo st4/\Up (arrOf st4) lo (lo+n)) ?a (λ_ _ z=>z) ⟨rfl,al,d2⟩) ?b)
    case a=>
     rintro y c st4 _ _ ⟨rfl,e1,e2⟩;refine Jh (Wu ?_);by_cases hp:(pendingOf st4).size>1
     .rw[Je hp]
      have hg:(pendingOf st4)[(pendingOf st4).size-2]?=some (pendingOf st4)[(pendingOf st4).size-2]:=Gc _ _ (by omega)
      rw[hg];dsimp only;split
      .exact Jl ⟨rfl,e1,e2⟩
      .refine Jh (xy h0 e1 (by omega) (by omega) λst5 f1 _ f3=>?_)
       simp only[Vv,Jy,Yp];refine Jl ⟨rfl,f1,λi j i1 i2 i3=>?_⟩
       rw[f3 i i1,f3 j (by omega)]
       exact e2 i j i1 i2 i3
     .rw[Ji hp];exact Jl ⟨rfl,e1,e2⟩
    case b=>
     rintro c st4 ⟨rfl,e1,e2⟩;dsimp only
     refine Jh (W7 (Jh (W7 (Jl ⟨lo+n,rfl,last n _ ⟨⟨e1.bs.perm,e1.bs.kind,e1.bs.failed⟩,?_⟩ n1 n2 e2,n2,by omega⟩))))
     show Ch (arrOf st4) 0 ((pendingOf st4).modify ((pendingOf st4).size-1) _).toList lo;rw[Array.toList_modify];exact Ch.pow _ (λs n p=>⟨_,rfl⟩) _ e1.ch
  .refine Jh (Wu ?_)
   have n2:lo+m<=a0.size:=by omega
   have al:=nxt m st2 c1 m1 n2 u;cases hb:(pendingOf st2).back? with
   |none=>
    dsimp only
    exact Jh (W7 (Jl ⟨lo+m,rfl,last m st2 al m1 n2 u,n2,by omega⟩))
   |some e=>
    obtain⟨s1,n3,p3⟩:=e;dsimp only;generalize power' a0.size (2*s1+n3) (2*s1+n3+n3+m) a0.size=pw
    refine Jh (Zo (Z1 (I:=λy c st4=>c=(none,())/\Al a0 lo st4/\Up (arrOf st4) lo (lo+m))
     (Q:=λc st4=>c=(none,())/\Al a0 lo st4/\Up (arrOf st4) lo (lo+m)) ?a (λ_ _ z=>z) ⟨rfl,al,u⟩) ?b)
    case a=>
     rintro y c st4 _ _ ⟨rfl,e1,e2⟩;refine Jh (Wu ?_);by_cases hp:(pendingOf st4).size>1
     .rw[Je hp]
      have hg:(pendingOf st4)[(pendingOf st4).size-2]?=some (pendingOf st4)[(pendingOf st4).size-2]:=Gc _ _ (by omega)
      rw[hg];dsimp only;split
      .exact Jl ⟨rfl,e1,e2⟩
      .refine Jh (xy h0 e1 (by omega) (by omega) λst5 f1 _ f3=>?_)
       simp only[Vv,Jy,Yp];refine Jl ⟨rfl,f1,λi j i1 i2 i3=>?_⟩
       rw[f3 i i1,f3 j (by omega)]
       exact e2 i j i1 i2 i3
     .rw[Ji hp];exact Jl ⟨rfl,e1,e2⟩
    case b=>
     rintro c st4 ⟨rfl,e1,e2⟩;dsimp only
     refine Jh (W7 (Jh (W7 (Jl ⟨lo+m,rfl,last m _ ⟨⟨e1.bs.perm,e1.bs.kind,e1.bs.failed⟩,?_⟩ m1 n2 e2,n2,by omega⟩))))
     show Ch (arrOf st4) 0 ((pendingOf st4).modify ((pendingOf st4).size-1) _).toList lo;rw[Array.toList_modify];exact Ch.pow _ (λs n p=>⟨_,rfl⟩) _ e1.ch
 case post=>
  rintro c st' ⟨rfl,b1⟩;dsimp only
  have hp0:(pendingOf st').size<=a0.size:=by have:=b1.ch.le;rw[Jz]at this;omega
  refine Jh (Zo (Z1 (I:=λx c st2=>c=(none,())/\Al a0 a0.size st2/\((pendingOf st2).size+x<=a0.size\/(pendingOf st2).size<=1))
   (Q:=λc st2=>c=(none,())/\Al a0 a0.size st2/\(pendingOf st2).size<=1) ?a ?b ⟨rfl,b1,.inl (by omega)⟩) ?c)
  case b=>
   rintro c st2 ⟨hc,d1,d2⟩
   exact⟨hc,d1,by omega⟩
  case a=>
   rintro x c st2 _ hx ⟨rfl,d1,d2⟩;refine Jh (Wu ?_);by_cases hs:(pendingOf st2).size<=1
   .rw[Je hs];exact Jl ⟨rfl,d1,hs⟩
   rw[Ji hs]
   refine Jh (xy h0 d1 (Jd _) (Cw (by omega)) λst5 f1 f2 _=>?_)
   simp only[Vv,Jy,Yp]
   exact Jl ⟨rfl,f1,by omega⟩
  case c=>
   rintro c st2 ⟨rfl,d1,d2⟩;refine Jl (h st2 d1.bs.perm d1.bs.failed ?_);have hc:=d1.ch;rw[<- Jz]at d2
   match hl:(pendingOf st2).toList with
   |[]=>rw[hl]at hc;unfold Ch at hc;omega
   |[(z,n,p)]=>
    rw[hl]at hc;obtain⟨e1,e2,e3,e4⟩:=hc;unfold Ch at e4;rw[Nat.zero_add]at e3 e4;subst e4;exact e3
   |_::_::_=>rw[hl]at d2;simp at d2
end
section
variable{prog:Program}{w:World}{A:Around}{E:Value->Shared->Prop}{s:Shared}
theorem ups(h:Up xs 0 n):SortedTo xs n:=λi j i1 i2=>h i j (Y2 _) i1 i2
theorem xA{a:Addr}{vs:List Value}{ns:List Int}{P:Fin->Shared->Prop}(ho:s.heap.get? a=some (seqObj "list" vs.toArray n))(hI:IntsAre vs ns)(hz:vs.length<=sizeLine)
  (h:∀(out:Array Value)(ns':List Int),IntsAre out.toList ns'->ns'.Perm ns->ns'.Pairwise (· <= ·)->P (.done (.ret .none)) { s with heap:=sortedHeap s.heap a vs out }):wpAny (model prog w) A (Builtin.«list.sort» ⟨[.ref a],[]⟩) P E s:=by
 by_cases h64:vs.length<64
 .exact list_sort_tree ho hI h64 h
 rw[list_sort_plain];have lt:=Jn ho
 refine J9 (listItems_at ho rfl (J9 (listUpdate_at ho rfl ?_ (hsz:=by simpa using hz) (hsz2:=by simp))))
 obtain⟨ep,g1⟩:∃ep,(s.heap.update a (Obj.mapSeq λ_=>#[])).get? a=some (seqObj "list" #[] ep):=⟨_,Ua ho (λ_=>#[])⟩
 refine J9 (seqEpoch_at g1 rfl (J9 (wpAny_newTuple (J9 (Uu (Yi ?_))) (by simpa using hz))))
 have g2:(((s.heap.update a (Obj.mapSeq λ_=>#[])).push (seqObj "tuple" vs.toArray 0)).push (seqObj "list" #[] 0)).get? a=some (seqObj "list" #[] ep):=by
  have z1:(s.heap.update a (Obj.mapSeq λ_=>#[])).objs.size=s.heap.objs.size:=Heap.size_update ..
  rw[Heap.get?_push_ne _ _ _ (by rw[size_push',z1];exact Ju (Zq lt)),Heap.get?_push_ne _ _ _ (by rw[z1];exact Ju lt),g1]
 have big:¬vs.toArray.size<2:=by simp;omega
 dsimp only;rw[Ji big,Ji big]
 match vs,hI,hz,h64 with
 |[],_,_,h64=>exact absurd (by decide) h64
 |[_],_,_,h64=>exact absurd (by simp) h64
 |v1::v2::vs,hI,hz,h64=>
  rw[keyKind_ints hI]
  refine J9 (Ja (J9 (Zk (Cz (a0:=pairsOf (v1::v2::vs)) (st:=SortSt.mk' oneType' ((v1::v2::vs).toArray.zip (v1::v2::vs).toArray) #[] 7 none)
   (Q:=λ_ st'=>(arrOf st').Perm (pairsOf (v1::v2::vs))/\failedOf st'=none/\SortedTo (arrOf st') (pairsOf (v1::v2::vs)).size)
   hI.intKeys ⟨Array.Perm.refl _,rfl,rfl⟩ rfl (by rw[pairsOf_size];simp) λst' b1 b2 b3=>⟨b1,b2,ups b3⟩) ?_ λ_ _ e=>e)))
  rintro⟨⟨⟩,st'⟩ s' ⟨rfl,b1,b2,b3⟩;have hsz:((arrOf st').map (·.2)).size=(v1::v2::vs).length:=(Array.size_map ..).trans (b1.size_eq.trans (pairsOf_size _));obtain⟨ns',c1,c2,c3⟩:=sorted_out hI b1 b3
  refine J9 (seqEpoch_at g2 rfl (J9 (listUpdate_at g2 rfl ?_ (hsz:=by simp) (hsz2:=by rw[hsz];omega))))
  rw[b2];simp only[bne_self_eq_false,Jy,Yp];exact Ja (h _ ns' c1 c2 c3)
end
end SR
namespace SQ
open PySem PySem.Spec PyProof.Rows
section
variable{prog:Program}{w:World}{A:Around}{E:Value->Shared->Prop}{s:Shared}
theorem mV{h:Heap}{a:Addr}{vs:List Value}{n:Nat}{out:Array Value}(ho:h.get? a=some (seqObj "list" vs.toArray n)):(∃n',(sortedHeap h a vs out).get? a=some (seqObj "list" out n'))/\∀b o,b≠a->h.get? b=some o->(sortedHeap h a vs out).get? b=some o:=by
 unfold sortedHeap;obtain⟨k,g⟩:∃k,(h.update a (Obj.mapSeq λ_=>#[])).get? a=some (seqObj "list" #[] k):=⟨_,Ua ho _⟩
 refine⟨⟨_,Ua (Jb _ (Jb _ g)) _⟩,λb o hb e=>?_⟩;exact((Yt ..).2 b hb).trans (Jb _ (Jb _ (((Yt ..).2 b hb).trans e)))
theorem sorted_tail{s:Shared}{vs:List Value}{ns:List Int}{Q:Value->Shared->Prop}(hI:IntsAre vs ns)(hz:vs.length<=sizeLine)
  (h:∀(h':Heap)(out:Array Value)(ns':List Int)(n:Nat),(∀b o,s.heap.get? b=some o->h'.get? b=some o)->h'.get? s.heap.objs.size=some (seqObj "list" out n)->IntsAre out.toList ns'->ns'.Perm ns->ns'.Pairwise (· <= ·)->Q (.ref s.heap.objs.size) { s with heap:=h' }):
  wpAny (model prog w) A (do
   let l <- newList vs
   let _ <- holding [l] (call (.builtin "list.sort") [l] [])
   ret l) (λfin s'=>∃v,fin=.done (.ret v)/\Q v s') E s:=by
 refine J9 (Uu ?_ hz);have g:(s.heap.push (seqObj "list" vs.toArray 0)).get? s.heap.objs.size=some (seqObj "list" vs.toArray 0):=Jo _ rfl
 refine J9 (Yi (Yo slot_list_sort ⟨_,g,rfl⟩ entry_list_sort (SR.xA g hI hz λout ns' a1 a2 a3=>⟨_,rfl,?_⟩) (args_list_sort _)));obtain⟨⟨n,g1⟩,g2⟩:=mV (out:=out) g;exact Ja ⟨_,rfl,h _ out ns' n (λb o e=>g2 b o (Ju (Jn e)) (Jb _ e)) g1 a1 a2 a3⟩
theorem sorted_seq{k:Bool}{l:Addr}{vs:List Value}{ns:List Int}{Q:Value->Shared->Prop}(hl:Is k s.heap l vs.toArray)(hI:IntsAre vs ns)(hz:vs.length<=sizeLine)
  (h:∀(a:Addr)(h':Heap)(out:Array Value)(ns':List Int)(n:Nat),s.heap.objs.size<=a->(∀b o,s.heap.get? b=some o->h'.get? b=some o)->h'.get? a=some (seqObj "list" out n)->IntsAre out.toList ns'->ns'.Perm ns->ns'.Pairwise (· <= ·)->Q (.ref a) { s with heap:=h' }):
  wpAny (model prog w) A (call (.builtin "sorted") [.ref l]) Q E s:=by
 refine Va kind_sorted plain_sorted entry_sorted (args_sorted1 _) ?_;unfold Builtin.«sorted»;refine J9 (m:=checkCount "sorted" 1 1 _) (Ja ?_)
 refine J9 (collects hl ?_ hz)
 have kp:∀b o,s.heap.get? b=some o->((s.heap.push (seqObj "list" #[] 0)).update s.heap.objs.size (Obj.mapSeq (· ++ vs.toArray))).get? b=some o:=λb o e=>
  ((Yt ..).2 b (Ju (Jn e))).trans (Jb _ e)
 refine sorted_tail (s:={ s with heap:=(s.heap.push (seqObj "list" #[] 0)).update s.heap.objs.size (Obj.mapSeq (· ++ vs.toArray)) }) hI hz λh' out ns' n k1 k2 a1 a2 a3=>h _ h' out ns' n ?_ (λb o e=>k1 b o (kp b o e)) k2 a1 a2 a3
 show s.heap.objs.size<=((s.heap.push (seqObj "list" #[] 0)).update s.heap.objs.size (Obj.mapSeq (· ++ vs.toArray))).objs.size
 rw[Heap.size_update,size_push'];exact Uh _
theorem sorted_src{T:String}{r d:Addr}{n:Nat}{P:Nat->Value->Prop}{OK:Heap->Prop}{ns:List Int}{Q:Value->Shared->Prop}(K:KdlSrc prog w T r d n P OK)(hh:A.handled=none)(hok:OK s.heap)(hn:n<=sizeLine)
  (hI:∀vs:List Value,vs.length=n->(∀j v,vs[j]?=some v->P j v)->IntsAre vs ns)
  (h:∀(h1:Heap)(tk:Nat),(∀b o,s.heap.get? b=some o->h1.get? b=some o)->∀(h2:Heap)(out:Array Value)(ns':List Int)(n:Nat),(∀b o,h1.get? b=some o->h2.get? b=some o)->h2.get? h1.objs.size=some (seqObj "list" out n)->IntsAre out.toList ns'->ns'.Perm ns->ns'.Pairwise (· <= ·)->Q (.ref h1.objs.size) { s with heap:=h2,toks:=tk }):
  wpAny (model prog w) A (call (.builtin "sorted") [.ref r]) Q E s:=by
 refine Va kind_sorted plain_sorted entry_sorted (args_sorted1 _) ?_;unfold Builtin.«sorted»;refine J9 (m:=checkCount "sorted" 1 1 _) (Ja ?_)
 refine J9 (kdu_collect (A:=A.in1) K hh hok hn λh' tk acc hk hacc=>?_)
 have hl:acc.toList.length=n:=by rw[Jz];exact hacc.1
 have hi:=hI acc.toList hl λj v e=>hacc.2 j v (by rw[<- Yl];exact e)
 refine sorted_tail (s:={ s with heap:=h',toks:=tk }) hi (by omega) λh2 out ns' n k1 k2 a1 a2 a3=>h h' tk hk h2 out ns' n k1 k2 a1 a2 a3
end
end SQ
namespace PD
open PySem PySem.Spec PyProof.Rows L2
noncomputable def gk:List (KD×D)->Option (List Int)
 |[]=>some []
 |(.inl i,_)::r=>(gk r).map (i :: ·)
 |_=>none
noncomputable def ql(S:Sto)(d:D):Option (List Int):=match bO S d with
 |some a=>intsOf a
 |none=>match dQ S d with
  |some kvs=>gk kvs
  |none=>none
noncomputable def su:Sto->List D->Option D
 |S,[d]=>match ql S d with
  |some ns=>if ns.length<=sizeLine then some (.lst ((bV ns).map .int)) else none
  |none=>none
 |_,_=>none
section
variable{X:Cx}{E:XK}
theorem nD:∀{kvs:List (KD×D)}{ns:List Int},gk kvs=some ns->ns.length=kvs.length
 |[],_,h=>by unfold gk at h;cases h;rfl
 |(.inl i,_)::r,ns,h=>by
  unfold gk at h;cases e:gk r with
  |none=>rw[e]at h;cases h
  |some m=>rw[e]at h;cases h;simp[nD e]
 |(.inr i,_)::r,ns,h=>by unfold gk at h;cases h
theorem qm:∀{kvs:List (KD×D)}{ns:List Int},gk kvs=some ns->∀(j:Nat)(k:KD)(d:D),kvs[j]?=some (k,d)->∃i,ns[j]?=some i/\k=.inl i
 |[],_,h,j,k,d,e=>by simp at e
 |(.inl i,x)::r,ns,h,j,k,d,e=>by
  unfold gk at h;cases e':gk r with
  |none=>rw[e']at h;cases h
  |some m=>
   rw[e']at h;cases h;cases j with
   |zero=>simp at e;exact⟨i,rfl,e.1.symm⟩
   |succ j=>exact qm e' j k d (by simpa using e)
 |(.inr i,_)::r,ns,h,j,k,d,e=>by unfold gk at h;cases h
theorem lV:∀(vs:List Value)(ns:List Int),vs.length=ns.length->(∀(j:Nat)(v:Value),vs[j]?=some v->∃i t,ns[j]?=some i/\v=.int i t)->IntsAre vs ns
 |[],[],_,_=>.nil
 |v::vs,n::ns,hl,h=>by
  obtain⟨i,t,e,rfl⟩:=h 0 v rfl;cases e
  exact .cons _ _ (lV vs ns (by simpa using hl) λj v e=>h (j+1) v (by simpa using e))
 |[],_::_,hl,_=>by simp at hl
 |_::_,[],hl,_=>by simp at hl
theorem RDk.at{K:Frag}{w:Wd}{H:Hp}:∀{ds:List (KD×D)}{us:List (Key×V)},RDk K w H ds us->∀(j:Nat)(k:Key)(v:V),us[j]?=some (k,v)->∃d,ds[j]?=some (k,d)
 |[],_,h,j,k,v,e=>by rw[h.nil_inv]at e;simp at e
 |(k0,d)::ds,_,h,j,k,v,e=>by
  obtain⟨v0,r,rfl,_,t⟩:=h.cons_inv;cases j with
  |zero=>simp at e;exact⟨d,by simp[e.1]⟩
  |succ j=>exact t.at j k v (by simpa using e)
theorem CA(hc:X.calm=true):bI X (.builtin "sorted") (xC X.K E su):=by
 rintro pins s σ H xs us Q I r ⟨w,S,ds,hS,qs,p⟩;obtain⟨z,hz,p'⟩:=p.of;clear p;unfold su at hz;split at hz
 .rename_i d;obtain⟨v,rfl,q⟩:=qs.one_inv;split at hz
  .rename_i ns hns;split at hz
   .rename_i hlt;cases hz
    -- the list that comes
    have last:∀(s1:Shared)(a:Addr)(h2:Heap)(tk:Nat)(out:Array Value)(ns':List Int)(n:Nat),Inv X pins σ H s1->s1.heap.objs.size<=a->(∀b o,s1.heap.get? b=some o->h2.get? b=some o)->h2.get? a=some (seqObj "list" out n)->IntsAre out.toList ns'->ns'.Perm ns->ns'.Pairwise (· <= ·)->EP X pins σ Q (.ref a) { s1 with heap:=h2,toks:=tk }:=λs1 a h2 tk out ns' n I1 la k1 k2 a1 a2 a3=>by
     have en:ns'=bV ns:=eX (a2.trans (bB ns).symm) a3 (cV ns);subst en;have hf:H a=none:=I1.hok.fresh la
     have hz:((bV ns).map V.int).length<=sizeLine:=by rw[Jg,(bB ns).length_eq];exact hlt
     refine⟨.ref a,_,I1.laid (t':=tk) (a:=a) (o:=.lst ((bV ns).map V.int)) k1 la ⟨hz,out.toList,n,oG a1,by rw[Ub];exact k2⟩,rfl,?_⟩
     exact p'.at (Ext.new hf) (RD.newLst hS hf (jn _)) (hS.new hf)
    unfold ql at hns;split at hns
    .rename_i a ha;obtain⟨pa,vs,rfl,sq,ra⟩:=j6 hS q ha;obtain⟨u,rfl,rx⟩:=Wx r;cases rx
     have main:∀(k:Bool)(its:List Value),Vals vs its->SQ.Is k s.heap pa its.toArray->wpAny (model X.prog X.w) X.A (call (.builtin "sorted") [.ref pa]) (EP X pins σ Q) X.xe s:=λk its rv pl=>by
      have hI:=jm ra rv hns;have hl:its.length=ns.length:=hI.length
      exact SQ.sorted_seq pl hI (by omega) λa h' out ns' n la k1 k2 a1 a2 a3=>last s a h' s.toks out ns' n I la k1 k2 a1 a2 a3
     rcases sq with hq|hq
     .obtain⟨its,r',pl,hz⟩:=I.list hq;exact main false its r' pl.isList
     .obtain⟨its,r',pl,hz⟩:=I.tuple hq;exact main true its r' pl
    .split at hns
     .rename_i kvs hd;obtain⟨pp,us',rfl,rd,rk⟩:=ki hS q hd;obtain⟨u,rfl,rx⟩:=Wx r;cases rx;obtain⟨hl,hm,vs,rel,dd⟩:=nt I.hok rd;obtain⟨ep,hat⟩:=dd.dictAt;have e1:=rel.length;have e2:=rk.length;have e3:=nD hns
      refine SQ.sorted_src (ns:=ns) (kdl_dict (knd:=aV X.prog X.w) (kvs:=vs) (ep:=ep) hm) (I.ok.hd hc) hat (by omega) (λws hw hv=>?_) λh1 tk hk h2 out ns' n k1 k2 a1 a2 a3=>?_
      .refine lV ws ns (by omega) λj u hu=>?_
       obtain⟨k,x,hx,hkey⟩:=hv j u hu
       obtain⟨y,hy⟩:∃y,us'[j]?=some (k,y):=by
        have e:=Q7 (λl:List Key=>l[j]?) rel.keys;simp only[Zf,hx,Option.map_some]at e;cases hu':us'[j]? with
        |none=>rw[hu']at e;cases e
        |some q=>rw[hu']at e;cases e;exact⟨q.2,rfl⟩
       obtain⟨d',hd'⟩:=rk.at j k y hy;obtain⟨i,hi,rfl⟩:=qm hns j k d' hd';have:=qf hkey;obtain⟨t,rfl⟩:∃t,u=.int i t:=this;exact⟨i,t,hi,rfl⟩
      .exact last { s with heap:=h1,toks:=tk } _ h2 tk out ns' n (I.kept (t':=tk) hk) (Jd _) k1 k2 a1 a2 a3
     .cases hns
   .cases hz
  .cases hz
 .cases hz
end
noncomputable def iR:Int->List Int->Int
 |m,[]=>m
 |m,x::r=>iR (if m<x then x else m) r
theorem t6:∀(l:List Int)(m:Int),(m<=iR m l/\∀x∈l,x<=iR m l)/\(iR m l=m\/iR m l∈l)
 |[],m=>⟨⟨Q3 _,λx h=>nomatch h⟩,.inl rfl⟩
 |x::r,m=>by
  obtain⟨⟨h1,h2⟩,h3⟩:=t6 r (if m<x then x else m)
  show(m<=iR (if m<x then x else m) r/\∀y∈x::r,y<=iR (if m<x then x else m) r)/\(iR (if m<x then x else m) r=m\/iR (if m<x then x else m) r∈x::r)
  generalize iR (if m<x then x else m) r=z at *
  by_cases hx:m<x
  .rw[Je hx]at h1 h3
   refine⟨⟨by omega,λy hy=>?_⟩,.inr ?_⟩
   .rcases Jq.mp hy with e|hy
    .rw[e];exact h1
    .exact h2 y hy
   .rcases h3 with e|h3
    .rw[e];exact .head _
    .exact .tail _ h3
  .rw[Ji hx]at h1 h3;refine⟨⟨h1,λy hy=>?_⟩,?_⟩
   .rcases Jq.mp hy with e|hy
    .rw[e];omega
    .exact h2 y hy
   .rcases h3 with e|h3
    .exact .inl e
    .exact .inr (.tail _ h3)
end PD
namespace L2
open PySem PySem.Spec PyProof.Rows
theorem Inv.freezeL{X:Cx}{pins:List (Addr×Obj)}{σ:St}{H:Hp}{s:Shared}{a:Addr}{vs:List V}(I:Inv X pins σ H s)(h:H a=some (.lst vs)):∃o,Inv X pins σ (upd H a (.frz o (.lst vs))) s:=by
 obtain⟨z,its,n,r,e⟩:bw X.prog X.w H s.heap a (.lst vs):=I.hok a _ h
 have I2:Inv X pins σ (upd H a (.frz _ (.lst vs))) { s with heap:=s.heap,toks:=s.toks }:=I.write (x:=a) (e:=a) (by rw[h];exact True.intro) (.inl rfl) (λb u _ q=>q) ⟨_,e⟩ ⟨e,z,its,n,r,e⟩
 exact⟨_,I2⟩
section
variable{X:Cx}{tg:Expr}
noncomputable def EV(K:Frag)(td:TE):TI:=λσ H R=>td σ H λx H1=>∃a vs,x=.ref a/\((H1 a=some (.lst vs)/\∀o,R (Itl K a) (upd H1 a (.frz o (.lst vs)))) \/ ∃o,H1 a=some (.frz o (.lst vs))/\R (Itl K a) H1)
theorem CB{d:Expr}{td:TE}(hd:PE X d td):PI X tg d (EV X.K td):=by
 intro pins s σ H R I h;refine thn (hd pins s σ H _ I h) λu s1 zq=>?_;obtain⟨x,H1,I1,rx,a,vs,ex,q1⟩:=zq;subst ex;obtain rfl:u=Value.ref a:=rx
 have main:∀(H2:Hp)(o:Obj),Inv X pins σ H2 s1->H2 a=some (.frz o (.lst vs))->R (Itl X.K a) H2->wpAny (model X.prog X.w) X.A (pyIter (.ref a)) (PIE X pins σ tg R) X.xe s1:=λH2 o I2 hH2 q=>by
  obtain⟨its,rv,p,hz⟩:=I2.list (xs:=vs) (.inl (.inr ⟨o,hH2⟩));refine Qj p.isList ?_;refine⟨s1.heap.objs.size,[s1.heap.objs.size],_,_,H2,rfl,I2.kept (t':=s1.toks) λb o e=>Jb _ e,m7 a _,⟨_,Jo _ rfl,rfl,rfl⟩,λb hb=>?_,q⟩
  have e:b=s1.heap.objs.size:=by simpa using hb
  subst e;exact I2.fpOk (Jd _) (I2.hok.fresh (Jd _))
 rcases q1 with⟨hH,q⟩|⟨o,hH,q⟩
 .obtain⟨o,I2⟩:=I1.freezeL hH;exact main _ o I2 aC (q o)
 .exact main _ o I1 hH q
end
end L2
namespace PD
open PySem PySem.Spec PyProof.Rows L2
noncomputable def oN(m:EM):AM:=λr S=>(m r S).bind λd S1=>match d with
 |.ref n=>match S1[n]? with
  |some (.lst xs)=>.ok xs (S1.set n (.flst xs))
  |some (.flst xs)=>.ok xs S1
  |_=>.bad
 |_=>.bad
theorem xB{K:Frag}{w:Wd}{H:Hp}{a:Addr}{o:Obj}{ds:List D}{vs:List V}(hst:∀w' H',Ext w H w' H'->H' a=some (.frz o (.lst vs)))(q:RDs K w H ds vs):RI K w H ds (Itl K a):=by
 intro i w' H' x';have q':=RDs.ext x' _ _ q;have sq:SqL K H' a vs:=.inl (.inr ⟨o,hst w' H' x'⟩)
 refine⟨λhi=>⟨⟨vs,vs[i]'(by rw[q.length];exact hi),sq,Jc _⟩,λx H'' y=>?_⟩,λhi=>⟨vs,sq,by rw[q.length];exact hi⟩⟩
 obtain⟨rfl,y⟩:=y;refine⟨.inl rfl,λS _=>⟨ds[i],Jc hi,?_⟩⟩;obtain⟨v,e,rv⟩:=q'.get (Jc hi);rw[y vs sq]at e;cases e;exact rv
section
variable{X:Cx}{E:XK}
theorem xD{tg:Expr}{d:Expr}{md:EM}(ha:SE X E d md):SI X E tg d (oN md):=⟨
 fo (CB ha.out) λs H Q zq=>ex6 zq λw r S hr hS hp=>⟨w,r,S,hr,hS,hp.bind hS λd S1 w1 H1 v x1 q1 s1 p1=>by
  cases d with
  |ref m=>
   obtain⟨pp,rfl,hp⟩:=q1.refI;have hm:pp∈w1.st:=Za hp;cases e:S1[m]? with
   |none=>simp only[e]at p1;exact p1.elim
   |some ob=>
    obtain⟨p',hp',ro⟩:=s1.obj _ _ e;rw[hp]at hp';cases hp';cases ob with
    |lst xs=>
     simp only[e]at p1;obtain⟨vs,hv,rk⟩:=ro;refine⟨pp,vs,rfl,.inl ⟨hv,λo=>?_⟩⟩;have rk':=RDs.ext (Ext.mut hm hv (o:=.frz o (.lst vs))) _ _ rk;exact az.at p1 (Ext.mut hm hv) (xB (λw' H' x'=>x'.frz _ _ _ aC) rk') (s1.mut hp hv ⟨o,vs,aC,rk'⟩)
    |flst xs=>
     simp only[e]at p1;obtain⟨o,vs,hv,rk⟩:=ro;exact⟨pp,vs,rfl,.inr ⟨o,hv,az.ret p1 (xB (λw' H' x'=>x'.frz _ _ _ hv) rk) s1⟩⟩
    |dic xs=>simp only[e]at p1;exact p1.elim
    |fdic xs=>simp only[e]at p1;exact p1.elim
    |ins c fs=>simp only[e]at p1;exact p1.elim
  |_=>exact p1.elim⟩⟩
end
theorem RDs.rev{K:Frag}{w:Wd}{H:Hp}:∀{ds:List D}{vs:List V},RDs K w H ds vs->RDs K w H ds.reverse vs.reverse
 |[],_,h=>by cases h;exact .nil
 |d::ds,_,h=>by obtain⟨v,r,rfl,q,qs⟩:=h;rw[Vm,Vm];exact RDs.append (RDs.rev qs) (.cons q .nil)
end PD
namespace PySem
section
variable{M:Model}{A:Around}{E:Value->Shared->Prop}{s:Shared}{env:Env}
theorem vJ{n:Str}{pos:Pos}{c:Addr}{v:Option Value}{Q:Unit->Shared->Prop}(hk:env.scope.kind=.function)(hl:env.kindOf n=some .cell)(hc:env.cells.lookup n=some c)(hv:s.heap.IsCell c v)
  (k:∀h' t',h'.IsCell c none->Heap.SameBut c s.heap h'->Q () { s with heap:=h',toks:=t' }):wpAny M A (do bindName env n .none;unbindBehindTheSuite env n pos) Q E s:=by
 refine J9 (wpAny_bindName (wpAny_storeName_cell hk hl hc hv λg1 i1 s1=>?_));unfold unbindBehindTheSuite;refine wpAny_onRaise ?_;unfold unbindName;refine J9 (wpAny_point (J9 ?_));unfold deleteName;simp only[hl];refine J9 (wpAny_cellOf hc ?_);refine J9 (wpAny_cellGet i1 ?_)
 rw[Je (by rfl)]
 exact wpAny_cellSet i1 λg2 i2 s2=>wpAny_point (k g2 _ i2 (s1.trans s2))
end
end PySem
namespace L2
open PySem PySem.Spec PyProof.Rows
section
variable{X:Cx}{pins:List (Addr×Obj)}{σ:St}{H:Hp}{s:Shared}
theorem Inv.forgetC{h':Heap}{t':Nat}{n:Str}{c:Addr}(I:Inv X pins σ H s)(hfn:X.fn n=true)(hc:X.env.cells.lookup n=some c)(hi:h'.IsCell c none)(hs:Heap.SameBut c s.heap h'):Inv X pins (List.replicate X.N.length none) H { s with heap:=h',toks:=t' }:=by
 have hca:X.s₀.heap.objs.size<=c:=I.ok.cab n c hfn hc;have ne:∀b o,X.s₀.heap.get? b=some o->b≠c:=λb o e=>Ju (Y1 (Jn e) hca);have hcL:c≠X.env.locals:=I.cne n c hc;obtain⟨m,hn,_⟩:=id I.loc
 refine⟨I.ok,I.os,I.bare,⟨λb o e k hb hx=>(hs.2 b (ne b o e)).trans (I.base.keep b o e k hb hx),λb o e k hb hx=>?_,I.base.free,λb o e hx=>?_,I.base.tups,I.base.frzs,I.base.tbls⟩,⟨m,?_,λi x v e1 e2 e3=>?_⟩,λy d e=>?_,I.free,I.freeC,λp hp=>?_,λb ob e=>?_,by simp⟩
 .obtain⟨sl,e1⟩:=I.base.slot b o e k hb hx;exact⟨sl,(hs.2 b (ne b o e)).trans e1⟩
 .obtain⟨o',e1⟩:=I.base.there b o e hx;exact⟨o',(hs.2 b (ne b o e)).trans e1⟩
 .obtain⟨o,es,ep,ho,r⟩:=hn;exact⟨o,es,ep,(hs.2 _ (Ne.symm hcL)).trans ho,r⟩
 .rw[Q5]at e2;split at e2<;>cases e2
 .by_cases z:d=c
  .exact⟨none,z▸hi⟩
  .obtain⟨w',q⟩:=I.cell y d e;exact⟨w',q.sameBut hs z⟩
 .obtain⟨e,k,n1,nf,d⟩:=I.pin p hp;obtain⟨v,o,ho,hd⟩:=I.cell n c hc
  exact⟨(hs.2 p.1 (λz=>by rw[z,ho]at e;cases e;exact d _ hd)).trans e,k,n1,nf,d⟩
 .refine(I.hok b ob e).stay (λd w' hd q=>(hs.2 d ?_).trans q) (λ_ q=>q) λ_ _ q=>q;rintro rfl;have f:=I.freeC n d hc;rcases hd with rfl|hd
  .rw[f]at e;cases e
  .rw[f]at hd;cases hd
end
end L2
namespace PD
open PySem PySem.Spec PyProof.Rows L2
section
variable{X:Cx}{E:XK}
theorem zY{body:List Stmt}{b₀:Stmt}{suite:List Stmt}{x n:Str}{np hpos pos:Pos}{cs:List Str}{i nN:Nat}{mb mh:SM}{Cp:Value}(hex:X.ex=[])(hf:X.stack=X.env::X.outer/\X.env.frame=some X.env.locals)
  (hg:Gl X x) (hm:X.mg x=some Cp) (hcs:∀y,cs.contains y=true->∀c,nsIn X.K mainGlobals y=some (some c)->exmOne X.K c Cp=some true)
  (hN:X.N.Nodup) (hi:X.N[i]?=some n) (hn:nN=X.N.length) (hl:X.env.scope.names.lookup n=some .cell) (hfn:X.fn n=true)
  (hb:∀(p:List (Addr×Obj))(W:Value->Shared->Prop)(E1:XK),Passes (CX1 X.prog X.w) (X.with p W) E1->SSs (X.with p W) E1 body mb)
  (hh:∀(ea:Addr)(o:Obj)(u:HO),ZO o->SSs (X.suite ea (.frz o u)) E0 (b₀::suite) mh) (hd:autoParam ((x == ("__debug__":Str))=false) zz3._auto_1):
  SS X E (.Try body [.ExceptHandler (some (.Name x np)) (some n) (b₀::suite) hpos] [] [] pos) (jZ cs i nN mb mh):=⟨by
 intro pins s σ H D I ⟨w,r,S,hr,hS,hp⟩
 have hfr:X.A.frames=some (X.env::X.outer):=by rw[I.ok.frames,hf.1]
 refine wpAny_Try_except ?_
 let E1:XK:=λc _ H1=>∃w1 y S1,Ext w H w1 H1/\RS X.K w1 H1 S1/\nsIn X.K mainGlobals y.cls=some (some c)/\mb r S=.err y S1
 let W:Value->Shared->Prop:=λe s'=>∃σ1 H1 s1,Inv X pins σ1 H1 s1/\CX1 X.prog X.w X.stack H1 s1 E1 e s'
 have hW:Passes (CX1 X.prog X.w) (X.with (X.pn++pins) W) E1:=λpins' σ1 H1 s1 e s' I1 c=>⟨σ1,H1,s1,I1.unwith I.ok,c⟩
 have hpb:az X.K E1 (RF X.K) w H (mb r S) (FV.to D):=by
  have hp':az X.K E (RF X.K) w H (jZ cs i nN mb mh r S) (FV.to D):=hp;unfold jZ at hp';cases e:mb r S with
  |ok f S1=>rw[e]at hp';exact hp'
  |err y S1=>exact λw' H' c da y1 t q=>⟨w',y,S1,y1,t,q,e⟩
  |bad=>rw[e]at hp';exact hp'.elim
 refine Zk ((hb (X.pn++pins) W E1 hW).out [] s σ H D I.with ⟨w,r,S,hr,hS,hpb⟩) (λf s' q=>?_) λe s' q=>?_
 .cases f with
  |next=>obtain⟨σ',H',J,q⟩:=q;exact tf (X:=X) pins s' σ' H' D (J.unwith I.ok) q
  |brk=>obtain⟨σ',H',J,q⟩:=q;exact⟨σ',H',J.unwith I.ok,q⟩
  |cont=>obtain⟨σ',H',J,q⟩:=q;exact⟨σ',H',J.unwith I.ok,q⟩
  |ret u=>obtain⟨v,σ',H',J,rr,q⟩:=q;exact⟨v,σ',H',J.unwith I.ok,rr,q⟩
 .obtain⟨σ1,H1,s1,I1,ea,cls,H2,rfl,os,bare,un,hok,⟨B,a0,fl,old,tr,zt⟩,w1,y,S1,xe,hS1,hns,hmb⟩:=q;obtain⟨hnew,hnew'⟩:=zC (s':=s') fl old tr;have fl':=fl;rw[hf.1]at fl';refine wd hfr hf.2 fl' zt λh4 held4 up4 zt4=>?_
  refine we (s:={ s' with heap:=h4 }) held4 zt4 λh5 fl5 up5 zt5=>?_
  rw[<- hf.1]at fl5;have up15:s'.heap.UpToSlots h5:=up4.trans up5;have un5:=un.fly fl.1 fl5.1 old up15 (gD fl);have hok5:=hok.fly fl.1 fl5.1 tr
  have J5:Inv X pins σ1 H2 { s' with heap:=h5 }:=I1.call' os un5 hok5 bare (λb z=>nomatch z)
  -- what the plain program says
  have hp':az X.K E (RF X.K) w H (jZ cs i nN mb mh r S) (FV.to D):=hp;unfold jZ at hp';rw[hmb]at hp';simp only at hp';by_cases hc:cs.contains y.cls=true
  .rw[Je hc]at hp';have hx:=hcs y.cls hc cls hns
   refine wpAny_handleBy_cons (codeAny_handlers_test (je (X:={ X with A:=X.A.mark (some (.ref ea)),calm:=false }) (pins:=pins) (σ:=σ1) (H:=H2) ⟨⟨J5.ok.mod,J5.ok.kind,J5.ok.glob,J5.ok.blt,J5.ok.above,J5.ok.inj,J5.ok.has,J5.ok.cab,(λz=>by cases z),J5.ok.frames,J5.ok.stk,J5.ok.exf,J5.ok.bs,J5.ok.bsz,J5.ok.noex,J5.ok.exfs,J5.ok.funs,J5.ok.frf⟩,J5.os,J5.bare,J5.base,J5.loc,J5.cell,J5.free,J5.freeC,J5.pin,J5.hok,J5.len⟩ hg hm ?_ hd)) (by intro q;cases q)
   obtain⟨ob,hob,hobc⟩:=fl5.there
   have LT:Looks (model X.prog X.w) h5 (typeOf (.ref ea)) cls:=by subst hobc;exact(Gb hob).andThen .now
   refine(exm_one J5.kIn LT hx).here ?_;refine codeAny_handlers_suite_as ?_
   refine pz (s:={ s' with heap:=h5 }) fl5 zt5 λh6 fl6 up6 zt6=>?_
   obtain⟨oe,hoe,zo⟩:=zt6;have up16:s'.heap.UpToSlots h6:=up15.trans up6;have un6:=un.fly fl.1 fl6.1 old up16 (gD fl);have hok6:=hok.fly fl.1 fl6.1 tr;obtain⟨un7,hok7⟩:=vw fl6 old tr hnew hnew' un6 hok6 hoe
   have J7:Inv X pins σ1 (upd H2 ea (.frz oe (.ext (ExcAt ea cls)))) { s' with heap:=h6 }:=I1.call' os un7 hok7 bare (λb z=>nomatch z)
   refine kW J7 hN hi (.inr hl) (v:=.ref ea) rfl (λs8 J8=>?_) (.inl hfn);have x7:Ext w1 H2 w1 (upd H2 ea (.frz oe (.ext (ExcAt ea cls)))):=Ext.new hnew';have hS7:RS X.K w1 (upd H2 ea (.frz oe (.ext (ExcAt ea cls)))) S1:=hS1.new hnew';have x17:=xe.trans' x7 hS hS1;have p7:=az.ext hp' x17 hS hS7;have hat:At w1 (upd H2 ea (.frz oe (.ext (ExcAt ea cls)))) ea (.frz oe (.ext (ExcAt ea cls))):=⟨aC,hS1.fresh hnew'⟩
   have hiN:i<nN:=by rw[hn];exact(Jf.mp hi).1
   have hrh:RSt X.K w1 (upd H2 ea (.frz oe (.ext (ExcAt ea cls)))) ((List.replicate nN none).set i (some (.exc y.cls))) (σ1.set i (some (.ref ea))):=by
    refine⟨by simp[J7.len,hn],λj d e=>?_⟩
    by_cases hj:j=i
    .subst hj
     rw[Yj (by simpa using hiN)]at e
     cases e
     exact⟨.ref ea,Yj (by rw[J7.len,<- hn];exact hiN),by unfold RD;exact⟨ea,cls,oe,rfl,hns,hat⟩⟩
    .rw[Ye (Ne.symm hj),Q5]at e;split at e<;>cases e
   have n0:X.s₀.heap.get? ea=none:=by
    cases e9:X.s₀.heap.get? ea with
    |none=>rfl
    |some o9=>
     obtain⟨o8,e8⟩:=I1.base.there ea o9 e9 (by rw[hex];exact λz=>nomatch z)
     rw[hnew]at e8;cases e8
   have n1:∀v,X.H₀ ea=some v->(∀xs,v≠.tup xs)/\(∀q w,v≠.frz q w)/\∀ps,v≠.tbl ps:=λv e9=>⟨λxs z=>(by rw[z]at e9;have:=J5.base.tups ea xs e9;rw[hnew']at this;cases this),λq w z=>(by rw[z]at e9;have:=J5.base.frzs ea q w e9;rw[hnew']at this;cases this),λps z=>(by rw[z]at e9;obtain⟨m,this⟩:=J5.base.tbls ea ps e9;rw[hnew']at this;cases this)⟩
   have hsuite:=(hh ea oe _ zo).out pins s8 _ _ { nx:=λ_ _=>False,rt:=λv H'=>D.rt v H' } (J8.suite n0 aC) ⟨w1,_,S1,hrh,hS7,az.nx (E:=E) ?_⟩
   .refine wpAny_noRaise (Zk hsuite (λf s9 q=>?_) λ_ _ z=>z);show wpAny _ _ _ _ _ _;cases f with
    |next=>obtain⟨_,_,_,q⟩:=q;exact q.elim
    |brk=>obtain⟨_,_,_,q⟩:=q;exact q.elim
    |cont=>obtain⟨_,_,_,q⟩:=q;exact q.elim
    |ret u=>
     obtain⟨v,σ',H',J,rr,q⟩:=q;have J':=J.unsuite I.ok n0 n1;obtain⟨c9,hc9⟩:=J'.ok.has n (.inl hl);obtain⟨v9,hv9⟩:=J'.cell n c9 hc9;refine vJ J'.ok.kind hl hc9 hv9 λh10 t10 hi10 hs10=>?_;exact⟨v,_,H',J'.forgetC hfn hc9 hi10 hs10,rr,q⟩
   .refine az.bind (rel:=RF X.K) p7 hS7 λf S2 w2 H3 fv x2 q2 s2 p2=>?_;cases f with
    |nx r=>exact p2.elim
    |bk r=>exact p2.elim
    |ct r=>exact p2.elim
    |rt d=>obtain⟨v,rfl,q⟩:=q2;have z:=az.ret (Q:=FV.to D) (rel:=RF X.K) (a:=F.rt d) (b:=FV.rt v) p2 ⟨v,rfl,q⟩ s2;exact z
  .rw[Ji hc]at hp';exact hp'.elim⟩
theorem xE{cs:List Str}{body:List Stmt}{b₀:Stmt}{suite:List Stmt}{x n:Str}{np hpos pos:Pos}{i nN:Nat}{mb mh:SM}(h:TryAt X.K X.mg x cs)(hex:X.ex=[])(hf:X.stack=X.env::X.outer/\X.env.frame=some X.env.locals)
  (hg:Gl X x) (hN:X.N.Nodup) (hi:X.N[i]?=some n) (hn:nN=X.N.length) (hl:X.env.scope.names.lookup n=some .cell) (hfn:X.fn n=true)
  (hb:∀(p:List (Addr×Obj))(W:Value->Shared->Prop)(E1:XK),Passes (CX1 X.prog X.w) (X.with p W) E1->SSs (X.with p W) E1 body mb)
  (hh:∀(ea:Addr)(o:Obj)(u:HO),ZO o->SSs (X.suite ea (.frz o u)) E0 (b₀::suite) mh) (hd:autoParam ((x == ("__debug__":Str))=false) zz3._auto_1):
  SS X E (.Try body [.ExceptHandler (some (.Name x np)) (some n) (b₀::suite) hpos] [] [] pos) (jZ cs i nN mb mh):=by
 obtain⟨Cp,hm,hc⟩:=h;refine zY hex hf hg hm (λy hy c hcn=>?_) hN hi hn hl hfn hb hh hd;obtain⟨c',e1,e2⟩:=hc y (List.contains_iff_mem.mp hy);rw[hcn]at e1;cases e1;exact e2
end
section
variable{X:Cx}{E:XK}
theorem zZ{k:Nat}(hr:RoomM k X.A):OpR X (compareOp .Eq) (xO X.K E fI):=by
 rintro pins s σ H x y v u Q I rx ry ⟨w,S,d,e,hS,qd,qe,p⟩;obtain⟨z,hz,p⟩:=p.of;unfold fI at hz;cases h:eqP d e with
 |none=>rw[h]at hz;cases hz
 |some c=>
  rw[h]at hz;cases hz;rcases kg h with h|⟨a,b,e1,e2,s1,s2,rfl⟩
  .exact w8 pins s σ H x y v u Q I rx ry ⟨w,S,d,e,hS,qd,qe,by unfold oEq;rw[h];exact p⟩
  .obtain⟨as,r1,_⟩:=eV I d x v a qd rx e1;obtain⟨bs,r2,_⟩:=eV I e y u b qe ry e2
   exact eq_dataH r1 r2 s1 s2 (by have:=hr.un;omega) ⟨.bl _,H,I,rfl,p.ret RD.mkB hS⟩
end
end PD
namespace PySem
open PyProof.Rows
open Sem (wp)
namespace F
theorem ul_plain:plainId "dict.update.loop" = true:=by decide +kernel
theorem ul_entry:entryFor table "dict.update.loop" = some Builtin.«dict.update.loop»:=entryFor_of_tree (by kernel_rfl)
theorem list_no_keys:typeLookup (.type "list") "keys" = pure none:=by rw[typeLookup_type,U2];kernel_rfl
end F
section
variable{prog:Program}{w:World}{A:Around}{E:Value->Shared->Prop}
theorem lW{s:Shared}{l:Addr}{sl:Array (Option Value)}{xs:Array Value}{n:Nat}{Q:Option Value->Shared->Prop}(hl:s.heap.get? l=some { cls:=.type "list",dict:=none,data:=.seq xs n,slots:=sl })(hA:A.handled=none)
  (q:∀h' tk,(∀b ob,s.heap.get? b=some ob->h'.get? b=some ob)->Q none { s with heap:=h',toks:=tk }):wpAny (model prog w) A (getAttr? (.ref l) "keys") Q E s:=by
 obtain⟨hp,gs,dr,k0,os⟩:=s;have ty:∀k,(⟨hp,gs,dr,k,os⟩:Shared).TypeIs (.ref l) "list":=λ_=>⟨_,hl,rfl⟩
 have a1:=sub_AttributeError;have a2:=F.slot_list_getattribute.lookup;have a3:=F.slot_list_getattribute.bind (.ref l);have a4:=am_list_getattr_none
 have nm:(["__module__","__name__","__qualname__","__doc__","__annotations__"]:List Str).contains "keys" = false:=by decide +kernel
 unfold getAttr? getAttrBy? getAttrBy
 repeat (any_goals (first|assumption|exact ty _|((with_reducible show wpAny _ _ (call (Value.builtin "list.__getattribute__") _ _) _ _ _);refine Wy F.slot_list_getattribute (ty _) am_entry_list_getattribute (F.args_list_getattribute_2 _ _) (meets_getattribute_miss_list l xs n sl "keys" _ F.list_no_keys nm (by size_fits)) ⟨hl,hA,λh' tk' e x=>?_⟩)|wp_step))
 obtain⟨_,_,he⟩:=x.there;show wpAny _ _ (getattributeRaised _ _ _ _ _ _ _) _ _ _;unfold getattributeRaised
 repeat (any_goals (first|assumption|wp_step))
 exact q h' tk' x.keeps
end
section
variable{prog:Program}{w:World}{K:Type}[DecidableEq K]{knd:KeyKind prog w K}{A:Around}{R:Result->Shared->Prop}
def oO(knd:KeyKind prog w K)(h:Heap)(d I:Addr)(kv:K×Value)(v:Value):Prop:=∃p key,v=.ref p/\knd.is kv.1 key=true/\h.IsTuple p #[key,kv.2]/\p≠d/\p≠I
theorem oO.keep{h h':Heap}{d I:Addr}{kv:K×Value}{v:Value}(x:oO knd h d I kv v)(hk:∀b o,b≠I->b≠d->h.get? b=some o->h'.get? b=some o):oO knd h' d I kv v:=by obtain⟨p,key,e,z,⟨o,ho,r⟩,n1,n2⟩:=x;exact⟨p,key,e,z,⟨o,hk p o n2 n1 ho,r⟩,n1,n2⟩
theorem sv(a:List (K×Value))(k:K)(v:Value):(stored a k v).length<=a.length+1:=by
 unfold stored;split
 .rw[Jg];omega
 .rw[Jm];exact Jd _
theorem nE{I l d:Addr}(hne:l≠I)(hd1:d≠I)(hd2:d≠l)(hh:A.handled=none)(items:Array Value):
  ∀(kvs:List (K×Value))(vs:List Value)(j:Nat)(s:Shared)(acc:List (K×Value)),items.toList.drop j=vs->vs.length=kvs.length->(∀(i:Nat) kv v,kvs[i]?=some kv->vs[i]?=some v->oO knd s.heap d I kv v)->
   s.heap.IsListIter I l j->s.heap.IsList l items->s.heap.DictOf knd d acc->acc.length+kvs.length<=sizeLine->
   (∀h' tk,h'.DictOf knd d (merged acc kvs)->(∀b o,b≠I->b≠d->s.heap.get? b=some o->h'.get? b=some o)->R (.ok (.ret .none)) { s with heap:=h',toks:=tk })->
   codeAny (model prog w) A (.builtin "dict.update.loop" ⟨[.ref d,.ref I,rawInt j,.none],[]⟩) R s
 |[],vs,j,s,acc,hv,hl,_,st,il,hm,_,hR=>by
  have W:=Walks.list (prog:=prog) (w:=w) (A:=A.in1) hh I l hne items;have e0:vs=[]:=Zw.mp hl
  have hj:items.size<=j:=by have:=Q7 List.length hv;rw[e0,Wa,Jz]at this;exact Nat.le_of_sub_eq_zero this
  refine Yy F.ul_entry ?_;rw[Z9 F.ul_plain _];show wpAny _ A.in1 (pyNext (.ref I) >>= _) _ _ s
  refine J9 (Vz (A:=A.in1) hh st il (by simpa using hj) λh' he=>?_)
  show wpAny _ A.in1 (Builtin.Dict.addKeywords d [] >>= λ_=>ret .none) _ _ _;refine J9 (Ja (Ja ?_))
  exact hR h' s.toks (by obtain⟨o,es,ep,ho,r⟩:=hm;exact⟨o,es,ep,he d o hd1 ho,r⟩) λb o b1 b2 e=>he b o b1 e
 |kv::kvs,vs,j,s,acc,hv,hl,hp,st,il,hm,hz,hR=>by
  obtain⟨v,vs',rfl⟩:∃v vs',vs=v::vs':=by
   cases vs with
   |nil=>cases hl
   |cons v vs'=>exact⟨v,vs',rfl⟩
  have hjl:j<items.size:=by have:=Q7 List.length hv;rw[Wa,Jz,Jk]at this;omega
  have hit:items[j]?=some v:=by have:=Q7 (λl:List Value=>l[0]?) hv;simp only[Um,Nat.add_zero,Z7,Yl]at this;exact this
  have hv':items.toList.drop (j+1)=vs':=by rw[<- Uf,hv];rfl
  rw[Jk]at hz;obtain⟨p,key,rfl,hkey,⟨o,ho,hc,n,hdat⟩,n1,n2⟩:=hp 0 kv v rfl rfl;refine Yy F.ul_entry ?_;rw[Z9 F.ul_plain _];show wpAny _ A.in1 (pyNext (.ref I) >>= _) _ _ s;refine J9 (Vq (A:=A.in1) st il (x:=.ref p) hit λh' st' hs=>?_);have k1:∀b ob,b≠I->s.heap.get? b=some ob->h'.get? b=some ob:=λb ob hb e=>hs.extBut b ob hb e;have ho1:=k1 p o n2 ho
  have hm1:h'.DictOf knd d acc:=by obtain⟨o',es,ep,ho',r⟩:=hm;exact⟨o',es,ep,k1 d o' hd1 ho',r⟩
  have il1:h'.IsList l items:=by obtain⟨o',ho',r⟩:=il;exact⟨o',k1 l o' hne ho',r⟩
  show wpAny _ A.in1 (holding [.ref p] _ >>= _) _ _ _;refine J9 (Yi ?_);refine J9 (wpAny_tryCatch ?_);unfold Builtin.Dict.pairItems
  refine J9 (Qs (show Shared.TypeIs { s with heap:=h' } (.ref p) "tuple" from ⟨o,ho1,hc⟩) ?_)
  rw[Je (by decide)]
  refine J9 (Vf ho1 hdat (Ja ?_));show wpAny _ A.in1 (holding [key,kv.2] (dictSet d key kv.2)) _ _ _
  refine Yi (wpAny_dictSet_pairs hkey hm1 (λh2 hm2 hs2=>?_) (by omega))
  refine Ja ⟨W3 F.ul_plain _,?_⟩;have k2:∀b ob,b≠I->b≠d->s.heap.get? b=some ob->h2.get? b=some ob:=λb ob b1 b2 e=>(hs2.2 b b2).trans (k1 b ob b1 e);have hlen:=sv acc kv.1 kv.2
  refine nE hne hd1 hd2 hh items kvs vs' (j+1) _ (stored acc kv.1 kv.2) hv' (by simpa using hl) (λi kv' v' e1 e2=>(hp (i+1) kv' v' e1 e2).keep k2) ?_ ?_ hm2 (by omega) λh3 tk hm3 k3=>?_
  .obtain⟨o',ho',r⟩:=st';exact⟨o',(hs2.2 I (Ne.symm hd1)).trans ho',r⟩
  .obtain⟨o',ho',r⟩:=il1;exact⟨o',(hs2.2 l (Ne.symm hd2)).trans ho',r⟩
  .exact hR h3 tk hm3 λb ob b1 b2 e=>k3 b ob b1 b2 (k2 b ob b1 b2 e)
end
section
variable{prog:Program}{w:World}{K:Type}[DecidableEq K]{knd:KeyKind prog w K}{A:Around}{E:Value->Shared->Prop}{s:Shared}
theorem kG{l:Addr}{items:Array Value}{n:Nat}{sl:Array (Option Value)}{kvs:List (K×Value)}{Q:Value->Shared->Prop}(hh:A.handled=none)(hl:s.heap.get? l=some { cls:=.type "list",dict:=none,data:=.seq items n,slots:=sl })(hn:items.size=kvs.length)
  (hp:∀(i:Nat) kv v,kvs[i]?=some kv->items[i]?=some v->∃p key,v=.ref p/\knd.is kv.1 key=true/\s.heap.IsTuple p #[key,kv.2]) (hz:kvs.length<=sizeLine)
  (q:∀h' tk,h'.DictOf knd s.heap.objs.size (merged [] kvs)->(∀b o,s.heap.get? b=some o->h'.get? b=some o)->Q (.ref s.heap.objs.size) { s with heap:=h',toks:=tk }):wpAny (model prog w) A (call (.type "dict") [.ref l]) Q E s:=by
 refine callType_codes (Q₁:=λz t=>z=.ref s.heap.objs.size/\t={ s with heap:=s.heap.push { cls:=.type "dict",data:=.dict #[] } }) F.kt_called_dict (F.kt_typeCall_dict_1 _) F.entry_dict_init (kt_code_dict_new _ ⟨rfl,rfl⟩) ?_
 rintro z t ⟨rfl,rfl⟩;have hm:(s.heap.push { cls:=.type "dict",data:=.dict #[] }).DictOf knd s.heap.objs.size []:=Heap.DictOf.new s.heap
 have k0:∀b o,s.heap.get? b=some o->(s.heap.push { cls:=.type "dict",data:=.dict #[] }).get? b=some o:=λb o e=>Jb _ e
 have hl0:=k0 l _ hl;refine⟨hm.typeIs,F.args_dict_init_2 _ _,?_⟩;unfold Builtin.«dict.__init__»;refine J9 ?_;unfold Builtin.Dict.selfAndRest;refine J9 (wpAny_notOrdered_dict hm.typeIs ?_);show wpAny _ _ (pure (s.heap.objs.size,[Value.ref l])) _ _ _;refine Ja ?_;show wpAny _ _ (Builtin.Dict.updateFrom "dict.__init__" s.heap.objs.size (.ref l) [] .none) _ _ _
 unfold Builtin.Dict.updateFrom
 refine J9 (Qs (show Shared.TypeIs { s with heap:=s.heap.push { cls:=.type "dict",data:=.dict #[] } } (.ref l) "list" from ⟨_,hl0,rfl⟩) ?_)
 rw[Je (by decide)]
 refine J9 (lW (A:=A.in1.in1) hl0 hh λh1 tk1 k1=>?_)
 rw[Je (show(none:Option Value).isNone=true from rfl)]
 have hl1:=k1 l _ hl0;have il1:h1.IsList l items:=⟨_,hl1,rfl,n,rfl⟩;refine J9 (Zj (J9 (Qj il1 ?_)));have k2:∀b o,s.heap.get? b=some o->(h1.push { cls:=.type "list_iterator",data:=.fields #[.ref l,.int 0 0] }).get? b=some o:=λb o e=>Jb _ (k1 b o (k0 b o e))
 have e1:=Jn hl
 have e2:s.heap.objs.size<h1.objs.size:=by obtain⟨o,es,ep,ho,r⟩:=hm;exact Jn (k1 _ o ho)
 refine Ja ⟨W3 F.ul_plain _,?_⟩
 refine nE (A:=A.in1) (knd:=knd) (l:=l) (I:=h1.objs.size) (Ju (Qt e1 e2)) (Ju e2) (Qg e1) hh items kvs items.toList 0 _ [] rfl (by rw[Jz];exact hn) (λi kv v p1 p2=>?_) ⟨_,Jo _ rfl,rfl,rfl⟩ ⟨_,k2 l _ hl,rfl,n,rfl⟩ (by obtain⟨o,es,ep,ho,r⟩:=hm;exact⟨o,es,ep,Jb _ (k1 _ o ho),r⟩) (by simpa using hz) λh' tk hm' k3=>⟨rfl,q h' tk hm' λb o e=>?_⟩
 .obtain⟨p,key,ev,z,⟨o,ho,r⟩⟩:=hp i kv v p1 (by rw[<- Yl];exact p2)
  have e3:=Jn ho;exact⟨p,key,ev,z,⟨o,k2 p o ho,r⟩,Ju e3,Ju (Qt e3 e2)⟩
 .have e3:=Jn e;exact k3 b o (Ju (Qt e3 e2)) (Ju e3) (k2 b o e)
end
end PySem
namespace L2
open PySem PySem.Spec PyProof.Rows
theorem xF(a:List (Key×V))(k:Key)(v:V):(putK a k v).length<=a.length+1:=by
 unfold putK;split
 .rw[Jg];omega
 .rw[Jm];exact Jd _
theorem lX:∀(more acc:List (Key×V)),(dH acc more).length<=acc.length+more.length
 |[],acc=>Jd _
 |kv::more,acc=>by have h1:=lX more (putK acc kv.1 kv.2);have h2:=xF acc kv.1 kv.2;show(dH (putK acc kv.1 kv.2) more).length<=acc.length+(more.length+1);omega
noncomputable def PrV(K:Frag)(H:Hp):List V->List (Key×V)->Prop
 |[],kvs=>kvs=[]
 |y::ys,kvs=>∃kv r p,kvs=kv::r/\y=.ref p/\SqT K H p [kV kv.1,kv.2]/\PrV K H ys r
section
variable{X:Cx}
theorem qo{pins:List (Addr×Obj)}{σ:St}{H:Hp}{s:Shared}(I:Inv X pins σ H s):∀{ys:List V}{kvs:List (Key×V)}{its:List Value},PrV X.K H ys kvs->Vals ys its->∃ks:List (Key×Value),KV kvs ks/\its.length=ks.length/\∀(i:Nat) kv v,ks[i]?=some kv->its[i]?=some v->∃pp key,v=.ref pp/\(aV X.prog X.w).is kv.1 key=true/\s.heap.IsTuple pp #[key,kv.2]
 |[],kvs,_,h,.nil=>by
  cases (show kvs=[] from h)
  exact⟨[],.nil,rfl,λi kv v e=>by cases e⟩
 |y::ys,kvs,_,h,.cons ry rr=>by
  obtain⟨kv,r,p,rfl,rfl,sq,hr⟩:=h;obtain⟨ks,h1,h2,h3⟩:=qo I hr rr;obtain⟨its2,r2,it,_⟩:=I.tuple sq;obtain⟨key,u,rfl,rk,ru⟩:=vals2 r2;cases ry
  refine⟨(kv.1,u)::ks,.cons ⟨rfl,ru⟩ h1,by rw[Jk,Jk,h2],λi kv' v e1 e2=>?_⟩
  cases i with
  |zero=>
   cases e1;cases e2;exact⟨p,key,rfl,nk rk,it⟩
  |succ i=>exact h3 i kv' v e1 e2
theorem mW(hc:X.calm=true):bI X (.type "dict") (λxs H Q=>∃p ys kvs,xs=[.ref p]/\SqL X.K H p ys/\PrV X.K H ys kvs/\∀q,H q=none->Q (.ref q) (upd H q (.dK (dH [] kvs)))):=by
 intro pins s σ H xs us Q I r h;obtain⟨p,ys,kvs,rfl,hq,hp,q⟩:=h;obtain⟨u,rfl,rx⟩:=Wx r;cases rx;obtain⟨its,r',⟨o,n,ho,hcl,hdc,hdt⟩,hz⟩:=I.list hq;obtain⟨ks,h1,h2,h3⟩:=qo I hp r';obtain⟨c,dc,dt,sl⟩:=o;simp only at hcl hdc hdt;subst hcl hdc hdt;have l1:=r'.length;have l2:=h1.length
 refine kG (knd:=aV X.prog X.w) (items:=its.toArray) (kvs:=ks) (I.ok.hd hc) ho (by simpa using h2) (λi kv v e1 e2=>h3 i kv v e1 (by simpa using e2)) (by omega) λh' tk hm hk=>?_
 have lz:=lX kvs []
 refine⟨.ref s.heap.objs.size,_,I.laid (t':=tk) hk (Jd _) (show bw X.prog X.w _ h' _ (.dK (dH [] kvs)) from ⟨by simp only[Y3]at lz;omega,?_,_,KV.merge h1 .nil,hm⟩),rfl,q _ (I.hok.fresh (Jd _))⟩
 have:=I.big;exact V3.mpr (Qg this)
end
end L2
namespace PD
open PySem PySem.Spec PyProof.Rows L2
noncomputable def qp:List D->Option (List (KD×D))
 |[]=>some []
 |.tup [k,v]::r=>match jk k,qp r with
  |some k',some r'=>some ((k',v)::r')
  |_,_=>none
 |_=>none
noncomputable def qq:Sto->List D->R D
 |S,[d]=>match iY S d with
  |some a=>match qp a with
   |some kvs=>.ok (.ref S.length) (S++[.dic (dv [] kvs)])
   |none=>.bad
  |none=>.bad
 |_,_=>.bad
section
variable{X:Cx}{E:XK}
theorem xG{w:Wd}{H:Hp}:∀{a:List D}{vs:List V}{kvs:List (KD×D)},RDs X.K w H a vs->qp a=some kvs->∃us,PrV X.K H vs us/\RDk X.K w H kvs us
 |[],vs,kvs,q,h=>by cases h;rw[q.nil_inv];exact⟨[],rfl,.nil⟩
 |d::a,vs,kvs,q,h=>by
  unfold qp at h;split at h
  .rename_i e;cases e
  .rename_i k v r e;cases e;split at h
   .rename_i k' r' e1 e2;cases h;obtain⟨y,ys,rfl,q1,q2⟩:=q.cons_inv;obtain⟨us,p1,p2⟩:=xG q2 e2;obtain⟨p,zs,rfl,sq,qz⟩:=q1.tupI;obtain⟨z1,z2,rfl,qk,qv⟩:=qz.two_inv;have ek:=jl qk e1;subst ek;exact⟨(k',z2)::us,⟨(k',z2),us,p,rfl,rfl,cn sq,p1⟩,.cons qv p2⟩
   .cases h
  .cases h
theorem xH(hc:X.calm=true):bI X (.type "dict") (xCR X.K E qq):=by
 rintro pins s σ H xs us Q I r ⟨w,S,ds,hS,qs,p⟩;unfold qq at p;split at p
 .rename_i d;obtain⟨v,rfl,q⟩:=qs.one_inv;split at p
  .rename_i a ha;split at p
   .rename_i kvs hk;obtain⟨pa,vs,rfl,sq,ra⟩:=Cn hS q ha;obtain⟨uk,p1,p2⟩:=xG ra hk;exact mW hc pins s σ H _ us Q I r ⟨pa,vs,uk,rfl,sq,p1,λt ht=>az.at p (Ext.alloc ht) hS.lastRef (hS.alloc ht ⟨_,aC,RDk.ext (Ext.alloc ht) _ _ (RDk.merge p2 .nil)⟩)⟩
   .exact p.elim
  .exact p.elim
 .exact p.elim
end
noncomputable def nF:Sto->List D->Option D
 |S,[d]=>match bO S d with
  |some a=>match intsOf a with
   |some (n::ns)=>some (.int (iR n ns))
   |_=>none
  |none=>none
 |_,_=>none
theorem xI{n:Int}{ns:List Int}{m:Nat}(hm:m<(n::ns).length)(h:∀j,j<(n::ns).length->((n::ns)[j]?).getD 0<=((n::ns)[m]?).getD 0):((n::ns)[m]?).getD 0=iR n ns:=by
 have e1:((n::ns)[m]?).getD 0∈n::ns:=by rw[Jc hm];exact Zn hm
 have e2:∀x∈n::ns,x<=((n::ns)[m]?).getD 0:=λx hx=>by obtain⟨j,hj,rfl⟩:=W6.mp hx;have:=h j hj;rw[Jc hj]at this;exact this
 obtain⟨⟨a1,a2⟩,a3⟩:=t6 ns n
 have c1:=e2 (iR n ns) (by rcases a3 with e|h;rw[e];exact .head _;exact .tail _ h)
 have c2:((n::ns)[m]?).getD 0<=iR n ns:=by
  rcases Jq.mp e1 with e|h
  .rw[e];exact a1
  .exact a2 _ h
 omega
section
variable{X:Cx}{E:XK}
theorem z8(hc:X.calm=true):bI X (.builtin "max") (xC X.K E nF):=by
 rintro pins s σ H xs us Q I r ⟨w,S,ds,hS,qs,p⟩;obtain⟨z,hz,p'⟩:=p.of;clear p;unfold nF at hz;split at hz
 .rename_i d;split at hz
  .rename_i a ea;split at hz
   .rename_i n ns e;cases hz;obtain⟨v,rfl,q⟩:=qs.one_inv;obtain⟨pa,vs,rfl,sq,ra⟩:=j6 hS q ea;obtain⟨u,rfl,ru⟩:=Wx r;cases ru;have hlen:=p9 e
    have fin:∀(its:List Value)(w':Value)(h':Heap)(tk:Nat),Vals vs its->its.toArray[argBest (λi j=>decide (((n::ns)[i]?).getD 0>((n::ns)[j]?).getD 0)) (its.toArray.size-1)]?=some w'->(∀b o,s.heap.get? b=some o->h'.get? b=some o)->EP X pins σ Q w' { s with heap:=h',toks:=tk }:=λits w' h' tk r1 hP hk=>by
     have hsz:its.toArray.size=(n::ns).length:=by rw[hlen,<- ra.length,r1.length];simp
     obtain⟨t,rfl⟩:=kO ra r1 e _ w' (by simpa using hP)
     obtain⟨b1,b2⟩:=argBest_gt (λi=>((n::ns)[i]?).getD 0) (its.toArray.size-1);generalize argBest (λi j=>decide (((n::ns)[i]?).getD 0>((n::ns)[j]?).getD 0)) (its.toArray.size-1)=m at *;have h0:0<(n::ns).length:=Nat.succ_pos _
     rw[xI (m:=m) (by omega) λj hj=>b2 j (by omega)]
     exact⟨.int _,H,I.kept hk,⟨t,rfl⟩,p'.ret RD.mkI hS⟩
    rcases sq with sq|sq
    .obtain⟨its,r1,⟨o,k,ho,hcl,hdn,hd⟩,_⟩:=I.list sq;have hlt:pa<s.heap.objs.size:=Jn ho;have hl:s.heap.IsList pa its.toArray:=⟨o,ho,hcl,k,hd⟩;refine call_max_walk (Qj hl ?_)
     refine⟨s.heap.objs.size,[s.heap.objs.size,pa],[s.heap.objs.size],its.toArray.size,_,_,_,rfl,Walks.list (A:=X.A.in1) (I.ok.hd hc) _ pa (Ju hlt) its.toArray,
      ⟨⟨_,Jo _ rfl,rfl,rfl⟩,hl.push _⟩,λb hb=>?_,?_,CmpOf.ints_gt (λi=>((n::ns)[i]?).getD 0) (λi v hP=>kO ra r1 e i v (by simpa using hP)),λw' h' tk hP hk=>fin its w' h' tk r1 hP (LSm.kept_iter hk)⟩
     .simp only[Jq,Yh,Q0]at hb;rw[Zb];rcases hb with rfl|rfl
      .exact Wf _
      .exact Zq hlt
     .have:its.toArray.size=(n::ns).length:=by rw[hlen,<- ra.length,r1.length];simp
      rw[this];exact Nat.succ_pos _
    .obtain⟨its,r1,⟨o,ho,hcl,k,hd⟩,_⟩:=I.tuple sq;have hlt:pa<s.heap.objs.size:=Jn ho;have hl:s.heap.IsTuple pa its.toArray:=⟨o,ho,hcl,k,hd⟩;refine call_max_walk (Ui hl ?_)
     refine⟨s.heap.objs.size,[s.heap.objs.size,pa],[s.heap.objs.size],its.toArray.size,_,_,_,rfl,Walks.tuple (A:=X.A.in1) (I.ok.hd hc) _ pa (Ju hlt) its.toArray,
      ⟨⟨_,Jo _ rfl,rfl,rfl⟩,hl.push _⟩,λb hb=>?_,?_,CmpOf.ints_gt (λi=>((n::ns)[i]?).getD 0) (λi v hP=>kO ra r1 e i v (by simpa using hP)),λw' h' tk hP hk=>fin its w' h' tk r1 hP (LSm.kept_iter hk)⟩
     .simp only[Jq,Yh,Q0]at hb;rw[Zb];rcases hb with rfl|rfl
      .exact Wf _
      .exact Zq hlt
     .have:its.toArray.size=(n::ns).length:=by rw[hlen,<- ra.length,r1.length];simp
      rw[this];exact Nat.succ_pos _
   .cases hz
  .cases hz
 .cases hz
end
noncomputable def lY(it:AM)(k:Nat)(caps:List Nat)(g:G)(t:TM)(e:EM):EM:=λr S=>(it r S).bind λxs S1=>
 if xs.length<=sizeLine then (cy g t e xs (fF k caps r) S1).bind λys S2=>.ok (.ref S2.length) (S2++[.lst ys]) else .bad
theorem xJ{qb:Bool}{X:Cx}{E:XK}{elt tg iter:Expr}{ifs:List Expr}{scope:Scope}{pos:Pos}{N:List Str}{k:Nat}{caps:List Nat}{it:AM}{g:G}{mt:TM}{me:EM}(hX:Cd qb X)(hxe:∀e s,¬X.xe e s)(C:CompScope X N k caps scope)
  (hi:SIb qb X E tg iter it) (hg:∀cl s0 H0 ex,Cd qb (cxC X N scope cl s0 H0 ex)->SG (cxC X N scope cl s0 H0 ex) tg g) (ht:∀cl s0 H0 ex,Cd qb (cxC X N scope cl s0 H0 ex)->SIf (cxC X N scope cl s0 H0 ex) E ifs mt) (he:∀cl s0 H0 ex,Cd qb (cxC X N scope cl s0 H0 ex)->SE (cxC X N scope cl s0 H0 ex) E elt me)
  (hs:autoParam (∀x,foldedSetIterable iter X.env x=pure x) zz4._auto_1):SE X E (.ListComp elt [⟨tg,iter,ifs,0⟩] scope pos) (lY it k caps g mt me):=⟨
 aR (pU hX hxe C hi.out (g:=uG X.K g) (λcl s0 H0 ex z=>(hg cl s0 H0 ex z).out) (tt:=uT X.K E mt) (λcl s0 H0 ex z=>(ht cl s0 H0 ex z).out) (te:=uE X.K E me) (λcl s0 H0 ex z=>(he cl s0 H0 ex z).out) hs) λs H Q zq=>ex6 zq λw r S hr hS hp=>⟨w,r,S,hr,hS,hp.bind hS λds S1 w1 H1 J x1 q1 s1 p1=>by
  intro p hp;have hr1:=hr.ext x1;have pno:p∉w1.hid:=(s1.fresh hp).2
  have hz:ds.length<=sizeLine:=by
   rcases Wc sizeLine ds.length with z|z
   .rw[Ji (by omega)]at p1;exact p1.elim
   .exact z
  rw[Je hz]at p1
  -- the list is made at p,which is hidden
  refine⟨λi n s' H'=>n=ds.length-i/\i<=ds.length/\∃w' r' S' ys vs,Ext w1 H1 w' H'/\p∈w'.hid/\RSt X.K w' H' r' s'/\RS X.K w' H' S'/\H' p=some (.lst vs)/\RDs X.K w' H' ys vs/\ys.length<=i/\
    az X.K E (RD X.K) w1 H1 ((cy g mt me (ds.drop i) r' S').bind λzs S2=>R.ok (.ref S2.length) (S2++[SO.lst (ys++zs)])) Q,
   ⟨ds.length,by simp,Y2 _,w1.hide p,fF k caps r,S1,[],[],Ext.hide hp,Y6,(tP k caps hr1).ext (Ext.hide hp),s1.hide hp,aC,.nil,Jd _,p1⟩,?_⟩
  rintro i n s2 H2 ⟨rfl,hi.out,w2,r2,S2,ys,vs,x2,hph,hr2,hS2,hpv,ry,hyl,hp2⟩;have hpn:p∉w2.st:=(hS2.hid p hph).1;by_cases hlt:i<ds.length
  .obtain⟨go,yld⟩:=(q1 i w2 H2 x2).1 hlt
   refine .inr ⟨go,λs' H'=>∃w' r' S' ys vs,Ext w1 H1 w' H'/\p∈w'.hid/\RSt X.K w' H' r' s'/\RS X.K w' H' S'/\H' p=some (.lst vs)/\RDs X.K w' H' ys vs/\ys.length<=i+1/\
     az X.K E (RD X.K) w1 H1 ((cy g mt me (ds.drop (i+1)) r' S').bind λzs S2=>R.ok (.ref S2.length) (S2++[SO.lst (ys++zs)])) Q,
    λs' H' hN=>⟨ds.length-(i+1),by omega,rfl,hlt,hN⟩,λx H3 hy=>?_⟩
   obtain⟨gr,rd⟩:=yld x H3 hy;obtain⟨d,ed,qd⟩:=rd S2 hS2;obtain⟨x3,s3⟩:=lB gr hS2
   have hdrop:ds.drop i=d::ds.drop (i+1):=by rw[Yz hlt];rw[Jc hlt]at ed;cases ed;rfl
   rw[hdrop]at hp2;have hpv3:H3 p=some (.lst vs):=x3.keep _ _ hpv hpn;have ry3:=RDs.ext x3 _ _ ry;have x13:Ext w1 H1 w2 H3:=x2.trans' x3 s1 hS2;unfold cy at hp2;cases e:g.put d r2 with
   |none=>rw[e]at hp2;exact hp2.elim
   |some r3=>
    rw[e]at hp2;refine⟨w2,r2,d,r3,hr2.ext x3,qd,e,λs4 hr4=>⟨w2,r3,S2,hr4,s3,?_⟩⟩
    -- hp2:(mt r3 S2).bind .. |>.bind ..
    have hass:∀{A B C:Type}(r:R A)(f:A->Sto->R B)(h:B->Sto->R C),(r.bind f).bind h=r.bind λa S=>(f a S).bind h:=λr f h=>by cases r<;>rfl
    simp only[hass]at hp2;refine az.bindAt (rel:=RB) hp2 x13 s1 s3 λc S5 w5 H5 c' x5 q5 s5 p5=>?_;have ec:c'=c:=q5;subst ec;have x15:Ext w1 H1 w5 H5:=x13.trans' x5 s1 s3;have hph5:p∈w5.hid:=x5.hid p hph;have hpv5:H5 p=some (.lst vs):=x5.keep _ _ hpv3 hpn;cases c' with
    |false=>
     refine rN ⟨w5,r3,S5,ys,vs,x15,hph5,hr4.ext x5,s5,hpv5,RDs.ext x5 _ _ ry3,Nat.le_succ_of_le hyl,p5⟩
    |true=>
     refine rO ⟨w5,r3,S5,hr4.ext x5,s5,?_⟩;have p5':az X.K E (RD X.K) w1 H1 (((me r3 S5).bind λy S2=>(cy g mt me (ds.drop (i+1)) r3 S2).bind λys S3=>R.ok (y::ys) S3).bind λzs S2=>R.ok (D.ref S2.length) (S2++[SO.lst (ys++zs)])) Q:=p5;simp only[hass]at p5';refine az.bindAt (rel:=RD X.K) p5' x15 s1 s5 λy S6 w6 H6 yv x6 q6 s6 p6=>?_;have x16:Ext w1 H1 w6 H6:=x15.trans' x6 s1 s5;have hph6:p∈w6.hid:=x6.hid p hph5;have hpn5:p∉w5.st:=(s5.hid p hph5).1;have hpn6:p∉w6.st:=(s6.hid p hph6).1;have hpv6:H6 p=some (.lst vs):=x6.keep _ _ hpv5 hpn5;have ry6:=RDs.ext x6 _ _ (RDs.ext x5 _ _ ry3)
     refine⟨vs,hpv6,by rw[ry6.length];omega,w6,r3,S6,ys++[y],vs++[yv],⟨λa o h n=>?_,x16.sub,x16.hid,x16.hnew,λa o u h=>by have z:=x16.frz a o u h;rw[ax (λe:a=p=>by rw[e,hpv6]at z;cases z)];exact z⟩,hph6,(hr4.ext x5).ext x6 |>.mv (Mv.write hph6),s6.write hph6,aC,(RDs.mv (Mv.write hph6) _ _ ry6).append (.cons (RD.mv (Mv.write hph6) _ _ q6) .nil),by simp;omega,?_⟩
     .have:a≠p:=aH h hp;rw[ax this];exact x16.keep a o h n
     .have he2:∀zs:List D,(ys++[y])++zs=ys++y::zs:=λzs=>by simp
      simp only[he2];exact p6
  .have e:i=ds.length:=by omega
   subst e;rw[G9]at hp2;refine .inl ⟨(q1 _ w2 H2 x2).2 (Jd _),?_⟩;have hp3:az X.K E (RD X.K) w1 H1 (R.ok (D.ref S2.length) (S2++[SO.lst (ys++[])])) Q:=hp2;rw[Ym]at hp3
   have eH:upd H2 p (.lst vs)=H2:=funext λa=>by
    by_cases e:a=p
    .subst e;rw[aC,hpv]
    .rw[ax e]
   have sA:=hS2.adopt (so:=.lst ys) hph (o:=.lst vs) ⟨vs,aC,RDs.mv (Mv.adopt hph) _ _ ry⟩;rw[eH]at sA;refine az.at hp3 (w1:=(w2.unhide p).add p) ⟨λa o h n=>x2.keep a o h n,?_,λa h=>Yv.mpr ⟨x2.hid a h,Yc λz=>pno (z▸h)⟩,λa h=>x2.hnew a (Wd.mem_unhide h).1,x2.frz⟩ ?_ sA
   .obtain⟨l,e,f⟩:=x2.sub
    exact⟨l++[p],by show w2.st++[p]=_;rw[e,Z8],λa ha=>(Jt.mp ha).elim (f a) λz=>by rw[Jv.mp z];exact hp⟩
   .unfold RD
    exact⟨p,rfl,by show(w2.st++[p])[S2.length]?=some p;rw[<- hS2.len];simp⟩⟩⟩
noncomputable def vK:List D->Option (Int×Int)
 |[.int i,.int j]=>if -(2^62)<=i/\i<2^62/\-(2^62)<=j/\j<2^62 then some (i,j) else none
 |_=>none
theorem xK{xs:List D}{i j:Int}(h:vK xs=some (i,j)):xs=[.int i,.int j]/\(-(2^62)<=i/\i<2^62/\-(2^62)<=j/\j<2^62):=by
 unfold vK at h;split at h
 .split at h
  .rename_i hb;cases h;exact⟨rfl,hb⟩
  .cases h
 .cases h
noncomputable def jx(t:AM):AM:=λr S=>(t r S).bind λxs S1=>match vK xs with
 |some (i,j)=>.ok ((List.range (j-i).toNat).map λ(m:Nat)=>D.int (i+m)) S1
 |none=>.bad
section
variable{X:Cx}{E:XK}{a b:Expr}{pos:Pos}
theorem vM{tg:Expr}{ms:AM}{p:Pos}(hg:Gl X "range")(hm:X.mg "range" = none)(ha:SA X E [a,b] ms)(hs:autoParam (starEach [a,b] X.env=[(false,eval a X.env),(false,eval b X.env)]) zz0._auto_1)(hs2:autoParam (starEach [b] X.env=[(false,eval b X.env)]) zz0._auto_1):SI X E tg (.Call (.Name "range" p) [a,b] [] pos) (jx ms):=⟨
 fo (vf hg hm ha.out hs hs2) λs H Q zq=>ex6 zq λw r S hr hS hp=>⟨w,r,S,hr,hS,hp.bind hS λds S1 w1 H1 vs x1 q1 s1 p1=>by
  cases hq:vK ds with
  |none=>rw[hq]at p1;exact p1.elim
  |some ij=>
   obtain⟨i,j⟩:=ij;rw[hq]at p1;obtain⟨rfl,hb⟩:=xK hq;obtain⟨v1,rest,rfl,a1,q1⟩:=q1.cons_inv;obtain⟨v2,rfl,a2⟩:=q1.one_inv;unfold RD at a1 a2;subst a1 a2;refine⟨i,j,rfl,hb,az.ret p1 ?_ s1⟩;intro m w' H' x'
   refine⟨λhi=>⟨show m<(j-i).toNat by simpa using hi,λx H'' y=>?_⟩,λhi=>show(j-i).toNat<=m by simpa using hi⟩
   obtain⟨rfl,rfl⟩:=y;refine⟨.inl rfl,λS _=>⟨.int (i+m),?_,?_⟩⟩
   .have:m<(j-i).toNat:=by simpa using hi
    simp[this]
   .unfold RD;rfl⟩⟩
end
end PD
namespace PySem
open PyProof.Rows
section
variable{prog:Program}{w:World}{A:Around}{E:Value->Shared->Prop}{s:Shared}{K:Type}[DecidableEq K]{knd:KeyKind prog w K}
theorem oP{a b:Addr}{vs vs':List (K×Value)}{ep ep':Nat}{Q:Value->Shared->Prop}(ha:(a == sysModules)=false)(hb:(b == sysModules)=false)(dA:s.heap.DictAt knd a vs ep)(dB:s.heap.DictAt knd b vs' ep')
  (iA:∀kv∈vs,∃n t,kv.2=.int n t) (iB:∀kv∈vs',∃n t,kv.2=.int n t) (h:Q (.bool (dR vs vs')) s):wpAny (model prog w) A (Builtin.«dict.__eq__» ⟨[.ref a,.ref b],[]⟩) (λfin s'=>∃v,fin=.done (.ret v)/\v≠.notImplemented/\Q v s') E s:=by
 have hT:=dA.dictOf.typeIs;have hT':=dB.dictOf.typeIs;show wpAny _ A (Builtin.Dict.dictSlotArgs "__eq__" ⟨[.ref a,.ref b],[]⟩ >>= _) _ _ s
 unfold Builtin.Dict.dictSlotArgs;refine J9 (J9 (wpAny_notOrdered_dict hT ?_));refine J9 (Wq (a:=(Value.ref a,[Value.ref b])) rfl ?_);refine Ja ?_;refine J9 (W9 hT' (b:=true) F.sub_dict_dict ?_)
 rw[Ji (by decide)]
 refine J9 (Wq (a:=a) rfl ?_);refine J9 (Wq (a:=b) rfl ?_);refine J9 (sj ha hb dA dB iA iB ?_)
 refine Ja ⟨_,rfl,(λz=>by cases z),?_⟩
 have e:(dR vs vs' == true)=dR vs vs':=by cases dR vs vs'<;>rfl
 first|exact h|(rw[e];exact h)
theorem z9{a b:Addr}{vs vs':List (K×Value)}{ep ep':Nat}{Q:Value->Shared->Prop}(ha:(a == sysModules)=false)(hb:(b == sysModules)=false)(dA:s.heap.DictAt knd a vs ep)(dB:s.heap.DictAt knd b vs' ep')
  (iA:∀kv∈vs,∃n t,kv.2=.int n t) (iB:∀kv∈vs',∃n t,kv.2=.int n t) (hu:A.units<cLine) (h:Q (.bool (dR vs vs')) s):wpAny (model prog w) A (compareOp .Eq (.ref a) (.ref b)) Q E s:=by
 have hT:s.TypeIs (.ref a) "dict":=dA.dictOf.typeIs
 have hT':s.TypeIs (.ref b) "dict":=dB.dictOf.typeIs
 have hc:wpAny (model prog w) A (call (.builtin "dict.__eq__") [.ref a,.ref b]) (λv s'=>v≠.notImplemented/\Q v s') E s:=Yo F.slot_dict_eq hT F.entry_dict_eq (oP ha hb dA dB iA iB h) (F.args_dict_eq_2 _ _)
 have hr:wpAny (model prog w) A (richCompare .Eq (.ref a) (.ref b)) Q E s:=wpAny_richCompare_same_room (op:=.Eq) (T:="dict") (id:="dict.__eq__") hT hT' F.slot_dict_eq hc hu
 exact hr
end
end PySem
namespace PD
open PySem PySem.Spec PyProof.Rows L2
noncomputable def oQ:Sto->D->D->Option D:=λS x y=>match dQ S x,dQ S y with
 |some k1,some k2=>match jq k1,jq k2 with
  |some T1,some T2=>some (.bl (xu T1 T2))
  |_,_=>none
 |_,_=>fI S x y
section
variable{X:Cx}{E:XK}
theorem CC{k:Nat}(hr:Room k X.A):OpR X (compareOp .Eq) (xO X.K E oQ):=by
 rintro pins s σ H x y v u Q I rx ry ⟨w,S,d,e,hS,qd,qe,p⟩;obtain⟨z,hz,p'⟩:=p.of;unfold oQ at hz;split at hz
 .rename_i k1 k2 h1 h2;split at hz
  .rename_i T1 T2 t1 t2;cases hz;obtain⟨pp,us,rfl,rd,rk⟩:=ki hS qd h1;obtain⟨pp2,us2,rfl,rd2,rk2⟩:=ki hS qe h2;cases rx;cases ry;obtain⟨zl,hs1,vs,rel,⟨o,es,ep,ho⟩⟩:=rd.ok I.hok;obtain⟨zl2,hs2,vs2,rel2,⟨o2,es2,ep2,ho2⟩⟩:=rd2.ok I.hok;have v1:=xv t1 rk rel;have v2:=xv t2 rk2 rel2
   refine z9 (knd:=aV X.prog X.w) hs1 hs2 ⟨o,es,ho⟩ ⟨o2,es2,ho2⟩ v1.ints v2.ints (by have:=hr.units;omega) ?_
   rw[v1.same v2];exact⟨.bl _,H,I,rfl,p'.ret RD.mkB hS⟩
  .cases hz
 .rename_i hnn
  exact lO hr pins s σ H x y v u Q I rx ry ⟨w,S,d,e,hS,qd,qe,by
   have:oQ S d e=fI S d e:=by
    unfold oQ;split
    .rename_i k1 k2 h1 h2;exact(hnn k1 k2 h1 h2).elim
    .rfl
   rw[<- this];exact p⟩
end
noncomputable def fm:Sto->List D->Option D
 |S,[.ref n,.ty T]=>match S[n]? with
  |some (.flst _)=>if T∈dP then some (.bl ("list" == T||("list" == "bool" && T == "int"))) else none
  |_=>di S [.ref n,.ty T]
 |S,ds=>di S ds
section
variable{X:Cx}{E:XK}
theorem t7:bI X (.builtin "isinstance") (xC X.K E fm):=by
 rintro pins s σ H xs us Q I r ⟨w,S,ds,hS,qs,p⟩;obtain⟨z,hz,p'⟩:=p.of;by_cases hf:∃n T l,ds=[.ref n,.ty T]/\S[n]?=some (.flst l)
 .obtain⟨n,T,l,rfl,hn⟩:=hf;unfold fm at hz;simp only[hn]at hz;split at hz
  .rename_i hT;cases hz;obtain⟨v,u,rfl,q,q'⟩:=qs.two_inv;unfold RD at q';subst q';obtain⟨v1,v2,rfl,rv,rt⟩:=vals2 r
   cases (show v2=Value.type T from rt)
   obtain⟨pp,rfl,hpp⟩:=q.refI;obtain⟨p1,hp1,o,uk,hv,ra⟩:=hS.obj _ _ hn;rw[hpp]at hp1;cases hp1
   have kk:=xg X.K (t:="list") (T:=T) (by simp) hT
   exact m8 I rv (TyOf.frz hv) kk λtk=>⟨.bl _,H,I.tok tk,rfl,p'.ret RD.mkB hS⟩
  .cases hz
 .have e:fm S ds=di S ds:=by
   unfold fm;split
   .rename_i n T;split
    .rename_i l hn;exact(hf ⟨n,T,l,rfl,hn⟩).elim
    .rfl
   .rfl
  exact fY pins s σ H xs us Q I r ⟨w,S,ds,hS,qs,by rw[<- e];exact p⟩
end
end PD
namespace HT
open PySem PySem.Spec PyProof.Rows
section
variable{prog:Program}{w:World}{A:Around}{E:Value->Shared->Prop}{s:Shared}
theorem sD(n:Nat):Builtin.Slice.sliceAdjust none none (-1) (n:Int)=((n:Int)-1,-1):=by
 unfold Builtin.Slice.sliceAdjust
 first
  |rfl
  |simp
theorem sE(n:Nat):Builtin.Slice.slicePlaces ((n:Int)-1) (-1) (-1)=n:=by
 unfold Builtin.Slice.slicePlaces
 have h1:¬((-1:Int)>0):=by omega
 simp only[h1,Yp];split
 .rw[show(- -1:Int)=1 by decide,Int.ediv_one];omega
 .omega
theorem kl{sl:Addr}{t:Tok}{n:Nat}{Q:Int×Int×Nat->Shared->Prop}(hs:s.heap.IsSliceOf sl .none .none (.int (-1) t))
  (h:Q ((n:Int)-1,-1,n) s):wpAny (model prog w) A (Builtin.Slice.sliceApplied (.ref sl) (pure (n:Int))) Q E s:=by
 obtain⟨os,hos,hcs,hds⟩:=id hs;unfold Builtin.Slice.sliceApplied Builtin.Slice.sliceFields;refine J9 (J9 (Z4 hos hds (x:=.none) rfl (J9 (Z4 hos hds (x:=.none) rfl (J9 (Z4 hos hds (x:=.int (-1) t) rfl (Ja ?_)))))));refine J9 (slicePart_int ?_)
 show wpAny _ _ (if ((-1:Int) == 0)=true then _ else _) _ _ s
 rw[Ji (by decide)]
 refine J9 (gy .none (J9 (gy .none (J9 (Ja ?_)))))
 show wpAny _ _ (match Builtin.Slice.sliceAdjust none none (-1) (n:Int) with|(lo,hi)=>pure (lo,(-1:Int),Builtin.Slice.slicePlaces lo hi (-1))) _ _ s
 rw[sD n];show wpAny _ _ (pure ((n:Int)-1,(-1:Int),Builtin.Slice.slicePlaces ((n:Int)-1) (-1) (-1))) _ _ s;rw[sE];exact Ja h
theorem xN(xs:Array Value):((List.range xs.size).filterMap λ(m:Nat)=>xs[(((xs.size:Int)-1)+(m:Int) * -1).toNat]?).toArray=xs.toList.reverse.toArray:=by
 congr 1
 have e:(List.range xs.size).filterMap (λ(m:Nat)=>xs[(((xs.size:Int)-1)+(m:Int) * -1).toNat]?)=((List.range xs.size).map λk=>xs.size-1-k).filterMap (xs[·]?):=by
  rw[List.filterMap_map]
  have:(λ(m:Nat)=>xs[(((xs.size:Int)-1)+(m:Int) * -1).toNat]?)=(λx=>xs[x]?)∘λk=>xs.size-1-k:=by funext m;show xs[(((xs.size:Int)-1)+(m:Int) * -1).toNat]?=xs[xs.size-1-m]?;congr 1;omega
  rw[this]
 rw[e,krv_range,List.filterMap_reverse,krv_all]
theorem getItem_tuple_rev{t sl:Addr}{items:Array Value}{tk:Tok}{Q:Value->Shared->Prop}(ht:IsTup s.heap t items)(hs:s.heap.IsSliceOf sl .none .none (.int (-1) tk))
  (h:Q (.ref s.heap.objs.size) { s with heap:=s.heap.push { cls:=.type "tuple",data:=.seq items.toList.reverse.toArray } })
  (hsz:items.size<=sizeLine):wpAny (model prog w) A (getItem (.ref t) (.ref sl)) Q E s:=by
 have htake:sizeOk (.seq items.toList.reverse.toArray):=by show items.toList.reverse.toArray.size<=sizeLine;rw[Jr,V6,Jz];omega
 obtain⟨os,hos,hcs,hds⟩:=id hs;have hTs:s.TypeIs (.ref sl) "slice":=⟨os,hos,hcs⟩
 unfold getItem
 try with_reducible refine Yi ?_
 first|refine J9 (Ja ?_)|skip
 refine J9 (G0 ht.typeIs (by decide) ?_)
 refine J9 (Yr (name:=Str.ofString "__getitem__") ht.typeIs Zh
  (Yo Zh ht.typeIs entry_tuple_getitem ?_ (args_tuple_getitem _ _)))
 show wpAny _ _ (Builtin.Tuple.tupleItemsOf (.ref t) >>= _) _ _ s;refine J9 (tupleItemsOf_ ht ?_);refine J9 (Qs hTs ?_)
 rw[Je (by decide)]
 refine J9 (kl hs ?_)
 show wpAny _ _ (if (((items.size:Int)-1) == 0&&(-1:Int) == 1&&items.size == items.size)=true then _ else _) _ _ s
 rw[Ji (by rw[show((-1:Int) == 1)=false from rfl,Zi,Z2];exact Jj),xN]
 first
  |exact J9 (m:=Builtin.Tuple.tupleExact _) (Y9 (Ja ⟨_,rfl,Ja h⟩) htake)
  |exact J9 (m:=Builtin.Tuple.tupleExact _) (Y9 (J9 (Ja (Ja ⟨_,rfl,Ja h⟩))) htake)
  |exact J9 (J9 (m:=Builtin.Tuple.tupleExact _) (Y9 (Ja (Ja ⟨_,rfl,Ja h⟩)) htake))
  |exact J9 (J9 (m:=Builtin.Tuple.tupleExact _) (Y9 (Ja ⟨_,rfl,Ja h⟩) htake))
end
end HT
namespace L2
open PySem PySem.Spec PyProof.Rows
section
variable{X:Cx}
def RvR(X:Cx)(r:V->Hp->VK->Prop):Prop:=
 ∀(pins:List (Addr×Obj))(s:Shared)(σ:St)(H:Hp)(x:V)(v:Value)(t:Tok)(sl:Addr)(Q:VK),Inv X pins σ H s->RelV x v->s.heap.IsSliceOf sl .none .none (.int (-1) t)->r x H Q->
  ∃T id,typeLookup (.type T) "__getitem__" = pure (some (.builtin id))/\s.TypeIs v T/\wpAny (model X.prog X.w) X.A (getItem v (.ref sl)) (EP X pins σ Q) X.xe s
noncomputable def tRv(r:V->Hp->VK->Prop)(te ts:TE):TE:=λσ H Q=>te σ H λx H1=>ts σ H1 λi H2=>i=.int (-1)/\r x H2 Q
theorem CD{r:V->Hp->VK->Prop}{e st:Expr}{te ts:TE}{p2 pos:Pos}(hr:RvR X r)(he:PE X e te)(hs:PE X st ts):PE X (.Subscript e (.Slice none none (some st) p2) pos) (tRv r te ts):=by
 intro pins s σ H Q I h;refine Subscript_ (thn (he pins s σ H _ I h) λv s1 zq=>?_);obtain⟨x,H1,I1,r1,q1⟩:=zq;refine wpAny_Slice ?_;rw[evalPart_none];refine Ja (Ja ?_);rw[evalPart_some];refine thn (hs pins s1 σ H1 _ I1 q1) λvk s3 zq=>?_;obtain⟨i,H3,I3,r3,ei,q3⟩:=zq;subst ei;obtain⟨t,rfl⟩:=r3
 have I4:Inv X pins σ H3 { s3 with heap:=s3.heap.push { cls:=.type "slice",data:=.fields #[.none,.none,.int (-1) t] } }:=I3.kept (t':=s3.toks) λb ob q=>Jb _ q
 obtain⟨T,id,hT,ht,hg⟩:=hr pins { s3 with heap:=s3.heap.push { cls:=.type "slice",data:=.fields #[.none,.none,.int (-1) t] } } σ H3 x v t s3.heap.objs.size Q I4 r1 (Heap.IsSliceOf.new ..) q3
 show wpAny (model X.prog X.w) X.A (subscriptTail e (.Slice none none (some st) p2) v (.ref s3.heap.objs.size)) (EP X pins σ Q) X.xe { s3 with heap:=s3.heap.push { cls:=.type "slice",data:=.fields #[.none,.none,.int (-1) t] } }
 exact tail_any (ops:=[v,.ref s3.heap.objs.size]) ht hT hg (by with_unfolding_all rfl)
end
end L2
namespace PD
open PySem PySem.Spec PyProof.Rows L2
section
variable{X:Cx}{E:XK}
noncomputable def CF:D->Option D
 |.tup a=>some (.tup a.reverse)
 |.lst a=>some (.lst a.reverse)
 |_=>none
noncomputable def xP(a st:EM):EM:=λr S=>(a r S).bind λx S1=>(st r S1).bind λi S2=>match i with
 |.int (-1)=>R.of S2 (CF x)
 |_=>.bad
theorem Vals.rev:∀{xs:List V}{us:List Value},Vals xs us->Vals xs.reverse us.reverse
 |_,_,.nil=>.nil
 |_,_,.cons h t=>by rw[Vm,Vm];exact(Vals.rev t).append (.cons h .nil)
theorem CG:RvR X (λx H Q=>∃w S d,RS X.K w H S/\RD X.K w H d x/\az X.K E (RD X.K) w H (R.of S (CF d)) Q):=by
 rintro pins s σ H x v t sl Q I rx hs ⟨w,S,d,hS,qd,p⟩;obtain⟨z,hz,p'⟩:=p.of;clear p;unfold CF at hz;split at hz
 .rename_i a;cases hz;obtain⟨pa,xs,rfl,za,ra⟩:=qd.tupI;cases rx;obtain⟨its,r,ht,hz⟩:=I.tuple (cn za)
  have hlen:its.toArray.size=xs.length:=by rw[Jr];exact r.length.symm
  refine⟨"tuple",_,PyProof.Rows.slot_tuple_getitem.lookup,ht.typeIs,?_⟩
  have hn:H s.heap.objs.size=none:=I.hok.fresh (Jd _)
  refine HT.getItem_tuple_rev ht hs ⟨.ref s.heap.objs.size,_,I.laid (t':=s.toks) (o:=.tup xs.reverse) (λb ob q=>Jb _ q) (Jd _) ?_,rfl,p'.at (Ext.new hn) (RD.newTup hS hn (RDs.rev ra)) (hS.new hn)⟩ (by rw[hlen];exact hz)
  exact⟨by rw[V6];exact hz,its.reverse,Vals.rev r,IsTup.new _ _⟩
 .rename_i a;cases hz;obtain⟨pa,xs,rfl,za,ra⟩:=qd.lstI;cases rx;obtain⟨hz,its,n,r,ho⟩:bw X.prog X.w H s.heap pa (.lst xs):=I.hok pa _ za.1;have hl:s.heap.IsList pa its.toArray:=⟨_,ho,rfl,_,rfl⟩;refine⟨"list",_,list_getitem_lookup,hl.typeIs,?_⟩
  have hn:H s.heap.objs.size=none:=I.hok.fresh (Jd _)
  refine wpAny_getItem_list_slice hl hs .none .none (.int (-1) t) (by decide) ⟨.ref s.heap.objs.size,_,I.laid (t':=s.toks) (o:=.lst xs.reverse) (λb ob q=>Jb _ q) (Jd _) ?_,rfl,p'.at (Ext.new hn) (RD.newLst hS hn (RDs.rev ra)) (hS.new hn)⟩ (by rw[Jr,<- r.length];exact hz)
  refine⟨by rw[V6];exact hz,its.reverse,0,Vals.rev r,?_⟩
  rw[krv_pick];exact Jo _ rfl
 .cases hz
theorem CH{a st:Expr}{ma ms:EM}{p2 pos:Pos}(ha:SE X E a ma)(hs:SE X E st ms):SE X E (.Subscript a (.Slice none none (some st) p2) pos) (xP ma ms):=⟨
 aR (CD (CG (E:=E)) ha.out hs.out) λs H Q zq=>ex6 zq λw r S hr hS hp=>⟨w,r,S,hr,hS,hp.bind hS λd S1 w1 H1 v x1 q1 s1 p1=>
  ⟨w1,r,S1,hr.ext x1,s1,p1.bind s1 λe S2 w2 H2 u x2 q2 s2 p2=>by
   cases e with
   |int i=>
    by_cases hi:i = -1
    .subst hi;exact⟨q2.int,w2,S2,d,s2,RD.ext x2 d v q1,p2⟩
    .exfalso;revert p2
     show ¬az _ _ _ _ _ (match D.int i with | .int (-1)=>_|_=>_) _
     split
     .rename_i h;cases h;exact absurd rfl hi
     .exact λz=>z
   |_=>exact p2.elim⟩⟩⟩
end
section
variable{X:Cx}{E:XK}{a b:Expr}{es:List Expr}{ms:AM}{x:Str}{p pos:Pos}
omit X E a b es ms x p pos in
theorem t8{K:Frag}{w:Wd}{H:Hp}{S:Sto}{d:D}{v:V}{a:List D}(s:RS K w H S)(q:RD K w H d v)(h:iY S d=some a):∃p vs,v=.ref p/\H p=some (.lst vs)/\RDs K w H a vs:=by
 unfold iY at h;split at h
 .cases h;obtain⟨p,vs,e,z,r⟩:=q.lstI;exact⟨p,vs,e,z.1,r⟩
 .rename_i n;obtain⟨p,rfl,hp⟩:=q.refI;split at h
  .rename_i e;cases h;obtain⟨p',hp',vs,hv,r⟩:=s.obj _ _ e;rw[hp]at hp';cases hp';exact⟨p,vs,rfl,hv,r⟩
  .cases h
 .cases h
noncomputable def nG:Sto->D->D->Option D:=λS x y=>match iY S x,iY S y with
 |some a,some b=>if a.length+b.length<=sizeLine then some (.lst (a++b)) else none
 |_,_=>none
theorem Aa:OpR X (binaryOp .Add) (xO X.K E nG):=by
 rintro pins s σ H x y v u Q I rx ry ⟨w,S,d,e,hS,qd,qe,p⟩;obtain⟨z,hz,p'⟩:=p.of;clear p;unfold nG at hz;split at hz
 .rename_i a b h1 h2;split at hz
  .rename_i hl;cases hz;obtain⟨pa,xs,rfl,za,ra⟩:=t8 hS qd h1;obtain⟨pb,ys,rfl,zb,rb⟩:=t8 hS qe h2
   exact wG pins s σ H _ _ v u Q I rx ry ⟨pa,pb,xs,ys,rfl,rfl,za,zb,by rw[ra.length,rb.length];exact hl,λq hq=>p'.at (Ext.new hq) (RD.newLst hS hq (ra.append rb)) (hS.new hq)⟩
  .cases hz
 .cases hz
end
end PD
namespace ST
open PySem PyProof.Rows
variable{t:SetTable}{j:Nat}
def Ris(p:List Nat):Prop:=p.Pairwise (· < ·)
theorem lZ(xs:Array Nat)(h:Ris xs.toList)(j:Nat):∀(f lo hi:Nat),hi<=xs.size->lo<=hi->hi-lo<2^f->(∀i,i<lo->∀x,xs[i]?=some x->x<j)->(∀i,hi<=i->∀x,xs[i]?=some x->j<=x)->
  ∃k,SetTable.below.go xs j f lo hi=k/\k<=xs.size/\(∀i,i<k->∀x,xs[i]?=some x->x<j)/\∀i,k<=i->∀x,xs[i]?=some x->j<=x
 |0,lo,hi,h1,h2,h3,h4,h5=>by
  have e:lo=hi:=by simp at h3;omega
  exact⟨lo,rfl,by omega,h4,by rw[e];exact h5⟩
 |f+1,lo,hi,h1,h2,h3,h4,h5=>by
  unfold SetTable.below.go;by_cases hl:lo<hi
  .rw[Je hl]
   have hm:(lo+hi)/2<xs.size:=by omega
   have hp:2^(f+1)=2*2^f:=by rw[Nat.pow_succ,G8]
   have mono:∀a b x y,a<b->xs[a]?=some x->xs[b]?=some y->x<y:=λa b x y hab ea eb=>by
    obtain⟨ha,rfl⟩:=Yw.mp ea;obtain⟨hb,rfl⟩:=Yw.mp eb
    have:=(Zz.mp h) a b (by simpa using ha) (by simpa using hb) hab
    simpa using this
   have em:xs.getD ((lo+hi)/2) j=xs[(lo+hi)/2]:=by simp[Array.getD,hm]
   show ∃k,(if xs.getD ((lo+hi)/2) j<j then SetTable.below.go xs j f ((lo+hi)/2+1) hi else SetTable.below.go xs j f lo ((lo+hi)/2))=k/\_
   rw[em];by_cases hj:xs[(lo+hi)/2]<j
   .rw[Je hj]
    refine lZ xs h j f _ _ h1 (by omega) (by omega) (λi hii x ex=>?_) h5
    by_cases e:i=(lo+hi)/2
    .subst e;obtain⟨_,rfl⟩:=Yw.mp ex;exact hj
    .have:=mono i ((lo+hi)/2) x _ (by omega) ex (Y0 hm)
     omega
   .rw[Ji hj]
    refine lZ xs h j f _ _ (by omega) (by omega) (by omega) h4 (λi hii x ex=>?_)
    by_cases e:i=(lo+hi)/2
    .subst e;obtain⟨_,rfl⟩:=Yw.mp ex;omega
    .have:=mono ((lo+hi)/2) i _ x (by omega) (Y0 hm) ex
     omega
  .rw[Ji hl]
   have e:lo=hi:=by omega
   exact⟨lo,rfl,by omega,h4,by rw[e];exact h5⟩
theorem qr(xs:Array Nat)(h:Ris xs.toList)(j:Nat):SetTable.below xs j<=xs.size/\(∀i,i<SetTable.below xs j->∀x,xs[i]?=some x->x<j)/\∀i,SetTable.below xs j<=i->∀x,xs[i]?=some x->j<=x:=by
 obtain⟨k,e,a1,a2,a3⟩:=lZ xs h j xs.size 0 xs.size (Jd _) (Y2 _) (by rw[Nat.sub_zero];exact Nat.lt_two_pow_self) (λi hi=>absurd hi (Ge _)) λi hi x ex=>by have:=(Yw.mp ex).1;omega
 have e':SetTable.below xs j=k:=e;rw[e'];exact⟨a1,a2,a3⟩
abbrev gI(t:SetTable)(j:Nat):Prop:=t.place[SetTable.below t.place j]?≠some j
theorem Ab(h:Ris t.place.toList)(hj:gI t j):Ris (t.put j).1.place.toList:=by
 obtain⟨a1,a2,a3⟩:=qr t.place h j;show Ris (SetTable.insertAt t.place (SetTable.below t.place j) j).toList;rw[SetTable.toList_insertAt];unfold gI at hj;generalize SetTable.below t.place j=k at *;have h':t.place.toList.Pairwise (· < ·):=h
 have lo:∀a∈t.place.toList.take k,a<j:=λa ha=>by
  obtain⟨i,hi⟩:=U1.mp ha;rw[List.getElem?_take]at hi;split at hi
  .rename_i hik
   exact a2 i hik a (by rw[<- Yl];exact hi)
  .cases hi
 have up:∀b∈t.place.toList.drop k,j<b:=λb hb=>by
  obtain⟨i,hi⟩:=U1.mp hb;rw[Um,Yl]at hi;have hle:=a3 (k+i) (Nat.le_add_right _ _) b hi;rcases Wc j b with z|z
  .exact z
  .exfalso
   have e:b=j:=by omega
   subst e;cases i with
   |zero=>exact hj hi
   |succ i=>
    obtain⟨h1,e1⟩:=Yw.mp hi
    have hk:k<t.place.size:=by omega
    have q:=(Zz.mp h') k (k+(i+1)) (by simpa using hk) (by simpa using h1) (by omega)
    have q2:=a3 k (Jd _) _ (Y0 hk);simp only[Array.getElem_toList]at q;omega
 unfold Ris;rw[Q4];refine⟨h'.sublist (Uz _ _),Zv.mpr ⟨up,h'.sublist (List.drop_sublist _ _)⟩,λa ha b hb=>?_⟩;rcases Jq.mp hb with rfl|hb
 .exact lo a ha
 .exact Qt (lo a ha) (up b hb)
theorem jy(h:∀i,t.slot j≠.live i):gI t j:=λe=>by refine h (SetTable.below t.place j) ?_;unfold SetTable.slot;simp[e]
theorem mf(t:SetTable)(h:Int):∀(f:Nat)(p:SetTable.Probe)(j:Nat)(dm:Option Nat),(∀d,p.dummy=some d->gI t d)->SetTable.probe.go t (λ_=>h+1) h f p=some (.empty j dm)->gI t j/\∀d,dm=some d->gI t d
 |0,p,j,dm,_,e=>by cases e
 |f+1,p,j,dm,hd,e=>by
  unfold SetTable.probe.go at e
  have adv:∀q:SetTable.Probe,(t.advance q).dummy=q.dummy:=λq=>by unfold SetTable.advance;split<;>rfl
  cases es:t.slot p.j with
  |empty=>
   rw[es]at e;cases e
   exact⟨jy (λi z=>by rw[es]at z;cases z),hd⟩
  |dummy=>
   rw[es]at e;refine mf t h f _ j dm (λd hq=>?_) e;rw[adv]at hq;have hq':some p.j=some d:=hq;cases hq'
   exact jy (λi z=>by rw[es]at z;cases z)
  |live i=>
   rw[es]at e
   have hne:((h+1:Int) == h)=false:=by rw[V3];omega
   simp only[hne,Jy,Yp]at e
   exact mf t h f _ j dm (λd hq=>hd d (by rw[adv]at hq;exact hq)) e
theorem oR{h:Int}{b:Bool}(e:t.freeSlot h=some (j,b)):gI t j:=by
 unfold SetTable.freeSlot at e;split at e
 .rename_i k dm ep
  obtain⟨h1,h2⟩:=mf t h _ _ k dm (λd hd=>by cases hd) ep
  cases dm with
  |none=>cases e;exact h1
  |some d=>cases e;exact h2 d rfl
 .cases e
theorem iI(n:Nat):Ris (Array.range n).toList:=by unfold Ris;rw[Array.toList_range];exact List.pairwise_lt_range
theorem sF(h:Ris t.place.toList)(es:Array (Int×Value))(hh:Int)(x:Value):Ris (layNew t es hh x).2.1.place.toList/\(layNew t es hh x).2.1.led=t.led:=by
 unfold layNew;cases e:t.freeSlot hh with
 |none=>exact⟨iI _,rfl⟩
 |some r=>
  obtain⟨j,b⟩:=r;have hp:=Ab h (oR e);show Ris ((t.put j).1.orStandIn _).place.toList/\((t.put j).1.orStandIn _).led=_;unfold SetTable.orStandIn;split
  .exact⟨hp,rfl⟩
  .exact⟨iI _,rfl⟩
theorem xQ{mask finger moves:Nat}{led plain:Bool}{hs:Array Int}{o:Array Nat}(e:SetTable.laid mask finger moves led plain hs=some (t,o)):Ris t.place.toList/\t.led=led:=by
 unfold SetTable.laid at e;cases ec:SetTable.layClean mask hs with
 |none=>rw[ec]at e;cases e
 |some ow=>
  rw[ec]at e;cases e;refine⟨?_,rfl⟩;show Ris (List.toArray _).toList;unfold Ris;rw[Vn];refine List.Pairwise.filterMap (R:=(· < ·)) _ (λa a' hab b hb b' hb'=>?_) List.pairwise_lt_range;cases e1:ow.getD a none with
  |none=>rw[e1]at hb;cases hb
  |some u=>
   cases e2:ow.getD a' none with
   |none=>rw[e2]at hb';cases hb'
   |some u'=>
    rw[e1]at hb;rw[e2]at hb';cases hb;cases hb';exact hab
theorem oS(es:Array (Int×Value))(n:Nat):Ris (relayAll t es n).2.1.place.toList/\(relayAll t es n).2.1.led=t.led:=by
 unfold relayAll;cases e:t.relaid (es.map (·.1)) n with
 |none=>exact⟨iI _,rfl⟩
 |some r=>
  obtain⟨t',o⟩:=r;have:=xQ e;dsimp only;by_cases hc:(coversAll o es.size&&t'.fits (o.filterMap (es[·]?)).size)=true
  .rw[Je hc];exact this
  .rw[Ji hc];exact⟨iI _,rfl⟩
end ST
namespace ST
open PySem PySem.Spec PyProof.Rows
variable{h:Heap}{a I T:Addr}{S:Int→Bool}{n ep j:Nat}{es:Array (Int×Value)}{t:SetTable}{x:Value}{ps:List Nat}
noncomputable abbrev ik(prog:Program)(w:World):KeyKind prog w Int:=intKind prog w
noncomputable abbrev cg(w:World):Bool:=!(w.params.followText "set-order")
def SetA(prog:Program)(w:World)(h:Heap)(a:Addr)(S:Int->Bool)(n:Nat):Prop:=
 ∃o es ep t,h.get? a=some o/\o.ExactSet/\o.data=.set es ep t/\ElemsOf (ik prog w) es.toList/\(∀k,S k=true↔∃e∈es.toList,(ik prog w).is k e.2=true)/\es.size<scanBound/\t.fits es.size=true/\es.size=n/\Ris t.place.toList/\t.led=cg w
section
variable{prog:Program}{w:World}{A:Around}{E:Value->Shared->Prop}{s:Shared}
theorem SetA.keep{h':Heap}(x:SetA prog w h a S n)(k:∀o,h.get? a=some o->h'.get? a=some o):SetA prog w h' a S n:=by obtain⟨o,es,ep,t,ho,r⟩:=x;exact⟨o,es,ep,t,k o ho,r⟩
theorem SetA.to{S':Int->Bool}{n':Nat}(x:SetA prog w h a S n)(e:∀k,S k=S' k)(en:n=n'):SetA prog w h a S' n':=by have:=funext e;subst this;subst en;exact x
theorem SetA.put{o:Obj}{es':Array (Int×Value)}{t':SetTable}{S:Int->Bool}(ho:h.get? a=some o)(hx:o.ExactSet)(hd:o.data=.set es ep t)(hel:ElemsOf (ik prog w) es'.toList)
  (hm:∀k,S k=true↔∃e∈es'.toList,(ik prog w).is k e.2=true) (hb:es'.size<scanBound) (hf:t'.fits es'.size=true) (hr:Ris t'.place.toList) (hl:t'.led=cg w):
  (h.update a (Obj.putSet es' t')).get? a=some { o with data:=.set es' (ep+1) t' }/\SetA prog w (h.update a (Obj.putSet es' t')) a S es'.size:=by
 have g:=(SetOf_store (knd:=ik prog w) ho hx hd hel hm hb hf).1;exact⟨g,_,es',_,t',g,hx,rfl,hel,hm,hb,hf,rfl,hr,hl⟩
theorem qu{f:Bool->Sem Unit}(hf0:∀(b:Bool)(s1:Shared)(P:Unit->Shared->Prop),P () s1->wpAny (model prog w) A (f b) P E s1){a:Addr}{o:Obj}{es e1:Array (Int×Value)}{ep:Nat}{t t2:SetTable}{S:Int->Bool}{dm:Bool}{R:Option Bool->Shared->Prop}
  (ho:s.heap.get? a=some o) (hx:o.ExactSet) (hd:o.data=.set es ep t) (hel:ElemsOf (ik prog w) e1.toList) (hm:∀k,S k=true↔∃e∈e1.toList,(ik prog w).is k e.2=true) (hb:e1.size<scanBound) (hf:t2.fits e1.size=true) (hr:Ris t2.place.toList) (hl:t2.led=cg w)
  (h:∀h',Heap.SameBut a s.heap h'->SetA prog w h' a S e1.size->R (some true) { s with heap:=h' }):
  wpAny (model prog w) A (do
   storeSet a e1 t2
   if (!dm&&t2.tooFull)=true then do
     f (relayAll t2 e1 (SetTable.grown e1.size)).2.2
     storeSet a (relayAll t2 e1 (SetTable.grown e1.size)).1 (relayAll t2 e1 (SetTable.grown e1.size)).2.1
     pure (some true)
    else pure (some true)) R E s:=by
 obtain⟨g1,a1⟩:=SetA.put ho hx hd hel hm hb hf hr hl;have k1:=Yt s.heap a (Obj.putSet e1 t2);refine J9 (wpAny_storeSet_of ho hd (Z3 (λ_=>?_) λ_=>Ja (h _ k1 a1)) (G4 hb));have q1:=relayAll_perm t2 e1 (SetTable.grown e1.size);have q2:=relayAll_fits t2 e1 (SetTable.grown e1.size);have q3:=oS (t:=t2) e1 (SetTable.grown e1.size);generalize relayAll t2 e1 (SetTable.grown e1.size)=z at q1 q2 q3;obtain⟨e2,t3,gw⟩:=z
 have hz:e2.size=e1.size:=by simpa using q1.length_eq
 have hb2:e2.size<scanBound:=by omega
 refine J9 (hf0 _ _ _ (J9 (wpAny_storeSet_of g1 rfl (Ja ?_) (G4 hb2))));have a2:=(SetA.put g1 hx rfl (hel.perm q1) (λk=>(hm k).trans ⟨λ⟨e,i,j⟩=>⟨e,q1.mem_iff.mpr i,j⟩,λ⟨e,i,j⟩=>⟨e,q1.mem_iff.mp i,j⟩⟩) hb2 q2 q3.1 (q3.2.trans hl)).2;rw[hz]at a2;exact h _ (k1.trans (Yt _ a _)) a2
theorem qw{k:Int}{Q:Bool->Shared->Prop}(hk:(ik prog w).is k x=true)(hx:x.scannable=true)(hS:SetA prog w s.heap a S n)(hn:n+1<scanBound)
  (h:∀h',Heap.SameBut a s.heap h'->SetA prog w h' a (λj=>S j||decide (j=k)) (if S k then n else n+1)->Q (!S k) { s with heap:=h' }):
  wpAny (model prog w) A (setAddHashed a x ((ik prog w).hash k)) Q E s:=by
 obtain⟨o,es,ep,t,ho,hex,hd,hel,hm,hb,hf,e0,hr,hl⟩:=hS;subst e0;unfold setAddHashed setAddHashedIn;refine Yi (J9 (Wt ho hd hf ?_));dsimp only;rw[byScan_of hx hb hel,Je rfl];unfold setAddByScan;refine J9 (J9 (Zj (J9 (wpAny_setScan_of hk ho hd hf hel ?_))));cases hi:es.toList.findIdx? (λe=>(ik prog w).is k e.2) with
 |some j=>
  obtain⟨j1,j2,_⟩:=Vt.mp hi;have y:S k=true:=(hm k).mpr ⟨_,Zn j1,j2⟩
  have z:=h s.heap (Heap.SameBut.refl a s.heap) ⟨o,es,ep,t,ho,hex,hd,hel,λi=>by
   rw[U8,Vj,<- hm i]
   exact⟨λc=>c.elim id λc=>by rw[c];exact y,.inl⟩,hb,hf,by rw[y];rfl,hr,hl⟩
  rw[y]at z;exact Ja (Ja z)
 |none=>
  have y:S k=false:=by rw[<- Bool.not_eq_true,hm k];rintro⟨e,i,c⟩;have:=List.findIdx?_eq_none_iff.mp hi e i;rw[c]at this;cases this
  have p1:=layNew_perm t es ((ik prog w).hash k) x;have p2:=layNew_fits t es ((ik prog w).hash k) x;have p3:=sF (t:=t) hr es ((ik prog w).hash k) x;dsimp only;generalize layNew t es ((ik prog w).hash k) x=z at p1 p2 p3 ⊢;obtain⟨e1,t1,dm,gw⟩:=z;dsimp only at p1 p2 p3 ⊢;rw[Ql]at p1;have el:=(hel.push hk hx).perm p1;have mm:∀i,(S i||decide (i=k))=true↔∃e∈e1.toList,(ik prog w).is i e.2=true:=mem_push_iff hk hm p1
  have z1:e1.size=es.size+1:=by simpa using p1.length_eq
  have b1:e1.size<scanBound:=by omega
  have fin:∀h',Heap.SameBut a s.heap h'->SetA prog w h' a (λi=>S i||decide (i=k)) e1.size->Q true { s with heap:=h' }:=λh' c1 c2=>by
   have:=h h' c1;rw[y]at this
   exact this (by rw[z1]at c2;exact c2)
  have gv:∀(b:Bool)(s1:Shared)(P:Unit->Shared->Prop),P () s1->wpAny (model prog w) A (match b with|true=>rule "set.scan.the-table-gave-way" |false=>pure ()) P E s1:=λb s1 P q=>by
   cases b
   .exact Ja q
   .exact Zj q
  have off:∀b:Bool,(if b=true then t1 else { t1 with plain:=false }).fits e1.size=true/\Ris (if b=true then t1 else { t1 with plain:=false }).place.toList/\(if b=true then t1 else { t1 with plain:=false }).led=cg w:=λb=>by
   cases b
   .exact⟨SetTable.fits_plain_off p2,p3.1,p3.2.trans hl⟩
   .exact⟨p2,p3.1,p3.2.trans hl⟩
  refine J9 (gv gw _ _ (Z3 (λ_=>J9 ?_) λ_=>J9 (Ja ?_)))
  .rw[hashByValue_scannable 8 hx];refine Ja (qu gv ho hex hd el mm b1 (off _).1 (off _).2.1 (off _).2.2 λh' c1 c2=>?_);exact Ja (fin h' c1 c2)
  .exact qu gv ho hex hd el mm b1 (off true).1 (off true).2.1 (off true).2.2 λh' c1 c2=>Ja (fin h' c1 c2)
end
noncomputable def ins1(ks:List Int)(x:Int):List Int:=if ks.contains x=true then ks else ks++[x]
noncomputable def uniqZ(ns:List Int):List Int:=ns.foldl ins1 []
theorem mn(ks:List Int)(x j:Int):(ins1 ks x).contains j=(ks.contains j||decide (j=x)):=by
 unfold ins1;split
 .rename_i h;by_cases e:j=x
  .subst e;rw[h];rfl
  .simp[e]
 .by_cases e:j=x<;>simp[e]
theorem iq(ks:List Int)(x:Int):(ins1 ks x).length=if ks.contains x=true then ks.length else ks.length+1:=by unfold ins1;split<;>simp
theorem Ac{ks:List Int}(h:ks.Nodup)(x:Int):(ins1 ks x).Nodup:=by
 unfold ins1;split
 .exact h
 .rename_i c;rw[Vi]
  refine⟨h,by simp,λa ha b hb=>?_⟩
  rw[Jv.mp hb];rintro rfl
  exact c (by simpa using ha)
theorem t9:∀(ns ks:List Int),ks.Nodup->(ns.foldl ins1 ks).Nodup
 |[],_,h=>h
 |x::ns,ks,h=>t9 ns _ (Ac h x)
theorem qA:∀(ns ks:List Int)(j:Int),j∈ns.foldl ins1 ks↔j∈ks\/j∈ns
 |[],ks,j=>by simp
 |x::ns,ks,j=>by rw[V9,qA ns];have:=mn ks x j;rw[Zu]at this;simp only[List.contains_iff_mem,U8,Vj]at this;rw[this,Jq,or_assoc]
theorem uniqZ_nd(ns:List Int):(uniqZ ns).Nodup:=t9 ns [] .nil
theorem uniqZ_mem(ns:List Int)(j:Int):j∈uniqZ ns↔j∈ns:=by unfold uniqZ;rw[qA];simp
theorem fold_len:∀(ns ks:List Int),(ns.foldl ins1 ks).length<=ks.length+ns.length
 |[],ks=>by simp
 |x::ns,ks=>by have h:=fold_len ns (ins1 ks x);have h2:=iq ks x;rw[V9,Jk];split at h2<;>omega
section
variable{prog:Program}{w:World}{A:Around}{E:Value->Shared->Prop}
noncomputable abbrev hasZ(ks:List Int):Int->Bool:=λj=>ks.contains j
theorem qB{R:Result->Shared->Prop}{l:Addr}{its:Array Value}{ns:List Int}(hi:IntsAre its.toList ns)(hh:A.in1.handled=none)(h1:a≠I)(h2:a≠l)(h3:l≠I)(hb:its.size+1<scanBound):∀(k i:Nat)(s:Shared)(ks:List Int),its.size-i=k->i<=its.size->ks.length<=i->
  s.heap.IsListIter I l i->s.heap.IsList l its->SetA prog w s.heap a (hasZ ks) ks.length->
  (∀h' tk,(∀b o,b≠a->b≠I->s.heap.get? b=some o->h'.get? b=some o)->SetA prog w h' a (hasZ ((ns.drop i).foldl ins1 ks)) ((ns.drop i).foldl ins1 ks).length->R (.ok (.ret .none)) { s with heap:=h',toks:=tk })->
  codeAny (model prog w) A (.builtin "set.update.loop" ⟨[.ref a,.ref I],[]⟩) R s
 |0,i,s,ks,hk,hin,hn,it,hl,hS,hR=>by
  have e:i=its.size:=by omega
  have hlen:ns.length=its.size:=by rw[<- Jz];exact hi.length.symm
  rw[List.drop_of_length_le (by omega)]at hR
  refine Yy Wl ?_;rw[Z9 Q6 _]
  refine J9 (m:=pyNext (.ref I)) (Vz hh it hl (by rw[e];simp) λh' he=>Ja (hR h' s.toks (λb o _ c e=>he b o c e) (hS.keep λo e=>he a o h1 e)))
 |k+1,i,s,ks,hk,hin,hn,it,hl,hS,hR=>by
  have hlt:i<its.size:=by omega
  have hlen:ns.length=its.size:=by rw[<- Jz];exact hi.length.symm
  obtain⟨t,e⟩:=hi.int_at i its[i] (by simp[hlt])
  have hd:ns.drop i=ns.getD i 0::ns.drop (i+1):=by rw[Yz (by omega),Jx,Jc (by omega)];rfl
  rw[hd,V9]at hR;refine Yy Wl ?_;rw[Z9 Q6 _]
  refine J9 (m:=pyNext (.ref I)) (Vq it hl (x:=.int (ns.getD i 0) t) (by rw[<- e];simp[hlt]) λh1' it1 sb1=>?_)
  refine J9 (m:=holding [Value.int (ns.getD i 0) t] (setAdd a (.int (ns.getD i 0) t))) (Yi ?_);unfold setAdd;refine Yi (J9 ((ik prog w).pyHash (k:=ns.getD i 0) (intKind_is _ _ _ _) ?_))
  refine qw (intKind_is _ _ _ _) rfl (hS.keep λo e=>(sb1.2 a h1).trans e) (by omega) λh2' sb2 hS2=>Ja ⟨W3 Q6 _,?_⟩
  refine qB hi hh h1 h2 h3 hb k (i+1) _ (ins1 ks (ns.getD i 0)) (by omega) (by omega) (by rw[iq];split<;>omega) ?_ ?_ (hS2.to (λj=>(mn _ _ _).symm) (by rw[iq])) λh' tk kp hS'=>?_
  .exact it1.extBut sb2.extBut (Ne.symm h1)
  .exact(hl.extBut sb1.extBut h3).extBut sb2.extBut (Ne.symm h2)
  .exact hR h' tk (λb o c1 c2 e=>kp b o c1 c2 ((sb2.2 b c1).trans ((sb1.2 b c2).trans e))) hS'
theorem ua{s:Shared}(x:Value){P:Value->Shared->Prop}(h:P (.ref s.heap.objs.size) { s with heap:=s.heap.push { cls:=.type "set",dict:=none,data:=.set #[] 0 (.fresh 0 0 (cg w)) } }):
  codeAny (model prog w) A (.call (.builtin "set.__new__") ⟨[.type "set",x],[]⟩) (wants P E) s:=by
 refine codeAny_of_tree (?_:wpAny _ A.in1 (do checkBuiltinCall "set.__new__" ⟨[.type "set",x],[]⟩;again (.builtin "set.__new__" ⟨[.type "set",x],[]⟩)) _ _ s)
 refine J9 (Wq (F.newCall_set_1 x) (Ja ⟨W3 F.plain_set_new _,Yy F.entry_set_new ?_⟩));rw[Z9 F.plain_set_new _];have y:=sub_set_self;unfold Builtin.«set.__new__» Builtin.Frozenset.newClass;cases s;dsimp only
 wp_walk
 refine wpAny_askSetting (Ja ?_);simp only[newObj];exact J9 (wpAny_alloc (Ja (Ja h)))
set_option maxHeartbeats 4000000 in
theorem call_set{s:Shared}{l:Addr}{its:Array Value}{ns:List Int}{Q:Value->Shared->Prop}(hh:A.handled=none)(hl:s.heap.IsList l its)(hi:IntsAre its.toList ns)(hb:its.size+1<scanBound)
  (h:∀h' tk,SetA prog w h' s.heap.objs.size (hasZ (uniqZ ns)) (uniqZ ns).length->(∀b o,s.heap.get? b=some o->h'.get? b=some o)->Q (.ref s.heap.objs.size) { s with heap:=h',toks:=tk }):
  wpAny (model prog w) A (call (.type "set") [.ref l]) Q E s:=by
 have q1:=F.called_set.made;have q2:=F.called_set.sub;have q3:=F.called_set.notType;have q4:=F.called_set.canCreate;have q5:=F.typeCall_set_1 (.ref l);obtain⟨c,r,q6⟩:=F.called_set.mro;refine U5 (codeAny_of_tree (?_:wpAny _ _ (callAny (.type "set") _) _ _ _))
 refine Ja ⟨Vd _ (by decide +kernel),Yy F.entry_type_call ?_⟩
 rw[Around.under_plain (weight_type_call_type "set" [.ref l] []) rfl]
 repeat (any_goals (first|assumption|wp_step))
 refine Qr (ua (.ref l) (E:=E) (P:=λv s1=>v=.ref s.heap.objs.size/\s1={ s with heap:=s.heap.push { cls:=.type "set",dict:=none,data:=.set #[] 0 (.fresh 0 0 (cg w)) } }) ⟨rfl,rfl⟩) λr1 s1 z=>?_
 cases r1 with
 |error e=>exact z
 |ok f1=>
  cases f1 with
  |ret v=>
   obtain⟨rfl,rfl⟩:=z;have g0:(s.heap.push { cls:=.type "set",dict:=none,data:=.set #[] 0 (.fresh 0 0 (cg w)) }).get? s.heap.objs.size=some { cls:=.type "set",dict:=none,data:=.set #[] 0 (.fresh 0 0 (cg w)) }:=Jo _ rfl
   have ty:Shared.TypeIs { s with heap:=s.heap.push { cls:=.type "set",dict:=none,data:=.set #[] 0 (.fresh 0 0 (cg w)) } } (.ref s.heap.objs.size) "set":=⟨_,g0,rfl⟩
   have q7:=F.called_set.init.lookup;have q8:=F.called_set.init.bind (.ref s.heap.objs.size)
   repeat (any_goals (first|assumption|wp_step))
   refine Qr (Wz (R:=wants (λv s2=>v=.none/\∃h' tk,s2={ s with heap:=h',toks:=tk }/\SetA prog w h' s.heap.objs.size (hasZ (uniqZ ns)) (uniqZ ns).length/\∀b o,s.heap.get? b=some o->h'.get? b=some o) E) F.called_set.init.plain F.entry_set_init (check_set_init_1 ty ?_)) λr2 s2 z2=>?_
   .obtain⟨⟨oc,od,dt,os⟩,hol,c1,nn,c2⟩:=hl;cases c1;cases c2;have hol':=Jb { cls:=.type "set",dict:=none,data:=.set #[] 0 (.fresh 0 0 (cg w)) } hol
    have u1:=F.sub_list_set;have u2:=F.sub_list_frozenset
    have u3:(Value.type "list" == Value.type "dict")=false:=by decide
    have hl1:(s.heap.push { cls:=.type "set",dict:=none,data:=.set #[] 0 (.fresh 0 0 (cg w)) }).IsList l its:=⟨_,hol',rfl,nn,rfl⟩
    have ll:l<s.heap.objs.size:=Jn hol;have sz:(s.heap.push { cls:=.type "set",dict:=none,data:=.set #[] 0 (.fresh 0 0 (cg w)) }).objs.size=s.heap.objs.size+1:=Zb ..
    unfold Builtin.«set.__init__» noKeywords Builtin.Frozenset.updateFrom;generalize hPI:pyIter=PI
    wp_walk
    subst hPI;refine Qj hl1 (J9 (Ve ?_))
    refine qB hi (by simp[hh]) (by rw[sz];exact Ju (Wf _)) (Qg ll) (by rw[sz];exact Ju (Zq ll)) hb its.size 0 _ [] (by omega) (Y2 _) (Y2 _) ⟨_,Jo _ rfl,rfl,rfl⟩ (hl1.push _) ?_ λh' tk kp hS=>?_
    .exact⟨_,#[],0,.fresh 0 0 (cg w),Jb _ g0,⟨rfl,rfl,rfl⟩,rfl,λe he=>by simp at he,λk=>by simp[hasZ],by decide,rfl,rfl,List.Pairwise.nil,rfl⟩
    .rw[Gh]at hS;refine Ja (Ja ⟨rfl,h',tk,rfl,hS,λb o e=>kp b o ?_ ?_ (Jb _ (Jb _ e))⟩)
     .exact Ju (Jn e)
     .have:=Jn e;rw[sz];exact Ju (Zq this)
   .cases r2 with
    |error e=>exact z2
    |ok f2=>
     cases f2 with
     |ret v=>
      obtain⟨rfl,h',tk,rfl,hS,kp⟩:=z2
      repeat (any_goals (first|assumption|wp_step))
      exact h h' tk hS kp
     |_=>exact z2.elim
  |_=>exact z.elim
end
theorem dU:Slot "set_iterator" "__next__" "set_iterator.__next__":=
 .of (owner:="set_iterator") (n:="__next__") (by rw[typeLookup_type,U2];kernel_rfl) (by decide +kernel) (by decide +kernel) (by decide +kernel) (.inl (by decide +kernel)) (by rw[isSubtype_type];kernel_rfl)
theorem uc:Slot "set_iterator" "__iter__" "set_iterator.__iter__":=
 .of (owner:="set_iterator") (n:="__iter__") (by rw[typeLookup_type,U2];kernel_rfl) (by decide +kernel) (by decide +kernel) (by decide +kernel) (.inl (by decide +kernel)) (by rw[isSubtype_type];kernel_rfl)
theorem jz:entryFor table "set_iterator.__next__" = some Builtin.«set_iterator.__next__»:=entryFor_of_tree (by kernel_rfl)
theorem xR:entryFor table "set_iterator.__iter__" = some Builtin.«dict_keyiterator.__iter__»:=entryFor_alias (id':="dict_keyiterator.__iter__") (by kernel_rfl) rfl (by decide +kernel) (by kernel_rfl)
theorem sH:entryFor table "set.__iter__" = some Builtin.«frozenset.__iter__»:=entryFor_alias (id':="frozenset.__iter__") (by kernel_rfl) rfl (by decide +kernel) (by kernel_rfl)
theorem kQ(a:Value):argsOk "set_iterator.__next__" ⟨[a],[]⟩:=by unfold argsOk;kernel_rfl
theorem Ad(a:Value):argsOk "set_iterator.__iter__" ⟨[a],[]⟩:=by unfold argsOk;kernel_rfl
noncomputable def sl(p:Array Nat):Nat->Nat
 |0=>0
 |j+1=>p.getD j 0+1
theorem below_at{p:Array Nat}(h:Ris p.toList)(hj:j<=p.size):SetTable.below p (sl p j)=j:=by
 obtain⟨a1,a2,a3⟩:=qr p h (sl p j);generalize SetTable.below p (sl p j)=k at *
 have mono:∀a b (ha:a<p.size) (hb:b<p.size),a<b->p[a]<p[b]:=λa b ha hb hab=>by
  have q:=(Zz.mp h) a b (by simpa using ha) (by simpa using hb) hab
  simp only[Array.getElem_toList]at q;exact q
 cases j with
 |zero=>
  rcases Nat.eq_zero_or_pos k with e|e
  .exact e
  .have:=a2 0 e p[0] (Y0 (by omega))
   exact absurd this (Ge _)
 |succ j=>
  have hj':j<p.size:=hj
  have es:sl p (j+1)=p[j]+1:=by show p.getD j 0+1=_;rw[Uq,Y0 hj'];rfl
  rw[es]at a2 a3;rcases Nat.lt_trichotomy k (j+1) with z|z|z
  .have:=a3 j (by omega) p[j] (Y0 hj')
   omega
  .exact z
  .have hk:j+1<p.size:=by omega
   have h1:=a2 (j+1) z p[j+1] (Y0 hk);have h2:=mono j (j+1) hj' hk (Wf _);omega
theorem mq{α:Type}(l:List α)(i:Nat)(h:i<l.length):([l[i]]++l.eraseIdx i).Perm l:=by
 have e:l=l.take i++l[i]::l.drop (i+1):=by rw[<- Yz h,Qz]
 rw[List.eraseIdx_eq_take_drop_succ];refine List.Perm.trans ?_ (List.Perm.of_eq e.symm);show(l[i]::(l.take i++l.drop (i+1))).Perm _;exact List.perm_middle.symm
theorem ud{α:Type}(f:Nat->Nat):∀(n k:Nat)(l:List α)(out:Array α),l.length=n->(pickOrder.go f n k l out).toList.Perm (out.toList++l)
 |0,k,l,out,h=>by have:l=[]:=Zw.mp h;subst this;simp[pickOrder.go]
 |n+1,k,l,out,h=>by
  have hlt:f k%l.length<l.length:=Nat.mod_lt _ (by omega)
  unfold pickOrder.go;rw[Jc hlt];dsimp only
  refine(ud f n (k+1) _ _ (by rw[Uw hlt];omega)).trans ?_
  rw[Ql,Z8];refine List.Perm.append_left _ ?_;exact mq l _ hlt
theorem vN{α:Type}(f:Nat->Nat)(xs:Array α):(pickOrder f xs).toList.Perm xs.toList:=by
 have:=ud f xs.size 0 xs.toList #[] (by simp)
 simpa[pickOrder] using this
section
variable{prog:Program}{w:World}{A:Around}{E:Value->Shared->Prop}{s:Shared}
noncomputable abbrev txt(w:World):Bool:=w.params.followText "set-order"
def i7(h:Heap)(a:Addr)(es:Array (Int×Value))(ep:Nat)(t:SetTable):Prop:=(∃o,h.get? a=some o/\o.ExactSet/\o.data=.set es ep t)/\t.fits es.size=true/\Ris t.place.toList
theorem i7.keep{h':Heap}(x:i7 h a es ep t)(k:∀o,h.get? a=some o->h'.get? a=some o):i7 h' a es ep t:=by obtain⟨⟨o,e,r⟩,r2⟩:=x;exact⟨⟨o,k o e,r⟩,r2⟩
theorem i7.type(x:i7 s.heap a es ep t):s.TypeIs (.ref a) "set":=by obtain⟨⟨o,e,r,_⟩,_⟩:=x;exact⟨o,e,r.1⟩
noncomputable def kH(w:World)(a:Addr)(ep:Nat)(es:Array (Int×Value)):Array (Int×Value):=if txt w=true then pickOrder (w.params.setOrder a ep) es else es
noncomputable def slA(w:World)(t:SetTable)(j:Nat):Nat:=if txt w=true then 0 else sl t.place j
theorem sJ{Q:Bool->Shared->Prop}(h:Q (txt w) s):wpAny (model prog w) A setsByText Q E s:=by unfold setsByText;exact J9 (wpAny_askSetting (Ja h))
theorem xT{Q:Option (Value×Nat)->Shared->Prop}(hS:i7 s.heap a es ep t)(hl:t.led=cg w)(hp:txt w=true\/(!t.plain&&decide (es.size>1))=false)(hj:j<=es.size)
  (h:Q (((kH w a ep es)[j]?).map λe=>(e.2,slA w t (j+1))) s):wpAny (model prog w) A (setNext a (slA w t j) j ep) Q E s:=by
 obtain⟨⟨o,ho,hx,hd⟩,hf,hr⟩:=hS;unfold setNext;refine J9 (Wt ho hd hf ?_);dsimp only;refine J9 (sJ ?_);refine Z3 (λc=>?_) λc=>?_
 .refine Z3 (λz=>by simp at z) λ_=>?_
  refine J9 ?_;unfold setWalk;refine J9 (Wt ho hd hf ?_);dsimp only;refine J9 (sJ ?_);rw[Je c];refine J9 (wpAny_askSetting (Ja (Ja ?_)));have e1:kH w a ep es=pickOrder (w.params.setOrder a ep) es:=Je c;have e2:∀i,slA w t i=0:=λi=>Je c;rw[e1,e2 (j+1)]at h;rw[e2 j];exact h
 .have c':txt w=false:=by simpa using c
  have nd:(!t.plain&&decide (es.size>1))=false:=hp.resolve_left c;refine Z3 (λz=>?_) λ_=>?_
  .rw[show(!t.plain&&decide (es.size>1))=true from z]at nd;cases nd
  have led:t.led=true:=by rw[hl];show(!(txt w))=true;rw[c'];rfl
  have e1:kH w a ep es=es:=Ji c;have e2:∀i,slA w t i=sl t.place i:=λi=>Ji c
  have hz:t.place.size=es.size:=by simp only[SetTable.fits,Yd,beq_iff_eq]at hf;exact hf.1
  rw[e1,e2]at h;rw[e2];obtain⟨mk,pl,dm,fg,ld,mv,pn⟩:=t;dsimp only at led hz hr h ⊢;subst led;refine J9 (Wq (a:=()) rfl (Ja ?_))
  rw[below_at hr (by omega)]
  rcases Wc j es.size with g|g
  .rw[Y0 g,Y0 (by omega)]
   rw[Y0 g]at h
   have:sl pl (j+1)=pl[j]+1:=by show pl.getD j 0+1=_;rw[Uq,Y0 (by omega)];rfl
   rw[this]at h;exact h
  .rw[Vu (by omega)]
   rw[Vu (by omega)]at h
   exact h
theorem uf{c:Value}{vs:Array Value}(g:h.get? I=some { cls:=c,data:=.fields vs })(i:Nat)(x:Value):(h.update I (Obj.mapFields (·.setIfInBounds i x))).get? I=some { cls:=c,data:=.fields (vs.setIfInBounds i x) }:=Zs _ g rfl
def SIt(h:Heap)(I a:Addr)(x:Value)(i n ep:Nat):Prop:=h.get? I=some { cls:=.type "set_iterator",data:=.fields #[x,.int i 0,.ref a,.int n 0,.int ep 0] }
theorem SIt.type{i:Nat}(h:SIt s.heap I a x i n ep):s.TypeIs (.ref I) "set_iterator":=⟨_,h,rfl⟩
theorem Ae{e:Int×Value}{Q:Option Value->Shared->Prop}(hI:SIt s.heap I a (.int (slA w t j:Nat) 0) j es.size ep)(hS:i7 s.heap a es ep t)(hl:t.led=cg w)(hp:txt w=true\/(!t.plain&&decide (es.size>1))=false)(hj:j<es.size)
  (he:(kH w a ep es)[j]?=some e) (h:∀h',SIt h' I a (.int (slA w t (j+1):Nat) 0) (j+1) es.size ep->Heap.SameBut I s.heap h'->Q (some e.2) { s with heap:=h' }):wpAny (model prog w) A (pyNext (.ref I)) Q E s:=by
 obtain⟨⟨o,ho,hx,hd⟩,hf,hr⟩:=id hS;unfold pyNext;refine J9 (Qn (Yr (name:=Str.ofString "__next__") hI.type dU (Yo dU hI.type jz ?_ (kQ _))))
 unfold Builtin.«set_iterator.__next__»;refine J9 (m:=slotArgs _ _ _) (Ja (J9 (Ug hI rfl ?_)))
 refine J9 (m:=setEntries a) (Wj ho hd hf (Z3 (λz=>absurd z (by simp)) λ_=>?_))
 dsimp only;simp only[Q8]
 refine J9 (xT hS hl hp (by omega) ?_)
 rw[he];dsimp only[Option.map_some]
 refine J9 (Zr hI rfl (by simp) ?_)
 have g1:=uf hI 0 (rawInt (slA w t (j+1)))
 refine J9 (Zr g1 rfl (by simp) (Ja ⟨e.2,rfl,Ja (h _ ?_ ((Yt ..).trans (Yt ..)))⟩))
 exact uf g1 1 (rawInt (j+1))
theorem A5{α:Type}{Q:α->Shared->Prop}(hh:A.handled=none)(h:∀(e:Addr) h',(∀b o,s.heap.get? b=some o->h'.get? b=some o)->(∃o,h'.get? e=some o/\o.cls=.type "StopIteration")->E (.ref e) { s with heap:=h' }):
  wpAny (model prog w) A (newExc (.type "StopIteration") [] >>= λx=>raiseNew (α:=α) x) Q E s:=by
 refine J9 ?_;simp only[newExc,newTuple]
 refine J9 (Y9 (J9 (m:=firstArgMember _ _) (Wq (a:=Value.none) (by first|rfl|(simp only[firstArgMember];rfl)) (Y9 ?_ (by size_fits)))) (by size_fits))
 simp only[raiseNew];refine J9 (wpAny_handled ?_);rw[hh];exact J9 (Ja (wpAny_throw (h _ _ (λb o e=>Jb _ (Jb _ e)) ⟨_,Jo _ rfl,rfl⟩)))
theorem Af{Q:Option Value->Shared->Prop}(hh:A.handled=none)(hI:SIt s.heap I a (.int (slA w t es.size:Nat) 0) es.size es.size ep)(hS:i7 s.heap a es ep t)(hl:t.led=cg w)(hp:txt w=true\/(!t.plain&&decide (es.size>1))=false)(hz:(kH w a ep es).size=es.size)
  (h:∀h',(∀b o,b≠I->s.heap.get? b=some o->h'.get? b=some o)->Q none { s with heap:=h' }):wpAny (model prog w) A (pyNext (.ref I)) Q E s:=by
 obtain⟨⟨o,ho,hx,hd⟩,hf,hr⟩:=id hS;unfold pyNext;refine J9 (Qn (Yr (name:=Str.ofString "__next__") hI.type dU (Yo dU hI.type jz ?_ (kQ _))))
 unfold Builtin.«set_iterator.__next__»;refine J9 (m:=slotArgs _ _ _) (Ja (J9 (Ug hI rfl ?_)))
 refine J9 (m:=setEntries a) (Wj ho hd hf (Z3 (λz=>absurd z (by simp)) λ_=>?_))
 dsimp only;simp only[Q8];refine J9 (xT hS hl hp (Jd _) ?_)
 rw[Vu (by omega)]
 refine J9 (Zr hI rfl (by simp) ?_)
 refine A5 (by simp[hh]) λe h' kp ty=>?_
 refine J9 (W9 (T:="StopIteration") (b:=true) ty Ue (Ja (h _ λb o c e=>kp b o (((Yt ..).2 b c).trans e))))
end
section
variable{prog:Program}{w:World}{A:Around}{E:Value->Shared->Prop}{s:Shared}
theorem CI{src:Source}{Q:Nat->Shared->Prop}(hn:n≠0)(h:∀i d,i<n->Q i { s with drawn:=d }):wpAny (model prog w) A (choose src n) Q E s:=
 λ_ _ _=>⟨hn,h _ _ (Nat.mod_lt _ (Nat.pos_of_ne_zero hn))⟩
theorem draws{α:Type}:∀(n:Nat)(xs:List α)(s:Shared)(Q:List α->Shared->Prop),xs.length=n->(∀ys d,ys.Perm xs->Q ys { s with drawn:=d })->wpAny (model prog w) A (drawOrder n xs) Q E s
 |0,xs,s,Q,hl,h=>by have:xs=[]:=Zw.mp hl;subst this;exact Ja (h [] s.drawn (List.Perm.refl _))
 |n+1,[],s,Q,hl,h=>by simp at hl
 |n+1,x::xs,s,Q,hl,h=>by
  unfold drawOrder
  refine J9 (CI (by simp) λi d hi=>?_)
  rw[Jc hi];dsimp only
  refine J9 (draws n _ _ _ (by rw[Uw hi];omega) λys d' hp=>Ja (h _ d' ?_))
  exact(List.Perm.cons _ hp).trans (mq _ _ hi)
def Plc(h:Heap)(T:Addr)(ps:List Nat):Prop:=∃o,h.get? T=some o/\∃k,o.data=.seq (ps.map λ(i:Nat)=>rawInt i).toArray k
theorem sM{p:Nat}{e:Int×Value}{Q:Option Value->Shared->Prop}(hI:SIt s.heap I a (.ref T) j es.size ep)(hS:i7 s.heap a es ep t)(hT:Plc s.heap T ps)(hp:ps[j]?=some p)(he:es[p]?=some e)
  (h:∀h',SIt h' I a (.ref T) (j+1) es.size ep->Heap.SameBut I s.heap h'->Q (some e.2) { s with heap:=h' }):wpAny (model prog w) A (pyNext (.ref I)) Q E s:=by
 obtain⟨⟨o,ho,hx,hd⟩,hf,hr⟩:=id hS;obtain⟨oT,hoT,k,hdT⟩:=hT;unfold pyNext;refine J9 (Qn (Yr (name:=Str.ofString "__next__") hI.type dU (Yo dU hI.type jz ?_ (kQ _))))
 unfold Builtin.«set_iterator.__next__»;refine J9 (m:=slotArgs _ _ _) (Ja (J9 (Ug hI rfl ?_)))
 refine J9 (m:=setEntries a) (Wj ho hd hf (Z3 (λz=>absurd z (by simp)) λ_=>?_))
 dsimp only;refine J9 (Vf hoT hdT ?_)
 have g:(ps.map λ(i:Nat)=>rawInt i).toArray[j]?=some (rawInt p):=by simp[hp]
 simp only[Q8,g];simp only[rawInt,Q8];refine J9 ?_;unfold setNextDrawn;refine J9 (Wt ho hd hf ?_);dsimp only
 refine Z3 (λz=>absurd z (by simp)) λ_=>?_
 rw[he];refine Ja ?_
 refine J9 (Zr hI rfl (by simp) (Ja ⟨e.2,rfl,Ja (h _ ?_ (Yt ..))⟩))
 exact uf hI 1 (rawInt (j+1))
theorem sN{Q:Option Value->Shared->Prop}(hh:A.handled=none)(hI:SIt s.heap I a (.ref T) es.size es.size ep)(hS:i7 s.heap a es ep t)(hT:Plc s.heap T ps)(hp:ps.length=es.size)
  (h:∀h',(∀b o,b≠I->s.heap.get? b=some o->h'.get? b=some o)->Q none { s with heap:=h' }):wpAny (model prog w) A (pyNext (.ref I)) Q E s:=by
 obtain⟨⟨o,ho,hx,hd⟩,hf,hr⟩:=id hS;obtain⟨oT,hoT,k,hdT⟩:=hT;unfold pyNext;refine J9 (Qn (Yr (name:=Str.ofString "__next__") hI.type dU (Yo dU hI.type jz ?_ (kQ _))))
 unfold Builtin.«set_iterator.__next__»;refine J9 (m:=slotArgs _ _ _) (Ja (J9 (Ug hI rfl ?_)))
 refine J9 (m:=setEntries a) (Wj ho hd hf (Z3 (λz=>absurd z (by simp)) λ_=>?_))
 dsimp only;refine J9 (Vf hoT hdT ?_)
 have g:(ps.map λ(i:Nat)=>rawInt i).toArray[es.size]?=none:=by simp[hp]
 simp only[Q8,g]
 refine J9 (Zr hI rfl (by simp) ?_)
 refine J9 (Zr (uf hI 0 (rawInt 0)) rfl (by simp) ?_)
 refine A5 (by simp[hh]) λe h' kp ty=>?_
 exact J9 (W9 (T:="StopIteration") (b:=true) ty Ue (Ja (h _ λb o c e=>kp b o (((Yt ..).2 b c).trans (((Yt ..).2 b c).trans e)))))
theorem ug{i:Nat}{Q:Value->Shared->Prop}(hI:SIt s.heap I a x i n ep)(h:Q (.ref I) s):wpAny (model prog w) A (pyIter (.ref I)) Q E s:=by refine G3 hI.type uc (Yo uc hI.type xR (?_:wpAny _ _ (ret (.ref I)) _ _ s) (Ad _));exact Ja ⟨_,rfl,_,_,hI.type,dU.lookup,h⟩
structure Rdy(prog:Program)(w:World)(s s':Shared)(a I:Addr)(n:Nat)(ord:List Value):Prop where
 drw:s'={ s with heap:=s'.heap,drawn:=s'.drawn }
 keep:∀b o,s.heap.get? b=some o->s'.heap.get? b=some o
 new:s.heap.objs.size<=I
 len:ord.length=n
 wlk:∀A:Around,A.handled=none->∃(fp:List Addr)(St:Nat->Heap->Prop),(∀b∈fp,b=a\/s.heap.objs.size<=b)/\Walks prog w A I fp [I] n (λj v=>ord[j]?=some v) St/\St 0 s'.heap
theorem mw(w:World)(a:Addr)(ep:Nat)(es:Array (Int×Value)):(kH w a ep es).toList.Perm es.toList:=by
 unfold kH;split
 .exact vN _ _
 .exact List.Perm.refl _
theorem nH(es:Array (Int×Value)):∀ps:List Nat,(∀p∈ps,p<es.size)->∃l:List (Int×Value),l.length=ps.length/\l=ps.filterMap (λp=>es[p]?)/\∀(j p:Nat),ps[j]?=some p->∃e,es[p]?=some e/\l[j]?=some e
 |[],_=>⟨[],rfl,rfl,λj p e=>by simp at e⟩
 |p::ps,h=>by
  obtain⟨l,h1,h2,h3⟩:=nH es ps λq hq=>h q (.tail _ hq);have hp:=h p (.head _)
  refine⟨es[p]::l,by simp[h1],by rw[V4,Y0 hp,h2],λj q e=>?_⟩
  cases j with
  |zero=>
   cases (show some p=some q from e)
   exact⟨es[p],Y0 hp,rfl⟩
  |succ j=>exact h3 j q (by simpa using e)
theorem sO(es:Array (Int×Value)):(List.range es.size).filterMap (λp=>es[p]?)=es.toList:=by
 apply Vl;intro i
 have:∀n,n<=es.size->(List.range n).filterMap (λp=>es[p]?)=es.toList.take n:=λn=>by
  induction n with
  |zero=>intro _;simp
  |succ n ih=>
   intro h
   rw[List.range_succ,List.filterMap_append,ih (by omega),List.take_add_one]
   simp[Y0 (show n<es.size by omega),Jc (show n<es.toList.length by simp;omega)]
 rw[this es.size (Jd _),Qb (by simp)]
theorem CJ{ep:Nat}{t:SetTable}{l:List (Int×Value)}(hh:A.handled=none)(ha:a≠I)(hT:T≠I)(hp:ps.length=es.size)(hl:l.length=ps.length)(h3:∀(j p:Nat),ps[j]?=some p->∃e,es[p]?=some e/\l[j]?=some e):
  Walks prog w A I [I,a,T] [I] es.size (λj v=>(l.map (·.2))[j]?=some v) (λj h=>SIt h I a (.ref T) j es.size ep/\i7 h a es ep t/\Plc h T ps) where
 sub:=λb hb=>by simp at hb;simp[hb]
 frame:=λj h h' st k=>⟨k I (by simp) _ st.1,st.2.1.keep λo e=>k a (by simp) o e,let ⟨o,e,r⟩:=st.2.2;⟨o,k T (by simp) o e,r⟩⟩
 item:=λj s Q E hj st hQ=>by
  obtain⟨e,e1,e2⟩:=h3 j ps[j] (Jc (by omega))
  refine sM st.1 st.2.1 st.2.2 (Jc (by omega)) e1 λh' it sb=>hQ e.2 h' s.toks (by rw[Zf,e2];rfl) ⟨it,st.2.1.keep λo e=>(sb.2 a ha).trans e,let ⟨o,e,r⟩:=st.2.2;⟨o,(sb.2 T hT).trans e,r⟩⟩ λb o hb e=>(sb.2 b λc=>hb (by simp[c])).trans e
 done:=λs Q E st hQ=>sN hh st.1 st.2.1 st.2.2 hp λh' k=>hQ h' s.toks λb o hb e=>k b o (λc=>hb (by simp[c])) e
 self:=λj s Q E st hQ=>ug st.1 hQ
theorem CK{ep:Nat}(hh:A.handled=none)(ha:a≠I)(hl:t.led=cg w)(hp:txt w=true\/(!t.plain&&decide (es.size>1))=false):
  Walks prog w A I [I,a] [I] es.size (λj v=>((kH w a ep es).toList.map (·.2))[j]?=some v) (λj h=>SIt h I a (.int ((slA w t j:Nat):Int) 0) j es.size ep/\i7 h a es ep t) where
 sub:=λb hb=>by simp at hb;simp[hb]
 frame:=λj h h' st k=>⟨k I (by simp) _ st.1,st.2.keep λo e=>k a (by simp) o e⟩
 item:=λj s Q E hj st hQ=>by
  have hz:(kH w a ep es).size=es.size:=by simpa using(mw w a ep es).length_eq
  have he:(kH w a ep es)[j]?=some ((kH w a ep es)[j]'(by omega)):=Y0 _
  refine Ae st.1 st.2 hl hp hj he λh' it sb=>hQ _ h' s.toks (by rw[Zf,Yl,he];rfl) ⟨it,st.2.keep λo e=>(sb.2 a ha).trans e⟩ λb o hb e=>(sb.2 b λc=>hb (by simp[c])).trans e
 done:=λs Q E st hQ=>Af hh st.1 st.2 hl hp (by simpa using(mw w a ep es).length_eq) λh' k=>hQ h' s.toks λb o hb e=>k b o (λc=>hb (by simp[c])) e
 self:=λj s Q E st hQ=>ug st.1 hQ
theorem xV{Q:Value->Shared->Prop}(hS:i7 s.heap a es ep t)(hl:t.led=cg w)(hn:es.size<=sizeLine)
  (h:∀(s':Shared)(I:Addr)(ord:List Value),ord.Perm (es.toList.map (·.2))->Rdy prog w s s' a I es.size ord->Q (.ref I) s'):wpAny (model prog w) A (pyIter (.ref a)) Q E s:=by
 obtain⟨⟨o,ho,hx,hd⟩,hf,hr⟩:=id hS;have ha:a<s.heap.objs.size:=Jn ho;refine G3 hS.type F.slot_set_iter (Yo F.slot_set_iter hS.type sH ?_ (F.args_set_iter_1 _));unfold Builtin.«frozenset.__iter__»;refine J9 (m:=Builtin.Frozenset.slot0 _ _) (Ja ?_);unfold Builtin.Frozenset.sizeOf;refine J9 (J9 (Wj ho hd hf (Ja ?_)));refine J9 ?_;unfold setDrawn;refine J9 (Wt ho hd hf ?_);dsimp only;refine J9 (sJ (Ja ?_));refine Z3 (λc=>?_) λc=>?_
 .have c:(!(txt w)&&(!t.plain&&decide (es.size>1)))=true:=c
  refine J9 (draws _ _ _ _ (by simp) λps d hp=>?_)
  have hpl:ps.length=es.size:=by rw[hp.length_eq,Vo]
  have hpb:∀p∈ps,p<es.size:=λp hq=>Qo.mp (hp.mem_iff.mp hq);obtain⟨l,l1,l2,l3⟩:=nH es ps hpb
  have lp:l.Perm es.toList:=by rw[l2,<- sO];exact hp.filterMap _
  simp only[newTuple]
  refine J9 (Y9 (data:=.seq (ps.map λ(i:Nat)=>rawInt i).toArray) ?_ (by show(ps.map λ(i:Nat)=>rawInt i).toArray.size<=sizeLine;simp;omega))
  refine J9 (wpAny_setEpoch_of (Jb _ ho) hd hf ?_);refine J9 (Y9 (Ja ⟨_,rfl,"set_iterator",_,⟨_,Jo _ rfl,rfl⟩,dU.lookup,?_⟩))
  refine h _ _ (l.map (·.2)) (lp.map _) ⟨rfl,λb o e=>Jb _ (Jb _ e),by rw[Zb];exact Uh _,by rw[Jg,l1,hpl],λA' hh=>?_⟩
  refine⟨_,_,?_,CJ (T:=s.heap.objs.size) (ps:=ps) (l:=l) (es:=es) (t:=t) (ep:=ep) (a:=a) hh ?_ ?_ hpl (by rw[l1]) l3,⟨Jo _ rfl,hS.keep λo e=>Jb _ (Jb _ e),?_⟩⟩
  .intro b hb;simp only[Jq,Yh,Q0]at hb;rcases hb with rfl|rfl|rfl
   .exact .inr (by rw[Zb];exact Uh _)
   .exact .inl rfl
   .exact .inr (Jd _)
  .rw[Zb];exact Ju (Zq ha)
  .rw[Zb];exact Ju (Wf _)
  .exact⟨_,Jb _ (Jo _ rfl),_,rfl⟩
 .have c:¬(!(txt w)&&(!t.plain&&decide (es.size>1)))=true:=c
  have hp:txt w=true\/(!t.plain&&decide (es.size>1))=false:=by
   cases e1:txt w with
   |true=>exact .inl rfl
   |false=>
    cases e2:(!t.plain&&decide (es.size>1)) with
    |false=>exact .inr rfl
    |true=>rw[e1,e2]at c;exact absurd rfl c
  have lp:=mw w a ep es;refine J9 (m:=pure (rawInt 0)) (Ja ?_);refine J9 (wpAny_setEpoch_of ho hd hf ?_);refine J9 (Y9 (Ja ⟨_,rfl,"set_iterator",_,⟨_,Jo _ rfl,rfl⟩,dU.lookup,?_⟩))
  refine h _ _ ((kH w a ep es).toList.map (·.2)) (lp.map _) ⟨rfl,λb o e=>Jb _ e,Jd _,by rw[Jg,lp.length_eq,Jz],λA' hh=>?_⟩
  refine⟨_,_,?_,CK (a:=a) (es:=es) (ep:=ep) (t:=t) hh ?_ hl hp,⟨?_,hS.keep λo e=>Jb _ e⟩⟩
  .intro b hb;simp only[Jq,Yh,Q0]at hb;rcases hb with rfl|rfl
   .exact .inr (Jd _)
   .exact .inl rfl
  .exact Ju ha
  .have e0:slA w t 0=0:=by unfold slA;split<;>rfl
   show SIt _ _ a (.int ((slA w t 0:Nat):Int) 0) 0 es.size ep;rw[e0];exact Jo _ rfl
end
end ST
namespace ST
open PySem PySem.Spec PyProof.Rows PySem.W
section
variable{prog:Program}{w:World}{A:Around}{E:Value->Shared->Prop}{s:Shared}
theorem xW{a:Addr}{Q:Bool->Shared->Prop}(hT:s.TypeIs (.ref a) "set")(h:Q false s):wpAny (model prog w) A (Builtin.List.listLengthHint (.ref a)) Q E s:=by
 unfold Builtin.List.listLengthHint;refine J9 (wpAny_specialOf hT PySem.F.slot_set_len.lookup ?_);generalize hid:("set.__len__":String)=id0
 wp_delta
 rw[show splitId id0=some ("set","__len__") from by subst hid;decide +kernel]
 subst hid
 refine J9 (W9 (T:="set") (b:=true) hT sub_set_self (Z3 (λz=>absurd z (by decide)) λ_=>?_))
 exact Z3 (λ_=>J9 (Qs hT (Ja h))) λz=>absurd (by decide +kernel) z
def Lk(s s':Shared):Prop:=s'={ s with heap:=s'.heap,toks:=s'.toks,drawn:=s'.drawn }
theorem Lk.trans{s s1 s2:Shared}(a:Lk s s1)(b:Lk s1 s2):Lk s s2:=by unfold Lk at *;rw[b,a]
theorem sP{a L:Addr}{es:Array (Int×Value)}{ep c0:Nat}{t:SetTable}{res:Value}{R:Result->Shared->Prop}(hS:i7 s.heap a es ep t)(hl:t.led=cg w)(hn:es.size<=sizeLine)(hh:A.handled=none)(hLa:L≠a)(hL:s.heap.get? L=some { cls:=.type "list",data:=.seq #[] c0 })
  (h:∀(s':Shared)(acc:Array Value)(c:Nat),Lk s s'->(∀b o,b≠L->s.heap.get? b=some o->s'.heap.get? b=some o)->s'.heap.get? L=some { cls:=.type "list",dict:=none,data:=.seq acc c,slots:=#[] }->acc.toList.Perm (es.toList.map (·.2))->R (.ok (.ret res)) s'):
  wpAny (model prog w) A.in1 (Builtin.List.listExtendWith (.ref L) (.ref a) res)
   (λfin s'=>match fin with | .done f=>R (.ok f) s' | .again c'=>c'.quiet=true/\codeAny (model prog w) A c' R s') (λe s'=>R (.error e) s') s:=by
 unfold Builtin.List.listExtendWith;refine J9 (Qs (T:="set") hS.type ?_)
 have q1:Builtin.List.listSameRef (.ref L) (.ref a)=false:=by simp[Builtin.List.listSameRef,hLa]
 have q2:(Value.type "set" == Value.type "list")=false:=by decide
 have q3:(Value.type "set" == Value.type "tuple")=false:=by decide
 simp only[q1,q2,q3,Bool.or_false,Jy,Yp];refine J9 (xV hS hl hn λs1 I ord hp rd=>?_);obtain⟨e1,kp,nw,ln,wk⟩:=rd
 obtain⟨fp,St,hfp,W,st⟩:=wk A.in1 (by simp[hh])
 have hLlt:L<s.heap.objs.size:=Jn hL;have hLf:L∉fp:=λhb=>(hfp L hb).elim hLa λz=>absurd hLlt (Nat.not_lt.mpr z);have hLI:L≠I:=λc=>absurd hLlt (Nat.not_lt.mpr (c▸nw));have hL1:=kp L _ hL
 have key:∀(s2:Shared)(c1:Nat),Lk s1 s2->(∀b o,b≠L->s1.heap.get? b=some o->s2.heap.get? b=some o)->St 0 s2.heap->s2.heap.get? L=some { cls:=.type "list",data:=.seq #[] c1 }->codeAny (model prog w) A (.builtin "list.extend.loop" ⟨[.ref L,.ref I,res],[]⟩) R s2:=λs2 c1 lk kp2 st2 g=>by
  refine codeAny_extend_loopS W.toS hn L hLf res es.size 0 s2 #[] c1 rfl (Y2 _) st2 g (ItemsOf.nil _) λs3 acc c hm g3 hacc=>?_
  have lk3:Lk s2 s3:=by rw[Moved.eq_with hm];rfl
  have lk1:Lk s s1:=by rw[e1];rfl
  refine h s3 acc c ((lk1.trans lk).trans lk3) (λb o hb e=>hm.heap b o (λhm'=>?_) (kp2 b o hb (kp b o e))) g3 ?_
  .rcases Jq.mp hm' with z|z
   .exact hb z
   .rw[Jv.mp z]at e;exact absurd (Jn e) (Nat.not_lt.mpr nw)
  .have:acc.toList=ord:=Vl λj=>by
    rcases Wc j es.size with g|g
    .have hj:j<acc.size:=by rw[hacc.1];exact g
     rw[Yl,Y0 hj];exact(hacc.2 j _ (Y0 hj)).symm
    .rw[Wv (by rw[Jz,hacc.1];exact g),Wv (by omega)]
   rw[this];exact hp
 refine J9 (Yi (xW (hS.keep λo e=>kp a o e).type ?_));refine Z3 (λ_=>?_) λ_=>Ja ⟨W3 PySem.F.plain_extend_loop _,key s1 c0 rfl (λb o _ e=>e) st hL1⟩;refine J9 (Zj (J9 (?_:wpAny _ _ (updateSeq L (·.push .none) >>= λ_=>updateSeq L (·.pop)) _ _ _)));have g2:=Zs (Obj.mapSeq (·.push Value.none)) hL1 rfl
 refine J9 (wpAny_updateSeq hL1 rfl (wpAny_updateSeq (hz:=by seq_fits) g2 rfl (Ja ⟨W3 PySem.F.plain_extend_loop _,key _ _ rfl (λb o hb e=>?_) ?_ (Zs (Obj.mapSeq (·.pop)) g2 rfl)⟩)))
 .exact(Yu _ _ (Ne.symm hb)).trans ((Yu _ _ (Ne.symm hb)).trans e)
 .exact W.frame 0 _ _ st λb hb o e=>(Yu _ _ λc=>hLf (by rw[c];exact hb)).trans ((Yu _ _ λc=>hLf (by rw[c];exact hb)).trans e)
end
theorem kx:∀(ks zs:List Int),ks.Nodup->(∀j∈ks,j∈zs)->zs.length=ks.length->zs.Perm ks
 |[],zs,_,_,h=>by rw[Zw.mp h]
 |k::r,zs,nd,hm,hl=>by
  have h1:=hm k (.head _);refine(List.perm_cons_erase h1).trans (List.Perm.cons _ (kx r (zs.erase k) (Qx.mp nd).2 (λj hj=>?_) ?_))
  .refine(List.mem_erase_of_ne ?_).mpr (hm j (.tail _ hj));rintro rfl;exact(Qx.mp nd).1 hj
  .rw[List.length_erase_of_mem h1,hl];rfl
noncomputable def xX:Value->Int
 |.int i _=>i
 |_=>0
section
variable{prog:Program}{w:World}{A:Around}{E:Value->Shared->Prop}{s:Shared}
theorem my:∀{l:List (Int×Value)},ElemsOf (ik prog w) l->IntsAre (l.map (·.2)) (l.map λe=>xX e.2)
 |[],_=>.nil
 |e::l,h=>by obtain⟨⟨k,hk,_⟩,_⟩:=h.head;obtain⟨t,e2⟩:=Vh hk;rw[Jp,Jp,e2];exact .cons _ _ (my h.tail)
theorem vO:∀{vs us:List Value}{ns:List Int},us.Perm vs->IntsAre vs ns->IntsAre us (us.map xX):=λ{vs us ns} hp hi=>by
 have:∀v∈us,∃i t,v=Value.int i t:=λv hv=>by
  have hv:=hp.mem_iff.mp hv;clear hp
  induction hi with
  |nil=>cases hv
  |cons n t _ ih=>
   rcases Jq.mp hv with rfl|hv
   .exact⟨n,t,rfl⟩
   .exact ih hv
 clear hp hi
 induction us with
 |nil=>exact .nil
 |cons u us ih=>
  obtain⟨i,t,rfl⟩:=this u (.head _);exact .cons _ _ (ih λv hv=>this v (.tail _ hv))
theorem qC{a:Addr}{es:Array (Int×Value)}{ep:Nat}{t:SetTable}{R:List Value->Shared->Prop}(hS:i7 s.heap a es ep t)(hl:t.led=cg w)(hn:es.size<=sizeLine)(hh:A.handled=none)
  (h:∀(s':Shared)(acc:List Value),Lk s s'->(∀b o,s.heap.get? b=some o->s'.heap.get? b=some o)->acc.Perm (es.toList.map (·.2))->R acc s'):wpAny (model prog w) A (collect (.ref a)) R E s:=by
 have ha:a<s.heap.objs.size:=by obtain⟨⟨o,ho,_⟩,_⟩:=hS;exact Jn ho
 unfold collect;refine J9 (Ve (Yy entry_proto_collect' ?_));rw[Z9 PySem.F.plain_proto_collect _];refine(?_:wpAny _ A.in1 (newList [] >>= λl=>again (.builtin "list.__iadd__" ⟨[l,.ref a],[]⟩)) _ _ s)
 refine J9 (Y9 (Ja ⟨W3 PySem.F.plain_list_iadd _,Yy entry_list_iadd' ?_⟩));rw[Z9 PySem.F.plain_list_iadd _];have g:(s.heap.push { cls:=.type "list",data:=.seq ([]:List Value).toArray }).get? s.heap.objs.size=some { cls:=.type "list",data:=.seq #[] }:=Jo _ rfl
 have key:=sP (prog:=prog) (w:=w) (A:=A) (s:={ s with heap:=s.heap.push { cls:=.type "list",data:=.seq ([]:List Value).toArray } }) (res:=.ref s.heap.objs.size)
  (R:=λ(q:Result)(s':Shared)=>∃(acc:Array Value)(c:Nat),q=.ok (.ret (.ref s.heap.objs.size))/\Lk s s'/\(∀b o,s.heap.get? b=some o->s'.heap.get? b=some o)/\s'.heap.get? s.heap.objs.size=some { cls:=.type "list",dict:=none,data:=.seq acc c,slots:=#[] }/\acc.toList.Perm (es.toList.map (·.2)))
  (hS.keep λo e=>Jb _ e) hl hn hh (Qg ha) g λs' acc c lk kp g' hp=>⟨acc,c,rfl,lk,λb o e=>kp b o (Ju (Jn e)) (Jb _ e),g',hp⟩
 have fin:∀(s':Shared)(acc:Array Value)(c:Nat),Lk s s'->(∀b o,s.heap.get? b=some o->s'.heap.get? b=some o)->s'.heap.get? s.heap.objs.size=some { cls:=.type "list",dict:=none,data:=.seq acc c,slots:=#[] }->acc.toList.Perm (es.toList.map (·.2))->
   wpAny (model prog w) A (do match (<- load s.heap.objs.size).data with | .seq xs _=>pure xs.toList|_=>unsupported "internal:collect") R E s':=λs' acc c lk kp g' hp=>J9 (wpAny_load g' (Ja (h s' _ lk kp hp)))
 refine(?_:wpAny _ A.in1 (Builtin.List.listExtendWith (.ref s.heap.objs.size) (.ref a) (.ref s.heap.objs.size)) _ _ _);refine Zk key (λf s' x=>?_) λe s' x=>?_
 .cases f with
  |done f=>
   obtain⟨acc,c,q,lk,kp,g',hp⟩:=x;cases q;exact fin s' acc c lk kp g' hp
  |again c1=>
   refine⟨x.1,Qr x.2 λq s2 y=>?_⟩;obtain⟨acc,c,rfl,lk,kp,g',hp⟩:=y;exact fin s2 acc c lk kp g' hp
 .obtain⟨acc,c,q,_⟩:=x;cases q
theorem sorted_set{a:Addr}{ks:List Int}{Q:Value->Shared->Prop}(hS:SetA prog w s.heap a (hasZ ks) ks.length)(nd:ks.Nodup)(hh:A.handled=none)
  (h:∀(s1:Shared),Lk s s1->(∀b o,s.heap.get? b=some o->s1.heap.get? b=some o)->∀(h2:Heap)(out:Array Value)(ns':List Int)(n:Nat),(∀b o,s1.heap.get? b=some o->h2.get? b=some o)->h2.get? s1.heap.objs.size=some (seqObj "list" out n)->IntsAre out.toList ns'->ns'.Perm ks->ns'.Pairwise (· <= ·)->Q (.ref s1.heap.objs.size) { s1 with heap:=h2 }):
  wpAny (model prog w) A (call (.builtin "sorted") [.ref a]) Q E s:=by
 obtain⟨o,es,ep,t,ho,hx,hd,hel,hm,hb,hf,e0,hr,hl⟩:=hS;have hz:=G4 hb;refine Va kind_sorted plain_sorted entry_sorted (args_sorted1 _) ?_;unfold Builtin.«sorted»;refine J9 (m:=checkCount "sorted" 1 1 _) (Ja ?_)
 refine J9 (qC (A:=A.in1) ⟨⟨o,ho,hx,hd⟩,hf,hr⟩ hl hz (by simp[hh]) λs1 acc lk kp hp=>?_)
 have hi:=vO hp (my hel)
 have hpk:(acc.map xX).Perm ks:=by
  refine(hp.map xX).trans ?_;rw[Qu]
  refine kx _ _ nd (λj hj=>?_) (by rw[Jg,Jz,e0])
  obtain⟨e,he,hk⟩:=(hm j).mp (by simpa[hasZ] using hj)
  obtain⟨tk,e2⟩:=Vh hk
  exact Y7.mpr ⟨e,he,by show xX e.2=j;rw[e2];rfl⟩
 refine SQ.sorted_tail (s:=s1) hi (by rw[hp.length_eq,Jg,Jz];exact hz) λh2 out ns' n k1 k2 a1 a2 a3=>h s1 lk kp h2 out ns' n k1 k2 a1 (a2.trans hpk) a3
end
end ST
namespace PD
open PySem PySem.Spec PyProof.Rows L2
noncomputable def uh:Sto->List D->Option D
 |_,[.lst ds]=>match intsOf ds with
  |some ns=>if ns.length+1<4096 then some (.lst ((bV (_root_.ST.uniqZ ns)).map .int)) else none
  |none=>none
 |_,_=>none
section
variable{X:Cx}{E:XK}
noncomputable abbrev oU(X:Cx)(a:Addr)(ks:List Int):Heap->Prop:=λh=>_root_.ST.SetA X.prog X.w h a (_root_.ST.hasZ ks) ks.length
noncomputable def EW(X:Cx):List V->Hp->VK->Prop:=λxs H Q=>∃p vs ns,xs=[.ref p]/\SqL X.K H p vs/\(∀us,Vals vs us->IntsAre us ns)/\ns.length+1<4096/\∀a,H a=none->Q (.ref a) (upd H a (.ext (oU X a (_root_.ST.uniqZ ns))))
noncomputable def EX(X:Cx):List V->Hp->VK->Prop:=λxs H Q=>∃a ks,xs=[.ref a]/\H a=some (.ext (oU X a ks))/\ks.Nodup/\ks.length<=4096/\∀b,H b=none->Q (.ref b) (upd H b (.lst ((bV ks).map V.int)))
theorem Ag{pins:List (Addr×Obj)}{σ:L2.St}{H:Hp}{s s':Shared}(I:Inv X pins σ H s)(lk:_root_.ST.Lk s s')(k:∀b u,s.heap.get? b=some u->s'.heap.get? b=some u):Inv X pins σ H s':=by have J:=I.kept (h':=s'.heap) (t':=s'.toks) k;rw[lk];exact⟨J.ok,J.os,J.bare,J.base,J.loc,J.cell,J.free,J.freeC,J.pin,J.hok,J.len⟩
theorem CL(hc:X.calm=true):bI X (.type "set") (EW X):=by
 rintro pins s σ H xs us Q I r ⟨p,vs,ns,rfl,hq,hi,hb,k⟩;obtain⟨u,rfl,rx⟩:=Wx r;cases rx;obtain⟨its,rv,⟨o,n,ho,c1,_,c2⟩,hz⟩:=I.list hq;have hI:=hi its rv;have hl:its.length=ns.length:=hI.length
 refine _root_.ST.call_set (its:=its.toArray) (ns:=ns) (I.ok.hd hc) ⟨o,ho,c1,n,c2⟩ (by simpa using hI) (by show its.toArray.size+1<4096;rw[Jr];omega) λh' tk hS kp=>?_
 have hf:H s.heap.objs.size=none:=I.hok.fresh (Jd _);refine⟨.ref s.heap.objs.size,_,I.laid (t':=tk) (a:=s.heap.objs.size) (o:=.ext (oU X s.heap.objs.size (_root_.ST.uniqZ ns))) kp (Jd _) ⟨hS,?_,λh1 h2 x y=>x.keep y⟩,rfl,k _ hf⟩;obtain⟨o,_,_,_,e,_⟩:=hS;exact⟨o,e⟩
theorem xY(hc:X.calm=true):bI X (.builtin "sorted") (EX X):=by
 rintro pins s σ H xs us Q I r ⟨a,ks,rfl,hx,nd,hn,k⟩;obtain⟨u,rfl,rx⟩:=Wx r;cases rx
 have z:(4096:Nat)<=sizeLine:=by decide
 obtain⟨hS,_,_⟩:=I.hok a _ hx;refine _root_.ST.sorted_set hS nd (I.ok.hd hc) λs1 lk kp h2 out ns' n k1 k2 a1 a2 a3=>?_;have en:ns'=bV ks:=eX (a2.trans (bB ks).symm) a3 (cV ks);subst en;have J:Inv X pins σ H s1:=Ag I lk kp;have hf:H s1.heap.objs.size=none:=J.hok.fresh (Jd _)
 exact⟨.ref s1.heap.objs.size,_,J.laid (t':=s1.toks) (a:=s1.heap.objs.size) (o:=.lst ((bV ks).map V.int)) k1 (Jd _) ⟨by rw[Jg,(bB ks).length_eq];omega,out.toList,n,oG a1,by rw[Ub];exact k2⟩,rfl,k _ hf⟩
variable{a:Expr}{ms:AM}{x1 x2:Str}{p1 p2 q1 q2:Pos}
theorem oV(hc:X.calm=true)(g1:Gl X x1)(m1:X.mg x1=none)(v1:bootBuiltins x1=some (.builtin "sorted"))(g2:Gl X x2)(m2:X.mg x2=none)(v2:bootBuiltins x2=some (.type "set"))(ha:SA X E [a] ms)(n1:autoParam (x1 ≠ "__name__") zz3._auto_1)(d1:autoParam ((x1 == ("__debug__":Str))=false) zz3._auto_1)(n2:autoParam (x2 ≠ "__name__") zz3._auto_1)(d2:autoParam ((x2 == ("__debug__":Str))=false) zz3._auto_1)
  (e1:autoParam (starEach [.Call (.Name x2 p2) [a] [] q2] X.env=[(false,eval (.Call (.Name x2 p2) [a] [] q2) X.env)]) zz0._auto_1) (e2:autoParam (starEach [a] X.env=[(false,eval a X.env)]) zz0._auto_1) (b1:autoParam ((backTo q1 (starEach [] X.env)).any (·.1)=false) zz0._auto_1) (b2:autoParam ((backTo q2 (starEach [] X.env)).any (·.1)=false) zz0._auto_1):
  SE X E (.Call (.Name x1 p1) [.Call (.Name x2 p2) [a] [] q2] [] q1) (eB uh ms):=⟨by
 have hi:=iF (p:=p2) (pos:=q2) (CL hc) g2 m2 v2 ha.out n2 d2 e2 b2;refine aR (kY (p:=p1) (pos:=q1) (xY hc) g1 m1 v1 (n4 hi rJ e1) n1 d1 e1 b1) λs H Q zq=>ex6 zq λw r S hr hS hp=>⟨w,r,S,hr,hS,hp.bind hS λds S1 w1 H1 vs y1 q1 s1 p1=>?_⟩;obtain⟨z,hz,p'⟩:=p1.of;unfold uh at hz;split at hz
 .rename_i ds0;obtain⟨v,rfl,q⟩:=q1.one_inv;split at hz
  .rename_i ns hns;split at hz
   .rename_i hb;cases hz;obtain⟨pa,vs,rfl,at0,ra⟩:=q.lstI
    have hlen:(_root_.ST.uniqZ ns).length<=4096:=by have:=_root_.ST.fold_len ns [];show(ns.foldl _root_.ST.ins1 []).length<=4096;simp at this;omega
    refine⟨pa,vs,ns,rfl,SqL.of at0.1,λus rv=>jm ra rv hns,hb,λa hf=>?_⟩;refine⟨a,_,rfl,aC,_root_.ST.uniqZ_nd ns,hlen,λb hfb=>?_⟩;have s2:=s1.new (o:=.ext (oU X a (_root_.ST.uniqZ ns))) hf
    have fr:∀c∈w1.st,∃o,H1 c=some o/\∃o',upd H1 a (.ext (oU X a (_root_.ST.uniqZ ns))) c=some o':=λc hc'=>by
     obtain⟨o,e⟩:=s1.there hc'
     exact⟨o,e,o,by rw[ax (aH e hf)];exact e⟩
    exact p'.at ((Ext.new hf).trans (Ext.new hfb) fr) (RD.newLst s2 hfb (jn _)) (s2.new hfb)
   .cases hz
  .cases hz
 .cases hz⟩
end
end PD
namespace ST
open PySem PySem.Spec PyProof.Rows
section
variable{prog:Program}{w:World}{A:Around}{E:Value->Shared->Prop}
theorem nI{R:Result->Shared->Prop}{a I l:Addr}{its:Array Value}{ns:List Int}(hi:IntsAre its.toList ns)(hh:A.in1.handled=none)(h1:a≠I)(h2:a≠l)(h3:l≠I)(hb:its.size+1<scanBound):∀(k i:Nat)(s:Shared)(ks:List Int),its.size-i=k->i<=its.size->ks.length<=i->
  IsTupIter s.heap I l i->IsTup s.heap l its->SetA prog w s.heap a (hasZ ks) ks.length->
  (∀h' tk,(∀b o,b≠a->b≠I->s.heap.get? b=some o->h'.get? b=some o)->SetA prog w h' a (hasZ ((ns.drop i).foldl ins1 ks)) ((ns.drop i).foldl ins1 ks).length->R (.ok (.ret .none)) { s with heap:=h',toks:=tk })->
  codeAny (model prog w) A (.builtin "set.update.loop" ⟨[.ref a,.ref I],[]⟩) R s
 |0,i,s,ks,hk,hin,hn,it,hl,hS,hR=>by
  have e:i=its.size:=by omega
  have hlen:ns.length=its.size:=by rw[<- Jz];exact hi.length.symm
  rw[List.drop_of_length_le (by omega)]at hR
  refine Yy Wl ?_;rw[Z9 Q6 _]
  refine J9 (m:=pyNext (.ref I)) (next_tuple_end hh it hl (by rw[e];simp) λh' he=>Ja (hR h' s.toks (λb o _ c e=>he b o c e) (hS.keep λo e=>he a o h1 e)))
 |k+1,i,s,ks,hk,hin,hn,it,hl,hS,hR=>by
  have hlt:i<its.size:=by omega
  have hlen:ns.length=its.size:=by rw[<- Jz];exact hi.length.symm
  obtain⟨t,e⟩:=hi.int_at i its[i] (by simp[hlt])
  have hd:ns.drop i=ns.getD i 0::ns.drop (i+1):=by rw[Yz (by omega),Jx,Jc (by omega)];rfl
  rw[hd,V9]at hR;refine Yy Wl ?_;rw[Z9 Q6 _]
  refine J9 (m:=pyNext (.ref I)) (next_tuple_item it hl (x:=.int (ns.getD i 0) t) (by rw[<- e];simp[hlt]) λh1' it1 sb1=>?_)
  refine J9 (m:=holding [Value.int (ns.getD i 0) t] (setAdd a (.int (ns.getD i 0) t))) (Yi ?_);unfold setAdd;refine Yi (J9 ((ik prog w).pyHash (k:=ns.getD i 0) (intKind_is _ _ _ _) ?_))
  refine qw (intKind_is _ _ _ _) rfl (hS.keep λo e=>(sb1.2 a h1).trans e) (by omega) λh2' sb2 hS2=>Ja ⟨W3 Q6 _,?_⟩
  refine nI hi hh h1 h2 h3 hb k (i+1) _ (ins1 ks (ns.getD i 0)) (by omega) (by omega) (by rw[iq];split<;>omega) ?_ ?_ (hS2.to (λj=>(mn _ _ _).symm) (by rw[iq])) λh' tk kp hS'=>?_
  .obtain⟨o,ho,r⟩:=it1;exact⟨o,(sb2.2 I (Ne.symm h1)).trans ho,r⟩
  .exact(hl.extBut sb1.extBut h3).extBut sb2.extBut (Ne.symm h2)
  .exact hR h' tk (λb o c1 c2 e=>kp b o c1 c2 ((sb2.2 b c1).trans ((sb1.2 b c2).trans e))) hS'
set_option maxHeartbeats 4000000 in
theorem call_setT{s:Shared}{l:Addr}{its:Array Value}{ns:List Int}{Q:Value->Shared->Prop}(hh:A.handled=none)(hl:IsTup s.heap l its)(hi:IntsAre its.toList ns)(hb:its.size+1<scanBound)
  (h:∀h' tk,SetA prog w h' s.heap.objs.size (hasZ (uniqZ ns)) (uniqZ ns).length->(∀b o,s.heap.get? b=some o->h'.get? b=some o)->Q (.ref s.heap.objs.size) { s with heap:=h',toks:=tk }):
  wpAny (model prog w) A (call (.type "set") [.ref l]) Q E s:=by
 have q1:=F.called_set.made;have q2:=F.called_set.sub;have q3:=F.called_set.notType;have q4:=F.called_set.canCreate;have q5:=F.typeCall_set_1 (.ref l);obtain⟨c,r,q6⟩:=F.called_set.mro;refine U5 (codeAny_of_tree (?_:wpAny _ _ (callAny (.type "set") _) _ _ _))
 refine Ja ⟨Vd _ (by decide +kernel),Yy F.entry_type_call ?_⟩
 rw[Around.under_plain (weight_type_call_type "set" [.ref l] []) rfl]
 repeat (any_goals (first|assumption|wp_step))
 refine Qr (ua (.ref l) (E:=E) (P:=λv s1=>v=.ref s.heap.objs.size/\s1={ s with heap:=s.heap.push { cls:=.type "set",dict:=none,data:=.set #[] 0 (.fresh 0 0 (cg w)) } }) ⟨rfl,rfl⟩) λr1 s1 z=>?_
 cases r1 with
 |error e=>exact z
 |ok f1=>
  cases f1 with
  |ret v=>
   obtain⟨rfl,rfl⟩:=z;have g0:(s.heap.push { cls:=.type "set",dict:=none,data:=.set #[] 0 (.fresh 0 0 (cg w)) }).get? s.heap.objs.size=some { cls:=.type "set",dict:=none,data:=.set #[] 0 (.fresh 0 0 (cg w)) }:=Jo _ rfl
   have ty:Shared.TypeIs { s with heap:=s.heap.push { cls:=.type "set",dict:=none,data:=.set #[] 0 (.fresh 0 0 (cg w)) } } (.ref s.heap.objs.size) "set":=⟨_,g0,rfl⟩
   have q7:=F.called_set.init.lookup;have q8:=F.called_set.init.bind (.ref s.heap.objs.size)
   repeat (any_goals (first|assumption|wp_step))
   refine Qr (Wz (R:=wants (λv s2=>v=.none/\∃h' tk,s2={ s with heap:=h',toks:=tk }/\SetA prog w h' s.heap.objs.size (hasZ (uniqZ ns)) (uniqZ ns).length/\∀b o,s.heap.get? b=some o->h'.get? b=some o) E) F.called_set.init.plain F.entry_set_init (check_set_init_1 ty ?_)) λr2 s2 z2=>?_
   .obtain⟨⟨oc,od,dt,os⟩,hol,c1,nn,c2⟩:=hl;cases c1;cases c2;have hol':=Jb { cls:=.type "set",dict:=none,data:=.set #[] 0 (.fresh 0 0 (cg w)) } hol
    have u1:=F.sub_tuple_set;have u2:=F.sub_tuple_frozenset
    have u3:(Value.type "tuple" == Value.type "dict")=false:=by decide
    have hl1:IsTup (s.heap.push { cls:=.type "set",dict:=none,data:=.set #[] 0 (.fresh 0 0 (cg w)) }) l its:=⟨_,hol',rfl,nn,rfl⟩
    have ll:l<s.heap.objs.size:=Jn hol;have sz:(s.heap.push { cls:=.type "set",dict:=none,data:=.set #[] 0 (.fresh 0 0 (cg w)) }).objs.size=s.heap.objs.size+1:=Zb ..
    unfold Builtin.«set.__init__» noKeywords Builtin.Frozenset.updateFrom;generalize hPI:pyIter=PI
    wp_walk
    subst hPI;refine iter_tuple hl1 (J9 (Ve ?_))
    refine nI hi (by simp[hh]) (by rw[sz];exact Ju (Wf _)) (Qg ll) (by rw[sz];exact Ju (Zq ll)) hb its.size 0 _ [] (by omega) (Y2 _) (Y2 _) ⟨_,Jo _ rfl,rfl,rfl⟩ (hl1.push _) ?_ λh' tk kp hS=>?_
    .exact⟨_,#[],0,.fresh 0 0 (cg w),Jb _ g0,⟨rfl,rfl,rfl⟩,rfl,λe he=>by simp at he,λk=>by simp[hasZ],by decide,rfl,rfl,List.Pairwise.nil,rfl⟩
    .rw[Gh]at hS;refine Ja (Ja ⟨rfl,h',tk,rfl,hS,λb o e=>kp b o ?_ ?_ (Jb _ (Jb _ e))⟩)
     .exact Ju (Jn e)
     .have:=Jn e;rw[sz];exact Ju (Zq this)
   .cases r2 with
    |error e=>exact z2
    |ok f2=>
     cases f2 with
     |ret v=>
      obtain⟨rfl,h',tk,rfl,hS,kp⟩:=z2
      repeat (any_goals (first|assumption|wp_step))
      exact h h' tk hS kp
     |_=>exact z2.elim
  |_=>exact z.elim
end
end ST
namespace PD
open PySem PySem.Spec PyProof.Rows L2
section
variable{X:Cx}{E:XK}
theorem xZ{pins:List (Addr×Obj)}{σ:L2.St}{H:Hp}{s:Shared}(I:Inv X pins σ H s){o:Obj}(hk:X.K.lookup sysModules=some o):H sysModules=none:=(I.bs _ _ (I.mod.kin _ _ hk)).2
mutual
theorem x8{pins:List (Addr×Obj)}{σ:L2.St}{H:Hp}{s:Shared}{w:Wd}(I:Inv X pins σ H s)(hz:H sysModules=none):∀(d:D)(v:V)(u:Value)(p:PyData),RD X.K w H d v->RelV v u->toPy d=some p->∃as,Reads s.heap u p as/\sysModules∉as
 |.non,v,u,p,q,r,h=>by cases q.non;cases (show u=Value.none from r);unfold toPy at h;cases h;exact⟨_,.none,λz=>nomatch z⟩
 |.bl b,v,u,p,q,r,h=>by cases q.bl;cases (show u=Value.bool b from r);unfold toPy at h;cases h;exact⟨_,.bool b,λz=>nomatch z⟩
 |.int i,v,u,p,q,r,h=>by cases q.int;obtain⟨t,rfl⟩:=(show ∃t,u=Value.int i t from r);unfold toPy at h;cases h;exact⟨_,.int i t,λz=>nomatch z⟩
 |.str x,v,u,p,q,r,h=>by cases q.str;obtain⟨t,rfl⟩:=(show ∃t,u=Value.str x t from r);unfold toPy at h;cases h;exact⟨_,.str x t,λz=>nomatch z⟩
 |.tup ds,v,u,p,q,r,h=>by
  obtain⟨a,vs,rfl,z,rs⟩:=q.tupI
  cases (show u=Value.ref a from r)
  unfold toPy at h;cases e:cE ds with
  |none=>rw[e]at h;cases h
  |some ps=>
   rw[e]at h;cases h;obtain⟨its,r1,⟨o,ho,hc,n,hd⟩,_⟩:=I.tuple (cn z);obtain⟨as,ra,hn⟩:=oW I hz ds vs its ps rs r1 e;exact⟨as,.tuple ho hc hd ra,hn⟩
 |.lst ds,v,u,p,q,r,h=>by
  obtain⟨a,vs,rfl,z,rs⟩:=q.lstI
  cases (show u=Value.ref a from r)
  unfold toPy at h;cases e:cE ds with
  |none=>rw[e]at h;cases h
  |some ps=>
   rw[e]at h;cases h;obtain⟨its,r1,⟨o,n,ho,hc,_,hd⟩,_⟩:=I.list (SqL.of z.1);obtain⟨as,ra,hn⟩:=oW I hz ds vs its ps rs r1 e;refine⟨a::as,.list ho hc hd ra,λhm=>?_⟩;rcases Jq.mp hm with hm|hm
   .have z1:=z.1;rw[<- hm,hz]at z1;cases z1
   .exact hn hm
 |.dic kvs,v,u,p,q,r,h=>by
  unfold RD at q;obtain⟨a,us,rfl,z,rk⟩:=q
  cases (show u=Value.ref a from r)
  unfold toPy at h;cases e:gX kvs with
  |none=>rw[e]at h;cases h
  |some ps=>
   rw[e]at h;cases h
   obtain⟨_,hsys,vs,kv,o,es,ep,ho,hex,hd,_,hp,_⟩:=(show bw X.prog X.w H s.heap a (.dK us) from I.hok a _ z.1)
   obtain⟨as,bs,ra,rb,hn⟩:=x9 I hz kvs us vs es.toList ps rk kv hp e;refine⟨a::as++bs,.dict ho hex.1 hd ra rb,λhm=>?_⟩;rcases Jt.mp hm with hm|hm
   .rcases Jq.mp hm with hm|hm
    .rw[<- hm]at hsys;simp at hsys
    .exact hn.1 hm
   .exact hn.2 hm
 |.fz _,_,_,_,_,_,h=>by unfold toPy at h;cases h
 |.ref _,_,_,_,_,_,h=>by unfold toPy at h;cases h
 |.ty _,_,_,_,_,_,h=>by unfold toPy at h;cases h
 |.exc _,_,_,_,_,_,h=>by unfold toPy at h;cases h
 |.cls _,_,_,_,_,_,h=>by unfold toPy at h;cases h
theorem oW{pins:List (Addr×Obj)}{σ:L2.St}{H:Hp}{s:Shared}{w:Wd}(I:Inv X pins σ H s)(hz:H sysModules=none):∀(ds:List D)(vs:List V)(us:List Value)(ps:List PyData),RDs X.K w H ds vs->Vals vs us->cE ds=some ps->∃as,ReadsAll s.heap us ps as/\sysModules∉as
 |[],vs,us,ps,q,r,h=>by
  rw[q.nil_inv]at r;cases r;unfold cE at h;cases h
  exact⟨_,.nil,λz=>nomatch z⟩
 |d::ds,_,us,ps,q,r,h=>by
  obtain⟨v,vs,rfl,p,t⟩:=q.cons_inv;unfold cE at h;cases e1:toPy d with
  |none=>rw[e1]at h;cases h
  |some p1=>
   cases e2:cE ds with
   |none=>rw[e1,e2]at h;cases h
   |some p2=>
    rw[e1,e2]at h;cases h;cases r with
    |cons r1 r2=>
     obtain⟨as,ra,h1⟩:=x8 I hz d v _ p1 p r1 e1;obtain⟨bs,rb,h2⟩:=oW I hz ds vs _ p2 t r2 e2;exact⟨as++bs,.cons ra rb,λhm=>(Jt.mp hm).elim h1 h2⟩
theorem x9{pins:List (Addr×Obj)}{σ:L2.St}{H:Hp}{s:Shared}{w:Wd}(I:Inv X pins σ H s)(hz:H sysModules=none):∀(ds:List (Sum Int Str×D))(us:List (Key×V))(vs:List (Key×Value))(es:List DictEntry)(ps:List (PyData×PyData)),RDk X.K w H ds us->KV us vs->Pairs (aV X.prog X.w) es vs->gX ds=some ps->
  ∃as bs,ReadsAll s.heap (es.map (·.key)) (ps.map (·.1)) as/\ReadsAll s.heap (es.map (·.val)) (ps.map (·.2)) bs/\sysModules∉as/\sysModules∉bs
 |[],us,vs,es,ps,q,r,hp,h=>by
  unfold RDk at q;subst q;cases r;unfold gX at h;cases h;cases hp
  exact⟨_,_,.nil,.nil,(λz=>nomatch z),(λz=>nomatch z)⟩
 |(k,d)::ds,us,vs,es,ps,q,r,hp,h=>by
  unfold RDk at q;obtain⟨v,ur,rfl,p,t⟩:=q;unfold gX at h;cases e1:toPy d with
  |none=>rw[e1]at h;cases h
  |some p1=>
   cases e2:gX ds with
   |none=>rw[e1,e2]at h;cases h
   |some p2=>
    rw[e1,e2]at h;cases h;cases r with
    |cons r1 r2=>
     cases hp with
     |cons hk hv hr=>
      rename_i q0 vr e0 es0;obtain⟨k',v'⟩:=q0;obtain⟨ek,rv⟩:=r1;have ek':k=k':=ek;subst ek';obtain⟨as,ra,h1⟩:=x8 I hz d v _ p1 p rv e1;obtain⟨as2,bs2,ra2,rb2,h2⟩:=x9 I hz ds ur vr es0 p2 t r2 hr e2
      have hkey:∃cs,Reads s.heap e0.key (xj k) cs/\cs=[]:=by
       rcases bE hk with⟨i,tk,z1,z2⟩|⟨x,tk,z1,z2⟩
       .have z1':k=Sum.inl i:=z1;subst z1';rw[z2];exact⟨_,.int i tk,rfl⟩
       .have z1':k=Sum.inr x:=z1;subst z1';rw[z2];exact⟨_,.str x tk,rfl⟩
      obtain⟨cs,rc,ec⟩:=hkey;subst ec;have hv':e0.val=v':=hv
      exact⟨[]++as2,as++bs2,.cons rc ra2,.cons (by show Reads s.heap e0.val p1 as;rw[hv'];exact ra) rb2,by rw[Zl];exact h2.1,λhm=>(Jt.mp hm).elim h1 h2.2⟩
end
noncomputable def jA(S:Sto)(d:D):Option PyData:=match d with
 |.ref n=>match S[n]? with
  |some (.lst xs)=>(cE xs).map .list
  |some (.flst xs)=>(cE xs).map .list
  |_=>none
 |d=>toPy d
theorem Ah{pins:List (Addr×Obj)}{σ:L2.St}{H:Hp}{s:Shared}{w:Wd}{S:Sto}(I:Inv X pins σ H s)(hz:H sysModules=none)(hS:RS X.K w H S){d:D}{v:V}{u:Value}{p:PyData}(q:RD X.K w H d v)(r:RelV v u)(h:jA S d=some p):∃as,Reads s.heap u p as/\sysModules∉as:=by
 have main:∀{pp:Addr}{xs:List D}{vs:List V}(sq:SqL X.K H pp vs)(hp:pp≠sysModules)(ra:RDs X.K w H xs vs)(h:(cE xs).map PyData.list=some p)(r:RelV (.ref pp) u),∃as,Reads s.heap u p as/\sysModules∉as:=λ{pp xs vs} sq hp ra h r=>by
  cases (show u=Value.ref pp from r)
  cases e:cE xs with
  |none=>rw[e]at h;cases h
  |some ps=>
   rw[e]at h;cases h;obtain⟨its,r1,⟨o,n,ho,hc,_,hd⟩,_⟩:=I.list sq;obtain⟨as,rs,hn⟩:=oW I hz xs vs its ps ra r1 e;exact⟨pp::as,.list ho hc hd rs,λhm=>(Jq.mp hm).elim (λc=>hp c.symm) hn⟩
 unfold jA at h;split at h
 .rename_i n;obtain⟨pp,rfl,hp⟩:=q.refI;split at h
  .rename_i xs hn;obtain⟨p',hp',vs,hv,ra⟩:=hS.obj _ _ hn;rw[hp]at hp';cases hp'
   exact main (SqL.of hv) (λc=>by rw[c,hz]at hv;cases hv) ra h r
  .rename_i xs hn;obtain⟨p',hp',o,vs,hv,ra⟩:=hS.obj _ _ hn;rw[hp]at hp';cases hp'
   exact main (.inl (.inr ⟨o,hv⟩)) (λc=>by rw[c,hz]at hv;cases hv) ra h r
  .cases h
 .exact x8 I hz _ _ _ _ q r h
def jB(p:PyData):Prop:=p.showable=true/\p.depth<=40/\p.shown.length<=sizeLine
noncomputable instance (p:PyData):Decidable (jB p):=by unfold jB;infer_instance
noncomputable def dw:Sto->List D->Option D
 |S,[d]=>match jA S d with
  |some p=>if jB p then some (.str p.shown) else none
  |none=>none
 |_,_=>none
theorem jC{k:Nat}{o:Obj}(hk:X.K.lookup sysModules=some o)(hr:Room k X.A):bI X (.builtin "repr") (xC X.K E dw):=by
 rintro pins s σ H xs us Q I r ⟨w,S,ds,hS,qs,p⟩;obtain⟨z,hz,p'⟩:=p.of;clear p;unfold dw at hz;split at hz
 .rename_i d;obtain⟨v,rfl,q⟩:=qs.one_inv;obtain⟨u,rfl,ru⟩:=Wx r;cases e:jA S d with
  |none=>rw[e]at hz;cases hz
  |some py=>
   rw[e]at hz;simp only at hz;split at hz
   .rename_i ok;cases hz;obtain⟨as,rd,hn⟩:=Ah I (xZ I hk) hS q ru e
    have hu:X.A.units+(py.depth+1)<cLine:=by have:=hr.un;have:=ok.2.1;omega
    have fin:∀tk h' t,(∀b o,s.heap.get? b=some o->h'.get? b=some o)->EP X pins σ Q (.str py.shown t) { s with heap:=h',toks:=tk }:=λtk h' t hk=>⟨.str py.shown,H,I.kept hk,⟨t,rfl⟩,p'.ret RD.mkS hS⟩
    have stay:∀b o,s.heap.get? b=some o->s.heap.get? b=some o:=λ_ _ z=>z
    have whole:∀{u:Value}{py:PyData},Reads s.heap u py as->py.showable=true->X.A.units+(py.depth+1)<cLine->py.shown.length<=sizeLine->(∀tk h' t,(∀b o,s.heap.get? b=some o->h'.get? b=some o)->EP X pins σ Q (.str py.shown t) { s with heap:=h',toks:=tk })->(match py with | .list _=>True | .tuple _=>True | .dict _=>True|_=>False)->wpAny (model X.prog X.w) X.A (call (.builtin "repr") [u]) (EP X pins σ Q) X.xe s:=λ{u py} rd a b c f g=>by
     cases rd with
     |list h1 h2 h3 h4=>exact repr_of_reads' (.list h1 h2 h3 h4) a (λ_=>hn) hr.gd b stay (λh' u tk hk=>f tk h' u hk) c
     |tuple h1 h2 h3 h4=>exact repr_of_reads' (.tuple h1 h2 h3 h4) a (λ_=>hn) hr.gd b stay (λh' u tk hk=>f tk h' u hk) c
     |dict h1 h2 h3 h4 h5=>exact repr_of_reads' (.dict h1 h2 h3 h4 h5) a (λ_=>hn) hr.gd b stay (λh' u tk hk=>f tk h' u hk) c
     |_=>exact g.elim
    cases rd with
    |none=>exact PySem.P.repr_of_none (fin _ _ _ stay)
    |bool b=>
     have z:=fin (s.toks+1) s.heap s.toks stay;unfold PyData.shown at z;refine PySem.P.repr_of_bool ?_;cases b<;>exact z
    |int i t=>exact PySem.P.repr_of_int (Qk (by have:=ok.1;unfold PyData.showable at this;exact this)) (fin _ _ _ stay)
    |str x t=>exact PySem.P.repr_of_str (fin _ _ _ stay) (by have:=ok.2.2;unfold PyData.shown at this;exact this)
    |list h1 h2 h3 h4=>exact whole (.list h1 h2 h3 h4) ok.1 hu ok.2.2 fin True.intro
    |tuple h1 h2 h3 h4=>exact whole (.tuple h1 h2 h3 h4) ok.1 hu ok.2.2 fin True.intro
    |dict h1 h2 h3 h4 h5=>exact whole (.dict h1 h2 h3 h4 h5) ok.1 hu ok.2.2 fin True.intro
   .cases hz
 .cases hz
theorem Ec{tg d:Expr}{m m1 m2:AM}(h1:SI X E tg d m1)(h2:SI X E tg d m2)(h:∀r S,m r S=m1 r S\/m r S=m2 r S):SI X E tg d m:=⟨
 fo (AW h1.out h2.out) λs H Q zq=>ex6 zq λw r S hr hS hp=>(h r S).elim (λe=>.inl ⟨w,r,S,hr,hS,e▸hp⟩) (λe=>.inr ⟨w,r,S,hr,hS,e▸hp⟩)⟩
noncomputable def aFL(m:EM):AM:=λr S=>match m r S with
 |.ok (.lst _) _=>bJ m bg r S
 |_=>oN m r S
theorem A6{tg d:Expr}{md:EM}(ha:SE X E d md):SI X E tg d (aFL md):=Ec (cA ha) (xD ha) λr S=>by
 unfold aFL;split
 .exact .inl rfl
 .exact .inr rfl
noncomputable def kI:Sto->D->Option Int->Option Int->Option D
 |S,.ref n,lo,hi=>match S[n]? with
  |some (.lst a)=>some (.lst (cutD a lo hi))
  |_=>none
 |S,d,lo,hi=>fe S d lo hi
theorem sQ:SlR X (xL X.K E kI):=by
 rintro pins s σ H x v vl vu lo hi sl Q I rx hs pl pu ⟨w,S,d,hS,qd,p⟩;by_cases hd:∃n,d=.ref n
 .obtain⟨n,rfl⟩:=hd;obtain⟨z,hz,p'⟩:=p.of;clear p;unfold kI at hz;simp only at hz;split at hz
  .rename_i a hn;cases hz;obtain⟨pp,rfl,hp⟩:=qd.refI;obtain⟨q',hq',vs,hv,ra⟩:=hS.obj _ _ hn;rw[hp]at hq';cases hq';exact tF pins s σ H _ v vl vu lo hi sl Q I rx hs pl pu ⟨pp,vs,rfl,SqL.of hv,λq hq=>p'.at (Ext.new hq) (RD.newLst hS hq (ra.cut lo hi)) (hS.new hq)⟩
  .cases hz
 .have e:kI S d lo hi=fe S d lo hi:=by
   unfold kI;split
   .exact(hd ⟨_,rfl⟩).elim
   .rfl
  rw[e]at p;exact gB pins s σ H x v vl vu lo hi sl Q I rx hs pl pu ⟨w,S,d,hS,qd,p⟩
noncomputable def ui:Sto->List D->Option D
 |_,[.tup ds]=>match intsOf ds with
  |some ns=>if ns.length+1<4096 then some (.lst ((bV (_root_.ST.uniqZ ns)).map .int)) else none
  |none=>none
 |_,_=>none
noncomputable def gY(S:Sto)(ds:List D):Option D:=match ds with
 |[.tup _]=>ui S ds
 |_=>uh S ds
noncomputable def Ed(X:Cx):List V->Hp->VK->Prop:=λxs H Q=>∃p vs ns,xs=[.ref p]/\SqT X.K H p vs/\(∀us,Vals vs us->IntsAre us ns)/\ns.length+1<4096/\∀a,H a=none->Q (.ref a) (upd H a (.ext (oU X a (_root_.ST.uniqZ ns))))
theorem Ai(hc:X.calm=true):bI X (.type "set") (Ed X):=by
 rintro pins s σ H xs us Q I r ⟨p,vs,ns,rfl,hq,hi,hb,k⟩;obtain⟨u,rfl,rx⟩:=Wx r;cases rx;obtain⟨its,rv,ht,hz⟩:=I.tuple hq;have hI:=hi its rv;have hl:its.length=ns.length:=hI.length
 refine _root_.ST.call_setT (its:=its.toArray) (ns:=ns) (I.ok.hd hc) ht (by simpa using hI) (by show its.toArray.size+1<4096;rw[Jr];omega) λh' tk hS kp=>?_
 have hf:H s.heap.objs.size=none:=I.hok.fresh (Jd _);refine⟨.ref s.heap.objs.size,_,I.laid (t':=tk) (a:=s.heap.objs.size) (o:=.ext (oU X s.heap.objs.size (_root_.ST.uniqZ ns))) kp (Jd _) ⟨hS,?_,λh1 h2 x y=>x.keep y⟩,rfl,k _ hf⟩;obtain⟨o,_,_,_,e,_⟩:=hS;exact⟨o,e⟩
variable{a:Expr}{ms:AM}{x1 x2:Str}{p1 p2 q1 q2:Pos}
theorem oX(hc:X.calm=true)(g1:Gl X x1)(m1:X.mg x1=none)(v1:bootBuiltins x1=some (.builtin "sorted"))(g2:Gl X x2)(m2:X.mg x2=none)(v2:bootBuiltins x2=some (.type "set"))(ha:SA X E [a] ms)(n1:autoParam (x1 ≠ "__name__") zz3._auto_1)(d1:autoParam ((x1 == ("__debug__":Str))=false) zz3._auto_1)(n2:autoParam (x2 ≠ "__name__") zz3._auto_1)(d2:autoParam ((x2 == ("__debug__":Str))=false) zz3._auto_1)
  (e1:autoParam (starEach [.Call (.Name x2 p2) [a] [] q2] X.env=[(false,eval (.Call (.Name x2 p2) [a] [] q2) X.env)]) zz0._auto_1) (e2:autoParam (starEach [a] X.env=[(false,eval a X.env)]) zz0._auto_1) (b1:autoParam ((backTo q1 (starEach [] X.env)).any (·.1)=false) zz0._auto_1) (b2:autoParam ((backTo q2 (starEach [] X.env)).any (·.1)=false) zz0._auto_1):
  SE X E (.Call (.Name x1 p1) [.Call (.Name x2 p2) [a] [] q2] [] q1) (eB ui ms):=⟨by
 have hi:=iF (p:=p2) (pos:=q2) (Ai hc) g2 m2 v2 ha.out n2 d2 e2 b2;refine aR (kY (p:=p1) (pos:=q1) (xY hc) g1 m1 v1 (n4 hi rJ e1) n1 d1 e1 b1) λs H Q zq=>ex6 zq λw r S hr hS hp=>⟨w,r,S,hr,hS,hp.bind hS λds S1 w1 H1 vs y1 q1 s1 p1=>?_⟩;obtain⟨z,hz,p'⟩:=p1.of;unfold ui at hz;split at hz
 .rename_i ds0;obtain⟨v,rfl,q⟩:=q1.one_inv;split at hz
  .rename_i ns hns;split at hz
   .rename_i hb;cases hz;obtain⟨pa,vs,rfl,at0,ra⟩:=q.tupI
    have hlen:(_root_.ST.uniqZ ns).length<=4096:=by have:=_root_.ST.fold_len ns [];show(ns.foldl _root_.ST.ins1 []).length<=4096;simp at this;omega
    refine⟨pa,vs,ns,rfl,cn at0,λus rv=>jm ra rv hns,hb,λa hf=>?_⟩;refine⟨a,_,rfl,aC,_root_.ST.uniqZ_nd ns,hlen,λb hfb=>?_⟩;have s2:=s1.new (o:=.ext (oU X a (_root_.ST.uniqZ ns))) hf
    have fr:∀c∈w1.st,∃o,H1 c=some o/\∃o',upd H1 a (.ext (oU X a (_root_.ST.uniqZ ns))) c=some o':=λc hc'=>by
     obtain⟨o,e⟩:=s1.there hc'
     exact⟨o,e,o,by rw[ax (aH e hf)];exact e⟩
    exact p'.at ((Ext.new hf).trans (Ext.new hfb) fr) (RD.newLst s2 hfb (jn _)) (s2.new hfb)
   .cases hz
  .cases hz
 .cases hz⟩
theorem CM{e:Expr}{m m1 m2:EM}(h1:SE X E e m1)(h2:SE X E e m2)(h:∀r S,m r S=m1 r S\/m r S=m2 r S):SE X E e m:=⟨λpins s σ H Q I zq=>ex6 zq λw r S hr hS hp=>(h r S).elim (λz=>h1.out pins s σ H Q I ⟨w,r,S,hr,hS,z▸hp⟩) λz=>h2.out pins s σ H Q I ⟨w,r,S,hr,hS,z▸hp⟩⟩
theorem oY{e:Expr}{ms:AM}(h1:SE X E e (eB ui ms))(h2:SE X E e (eB uh ms)):SE X E e (eB gY ms):=CM h1 h2 λr S=>by
 unfold eB;cases e0:ms r S with
 |bad=>exact .inl rfl
 |err x S1=>exact .inl rfl
 |ok ds S1=>
  rw[R.bind_ok,R.bind_ok,R.bind_ok];unfold gY;split
  .exact .inl rfl
  .exact .inr rfl
end
theorem vL{X:Cx}{E:XK}(i:Nat){x:Str}{pos:Pos}(hN:X.N[i]?=some x:=by kernel_rfl)(hv:X.env.scope.names.lookup x=some .local:=by kernel_rfl)(hd:(x == ("__debug__":Str))=false:=by decide +kernel)(hcd:(x == ("__classdict__":Str))=false:=by decide +kernel):SE X E (.Name x pos) (ag i):=wO i hN (Or.inl hv) hd hcd
theorem vC{X:Cx}{E:XK}(i:Nat){x:Str}{pos:Pos}(hN:X.N[i]?=some x:=by kernel_rfl)(hv:X.env.scope.names.lookup x=some .cell:=by kernel_rfl)(hd:(x == ("__debug__":Str))=false:=by decide +kernel)(hcd:(x == ("__classdict__":Str))=false:=by decide +kernel):SE X E (.Name x pos) (ag i):=wO i hN (Or.inr (Or.inl hv)) hd hcd
theorem fsk{N P:List Str}{sc:Scope}(a:sc.kind=.function:=by kernel_rfl)(b:sc.isCoroutine=false:=by kernel_rfl)(c:sc.isGenerator=false:=by kernel_rfl)(d:N.Nodup:=by decide +kernel)(e:N.take P.length=P:=by rfl)(f:∀x∈P,sc.names.lookup x=some .local\/sc.names.lookup x=some .cell:=by decide +kernel)(g:∀y∈sc.names,y.2≠.free:=by decide +kernel):FnScope N P sc:=⟨a,b,c,d,e,f,g⟩
end PD
theorem J0{α:Sort _}{a b:α}(h:a=b:=by kernel_rfl):a=b:=h
theorem J2{α:Sort _}{a b:α}{p:Prop}(h:a=b:=by kernel_rfl):a=b\/p:=Or.inl h
theorem J3{α:Sort _}{a b:α}{p q:Prop}(h:a=b:=by kernel_rfl):p\/a=b\/q:=Or.inr (Or.inl h)
theorem J6{p:Prop}[Decidable p](h:p:=by decide +kernel):p:=h
open L2 in
theorem J1{X:Cx}{x:PySem.Str}(h:Gl X x:=by unfold Gl;kernel_rfl):Gl X x:=h
namespace Lw
open PySem PySem.Spec PyProof.Rows L2 PD
variable{b j x c v q:Int}{S S1 S2 S0 S3 S':Sto}{e a o:EM}{tl r r1 ρ:Rho}{i n l:Nat}{xs K L A B row:List Int}{it t:AM}{caps:List Nat}{f:Addr}{T:List (Int×Int)}{Ls:List (List Int)}{p:List Value → Prop}{nl:Bool}{fd:FuncData}
noncomputable def raisedX:List Str:=["NoNumber","NoRow","TooMany"]
noncomputable def askedX:List Str:=["Bare","Lacking","NoLine","NoNumber","NoRow","NoSigns","NoTable","NoText","PlusError","TooMany"]
noncomputable def isaX(c k:Str):Bool:=c == k||k == "PlusError"
noncomputable abbrev fO:Stmt:=top 32
noncomputable def gJ:SM:=(aF (ba 2 (eOp aI (eOp cD (eC (.int 7919)) (ag 1)) (eC (.int 13)))) (aF (sIf (tV (eOp oLt (ag 1) (eB cL (aa (ag 0) aj)))) (ba 2 (eOp oIx (ag 0) (ag 1))) aY) (aF (sIf (tV (eOp fI (eOp oMod (ag 2) (eC (.int 2))) (eC (.int 0)))) (aT (eNew (aa (eOp iW (ag 2) (eC (.int 2))) aj))) aY) (aF (ba 3 (eC (.int 0))) (aF (d8 (bC (aa (eC (.int 16)) aj)) (.nm 4) (aF (ba 5 (eOp oMod (eOp aI (eOp aI (eOp cD (eOp oMod (ag 2) (eC (.int 2147483647))) (eC (.int 48271))) (eOp cD (eC (.int 7919)) (ag 4))) (eC (.int 1))) (eC (.int 2147483647)))) (aF (ba 5 (eOp oMod (eOp cD (ag 5) (ag 5)) (eC (.int 2147483629)))) (ba 3 (eOp aI (eOp cD (ag 3) (eC (.int 2147483647))) (eOp oMod (eOp cD (ag 5) (eOp aI (ag 5) (eC (.int 13)))) (eC (.int 2147483647)))))))) (aT (eNew (aa (ag 3) aj))))))))
noncomputable def dy:FM:=fnM 6 gJ
noncomputable abbrev ft:Stmt:=top 33
noncomputable def ir:SM:=(aF (BX (.tp [(.nm 2),(.nm 3)]) (eB kM (aa (eOp oIx (ag 0) (eC (.int 0))) (aa (ag 1) aj)))) (aF (pL xh (ag 2) (ag 0) (eC (.int 0))) (aT (ag 3))))
noncomputable def aL:FM:=fnM 4 ir
noncomputable abbrev fP:Stmt:=top 36
noncomputable def i8:SM:=(aF (ba 1 (cC (aa (eC .non) (aa (eC (.bl true)) (aa (eC (.bl false)) (aa (eUn ef (eC (.int 1))) (aa (eC (.int 2)) (aa (eC (.str "")) (aa (eC (.str "1")) (aa (bz (aa (eC (.int 0)) aj)) (aa (cC (aa (eC (.int 1)) aj)) (aa (rW [((eC (.str "a")),(eC (.int 1)))]) (aa (bz (aa (eUn ef (eC (.int 1))) aj)) (aa (bz (aa (eC (.bl true)) aj)) (aa (bz (aa (bz (aa (eC (.int 1)) aj)) aj)) (aa (bz (aa (eC .non) aj)) (aa (eOp ou (eC (.int 10)) (eC (.int 29))) (aa (cC aj) aj)))))))))))))))))) (aT (eOp oIx (ag 1) (aA aL (aa (ag 0) (aa (eC (.int 16)) aj))))))
noncomputable def eI:FM:=fnM 2 i8
noncomputable abbrev fu:Stmt:=top 41
noncomputable def iu:SM:=(aF (ba 3 (aA aL (aa (ag 0) (aa (eB cL (aa (ag 1) aj)) aj)))) (aF (ba 4 (eOp oIx (ag 1) (ag 3))) (aF (ba 5 (aA aL (aa (ag 0) (aa (eOp aI (eB cL (aa (ag 4) aj)) (eC (.int 1))) aj)))) (aF (ba 6 (eOp oIx (eOp aI (eSl fe (ag 4) (bT (ag 5)) oNo) (bz (aa (eC (.int 0)) aj))) (eC (.int 0)))) (aF (ba 7 (cC (aa (eOp aI (eSl fe (ag 4) oNo (bT (ag 5))) (eSl fe (ag 4) (bT (eOp aI (ag 5) (eC (.int 1)))) oNo)) (aa (eOp aI (eOp aI (eSl fe (ag 4) oNo (bT (ag 5))) (bz (aa (eOp aI (ag 6) (eC (.int 1))) aj))) (eSl fe (ag 4) (bT (eOp aI (ag 5) (eC (.int 1)))) oNo)) (aa (eB df (aa (eB gY (aa (eOp aI (ag 4) (bz (aa (eOp aI (ag 6) (eC (.int 2))) aj))) aj)) aj)) aj))))) (aF (ba 7 (eOp aI (ag 7) (cC (aa (eB lH (aa (ag 4) aj)) (aa (eOp aI (ag 4) (eSl fe (ag 4) (bT (eUn ef (eC (.int 1)))) oNo)) (aa (xP (ag 4) (eUn ef (eC (.int 1)))) (aa (eOp aI (eOp aI (eSl fe (ag 4) oNo (bT (ag 5))) (bz (aa (eOp fI (ag 6) (eC (.int 1))) aj))) (eSl fe (ag 4) (bT (eOp aI (ag 5) (eC (.int 1)))) oNo)) (aa (ag 2) (aa (bz aj) (aa (bz (aa (eC (.int 0)) aj)) aj)))))))))) (aF (ba 8 (aA aL (aa (ag 0) (aa (eC (.int 13)) aj)))) (aF (sIf (tV (eOp oLt (ag 8) (eC (.int 10)))) (aT (eOp aI (eOp aI (eSl kI (ag 1) oNo (bT (ag 3))) (cC (aa (eOp oIx (ag 7) (ag 8)) aj))) (eSl kI (ag 1) (bT (eOp aI (ag 3) (eC (.int 1)))) oNo))) aY) (aT (eOp oIx (cC (aa (eB df (aa (ag 1) aj)) (aa (eSl kI (ag 1) oNo (bT (eUn ef (eC (.int 1))))) (aa (eOp nG (ag 1) (cC (aa (bz aj) aj))) aj)))) (eOp hU (ag 8) (eC (.int 10)))))))))))))
noncomputable def bW:FM:=fnM 9 iu
noncomputable abbrev eQ:Stmt:=top 34
noncomputable def jD:SM:=(aT (rP (eB di (aa (ag 0) (aa (eC (.ty "int")) aj))) (zk (eB di (aa (ag 0) (aa (eC (.ty "bool")) aj))))))
noncomputable def bX:FM:=fnM 1 jD
noncomputable abbrev cW:Stmt:=top 40
noncomputable def gZ:SM:=(aF (sIf (PD.tOr (PD.cS (tV (eB fm (aa (ag 0) (aa (eC (.ty "list")) aj))))) (tV (eOp eh (eB cL (aa (ag 0) aj)) (eOp aI (eB cL (aa (ag 1) aj)) (eC (.int 1)))))) (aT (eC (.bl false))) aY) (aF (d8 (aFL (ag 0)) (.nm 3) (sIf (PD.tOr (PD.cS (tV (eB di (aa (ag 3) (aa (eC (.ty "tuple")) aj))))) (PD.tOr (PD.cS (tV (eB gC (aa (bf (bJ (ag 3) bg) 1 [] (.nm 0) bh (aA bX (aa (ag 0) aj))) aj)))) (tV (eOp eh (eB lH (aa (ag 3) aj)) (eB gY (aa (ag 3) aj)))))) (aT (eC (.bl false))) aY)) (aF (sIf (PD.tOr (PD.iP (tV (eOp oGe (ag 2) (eC (.int 0)))) (tV (eOp (oIn true) (eC (.int 0)) (eOp oIx (ag 0) (eC (.int 0)))))) (tV (eOp eh (eOp oIx (ag 0) (eUn ef (eC (.int 1)))) (bz aj)))) (aT (eC (.bl false))) aY) (aF (d8 (bC (aa (eB cL (aa (ag 1) aj)) aj)) (.nm 4) (d8 (bJ (eOp oIx (ag 0) (ag 4)) bg) (.nm 5) (d8 (bJ (bz (aa (eOp aI (ag 5) (eOp oIx (ag 1) (ag 4))) (aa (eOp hU (ag 5) (eOp oIx (ag 1) (ag 4))) aj))) bg) (.nm 6) (sIf (PD.iP (tV (eOp oLe (eB ig (aa (ag 6) aj)) (ag 2))) (tV (eOp (oIn true) (ag 6) (eOp oIx (ag 0) (eOp aI (ag 4) (eC (.int 1))))))) (aT (eC (.bl false))) aY)))) (aT (eC (.bl true)))))))
noncomputable def br:FM:=fnM 7 gZ
noncomputable abbrev eR:Stmt:=top 39
noncomputable def jE:SM:=(aF (ba 2 (eNew (aa (eIf (tV (eOp oGe (ag 1) (eC (.int 0)))) (bz (aa (eC (.int 0)) aj)) (bz aj)) aj))) (aF (d8 (bJ (ag 0) bg) (.nm 3) (aF (ba 4 (eOp aI (bf (bJ (eOp oIx (ag 2) (eUn ef (eC (.int 1)))) bg) 1 [3] (.nm 0) bh (eOp aI (ag 0) (ag 1))) (bf (bJ (eOp oIx (ag 2) (eUn ef (eC (.int 1)))) bg) 1 [3] (.nm 0) bh (eOp hU (ag 0) (ag 1))))) (dg (lI dj (ag 2) (aa (eB df (aa (eB gY (aa (bf (bJ (ag 4) bg) 1 [1] (.nm 0) (tV (eOp oLe (eB ig (aa (ag 0) aj)) (ag 1))) (ag 0)) aj)) aj)) aj))))) (aT (ag 2))))
noncomputable def dW:FM:=fnM 5 jE
noncomputable abbrev dk:Stmt:=top 37
noncomputable def iw:SM:=(aF (ba 1 (cC (aa (eB (kf raisedX askedX isaX) (aa (ag 0) (aa (eC (.cls "NoRow")) aj))) (aa (eB (kf raisedX askedX isaX) (aa (ag 0) (aa (eC (.cls "NoNumber")) aj))) (aa (eB (kf raisedX askedX isaX) (aa (ag 0) (aa (eC (.cls "NoSigns")) aj))) (aa (eB (kf raisedX askedX isaX) (aa (ag 0) (aa (eC (.cls "TooMany")) aj))) aj)))))) (aF (ba 1 (eOp aI (ag 1) (cC (aa (eB (kf raisedX askedX isaX) (aa (ag 0) (aa (eC (.cls "Lacking")) aj))) (aa (eB (kf raisedX askedX isaX) (aa (ag 0) (aa (eC (.cls "Bare")) aj))) (aa (eB (kf raisedX askedX isaX) (aa (ag 0) (aa (eC (.cls "NoTable")) aj))) (aa (eB (kf raisedX askedX isaX) (aa (ag 0) (aa (eC (.cls "NoLine")) aj))) aj))))))) (aT (eOp aI (ag 1) (cC (aa (eB (kf raisedX askedX isaX) (aa (ag 0) (aa (eC (.cls "NoText")) aj))) aj))))))
noncomputable def dX:FM:=fnM 2 iw
noncomputable abbrev fw:Stmt:=top 38
noncomputable def kz:SM:=(aF (sIf (PD.tOr (PD.cS (tV (eB (kf raisedX askedX isaX) (aa (ag 0) (aa (eC (.cls "PlusError")) aj))))) (PD.cS (tV (eB (kf raisedX askedX isaX) (aa (ag 0) (aa (eC (.ty "ValueError")) aj)))))) (aT (eC (.bl false))) aY) (aT (eOp fI (aA dX (aa (ag 0) aj)) (bf (bC (aa (eC (.int 9)) aj)) 1 [1] (.nm 0) bh (eOp oEq (ag 0) (ag 1))))))
noncomputable def eY:FM:=fnM 2 kz
noncomputable abbrev fQ:Stmt:=top 13
noncomputable def i9:SM:=(aT (rP (eB di (aa (ag 0) (aa (eC (.ty "int")) aj))) (zk (eB di (aa (ag 0) (aa (eC (.ty "bool")) aj))))))
noncomputable def bR:FM:=fnM 1 i9
noncomputable abbrev fA:Stmt:=top 24
noncomputable def kA:SM:=(aF (sIf (PD.tOr (PD.cS (tV (eB di (aa (ag 0) (aa (eC (.ty "tuple")) aj))))) (PD.cS (tV (eB gC (aa (bf (bJ (ag 0) bg) 1 [] (.nm 0) bh (aA bR (aa (ag 0) aj))) aj))))) (aT (eC (.bl false))) aY) (aT (eB gC (aa (bf (jx (aa (eC (.int 1)) (aa (eB cL (aa (ag 0) aj)) aj))) 1 [0] (.nm 0) bh (eOp oLt (eOp oIx (ag 1) (eOp hU (ag 0) (eC (.int 1)))) (eOp oIx (ag 1) (ag 0)))) aj))))
noncomputable def cP:FM:=fnM 1 kA
noncomputable abbrev cB:Stmt:=top 28
noncomputable def fR:SM:=(aF (ba 4 (eBR qq (aa (bf (bJ (ag 1) bg) 1 [] (.nm 0) bh (bz (aa (ag 0) (aa (eC (.bl true)) aj)))) aj))) (aF (d8 (bJ (ag 0) bg) (.nm 5) (d8 (bJ (eC (.tup (([(-1),(1)]:List Int).map .int))) bg) (.nm 6) (aF (ba 7 (eOp aI (ag 5) (eOp cD (ag 6) (ag 2)))) (sIf (PD.iP (tV (eOp oLe (eB ig (aa (ag 7) aj)) (ag 3))) (tV (eOp (sh true) (ag 7) (ag 4)))) (aT (eC (.bl false))) aY)))) (aT (eC (.bl true)))))
noncomputable def bG:FM:=fnM 8 fR
noncomputable abbrev iJ:Stmt:=top 14
noncomputable def iy:SM:=(aF (sIf (PD.tOr (PD.cS (tV (eB di (aa (ag 0) (aa (eC (.ty "tuple")) aj))))) (tV (eOp oGt (eB cL (aa (ag 0) aj)) (eC (.int (16)))))) (aT (eC (.bl false))) aY) (aT (eB gC (aa (bf (bJ (ag 0) bg) 1 [] (.nm 0) bh (rP (aA bR (aa (ag 0) aj)) (eOp oGe (ag 0) (eC (.int 1))))) aj))))
noncomputable def eZ:FM:=fnM 1 iy
noncomputable abbrev fT:Stmt:=top 15
noncomputable def mz:SM:=(sIf (tNx (PD.cS (tV (aA eZ (aa (ag 0) aj))))) (jY "NoRow" (aa (eC (.str "a row is a tuple of 0 to 16 whole numbers from 1 on")) aj)) aY)
noncomputable def cQ:FM:=fnM 1 mz
noncomputable abbrev fU:Stmt:=top 21
noncomputable def mB:SM:=(aF (dg (aA cQ (aa (ag 0) aj))) (sIf (tNx (tV (eOp oGt (eB cL (aa (ag 0) aj)) (eC (.int (10)))))) (jY "TooMany" (aa (eC (.str "here rows have at most ten numbers")) aj)) aY))
noncomputable def eJ:FM:=fnM 1 mB
noncomputable abbrev dY:Stmt:=top 16
noncomputable def iZ:SM:=(sIf (tNx (PD.cS (tV (aA bR (aa (ag 0) aj))))) (jY "NoNumber" (aa (eC (.str "this is no whole number")) aj)) aY)
noncomputable def cc:FM:=fnM 1 iZ
noncomputable abbrev bL:Stmt:=top 17
noncomputable def et:SM:=(aF (dg (aA cQ (aa (ag 0) aj))) (dg (aA cc (aa (ag 1) aj))))
noncomputable def aU:FM:=fnM 2 et
noncomputable abbrev bM:Stmt:=top 22
noncomputable def eu:SM:=(aF (dg (aA aU (aa (ag 0) (aa (ag 1) aj)))) (dg (aA eJ (aa (ag 0) aj))))
noncomputable def aG:FM:=fnM 2 eu
noncomputable abbrev cK:Stmt:=top 29
noncomputable def gm:SM:=(aF (dg (aA aG (aa (ag 1) (aa (ag 2) aj)))) (aF (sNx (sIf (PD.tOr (PD.cS (tV (eB fm (aa (ag 0) (aa (eC (.ty "list")) aj))))) (tV (eOp eh (eB cL (aa (ag 0) aj)) (eOp aI (eB cL (aa (ag 1) aj)) (eC (.int 1)))))) (aT (eC (.bl false))) aY)) (aF (sNx (sIf (PD.tOr (PD.cS (tV (eB gC (aa (bf (aFL (ag 0)) 1 [] (.nm 0) bh (aA cP (aa (ag 0) aj))) aj)))) (tV (eOp eh (eOp oIx (ag 0) (eUn ef (eC (.int 1)))) (bz aj)))) (aT (eC (.bl false))) aY)) (aF (sNx (sIf (PD.iP (tV (eOp oGe (ag 2) (eC (.int 0)))) (tV (eOp (oIn true) (eC (.int 0)) (eOp oIx (ag 0) (eC (.int 0)))))) (aT (eC (.bl false))) aY)) (sNx (aT (eB gC (aa (bf (tY (aa (ag 1) aj)) 2 [0,2] (.tp [(.nm 0),(.nm 1)]) bh (aA bG (aa (eOp oIx (ag 2) (ag 0)) (aa (eOp oIx (ag 2) (eOp aI (ag 0) (eC (.int 1)))) (aa (ag 1) (aa (ag 3) aj)))))) aj))))))))
noncomputable def aN:FM:=fnM 3 gm
noncomputable abbrev dZ:Stmt:=top 26
noncomputable def i0:SM:=(aT (eBR qq (aa (bf (kj (ag 0)) 2 [1] (.tp [(.nm 0),(.nm 1)]) (tV (eOp oLe (eB ig (aa (ag 0) aj)) (ag 2))) (bz (aa (ag 0) (aa (ag 1) aj)))) aj)))
noncomputable def cf:FM:=fnM 2 i0
noncomputable abbrev gK:Stmt:=top 23
noncomputable def nJ:SM:=(aF (ba 3 A3) (aF (d8 (kj (ag 0)) (.tp [(.nm 4),(.nm 5)]) (d8 (bJ (ag 2) bg) (.nm 6) (aF (ba 7 (eOp aI (ag 4) (eOp cD (ag 6) (ag 1)))) (pL nB (eOp aI (lR (ag 3) (ag 7) (eC (.int 0))) (ag 5)) (ag 3) (ag 7))))) (aT (ag 3))))
noncomputable def fE:FM:=fnM 8 nJ
noncomputable abbrev cX:Stmt:=top 27
noncomputable def g4:SM:=(aF (ba 2 (aA cf (aa (tQ [((eC (.int 0)),(eC (.int 1)))]) (aa (ag 1) aj)))) (aF (ba 3 (eNew (aa (ag 2) aj))) (aF (d8 (bJ (ag 0) bg) (.nm 4) (aF (ba 2 (aA cf (aa (aA fE (aa (ag 2) (aa (ag 4) (aa (eC (.tup (([(-1),(1)]:List Int).map .int))) aj)))) (aa (ag 1) aj)))) (dg (lI dj (ag 3) (aa (ag 2) aj))))) (aT (ag 3)))))
noncomputable def cF:FM:=fnM 5 g4
noncomputable abbrev d5:Stmt:=top 30
noncomputable def i4:SM:=(aF (dg (aA aG (aa (ag 0) (aa (ag 1) aj)))) (aF (sNx (ba 2 (aA cF (aa (ag 0) (aa (ag 1) aj))))) (sNx (aT (eIf (tV (eOp oQ (eOp oIx (ag 2) (eUn ef (eC (.int 1)))) (rW []))) (lY (oN (ag 2)) 1 [] (.nm 0) bh (eB df (aa (eB su (aa (ag 0) aj)) aj))) (eC .non))))))
noncomputable def aX:FM:=fnM 3 i4
noncomputable abbrev fB:Stmt:=top 42
noncomputable def kB:SM:=(jZ raisedX 4 5 (aF (sIf (tNx (tV (eOp fI (ag 0) (eC (.int 0))))) (aT (aA aN (aa (ag 1) (aa (ag 2) (aa (ag 3) aj))))) aY) (aT (aA aX (aa (ag 2) (aa (ag 3) aj))))) (aT (eOp aI (cC (aa (eC (.str "refused")) aj)) (bf (bC (aa (eC (.int 9)) aj)) 1 [4] (.nm 0) (tV (aA eY (aa (ag 1) (aa (ag 0) aj)))) (ag 0)))))
noncomputable def bc:FM:=fnM 5 kB
noncomputable abbrev eS:Stmt:=top 43
noncomputable def jF:SM:=(aF (ba 4 (aA dW (aa (ag 1) (aa (ag 2) aj)))) (aF (ba 5 (eIf (tV (eOp fI (eOp oIx (ag 4) (eUn ef (eC (.int 1)))) (bz aj))) (ag 4) (eC .non))) (aF (d8 (bC (aa (eC (.int 2)) aj)) (.nm 6) (aF (ba 8 (aA bc (aa (eC (.int 1)) (aa (eC .non) (aa (ag 1) (aa (ag 2) aj)))))) (aF (sIf (tV (eOp eh (eB dw (aa (ag 8) aj)) (eB dw (aa (ag 5) aj)))) (aT (eC (.bl false))) aY) (sIf (tV (eOp (zK true) (ag 5) (eC .non))) (dg (lI dj (ag 8) (aa (bz aj) aj))) aY)))) (aF (d8 (bJ (eOp aI (cC (aa (ag 4) (aa (ag 3) (aa (cC aj) (aa (eOp cD (cC (aa (bz aj) aj)) (eOp aI (eB cL (aa (ag 1) aj)) (eC (.int 1)))) aj))))) (bf (bC (aa (eC (.int 4)) aj)) 1 [0,4,3] (.nm 0) bh (aA bW (aa (ag 1) (aa (ag 2) (aa (ag 3) aj)))))) bg) (.nm 7) (aF (ba 9 (eB dw (aa (ag 7) aj))) (aF (ba 10 (aA bc (aa (eC (.int 0)) (aa (ag 7) (aa (ag 1) (aa (ag 2) aj)))))) (sIf (PD.tOr (PD.cS (tV (eB di (aa (ag 10) (aa (eC (.ty "bool")) aj))))) (PD.tOr (tV (eOp eh (ag 10) (aA br (aa (ag 7) (aa (ag 1) (aa (ag 2) aj)))))) (tV (eOp eh (eB dw (aa (ag 7) aj)) (ag 9))))) (aT (eC (.bl false))) aY)))) (aT (eC (.bl true)))))))
noncomputable def cY:FM:=fnM 11 jF
noncomputable abbrev fV:Stmt:=top 35
noncomputable def mC:SM:=(aF (ba 2 (aA aL (aa (ag 0) (aa (eOp aI (ag 1) (eC (.int 1))) aj)))) (aF (ba 3 (aA aL (aa (ag 0) (aa (eC (.int 6)) aj)))) (aF (ba 4 (eOp aI (eC (.int 1)) (aA aL (aa (ag 0) (aa (eC (.int 9)) aj))))) (aF (ba 5 (eNew aj)) (aF (d8 (bC (aa (ag 2) aj)) (.nm 6) (aF (ba 7 (eOp aI (eC (.int 1)) (aA aL (aa (ag 0) (aa (eC (.int 12)) aj))))) (dg (lI dj (ag 5) (aa (eOp oIx (cC (aa (ag 7) (aa (ag 7) (aa (ag 4) (aa (eOp rV (eC (.int 1)) (ag 6)) (aa (eOp aI (ag 4) (eOp cD (ag 6) (ag 7))) (aa (eOp aI (eOp cD (eOp ou (eC (.int 10)) (eC (.int 12))) (ag 7)) (ag 4)) aj))))))) (ag 3)) aj))))) (aT (eB df (aa (ag 5) aj))))))))
noncomputable def fJ:FM:=fnM 8 mC
noncomputable abbrev km:Stmt:=top 44
noncomputable def A7:SM:=(aF (d8 (bJ (cC (aa (bz (aa (eC (.int 1)) (aa (eC (.int 3)) aj))) (aa (bz (aa (eC .non) (aa (eC (.int 1)) aj))) aj))) bg) (.tp [(.nm 1),(.nm 2)]) (sIf (tV (eOp eh (bf (bC (aa (eC (.int 2)) aj)) 1 [1] (.nm 0) bh (aA bc (aa (ag 0) (aa (eC .non) (aa (eOp cD (bz (aa (eC (.int 1)) aj)) (eC (.int 11))) (aa (ag 1) aj)))))) (eOp cD (cC (aa (cC (aa (eC (.str "refused")) (aa (ag 2) aj))) aj)) (eC (.int 2))))) (aT (eC (.bl false))) aY)) (aF (d8 (bC (aa (eB xc (aa (eC (.int 1)) (aa (eB xf (aa (eB cL (aa (ag 0) aj)) (aa (eC (.int 3)) aj))) aj))) aj)) (.nm 3) (aF (ba 4 (aA dy (aa (ag 0) (aa (ag 3) aj)))) (aF (ba 5 (aA fJ (aa (ag 4) (aa (eC (.int 7)) aj)))) (aF (ba 6 (aA eI (aa (ag 4) aj))) (aF (ba 7 (eB nF (aa (eOp aI (bz (aa (eC (.int 0)) aj)) (ag 5)) aj))) (d8 (bJ (cC (aa (eOp hU (eOp iW (ag 7) (eC (.int 2))) (eC (.int 1))) (aa (eOp iW (ag 7) (eC (.int 2))) (aa (eOp hU (ag 7) (eC (.int 1))) (aa (eUn ef (eC (.int 1))) (aa (aA aL (aa (ag 4) (aa (eC (.int 20)) aj))) aj)))))) bg) (.nm 1) (sIf (PD.cS (tV (aA cY (aa (ag 4) (aa (ag 5) (aa (ag 1) (aa (ag 6) aj))))))) (aT (eC (.bl false))) aY))))))) (aT (eC (.bl true)))))
noncomputable def uj:FM:=fnM 8 A7
structure Gr(b:Nat)(S S':Sto):Prop where
 bx:∃n,S'[b]?=some (.lst [.int n])
 oth:∀i,i≠b->i<S.length->S'[i]?=S[i]?
 len:S.length<=S'.length
theorem Gr.trans{b:Nat}(x:Gr b S S1)(y:Gr b S1 S2):Gr b S S2:=
 ⟨y.bx,λi h l=>(y.oth i h (Y1 l x.len)).trans (x.oth i h l),Ys x.len y.len⟩
theorem Gr.self{b:Nat}(x:Gr b S S1):Gr b S1 S1:=⟨x.bx,λ_ _ _=>rfl,Jd _⟩
theorem Gr.more{b:Nat}(x:Gr b S S1)(l:Sto):Gr b S (S1++l):=by
 obtain⟨n,hn⟩:=x.bx;have hb:b<S1.length:=(Jf.mp hn).1
 refine⟨⟨n,by rw[Jw hb];exact hn⟩,λi h hl=>?_,by rw[Jm];have:=x.len;omega⟩
 rw[Jw (Y1 hl x.len)];exact x.oth i h hl
theorem Aj{b:Nat}{n many:Int}(h:S[b]?=some (.lst [.int n]))(h0:0<many)(h1:many<1073741824):aL [.ref b,.int many] S=.ok (.int (n%many)) (S.set b (.lst [.int (n/many)])):=by simp[aL,fnM,ir,aF,BX,pL,aT,eB,eOp,ag,eC,aa,aj,R.bind,R.of,oIx,bO,h,atI,ixN,kM,h0,h1,G.put,G.puts,xh]
theorem fC{b:Nat}(h:Gr b S S){many:Int}(h0:0<many)(h1:many<1073741824):∃q S',aL [.ref b,.int many] S=.ok (.int q) S'/\0<=q/\q<many/\Gr b S S':=by
 obtain⟨n,hn⟩:=h.bx;have hb:b<S.length:=(Jf.mp hn).1
 refine⟨_,_,Aj hn h0 h1,Gf _ (by omega),Ur _ h0,⟨n/many,by simp[hb]⟩,λi hi _=>?_,by simp⟩
 rw[Ye (Ne.symm hi)]
noncomputable abbrev kR:SM:=(aF (ba 5 (eOp oMod (eOp aI (eOp aI (eOp cD (eOp oMod (ag 2) (eC (.int 2147483647))) (eC (.int 48271))) (eOp cD (eC (.int 7919)) (ag 4))) (eC (.int 1))) (eC (.int 2147483647)))) (aF (ba 5 (eOp oMod (eOp cD (ag 5) (ag 5)) (eC (.int 2147483629)))) (ba 3 (eOp aI (eOp cD (ag 3) (eC (.int 2147483647))) (eOp oMod (eOp cD (ag 5) (eOp aI (ag 5) (eC (.int 13)))) (eC (.int 2147483647)))))))
theorem ya(S:Sto)(a b:Option D)(h n j:Int)(r5:Option D):∃(n':Int)(x:Int),kR [a,b,some (.int h),some (.int n),some (.int j),r5] S=.ok (.nx [a,b,some (.int h),some (.int n'),some (.int j),some (.int x)]) S:=by
 have s1:du 48271:=by decide
 have s2:du 7919:=by decide
 have s3:du 2147483647:=by decide
 have h1:∀y:Int,du (y%2147483647):=λy=>by
  have:=Gf y (show(2147483647:Int)≠0 by decide)
  have:=Ur y (show(0:Int)<2147483647 by decide)
  exact⟨by omega,by omega⟩
 have h2:∀y:Int,du (y%2147483629):=λy=>by
  have:=Gf y (show(2147483629:Int)≠0 by decide)
  have:=Ur y (show(0:Int)<2147483629 by decide)
  exact⟨by omega,by omega⟩
 refine⟨n*2147483647+((h%2147483647*48271+7919*j+1)%2147483647*((h%2147483647*48271+7919*j+1)%2147483647)%2147483629)*((h%2147483647*48271+7919*j+1)%2147483647*((h%2147483647*48271+7919*j+1)%2147483647)%2147483629+13)%2147483647,(h%2147483647*48271+7919*j+1)%2147483647*((h%2147483647*48271+7919*j+1)%2147483647)%2147483629,?_⟩;simp only[kR,aF,ba,eOp,ag,eC,R.bind,R.of,oMod,aI,Z7,Z6,Yn,Zm,fG (.inr s1),fG (.inl s2),fG (.inr s3),fG (.inl (h1 _)),fG (.inl (h2 _)),Int.reduceLT,Z0]
theorem qD(h:Int):∀(l:List Nat)(S:Sto)(a b:Option D)(n:Int)(j r5:Option D),∃(n':Int)(j' r5':Option D),
  forL (.nm 4) kR (l.map λ(i:Nat)=>D.int i) [a,b,some (.int h),some (.int n),j,r5] S=.ok (.nx [a,b,some (.int h),some (.int n'),j',r5']) S
 |[],S,a,b,n,j,r5=>⟨n,j,r5,rfl⟩
 |i::l,S,a,b,n,j,r5=>by obtain⟨n1,x,e1⟩:=ya S a b h n i r5;obtain⟨n',j',r5',e⟩:=qD h l S a b n1 (some (.int i)) (some (.int x));refine⟨n',j',r5',?_⟩;rw[Jp,forL];simp only[G.put,Yn,Zm,e1,R.bind_ok];exact e
theorem CN(ns:List Int)(k:Nat)(S:Sto):∃v:Int,dy [.fz (ns.map .int),.int k] S=.ok (.ref S.length) (S++[.lst [.int v]]):=by
 have hz:(1:Nat)<=sizeLine:=by decide
 have s2:du 7919:=by decide
 have rest:∀c:Int,∃v:Int,(aF (sIf (tV (eOp fI (eOp oMod (ag 2) (eC (.int 2))) (eC (.int 0)))) (aT (eNew (aa (eOp iW (ag 2) (eC (.int 2))) aj))) aY) (aF (ba 3 (eC (.int 0))) (aF (d8 (bC (aa (eC (.int 16)) aj)) (.nm 4) kR) (aT (eNew (aa (ag 3) aj)))))) [some (.fz (ns.map .int)),some (.int k),some (.int c),none,none,none] S=.ok (.rt (.ref S.length)) (S++[.lst [.int v]]):=λc=>by
  by_cases hc:c%2=0
  .refine⟨c/2,?_⟩;simp[aF,ba,sIf,aT,aY,tV,eNew,eB,aA,eOp,ag,eC,aa,aj,R.bind,R.of,oMod,fI,eqP,eqS,hc,iW,hz]
  .obtain⟨n',j',r5',e⟩:=qD c (List.range 16) S (some (.fz (ns.map .int))) (some (.int k)) 0 none none;refine⟨n',?_⟩;have hr:(16:Int).toNat=16:=rfl;simp only[aF,ba,sIf,aT,aY,tV,eNew,eB,aA,eOp,ag,eC,aa,aj,R.bind,R.of,oMod,fI,eqP,eqS,hc,d8,bC,hz,Z7,Z6,Yn,Zm,Int.reduceLT,Z0,Q1,Option.map_some,Jy,Yp,Int.reduceLE,and_self,Int.reducePow,Int.reduceNeg,hr,e,Jk,Y3,Nat.reduceAdd]
 by_cases hk:k<ns.length
 .obtain⟨v,e⟩:=rest (ns.getD k 0);refine⟨v,?_⟩
  have hi:atI (ns.map D.int) (k:Int)=some (.int (ns.getD k 0)):=by simp[atI,ixN,hk]
  have hk':(k:Int)<(ns.length:Int):=by omega
  unfold dy fnM gJ;simp only[Jp,Wb,Jk,Y3,Nat.reduceAdd,Nat.reduceSub,List.replicate,Qf,Zl];rw[aF];simp only[ba,eOp,ag,eC,R.bind,R.of,aI,fG (.inl s2),Z7,Z6,Yn,Zm];rw[aF];simp only[sIf,ba,aY,tV,eB,eOp,ag,eC,aa,aj,R.bind,R.of,oIx,bO,lD,cL,Jg,hk',W8,Z0,hi,Z7,Z6,Yn,Zm,Option.map_some];rw[e]
 .obtain⟨v,e⟩:=rest (7919*(k:Int)+13);refine⟨v,?_⟩
  have hk':¬(k:Int)<(ns.length:Int):=by omega
  unfold dy fnM gJ;simp only[Jp,Wb,Jk,Y3,Nat.reduceAdd,Nat.reduceSub,List.replicate,Qf,Zl];rw[aF];simp only[ba,eOp,ag,eC,R.bind,R.of,aI,fG (.inl s2),Z7,Z6,Yn,Zm];rw[aF];simp only[sIf,ba,aY,tV,eB,eOp,ag,eC,aa,aj,R.bind,R.of,oIx,bO,lD,cL,Jg,hk',Q1,Jy,Yp,Z7,Z6,Yn,Zm,Option.map_some];rw[e]
noncomputable def jG:D->Bool
 |.fz _=>false
 |.ref _=>false
 |.ty _=>false
 |.exc _=>false
 |.cls _=>false
 |_=>true
noncomputable def isI:D->Bool
 |.int _=>true
 |_=>false
theorem gn{d:D}(h:jG d=true):bR [d] S=.ok (.bl (isI d)) S:=by cases d<;>first|(cases h;done)|(simp[bR,fnM,i9,aT,rP,zk,eB,ag,eC,aa,aj,R.bind,R.of,di,tyD,dP,isI])
noncomputable def um:D->Bool
 |.int i=>decide (1<=i)
 |_=>false
theorem fW{A:Type}(f:A->Bool):∀xs:List A,boolsOf (xs.map λx=>D.bl (f x))=some (xs.map f)
 |[]=>rfl
 |x::xs=>by rw[Jp,boolsOf,fW f xs];rfl
theorem nK{f:D->Bool}:∀(xs:List D)(r0:Option D)(S:Sto),(∀x∈xs,e (some x::tl) S=.ok (.bl (f x)) S)->cy (.nm 0) bh e xs (r0::tl) S=.ok (xs.map λx=>D.bl (f x)) S
 |[],_,_,_=>rfl
 |x::xs,r0,S,h=>by have h1:=h x Y6;have h2:=nK xs (some x) S λy hy=>h y (Y4 _ hy);rw[cy];simp only[G.put,Yn,bh,R.bind_ok,Z0,h1,h2,Jp]
noncomputable def nL:D->Bool
 |.tup xs=>decide (xs.length<=16)&&xs.all um
 |_=>false
def jH(d:D):Prop:=jG d=true/\∀xs,d=.tup xs->(∀x∈xs,jG x=true)/\xs.length<=1000
theorem CO{x:D}(h:jG x=true):(rP (aA bR (aa (ag 0) aj)) (eOp oGe (ag 0) (eC (.int 1)))) [some x] S=.ok (.bl (um x)) S:=by
 have:=gn (S:=S) h
 cases x<;>first|(cases h;done)|(simp[rP,aA,eOp,ag,eC,aa,aj,R.bind,R.of,this,isI,um,lD])
theorem qE{d:D}(h:jH d):eZ [d] S=.ok (.bl (nL d)) S:=by
 cases d with
 |tup xs=>
  obtain⟨hs,hl⟩:=h.2 xs rfl;have hc:=nK (tl:=[]) (f:=um) xs none S λx hx=>CO (hs x hx)
  have z:xs.length<=sizeLine:=Ys hl (by decide)
  by_cases h16:xs.length<=16
  .have h16':¬(16:Int)<(xs.length:Int):=by omega
   simp only[eZ,fnM,iy,aF,sIf,aT,aY,PD.tOr,PD.cS,tV,eB,bf,bJ,bg,fF,eOp,ag,eC,aa,aj,R.bind,R.of,di,tyD,cL,bO,lD,gC,Jp,Wb,Jk,Y3,List.replicate,Qf,Zl,Ym,Nat.reduceAdd,Nat.reduceSub,Z7,h16',Q1,Jy,Yp,z,Z0,hc,fW,Option.map_some,nL,h16,W8,W4];simp[dP];simp[z,hc,fW,gC,R.of,R.bind,aT,eB,aa]
  .have h16':(16:Int)<(xs.length:Int):=by omega
   simp[eZ,fnM,iy,aF,sIf,aT,aY,PD.tOr,PD.cS,tV,eB,eOp,ag,eC,aa,aj,R.bind,R.of,di,tyD,cL,bO,lD,dP,nL,h16,h16']
 |_=>first|(cases h.1;done)|(simp[eZ,fnM,iy,aF,sIf,aT,aY,PD.tOr,PD.cS,tV,eB,eOp,ag,eC,aa,aj,R.bind,R.of,di,tyD,dP,nL])
theorem yb{i:Int}:eh S (.int i) (.int j)=some (.bl (!decide (i=j))):=rfl
theorem CP{i:Int}:fI S (.int i) (.int j)=some (.bl (decide (i=j))):=rfl
theorem au{a b:SM}(h:a r S=.ok (.nx r1) S1):aF a b r S=b r1 S1:=by unfold aF;rw[h];rfl
def Row(xs:List Int):Prop:=(∀x∈xs,1<=x)/\xs.length<=16
theorem vP(h:xs.length<=1000):jH (.tup (xs.map .int)):=⟨rfl,λys e=>by
 cases e
 refine⟨λx hx=>?_,by rw[Jg];exact h⟩
 obtain⟨i,_,rfl⟩:=Y7.mp hx
 rfl⟩
theorem Row.okay(h:Row xs):jH (.tup (xs.map .int)):=vP (by have:=h.2;omega)
theorem Row.is(h:Row xs):nL (.tup (xs.map .int))=true:=by
 unfold nL;rw[Yd]
 refine⟨by rw[Jg];exact Yc h.2,Qe.mpr λx hx=>?_⟩
 obtain⟨i,hi,rfl⟩:=Y7.mp hx;exact Yc (h.1 i hi)
theorem fD{g:PD.G}{b:SM}{xs:List D}(h:it r S=.ok xs S1):d8 it g b r S=forL g b xs r S1:=by unfold d8;rw[h,R.bind_ok]
theorem bN{b:SM}{ds:List D}{d:D}(hρ:ds.map some++List.replicate (n-ds.length) none = ρ)(h:b ρ S=.ok (.rt d) S1):fnM n b ds S=.ok d S1:=by unfold fnM;rw[hρ,h,R.bind_ok]
theorem iz{b:SM}{ds:List D}{ρ':Rho}(hρ:ds.map some++List.replicate (n-ds.length) none = ρ)(h:b ρ S=.ok (.nx ρ') S1):fnM n b ds S=.ok .non S1:=by unfold fnM;rw[hρ,h,R.bind_ok]
theorem cj{a b:SM}{d:D}(h:a r S=.ok (.rt d) S1):aF a b r S=.ok (.rt d) S1:=by unfold aF;rw[h,R.bind_ok]
theorem aP{d:D}(h:a r S=.ok d S1):ba i a r S=.ok (.nx (r.set i (some d))) S1:=by unfold ba;rw[h,R.bind_ok]
theorem aS{d:D}(h:a r S=.ok d S1):aT a r S=.ok (.rt d) S1:=by unfold aT;rw[h,R.bind_ok]
theorem dE{t:TM}{a b:SM}(h:t r S=.ok true S1):sIf t a b r S=a r S1:=by unfold sIf;rw[h,R.bind_ok];exact Je rfl
theorem cp{t:TM}{a b:SM}(h:t r S=.ok false S1):sIf t a b r S=b r S1:=by unfold sIf;rw[h,R.bind_ok];exact Ji Jj
theorem bF{d:D}(h:a r S=.ok d S1):dg a r S=.ok (.nx r) S1:=by unfold dg;rw[h,R.bind_ok]
theorem bj{g:PD.G}{b:SM}{x:D}{xs:List D}{r2:Rho}(hp:g.put x r=some r1)(h:b r1 S=.ok (.nx r2) S1):forL g b (x::xs) r S=forL g b xs r2 S1:=by rw[forL];simp only[hp,h,R.bind_ok]
theorem aw{f:FM}{xs:List D}(h:t r S=.ok xs S1):aA f t r S=f xs S1:=by unfold aA;rw[h,R.bind_ok]
theorem bY{g:PD.G}{b:SM}{d:D}{xs:List D}(h:a r S=.ok d S1)(hi:bg S1 d=some xs):d8 (bJ a bg) g b r S=forL g b xs r S1:=fD (by unfold bJ;rw[h,R.bind_ok,hi];rfl)
theorem iK{g:PD.G}{b:SM}{x:D}{xs:List D}{d:D}(hp:g.put x r=some r1)(h:b r1 S=.ok (.rt d) S1):forL g b (x::xs) r S=.ok (.rt d) S1:=by rw[forL];simp only[hp,h,R.bind_ok]
theorem aq{f:Sto->D->D->Option D}{b:EM}{x y z:D}(h1:a r S=.ok x S1)(h2:b r S1=.ok y S2)(h3:f S2 x y=some z):eOp f a b r S=.ok z S2:=by unfold eOp;rw[h1,R.bind_ok,h2,R.bind_ok,h3];rfl
theorem bb{f:Sto->List D->Option D}{xs:List D}{z:D}(h1:t r S=.ok xs S1)(h3:f S1 xs=some z):eB f t r S=.ok z S1:=by unfold eB;rw[h1,R.bind_ok,h3];rfl
theorem af{x:D}{xs:List D}(h1:a r S=.ok x S1)(h2:t r S1=.ok xs S2):aa a t r S=.ok (x::xs) S2:=by unfold aa;rw[h1,R.bind_ok,h2,R.bind_ok]
theorem aZ{b:Bool}(h:a r S=.ok (.bl b) S1):tV a r S=.ok b S1:=by unfold tV;rw[h,R.bind_ok]
theorem bD{a:TM}{b:Bool}(h:a r S=.ok b S1):PD.cS a r S=.ok (!b) S1:=by unfold PD.cS;rw[h,R.bind_ok]
theorem kS{f:Sto->D->List D->R D}{x:D}{ys:List D}(h1:o r S=.ok x S1)(hl:isL S1 x=true)(h2:t r S1=.ok ys S2):lI f o t r S=f S2 x ys:=by unfold lI;rw[h1,R.bind_ok,Je hl,h2,R.bind_ok]
theorem yc{t:TM}{b:EM}(h:t r S=.ok true S1):eIf t a b r S=a r S1:=by unfold eIf;rw[h,R.bind_ok];exact Je rfl
theorem yd{t:TM}{b:EM}(h:t r S=.ok false S1):eIf t a b r S=b r S1:=by unfold eIf;rw[h,R.bind_ok];exact Ji Jj
theorem uo{n:Int}(h0:0<=n)(h:n<=100000):n<2^62/\-(2^62)<=n:=⟨by omega,by omega⟩
theorem kC{m:Int}(h:t r S=.ok [.int m] S1)(h0:0<=m)(h1:m<=100000):bC t r S=.ok ((List.range m.toNat).map λ(i:Nat)=>D.int i) S1:=by have hr:=uo h0 h1;simp only[bC,h,R.bind,Je hr]
theorem fK(h:t r S=.ok [.int (n:Int)] S1)(hn:n<=100000):bC t r S=.ok ((List.range n).map λ(i:Nat)=>D.int i) S1:=
 kC h (Int.natCast_nonneg n) (Int.ofNat_le.mpr hn)
theorem mD:∀xs:List Int,intsOf (xs.map .int)=some xs
 |[]=>rfl
 |x::xs=>by rw[Jp,intsOf,mD xs];rfl
theorem comp_map{A:Type}{enc out:A->D}:∀(xs:List A)(r0:Option D),(∀x∈xs,e (some (enc x)::tl) S=.ok (out x) S)->cy (.nm 0) bh e (xs.map enc) (r0::tl) S=.ok (xs.map out) S
 |[],_,_=>rfl
 |x::xs,r0,h=>by have h1:=h x Y6;have h2:=comp_map (out:=out) xs (some (enc x)) λy hy=>h y (Y4 _ hy);rw[Jp,cy];simp only[G.put,Yn,bh,R.bind_ok,Z0,h1,h2,Jp]
theorem eK{A:Type}{enc out:A->D}(xs:List A)(hi:it r S=.ok (xs.map enc) S)(hl:xs.length<=sizeLine)(hc:caps.map (λi=>(r[i]?).join)=tl)(h:∀x∈xs,e (some (enc x)::tl) S=.ok (out x) S):bf it 1 caps (.nm 0) bh e r S=.ok (.lst (xs.map out)) S:=by
 unfold bf
 rw[hi,R.bind_ok,Je (by rw[Jg];exact hl)]
 have:fF 1 caps r=none::tl:=by unfold fF;rw[hc];rfl
 rw[this,comp_map (out:=out) xs none h,R.bind_ok]
theorem qF{A:Type}{enc out:A->D}{p:A->Bool}{t:TM}:∀(xs:List A)(r0:Option D),(∀x∈xs,t (some (enc x)::tl) S=.ok (p x) S)->(∀x∈xs,p x=true->e (some (enc x)::tl) S=.ok (out x) S)->cy (.nm 0) t e (xs.map enc) (r0::tl) S=.ok ((xs.filter p).map out) S
 |[],_,_,_=>rfl
 |x::xs,r0,ht,h=>by
  have h0:=ht x Y6;have h2:=qF (out:=out) xs (some (enc x)) (λy hy=>ht y (Y4 _ hy)) λy hy=>h y (Y4 _ hy);rw[Jp,cy];cases hp:p x with
  |true=>
   have h1:=h x Y6 hp;rw[hp]at h0;simp only[G.put,Yn,R.bind_ok,Z0,h0,h1,h2,Jp,Zp,hp]
  |false=>
   rw[hp]at h0;simp only[G.put,Yn,R.bind_ok,h0,h2,Zp,hp,Jy,Yp]
theorem vQ{A:Type}{enc out:A->D}{p:A->Bool}{t:TM}(xs:List A)(hi:it r S=.ok (xs.map enc) S)(hl:xs.length<=sizeLine)(hc:caps.map (λi=>(r[i]?).join)=tl)(ht:∀x∈xs,t (some (enc x)::tl) S=.ok (p x) S)(h:∀x∈xs,p x=true->e (some (enc x)::tl) S=.ok (out x) S):bf it 1 caps (.nm 0) t e r S=.ok (.lst ((xs.filter p).map out)) S:=by
 unfold bf
 rw[hi,R.bind_ok,Je (by rw[Jg];exact hl)]
 have:fF 1 caps r=none::tl:=by unfold fF;rw[hc];rfl
 rw[this,qF (out:=out) xs none ht h,R.bind_ok]
theorem mE{d:D}{xs:List D}(h:r[i]?=some (some d))(hx:bg S d=some xs):bJ (ag i) bg r S=.ok xs S:=by unfold bJ ag;rw[h];show R.bind (.ok d S) _=_;rw[R.bind_ok,hx];rfl
theorem ah{d:D}(h:r[i]?=some (some d)):ag i r S=.ok d S:=by unfold ag;rw[h]
theorem bH{xs:List D}(h:t r S=.ok xs S1)(hl:xs.length<=sizeLine):bz t r S=.ok (.tup xs) S1:=by unfold bz;rw[h,R.bind_ok,Je hl]
theorem cZ{xs:List D}(h:t r S=.ok xs S1)(hl:xs.length<=sizeLine):cC t r S=.ok (.lst xs) S1:=by unfold cC;rw[h,R.bind_ok,Je hl]
theorem mF{a b:TM}(h:a r S=.ok true S1):PD.tOr a b r S=.ok true S1:=by unfold PD.tOr;rw[h,R.bind_ok];exact Je rfl
theorem ez{a b:TM}(h:a r S=.ok false S1):PD.tOr a b r S=b r S1:=by unfold PD.tOr;rw[h,R.bind_ok];exact Ji Jj
theorem iC{A:Type}{f:A->Bool}{xs:List A}:gC S [.lst (xs.map λx=>D.bl (f x))]=some (.bl (xs.all f)):=by show Option.map (λbs=>D.bl (bs.all id)) (boolsOf (xs.map λx=>D.bl (f x)))=_;rw[fW,Option.map_some,List.all_map];rfl
theorem gL{a b:List D}(h:a.length+b.length<=sizeLine):aI S (.tup a) (.tup b)=some (.tup (a++b)):=Je h
theorem mG{a b:List D}(h:a.length+b.length<=sizeLine):aI S (.lst a) (.lst b)=some (.lst (a++b)):=Je h
theorem d7{i:Int}(h:a r S=.ok (.int i) S1):bT a r S=.ok (some i) S1:=by unfold bT;rw[h,R.bind_ok]
def okN(x:Int):Prop:=1<=x/\x<1000000000000000
theorem iL{f:Nat}{xs:List D}{v:D}(h:S[f]?=some (.lst xs))(hl:xs.length<sizeLine):dj S (.ref f) [v]=.ok .non (S.set f (.lst (xs++[v]))):=by unfold dj;simp only[h,Je hl]
theorem kT{f:Nat}{xs:List D}(h:S[f]?=some (.lst xs)):isL S (.ref f)=true:=by unfold isL;simp only[h]
noncomputable abbrev Ee:SM:=(aF (ba 7 (eOp aI (eC (.int 1)) (aA aL (aa (ag 0) (aa (eC (.int 12)) aj))))) (dg (lI dj (ag 5) (aa (eOp oIx (cC (aa (ag 7) (aa (ag 7) (aa (ag 4) (aa (eOp rV (eC (.int 1)) (ag 6)) (aa (eOp aI (ag 4) (eOp cD (ag 6) (ag 7))) (aa (eOp aI (eOp cD (eOp ou (eC (.int 10)) (eC (.int 12))) (ag 7)) (ag 4)) aj))))))) (ag 3)) aj))))
theorem ye{b f:Nat}{kind base:Int}{r1 r2 r7:Option D}(hi:i<16)(hk:0<=kind/\kind<6)(hb:1<=base/\base<10)(g:Gr b S0 S)(hf:S[f]?=some (.lst (xs.map .int)))(hfb:f≠b)(hf0:S0.length<=f)(hl:xs.length<1000):
  ∃(y:Int)(S':Sto)(r7':Option D),Ee [some (.ref b),r1,r2,some (.int kind),some (.int base),some (.ref f),some (.int i),r7] S=.ok (.nx [some (.ref b),r1,r2,some (.int kind),some (.int base),some (.ref f),some (.int i),r7']) S'/\
   okN y/\S'[f]?=some (.lst ((xs++[y]).map .int))/\Gr b S0 S':=by
 obtain⟨q,S1,e1,q0,q1,g1⟩:=fC g.self (many:=12) (by decide) (by decide)
 have hfl:f<S.length:=(Jf.mp hf).1
 have hf1:S1[f]?=some (.lst (xs.map .int)):=by rw[g1.oth f hfb hfl];exact hf
 have hfl1:f<S1.length:=(Jf.mp hf1).1;generalize hG:(1:Int)+q=G
 have hG0:1<=G/\G<=12:=by omega
 have sG:du G:=⟨by omega,by omega⟩
 have sI:du (i:Int):=⟨by omega,by omega⟩
 have m1:(i:Int)*G<=15*12:=Int.mul_le_mul (by omega) hG0.2 (by omega) (by omega)
 have m1':0<=(i:Int)*G:=Int.mul_nonneg (by omega) (by omega)
 have m4:(2:Int)^i<=32768:=by
  have h:=Nat.pow_le_pow_right (n:=2) (by decide) (show i<=15 by omega)
  have h':((2^i:Nat):Int)<=((2^15:Nat):Int):=by exact_mod_cast h
  simpa using h'
 have m4':1<=(2:Int)^i:=by
  have h:=Nat.one_le_two_pow (n:=i)
  have h':(1:Int)<=((2^i:Nat):Int):=by exact_mod_cast h
  simpa using h'
 have z6:(6:Nat)<=sizeLine:=by decide
 have hix:∃y:Int,okN y/\atI [D.int G,D.int G,D.int base,D.int (2^i),D.int (base+(i:Int)*G),D.int (1000000000000*G+base)] kind=some (.int y):=by
  have h:kind=0\/kind=1\/kind=2\/kind=3\/kind=4\/kind=5:=by omega
  rcases h with h|h|h|h|h|h<;>subst h
  .exact⟨_,⟨by omega,by omega⟩,rfl⟩
  .exact⟨_,⟨by omega,by omega⟩,rfl⟩
  .exact⟨_,⟨by omega,by omega⟩,rfl⟩
  .exact⟨_,⟨m4',by omega⟩,rfl⟩
  .exact⟨_,⟨by omega,by omega⟩,rfl⟩
  .exact⟨_,⟨by omega,by omega⟩,rfl⟩
 obtain⟨y,hy,hix⟩:=hix;obtain⟨n,hn⟩:=g1.bx;have g01:=g.trans g1
 refine⟨y,S1.set f (.lst (xs.map .int++[.int y])),some (.int G),?_,hy,by rw[Qi];simp[hfl1],⟨n,by rw[Ye hfb];exact hn⟩,λj hj hl=>?_,by simp;exact g01.len⟩
 .have hG1:eOp aI (eC (.int 1)) (aA aL (aa (ag 0) (aa (eC (.int 12)) aj))) [some (.ref b),r1,r2,some (.int kind),some (.int base),some (.ref f),some (.int i),r7] S=.ok (.int G) S1:=aq rfl ((aw (af (ah rfl) (af rfl rfl))).trans e1) (Q7 (λz=>some (D.int z)) hG)
  have hL:(cC (aa (ag 7) (aa (ag 7) (aa (ag 4) (aa (eOp rV (eC (.int 1)) (ag 6)) (aa (eOp aI (ag 4) (eOp cD (ag 6) (ag 7))) (aa (eOp aI (eOp cD (eOp ou (eC (.int 10)) (eC (.int 12))) (ag 7)) (ag 4)) aj))))))) [some (.ref b),r1,r2,some (.int kind),some (.int base),some (.ref f),some (.int i),some (.int G)] S1=.ok (.lst [D.int G,D.int G,D.int base,D.int (2^i),D.int (base+(i:Int)*G),D.int (1000000000000*G+base)]) S1:=
   cZ (af (ah rfl) (af (ah rfl) (af (ah rfl) (af (aq rfl (ah rfl) (B9 (by omega))) (af (aq (ah rfl) (aq (ah rfl) (ah rfl) (fG (.inl sI))) rfl) (af (aq (aq (aq rfl rfl rX) (ah rfl) (fG (.inr sG))) (ah rfl) rfl) rfl)))))) z6
  exact(au (aP hG1)).trans (bF ((kS (ah rfl) (kT hf1) (af (aq hL (ah rfl) hix) rfl)).trans (iL hf1 (by rw[Jg];exact Qt hl (by decide)))))
 .rw[Ye (by omega)]
  exact g01.oth j hj hl
theorem qG{b f:Nat}{kind base:Int}{r1 r2:Option D}(hk:0<=kind/\kind<6)(hb:1<=base/\base<10)(hfb:f≠b)(hf0:S0.length<=f):∀(l:List Nat)(S:Sto)(xs:List Int)(r6 r7:Option D),(∀i∈l,i<16)->Gr b S0 S->S[f]?=some (.lst (xs.map .int))->xs.length+l.length<1000->(∀x∈xs,okN x)->
  ∃(ys:List Int)(S':Sto)(r6' r7':Option D),forL (.nm 6) Ee (l.map λ(i:Nat)=>D.int i) [some (.ref b),r1,r2,some (.int kind),some (.int base),some (.ref f),r6,r7] S=.ok (.nx [some (.ref b),r1,r2,some (.int kind),some (.int base),some (.ref f),r6',r7']) S'/\
   ys.length=xs.length+l.length/\(∀y∈ys,okN y)/\S'[f]?=some (.lst (ys.map .int))/\Gr b S0 S'
 |[],S,xs,r6,r7,_,g,hf,_,hx=>⟨xs,S,r6,r7,rfl,rfl,hx,hf,g⟩
 |i::l,S,xs,r6,r7,hl,g,hf,hz,hx=>by
  rw[Jk]at hz
  obtain⟨y,S1,r7',e,hy,hf1,g1⟩:=ye (r1:=r1) (r2:=r2) (r7:=r7) (hl i Y6) hk hb g hf hfb hf0 (by omega)
  obtain⟨ys,S2,a6,a7,e2,h1,h2,h3,h4⟩:=qG hk hb hfb hf0 l S1 (xs++[y]) (some (.int i)) r7' (λj hj=>hl j (Y4 _ hj)) g1 hf1 (by rw[Jm,Jk,Y3];omega) (λx h=>by
   rcases Jt.mp h with h|h
   .exact hx x h
   .rw[Jv.mp h];exact hy)
  exact⟨ys,S2,a6,a7,(bj (r1:=[some (.ref b),r1,r2,some (.int kind),some (.int base),some (.ref f),some (.int i),r7]) rfl e).trans e2,by rw[h1,Jm,Jk,Y3,Jk];omega,h2,h3,h4⟩
theorem CQ{b:Nat}{most:Int}(g:Gr b S S)(hm:0<=most/\most<=16):∃(xs:List Int)(S':Sto),fJ [.ref b,.int most] S=.ok (.tup (xs.map .int)) S'/\(xs.length:Int)<=most/\(∀x∈xs,okN x)/\Gr b S S':=by
 obtain⟨many,S1,e1,a0,a1,g1⟩:=fC g (many:=most+1) (by omega) (by omega)
 obtain⟨kind,S2,e2,b0,b1,g2⟩:=fC g1.self (many:=6) (by decide) (by decide)
 obtain⟨bs,S3,e3,c0,c1,g3⟩:=fC g2.self (many:=9) (by decide) (by decide)
 have gs:=(g1.trans g2).trans g3;obtain⟨n0,hn0⟩:=gs.bx;have hb3:b<S3.length:=(Jf.mp hn0).1
 obtain⟨ys,S4,r6,r7,e4,h1,h2,h3,h4⟩:=qG (S0:=S) (b:=b) (f:=S3.length) (kind:=kind) (base:=1+bs) (r1:=some (.int most)) (r2:=some (.int many)) ⟨b0,b1⟩ ⟨by omega,by omega⟩ (by omega) gs.len (List.range many.toNat) (S3++[.lst []]) [] none none (λi hi=>by have:=Qo.mp hi;omega) (gs.more _) (by simp) (by simp;omega) (λx h=>nomatch h)
 refine⟨ys,S4,?_,by rw[h1];simp;omega,h2,h4⟩
 have z0:(0:Nat)<=sizeLine:=Y2 _
 have hN:eNew aj [some (.ref b),some (.int most),some (.int many),some (.int kind),some (.int (1+bs)),none,none,none] S3=.ok (.ref S3.length) (S3++[.lst []]):=by
  unfold eNew
  show(if 0<=sizeLine then R.ok (D.ref S3.length) (S3++[SO.lst []]) else R.bad)=_
  exact Je z0
 have ht:df S4 [.ref S3.length]=some (.tup (ys.map .int)):=by show(bO S4 (.ref S3.length)).map D.tup=_;unfold bO;simp only[h3,Option.map_some]
 exact bN (ρ:=[some (.ref b),some (.int most),none,none,none,none,none,none]) rfl ((au (aP ((aw (af (ah rfl) (af (aq (ah rfl) rfl rfl) rfl))).trans e1))).trans ((au (aP ((aw (af (ah rfl) (af rfl rfl))).trans e2))).trans ((au (aP (aq rfl ((aw (af (ah rfl) (af rfl rfl))).trans e3) rfl))).trans ((au (aP hN)).trans ((au ((fD (kC (af (ah rfl) rfl) a0 (by omega))).trans e4)).trans (aS (bb (af (ah rfl) rfl) ht)))))))
theorem fL{a:TM}{b:Bool}(h:a r S=.ok b S1):tNx a r S=.ok b S1:=by unfold tNx;rw[h];rfl
theorem dz{a:SM}{b:PD.F}(h:a r S=.ok b S1):sNx a r S=.ok b S1:=by unfold sNx;rw[h];rfl
theorem qH{x:XD}(h:a r S=.err x S1):aT a r S=.err x S1:=by unfold aT;rw[h];rfl
theorem nM{c:Str}{xs:List D}(h:t r S=.ok xs S1)(hl:xs.length<=sizeLine):jY c t r S=.err ⟨c,.tup xs⟩ S1:=by unfold jY;rw[h,R.bind_ok,Je hl]
theorem jI{a b:SM}{x:XD}(h:a r S=.err x S1):aF a b r S=.err x S1:=by unfold aF;rw[h];rfl
theorem gp{x:XD}(h:a r S=.err x S1):dg a r S=.err x S1:=by unfold dg;rw[h];rfl
theorem gM{b:SM}{ds:List D}{x:XD}(hρ:ds.map some++List.replicate (n-ds.length) none = ρ)(h:b ρ S=.err x S1):fnM n b ds S=.err x S1:=by unfold fnM;rw[hρ,h];rfl
theorem sR{a b:TM}(h:a r S=.ok true S1):PD.iP a b r S=b r S1:=by unfold PD.iP;rw[h,R.bind_ok];exact Je rfl
theorem sS{a b:TM}(h:a r S=.ok false S1):PD.iP a b r S=.ok false S1:=by unfold PD.iP;rw[h,R.bind_ok];exact Ji Jj
noncomputable abbrev KS:List Int:=[-1,1]
noncomputable abbrev tupI(xs:List Int):D:=.tup (xs.map .int)
theorem vR(kvs:List (KD×D))(k:KD):(gg kvs k).isSome=kvs.any λkv=>decide (kv.1=k):=by unfold gg;rw[G1,Zu,List.find?_isSome,Vy]
theorem yf{b:EM}{d y z:D}{kvs kvs':List (KD×D)}{k:KD}(ho:o r S=.ok d S1)(hd:dQ S1 d=some kvs)(ha:a r S1=.ok y S2)(hb:b r S2=.ok z S3)(hd3:dQ S3 d=some kvs')(hk:jk y=some k):lR o a b r S=.ok ((gg kvs' k).getD z) S3:=by unfold lR;rw[ho,R.bind_ok];simp only[hd,Option.isSome_some,Z0,ha,R.bind_ok,hb,hd3,hk]
theorem Ak{f:Sto->D->D->D->Option Sto}{i:EM}{S4:Sto}{v x y:D}(he:e r S=.ok v S1)(ho:o r S1=.ok x S2)(hi:i r S2=.ok y S3)(hf:f S3 x y v=some S4):pL f e o i r S=.ok (.nx r) S4:=by unfold pL;rw[he,R.bind_ok,ho,R.bind_ok,hi,R.bind_ok,hf]
noncomputable def fS(K:List Int)(x:Int)(f:List Int):List Int:=f.flatMap λw=>K.map λq=>w+q*x
noncomputable def pT(T:List (Int×Int))(k c:Int):List (Int×Int):=if T.any (λe=>decide (e.1=k)) then T.map (λe=>if e.1=k then (e.1,c) else e) else T++[(k,c)]
noncomputable def gT(T:List (Int×Int))(k:Int):Int:=((T.find? λe=>decide (e.1=k)).map (·.2)).getD 0
noncomputable def sumH(h:Int->Int)(T:List (Int×Int)):Int:=(T.map λe=>h e.1*e.2).sum
def Keys(T:List (Int×Int)):Prop:=T.Pairwise λa b=>a.1≠b.1
theorem cG(h:Int->Int)(e:Int×Int)(T:List (Int×Int)):sumH h (e::T)=h e.1*e.2+sumH h T:=by simp[sumH]
theorem jJ(h:Int->Int):∀(A B:List (Int×Int)),sumH h (A++B)=sumH h A+sumH h B
 |[],B=>by simp[sumH]
 |e::A,B=>by rw[Qf,cG,cG,jJ h A B];omega
theorem CS{k:Int}(h:T.any (λe=>decide (e.1=k))=false):gT T k=0:=by
 unfold gT
 have:(T.find? λe=>decide (e.1=k))=none:=by rw[List.find?_eq_none];intro e he hd;rw[Ws]at h;exact h e he hd
 rw[this];rfl
theorem yg{k:Int}(h:∀e∈T,e.1≠k):T.map (λe=>if e.1=k then (e.1,c) else e)=T:=by
 induction T with
 |nil=>rfl
 |cons e T ih=>
  rw[Jp,Ji (h e (.head _)),ih λe he=>h e (.tail _ he)]
theorem Am(e:Int×Int)(T:List (Int×Int))(k:Int):gT (e::T) k=if e.1=k then e.2 else gT T k:=by
 unfold gT;rw[Zd];by_cases h:e.1=k
 .simp[h]
 .simp[h]
theorem qI(h:Int->Int){k:Int}:∀{T:List (Int×Int)},Keys T->T.any (λe=>decide (e.1=k))=true->sumH h (T.map λe=>if e.1=k then (e.1,c) else e)=sumH h T+h k*(c-gT T k)
 |[],_,ha=>by simp at ha
 |e::T,hk,ha=>by
  have hk':=Zv.mp hk;rw[Jp,cG,cG,Am];by_cases he:e.1=k
  .rw[Je he,Je he,yg λe' he' h=>hk'.1 e' he' (by rw[he,h])]
   simp only;rw[he,Int.mul_sub];omega
  .have ha':T.any (λe=>decide (e.1=k))=true:=by simp only[Qc,he,Q1,Bool.false_or]at ha;exact ha
   rw[Ji he,Ji he,qI h hk'.2 ha'];omega
theorem An(h:Int->Int)(hk:Keys T)(k c:Int):sumH h (pT T k (gT T k+c))=sumH h T+h k*c:=by
 unfold pT;cases ha:T.any (λe=>decide (e.1=k)) with
 |true=>
  rw[Je rfl,qI h hk ha,show gT T k+c-gT T k=c by omega]
 |false=>
  rw[Ji Jj,jJ,CS ha,cG];simp[sumH]
theorem Ao(hk:Keys T)(k c:Int):Keys (pT T k c):=by
 unfold pT;cases ha:T.any (λe=>decide (e.1=k)) with
 |true=>
  rw[Je rfl];unfold Keys;rw[Vn];refine List.Pairwise.imp (λ{a b} h=>?_) hk;split<;>split<;>exact h
 |false=>
  rw[Ji Jj];refine Q4.mpr ⟨hk,Wk _ _,λa ha' b hb=>?_⟩;rw[Jv.mp hb];rw[Ws]at ha;have:=ha a ha';simpa using this
theorem CT(T:List (Int×Int))(k c v:Int):(∃e∈pT T k c,e.1=v)↔(∃e∈T,e.1=v)\/v=k:=by
 unfold pT;cases ha:T.any (λe=>decide (e.1=k)) with
 |true=>
  rw[Je rfl];constructor
  .rintro⟨e,he,rfl⟩;obtain⟨e',he',rfl⟩:=Y7.mp he;refine .inl ⟨e',he',?_⟩;split<;>rfl
  .rintro(⟨e,he,rfl⟩|rfl)
   .exact⟨_,Y7.mpr ⟨e,he,rfl⟩,by split<;>rfl⟩
   .rw[Vy]at ha;obtain⟨e,he,hd⟩:=ha
    exact⟨_,Y7.mpr ⟨e,he,rfl⟩,by split<;>exact Qk hd⟩
 |false=>
  rw[Ji Jj];constructor
  .rintro⟨e,he,rfl⟩;rcases Jt.mp he with he|he
   .exact .inl ⟨e,he,rfl⟩
   .rw[Jv.mp he];exact .inr rfl
  .rintro(⟨e,he,rfl⟩|rfl)
   .exact⟨e,Qh _ he,rfl⟩
   .exact⟨(v,c),Yg _ (Jv.mpr rfl),rfl⟩
theorem CU(T:List (Int×Int))(k c:Int):(pT T k c).length<=T.length+1:=by unfold pT;split<;>simp
structure Hist(T:List (Int×Int))(f:List Int):Prop where
 keys:Keys T
 mem:∀v,(∃e∈T,e.1=v)↔v∈f
 sum:∀h:Int->Int,sumH h T=(f.map h).sum
 len:T.length<=f.length
theorem Hist.zero:Hist [(0,1)] [0]:=⟨Wk _ _,λv=>by simp[eq_comm],λh=>by simp[sumH],Jd _⟩
theorem qJ:∀(a b:List Int),(a++b).sum=a.sum+b.sum
 |[],b=>by simp
 |x::a,b=>by rw[Qf,Qd,Qd,qJ a b];omega
structure HistC(T:List (Int×Int))(L:List (Int×Int)):Prop where
 keys:Keys T
 mem:∀v,(∃e∈T,e.1=v)↔∃e∈L,e.1=v
 sum:∀h:Int->Int,sumH h T=sumH h L
 len:T.length<=L.length
theorem HistC.nil:HistC [] []:=⟨List.Pairwise.nil,λv=>by simp,λh=>rfl,Jd _⟩
theorem HistC.put{L:List (Int×Int)}(h:HistC T L)(k c:Int):HistC (pT T k (gT T k+c)) (L++[(k,c)]):=by
 refine⟨Ao h.keys _ _,λv=>?_,λf=>?_,Ys (CU _ _ _) (by have:=h.len;simp;omega)⟩
 .rw[CT,h.mem v];constructor
  .rintro(⟨e,he,e1⟩|rfl)
   .exact⟨e,Qh _ he,e1⟩
   .exact⟨(v,c),Yg _ (Jv.mpr rfl),rfl⟩
  .rintro⟨e,he,rfl⟩;rcases Jt.mp he with he|he
   .exact .inl ⟨e,he,rfl⟩
   .rw[Jv.mp he];exact .inr rfl
 .rw[An f h.keys,h.sum f,jJ,cG];simp[sumH]
noncomputable def fh(K:List Int)(x:Int)(T:List (Int×Int)):List (Int×Int):=T.flatMap λe=>K.map λq=>(e.1+q*x,e.2)
theorem nO(K:List Int)(x:Int)(h:Int->Int):∀T:List (Int×Int),sumH h (fh K x T)=sumH (λy=>(K.map λq=>h (y+q*x)).sum) T
 |[]=>rfl
 |e::T=>by
  have ih:=nO K x h T;unfold fh at ih ⊢;rw[Qm,jJ,cG,ih];congr 1
  have:∀l:List Int,sumH h (l.map λq=>(e.1+q*x,e.2))=(l.map λq=>h (e.1+q*x)).sum*e.2:=λl=>by
   induction l with
   |nil=>simp[sumH]
   |cons q l ih=>rw[Jp,cG,Jp,Qd,ih,Int.add_mul]
  exact this K
theorem yh(K:List Int)(x:Int)(h:Int->Int):∀f:List Int,((fS K x f).map h).sum=(f.map λy=>(K.map λq=>h (y+q*x)).sum).sum
 |[]=>rfl
 |w::f=>by have ih:=yh K x h f;unfold fS at ih ⊢;rw[Qm,Qi,qJ,ih,Jp,Qd,Qu];rfl
theorem yi{f:List Int}:v∈fS K x f↔∃w∈f,∃q∈K,w+q*x=v:=by simp only[fS,Gd,Y7]
theorem sU(K:List Int)(x:Int):∀f:List Int,(fS K x f).length=f.length*K.length
 |[]=>by simp[fS]
 |w::f=>by have:=sU K x f;simp only[fS,Qm,Jm,Jg,Jk]at this ⊢;rw[this,G7];omega
theorem hJ(K:List Int)(x:Int):∀T:List (Int×Int),(fh K x T).length=T.length*K.length
 |[]=>by simp[fh]
 |w::f=>by have:=hJ K x f;simp only[fh,Qm,Jm,Jg,Jk]at this ⊢;rw[this,G7];omega
theorem Hist.step{T':List (Int×Int)}{f:List Int}(h:Hist T f)(h':HistC T' (fh K x T)):Hist T' (fS K x f):=by
 refine⟨h'.keys,λv=>?_,λg=>?_,?_⟩
 .rw[h'.mem v,yi];simp only[fh,Gd,Y7];constructor
  .rintro⟨e,⟨e0,he0,q,hq,rfl⟩,rfl⟩;exact⟨e0.1,(h.mem _).mp ⟨e0,he0,rfl⟩,q,hq,rfl⟩
  .rintro⟨w,hw,q,hq,rfl⟩;obtain⟨e0,he0,rfl⟩:=(h.mem w).mpr hw;exact⟨_,⟨e0,he0,q,hq,rfl⟩,rfl⟩
 .rw[h'.sum g,nO,h.sum,yh]
 .have:=h'.len;rw[hJ]at this;rw[sU];exact Ys this (Nat.mul_le_mul_right _ h.len)
noncomputable def aK(T:List (Int×Int)):List (KD×D):=T.map λe=>(.inl e.1,.int e.2)
theorem yj(T:List (Int×Int))(k:Int):(aK T).any (λkv=>decide (kv.1=.inl k))=T.any λe=>decide (e.1=k):=by
 unfold aK;rw[List.any_map];congr 1;funext e;show decide ((Sum.inl e.1:KD)=.inl k)=decide (e.1=k);rw[V2]
 exact⟨Vp,λh=>by rw[h]⟩
theorem qK(T:List (Int×Int))(k c:Int):putD (aK T) (.inl k) (.int c)=aK (pT T k c):=by
 unfold putD pT;rw[yj];cases T.any λe=>decide (e.1=k) with
 |true=>
  rw[Je rfl,Je rfl];unfold aK;rw[Qu,Qu];refine List.map_congr_left λe _=>?_;simp only[Function.comp];by_cases h:e.1=k
  .rw[Je (by rw[h]),Je h]
  .rw[Ji (λz=>h (Vp z)),Ji h]
 |false=>
  rw[Ji Jj,Ji Jj];simp[aK]
theorem yk(T:List (Int×Int))(k:Int):(gg (aK T) (.inl k)).getD (.int 0)=.int (gT T k):=by
 unfold gg gT aK;rw[List.find?_map]
 have e:((λkv:KD×D=>decide (kv.1=.inl k))∘λe:Int×Int=>((.inl e.1:KD),D.int e.2))=λe=>decide (e.1=k):=by
  funext e;show decide ((Sum.inl e.1:KD)=.inl k)=decide (e.1=k);rw[V2]
  exact⟨Vp,λh=>by rw[h]⟩
 rw[e];cases T.find? λe=>decide (e.1=k)<;>rfl
def dAt(S:Sto)(n:Nat)(T:List (Int×Int)):Prop:=S[n]?=some (.dic (aK T))\/S[n]?=some (.fdic (aK T))
theorem dAt.dic(h:dAt S n T):dQ S (.ref n)=some (aK T):=by rcases h with h|h<;>simp[dQ,h]
theorem dAt.seq(h:dAt S n T):bO S (.ref n)=none:=by rcases h with h|h<;>simp[bO,h]
theorem dAt.lt(h:dAt S n T):n<S.length:=by rcases h with h|h<;>exact(Jf.mp h).1
noncomputable abbrev stI:SM:=(aF (ba 7 (eOp aI (ag 4) (eOp cD (ag 6) (ag 1)))) (pL nB (eOp aI (lR (ag 3) (ag 7) (eC (.int 0))) (ag 5)) (ag 3) (ag 7)))
noncomputable abbrev stO:SM:=(d8 (bJ (ag 2) bg) (.nm 6) (aF (ba 7 (eOp aI (ag 4) (eOp cD (ag 6) (ag 1)))) (pL nB (eOp aI (lR (ag 3) (ag 7) (eC (.int 0))) (ag 5)) (ag 3) (ag 7))))
theorem sml(h:-1<=q/\q<=1):du q:=⟨by omega,by omega⟩
theorem CV{m:Nat}{W:List (Int×Int)}{x w c:Int}(hq:-1<=q/\q<=1)(hm:S[m]?=some (.dic (aK W)))(hz:W.length<1000)(r0 r2 r7:Option D):
  stI [r0,some (.int x),r2,some (.ref m),some (.int w),some (.int c),some (.int q),r7] S=.ok (.nx [r0,some (.int x),r2,some (.ref m),some (.int w),some (.int c),some (.int q),some (.int (w+q*x))]) (S.set m (.dic (aK (pT W (w+q*x) (gT W (w+q*x)+c))))):=by
 have hd:dQ S (.ref m)=some (aK W):=by simp[dQ,hm]
 have z:(1000:Nat)<=sizeLine:=by decide
 refine(au (aP (aq (ah rfl) (aq (ah rfl) (ah rfl) (fG (.inl (sml hq)))) rfl))).trans ?_
 have hg:lR (ag 3) (ag 7) (eC (.int 0)) [r0,some (.int x),r2,some (.ref m),some (.int w),some (.int c),some (.int q),some (.int (w+q*x))] S=.ok (.int (gT W (w+q*x))) S:=by rw[<- yk];exact yf (ah rfl) hd (ah rfl) rfl hd rfl
 refine Ak (aq hg (ah rfl) rfl) (ah rfl) (ah rfl) ?_
 have h1:t4 S (.ref m)=true:=by simp[t4,hm]
 unfold nB;rw[Je h1];unfold tZ;simp only[hm,jk]
 rw[Je (by simp[aK];omega),qK]
theorem qL{x w c:Int}(r0 r2:Option D){m:Nat}:∀(K:List Int)(S:Sto)(W L:List (Int×Int))(r6 r7:Option D),(∀q∈K,-1<=q/\q<=1)->S[m]?=some (.dic (aK W))->HistC W L->L.length+K.length<=1000->
  ∃(W':List (Int×Int))(r6' r7':Option D),forL (.nm 6) stI (K.map .int) [r0,some (.int x),r2,some (.ref m),some (.int w),some (.int c),r6,r7] S=.ok (.nx [r0,some (.int x),r2,some (.ref m),some (.int w),some (.int c),r6',r7']) (S.set m (.dic (aK W')))/\HistC W' (L++K.map λq=>(w+q*x,c))
 |[],S,W,L,r6,r7,_,hm,h,_=>⟨W,r6,r7,by
  have hml:m<S.length:=(Jf.mp hm).1
  have:S.set m (.dic (aK W))=S:=by have e:=(Jf.mp hm).2;rw[<- e];exact U3 hml
  rw[this];rfl,by simpa using h⟩
 |q::K,S,W,L,r6,r7,hK,hm,h,hz=>by
  rw[Jk]at hz;have hml:m<S.length:=(Jf.mp hm).1
  have e1:=CV (S:=S) (x:=x) (w:=w) (c:=c) (hK q (.head _)) hm (by have:=h.len;omega) r0 r2 r7
  obtain⟨W',a6,a7,e2,h2⟩:=qL r0 r2 K (S.set m (.dic (aK (pT W (w+q*x) (gT W (w+q*x)+c))))) (pT W (w+q*x) (gT W (w+q*x)+c)) (L++[(w+q*x,c)]) (some (.int q)) (some (.int (w+q*x))) (λq hq=>hK q (.tail _ hq)) (Yj hml) (h.put (w+q*x) c) (by simp;omega)
  rw[List.set_set]at e2;refine⟨W',a6,a7,(bj (r1:=[r0,some (.int x),r2,some (.ref m),some (.int w),some (.int c),some (.int q),r7]) rfl e1).trans e2,?_⟩;rw[Jp];simpa using h2
theorem qM{x:Int}(hK:∀q∈K,-1<=q/\q<=1)(r0:Option D){m:Nat}:∀(T:List (Int×Int))(S:Sto)(W L:List (Int×Int))(r4 r5 r6 r7:Option D),S[m]?=some (.dic (aK W))->HistC W L->L.length+T.length*K.length<=1000->
  ∃(W':List (Int×Int))(r4' r5' r6' r7':Option D),forL (.tp [.nm 4,.nm 5]) stO ((aK T).map pairD) [r0,some (.int x),some (tupI K),some (.ref m),r4,r5,r6,r7] S=.ok (.nx [r0,some (.int x),some (tupI K),some (.ref m),r4',r5',r6',r7']) (S.set m (.dic (aK W')))/\HistC W' (L++fh K x T)
 |[],S,W,L,r4,r5,r6,r7,hm,h,_=>⟨W,r4,r5,r6,r7,by
  have hml:m<S.length:=(Jf.mp hm).1
  have:S.set m (.dic (aK W))=S:=by have e:=(Jf.mp hm).2;rw[<- e];exact U3 hml
  rw[this];rfl,by simpa[fh] using h⟩
 |e::T,S,W,L,r4,r5,r6,r7,hm,h,hz=>by
  have hm2:(e::T).length*K.length=T.length*K.length+K.length:=by rw[Jk,G7]
  have hml:m<S.length:=(Jf.mp hm).1
  obtain⟨W1,a6,a7,e1,h1⟩:=qL (x:=x) (w:=e.1) (c:=e.2) r0 (some (tupI K)) K S W L r6 r7 hK hm h (by omega)
  obtain⟨W2,b4,b5,b6,b7,e2,h2⟩:=qM hK r0 T (S.set m (.dic (aK W1))) W1 (L++K.map λq=>(e.1+q*x,e.2)) (some (.int e.1)) (some (.int e.2)) a6 a7 (Yj hml) h1 (by rw[Jm,Jg];omega)
  rw[List.set_set]at e2;refine⟨W2,b4,b5,b6,b7,?_,?_⟩
  .show forL _ _ (pairD (.inl e.1,.int e.2)::(aK T).map pairD) _ _=_;exact(bj (r1:=[r0,some (.int x),some (tupI K),some (.ref m),some (.int e.1),some (.int e.2),r6,r7]) rfl ((bY (ah rfl) rfl).trans e1)).trans e2
  .have:fh K x (e::T)=(K.map λq=>(e.1+q*x,e.2))++fh K x T:=by simp[fh]
   rw[this,<- Z8];exact h2
theorem qN(hi:ρ[i]?=some (some (.ref n)))(h:dAt S n T):kj (ag i) ρ S=.ok ((aK T).map pairD) (S.set n (.fdic (aK T))):=by
 unfold kj;rw[ah hi,R.bind_ok];rcases h with h|h
 .simp only[h]
 .simp only[h];have hnl:n<S.length:=(Jf.mp h).1
  have:S.set n (.fdic (aK T))=S:=by have e:=(Jf.mp h).2;rw[<- e];exact U3 hnl
  rw[this]
theorem sV{x:Int}{f:List Int}(hK:∀q∈K,-1<=q/\q<=1)(hd:dAt S n T)(h:Hist T f)(hz:f.length*K.length<=1000):
  ∃T':List (Int×Int),fE [.ref n,.int x,tupI K] S=.ok (.ref S.length) (S.set n (.fdic (aK T))++[.dic (aK T')])/\Hist T' (fS K x f):=by
 have hnl:=hd.lt
 have hd':dAt (S++[.dic []]) n T:=by unfold dAt;rw[Jw hnl];exact hd
 have hle:T.length*K.length<=f.length*K.length:=Nat.mul_le_mul_right _ h.len;have e0:(S++[SO.dic []]).set n (.fdic (aK T))=S.set n (.fdic (aK T))++[.dic []]:=List.set_append_left _ _ hnl
 obtain⟨T',a4,a5,a6,a7,e1,h1⟩:=qM (x:=x) hK (some (.ref n)) (m:=S.length) T (S.set n (.fdic (aK T))++[.dic []]) [] [] none none none none (by simp[aK]) HistC.nil (by simp;omega)
 have e2:(S.set n (.fdic (aK T))++[SO.dic []]).set S.length (.dic (aK T'))=S.set n (.fdic (aK T))++[.dic (aK T')]:=by rw[List.set_append_right _ _ (by simp)];simp
 rw[e2]at e1
 refine⟨T',?_,h.step (by simpa using h1)⟩
 exact bN (ρ:=[some (.ref n),some (.int x),some (tupI K),none,none,none,none,none]) rfl ((au (S1:=S++[.dic []]) (aP rfl)).trans ((au (r1:=[some (.ref n),some (.int x),some (tupI K),some (.ref S.length),a4,a5,a6,a7]) ((fD (qN rfl hd')).trans (by rw[e0];exact e1))).trans (aS (ah rfl))))
noncomputable def mx(g h:Int):Int:=if (if h<0 then -h else h)>g then (if h<0 then -h else h) else g
noncomputable def swg:List (Int×Int)->Int->Int->Int
 |[],_,g=>g
 |z::zs,a,g=>swg zs (a+z.1*z.2) (mx g (a+z.1*z.2))
def Sg(n:Nat)(ss:List Int):Prop:=ss.length=n/\∀s∈ss,s=1\/s = -1
noncomputable def ja(v:Int):Int:=if v<0 then -v else v
noncomputable def inB(b v:Int):Bool:=decide (ja v<=b)
noncomputable def kpT(b:Int)(T:List (Int×Int)):List (Int×Int):=T.filter λe=>inB b e.1
theorem qO(b:Int)(h:Int->Int):∀T:List (Int×Int),sumH h (kpT b T)=sumH (λy=>if inB b y=true then h y else 0) T
 |[]=>rfl
 |e::T=>by
  have ih:=qO b h T;unfold kpT at ih ⊢;rw[Zp,cG];by_cases hb:inB b e.1=true
  .rw[Je hb,Je hb,cG,ih]
  .rw[Ji hb,Ji hb,ih];omega
theorem uq(b:Int)(h:Int->Int):∀f:List Int,((f.filter (inB b)).map h).sum=(f.map λy=>if inB b y=true then h y else 0).sum
 |[]=>rfl
 |y::f=>by
  rw[Zp,Jp,Qd,<- uq b h f];by_cases hb:inB b y=true
  .rw[Je hb,Je hb,Jp,Qd]
  .rw[Ji hb,Ji hb];omega
theorem Ap(b:Int){f:List Int}(hk:Keys T)(hm:∀v,(∃e∈T,e.1=v)↔v∈f):(kpT b T).length<=(f.filter (inB b)).length:=by
 have nd:((kpT b T).map (·.1)).Nodup:=by unfold kpT;rw[Z5,Vn];exact hk.filter _
 have sub:(kpT b T).map (·.1) ⊆ f.filter (inB b):=λv hv=>by obtain⟨e,he,rfl⟩:=Y7.mp hv;obtain⟨h1,h2⟩:=Yv.mp he;exact Yv.mpr ⟨(hm e.1).mp ⟨e,h1,rfl⟩,h2⟩
 have:=List.Nodup.length_le_of_subset nd sub
 rwa [Jg]at this
theorem Hist.keep{f:List Int}(b:Int)(h:Hist T f):Hist (kpT b T) (f.filter (inB b)):=by
 refine⟨h.keys.filter _,λv=>?_,λg=>?_,Ap b h.keys h.mem⟩
 .rw[Yv,<- h.mem v];constructor
  .rintro⟨e,he,rfl⟩;obtain⟨h1,h2⟩:=Yv.mp he;exact⟨⟨e,h1,rfl⟩,h2⟩
  .rintro⟨⟨e,he,rfl⟩,h2⟩;exact⟨e,Yv.mpr ⟨he,h2⟩,rfl⟩
 .rw[qO,h.sum,uq]
noncomputable def vS:Nat->List (List Int)
 |0=>[[]]
 |n+1=>(vS n).flatMap λp=>[p++[-1],p++[1]]
theorem oZ:∀(n:Nat),∀p∈vS n,Sg n p
 |0,p,h=>by
  rw[Jv.mp h]
  exact⟨rfl,λs hs=>by cases hs⟩
 |n+1,p,h=>by
  obtain⟨q,hq,hp⟩:=Gd.mp h;obtain⟨h1,h2⟩:=oZ n q hq;simp only[Jq,Yh,Q0]at hp
  have key:∀v:Int,(v=1\/v = -1)->Sg (n+1) (q++[v]):=λv hv=>⟨by rw[Jm,h1];rfl,λs hs=>by
   rcases Jt.mp hs with hs|hs
   .exact h2 s hs
   .rw[Jv.mp hs];exact hv⟩
  rcases hp with rfl|rfl
  .exact key _ (.inr rfl)
  .exact key _ (.inl rfl)
theorem qP:∀n:Nat,(vS n).length=2^n
 |0=>rfl
 |n+1=>by
  have ih:=qP n
  have:∀l:List (List Int),(l.flatMap λp=>[p++[-1],p++[1]]).length=l.length*2:=λl=>by
   induction l with
   |nil=>rfl
   |cons x l ih=>
    have e1:([x++[-1],x++[1]]:List (List Int)).length=2:=rfl;rw[Qm,Jm,ih,e1,Jk];omega
  show((vS n).flatMap _).length=_;rw[this,ih,Nat.pow_succ]
noncomputable def swO(xs p:List Int):Int:=swg (xs.zip p) 0 0
noncomputable def iD(zs:List (Int×Int))(a:Int):Int:=zs.foldl (λc z=>c+z.1*z.2) a
theorem qQ:∀(zs:List (Int×Int))(a g:Int)(z:Int×Int),swg (zs++[z]) a g=mx (swg zs a g) (iD zs a+z.1*z.2)
 |[],a,g,z=>rfl
 |y::zs,a,g,z=>qQ zs (a+y.1*y.2) (mx g (a+y.1*y.2)) z
theorem Ef(g h b:Int):decide (mx g h<=b)=(decide (g<=b)&&inB b h):=by
 unfold mx inB ja;rw[Zu];simp only[Vj,Yd];constructor
 .intro q;split at q<;>constructor<;>omega
 .rintro⟨h1,h2⟩;split<;>omega
noncomputable def wiL(b:Int)(xs:List Int):List Int:=((vS xs.length).filter λp=>decide (swO xs p<=b)).map λp=>iD (xs.zip p) 0
theorem qR{p:List Int}(h:p.length=xs.length)(x q:Int):(xs++[x]).zip (p++[q])=xs.zip p++[(x,q)]:=by rw[List.zip_append h.symm];rfl
theorem vT(zs:List (Int×Int))(a:Int)(z:Int×Int):iD (zs++[z]) a=iD zs a+z.1*z.2:=by unfold iD;rw[List.foldl_append];rfl
theorem uv(b:Int)(xs:List Int)(x:Int):∀l:List (List Int),(∀p∈l,p.length=xs.length)->
  ((fS [-1,1] x ((l.filter λp=>decide (swO xs p<=b)).map λp=>iD (xs.zip p) 0)).filter (inB b))=((l.flatMap λp=>[p++[-1],p++[1]]).filter λp=>decide (swO (xs++[x]) p<=b)).map λp=>iD ((xs++[x]).zip p) 0
 |[],_=>rfl
 |p::l,h=>by
  have ih:=uv b xs x l λq hq=>h q (.tail _ hq);have hp:=h p (.head _)
  have key:∀q:Int,decide (swO (xs++[x]) (p++[q])<=b)=(decide (swO xs p<=b)&&inB b (iD (xs.zip p) 0+q*x)):=λq=>by unfold swO;rw[qR hp,qQ,Ef];show(_&&inB b (iD (xs.zip p) 0+x*q))=_;rw[Int.mul_comm]
  have wk:∀q:Int,iD ((xs++[x]).zip (p++[q])) 0=iD (xs.zip p) 0+q*x:=λq=>by rw[qR hp,vT];show _+x*q=_;rw[Int.mul_comm]
  rw[Qm,List.filter_append,Qi,<- ih,Zp];by_cases hb:decide (swO xs p<=b)=true
  .rw[Je hb,Jp];unfold fS;rw[Qm,List.filter_append];congr 1;show([iD (xs.zip p) 0 + -1*x,iD (xs.zip p) 0+1*x].filter (inB b))=_;have k1:=key (-1);have k2:=key 1;rw[hb,W4]at k1 k2;cases h1:inB b (iD (xs.zip p) 0 + -1*x)<;>cases h2:inB b (iD (xs.zip p) 0+1*x)<;>(rw[h1]at k1;rw[h2]at k2;simp only[Zp,Gg,k1,k2,h1,h2,Z0,Jy,Yp,Jp,Wb,wk])
  .rw[Ji hb]
   have e:([p++[-1],p++[1]].filter λp=>decide (swO (xs++[x]) p<=b))=[]:=by simp only[Zp,Gg,key,Bool.not_eq_true _▸hb,Z2,Jy,Yp]
   rw[e];rfl
theorem qS(b:Int)(xs:List Int)(x:Int):(fS [-1,1] x (wiL b xs)).filter (inB b)=wiL b (xs++[x]):=by unfold wiL;rw[uv b xs x (vS xs.length) λp hp=>(oZ _ p hp).1,Jm];rfl
theorem uw(b:Int):wiL b []=[0].filter (inB b):=by
 unfold wiL;show(([[]]:List (List Int)).filter λp=>decide (swO [] p<=b)).map (λp=>iD (([]:List Int).zip p) 0)=_
 have e:decide (swO [] []<=b)=inB b 0:=by unfold inB swO swg ja;simp
 simp only[Zp,Gg,e];by_cases h:inB b 0=true
 .rw[Je h,Je h];rfl
 .rw[Ji h,Ji h];rfl
theorem sW(b:Int)(xs:List Int):(wiL b xs).length<=2^xs.length:=by unfold wiL;rw[Jg,<- qP];exact List.length_filter_le _ _
structure Pre(S0 S:Sto):Prop where
 old:∀i,i<S0.length->S[i]?=S0[i]?
 len:S0.length<=S.length
theorem Pre.refl(S:Sto):Pre S S:=⟨λ_ _=>rfl,Jd _⟩
theorem Pre.trans(a:Pre S0 S1)(b:Pre S1 S2):Pre S0 S2:=⟨λi h=>(b.old i (Y1 h a.len)).trans (a.old i h),Ys a.len b.len⟩
theorem Pre.app(S l:Sto):Pre S (S++l):=⟨λi h=>Jw h,by simp⟩
theorem Pre.set(p:Pre S0 S)(h:S0.length<=n)(o:SO):Pre S0 (S.set n o):=⟨λi hi=>by rw[Ye (by omega)];exact p.old i hi,by rw[Zy];exact p.len⟩
theorem Pre.gr{b:Nat}(g:Gr b S0 S0)(p:Pre S0 S):Gr b S0 S:=by
 obtain⟨n,hn⟩:=g.bx;have hb:b<S0.length:=(Jf.mp hn).1
 exact⟨⟨n,by rw[p.old b hb];exact hn⟩,λi _ hl=>p.old i hl,p.len⟩
theorem dAt.step{r:Nat}{Tr:List (Int×Int)}{l:Sto}(h:dAt S n T)(hr:dAt S r Tr):dAt (S.set n (.fdic (aK T))++l) r Tr:=by
 have hnl:=h.lt;have hrl:=hr.lt;unfold dAt
 rw[Jw (by rw[Zy];exact hrl)]
 by_cases e:n=r
 .subst e;rw[Yj hnl]
  have:aK Tr=aK T:=by rcases h with h|h<;>rcases hr with hr|hr<;>rw[h]at hr<;>have hr:=Yk hr<;>first|exact(SO.dic.inj hr).symm|exact(SO.fdic.inj hr).symm|(cases hr;done)
  rw[this];exact .inr rfl
 .rw[Ye e];exact hr
theorem dAt.app{l:Sto}{r:Nat}(h:dAt S r T):dAt (S++l) r T:=by unfold dAt;rw[Jw h.lt];exact h
theorem dAt.set{r:Nat}{o:SO}(h:dAt S r T)(hn:n≠r):dAt (S.set n o) r T:=by unfold dAt;rw[Ye hn];exact h
theorem yl(T:List (Int×Int)):(aK T).map PD.pairD=T.map λe=>D.tup [.int e.1,.int e.2]:=by unfold aK;rw[Qu];rfl
theorem p256(h:n<=8):2^n<=256:=Ys (Nat.pow_le_pow_right (by decide) h) (by decide)
theorem ym{f:Sto->List D->R D}{xs:List D}(h:t r S=.ok xs S1):eBR f t r S=f S1 xs:=by unfold eBR;rw[h,R.bind_ok]
theorem yn:∀(U A:List (Int×Int)),Keys (A++U)->dv (aK A) (aK U)=aK (A++U)
 |[],A,_=>by rw[Ym];rfl
 |e::U,A,h=>by
  have na:A.any (λx=>decide (x.1=e.1))=false:=by rw[Ws];intro x hx hq;exact(Q4.mp h).2.2 x hx e (.head _) (Qk hq)
  have e1:putD (aK A) (.inl e.1) (.int e.2)=aK (A++[e]):=by
   rw[qK];unfold pT
   rw[Ji (by rw[na];exact Jj)]
  have e2:A++e::U=(A++[e])++U:=by rw[Z8];rfl
  show dv (putD (aK A) (.inl e.1) (.int e.2)) (aK U)=_;rw[e1,e2];exact yn U (A++[e]) (e2▸h)
theorem uz:∀T:List (Int×Int),qp (T.map λe=>D.tup [.int e.1,.int e.2])=some (aK T)
 |[]=>rfl
 |e::T=>by rw[Jp];unfold qp;simp only[jk,uz T];rfl
theorem uB{b:Int}{S:Sto}:∀(T:List (Int×Int))(r0 r1:Option D),cy (.tp [.nm 0,.nm 1]) (tV (eOp oLe (eB ig (aa (ag 0) aj)) (ag 2))) (bz (aa (ag 0) (aa (ag 1) aj))) (T.map λe=>D.tup [.int e.1,.int e.2]) [r0,r1,some (.int b)] S=.ok ((kpT b T).map λe=>D.tup [.int e.1,.int e.2]) S
 |[],_,_=>rfl
 |e::T,r0,r1=>by
  have ih:=uB (b:=b) (S:=S) T (some (.int e.1)) (some (.int e.2))
  have z2:(2:Nat)<=sizeLine:=by decide
  have ht:tV (eOp oLe (eB ig (aa (ag 0) aj)) (ag 2)) [some (.int e.1),some (.int e.2),some (.int b)] S=.ok (inB b e.1) S:=aZ (aq (bb (z:=.int (ja e.1)) (af (ah rfl) rfl) rfl) (ah rfl) rfl);have he:bz (aa (ag 0) (aa (ag 1) aj)) [some (.int e.1),some (.int e.2),some (.int b)] S=.ok (.tup [.int e.1,.int e.2]) S:=bH (xs:=[.int e.1,.int e.2]) (af (ah rfl) (af (ah rfl) rfl)) z2;rw[Jp,cy];simp only[G.put,G.puts,Yn,Zm,ht,R.bind_ok];unfold kpT at ih ⊢;rw[Zp];cases hb:inB b e.1 with
  |true=>
   simp only[Z0,he,R.bind_ok,ih,Jp]
  |false=>
   simp only[Jy,Yp,ih]
theorem uC{f:List Int}(hd:dAt S n T)(h:Hist T f)(hz:f.length<=1000):cf [.ref n,.int b] S=.ok (.ref S.length) (S.set n (.fdic (aK T))++[.dic (aK (kpT b T))])/\Hist (kpT b T) (f.filter (inB b)):=by
 have z:(1000:Nat)<=sizeLine:=by decide
 have hi:=qN (ρ:=[some (.ref n),some (.int b)]) (i:=0) rfl hd;rw[yl]at hi;have hl:=h.len
 have hc:bf (kj (ag 0)) 2 [1] (.tp [(.nm 0),(.nm 1)]) (tV (eOp oLe (eB ig (aa (ag 0) aj)) (ag 2))) (bz (aa (ag 0) (aa (ag 1) aj))) [some (.ref n),some (.int b)] S=.ok (.lst ((kpT b T).map λe=>D.tup [.int e.1,.int e.2])) (S.set n (.fdic (aK T))):=by
  unfold bf
  rw[hi,R.bind_ok,Je (by rw[Jg];omega)]
  have:fF 2 [1] [some (D.ref n),some (.int b)]=[none,none,some (.int b)]:=rfl;rw[this,uB T none none,R.bind_ok]
 have hk:=h.keep b;have hm:dv [] (aK (kpT b T))=aK (kpT b T):=yn (kpT b T) [] hk.keys
 have hf:qq (S.set n (.fdic (aK T))) [.lst ((kpT b T).map λe=>D.tup [.int e.1,.int e.2])]=.ok (.ref S.length) (S.set n (.fdic (aK T))++[.dic (aK (kpT b T))]):=by unfold qq;simp only[iY,uz,hm,Zy]
 exact⟨bN (ρ:=[some (.ref n),some (.int b)]) rfl (aS ((ym (af hc rfl)).trans hf)),hk⟩
noncomputable abbrev twB:SM:=(aF (ba 2 (aA cf (aa (aA fE (aa (ag 2) (aa (ag 4) (aa (eC (.tup (([(-1),(1)]:List Int).map .int))) aj)))) (aa (ag 1) aj)))) (dg (lI dj (ag 3) (aa (ag 2) aj))))
theorem yo{m:Nat}{L:List D}{d:D}(h:S[m]?=some (.lst (L++[d]))):oIx S (.ref m) (.int (-1))=some d:=by
 unfold oIx bO;simp only[h]
 have e:ixN (L++[d]).length (-1)=some L.length:=by
  rw[Jm,Zt];unfold ixN
  rw[Ji (by decide),Je (by omega)]
  congr 1;omega
 unfold atI;rw[e];show(L++[d])[L.length]?=some d;simp
structure Tbs(S0 S:Sto)(b:Int)(m:Nat)(xs:List Int)(P:List (Nat×List (Int×Int))):Prop where
 lst:S[m]?=some (.lst (P.map λe=>D.ref e.1))
 at_:∀e∈P,dAt S e.1 e.2/\e.1≠m/\S0.length<=e.1
 len:P.length=xs.length+1
 his:∀i,i<=xs.length->∃e,P[i]?=some e/\Hist e.2 (wiL b (xs.take i))
 low:S0.length<=m
 pre:Pre S0 S
theorem Tbs.last{m:Nat}{P:List (Nat×List (Int×Int))}(h:Tbs S0 S b m xs P):∃Q e,P=Q++[e]/\Hist e.2 (wiL b xs):=by
 have hne:P≠[]:=λz=>by have:=h.len;rw[z]at this;cases this
 obtain⟨e,he,hh⟩:=h.his xs.length (Jd _);rw[Ga]at hh;refine⟨P.dropLast,e,?_,hh⟩;have h1:=List.dropLast_concat_getLast hne
 have h2:P.getLast hne=e:=by
  rw[List.getLast_eq_getElem];obtain⟨hl,e2⟩:=Jf.mp he
  have:P.length-1=xs.length:=by rw[h.len];rfl
  simp only[this];exact e2
 rw[<- h2];exact h1.symm
theorem Aq{m:Nat}{Q:List (Nat×List (Int×Int))}{e:Nat×List (Int×Int)}(h:Tbs S0 S b m xs (Q++[e]))(hT:Hist e.2 (wiL b xs))(hl:xs.length<=8)(r0:Option D):∃(e':Nat×List (Int×Int))(S':Sto),twB [r0,some (.int b),some (.ref e.1),some (.ref m),some (.int x)] S=.ok (.nx [r0,some (.int b),some (.ref e'.1),some (.ref m),some (.int x)]) S'/\Tbs S0 S' b m (xs++[x]) ((Q++[e])++[e'])/\Hist e'.2 (wiL b (xs++[x])):=by
 obtain⟨t,T⟩:=e;obtain⟨hd,hne,hlow⟩:=h.at_ (t,T) (Yg _ (.head _));have hd:dAt S t T:=hd;have hT:Hist T (wiL b xs):=hT;have hw:=sW b xs;have hp:=p256 hl
 obtain⟨T1,e1,h1⟩:=sV (K:=[-1,1]) (x:=x) (by decide) hd hT (by show _*2<=1000;omega)
 have hlf:(fS [-1,1] x (wiL b xs)).length<=1000:=by rw[sU];show _*2<=1000;omega
 have hml:m<S.length:=(Jf.mp h.lst).1
 have hd1:dAt (S.set t (.fdic (aK T))++[.dic (aK T1)]) S.length T1:=.inl (by rw[Y5 (by rw[Zy];exact Jd _)];simp)
 obtain⟨e2,h2⟩:=uC (b:=b) hd1 h1 hlf;rw[qS]at h2
 have elen:(S.set t (.fdic (aK T))++[SO.dic (aK T1)]).length=S.length+1:=by simp
 have p1:Pre S0 (S.set t (.fdic (aK T))++[SO.dic (aK T1)]):=(h.pre.set hlow _).trans (Pre.app _ _);have old:∀d∈Q++[(t,T)],dAt (S.set t (.fdic (aK T))++[SO.dic (aK T1)]) d.1 d.2:=λd hd'=>hd.step (h.at_ d hd').1
 have hm1:(S.set t (.fdic (aK T))++[SO.dic (aK T1)])[m]?=some (.lst ((Q++[(t,T)]).map λe=>D.ref e.1)):=by rw[Jw (by rw[Zy];exact hml),Ye hne];exact h.lst
 rw[elen]at e2;generalize S.set t (.fdic (aK T))++[SO.dic (aK T1)]=S1 at *;have hold:∀d∈Q++[(t,T)],d.1<S.length:=λd hd'=>(h.at_ d hd').1.lt;have p2:Pre S0 (S1.set S.length (.fdic (aK T1))++[SO.dic (aK (kpT b T1))]):=(p1.set h.pre.len _).trans (Pre.app _ _)
 have old2:∀d∈Q++[(t,T)],dAt (S1.set S.length (.fdic (aK T1))++[SO.dic (aK (kpT b T1))]) d.1 d.2:=λd hd'=>dAt.app ((old d hd').set (by have:=hold d hd';omega))
 have hm2:(S1.set S.length (.fdic (aK T1))++[SO.dic (aK (kpT b T1))])[m]?=some (.lst ((Q++[(t,T)]).map λe=>D.ref e.1)):=by rw[Jw (by rw[Zy];omega),Ye (by omega)];exact hm1
 have ht2:(S1.set S.length (.fdic (aK T1))++[SO.dic (aK (kpT b T1))])[S.length+1]?=some (.dic (aK (kpT b T1))):=by rw[Y5 (by rw[Zy,elen];exact Jd _),Zy,elen];simp
 generalize S1.set S.length (.fdic (aK T1))++[SO.dic (aK (kpT b T1))]=S2 at *
 have z:(1000:Nat)<sizeLine:=by decide
 have hQ:=h.len
 have hlx:(Q++[(t,T)]).length<=9:=by omega
 have ha:=iL (v:=.ref (S.length+1)) hm2 (by rw[Jg];omega)
 have eP:(Q++[(t,T)]).map (λe=>D.ref e.1)++[D.ref (S.length+1)]=((Q++[(t,T)])++[(S.length+1,kpT b T1)]).map λe=>D.ref e.1:=by rw[Qi (l₁:=Q++[(t,T)])];rfl
 rw[eP]at ha;have hml2:m<S2.length:=(Jf.mp hm2).1;refine⟨(S.length+1,kpT b T1),S2.set m (.lst (((Q++[(t,T)])++[(S.length+1,kpT b T1)]).map λe=>D.ref e.1)),?_,⟨Yj hml2,λd hd'=>?_,?_,λi hi=>?_,h.low,p2.set h.low _⟩,h2⟩
 .exact(au (aP ((aw (af ((aw (af (ah rfl) (af (ah rfl) (af rfl rfl)))).trans e1) (af (ah rfl) rfl))).trans e2))).trans (bF ((kS (ah rfl) (kT hm2) (af (ah rfl) rfl)).trans ha))
 .rcases Jt.mp hd' with q|q
  .obtain⟨_,n1,n2⟩:=h.at_ d q;exact⟨(old2 d q).set (Ne.symm n1),n1,n2⟩
  .rw[Jv.mp q];have:=h.pre.len
   exact⟨dAt.set (.inl ht2) (show m≠S.length+1 by omega),show S.length+1≠m by omega,show S0.length<=S.length+1 by omega⟩
 .rw[Jm,h.len,Jm];rfl
 .rw[Jm,Zt]at hi;by_cases c:i<=xs.length
  .obtain⟨d,g1,g2⟩:=h.his i c
   exact⟨d,by rw[Jw (by rw[h.len];omega)];exact g1,by rw[Ud c];exact g2⟩
  .have ei:i=xs.length+1:=by omega
   subst ei
   refine⟨(S.length+1,kpT b T1),by rw[Y5 (by rw[h.len];omega),h.len];simp,?_⟩
   rw[Qb (by rw[Jm];simp)]
   exact h2
theorem uD{m:Nat}(r0:Option D):∀(ys xs:List Int)(S:Sto)(Q:List (Nat×List (Int×Int)))(e:Nat×List (Int×Int))(r4:Option D),Tbs S0 S b m xs (Q++[e])->Hist e.2 (wiL b xs)->xs.length+ys.length<=9->∃(P:List (Nat×List (Int×Int)))(S':Sto)(b2 b4:Option D),forL (.nm 4) twB (ys.map .int) [r0,some (.int b),some (.ref e.1),some (.ref m),r4] S=.ok (.nx [r0,some (.int b),b2,some (.ref m),b4]) S'/\Tbs S0 S' b m (xs++ys) P
 |[],xs,S,Q,e,r4,h,_,_=>⟨_,S,_,r4,rfl,by rw[Ym];exact h⟩
 |y::ys,xs,S,Q,e,r4,h,hT,hl=>by
  rw[Jk]at hl
  obtain⟨e1,S1,g1,h1,hT1⟩:=Aq (x:=y) h hT (by omega) r0
  obtain⟨P,S2,b2,b4,g2,h2⟩:=uD r0 ys (xs++[y]) S1 (Q++[e]) e1 (some (.int y)) h1 hT1 (by rw[Jm];show xs.length+1+ys.length<=9;omega)
  refine⟨P,S2,b2,b4,(bj (r1:=[r0,some (.int b),some (.ref e.1),some (.ref m),some (.int y)]) rfl g1).trans g2,?_⟩;rw[Z8]at h2;exact h2
theorem vU(hl:xs.length<=9)(S:Sto):∃(m:Nat)(P:List (Nat×List (Int×Int)))(S':Sto),cF [tupI xs,.int b] S=.ok (.ref m) S'/\Tbs S S' b m xs P:=by
 have z1':(1:Nat)<=sizeLine:=by decide
 have e0:tQ [((eC (.int 0)),(eC (.int 1)))] [some (tupI xs),some (.int b),none,none,none] S=.ok (.ref S.length) (S++[.dic (aK [(0,1)])]):=by rfl
 have hd:dAt (S++[.dic (aK [(0,1)])]) S.length [(0,1)]:=.inl (by simp)
 obtain⟨e1,h1⟩:=uC (b:=b) hd Hist.zero (by show 1<=1000;decide)
 rw[<- uw]at h1
 have elen:(S++[SO.dic (aK [(0,1)])]).length=S.length+1:=by simp
 have p1:Pre S ((S++[SO.dic (aK [(0,1)])]).set S.length (.fdic (aK [(0,1)]))++[SO.dic (aK (kpT b [(0,1)]))]):=((Pre.app S _).set (Jd _) _).trans (Pre.app _ _);rw[elen]at e1;generalize hS1:(S++[SO.dic (aK [(0,1)])]).set S.length (.fdic (aK [(0,1)]))++[SO.dic (aK (kpT b [(0,1)]))]=S1 at e1 p1
 have l1:S1.length=S.length+2:=by rw[<- hS1];simp
 have ht1:S1[S.length+1]?=some (.dic (aK (kpT b [(0,1)]))):=by
  rw[<- hS1,Y5 (by simp)]
  simp
 have hN:eNew (aa (ag 2) aj) [some (tupI xs),some (.int b),some (.ref (S.length+1)),none,none] S1=.ok (.ref S1.length) (S1++[.lst [.ref (S.length+1)]]):=by unfold eNew;rw[af (ah rfl) rfl,R.bind_ok];exact Je z1'
 have hT:Tbs S (S1++[.lst [.ref (S.length+1)]]) b S1.length [] ([]++[(S.length+1,kpT b [(0,1)])]):=by
  refine⟨by simp,λd hd=>?_,rfl,λi hi=>by have e:i=0:=(by simpa using hi);subst e;exact⟨_,rfl,h1⟩,by omega,p1.trans (Pre.app _ _)⟩
  rw[Jv.mp hd]
  exact⟨dAt.app (.inl ht1),show S.length+1≠S1.length by omega,show S.length<=S.length+1 by omega⟩
 obtain⟨P,S',b2,b4,e2,h2⟩:=uD (some (tupI xs)) xs [] (S1++[.lst [.ref (S.length+1)]]) [] (S.length+1,kpT b [(0,1)]) none hT h1 (by show 0+xs.length<=9;omega)
 rw[Zl]at h2;exact⟨S1.length,P,S',bN (ρ:=[some (tupI xs),some (.int b),none,none,none]) rfl ((au (aP ((aw (af e0 (af (ah rfl) rfl))).trans e1))).trans ((au (aP hN)).trans ((au ((bY (ah rfl) rfl).trans e2)).trans (aS (ah rfl))))),h2⟩
theorem nP:∀T:List (Int×Int),jq (aK T)=some (T.map λe=>((.inl e.1:KD),e.2))
 |[]=>rfl
 |e::T=>by show(jq (aK T)).map _=_;rw[nP T];rfl
theorem eq_nil{t:Nat}(h:dAt S t T):oQ S (.ref t) (.dic [])=some (.bl (decide (T=[]))):=by have h2:dQ S (.dic [])=some []:=rfl;unfold oQ;simp only[h.dic,h2,nP];cases T<;>rfl
structure Lays(b:Int)(xs:List Int)(Ls:List (List Int)):Prop where
 len:Ls.length=xs.length+1
 mem:∀i,i<=xs.length->∀v,v∈Ls.getD i []↔v∈wiL b (xs.take i)
 up:∀L∈Ls,L.Pairwise (· < ·)
 sm:∀L∈Ls,L.length<=1000
structure Sim(d:D)(p:PyData):Prop where
 py:toPy d=some p
 lay:p.canLay0=true
 dep:p.depth<=3
theorem yp:∀{ds:List D}{f:D->PyData},(∀d∈ds,Sim d (f d))->cE ds=some (ds.map f)/\PyData.canLayAll0 (ds.map f)=true/\PyData.depthAll (ds.map f)<=3
 |[],f,_=>⟨rfl,rfl,by show 0<=3;omega⟩
 |d::ds,f,h=>by
  have h1:=h d Y6;obtain⟨a,b,c⟩:=yp (ds:=ds) (f:=f) λx hx=>h x (Y4 _ hx)
  refine⟨by unfold cE;rw[h1.py,a];rfl,by unfold List.map PyData.canLayAll0;rw[h1.lay,b];rfl,?_⟩
  have:=h1.dep;unfold List.map PyData.depthAll;omega
theorem iM{p:PyData}(h:p.canLay0=true)(hd:p.depth<=64):SeqAt.shaped p=true:=by unfold SeqAt.shaped;rw[h,Yc hd];rfl
theorem Ar{xs ys:List D}{f:D->PyData}(hx:∀d∈xs,Sim d (f d))(hy:∀d∈ys,Sim d (f d)):eqP (.lst xs) (.lst ys)=some (PyData.eqvAll (xs.map f) (ys.map f)):=by
 obtain⟨a,b,c⟩:=yp hx;obtain⟨a',b',c'⟩:=yp hy
 have e1:toPy (.lst xs)=some (.list (xs.map f)):=by unfold toPy;rw[a];rfl
 have e2:toPy (.lst ys)=some (.list (ys.map f)):=by unfold toPy;rw[a'];rfl
 have s1:SeqAt.shaped (.list (xs.map f))=true:=iM (by unfold PyData.canLay0;exact b) (by unfold PyData.depth;omega)
 have s2:SeqAt.shaped (.list (ys.map f))=true:=iM (by unfold PyData.canLay0;exact b') (by unfold PyData.depth;omega)
 unfold eqP;have e0:eqS (.lst xs) (.lst ys)=none:=rfl;rw[e0,e1,e2];simp only[s1,s2,and_self,Z0];rw[PyData.eqv]
theorem As{xs ys:List D}{f:D->PyData}(hx:∀d∈xs,Sim d (f d))(hy:∀d∈ys,Sim d (f d)):eqP (.tup xs) (.tup ys)=some (PyData.eqvAll (xs.map f) (ys.map f)):=by
 obtain⟨a,b,c⟩:=yp hx;obtain⟨a',b',c'⟩:=yp hy
 have e1:toPy (.tup xs)=some (.tuple (xs.map f)):=by unfold toPy;rw[a];rfl
 have e2:toPy (.tup ys)=some (.tuple (ys.map f)):=by unfold toPy;rw[a'];rfl
 have s1:SeqAt.shaped (.tuple (xs.map f))=true:=iM (by unfold PyData.canLay0;exact b) (by unfold PyData.depth;omega)
 have s2:SeqAt.shaped (.tuple (ys.map f))=true:=iM (by unfold PyData.canLay0;exact b') (by unfold PyData.depth;omega)
 unfold eqP;have e0:eqS (.tup xs) (.tup ys)=none:=rfl;rw[e0,e1,e2];simp only[s1,s2,and_self,Z0];rw[PyData.eqv]
noncomputable def pyI:D->PyData
 |.int i=>.int i
 |.tup [.int i,.int j]=>.tuple [.int i,.int j]
 |_=>.none
theorem Eg(i:Int):pyI (.int i)=PyData.int i:=rfl
theorem Av(i:Int):Sim (.int i) (pyI (.int i)):=⟨rfl,rfl,by show 0<=3;omega⟩
theorem jK{is:List Int}:∀d∈is.map D.int,Sim d (pyI d):=λd hd=>by obtain⟨i,_,rfl⟩:=Y7.mp hd;exact Av i
theorem mH:∀(xs ys:List Int),PyData.eqvAll ((xs.map D.int).map pyI) ((ys.map D.int).map pyI)=decide (xs=ys)
 |[],[]=>by simp[PyData.eqvAll]
 |[],y::ys=>by simp[PyData.eqvAll]
 |x::xs,[]=>by simp[PyData.eqvAll]
 |x::xs,y::ys=>by simp only[Jp,PyData.eqvAll,mH xs ys,Eg,PyData.eqv];rw[Zu];simp
theorem yq(xs ys:List Int):eqP (.lst (xs.map .int)) (.lst (ys.map .int))=some (decide (xs=ys)):=by rw[Ar jK jK,mH]
theorem nQ(xs ys:List Int):eqP (.tup (xs.map .int)) (.tup (ys.map .int))=some (decide (xs=ys)):=by rw[As jK jK,mH]
theorem nR:∀T:List (Int×Int),gk (aK T)=some (T.map (·.1))
 |[]=>rfl
 |e::T=>by show(gk (aK T)).map (e.1 :: ·)=_;rw[nR T];rfl
noncomputable def wsS(T:List (Int×Int)):List Int:=bV (T.map (·.1))
theorem CW(h:dAt S n T)(hz:T.length<=1000):su S [.ref n]=some (.lst ((wsS T).map .int)):=by
 have z:(1000:Nat)<=sizeLine:=by decide
 show(match ql S (.ref n) with|some ns=>if ns.length<=sizeLine then some (D.lst ((bV ns).map .int)) else none|none=>none)=_
 have e:ql S (.ref n)=some (T.map (·.1)):=by unfold ql;rw[h.seq];simp only[h.dic,nR]
 rw[e];dsimp only
 rw[Je (by rw[Jg];omega)]
 rfl
theorem Aw{f:List Int}(h:Hist T f)(w:Int):w∈wsS T↔w∈f:=by unfold wsS;rw[(bB _).mem_iff,Y7,<- h.mem w]
theorem Ax(T:List (Int×Int)):(wsS T).length=T.length:=by unfold wsS;rw[(bB _).length_eq,Jg]
theorem o6{l:List D}:df S [.lst l]=some (.tup l):=rfl
noncomputable abbrev cx(Ls:List (List Int)):List D:=Ls.map tupI
theorem CY(h:Keys T):(wsS T).Pairwise (· < ·):=by
 have a:=cV (T.map (·.1))
 have nd:(T.map (·.1)).Nodup:=by unfold Keys at h;rw[Z5,Vn];exact h
 have b:(bV (T.map (·.1))).Pairwise (· ≠ ·):=Z5.mp ((bB (T.map (·.1))).nodup_iff.mpr nd)
 exact(a.and b).imp λ⟨x,y⟩=>by omega
theorem yr{neg:Bool}:oIn neg S (.int v) (tupI L)=some (.bl (if neg then !decide (v∈L) else decide (v∈L))):=by
 have h1:(L.map D.int).all ic=true:=Qe.mpr λd hd=>by obtain⟨i,_,rfl⟩:=Y7.mp hd;rfl
 have h2:((L.map D.int).any λz=>eqF z (.int v))=decide (v∈L):=by
  rw[Zu,Vy,Qv];constructor
  .rintro⟨d,hd,q⟩;obtain⟨i,hi,rfl⟩:=Y7.mp hd
   have:i=v:=by simpa[eqF] using q
   rw[<- this];exact hi
  .intro h
   exact⟨.int v,Y7.mpr ⟨v,h,rfl⟩,by simp[eqF]⟩
 unfold oIn;simp only[bO];rw[Je ⟨rfl,h1⟩,h2]
def lAt(S:Sto)(l:Nat)(xs:List D):Prop:=S[l]?=some (.lst xs)\/S[l]?=some (.flst xs)
theorem lAt.seq{xs:List D}(h:lAt S l xs):bO S (.ref l)=some xs:=by rcases h with h|h<;>simp[bO,h]
theorem lAt.pre{xs:List D}(h:lAt S l xs)(p:Pre S S'):lAt S' l xs:=by
 have hl:l<S.length:=by rcases h with h|h<;>exact(Jf.mp h).1
 unfold lAt;rw[p.old l hl];exact h
theorem CZ(h:lAt S l (cx Ls))(hi:i<Ls.length):oIx S (.ref l) (.int (i:Int))=some (tupI (Ls.getD i [])):=by
 unfold oIx;simp only[h.seq]
 have:=gf (xs:=cx Ls) (i:=i) (by rw[Jg];exact hi)
 rw[List.getElem_map]at this;rw[this,Jx,Jc hi];rfl
theorem uF(h:lAt S l (cx Ls))(hn:Ls.length=n+1):oIx S (.ref l) (.int (-1))=some (tupI (Ls.getD n [])):=by
 unfold oIx;simp only[h.seq]
 have hi:n<Ls.length:=by omega
 have e:atI (cx Ls) (-1)=(cx Ls)[n]?:=by
  unfold atI ixN
  have hl:(cx Ls).length=n+1:=by rw[Jg,hn]
  rw[hl,Ji (by omega),Je (by omega)]
  show(cx Ls)[((-1:Int)+((n+1:Nat):Int)).toNat]?=_
  rw[show((-1:Int)+((n+1:Nat):Int)).toNat=n by omega]
 rw[e,Zf,Jc hi,Jx,Jc hi];rfl
theorem fX:cL S [tupI A]=some (.int A.length):=by show some (D.int ((A.map D.int).length:Int))=_;rw[Jg]
theorem kZ(h:i<A.length):oIx S (tupI A) (.int (i:Int))=some (.int A[i]):=by
 have:=gf (xs:=A.map D.int) (i:=i) (by rw[Jg];exact h)
 rw[List.getElem_map]at this;exact this
theorem vV(h:t r S=.ok [.int 1,.int (n:Int)] S)(hn:n<=100000):jx t r S=.ok ((List.range (n-1)).map λ(m:Nat)=>D.int (1+m)) S:=by
 unfold jx;rw[h,R.bind_ok]
 have b1:=uo (n:=1) (by decide) (by decide)
 have b2:=uo (n:=(n:Int)) (by omega) (by omega)
 have e:PD.vK [.int 1,.int (n:Int)]=some ((1:Int),(n:Int)):=by simp only[PD.vK];rw[Je ⟨b1.2,b1.1,b2.2,b2.1⟩]
 simp only[e]
 rw[show((n:Int)-1).toNat=n-1 by omega]
theorem Eh{i:Int}:oLt S (.int i) (.int j)=some (.bl (decide (i<j))):=rfl
noncomputable def fM(B:List Int):List (KD×D):=B.map λv=>(.inl v,.bl true)
theorem yt:∀(U A:List Int),(A++U).Nodup->dv (fM A) (fM U)=fM (A++U)
 |[],A,_=>by rw[Ym];rfl
 |v::U,A,h=>by
  have na:(fM A).any (λkv=>decide (kv.1=(.inl v:KD)))=false:=by rw[Ws];intro kv hkv hq;obtain⟨a,ha,rfl⟩:=Y7.mp hkv;have e:a=v:=Vp (Qk hq);exact(Vi.mp h).2.2 a ha v (.head _) e
  have e1:putD (fM A) (.inl v) (.bl true)=fM (A++[v]):=by unfold putD;rw[na];simp[fM]
  have e2:A++v::U=(A++[v])++U:=by rw[Z8];rfl
  show dv (putD (fM A) (.inl v) (.bl true)) (fM U)=_;rw[e1,e2];exact yt U (A++[v]) (e2▸h)
theorem Ei:∀B:List Int,PD.qp (B.map λv=>D.tup [.int v,.bl true])=some (fM B)
 |[]=>rfl
 |v::B=>by rw[Jp];unfold PD.qp;simp only[jk,Ei B];rfl
theorem oH{xs:List D}(hi:ρ[i]?=some (some (.ref l)))(h:lAt S l xs):∃S1:Sto,oN (ag i) ρ S=.ok xs S1/\S1[l]?=some (.flst xs)/\(∀j,j≠l->S1[j]?=S[j]?)/\S1.length=S.length:=by
 have hl:l<S.length:=by rcases h with h|h<;>exact(Jf.mp h).1
 unfold oN;rw[ah hi,R.bind_ok];rcases h with h|h
 .simp only[h];exact⟨_,rfl,Yj hl,λj hj=>Ye (Ne.symm hj),Zy⟩
 .simp only[h];exact⟨S,rfl,h,λ_ _=>rfl,rfl⟩
theorem Ay{xs:List D}(h:lAt S l xs):fm S [.ref l,.ty "list"]=some (.bl true):=by
 rcases h with h|h
 .have e:fm S [.ref l,.ty "list"]=di S [.ref l,.ty "list"]:=by simp only[fm,h]
  rw[e];simp[di,tyD,dP,h]
 .simp[fm,h,dP]
theorem vW{A:Type}{enc out:A->D}(xs:List A)(hi:it r S=.ok (xs.map enc) S1)(hl:xs.length<=sizeLine)(hc:caps.map (λi=>(r[i]?).join)=tl)(h:∀x∈xs,e (some (enc x)::tl) S1=.ok (out x) S1):bf it 1 caps (.nm 0) bh e r S=.ok (.lst (xs.map out)) S1:=by
 unfold bf
 rw[hi,R.bind_ok,Je (by rw[Jg];exact hl)]
 have:fF 1 caps r=none::tl:=by unfold fF;rw[hc];rfl
 rw[this,comp_map (out:=out) xs none h,R.bind_ok]
theorem jL:∀(xs:List D)(i:Nat),(PD.numbered i xs).length=xs.length
 |[],_=>rfl
 |x::xs,i=>by rw[PD.numbered,Jk,Jk,jL xs (i+1)]
theorem C0{m:EM}{xs:List D}(h:m r S=.ok (.ref n) S1)(hn:S1[n]?=some (.lst xs)):oN m r S=.ok xs (S1.set n (.flst xs)):=by unfold oN;rw[h,R.bind_ok];simp only[hn]
theorem jM:∀xs:List Int,intsOf (xs.map D.int)=some xs
 |[]=>rfl
 |x::xs=>by rw[Jp];unfold intsOf;rw[jM xs];rfl
theorem Az{f:List Int}(h:f.length<=4000):gY S [.lst (f.map .int)]=some (.lst ((bV (ST.uniqZ f)).map .int)):=by
 show(match intsOf (f.map D.int) with|some ns=>if ns.length+1<4096 then some (D.lst ((bV (ST.uniqZ ns)).map .int)) else none|none=>none)=_
 rw[jM]
 exact Je (by omega)
theorem uH(f:List Int):(bV (ST.uniqZ f)).Pairwise (· < ·):=by
 have b:(bV (ST.uniqZ f)).Pairwise (· ≠ ·):=Z5.mp ((bB _).nodup_iff.mpr (ST.uniqZ_nd f))
 exact((cV _).and b).imp λ⟨x,y⟩=>by omega
noncomputable def isT:D->Bool
 |.tup _=>true
 |_=>false
theorem uJ{d:D}(h:jG d=true):di S [d,.ty "tuple"]=some (.bl (isT d)):=by cases d<;>first|(cases h;done)|(simp[di,tyD,dP,isT])
noncomputable def zI:D->Int
 |.int i=>i
 |_=>0
noncomputable def zs:D->List Int
 |.tup ys=>ys.map zI
 |_=>[]
noncomputable def rise:D->Bool
 |.tup ys=>ys.all isI&&decide ((ys.map zI).Pairwise (· < ·))
 |_=>false
theorem jN:∀{ys:List D},ys.all isI=true->(ys.map zI).map D.int=ys
 |[],_=>rfl
 |y::ys,h=>by
  rw[Q2,Yd]at h
  have e:D.int (zI y)=y:=by
   have h1:=h.1
   cases y<;>first|rfl|(cases h1;done)
  rw[Jp,Jp,jN h.2,e]
theorem gq{d:D}(h:rise d=true):d=tupI (zs d)/\(zs d).Pairwise (· < ·):=by
 cases d with
 |tup ys=>
  have h:(ys.all isI&&decide ((ys.map zI).Pairwise (· < ·)))=true:=h;rw[Yd,Qv]at h
  exact⟨by show D.tup ys=D.tup ((ys.map zI).map D.int);rw[jN h.1],h.2⟩
 |_=>cases h
theorem uK:∀ns:List Int,(∀m,(h:m+1<ns.length)->ns[m]<ns[m+1])->ns.Pairwise (· < ·)
 |[],_=>.nil
 |[x],_=>Wk _ _
 |x::y::r,h=>by
  have ih:=uK (y::r) λm hm=>h (m+1) (by simp only[Jk]at hm ⊢;omega)
  refine Zv.mpr ⟨λz hz=>?_,ih⟩
  have h0:x<y:=h 0 (by simp)
  rcases Jq.mp hz with rfl|hz
  .exact h0
  .have:=(Zv.mp ih).1 z hz;omega
theorem C1(ns:List Int):((List.range (ns.length-1)).all λm=>decide (ns.getD m 0<ns.getD (m+1) 0))=decide (ns.Pairwise (· < ·)):=by
 rw[Zu,Qe,Qv]
 have g:∀m,(h:m<ns.length)->ns.getD m 0=ns[m]:=λm h=>by rw[Jx,Jc h];rfl
 constructor
 .intro h;refine uK ns λm hm=>?_
  have:=h m (Qo.mpr (by omega))
  rw[Qv,g m (by omega),g (m+1) hm]at this
  exact this
 .intro h m hm;have hm:=Qo.mp hm
  rw[Qv,g m (by omega),g (m+1) (by omega)]
  exact Zz.mp h m (m+1) (by omega) (by omega) (by omega)
theorem AA(ns:List Int):decide (ns=bV (ST.uniqZ ns))=decide (ns.Pairwise (· < ·)):=by
 rw[V2];constructor
 .intro h;rw[h];exact uH _
 .intro h
  have nd:ns.Nodup:=Z5.mpr (h.imp λh=>by omega)
  have p:ns.Perm (ST.uniqZ ns):=(Ux nd (ST.uniqZ_nd ns)).mpr λv=>(ST.uniqZ_mem ns v).symm
  exact eX (p.trans (bB _).symm) (h.imp λh=>by omega) (cV _)
theorem vX{W:FM}(hW:∀(d:D)(S:Sto),jG d=true->W [d] S=.ok (.bl (isI d)) S){ys:List D}(hr:r[0]?=some (some (.tup ys)))(hs:∀x∈ys,jG x=true)(hl:ys.length<=1000):
  tV (eB gC (aa (bf (bJ (ag 0) bg) 1 [] (.nm 0) bh (aA W (aa (ag 0) aj))) aj)) r S=.ok (ys.all isI) S:=by
 have hc:bf (bJ (ag 0) bg) 1 [] (.nm 0) bh (aA W (aa (ag 0) aj)) r S=.ok (.lst (ys.map λx=>D.bl (isI x))) S:=
  eK (enc:=λx=>x) ys (by rw[List.map_id'];exact mE hr rfl) (Ys hl (by decide)) rfl λx hx=>(aw (af (ah rfl) rfl)).trans (hW x S (hs x hx))
 exact aZ (bb (af hc rfl) iC)
theorem AB{f:FM}{W:FM}{k:EM}(hf:f=fnM 1 (aF (sIf (PD.tOr (PD.cS (tV (eB di (aa (ag 0) (aa (eC (.ty "tuple")) aj))))) (PD.cS (tV (eB gC (aa (bf (bJ (ag 0) bg) 1 [] (.nm 0) bh (aA W (aa (ag 0) aj))) aj))))) (aT (eC (.bl false))) aY) (aT k)))
  (hW:∀(d:D)(S:Sto),jG d=true->W [d] S=.ok (.bl (isI d)) S) (hk:∀(ns:List Int)(S:Sto),ns.length<=1000->k [some (tupI ns)] S=.ok (.bl (decide (ns.Pairwise (· < ·)))) S) {d:D} (h:jH d) (S:Sto):f [d] S=.ok (.bl (rise d)) S:=by
 subst hf;have hi:tV (eB di (aa (ag 0) (aa (eC (.ty "tuple")) aj))) [some d] S=.ok (isT d) S:=aZ (bb (af (ah rfl) (af rfl rfl)) (uJ h.1))
 refine bN (ρ:=[some d]) rfl ?_;by_cases ht:∃ys,d=.tup ys
 .obtain⟨ys,rfl⟩:=ht;obtain⟨hs,hl⟩:=h.2 ys rfl;have ha:=vX hW (r:=[some (.tup ys)]) (S:=S) rfl hs hl;cases hb:ys.all isI with
  |false=>
   rw[hb]at ha
   have er:rise (.tup ys)=false:=by show(ys.all isI&&_)=false;rw[hb];rfl
   rw[er];exact cj ((dE ((ez (bD hi)).trans (bD ha))).trans (aS rfl))
  |true=>
   rw[hb]at ha
   have er:rise (.tup ys)=decide ((ys.map zI).Pairwise (· < ·)):=by show(ys.all isI&&_)=_;rw[hb];rfl
   rw[er];refine(au ((cp ((ez (bD hi)).trans (bD ha))).trans rfl)).trans (aS ?_)
   have e:=hk (ys.map zI) S (by rw[Jg];exact hl)
   have eT:tupI (ys.map zI)=.tup ys:=by show D.tup _=_;rw[jN hb]
   rw[eT]at e;exact e
 .have er:rise d=false/\isT d=false:=by cases d<;>first|exact⟨rfl,rfl⟩|exact(ht ⟨_,rfl⟩).elim
  rw[er.2]at hi;rw[er.1];exact cj ((dE (mF (bD hi))).trans (aS rfl))
theorem vY{d:D}(h:jH d)(S:Sto):cP [d] S=.ok (.bl (rise d)) S:=AB rfl (λd S h=>gn h) (λns S hl=>by
 have z:(1000:Nat)<=sizeLine:=by decide
 have hr:jx (aa (eC (.int 1)) (aa (eB cL (aa (ag 0) aj)) aj)) [some (tupI ns)] S=.ok ((List.range (ns.length-1)).map λ(m:Nat)=>D.int (1+m)) S:=vV (af rfl (af (bb (af (ah rfl) rfl) fX) rfl)) (by omega)
 have hc:=eK (enc:=λ(m:Nat)=>D.int (1+m)) (out:=λm:Nat=>D.bl (decide (ns.getD m 0<ns.getD (m+1) 0))) (e:=eOp oLt (eOp oIx (ag 1) (eOp hU (ag 0) (eC (.int 1)))) (eOp oIx (ag 1) (ag 0))) (caps:=[0]) (tl:=[some (tupI ns)]) (List.range (ns.length-1)) hr (by rw[Vo];omega) rfl λm hm=>by
  have hm:=Qo.mp hm
  have g:∀m,(h:m<ns.length)->ns[m]=ns.getD m 0:=λm h=>by rw[Jx,Jc h];rfl
  have e1:hU S (.int (1+(m:Int))) (.int 1)=some (.int (m:Int)):=by
   show some (D.int (1+(m:Int)-1))=_
   rw[show(1+(m:Int)-1)=m by omega]
  have e2:oIx S (tupI ns) (.int (1+(m:Int)))=some (.int (ns.getD (m+1) 0)):=by
   rw[show(1+(m:Int))=((m+1:Nat):Int) by omega,<- g (m+1) (by omega)]
   exact kZ (by omega)
  have e3:oIx S (tupI ns) (.int (m:Int))=some (.int (ns.getD m 0)):=by rw[<- g m (by omega)];exact kZ (by omega)
  exact aq (aq (ah rfl) (aq (ah rfl) rfl e1) e3) (aq (ah rfl) (ah rfl) e2) Eh
 have e:gC S [.lst ((List.range (ns.length-1)).map λm:Nat=>D.bl (decide (ns.getD m 0<ns.getD (m+1) 0)))]=some (.bl (decide (ns.Pairwise (· < ·)))):=by rw[iC (f:=λm:Nat=>decide (ns.getD m 0<ns.getD (m+1) 0)),C1]
 exact bb (af hc rfl) e) h S
theorem EY{p:Nat}(hp:S[p]?=some (.dic (fM B)))(v:Int):sh true S (.int v) (.ref p)=some (.bl (!decide (v∈B))):=by
 have hs:bO S (.ref p)=none:=by simp[bO,hp]
 have hd:dQ S (.ref p)=some (fM B):=by simp[dQ,hp]
 have hk:(gg (fM B) (.inl v)).isSome=decide (v∈B):=by
  rw[vR,Zu,Vy,Qv];constructor
  .rintro⟨kv,hkv,hq⟩;obtain⟨a,ha,rfl⟩:=Y7.mp hkv;have e:a=v:=Vp (Qk hq);rw[<- e];exact ha
  .exact λh=>⟨_,Y7.mpr ⟨v,h,rfl⟩,Yc rfl⟩
 unfold sh;rw[hs];simp only[Option.isSome_none,Jy,Yp];unfold zM;simp only[hd,jk,hk];cases decide (v∈B)<;>rfl
def Vw(S:Sto)(d:D)(xs:List D):Prop:=d=.lst xs \/ ∃l,d=.ref l/\(∀i,xs≠[.int i])/\lAt S l xs
def Kp(S S':Sto):Prop:=(∀n xs,lAt S n xs->lAt S' n xs)/\∀(n:Nat)(i:Int),S[n]?=some (SO.lst [D.int i])->S'[n]?=some (SO.lst [D.int i])
theorem Kp.refl(S:Sto):Kp S S:=⟨λ_ _ h=>h,λ_ _ h=>h⟩
theorem Kp.trans(a:Kp S S1)(b:Kp S1 S2):Kp S S2:=⟨λn xs h=>b.1 n xs (a.1 n xs h),λn i h=>b.2 n i (a.2 n i h)⟩
theorem Kp.pre(p:Pre S S'):Kp S S':=⟨λ_ _ h=>h.pre p,λn i h=>by rw[p.old n (Jf.mp h).1];exact h⟩
theorem Vw.kp{d:D}{xs:List D}(v:Vw S d xs)(k:Kp S S'):Vw S' d xs:=v.imp id λ⟨l,e,hx,h⟩=>⟨l,e,hx,k.1 l xs h⟩
theorem Vw.len{d:D}{xs:List D}(v:Vw S d xs):cL S [d]=some (.int xs.length):=by
 rcases v with rfl|⟨l,rfl,hx,h⟩
 .rfl
 .unfold cL;simp only[h.seq]
theorem Vw.ix{d:D}{xs:List D}(v:Vw S d xs)(hi:i<xs.length):oIx S d (.int (i:Int))=some (xs.getD i .non):=by
 have e:oIx S d (.int (i:Int))=atI xs (i:Int):=by
  rcases v with rfl|⟨l,rfl,hx,h⟩
  .rfl
  .unfold oIx;simp only[h.seq]
 rw[e,gf hi,Jx,Jc hi];rfl
theorem Vw.last{d:D}{xs:List D}(v:Vw S d xs)(hn:xs.length=n+1):oIx S d (.int (-1))=some (xs.getD n .non):=by
 have e:oIx S d (.int (-1))=atI xs (-1):=by
  rcases v with rfl|⟨l,rfl,hx,h⟩
  .rfl
  .unfold oIx;simp only[h.seq]
 have hi:n<xs.length:=by omega
 have e2:atI xs (-1)=xs[n]?:=by
  unfold atI ixN
  rw[hn,Ji (by omega),Je (by omega)]
  show xs[((-1:Int)+((n+1:Nat):Int)).toNat]?=_
  rw[show((-1:Int)+((n+1:Nat):Int)).toNat=n by omega]
 rw[e,e2,Jx,Jc hi];rfl
theorem Vw.isi{d:D}{xs:List D}(v:Vw S d xs):fm S [d,.ty "list"]=some (.bl true):=by
 rcases v with rfl|⟨l,rfl,hx,h⟩
 .simp[fm,di,tyD,dP]
 .exact Ay h
theorem Vw.walk{d:D}{xs:List D}(v:Vw S d xs)(hi:ρ[i]?=some (some d)):∃S1:Sto,aFL (ag i) ρ S=.ok xs S1/\Kp S S1:=by
 rcases v with rfl|⟨l,rfl,hx,h⟩
 .refine⟨S,?_,Kp.refl S⟩;unfold aFL;rw[ah hi];exact mE hi rfl
 .obtain⟨S1,e1,h1,h2,h3⟩:=oH hi h;refine⟨S1,?_,λn ys hn=>?_,λn i hn=>?_⟩
  .unfold aFL;rw[ah hi];exact e1
  .by_cases c:n=l
   .subst c
    have:ys=xs:=by have a:=h.seq;rw[hn.seq]at a;exact Yk a
    subst this;exact .inr h1
   .unfold lAt;rw[h2 n c];exact hn
  .by_cases c:n=l
   .subst c;have a:=h.seq;rw[lAt.seq (.inl hn)]at a;exact absurd (Yk a).symm (hx i)
   .rw[h2 n c];exact hn
theorem gu{xs:List D}(h:xs.all rise=true)(hi:i<xs.length):rise (xs.getD i .non)=true:=by rw[Jx,Jc hi];exact Qe.mp h _ (Zn hi)
theorem C3{d:D}(h:jH d):(zs d).length<=1000:=by
 cases d with
 |tup ys=>show(ys.map zI).length<=1000;rw[Jg];exact(h.2 ys rfl).2
 |_=>exact Y2 _
theorem vZ{xs:List D}(h:∀x∈xs,jH x)(hi:i<xs.length):jH (xs.getD i .non):=by rw[Jx,Jc hi];exact h _ (Zn hi)
theorem uL{d:D}(hs:jG d=true)(hn:∀xs,d≠.lst xs)(S:Sto):fm S [d,.ty "list"]=some (.bl false):=by cases d<;>first|(cases hs;done)|exact(hn _ rfl).elim|(simp[fm,di,tyD,dP])
noncomputable def ldW(b:Int)(A B:List Int)(x:Int):Bool:=A.all λa=>KS.all λq=>!inB b (a+q*x)||decide (a+q*x∈B)
noncomputable abbrev lwI:SM:=(aF (ba 7 (eOp aI (ag 5) (eOp cD (ag 6) (ag 2)))) (sIf (PD.iP (tV (eOp oLe (eB ig (aa (ag 7) aj)) (ag 3))) (tV (eOp (sh true) (ag 7) (ag 4)))) (aT (eC (.bl false))) aY))
theorem yu{p:Nat}(hp:S[p]?=some (.dic (fM B))){a x b:Int}(r0 r1:Option D):∀(K:List Int)(r6 r7:Option D),(∀q∈K,-1<=q/\q<=1)->∃a6 a7:Option D,forL (.nm 6) lwI (K.map .int) [r0,r1,some (.int x),some (.int b),some (.ref p),some (.int a),r6,r7] S=if (K.all λq=>!inB b (a+q*x)||decide (a+q*x∈B))=true then .ok (.nx [r0,r1,some (.int x),some (.int b),some (.ref p),some (.int a),a6,a7]) S else .ok (.rt (.bl false)) S
 |[],r6,r7,_=>⟨r6,r7,rfl⟩
 |q::K,r6,r7,h=>by
  have hq:=h q (.head _);obtain⟨a6,a7,e⟩:=yu hp (a:=a) (x:=x) (b:=b) r0 r1 K (some (.int q)) (some (.int (a+q*x))) λy hy=>h y (.tail _ hy);refine⟨a6,a7,?_⟩;rw[Jp,Q2];have ht:tV (eOp oLe (eB ig (aa (ag 7) aj)) (ag 3)) [r0,r1,some (.int x),some (.int b),some (.ref p),some (.int a),some (.int q),some (.int (a+q*x))] S=.ok (inB b (a+q*x)) S:=aZ (aq (bb (z:=.int (ja (a+q*x))) (af (ah rfl) rfl) rfl) (ah rfl) rfl)
  have ht2:PD.iP (tV (eOp oLe (eB ig (aa (ag 7) aj)) (ag 3))) (tV (eOp (sh true) (ag 7) (ag 4))) [r0,r1,some (.int x),some (.int b),some (.ref p),some (.int a),some (.int q),some (.int (a+q*x))] S=.ok (!(!inB b (a+q*x)||decide (a+q*x∈B))) S:=by
   cases c:inB b (a+q*x) with
   |false=>rw[c]at ht;exact sS ht
   |true=>rw[c]at ht;exact(sR ht).trans (aZ (aq (ah rfl) (ah rfl) (EY hp _)))
  have e1:ba 7 (eOp aI (ag 5) (eOp cD (ag 6) (ag 2))) [r0,r1,some (.int x),some (.int b),some (.ref p),some (.int a),some (.int q),r7] S=.ok (.nx [r0,r1,some (.int x),some (.int b),some (.ref p),some (.int a),some (.int q),some (.int (a+q*x))]) S:=aP (aq (ah rfl) (aq (ah rfl) (ah rfl) (fG (.inl (sml hq)))) rfl);cases c:(!inB b (a+q*x)||decide (a+q*x∈B)) with
  |true=>
   rw[c]at ht2;rw[W4,<- e];exact bj (r1:=[r0,r1,some (.int x),some (.int b),some (.ref p),some (.int a),some (.int q),r7]) rfl ((au e1).trans ((cp ht2).trans rfl))
  |false=>
   rw[c]at ht2;rw[Z2,Ji Jj];exact iK (r1:=[r0,r1,some (.int x),some (.int b),some (.ref p),some (.int a),some (.int q),r7]) rfl ((au e1).trans ((dE ht2).trans (aS rfl)))
theorem yw{p:Nat}(hp:S[p]?=some (.dic (fM B))){x b:Int}(r0 r1:Option D):∀(A:List Int)(r5 r6 r7:Option D),∃a5 a6 a7:Option D,forL (.nm 5) (d8 (bJ (eC (.tup (([(-1),(1)]:List Int).map .int))) bg) (.nm 6) lwI) (A.map .int) [r0,r1,some (.int x),some (.int b),some (.ref p),r5,r6,r7] S=if ldW b A B x=true then .ok (.nx [r0,r1,some (.int x),some (.int b),some (.ref p),a5,a6,a7]) S else .ok (.rt (.bl false)) S
 |[],r5,r6,r7=>⟨r5,r6,r7,rfl⟩
 |a::A,r5,r6,r7=>by
  obtain⟨b6,b7,e1⟩:=yu hp (a:=a) (x:=x) (b:=b) r0 r1 KS r6 r7 (by decide)
  obtain⟨a5,a6,a7,e⟩:=yw hp (x:=x) (b:=b) r0 r1 A (some (.int a)) b6 b7;refine⟨a5,a6,a7,?_⟩
  have el:ldW b (a::A) B x=((KS.all λq=>!inB b (a+q*x)||decide (a+q*x∈B))&&ldW b A B x):=rfl
  rw[Jp,el]
  cases c:(KS.all λq=>!inB b (a+q*x)||decide (a+q*x∈B)) with
  |true=>
   rw[c,Je rfl]at e1;rw[W4,<- e];exact bj (r1:=[r0,r1,some (.int x),some (.int b),some (.ref p),some (.int a),r6,r7]) rfl ((bY (d:=tupI KS) rfl rfl).trans e1)
  |false=>
   rw[c,Ji Jj]at e1;rw[Z2,Ji Jj];exact iK (r1:=[r0,r1,some (.int x),some (.int b),some (.ref p),some (.int a),r6,r7]) rfl ((bY (d:=tupI KS) rfl rfl).trans e1)
theorem v7(nd:B.Nodup)(hb:B.length<=1000)(S:Sto):bG [tupI A,tupI B,.int x,.int b] S=.ok (.bl (ldW b A B x)) (S++[.dic (fM B)]):=by
 have z:(1000:Nat)<=sizeLine:=by decide
 have z2:(2:Nat)<=sizeLine:=by decide
 have h1:=eK (enc:=D.int) (out:=λv:Int=>D.tup [.int v,.bl true]) (e:=bz (aa (ag 0) (aa (eC (.bl true)) aj))) (it:=bJ (ag 1) bg) (caps:=[]) (tl:=[]) (r:=[some (tupI A),some (tupI B),some (.int x),some (.int b),none,none,none,none]) (S:=S) B (mE rfl rfl) (by omega) rfl λv _=>bH (xs:=[.int v,.bl true]) (af (ah rfl) (af rfl rfl)) z2
 have h2:qq S [.lst (B.map λv=>D.tup [.int v,.bl true])]=.ok (.ref S.length) (S++[.dic (fM B)]):=by have hm:dv [] (fM B)=fM B:=yt B [] nd;unfold qq;simp only[iY,Ei,hm]
 have hp:(S++[SO.dic (fM B)])[S.length]?=some (.dic (fM B)):=by simp
 obtain⟨a5,a6,a7,e⟩:=yw hp (x:=x) (b:=b) (some (tupI A)) (some (tupI B)) A none none none;refine bN (ρ:=[some (tupI A),some (tupI B),some (.int x),some (.int b),none,none,none,none]) rfl ((au (aP ((ym (af h1 rfl)).trans h2))).trans ?_);cases c:ldW b A B x with
 |true=>
  rw[c,Je rfl]at e;exact(au ((bY (ah rfl) rfl).trans e)).trans (aS rfl)
 |false=>
  rw[c,Ji Jj]at e;exact cj ((bY (ah rfl) rfl).trans e)
noncomputable abbrev lwE:EM:=(aA bG (aa (eOp oIx (ag 2) (ag 0)) (aa (eOp oIx (ag 2) (eOp aI (ag 0) (eC (.int 1)))) (aa (ag 1) (aa (ag 3) aj)))))
noncomputable abbrev lz(xs:List D)(i:Nat):List Int:=zs (xs.getD i .non)
theorem A8{b:Int}{xs:List D}(hr:xs.all rise=true)(ho:∀x∈xs,jH x){d:D}:∀(row:List Int)(i:Nat)(S:Sto)(r0 r1:Option D),Vw S d xs->i+row.length+1=xs.length->
  ∃S':Sto,cy (.tp [.nm 0,.nm 1]) bh lwE (PD.numbered i (row.map .int)) [r0,r1,some d,some (.int b)] S=.ok ((List.range row.length).map λj=>D.bl (ldW b (lz xs (i+j)) (lz xs (i+j+1)) (row.getD j 0))) S'/\Pre S S'
 |[],i,S,r0,r1,_,_=>⟨S,rfl,Pre.refl _⟩
 |x::row,i,S,r0,r1,v,hn=>by
  rw[Jk]at hn
  obtain⟨ea,_⟩:=gq (gu hr (i:=i) (by omega))
  obtain⟨eb,ub⟩:=gq (gu hr (i:=i+1) (by omega))
  have nd:(zs (xs.getD (i+1) .non)).Nodup:=Z5.mpr (ub.imp λh=>by omega)
  have e1:=v7 (A:=zs (xs.getD i .non)) (x:=x) (b:=b) nd (C3 (vZ ho (i:=i+1) (by omega))) S
  have p1:Pre S (S++[SO.dic (fM (zs (xs.getD (i+1) .non)))]):=Pre.app _ _
  obtain⟨S',e2,p2⟩:=A8 (b:=b) hr ho row (i+1) _ (some (.int (i:Int))) (some (.int x)) (v.kp (Kp.pre p1)) (by omega)
  refine⟨S',?_,p1.trans p2⟩
  have hx1:=v.ix (i:=i) (by omega)
  have hx2:=v.ix (i:=i+1) (by omega)
  rw[ea]at hx1;rw[eb]at hx2
  have eE:lwE [some (.int (i:Int)),some (.int x),some d,some (.int b)] S=.ok (.bl (ldW b (lz xs i) (lz xs (i+1)) x)) (S++[SO.dic (fM (zs (xs.getD (i+1) .non)))]):=
   (aw (af (aq (ah rfl) (ah rfl) hx1) (af (aq (ah rfl) (aq (z:=.int ((i+1:Nat):Int)) (ah rfl) rfl rfl) hx2) (af (ah rfl) (af (ah rfl) rfl))))).trans e1
  rw[Jp,PD.numbered,cy];simp only[PD.G.put,PD.G.puts,Yn,Zm,bh,R.bind_ok,Z0,eE,e2];rw[Jk,List.range_succ_eq_map,Jp,Qu];congr 2;refine List.map_congr_left λj _=>?_;show D.bl _=D.bl _
  rw[show i+1+j=i+(j+1) by omega]
  rfl
noncomputable def PW(b:Int)(row:List Int)(xs:List D):Bool:=decide (xs.length=row.length+1)&&(xs.all rise&&(decide (lz xs row.length=[])&&((!decide (0<=b)||decide (0∈lz xs 0))&&(List.range row.length).all λi=>ldW b (lz xs i) (lz xs (i+1)) (row.getD i 0))))
theorem o7(hr:Row row)(h10:row.length<=10)(b:Int)(S:Sto):aG [tupI row,.int b] S=.ok .non S:=by
 have e1:cQ [tupI row] S=.ok .non S:=by have e:=qE (S:=S) hr.okay;rw[hr.is]at e;exact iz (ρ:=[some (tupI row)]) rfl ((cp (fL (bD (aZ ((aw (af (ah rfl) rfl)).trans e))))).trans rfl)
 have e2:cc [.int b] S=.ok .non S:=iz (ρ:=[some (.int b)]) rfl ((cp (fL (bD (b:=true) (aZ ((aw (af (ah rfl) rfl)).trans (gn (d:=.int b) (S:=S) rfl)))))).trans rfl);have e3:aU [tupI row,.int b] S=.ok .non S:=iz (ρ:=[some (tupI row),some (.int b)]) rfl ((au (bF ((aw (af (ah rfl) rfl)).trans e1))).trans (bF ((aw (af (ah rfl) rfl)).trans e2)));have hc:tV (eOp oGt (eB cL (aa (ag 0) aj)) (eC (.int (10)))) [some (tupI row)] S=.ok (decide ((10:Int)<row.length)) S:=aZ (aq (bb (af (ah rfl) rfl) fX) rfl rfl)
 rw[Yb (by omega)]at hc
 have e4:eJ [tupI row] S=.ok .non S:=iz (ρ:=[some (tupI row)]) rfl ((au (bF ((aw (af (ah rfl) rfl)).trans e1))).trans ((cp (fL hc)).trans rfl));exact iz (ρ:=[some (tupI row),some (.int b)]) rfl ((au (bF ((aw (af (ah rfl) (af (ah rfl) rfl))).trans e3))).trans (bF ((aw (af (ah rfl) rfl)).trans e4)))
theorem C4{d:D}(hr:Row row)(h10:row.length<=10)(hs:jG d=true)(hn:∀xs,d≠.lst xs)(S:Sto):aN [d,tupI row,.int b] S=.ok (.bl false) S:=
 bN (ρ:=[some d,some (tupI row),some (.int b)]) rfl ((au (bF ((aw (af (ah rfl) (af (ah rfl) rfl))).trans (o7 hr h10 b S)))).trans (cj (dz ((dE (mF (bD (b:=false) (aZ (bb (af (ah rfl) (af rfl rfl)) (uL hs hn S)))))).trans (aS rfl)))))
theorem AD(L:List Int):eh S (tupI L) (.tup [])=some (.bl (!decide (L=[]))):=by
 have:=nQ L [];unfold eh
 rw[show(D.tup []:D)=.tup (([]:List Int).map .int) from rfl,this];rfl
theorem qT{d:D}{xs:List D}(v:Vw S d xs)(c1:xs.length=row.length+1)(c2:xs.all rise=true)(hρ:ρ[0]?=some (some d)):tV (eOp eh (eOp oIx (ag 0) (eUn ef (eC (.int 1)))) (bz aj)) ρ S=.ok (!decide (lz xs row.length=[])) S:=by
 obtain⟨e,_⟩:=gq (gu c2 (i:=row.length) (by omega))
 have hx:=v.last c1;rw[e]at hx;exact aZ (aq (aq (ah hρ) rfl hx) (bH (xs:=[]) rfl (Y2 _)) (AD _))
theorem nS{d:D}{xs:List D}(v:Vw S d xs)(c1:xs.length=row.length+1)(c2:xs.all rise=true)(hρ:ρ[0]?=some (some d))(hb:ρ[2]?=some (some (.int b))):PD.iP (tV (eOp oGe (ag 2) (eC (.int 0)))) (tV (eOp (oIn true) (eC (.int 0)) (eOp oIx (ag 0) (eC (.int 0))))) ρ S=.ok (!(!decide (0<=b)||decide (0∈lz xs 0))) S:=by
 obtain⟨e,_⟩:=gq (gu c2 (i:=0) (by omega))
 have hx:=v.ix (i:=0) (by omega)
 rw[e]at hx;have hg:tV (eOp oGe (ag 2) (eC (.int 0))) ρ S=.ok (decide ((0:Int)<=b)) S:=aZ (aq (ah hb) rfl rfl);cases c:decide ((0:Int)<=b) with
 |false=>rw[c]at hg;exact sS hg
 |true=>rw[c]at hg;exact(sR hg).trans (aZ (aq rfl (aq (ah hρ) rfl hx) yr))
theorem C5(hr:Row row)(h10:row.length<=10){d:D}{xs:List D}(v:Vw S d xs)(ho:∀x∈xs,jH x)(hl:xs.length<=1000):∃S':Sto,aN [d,tupI row,.int b] S=.ok (.bl (PW b row xs)) S'/\Kp S S':=by
 have z:(1000:Nat)<=sizeLine:=by decide
 have e0:=o7 hr h10 b S;have hi:PD.cS (tV (eB fm (aa (ag 0) (aa (eC (.ty "list")) aj)))) [some d,some (tupI row),some (.int b)] S=.ok false S:=bD (b:=true) (aZ (bb (af (ah rfl) (af rfl rfl)) v.isi))
 have hlen:tV (eOp eh (eB cL (aa (ag 0) aj)) (eOp aI (eB cL (aa (ag 1) aj)) (eC (.int 1)))) [some d,some (tupI row),some (.int b)] S=.ok (!decide (xs.length=row.length+1)) S:=by refine aZ (aq (bb (af (ah rfl) rfl) v.len) (aq (bb (af (ah rfl) rfl) fX) rfl rfl) ?_);rw[yb];congr 3;rw[V2];omega
 have go:∀{q:SM}{f:PD.F}{S':Sto},q [some d,some (tupI row),some (.int b)] S=.ok f S'->aF (dg (aA aG (aa (ag 1) (aa (ag 2) aj)))) q [some d,some (tupI row),some (.int b)] S=.ok f S':=λh=>(au (bF ((aw (af (ah rfl) (af (ah rfl) rfl))).trans e0))).trans h;by_cases c1:¬xs.length=row.length+1
 .rw[Yb c1]at hlen
  have e:PW b row xs=false:=by unfold PW;rw[Yb c1];rfl
  rw[e];exact⟨S,bN (ρ:=[some d,some (tupI row),some (.int b)]) rfl (go (cj (dz ((dE ((ez hi).trans hlen)).trans (aS rfl))))),Kp.refl S⟩
 have c1:=Decidable.not_not.mp c1;rw[Yc c1]at hlen;obtain⟨S1,e1,k1⟩:=v.walk (i:=0) (ρ:=[some d,some (tupI row),some (.int b)]) rfl;have v1:=v.kp k1
 have hc:=vW (enc:=λx=>x) (out:=λx=>D.bl (rise x)) (e:=aA cP (aa (ag 0) aj)) (caps:=[]) (tl:=[]) xs (by rw[List.map_id'];exact e1) (by omega) rfl λx hx=>(aw (af (ah rfl) rfl)).trans (vY (ho x hx) S1)
 have ha:PD.cS (tV (eB gC (aa (bf (aFL (ag 0)) 1 [] (.nm 0) bh (aA cP (aa (ag 0) aj))) aj))) [some d,some (tupI row),some (.int b)] S=.ok (!xs.all rise) S1:=bD (aZ (bb (af hc rfl) iC));cases c2:xs.all rise with
 |false=>
  rw[c2]at ha
  have e:PW b row xs=false:=by unfold PW;rw[c2,Z2,Zi]
  rw[e];exact⟨S1,bN (ρ:=[some d,some (tupI row),some (.int b)]) rfl (go ((au (dz ((cp ((ez hi).trans hlen)).trans rfl))).trans (cj (dz ((dE (mF ha)).trans (aS rfl)))))),k1⟩
 |true=>
  rw[c2]at ha;have hE:=qT v1 c1 c2 (ρ:=[some d,some (tupI row),some (.int b)]) rfl;have hZ:=nS (b:=b) v1 c1 c2 (ρ:=[some d,some (tupI row),some (.int b)]) rfl rfl;cases c3:decide (lz xs row.length=[]) with
  |false=>
   rw[c3]at hE
   have e:PW b row xs=false:=by unfold PW;rw[c3,Z2,Zi,Zi]
   rw[e];exact⟨S1,bN (ρ:=[some d,some (tupI row),some (.int b)]) rfl (go ((au (dz ((cp ((ez hi).trans hlen)).trans rfl))).trans (cj (dz ((dE ((ez ha).trans hE)).trans (aS rfl)))))),k1⟩
  |true=>
   rw[c3]at hE;cases c4:(!decide (0<=b)||decide (0∈lz xs 0)) with
   |false=>
    rw[c4]at hZ
    have e:PW b row xs=false:=by unfold PW;rw[c4,Z2,Zi,Zi,Zi]
    rw[e];exact⟨S1,bN (ρ:=[some d,some (tupI row),some (.int b)]) rfl (go ((au (dz ((cp ((ez hi).trans hlen)).trans rfl))).trans ((au (dz ((cp ((ez ha).trans hE)).trans rfl))).trans (cj (dz ((dE hZ).trans (aS rfl))))))),k1⟩
   |true=>
    rw[c4]at hZ
    obtain⟨S2,e2,p2⟩:=A8 (b:=b) c2 ho row 0 S1 none none v1 (by omega)
    have e:PW b row xs=(List.range row.length).all λi=>ldW b (lz xs i) (lz xs (i+1)) (row.getD i 0):=by unfold PW;rw[Yc c1,c2,c3,c4];rfl
    refine⟨S2,?_,k1.trans (Kp.pre p2)⟩;rw[e];have hen:tY (aa (ag 1) aj) [some d,some (tupI row),some (.int b)] S1=.ok (PD.numbered 0 (row.map .int)) S1:=rfl
    have hcomp:bf (tY (aa (ag 1) aj)) 2 [0,2] (.tp [(.nm 0),(.nm 1)]) bh lwE [some d,some (tupI row),some (.int b)] S1=.ok (.lst ((List.range row.length).map λj=>D.bl (ldW b (lz xs (0+j)) (lz xs (0+j+1)) (row.getD j 0)))) S2:=by
     unfold bf
     rw[hen,R.bind_ok,Je (by rw[jL,Jg];omega)]
     have hcap:fF 2 [0,2] [some d,some (tupI row),some (.int b)]=[none,none,some d,some (.int b)]:=rfl;rw[hcap,e2,R.bind_ok]
    have hall:gC S2 [.lst ((List.range row.length).map λj=>D.bl (ldW b (lz xs (0+j)) (lz xs (0+j+1)) (row.getD j 0)))]=some (.bl ((List.range row.length).all λi=>ldW b (lz xs i) (lz xs (i+1)) (row.getD i 0))):=by rw[iC];congr 3;funext i;rw[Nat.zero_add]
    exact bN (ρ:=[some d,some (tupI row),some (.int b)]) rfl (go ((au (dz ((cp ((ez hi).trans hlen)).trans rfl))).trans ((au (dz ((cp ((ez ha).trans hE)).trans rfl))).trans ((au (dz ((cp hZ).trans rfl))).trans (dz (aS (bb (af hcomp rfl) hall)))))))
noncomputable abbrev lpB:SM:=(sIf (PD.tOr (PD.cS (tV (eB di (aa (ag 3) (aa (eC (.ty "tuple")) aj))))) (PD.tOr (PD.cS (tV (eB gC (aa (bf (bJ (ag 3) bg) 1 [] (.nm 0) bh (aA bX (aa (ag 0) aj))) aj)))) (tV (eOp eh (eB lH (aa (ag 3) aj)) (eB gY (aa (ag 3) aj)))))) (aT (eC (.bl false))) aY)
theorem C6{x:D}(h:jH x)(hx:ρ[3]?=some (some x)):PD.tOr (PD.cS (tV (eB di (aa (ag 3) (aa (eC (.ty "tuple")) aj))))) (PD.tOr (PD.cS (tV (eB gC (aa (bf (bJ (ag 3) bg) 1 [] (.nm 0) bh (aA bX (aa (ag 0) aj))) aj)))) (tV (eOp eh (eB lH (aa (ag 3) aj)) (eB gY (aa (ag 3) aj))))) ρ S=.ok (!rise x) S:=by
 have hi:tV (eB di (aa (ag 3) (aa (eC (.ty "tuple")) aj))) ρ S=.ok (isT x) S:=aZ (bb (af (ah hx) (af rfl rfl)) (uJ h.1))
 by_cases ht:∃ys,x=.tup ys
 .obtain⟨ys,rfl⟩:=ht;obtain⟨hs,hl⟩:=h.2 ys rfl
  have hc:bf (bJ (ag 3) bg) 1 [] (.nm 0) bh (aA bX (aa (ag 0) aj)) ρ S=.ok (.lst (ys.map λx=>D.bl (isI x))) S:=
   eK (enc:=λx=>x) ys (by rw[List.map_id'];exact mE hx rfl) (Ys hl (by decide)) rfl λx hx=>(aw (af (ah rfl) rfl)).trans (gn (hs x hx))
  have ha:tV (eB gC (aa (bf (bJ (ag 3) bg) 1 [] (.nm 0) bh (aA bX (aa (ag 0) aj))) aj)) ρ S=.ok (ys.all isI) S:=aZ (bb (af hc rfl) iC);refine(ez (bD hi)).trans ?_;cases hb:ys.all isI with
  |false=>
   rw[hb]at ha
   have er:rise (.tup ys)=false:=by show(ys.all isI&&_)=false;rw[hb];rfl
   rw[er];exact mF (bD ha)
  |true=>
   rw[hb]at ha
   have er:rise (.tup ys)=decide ((ys.map zI).Pairwise (· < ·)):=by show(ys.all isI&&_)=_;rw[hb];rfl
   rw[er];refine(ez (bD ha)).trans ?_
   have eT:D.tup ys=tupI (ys.map zI):=by show _=D.tup _;rw[jN hb]
   have hl':(ys.map zI).length<=1000:=by rw[Jg];exact hl
   rw[eT]at hx;generalize ys.map zI=ns at *
   have e1:gY S [tupI ns]=some (.lst ((bV (ST.uniqZ ns)).map .int)):=by
    show(match intsOf (ns.map D.int) with|some ns=>if ns.length+1<4096 then some (D.lst ((bV (ST.uniqZ ns)).map .int)) else none|none=>none)=_
    rw[jM]
    exact Je (by omega)
   refine aZ (aq (bb (z:=.lst (ns.map .int)) (af (ah hx) rfl) rfl) (bb (af (ah hx) rfl) e1) ?_);unfold eh;rw[yq,AA];rfl
 .have er:rise x=false/\isT x=false:=by cases x<;>first|exact⟨rfl,rfl⟩|exact(ht ⟨_,rfl⟩).elim
  rw[er.2]at hi;rw[er.1];exact mF (bD hi)
theorem uM{S:Sto}(r0 r1 r2 r4 r5 r6:Option D):∀(xs:List D)(r3:Option D),(∀x∈xs,jH x)->∃a3:Option D,forL (.nm 3) lpB xs [r0,r1,r2,r3,r4,r5,r6] S=if xs.all rise=true then .ok (.nx [r0,r1,r2,a3,r4,r5,r6]) S else .ok (.rt (.bl false)) S
 |[],r3,_=>⟨r3,rfl⟩
 |x::xs,r3,h=>by
  obtain⟨a3,e⟩:=uM (S:=S) r0 r1 r2 r4 r5 r6 xs (some x) λy hy=>h y (.tail _ hy);refine⟨a3,?_⟩;have ht:=C6 (h x (.head _)) (S:=S) (ρ:=[r0,r1,r2,some x,r4,r5,r6]) rfl;rw[Q2];cases c:rise x with
  |true=>
   rw[c]at ht;rw[W4,<- e];exact bj (r1:=[r0,r1,r2,some x,r4,r5,r6]) rfl ((cp ht).trans rfl)
  |false=>
   rw[c]at ht;rw[Z2,Ji Jj];exact iK (r1:=[r0,r1,r2,some x,r4,r5,r6]) rfl ((dE ht).trans (aS rfl))
noncomputable abbrev laT:SM:=(sIf (PD.iP (tV (eOp oLe (eB ig (aa (ag 6) aj)) (ag 2))) (tV (eOp (oIn true) (ag 6) (eOp oIx (ag 0) (eOp aI (ag 4) (eC (.int 1))))))) (aT (eC (.bl false))) aY)
theorem la6{d:D}{b:Int}(hB:oIx S d (.int ((i+1:Nat):Int))=some (tupI B))(r1 r3 r5:Option D):∀(ts:List Int)(r6:Option D),∃a6:Option D,forL (.nm 6) laT (ts.map .int) [some d,r1,some (.int b),r3,some (.int (i:Int)),r5,r6] S=if (ts.all λt=>!inB b t||decide (t∈B))=true then .ok (.nx [some d,r1,some (.int b),r3,some (.int (i:Int)),r5,a6]) S else .ok (.rt (.bl false)) S
 |[],r6=>⟨r6,rfl⟩
 |t::ts,r6=>by
  obtain⟨a6,e⟩:=la6 (b:=b) hB r1 r3 r5 ts (some (.int t));refine⟨a6,?_⟩;rw[Jp,Q2];have ht:tV (eOp oLe (eB ig (aa (ag 6) aj)) (ag 2)) [some d,r1,some (.int b),r3,some (.int (i:Int)),r5,some (.int t)] S=.ok (inB b t) S:=aZ (aq (bb (z:=.int (ja t)) (af (ah rfl) rfl) rfl) (ah rfl) rfl)
  have ht2:PD.iP (tV (eOp oLe (eB ig (aa (ag 6) aj)) (ag 2))) (tV (eOp (oIn true) (ag 6) (eOp oIx (ag 0) (eOp aI (ag 4) (eC (.int 1)))))) [some d,r1,some (.int b),r3,some (.int (i:Int)),r5,some (.int t)] S=.ok (!(!inB b t||decide (t∈B))) S:=by
   cases c:inB b t with
   |false=>rw[c]at ht;exact sS ht
   |true=>rw[c]at ht;exact(sR ht).trans (aZ (aq (ah rfl) (aq (ah rfl) (aq (z:=.int ((i+1:Nat):Int)) (ah rfl) rfl rfl) hB) yr))
  cases c:(!inB b t||decide (t∈B)) with
  |true=>
   rw[c]at ht2;rw[W4,<- e];exact bj (r1:=[some d,r1,some (.int b),r3,some (.int (i:Int)),r5,some (.int t)]) rfl ((cp ht2).trans rfl)
  |false=>
   rw[c]at ht2;rw[Z2,Ji Jj];exact iK (r1:=[some d,r1,some (.int b),r3,some (.int (i:Int)),r5,some (.int t)]) rfl ((dE ht2).trans (aS rfl))
theorem v8(b:Int)(B:List Int)(a x:Int):([a+x,a-x].all λt=>!inB b t||decide (t∈B))=KS.all λq=>!inB b (a+q*x)||decide (a+q*x∈B):=by
 show((!inB b (a+x)||decide (a+x∈B))&&((!inB b (a-x)||decide (a-x∈B))&&true))=((!inB b (a + -1*x)||decide (a + -1*x∈B))&&((!inB b (a+1*x)||decide (a+1*x∈B))&&true))
 rw[show a + -1*x=a-x by omega,show a+1*x=a+x by omega,Bool.and_true,Bool.and_true,Bool.and_comm]
noncomputable abbrev Ej:SM:=(d8 (bJ (bz (aa (eOp aI (ag 5) (eOp oIx (ag 1) (ag 4))) (aa (eOp hU (ag 5) (eOp oIx (ag 1) (ag 4))) aj))) bg) (.nm 6) laT)
theorem la5{d:D}{b:Int}(hB:oIx S d (.int ((i+1:Nat):Int))=some (tupI B))(hi:i<row.length)(r3:Option D):∀(A:List Int)(r5 r6:Option D),∃a5 a6:Option D,forL (.nm 5) Ej (A.map .int) [some d,some (tupI row),some (.int b),r3,some (.int (i:Int)),r5,r6] S=if ldW b A B (row.getD i 0)=true then .ok (.nx [some d,some (tupI row),some (.int b),r3,some (.int (i:Int)),a5,a6]) S else .ok (.rt (.bl false)) S
 |[],r5,r6=>⟨r5,r6,rfl⟩
 |a::A,r5,r6=>by
  have z2:(2:Nat)<=sizeLine:=by decide
  obtain⟨b6,e1⟩:=la6 (b:=b) hB (some (tupI row)) r3 (some (.int a)) [a+row.getD i 0,a-row.getD i 0] r6;rw[v8]at e1;obtain⟨a5,a6,e⟩:=la5 (b:=b) hB hi r3 A (some (.int a)) b6;refine⟨a5,a6,?_⟩
  have hrow:oIx S (tupI row) (.int (i:Int))=some (.int (row.getD i 0)):=by rw[kZ hi,Jx,Jc hi];rfl
  have hit:bz (aa (eOp aI (ag 5) (eOp oIx (ag 1) (ag 4))) (aa (eOp hU (ag 5) (eOp oIx (ag 1) (ag 4))) aj)) [some d,some (tupI row),some (.int b),r3,some (.int (i:Int)),some (.int a),r6] S=.ok (tupI [a+row.getD i 0,a-row.getD i 0]) S:=bH (xs:=[.int (a+row.getD i 0),.int (a-row.getD i 0)]) (af (aq (ah rfl) (aq (ah rfl) (ah rfl) hrow) rfl) (af (aq (ah rfl) (aq (ah rfl) (ah rfl) hrow) rfl) rfl)) z2
  have el:ldW b (a::A) B (row.getD i 0)=((KS.all λq=>!inB b (a+q*row.getD i 0)||decide (a+q*row.getD i 0∈B))&&ldW b A B (row.getD i 0)):=rfl
  rw[Jp,el]
  cases c:(KS.all λq=>!inB b (a+q*row.getD i 0)||decide (a+q*row.getD i 0∈B)) with
  |true=>
   rw[c,Je rfl]at e1;rw[W4,<- e];exact bj (r1:=[some d,some (tupI row),some (.int b),r3,some (.int (i:Int)),some (.int a),r6]) rfl ((bY hit rfl).trans e1)
  |false=>
   rw[c,Ji Jj]at e1;rw[Z2,Ji Jj];exact iK (r1:=[some d,some (tupI row),some (.int b),r3,some (.int (i:Int)),some (.int a),r6]) rfl ((bY hit rfl).trans e1)
theorem la4{d:D}{xs:List D}{b:Int}(v:Vw S d xs)(hr:xs.all rise=true)(hn:xs.length=row.length+1)(r3:Option D):∀(is:List Nat)(r4 r5 r6:Option D),(∀i∈is,i<row.length)->∃a4 a5 a6:Option D,forL (.nm 4) (d8 (bJ (eOp oIx (ag 0) (ag 4)) bg) (.nm 5) Ej) (is.map λ(i:Nat)=>D.int i) [some d,some (tupI row),some (.int b),r3,r4,r5,r6] S=if (is.all λi=>ldW b (lz xs i) (lz xs (i+1)) (row.getD i 0))=true then .ok (.nx [some d,some (tupI row),some (.int b),r3,a4,a5,a6]) S else .ok (.rt (.bl false)) S
 |[],r4,r5,r6,_=>⟨r4,r5,r6,rfl⟩
 |i::is,r4,r5,r6,h=>by
  have hi:=h i (.head _)
  obtain⟨ea,_⟩:=gq (gu hr (i:=i) (by omega))
  obtain⟨eb,_⟩:=gq (gu hr (i:=i+1) (by omega))
  have hx1:=v.ix (i:=i) (by omega)
  have hx2:=v.ix (i:=i+1) (by omega)
  rw[ea]at hx1;rw[eb]at hx2;obtain⟨b5,b6,e1⟩:=la5 (b:=b) hx2 hi r3 (lz xs i) r5 r6;obtain⟨a4,a5,a6,e⟩:=la4 (b:=b) v hr hn r3 is (some (.int (i:Int))) b5 b6 λj hj=>h j (.tail _ hj);refine⟨a4,a5,a6,?_⟩;have hit:eOp oIx (ag 0) (ag 4) [some d,some (tupI row),some (.int b),r3,some (.int (i:Int)),r5,r6] S=.ok (tupI (lz xs i)) S:=aq (ah rfl) (ah rfl) hx1;rw[Jp,Q2];cases c:ldW b (lz xs i) (lz xs (i+1)) (row.getD i 0) with
  |true=>
   rw[c,Je rfl]at e1;rw[W4,<- e];exact bj (r1:=[some d,some (tupI row),some (.int b),r3,some (.int (i:Int)),r5,r6]) rfl ((bY hit rfl).trans e1)
  |false=>
   rw[c,Ji Jj]at e1;rw[Z2,Ji Jj];exact iK (r1:=[some d,some (tupI row),some (.int b),r3,some (.int (i:Int)),r5,r6]) rfl ((bY hit rfl).trans e1)
theorem C7{d:D}(hs:jG d=true)(hn:∀xs,d≠.lst xs)(S:Sto):br [d,tupI row,.int b] S=.ok (.bl false) S:=
 bN (ρ:=[some d,some (tupI row),some (.int b),none,none,none,none]) rfl (cj ((dE (mF (bD (b:=false) (aZ (bb (af (ah rfl) (af rfl rfl)) (uL hs hn S)))))).trans (aS rfl)))
theorem C8(h10:row.length<=10){d:D}{xs:List D}(v:Vw S d xs)(ho:∀x∈xs,jH x):∃S':Sto,br [d,tupI row,.int b] S=.ok (.bl (PW b row xs)) S'/\Kp S S':=by
 have hi:PD.cS (tV (eB fm (aa (ag 0) (aa (eC (.ty "list")) aj)))) [some d,some (tupI row),some (.int b),none,none,none,none] S=.ok false S:=bD (b:=true) (aZ (bb (af (ah rfl) (af rfl rfl)) v.isi))
 have hlen:tV (eOp eh (eB cL (aa (ag 0) aj)) (eOp aI (eB cL (aa (ag 1) aj)) (eC (.int 1)))) [some d,some (tupI row),some (.int b),none,none,none,none] S=.ok (!decide (xs.length=row.length+1)) S:=by refine aZ (aq (bb (af (ah rfl) rfl) v.len) (aq (bb (af (ah rfl) rfl) fX) rfl rfl) ?_);rw[yb];congr 3;rw[V2];omega
 by_cases c1:¬xs.length=row.length+1
 .rw[Yb c1]at hlen
  have e:PW b row xs=false:=by unfold PW;rw[Yb c1];rfl
  rw[e];exact⟨S,bN (ρ:=[some d,some (tupI row),some (.int b),none,none,none,none]) rfl (cj ((dE ((ez hi).trans hlen)).trans (aS rfl))),Kp.refl S⟩
 have c1:=Decidable.not_not.mp c1;rw[Yc c1]at hlen;obtain⟨S1,e1,k1⟩:=v.walk (i:=0) (ρ:=[some d,some (tupI row),some (.int b),none,none,none,none]) rfl;have v1:=v.kp k1;obtain⟨a3,e2⟩:=uM (S:=S1) (some d) (some (tupI row)) (some (.int b)) none none none xs none ho;refine⟨S1,bN (ρ:=[some d,some (tupI row),some (.int b),none,none,none,none]) rfl ((au ((cp ((ez hi).trans hlen)).trans rfl)).trans ?_),k1⟩;cases c2:xs.all rise with
 |false=>
  rw[c2,Ji Jj]at e2
  have e:PW b row xs=false:=by unfold PW;rw[c2,Z2,Zi]
  rw[e];exact cj ((fD e1).trans e2)
 |true=>
  rw[c2,Je rfl]at e2;refine(au ((fD e1).trans e2)).trans ?_;have hE:=qT v1 c1 c2 (ρ:=[some d,some (tupI row),some (.int b),a3,none,none,none]) rfl;have hZ:=nS (b:=b) v1 c1 c2 (ρ:=[some d,some (tupI row),some (.int b),a3,none,none,none]) rfl rfl;cases c4:(!decide (0<=b)||decide (0∈lz xs 0)) with
  |false=>
   rw[c4]at hZ
   have e:PW b row xs=false:=by unfold PW;rw[c4,Z2,Zi,Zi,Zi]
   rw[e];exact cj ((dE (mF hZ)).trans (aS rfl))
  |true=>
   rw[c4]at hZ;cases c3:decide (lz xs row.length=[]) with
   |false=>
    rw[c3]at hE
    have e:PW b row xs=false:=by unfold PW;rw[c3,Z2,Zi,Zi]
    rw[e];exact cj ((dE ((ez hZ).trans hE)).trans (aS rfl))
   |true=>
    rw[c3]at hE
    have e:PW b row xs=(List.range row.length).all λi=>ldW b (lz xs i) (lz xs (i+1)) (row.getD i 0):=by unfold PW;rw[Yc c1,c2,c3,c4];rfl
    obtain⟨a4,a5,a6,e3⟩:=la4 (b:=b) v1 c2 c1 a3 (List.range row.length) none none none λi hi=>Qo.mp hi
    have hrg:bC (aa (eB cL (aa (ag 1) aj)) aj) [some d,some (tupI row),some (.int b),a3,none,none,none] S1=.ok ((List.range row.length).map λ(i:Nat)=>D.int i) S1:=fK (af (bb (af (ah rfl) rfl) fX) rfl) (by omega)
    refine(au ((cp ((ez hZ).trans hE)).trans rfl)).trans ?_;rw[e];cases c5:((List.range row.length).all λi=>ldW b (lz xs i) (lz xs (i+1)) (row.getD i 0)) with
    |true=>
     rw[c5,Je rfl]at e3;exact(au ((fD hrg).trans e3)).trans (aS rfl)
    |false=>
     rw[c5,Ji Jj]at e3;exact cj ((fD hrg).trans e3)
theorem uN:∀{xs:List Int},(∀x∈xs,x<=c)->xs.sum<=xs.length*c
 |[],_=>by simp
 |x::xs,h=>by have h1:=h x (.head _);have h2:=uN (xs:=xs) λy hy=>h y (.tail _ hy);rw[Qd,Jk,Int.natCast_add,Int.add_mul];omega
def Sw(nl:Bool)(k b:Nat)(d:D):Prop:=∃p,toPy d=some p/\p.showable=true/\p.depth<=k/\p.shown.length<=b/\(if nl=true then noL d=true else p.hasDict=false)
theorem yx{i:Int}(h:i.natAbs<10^30):Sw nl 3 64 (.int i):=Cc h
theorem sws{k b:Nat}:∀{xs:List D},(∀x∈xs,Sw nl k b x)->∃ps,cE xs=some ps/\PyData.showableAll ps=true/\PyData.depthAll ps<=k/\((PyData.shownAll ps).map (·.length)).sum<=b*xs.length/\(PyData.shownAll ps).length=xs.length/\(if nl=true then vq xs=true else PyData.hasDictAll ps=false)
 |[],_=>⟨[],rfl,rfl,by show 0<=k;omega,by show 0<=_;omega,rfl,by cases nl<;>rfl⟩
 |x::xs,h=>by
  obtain⟨p,h1,h2,h3,h4,h5⟩:=h x Y6;obtain⟨ps,k1,k2,k3,k4,k5,k6⟩:=sws λy hy=>h y (Y4 _ hy)
  refine⟨p::ps,by unfold cE;rw[h1,k1],by unfold PyData.showableAll;rw[h2,k2];rfl,by unfold PyData.depthAll;omega,?_,?_,?_⟩
  .unfold PyData.shownAll;rw[Jp,Qd,Jk,Nat.mul_add];omega
  .unfold PyData.shownAll;rw[Jk,Jk,k5]
  .cases nl with
   |true=>
    simp only[Z0]at h5 k6 ⊢;unfold vq;rw[h5,k6];rfl
   |false=>
    simp only[Jy,Yp]at h5 k6 ⊢;unfold PyData.hasDictAll;rw[h5,k6];rfl
theorem C9{k b:Nat}{xs:List D}(hl:xs.length<=n)(h:∀x∈xs,Sw nl k b x):Sw nl (k+1) (b*n+2*n+3) (.tup xs):=by
 obtain⟨ps,k1,k2,k3,k4,k5,k6⟩:=sws h
 refine⟨.tuple ps,by unfold toPy;rw[k1];rfl,by unfold PyData.showable;exact k2,by unfold PyData.depth;omega,?_,?_⟩
 .unfold PyData.shown;have:=tupleText_len_le (PyData.shownAll ps);have hm:b*xs.length<=b*n:=Nat.mul_le_mul_left _ hl;omega
 .cases nl with
  |true=>simp only[Z0]at k6 ⊢;unfold noL;exact k6
  |false=>simp only[Jy,Yp]at k6 ⊢;unfold PyData.hasDict;exact k6
def Sz(d:D):Prop:=∃p,toPy d=some p/\p.showable=true/\p.depth<=5/\p.shown.length<=70000
def El(d:D):Prop:=jH d/\Sz d/\∀v∈zs d,v.natAbs<10^30
theorem uP{k b:Nat}{d:D}(h:Sw nl k b d)(hk:k<=5)(hb:b<=70000):Sz d:=by
 obtain⟨p,h1,h2,h3,h4,_⟩:=h
 exact⟨p,h1,h2,by omega,by omega⟩
theorem szs:∀{xs:List D},(∀x∈xs,Sz x)->∃ps,cE xs=some ps/\PyData.showableAll ps=true/\PyData.depthAll ps<=5/\((PyData.shownAll ps).map (·.length)).sum<=70000*xs.length/\(PyData.shownAll ps).length=xs.length
 |[],_=>⟨[],rfl,rfl,by show 0<=5;omega,by show 0<=_;omega,rfl⟩
 |x::xs,h=>by
  obtain⟨p,h1,h2,h3,h4⟩:=h x Y6;obtain⟨ps,k1,k2,k3,k4,k5⟩:=szs λy hy=>h y (Y4 _ hy)
  refine⟨p::ps,by unfold cE;rw[h1,k1],by unfold PyData.showableAll;rw[h2,k2];rfl,by unfold PyData.depthAll;omega,?_,?_⟩
  .unfold PyData.shownAll;rw[Jp,Qd,Jk];omega
  .unfold PyData.shownAll;rw[Jk,Jk,k5]
theorem yy{xs:List D}(hl:xs.length<=20)(h:∀x∈xs,Sz x):∃t,∀(S:Sto)(d:D),Vw S d xs->dw S [d]=some (.str t):=by
 obtain⟨ps,k1,k2,k3,k4,k5⟩:=szs h
 have z:(2000000:Nat)<=sizeLine:=by decide
 refine⟨(PyData.list ps).shown,λS d v=>?_⟩
 have e:jA S d=some (.list ps):=by
  rcases v with rfl|⟨l,rfl,_,v⟩
  .show toPy (.lst xs)=_;unfold toPy;rw[k1];rfl
  .rcases v with v|v<;>(unfold jA;simp only[v,k1,Option.map_some])
 show(match jA S d with|some p=>if jB p then some (D.str p.shown) else none|none=>none)=_
 rw[e]
 refine Je ⟨by unfold PyData.showable;exact k2,by unfold PyData.depth;omega,?_⟩
 unfold PyData.shown;have:=listText_len_le (PyData.shownAll ps);omega
theorem Dc{xs:List D}(hl:xs.length<=20)(h:∀x∈xs,Sz x):∃p,toPy (.tup xs)=some p/\jB p:=by
 obtain⟨ps,k1,k2,k3,k4,k5⟩:=szs h
 have z:(2000000:Nat)<=sizeLine:=by decide
 refine⟨.tuple ps,by unfold toPy;rw[k1];rfl,by unfold PyData.showable;exact k2,by unfold PyData.depth;omega,?_⟩
 unfold PyData.shown;have:=tupleText_len_le (PyData.shownAll ps);omega
theorem Ek{d:D}(h:Sz d):∃p,toPy d=some p/\jB p:=by
 obtain⟨p,h1,h2,h3,h4⟩:=h
 have z:(2000000:Nat)<=sizeLine:=by decide
 exact⟨p,h1,h2,by omega,by omega⟩
def Tg(S:Sto)(d:D):Prop:=(∃xs,Vw S d xs/\xs.length<=20/\∀x∈xs,El x)\/(jG d=true/\(∀xs,d≠.lst xs)/\∃p,toPy d=some p/\jB p)
theorem Tg.kp{d:D}(t:Tg S d)(k:Kp S S'):Tg S' d:=t.imp (λ⟨xs,v,r⟩=>⟨xs,v.kp k,r⟩) id
theorem yz{d:D}{p:PyData}(hs:jG d=true)(h1:toPy d=some p)(h2:jB p)(S:Sto):dw S [d]=some (.str p.shown):=by
 have e:jA S d=some p:=by cases d<;>first|(cases hs;done)|exact h1
 show(match jA S d with|some p=>if jB p then some (D.str p.shown) else none|none=>none)=_
 rw[e];exact Je h2
theorem Dd:∃t,∀S:Sto,dw S [.non]=some (.str t):=⟨_,λS=>yz rfl rfl J6 S⟩
theorem ne_self{t:Str}:eh S (.str t) (.str t)=some (.bl false):=by simp[eh,eqP,eqS]
theorem gN{f:Sto->D->Option Int->Option Int->Option D}{lo hi:OM}{x z:D}{l u:Option Int}(h1:a r S=.ok x S1)(h2:lo r S1=.ok l S2)(h3:hi r S2=.ok u S3)(h4:f S3 x l u=some z):eSl f a lo hi r S=.ok z S3:=by unfold eSl;rw[h1,R.bind_ok,h2,R.bind_ok,h3,R.bind_ok,h4];rfl
theorem AE{xs:List D}(h:a r S=.ok (.tup xs) S1):xP a (eUn ef (eC (.int 1))) r S=.ok (.tup xs.reverse) S1:=by unfold xP;rw[h,R.bind_ok];rfl
noncomputable def Sc:D->Prop
 |.int i=>i.natAbs<10^18
 |.bl _=>True
 |.non=>True
 |_=>False
theorem yA{d:D}(h:Sc d):Sw false 3 64 d:=by
 match d,h with
 |.int i,h=>exact yx (Qt (show i.natAbs<10^18 from h) (by decide))
 |.bl true,_=>exact⟨_,rfl,by decide +kernel,by decide +kernel,by decide +kernel,by decide +kernel⟩
 |.bl false,_=>exact⟨_,rfl,by decide +kernel,by decide +kernel,by decide +kernel,by decide +kernel⟩
 |.non,_=>exact⟨_,rfl,by decide +kernel,by decide +kernel,by decide +kernel,by decide +kernel⟩
theorem uQ{d:D}(h:Sc d):jG d=true:=by cases d<;>first|rfl|exact h.elim
theorem De{d:D}(h:Sc d):∀xs,d≠.tup xs:=λxs e=>by rw[e]at h;exact h
theorem Em{d:D}(h:Sc d):(zI d).natAbs<10^30:=by
 cases d with
 |int i=>exact Qt (show i.natAbs<10^18 from h) (by decide)
 |_=>exact Nat.pow_pos (n:=30) (by decide:0<10)
theorem Df{k b:Nat}{xs:List D}(hl:xs.length<=n)(h:∀x∈xs,Sw false k b x):Sw false (k+1) (b*n+2*n+3) (.lst xs):=by
 obtain⟨ps,k1,k2,k3,k4,k5,k6⟩:=sws h
 refine⟨.list ps,by unfold toPy;rw[k1];rfl,by unfold PyData.showable;exact k2,by unfold PyData.depth;omega,?_,?_⟩
 .unfold PyData.shown;have:=listText_len_le (PyData.shownAll ps);have hm:b*xs.length<=b*n:=Nat.mul_le_mul_left _ hl;omega
 .simp only[Jy,Yp]at k6 ⊢;unfold PyData.hasDict;exact k6
theorem nU{d:D}(h:Sc d):El d:=⟨⟨uQ h,λxs e=>absurd e (De h xs)⟩,uP (yA h) (by decide) (by decide),λv hv=>by
 cases d with
 |tup xs=>exact h.elim
 |_=>cases hv⟩
theorem dC{xs:List D}(hl:xs.length<=900)(h:∀x∈xs,Sc x):El (.tup xs):=⟨⟨rfl,λys e=>by
 cases e
 exact⟨λx hx=>uQ (h x hx),by omega⟩⟩,uP (C9 (n:=900) hl λx hx=>yA (h x hx)) (by decide) (by decide),λv hv=>by
 obtain⟨x,hx,rfl⟩:=Y7.mp (show v∈xs.map zI from hv)
 exact Em (h x hx)⟩
theorem sX{xs:List D}(hl:xs.length<=900)(h:∀x∈xs,Sc x):El (.lst xs):=⟨⟨rfl,λys e=>by cases e⟩,uP (Df (n:=900) hl λx hx=>yA (h x hx)) (by decide) (by decide),λv hv=>by cases hv⟩
theorem En{d:D}(h:El d)(hn:∀xs,d≠.lst xs):Tg S d:=.inr ⟨h.1.1,hn,Ek h.2.1⟩
theorem jc{xs:List D}(hl:xs.length<=20)(h:∀x∈xs,El x):Tg S (.lst xs):=.inl ⟨xs,.inl rfl,hl,h⟩
theorem len_sub:∀{A B:List Int},A.Nodup->(∀a∈A,a∈B)->A.length<=B.length
 |[],_,_,_=>Y2 _
 |a::A,B,h,hs=>by
  have ha:=hs a (.head _);have hc:=Qx.mp h
  have:=len_sub (A:=A) (B:=B.erase a) hc.2 λx hx=>(List.mem_erase_of_ne (λe=>hc.1 (by rw[<- e];exact hx))).mpr (hs x (.tail _ hx))
  rw[List.length_erase_of_mem ha]at this;have hp:0<B.length:=List.length_pos_of_mem ha;rw[Jk];omega
theorem Eo(h:v.natAbs<=16*1000000000000000+1):Sc (.int v):=by
 have e:(10:Nat)^18=1000000000000000000:=by decide
 show v.natAbs<10^18;omega
theorem jO(h:∀v∈L,v.natAbs<=16*1000000000000000):∀x∈L.map D.int,Sc x:=λx hx=>by
 obtain⟨v,hv,rfl⟩:=Y7.mp hx
 exact Eo (by have:=h v hv;omega)
theorem uR(S:Sto)(lo hi:Option Int):∃ys:List Int,fe S (.tup (xs.map .int)) lo hi=some (.tup (ys.map .int))/\ys.length<=xs.length/\∀y∈ys,y∈xs:=by
 refine⟨(xs.drop (HT.sIx (xs.map D.int).length 0 lo)).take (HT.sIx (xs.map D.int).length (xs.map D.int).length hi-HT.sIx (xs.map D.int).length 0 lo),?_,?_,λy hy=>Uc (V1 hy)⟩
 .show some (D.tup (PD.cutD (xs.map .int) lo hi))=_;unfold PD.cutD;rw[List.map_take,List.map_drop]
 .rw[Zx,Wa];omega
theorem Dg{xs:List D}(h:S[l]?=some (.lst xs))(lo hi:Option Int):∃ys,kI S (.ref l) lo hi=some (.lst ys)/\ys.length<=xs.length/\∀y∈ys,y∈xs:=by
 refine⟨PD.cutD xs lo hi,by unfold kI;simp only[h],?_,λy hy=>?_⟩
 .unfold PD.cutD;rw[Zx,Wa];omega
 .unfold PD.cutD at hy;exact Uc (V1 hy)
theorem Lays.uniq{A B:List (List Int)}(a:Lays b xs A)(c:Lays b xs B):A=B:=by
 apply Vl;intro i;by_cases h:i<=xs.length
 .have h1:i<A.length:=by rw[a.len];omega
  have h2:i<B.length:=by rw[c.len];omega
  have ea:A.getD i []=A[i]:=by rw[Jx,Jc h1];rfl
  have eb:B.getD i []=B[i]:=by rw[Jx,Jc h2];rfl
  have u1:=a.up _ (Zn h1);have u2:=c.up _ (Zn h2)
  have hm:∀v,v∈A[i]↔v∈B[i]:=λv=>by rw[<- ea,<- eb,a.mem i h v,c.mem i h v]
  have nd:∀L:List Int,L.Pairwise (· < ·)->L.Nodup:=λL h=>Z5.mpr (h.imp λh=>by omega)
  have pr:A[i].Perm B[i]:=(Ux (nd _ u1) (nd _ u2)).mpr hm
  rw[Jc h1,Jc h2,eX pr (u1.imp λh=>by omega) (u2.imp λh=>by omega)]
 .rw[Wv (by rw[a.len];omega),Wv (by rw[c.len];omega)]
theorem Lays.snoc{pre:List Int}(h:Lays b pre Ls)(hL:L.Pairwise (· < ·))(hm:∀v,v∈L↔v∈wiL b (pre++[x]))(hs:L.length<=1000):Lays b (pre++[x]) (Ls++[L]):=by
 refine⟨by rw[Jm,Jm,h.len];rfl,λi hi v=>?_,λM hM=>?_,λM hM=>?_⟩
 .rw[Jm,Zt]at hi;by_cases c:i<=pre.length
  .have e:(Ls++[L]).getD i []=Ls.getD i []:=by rw[Jx,Jx,Jw (by rw[h.len];omega)]
   rw[e,h.mem i c v,Ud c]
  .have ei:i=pre.length+1:=by omega
   subst ei
   have e:(Ls++[L]).getD (pre.length+1) []=L:=by
    rw[Jx,Y5 (by rw[h.len];omega),h.len]
    simp
   rw[e,hm v,Qb (by rw[Jm];simp)]
 .rcases Jt.mp hM with q|q
  .exact h.up M q
  .rw[Jv.mp q];exact hL
 .rcases Jt.mp hM with q|q
  .exact h.sm M q
  .rw[Jv.mp q];exact hs
theorem Lays.lasts(h:Lays b xs Ls)(v:Int):v∈Ls.getD xs.length []↔v∈wiL b xs:=by
 have:=h.mem xs.length (Jd _) v
 rwa [Ga]at this
theorem mI(hu:L.Pairwise (· < ·))(hm:∀v,v∈L↔v∈wiL b xs)(h8:xs.length<=8):L.length<=256:=by
 have nd:L.Nodup:=Z5.mpr (hu.imp λh=>by omega)
 exact Ys (len_sub nd λa ha=>(hm a).mp ha) (Ys (sW b xs) (p256 h8))
noncomputable abbrev lsB:SM:=(aF (ba 4 (eOp aI (bf (bJ (eOp oIx (ag 2) (eUn ef (eC (.int 1)))) bg) 1 [3] (.nm 0) bh (eOp aI (ag 0) (ag 1))) (bf (bJ (eOp oIx (ag 2) (eUn ef (eC (.int 1)))) bg) 1 [3] (.nm 0) bh (eOp hU (ag 0) (ag 1))))) (dg (lI dj (ag 2) (aa (eB df (aa (eB gY (aa (bf (bJ (ag 4) bg) 1 [1] (.nm 0) (tV (eOp oLe (eB ig (aa (ag 0) aj)) (ag 1))) (ag 0)) aj)) aj)) aj))))
theorem uU(hl0:S0.length<=l)(r0:Option D):∀(ys xs:List Int)(S:Sto)(Ls:List (List Int))(r3 r4:Option D),S[l]?=some (.lst (cx Ls))->Lays b xs Ls->xs.length+ys.length<=8->Pre S0 S->
  ∃(S':Sto)(Ls':List (List Int))(a3 a4:Option D),forL (.nm 3) lsB (ys.map .int) [r0,some (.int b),some (.ref l),r3,r4] S=.ok (.nx [r0,some (.int b),some (.ref l),a3,a4]) S'/\S'[l]?=some (.lst (cx Ls'))/\Lays b (xs++ys) Ls'/\Pre S0 S'
 |[],xs,S,Ls,r3,r4,hl,h,_,p=>⟨S,Ls,r3,r4,rfl,hl,by rw[Ym];exact h,p⟩
 |y::ys,xs,S,Ls,r3,r4,hl,h,hz,p=>by
  rw[Jk]at hz
  have z:(1000:Nat)<=sizeLine:=by decide
  have hx:=uF (S:=S) (.inl hl) h.len;have hmL:=h.lasts
  have hil:xs.length<Ls.length:=by rw[h.len];omega
  have hLm:Ls.getD xs.length []∈Ls:=by rw[Jx,Jc hil];exact Zn hil
  have hll:=mI (h.up _ hLm) hmL (by omega)
  generalize Ls.getD xs.length []=L at hx hmL hll
  have hit:bJ (eOp oIx (ag 2) (eUn ef (eC (.int 1)))) bg [r0,some (.int b),some (.ref l),some (.int y),r4] S=.ok (L.map .int) S:=by unfold bJ;rw[aq (ah rfl) rfl hx,R.bind_ok];rfl
  have c1:=eK (enc:=D.int) (out:=λa:Int=>D.int (a+y)) (e:=eOp aI (ag 0) (ag 1)) (caps:=[3]) (tl:=[some (.int y)]) L hit (by omega) rfl λa _=>aq (ah rfl) (ah rfl) rfl
  have c2:=eK (enc:=D.int) (out:=λa:Int=>D.int (a-y)) (e:=eOp hU (ag 0) (ag 1)) (caps:=[3]) (tl:=[some (.int y)]) L hit (by omega) rfl λa _=>aq (ah rfl) (ah rfl) rfl
  obtain⟨F,hF⟩:∃F:List Int,F=(L.map λa=>a+y)++(L.map λa=>a-y):=⟨_,rfl⟩
  have lF:F.length<=512:=by rw[hF];simp only[Jm,Jg];omega
  have ha:aI S (.lst (L.map λa=>D.int (a+y))) (.lst (L.map λa=>D.int (a-y)))=some (.lst (F.map .int)):=by rw[mG (by simp only[Jg];omega),hF,Qi,Qu,Qu];rfl
  have c3:=vQ (enc:=D.int) (out:=D.int) (p:=λa=>inB b a) (t:=tV (eOp oLe (eB ig (aa (ag 0) aj)) (ag 1))) (e:=ag 0) (it:=bJ (ag 4) bg) (caps:=[1]) (tl:=[some (.int b)]) (r:=[r0,some (.int b),some (.ref l),some (.int y),some (.lst (F.map .int))]) (S:=S) F (mE rfl rfl) (by omega) rfl (λa _=>aZ (aq (bb (z:=.int (ja a)) (af (ah rfl) rfl) rfl) (ah rfl) rfl)) λa _ _=>ah rfl
  have hs:=Az (S:=S) (f:=F.filter (inB b)) (by have:=List.length_filter_le (inB b) F;omega)
  have hup:=uH (F.filter (inB b))
  have hmem:∀v,v∈bV (ST.uniqZ (F.filter (inB b)))↔v∈wiL b (xs++[y]):=λv=>by
   rw[(bB _).mem_iff,ST.uniqZ_mem,Yv,<- qS,Yv,yi,hF,Jt,Y7,Y7];refine and_congr_left λ_=>?_;constructor
   .rintro(⟨a,h1,rfl⟩|⟨a,h1,rfl⟩)
    .exact⟨a,(hmL a).mp h1,1,by decide,by omega⟩
    .exact⟨a,(hmL a).mp h1,-1,by decide,by omega⟩
   .rintro⟨w,hw,q,hq,rfl⟩
    have hq:q = -1\/q=1:=by simpa using hq
    rcases hq with rfl|rfl
    .exact .inr ⟨w,(hmL w).mpr hw,by omega⟩
    .exact .inl ⟨w,(hmL w).mpr hw,by omega⟩
  have hlen:=mI hup hmem (by rw[Jm,Zt];omega)
  generalize bV (ST.uniqZ (F.filter (inB b)))=L2 at hs hup hmem hlen
  have h2:=h.snoc hup hmem (by omega)
  have hap:=iL (v:=tupI L2) hl (by rw[Jg,h.len];omega)
  have eL:cx Ls++[tupI L2]=cx (Ls++[L2]):=by unfold cx;rw[Qi];rfl
  rw[eL]at hap;have hlt:l<S.length:=(Jf.mp hl).1
  obtain⟨S',Ls',a3,a4,e,q1,q2,q3⟩:=uU hl0 r0 ys (xs++[y]) (S.set l (.lst (cx (Ls++[L2])))) (Ls++[L2]) (some (.int y)) (some (.lst (F.map .int))) (Yj hlt) h2 (by rw[Jm,Zt];omega) (p.set hl0 _)
  refine⟨S',Ls',a3,a4,?_,q1,by rw[Z8]at q2;exact q2,q3⟩
  rw[Jp];refine(bj (r1:=[r0,some (.int b),some (.ref l),some (.int y),r4]) rfl ?_).trans e;exact(au (aP (aq c1 c2 ha))).trans (bF ((kS (ah rfl) (kT hl) (af (bb (af (bb (af c3 rfl) hs) rfl) o6) rfl)).trans hap))
theorem Ep(b:Int):Lays b [] [if 0<=b then [0] else []]:=by
 have hm:∀v,v∈(if 0<=b then [0] else ([]:List Int))↔v∈wiL b []:=λv=>by
  rw[uw];have e:inB b 0=decide (0<=b):=rfl;by_cases c:0<=b
  .rw[Je c,Zp,e,Yc c];simp
  .rw[Ji c,Zp,e,Yb c];simp
 refine⟨rfl,λi hi v=>?_,λL hL=>?_,λL hL=>?_⟩
 .have:i=0:=by simpa using hi
  subst this;exact hm v
 .rw[Jv.mp hL];split<;>simp
 .rw[Jv.mp hL];split<;>decide
theorem yB(h8:row.length<=8)(b:Int)(S:Sto):∃(S':Sto)(Ls:List (List Int)),dW [tupI row,.int b] S=.ok (.ref S.length) S'/\S'[S.length]?=some (.lst (cx Ls))/\Lays b row Ls/\Pre S S':=by
 have z1:(1:Nat)<=sizeLine:=by decide
 have hi:eIf (tV (eOp oGe (ag 1) (eC (.int 0)))) (bz (aa (eC (.int 0)) aj)) (bz aj) [some (tupI row),some (.int b),none,none,none] S=.ok (tupI (if 0<=b then [0] else [])) S:=by
  have hg:tV (eOp oGe (ag 1) (eC (.int 0))) [some (tupI row),some (.int b),none,none,none] S=.ok (decide ((0:Int)<=b)) S:=aZ (aq (ah rfl) rfl rfl);by_cases c:(0:Int)<=b
  .rw[Yc c]at hg;rw[Je c];exact(yc hg).trans (bH (xs:=[.int 0]) rfl z1)
  .rw[Yb c]at hg;rw[Ji c];exact(yd hg).trans (bH (xs:=[]) rfl (Y2 _))
 have hN:eNew (aa (eIf (tV (eOp oGe (ag 1) (eC (.int 0)))) (bz (aa (eC (.int 0)) aj)) (bz aj)) aj) [some (tupI row),some (.int b),none,none,none] S=.ok (.ref S.length) (S++[.lst (cx [if 0<=b then [0] else []])]):=by unfold eNew;rw[af hi rfl,R.bind_ok];exact Je z1
 obtain⟨S',Ls,a3,a4,e,q1,q2,q3⟩:=uU (S0:=S) (b:=b) (l:=S.length) (Jd _) (some (tupI row)) row [] (S++[.lst (cx [if 0<=b then [0] else []])]) _ none none (by simp) (Ep b) (by show 0+row.length<=8;omega) (Pre.app _ _)
 rw[Zl]at q2;exact⟨S',Ls,bN (ρ:=[some (tupI row),some (.int b),none,none,none]) rfl ((au (aP hN)).trans ((au ((bY (ah rfl) rfl).trans e)).trans (aS (ah rfl)))),q1,q2,q3⟩
theorem yC(hr:Row xs)(hl:xs.length<=8)(S:Sto):∃S':Sto,Pre S S'/\((wiL b xs≠[]/\aX [tupI xs,.int b] S=.ok .non S')\/(wiL b xs=[]/\∃l Ls,aX [tupI xs,.int b] S=.ok (.ref l) S'/\S'[l]?=some (.lst (cx Ls))/\S.length<=l/\Lays b xs Ls)):=by
 have z:(1000:Nat)<=sizeLine:=by decide
 obtain⟨m,P,S1,e1,h⟩:=vU (b:=b) (xs:=xs) (by omega) S
 obtain⟨Q,e,hP,hT⟩:=h.last;have hL:=h.lst
 have hd:=(h.at_ e (by rw[hP];exact Yg _ (.head _))).1
 have hlast:oIx S1 (.ref m) (.int (-1))=some (.ref e.1):=by rw[hP,Qi]at hL;exact yo hL
 have ht:tV (eOp oQ (eOp oIx (ag 2) (eUn ef (eC (.int 1)))) (rW [])) [some (tupI xs),some (.int b),some (.ref m)] S1=.ok (decide (e.2=[])) S1:=aZ (aq (aq (ah rfl) rfl hlast) rfl (eq_nil hd))
 have hiff:e.2=[]↔wiL b xs=[]:=by
  constructor
  .intro q
   match hw:wiL b xs with
   |[]=>rfl
   |v::_=>
    obtain⟨d,hd,_⟩:=(hT.mem v).mpr (by rw[hw];exact .head _)
    rw[q]at hd;cases hd
  .intro q
   match hw:e.2 with
   |[]=>rfl
   |d::_=>
    have:=(hT.mem d.1).mp ⟨d,by rw[hw];exact .head _,rfl⟩
    rw[q]at this;cases this
 have go:∀{d:D}{S':Sto},eIf (tV (eOp oQ (eOp oIx (ag 2) (eUn ef (eC (.int 1)))) (rW []))) (lY (oN (ag 2)) 1 [] (.nm 0) bh (eB df (aa (eB su (aa (ag 0) aj)) aj))) (eC .non) [some (tupI xs),some (.int b),some (.ref m)] S1=.ok d S'->aX [tupI xs,.int b] S=.ok d S':=λg=>bN (ρ:=[some (tupI xs),some (.int b),none]) rfl ((au (bF ((aw (af (ah rfl) (af (ah rfl) rfl))).trans (o7 hr (by omega) b S)))).trans ((au (dz (aP ((aw (af (ah rfl) (af (ah rfl) rfl))).trans e1)))).trans (dz (aS g))))
 by_cases c:wiL b xs=[]
 .rw[Yc (hiff.mpr c)]at ht
  have his:∀d∈P,∃i,i<=xs.length/\Hist d.2 (wiL b (xs.take i)):=λd hdP=>by
   obtain⟨i,hi,rfl⟩:=W6.mp hdP;rw[h.len]at hi
   obtain⟨d,g1,g2⟩:=h.his i (by omega)
   have:P[i]=d:=by rw[Jc (by rw[h.len];exact hi)]at g1;exact Yk g1
   rw[this]
   exact⟨i,by omega,g2⟩
  have hsz:∀d∈P,d.2.length<=1000:=λd hdP=>by
   obtain⟨i,hi,g2⟩:=his d hdP;have a1:=g2.len;have a2:=sW b (xs.take i)
   have a3:=p256 (n:=(xs.take i).length) (by rw[Zx];omega)
   omega
  have hf:=C0 (m:=ag 2) (r:=[some (tupI xs),some (.int b),some (.ref m)]) (ah rfl) hL;generalize hS2:S1.set m (.flst (P.map λe=>D.ref e.1))=S2 at hf
  have d2:∀d∈P,dAt S2 d.1 d.2:=λd hdP=>by rw[<- hS2];exact(h.at_ d hdP).1.set (Ne.symm (h.at_ d hdP).2.1)
  have p2:Pre S S2:=by rw[<- hS2];exact h.pre.set h.low _
  have hcm:=comp_map (enc:=λd:Nat×List (Int×Int)=>D.ref d.1) (out:=λd=>tupI (wsS d.2)) (e:=eB df (aa (eB su (aa (ag 0) aj)) aj)) (tl:=[]) (S:=S2) P none λd hdP=>
   bb (af (bb (af (ah rfl) rfl) (CW (d2 d hdP) (hsz d hdP))) rfl) o6
  have eM:(P.map λd=>tupI (wsS d.2))=cx (P.map λd=>wsS d.2):=by unfold cx;rw[Qu];rfl
  rw[eM]at hcm
  have hc:lY (oN (ag 2)) 1 [] (.nm 0) bh (eB df (aa (eB su (aa (ag 0) aj)) aj)) [some (tupI xs),some (.int b),some (.ref m)] S1=.ok (.ref S2.length) (S2++[.lst (cx (P.map λd=>wsS d.2))]):=by
   unfold lY
   rw[hf,R.bind_ok,Je (by rw[Jg,h.len];omega)]
   show((cy (.nm 0) bh _ _ [none] S2).bind _)=_;rw[hcm,R.bind_ok]
  refine⟨_,p2.trans (Pre.app _ _),.inr ⟨c,S2.length,P.map λd=>wsS d.2,go ((yc ht).trans hc),by simp,p2.len,?_⟩⟩
  refine⟨by rw[Jg];exact h.len,λi hi v=>?_,λL hL=>?_,λL hL=>?_⟩
  .obtain⟨d,g1,g2⟩:=h.his i hi;rw[Jx,Zf,g1];exact Aw g2 v
  .obtain⟨d,hdP,rfl⟩:=Y7.mp hL;obtain⟨i,hi,g2⟩:=his d hdP;exact CY g2.keys
  .obtain⟨d,hdP,rfl⟩:=Y7.mp hL;rw[Ax];exact hsz d hdP
 .rw[Yb (λq=>c (hiff.mp q))]at ht;exact⟨S1,h.pre,.inl ⟨c,go ((yd ht).trans rfl)⟩⟩
theorem A9{d:D}(h:aX [tupI row,.int b] S=.ok d S'):bc [.int 1,.non,tupI row,.int b] S=.ok d S':=by
 refine bN (ρ:=[some (.int 1),some .non,some (tupI row),some (.int b),none]) rfl ?_
 have body:(aF (sIf (tNx (tV (eOp fI (ag 0) (eC (.int 0))))) (aT (aA aN (aa (ag 1) (aa (ag 2) (aa (ag 3) aj))))) aY) (aT (aA aX (aa (ag 2) (aa (ag 3) aj))))) [some (.int 1),some .non,some (tupI row),some (.int b),none] S=.ok (.rt d) S':=
  (au ((cp (fL (b:=false) (aZ (aq (ah rfl) rfl rfl)))).trans rfl)).trans (aS ((aw (af (ah rfl) (af (ah rfl) rfl))).trans h))
 show jZ raisedX 4 5 _ _ _ _=_;unfold jZ;rw[body]
theorem Er{t d:D}(h:aN [t,tupI row,.int b] S=.ok d S'):bc [.int 0,t,tupI row,.int b] S=.ok d S':=by
 refine bN (ρ:=[some (.int 0),some t,some (tupI row),some (.int b),none]) rfl ?_
 have body:(aF (sIf (tNx (tV (eOp fI (ag 0) (eC (.int 0))))) (aT (aA aN (aa (ag 1) (aa (ag 2) (aa (ag 3) aj))))) aY) (aT (aA aX (aa (ag 2) (aa (ag 3) aj))))) [some (.int 0),some t,some (tupI row),some (.int b),none] S=.ok (.rt d) S':=
  cj ((dE (fL (b:=true) (aZ (aq (ah rfl) rfl rfl)))).trans (aS ((aw (af (ah rfl) (af (ah rfl) (af (ah rfl) rfl)))).trans h)))
 show jZ raisedX 4 5 _ _ _ _=_;unfold jZ;rw[body]
def Zg(zs:List (Int×Int)):Prop:=∀z∈zs,0<=z.1/\(z.2=1\/z.2 = -1)
theorem Zg.of{p:List Int}(hx:∀x∈xs,1<=x)(h:Sg xs.length p):Zg (xs.zip p):=λz hz=>by
 obtain⟨h1,h2⟩:=V8 hz
 exact⟨by have:=hx _ h1;omega,h.2 _ h2⟩
theorem Dh(h:q=1\/q = -1):x*q=x\/x*q = -x:=by rcases h with rfl|rfl<;>omega
theorem yD(g h:Int):ja h<=mx g h:=by unfold mx ja;split<;>omega
theorem yE:∀(zs:List (Int×Int))(a g:Int),ja a<=g->ja (iD zs a)<=swg zs a g
 |[],a,g,h=>h
 |z::zs,a,g,h=>yE zs (a+z.1*z.2) _ (yD _ _)
theorem yF:∀(zs:List (Int×Int))(a g:Int),Zg zs->ja a<=g->swg zs a g<=g+(zs.map (·.1)).sum
 |[],a,g,_,_=>by show g<=g+0;omega
 |y::zs,a,g,hz,h=>by
  have h1:=yF zs (a+y.1*y.2) (mx g (a+y.1*y.2)) (λw hw=>hz w (.tail _ hw)) (yD _ _);have h4:=(hz y (.head _)).1
  have h2:mx g (a+y.1*y.2)<=g+y.1:=by unfold ja at h;unfold mx;rcases Dh (x:=y.1) (hz y (.head _)).2 with e|e<;>rw[e]<;>(split at h<;>split<;>split<;>omega)
  show swg zs _ _<=_;rw[Jp,Qd];omega
theorem Di:ou S (.int 10) (.int 29)=some (.int 100000000000000000000000000000):=by
 rw[xk ⟨by decide,by decide,by decide⟩]
 have e:(10:Int)^(29:Int).toNat=100000000000000000000000000000:=by decide
 rw[e]
noncomputable abbrev iS:List D:=[.non,.bl true,.bl false,.int (-1),.int 2,.str "",.str "1",.tup [.int 0],.lst [.int 1],.dic [(.inr "a",.int 1)],.tup [.int (-1)],.tup [.bl true],.tup [.tup [.int 1]],.tup [.non],
 .int 100000000000000000000000000000,.lst []]
theorem AF{b:Nat}(g:Gr b S S):∃(d:D)(S':Sto),eI [.ref b] S=.ok d S'/\d∈iS/\Gr b S S':=by
 obtain⟨q,S',e,q0,q1,g'⟩:=fC g (many:=16) (by decide) (by decide)
 obtain⟨n,rfl⟩:∃n:Nat,q=n:=⟨q.toNat,by omega⟩
 have hn:n<iS.length:=by show n<16;omega
 refine⟨iS[n],S',?_,Zn hn,g'⟩;have hix:atI iS (n:Int)=some iS[n]:=gf hn
 have h16:(16:Nat)<=sizeLine:=by decide
 have h1:(1:Nat)<=sizeLine:=by decide
 have h0:(0:Nat)<=sizeLine:=by decide
 have h15:(1:Nat)<=15:=by decide
 simp only[eI,fnM,i8,aF,ba,aT,cC,bz,rW,pM,iX,jk,dv,List.foldl,putD,eUn,ef,eOp,aA,ag,eC,aa,aj,R.bind,R.of,Di,aI,Jp,Wb,Jk,Y3,List.replicate,Qf,Zl,Nat.reduceAdd,Nat.reduceSub,Z7,Z6,Yn,Zm,h16,h1,h0,h15,Z0,List.any_nil,Jy,Yp,e];have hix2:oIx S' (D.lst iS) (D.int (n:Int))=some iS[n]:=hix;rw[hix2]
theorem yG:∀d∈iS,El d:=λd hd=>by
 simp only[iS,Jq,Yh,Q0]at hd
 have z0:Sc (.int 0):=by show(0:Nat)<10^18;decide
 have z1':Sc (.int 1):=by show(1:Nat)<10^18;decide
 have zm:Sc (.int (-1)):=by show(1:Nat)<10^18;decide
 have z2:Sc (.int 2):=by show(2:Nat)<10^18;decide
 have one:∀{e:D},Sc e->∀x∈[e],Sc x:=λh x hx=>by rw[Jv.mp hx];exact h
 rcases hd with rfl|rfl|rfl|rfl|rfl|rfl|rfl|rfl|rfl|rfl|rfl|rfl|rfl|rfl|rfl|rfl
 .exact nU True.intro
 .exact nU True.intro
 .exact nU True.intro
 .exact nU zm
 .exact nU z2
 .exact⟨⟨rfl,λys e=>by cases e⟩,⟨_,rfl,by decide +kernel,by decide +kernel,by decide +kernel⟩,λv hv=>by cases hv⟩
 .exact⟨⟨rfl,λys e=>by cases e⟩,⟨_,rfl,by decide +kernel,by decide +kernel,by decide +kernel⟩,λv hv=>by cases hv⟩
 .exact dC (by decide) (one z0)
 .exact sX (by decide) (one z1')
 .exact⟨⟨rfl,λys e=>by cases e⟩,⟨_,rfl,by decide +kernel,by decide +kernel,by decide +kernel⟩,λv hv=>by cases hv⟩
 .exact dC (by decide) (one zm)
 .exact dC (by decide) (one True.intro)
 .exact⟨⟨rfl,λys e=>by cases e;exact⟨λx hx=>by rw[Jv.mp hx];rfl,by decide⟩⟩,⟨_,rfl,by decide +kernel,by decide +kernel,by decide +kernel⟩,λv hv=>by
   have:v=0:=by simpa[zs,zI] using hv
   subst this;decide⟩
 .exact dC (by decide) (one True.intro)
 .exact⟨⟨rfl,λys e=>by cases e⟩,uP (yx (nl:=false) J6) (by decide) (by decide),λv hv=>by cases hv⟩
 .exact sX (by decide) (λx hx=>by cases hx)
theorem Dj{d:D}(hd:d∈iS):Tg S d:=by
 have h:=yG d hd
 have z1':Sc (.int 1):=by show(1:Nat)<10^18;decide
 by_cases hn:∃xs,d=.lst xs
 .obtain⟨xs,rfl⟩:=hn;simp only[iS,Jq,Yh,Q0,reduceCtorEq,D.lst.injEq,false_or]at hd;rcases hd with rfl|rfl
  .exact jc (by decide) λx hx=>by rw[Jv.mp hx];exact nU z1'
  .exact jc (by decide) λx hx=>by cases hx
 .exact En h λxs e=>hn ⟨xs,e⟩
def Lok(L:List Int):Prop:=L.length<=256/\∀v∈L,v.natAbs<=16*1000000000000000
theorem Dk(hx:∀x∈xs,1<=x)(h:v∈wiL b xs):ja v<=xs.sum:=by
 obtain⟨p,hp,rfl⟩:=Y7.mp h;obtain⟨hp,_⟩:=Yv.mp hp;have hs:=oZ _ p hp;have h1:=yE (xs.zip p) 0 0 (Q3 _);have h2:=yF (xs.zip p) 0 0 (Zg.of hx hs) (Q3 _)
 have h3:(xs.zip p).map (·.1)=xs:=List.map_fst_zip (by rw[hs.1];exact Jd _)
 rw[h3]at h2;omega
theorem yH(hn:∀x∈row,okN x)(h8:row.length<=8)(h:Lays b row Ls):∀L∈Ls,Lok L:=λL hm=>by
 obtain⟨i,hi,e⟩:=W6.mp hm
 have hi':i<=row.length:=by rw[h.len]at hi;omega
 have eg:Ls.getD i []=L:=by rw[Jx,Jc hi,e];rfl
 have hw:∀v,v∈L↔v∈wiL b (row.take i):=λv=>by rw[<- eg];exact h.mem i hi' v
 have hN:∀x∈row.take i,okN x:=λx hx=>hn x (V1 hx)
 refine⟨mI (h.up L hm) hw (by rw[Zx];omega),λv hv=>?_⟩
 have h1:=Dk (λx hx=>(hN x hx).1) ((hw v).mp hv)
 have hs:(row.take i).sum<=(row.take i).length*1000000000000000:=uN λx hx=>by have:=(hN x hx).2;omega
 have hl:(row.take i).length<=8:=by rw[Zx];omega
 have h3:((row.take i).length:Int)*1000000000000000<=16*1000000000000000:=Int.mul_le_mul_of_nonneg_right (by omega) (by decide)
 unfold ja at h1;split at h1<;>omega
theorem Dl(h:Lok L):El (tupI L):=dC (by rw[Jg];have:=h.1;omega) (jO h.2)
theorem pd(h:∀L∈Ls,Lok L):∀x∈cx Ls,El x:=λx hx=>by obtain⟨L,hm,rfl⟩:=Y7.mp hx;exact Dl (h L hm)
theorem sc2(h:v.natAbs<=16*1000000000000000+2):Sc (.int v):=by
 have e:(10:Nat)^18=1000000000000000000:=by decide
 show v.natAbs<10^18;omega
noncomputable def qU(L as bs cs T:List Int)(o:Int)(odd:D):List D:=[.tup (as.map .int++bs.map .int),.tup (as.map .int++[.int (o+1)]++bs.map .int),.tup (T.map .int)]++[.lst (L.map .int),.tup (L.map .int++cs.map .int),.tup (L.map .int).reverse,.tup (as.map .int++[.bl (decide (o=1))]++bs.map .int),odd,.tup [],.tup [.int 0]]
theorem AG{as bs cs T:List Int}{o:Int}{odd:D}(hL:Lok L)(la:as.length<=L.length)(ma:∀y∈as,y∈L)(lb:bs.length<=L.length)(mb:∀y∈bs,y∈L)(lc:cs.length<=L.length)(mc:∀y∈cs,y∈L)(lT:T.length<=L.length+1)(mT:∀y∈T,y∈L\/y=o+2)(ho:o.natAbs<=16*1000000000000000)(hd:odd∈iS):∀N∈qU L as bs cs T o odd,El N:=λN hN=>by
 have lL:=hL.1;have sL:=jO hL.2;have sA:∀x∈as.map D.int,Sc x:=jO λv hv=>hL.2 v (ma v hv);have sB:∀x∈bs.map D.int,Sc x:=jO λv hv=>hL.2 v (mb v hv);have sC:∀x∈cs.map D.int,Sc x:=jO λv hv=>hL.2 v (mc v hv)
 have sT:∀x∈T.map D.int,Sc x:=λx hx=>by
  obtain⟨v,hv,rfl⟩:=Y7.mp hx;rcases mT v hv with q|q
  .exact sc2 (by have:=hL.2 v q;omega)
  .exact sc2 (by omega)
 have so:Sc (.int (o+1)):=sc2 (by omega)
 have s0:Sc (.int 0):=sc2 (by decide)
 have app:∀{A B:List D},(∀x∈A,Sc x)->(∀x∈B,Sc x)->∀x∈A++B,Sc x:=λh k x hx=>(Jt.mp hx).elim (h x) (k x)
 have one:∀{e:D},Sc e->∀x∈[e],Sc x:=λh x hx=>by rw[Jv.mp hx];exact h
 simp only[qU,Qf,Zl,Jq,Yh,Q0]at hN;rcases hN with rfl|rfl|rfl|rfl|rfl|rfl|rfl|rfl|rfl|rfl
 .exact dC (by simp only[Jm,Jg];omega) (app sA sB)
 .refine dC ?_ ?_
  .simp only[Jm,Jg,Jk,Y3];omega
  .simpa using app sA (app (one so) sB)
 .exact dC (by rw[Jg];omega) sT
 .exact sX (by rw[Jg];omega) sL
 .exact dC (by simp only[Jm,Jg];omega) (app sL sC)
 .exact dC (by rw[V6,Jg];omega) λx hx=>sL x (List.mem_reverse.mp hx)
 .refine dC ?_ ?_
  .simp only[Jm,Jg,Jk,Y3];omega
  .simpa using app sA (app (one (e:=.bl (decide (o=1))) True.intro) sB)
 .exact yG _ hd
 .exact dC (by decide) λx hx=>by cases hx
 .exact dC (by decide) (one s0)
noncomputable abbrev Es:SM:=(aF (sIf (tV (eOp oLt (ag 8) (eC (.int 10)))) (aT (eOp aI (eOp aI (eSl kI (ag 1) oNo (bT (ag 3))) (cC (aa (eOp oIx (ag 7) (ag 8)) aj))) (eSl kI (ag 1) (bT (eOp aI (ag 3) (eC (.int 1)))) oNo))) aY) (aT (eOp oIx (cC (aa (eB df (aa (ag 1) aj)) (aa (eSl kI (ag 1) oNo (bT (eUn ef (eC (.int 1))))) (aa (eOp nG (ag 1) (cC (aa (bz aj) aj))) aj)))) (eOp hU (ag 8) (eC (.int 10))))))
theorem AH{b:Nat}{odd:D}(g:Gr b S S)(hlb:l≠b)(hl:S[l]?=some (.lst (cx Ls)))(h9:Ls.length<=9)(h1:1<=Ls.length)(hs:∀L∈Ls,Lok L)(ho:odd∈iS):∃(d:D)(S':Sto),bW [.ref b,.ref l,odd] S=.ok d S'/\(∀T,Tg T d)/\Gr b S S':=by
 have hll:l<S.length:=(Jf.mp hl).1
 obtain⟨q1,S1,e1,a0,a1,g1⟩:=fC g (many:=(Ls.length:Int)) (by omega) (by omega)
 obtain⟨i,rfl⟩:∃i:Nat,q1=i:=⟨q1.toNat,by omega⟩
 have hi:i<Ls.length:=by omega
 have hl1:S1[l]?=some (.lst (cx Ls)):=by rw[g1.oth l hlb hll];exact hl
 have hL:Lok (Ls.getD i []):=hs _ (by rw[Jx,Jc hi];exact Zn hi)
 have x1:=CZ (.inl hl1) hi;generalize Ls.getD i []=L at hL x1;have lL:=hL.1
 obtain⟨q2,S2,e2,b0,b1,g2⟩:=fC g1.self (many:=((L.length:Int)+1)) (by omega) (by omega)
 obtain⟨j,rfl⟩:∃j:Nat,q2=j:=⟨q2.toNat,by omega⟩
 have z:(1000:Nat)<=sizeLine:=by decide
 have z0:(0:Nat)<=sizeLine:=Y2 _
 have z1:(1:Nat)<=sizeLine:=by decide
 have z3:(3:Nat)<=sizeLine:=by decide
 have z7:(7:Nat)<=sizeLine:=by decide
 obtain⟨ds,hd0,ld,md⟩:=uR (xs:=L) S2 (some (j:Int)) none
 have hone:∃o:Int,oIx S2 (.tup (ds.map .int++[.int 0])) (.int 0)=some (.int o)/\o.natAbs<=16*1000000000000000:=by
  cases ds with
  |nil=>exact⟨0,rfl,by decide⟩
  |cons y ys=>
   have h0:=gf (xs:=D.int y::(ys.map D.int++[D.int 0])) (i:=0) (by simp)
   refine⟨y,?_,hL.2 y (md y (.head _))⟩;rw[Jp,Qf];exact h0
 obtain⟨o,x2,ho1⟩:=hone
 obtain⟨q3,S3,e3,c0,c1,g3⟩:=fC g2.self (many:=13) (by decide) (by decide)
 obtain⟨n,rfl⟩:∃n:Nat,q3=n:=⟨q3.toNat,by omega⟩
 have hl3:S3[l]?=some (.lst (cx Ls)):=by rw[(g2.trans g3).oth l hlb (Y1 hll g1.len)];exact hl1
 obtain⟨as,ha,la,ma⟩:=uR (xs:=L) S2 none (some (j:Int));obtain⟨bs,hb,lb,mb⟩:=uR (xs:=L) S2 (some ((j:Int)+1)) none;obtain⟨cs,hc,lc,mc⟩:=uR (xs:=L) S2 (some (-1)) none
 have hsrt:gY S2 [.tup (L.map .int++[.int (o+2)])]=some (.lst ((bV (ST.uniqZ (L++[o+2]))).map .int)):=by
  have e:(L.map D.int++[.int (o+2)])=(L++[o+2]).map .int:=by rw[Qi];rfl
  rw[e]
  show(match intsOf ((L++[o+2]).map D.int) with|some ns=>if ns.length+1<4096 then some (D.lst ((bV (ST.uniqZ ns)).map .int)) else none|none=>none)=_
  rw[jM]
  exact Je (by rw[Jm,Zt];omega)
 have mT:∀y∈bV (ST.uniqZ (L++[o+2])),y∈L\/y=o+2:=λy hy=>by rw[(bB _).mem_iff,ST.uniqZ_mem,Jt,Jv]at hy;exact hy
 have lT:(bV (ST.uniqZ (L++[o+2]))).length<=L.length+1:=by rw[(bB _).length_eq];have:=len_sub (B:=L++[o+2]) (ST.uniqZ_nd (L++[o+2])) λa ha=>(ST.uniqZ_mem _ _).mp ha;rw[Jm,Zt]at this;exact this
 generalize bV (ST.uniqZ (L++[o+2]))=T at hsrt mT lT;have hN:=AG hL la ma lb mb lc mc lT mT ho1 ho
 have len1:cL S [.ref l]=some (.int Ls.length):=by
  have:cL S [.ref l]=some (.int (cx Ls).length):=by unfold cL;simp only[lAt.seq (.inl hl)]
  rw[Jg]at this;exact this
 generalize hρ0:([some (.ref b),some (.ref l),some odd,some (.int (i:Int)),some (tupI L),some (.int (j:Int)),none,none,none]:Rho) = ρ0
 have u4:∀S,ag 4 ρ0 S=.ok (tupI L) S:=λS=>by rw[<- hρ0];exact ah rfl
 have u5:∀S,ag 5 ρ0 S=.ok (.int j) S:=λS=>by rw[<- hρ0];exact ah rfl
 have hO:eOp oIx (eOp aI (eSl fe (ag 4) (bT (ag 5)) oNo) (bz (aa (eC (.int 0)) aj))) (eC (.int 0)) ρ0 S2=.ok (.int o) S2:=
  aq (aq (gN (u4 _) (d7 (u5 _)) rfl hd0) (bH (xs:=[.int 0]) rfl z1) (gL (by simp only[Jg,Jk,Y3];omega))) rfl x2
 generalize hρ:([some (.ref b),some (.ref l),some odd,some (.int (i:Int)),some (tupI L),some (.int (j:Int)),some (.int o),none,none]:Rho) = ρ
 have v2:∀S,ag 2 ρ S=.ok odd S:=λS=>by rw[<- hρ];exact ah rfl
 have v4:∀S,ag 4 ρ S=.ok (tupI L) S:=λS=>by rw[<- hρ];exact ah rfl
 have v5:∀S,ag 5 ρ S=.ok (.int j) S:=λS=>by rw[<- hρ];exact ah rfl
 have v6:∀S,ag 6 ρ S=.ok (.int o) S:=λS=>by rw[<- hρ];exact ah rfl
 have sA:eSl fe (ag 4) oNo (bT (ag 5)) ρ S2=.ok (.tup (as.map .int)) S2:=gN (v4 _) rfl (d7 (v5 _)) ha;have sB:eSl fe (ag 4) (bT (eOp aI (ag 5) (eC (.int 1)))) oNo ρ S2=.ok (.tup (bs.map .int)) S2:=gN (v4 _) (d7 (aq (v5 _) rfl rfl)) rfl hb
 have hA:cC (aa (eOp aI (eSl fe (ag 4) oNo (bT (ag 5))) (eSl fe (ag 4) (bT (eOp aI (ag 5) (eC (.int 1)))) oNo)) (aa (eOp aI (eOp aI (eSl fe (ag 4) oNo (bT (ag 5))) (bz (aa (eOp aI (ag 6) (eC (.int 1))) aj))) (eSl fe (ag 4) (bT (eOp aI (ag 5) (eC (.int 1)))) oNo)) (aa (eB df (aa (eB gY (aa (eOp aI (ag 4) (bz (aa (eOp aI (ag 6) (eC (.int 2))) aj))) aj)) aj)) aj))) ρ S2=.ok (.lst [.tup (as.map .int++bs.map .int),.tup (as.map .int++[.int (o+1)]++bs.map .int),.tup (T.map .int)]) S2:=
  cZ (af (aq sA sB (gL (by simp only[Jg];omega)))
   (af (aq (aq sA (bH (xs:=[.int (o+1)]) (af (aq (v6 _) rfl rfl) rfl) z1) (gL (by simp only[Jg,Jk,Y3];omega))) sB (gL (by simp only[Jm,Jg,Jk,Y3];omega)))
   (af (bb (af (bb (af (aq (v4 _) (bH (xs:=[.int (o+2)]) (af (aq (v6 _) rfl rfl) rfl) z1) (gL (by simp only[Jg,Jk,Y3];omega))) rfl) hsrt) rfl) o6) rfl))) z3
 generalize hρ2:([some (.ref b),some (.ref l),some odd,some (.int (i:Int)),some (tupI L),some (.int (j:Int)),some (.int o),some (.lst [.tup (as.map .int++bs.map .int),.tup (as.map .int++[.int (o+1)]++bs.map .int),.tup (T.map .int)]),none]:Rho) = ρ2
 have w2:∀S,ag 2 ρ2 S=.ok odd S:=λS=>by rw[<- hρ2];exact ah rfl
 have w4:∀S,ag 4 ρ2 S=.ok (tupI L) S:=λS=>by rw[<- hρ2];exact ah rfl
 have w5:∀S,ag 5 ρ2 S=.ok (.int j) S:=λS=>by rw[<- hρ2];exact ah rfl
 have w6:∀S,ag 6 ρ2 S=.ok (.int o) S:=λS=>by rw[<- hρ2];exact ah rfl
 have w7:∀S,ag 7 ρ2 S=.ok (.lst [.tup (as.map .int++bs.map .int),.tup (as.map .int++[.int (o+1)]++bs.map .int),.tup (T.map .int)]) S:=λS=>by rw[<- hρ2];exact ah rfl
 have tA:eSl fe (ag 4) oNo (bT (ag 5)) ρ2 S2=.ok (.tup (as.map .int)) S2:=gN (w4 _) rfl (d7 (w5 _)) ha;have tB:eSl fe (ag 4) (bT (eOp aI (ag 5) (eC (.int 1)))) oNo ρ2 S2=.ok (.tup (bs.map .int)) S2:=gN (w4 _) (d7 (aq (w5 _) rfl rfl)) rfl hb
 have hB:eOp aI (ag 7) (cC (aa (eB lH (aa (ag 4) aj)) (aa (eOp aI (ag 4) (eSl fe (ag 4) (bT (eUn ef (eC (.int 1)))) oNo)) (aa (xP (ag 4) (eUn ef (eC (.int 1)))) (aa (eOp aI (eOp aI (eSl fe (ag 4) oNo (bT (ag 5))) (bz (aa (eOp fI (ag 6) (eC (.int 1))) aj))) (eSl fe (ag 4) (bT (eOp aI (ag 5) (eC (.int 1)))) oNo)) (aa (ag 2) (aa (bz aj) (aa (bz (aa (eC (.int 0)) aj)) aj)))))))) ρ2 S2=.ok (.lst (qU L as bs cs T o odd)) S2:=
  aq (w7 _) (cZ (af (bb (z:=.lst (L.map .int)) (af (w4 _) rfl) rfl)
   (af (aq (w4 _) (gN (w4 _) (d7 (i:=-1) rfl) rfl hc) (gL (by simp only[Jg];omega)))
   (af (AE (w4 _))
   (af (aq (aq tA (bH (xs:=[.bl (decide (o=1))]) (af (aq (w6 _) rfl CP) rfl) z1) (gL (by simp only[Jg,Jk,Y3];omega))) tB (gL (by simp only[Jm,Jg,Jk,Y3];omega)))
   (af (w2 _) (af (bH (xs:=[]) rfl z0) (af (bH (xs:=[.int 0]) rfl z1) rfl))))))) z7) (mG (by show 3+7<=sizeLine;decide))
 have head:iu [some (.ref b),some (.ref l),some odd,none,none,none,none,none,none] S=Es [some (.ref b),some (.ref l),some odd,some (.int (i:Int)),some (tupI L),some (.int (j:Int)),some (.int o),some (.lst (qU L as bs cs T o odd)),some (.int (n:Int))] S3:=by refine(au (aP ((aw (af (ah rfl) (af (bb (af (ah rfl) rfl) len1) rfl))).trans e1))).trans ?_;refine(au (aP (aq (ah rfl) (ah rfl) x1))).trans ?_;refine(au (aP ((aw (af (ah rfl) (af (aq (bb (af (ah rfl) rfl) fX) rfl rfl) rfl))).trans e2))).trans ?_;subst hρ0;refine(au (aP hO)).trans ?_;subst hρ;refine(au (aP hA)).trans ?_;subst hρ2;refine(au (aP hB)).trans ?_;exact au (aP ((aw (af (ah rfl) (af rfl rfl))).trans e3))
 have G:Gr b S S3:=g1.trans (g2.trans g3);have eL:=pd hs
 have e0:El (.tup []):=dC (by decide) λx hx=>by cases hx
 have h9':(cx Ls).length<=9:=by rw[Jg];exact h9
 obtain⟨as',ha',la',ma'⟩:=Dg hl3 none (some (i:Int));obtain⟨bs',hb',lb',mb'⟩:=Dg hl3 (some ((i:Int)+1)) none;obtain⟨cs',hc',lc',mc'⟩:=Dg hl3 none (some (-1))
 have n13:n<13:=by omega
 generalize hNN:qU L as bs cs T o odd=NN at hN head
 have lN:NN.length=10:=by rw[<- hNN];rfl
 by_cases h10:n<10
 .have hn:n<NN.length:=by rw[lN];exact h10
  have hix:oIx S3 (.lst NN) (.int (n:Int))=some NN[n]:=gf hn;have eN:=hN _ (Zn hn);generalize NN[n]=N at hix eN
  refine⟨.lst (as'++[N]++bs'),S3,bN (ρ:=[some (.ref b),some (.ref l),some odd,none,none,none,none,none,none]) rfl (head.trans (cj ((dE (aZ (aq (ah rfl) rfl (Q7 (λb=>some (D.bl b)) (Yc (by omega)))))).trans (aS (aq (aq (gN (ah rfl) rfl (d7 (ah rfl)) ha') (cZ (xs:=[N]) (af (aq (ah rfl) (ah rfl) hix) rfl) z1) (mG (by simp only[Jk,Y3];omega))) (gN (ah rfl) (d7 (aq (ah rfl) rfl rfl)) rfl hb') (mG (by simp only[Jm,Jk,Y3];omega))))))),λT=>jc (by simp only[Jm,Jk,Y3];omega) λx hx=>?_,G⟩
  rcases Jt.mp hx with hx|hx
  .rcases Jt.mp hx with hx|hx
   .exact eL x (ma' x hx)
   .rw[Jv.mp hx];exact eN
  .exact eL x (mb' x hx)
 .have hT:df S3 [.ref l]=some (.tup (cx Ls)):=by show(bO S3 (.ref l)).map D.tup=_;rw[lAt.seq (.inl hl3)];rfl
  have hP:nG S3 (.ref l) (.lst [.tup []])=some (.lst (cx Ls++[.tup []])):=by
   unfold nG iY;simp only[hl3]
   exact Je (by simp only[Jk,Y3];omega)
  have hlast:∀d,oIx S3 (.lst [.tup (cx Ls),.lst cs',.lst (cx Ls++[.tup []])]) (.int ((n:Int)-10))=some d->bW [.ref b,.ref l,odd] S=.ok d S3:=λd hd=>
   bN (ρ:=[some (.ref b),some (.ref l),some odd,none,none,none,none,none,none]) rfl (head.trans ((au ((cp (aZ (aq (ah rfl) rfl (Q7 (λb=>some (D.bl b)) (Yb (by omega)))))).trans rfl)).trans (aS (aq (cZ (xs:=[.tup (cx Ls),.lst cs',.lst (cx Ls++[.tup []])]) (af (bb (af (ah rfl) rfl) hT) (af (gN (ah rfl) rfl (d7 (i:=-1) rfl) hc') (af (aq (ah rfl) (cZ (xs:=[.tup []]) (af (bH (xs:=[]) rfl z0) rfl) z1) hP) rfl))) z3) (aq (ah rfl) rfl rfl) hd))))
  have hn:n=10\/n=11\/n=12:=by omega
  rcases hn with rfl|rfl|rfl
  .exact⟨_,S3,hlast _ rfl,λT=>.inr ⟨rfl,(λxs e=>by cases e),Dc (by omega) λx hx=>(eL x hx).2.1⟩,G⟩
  .exact⟨_,S3,hlast _ rfl,λT=>jc (by omega) λx hx=>eL x (mc' x hx),G⟩
  .refine⟨_,S3,hlast _ rfl,λT=>jc (by simp only[Jm,Jk,Y3];omega) λx hx=>?_,G⟩
   rcases Jt.mp hx with hx|hx
   .exact eL x hx
   .rw[Jv.mp hx];exact e0
noncomputable abbrev Dm:SM:=(aF (ba 9 (eB dw (aa (ag 7) aj))) (aF (ba 10 (aA bc (aa (eC (.int 0)) (aa (ag 7) (aa (ag 1) (aa (ag 2) aj)))))) (sIf (PD.tOr (PD.cS (tV (eB di (aa (ag 10) (aa (eC (.ty "bool")) aj))))) (PD.tOr (tV (eOp eh (ag 10) (aA br (aa (ag 7) (aa (ag 1) (aa (ag 2) aj)))))) (tV (eOp eh (eB dw (aa (ag 7) aj)) (ag 9))))) (aT (eC (.bl false))) aY)))
theorem uV{a:List D}{k:Int}(h:-(2^63)<=k/\k<2^63/\a.length*k.toNat<=sizeLine):cD S (.lst a) (.int k)=some (.lst (List.replicate k.toNat a).flatten):=Je h
theorem Et(S:Sto)(p:Bool):eh S (.bl p) (.bl p)=some (.bl false):=by cases p<;>rfl
theorem Dp(hr:Row row)(h7:row.length<=7){d:D}(t:Tg S d)(r0 r3 r4 r5 r6 r8 r9 r10:Option D):∃(S':Sto)(a9 a10:Option D),Dm [r0,some (tupI row),some (.int b),r3,r4,r5,r6,some d,r8,r9,r10] S=.ok (.nx [r0,some (tupI row),some (.int b),r3,r4,r5,r6,some d,r8,a9,a10]) S'/\Kp S S':=by
 have key:∀(t:Str)(p:Bool)(S1 S2:Sto),dw S [d]=some (.str t)->aN [d,tupI row,.int b] S=.ok (.bl p) S1->br [d,tupI row,.int b] S1=.ok (.bl p) S2->dw S2 [d]=some (.str t)->∃a9 a10:Option D,Dm [r0,some (tupI row),some (.int b),r3,r4,r5,r6,some d,r8,r9,r10] S=.ok (.nx [r0,some (tupI row),some (.int b),r3,r4,r5,r6,some d,r8,a9,a10]) S2:=λt p S1 S2 h1 h2 h3 h4=>by
  have hb:di S1 [.bl p,.ty "bool"]=some (.bl true):=by simp[di,tyD,dP]
  refine⟨some (.str t),some (.bl p),?_⟩;refine(au (aP (bb (af (ah rfl) rfl) h1))).trans ((au (aP ((aw (af rfl (af (ah rfl) (af (ah rfl) (af (ah rfl) rfl))))).trans (Er h2)))).trans ?_);exact(cp ((ez (bD (b:=true) (aZ (bb (af (ah rfl) (af rfl rfl)) hb)))).trans ((ez (aZ (aq (ah rfl) ((aw (af (ah rfl) (af (ah rfl) (af (ah rfl) rfl)))).trans h3) (Et _ p)))).trans (aZ (aq (bb (af (ah rfl) rfl) h4) (ah rfl) ne_self))))).trans rfl
 rcases t with⟨xs,v,hl,he⟩|⟨hs,hn,p,h1,h2⟩
 .obtain⟨t,ht⟩:=yy hl λx hx=>(he x hx).2.1
  obtain⟨S1,e1,k1⟩:=C5 hr (by omega) (b:=b) v (λx hx=>(he x hx).1) (by omega)
  obtain⟨S2,e2,k2⟩:=C8 (row:=row) (by omega) (b:=b) (v.kp k1) λx hx=>(he x hx).1
  obtain⟨a9,a10,e⟩:=key t _ S1 S2 (ht S d v) e1 e2 (ht S2 d (v.kp (k1.trans k2)));exact⟨S2,a9,a10,e,k1.trans k2⟩
 .obtain⟨a9,a10,e⟩:=key p.shown false S S (yz hs h1 h2 S) (C4 hr (by omega) hs hn S) (C7 hs hn S) (yz hs h1 h2 S)
  exact⟨S,a9,a10,e,Kp.refl S⟩
theorem qV(hr:Row row)(h7:row.length<=7){b:Int}(r0 r3 r4 r5 r6 r8:Option D):∀(ds:List D)(S:Sto)(r7 r9 r10:Option D),(∀d∈ds,Tg S d)->∃(S':Sto)(a7 a9 a10:Option D),forL (.nm 7) Dm ds [r0,some (tupI row),some (.int b),r3,r4,r5,r6,r7,r8,r9,r10] S=.ok (.nx [r0,some (tupI row),some (.int b),r3,r4,r5,r6,a7,r8,a9,a10]) S'/\Kp S S'
 |[],S,r7,r9,r10,_=>⟨S,r7,r9,r10,rfl,Kp.refl S⟩
 |d::ds,S,r7,r9,r10,h=>by obtain⟨S1,b9,b10,e1,k1⟩:=Dp hr h7 (b:=b) (h d (.head _)) r0 r3 r4 r5 r6 r8 r9 r10;obtain⟨S2,a7,a9,a10,e2,k2⟩:=qV hr h7 (b:=b) r0 r3 r4 r5 r6 r8 ds S1 (some d) b9 b10 λx hx=>(h x (.tail _ hx)).kp k1;exact⟨S2,a7,a9,a10,(bj (r1:=[r0,some (tupI row),some (.int b),r3,r4,r5,r6,some d,r8,r9,r10]) rfl e1).trans e2,k1.trans k2⟩
theorem qW{b:Nat}{odd:D}(hlb:l≠b)(h9:Ls.length<=9)(h1:1<=Ls.length)(hs:∀L∈Ls,Lok L)(ho:odd∈iS):∀(ks:List D)(r0:Option D)(S:Sto),Gr b S S->S[l]?=some (.lst (cx Ls))->∃(ys:List D)(S':Sto),cy (.nm 0) bh (aA bW (aa (ag 1) (aa (ag 2) (aa (ag 3) aj)))) ks [r0,some (.ref b),some (.ref l),some odd] S=.ok ys S'/\ys.length=ks.length/\(∀y∈ys,∀T,Tg T y)/\Gr b S S'
 |[],r0,S,g,_=>⟨[],S,rfl,rfl,(λy hy=>by cases hy),g⟩
 |k::ks,r0,S,g,hl=>by
  obtain⟨d,S1,e1,t1,g1⟩:=AH g hlb hl h9 h1 hs ho
  obtain⟨ys,S2,e2,l2,t2,g2⟩:=qW hlb h9 h1 hs ho ks (some k) S1 g1.self (by rw[g1.oth l hlb (Jf.mp hl).1];exact hl)
  refine⟨d::ys,S2,?_,by simp[l2],λy hy=>?_,g1.trans g2⟩
  .have e0:aA bW (aa (ag 1) (aa (ag 2) (aa (ag 3) aj))) [some k,some (.ref b),some (.ref l),some odd] S=.ok d S1:=(aw (af (ah rfl) (af (ah rfl) (af (ah rfl) rfl)))).trans e1;rw[cy];simp only[PD.G.put,Yn,bh,R.bind_ok,Z0,e0,e2]
  .rcases Jq.mp hy with rfl|hy
   .exact t1
   .exact t2 y hy
theorem kn(Ls:List (List Int)):∀i,cx Ls≠[.int i]:=λi e=>by
 cases Ls with
 |nil=>cases e
 |cons L Ls=>cases (List.cons.inj e).1
noncomputable abbrev Eu:SM:=(aF (ba 8 (aA bc (aa (eC (.int 1)) (aa (eC .non) (aa (ag 1) (aa (ag 2) aj)))))) (aF (sIf (tV (eOp eh (eB dw (aa (ag 8) aj)) (eB dw (aa (ag 5) aj)))) (aT (eC (.bl false))) aY) (sIf (tV (eOp (zK true) (ag 5) (eC .non))) (dg (lI dj (ag 8) (aa (bz aj) aj))) aY)))
theorem qX(hr:Row row)(h7:row.length<=7){l0:Nat}{L0:List (List Int)}(hL0:Lays b row L0)(hs:∀L∈L0,Lok L){due:D}(hdue:(wiL b row=[]/\due=.ref l0)\/(wiL b row≠[]/\due=.non))(h0:S0[l0]?=some (.lst (cx L0)))(r0 r3 r4 r7 r9 r10:Option D):∀(ks:List Nat)(S:Sto)(r6 r8:Option D),Pre S0 S->
  ∃(S':Sto)(a6 a8:Option D),forL (.nm 6) Eu (ks.map λ(i:Nat)=>D.int i) [r0,some (tupI row),some (.int b),r3,r4,some due,r6,r7,r8,r9,r10] S=.ok (.nx [r0,some (tupI row),some (.int b),r3,r4,some due,a6,r7,a8,r9,r10]) S'/\Pre S0 S'
 |[],S,r6,r8,p=>⟨S,r6,r8,rfl,p⟩
 |i::ks,S,r6,r8,p=>by
  have z0:(0:Nat)<=sizeLine:=Y2 _
  have z:(1000:Nat)<=sizeLine:=by decide
  have key:∃(S1:Sto)(a8:Option D),Eu [r0,some (tupI row),some (.int b),r3,r4,some due,some (.int i),r7,r8,r9,r10] S=.ok (.nx [r0,some (tupI row),some (.int b),r3,r4,some due,some (.int i),r7,a8,r9,r10]) S1/\Pre S0 S1:=by
   obtain⟨S1,p1,hp⟩:=yC (b:=b) hr (by omega) S
   rcases hdue with⟨hw,rfl⟩|⟨hw,rfl⟩
   .rcases hp with⟨c,_⟩|⟨_,l,Ls,e1,hl,hsl,hL⟩
    .exact absurd hw c
    have hu:=hL.uniq hL0;subst hu
    obtain⟨t,ht⟩:=yy (xs:=cx Ls) (by rw[Jg,hL.len];omega) λx hx=>(pd hs x hx).2.1
    have hap:=iL (v:=.tup []) hl (by rw[Jg,hL.len];omega)
    have h01:S1[l0]?=some (.lst (cx Ls)):=by rw[(p.trans p1).old l0 (Jf.mp h0).1];exact h0
    refine⟨S1.set l (.lst (cx Ls++[.tup []])),some (.ref l),?_,(p.trans p1).set (Ys p.len hsl) _⟩;refine(au (aP ((aw (af rfl (af rfl (af (ah rfl) (af (ah rfl) rfl))))).trans (A9 e1)))).trans ?_;refine(au ((cp (aZ (aq (bb (af (ah rfl) rfl) (ht S1 (.ref l) (.inr ⟨l,rfl,kn _,.inl hl⟩))) (bb (af (ah rfl) rfl) (ht S1 (.ref l0) (.inr ⟨l0,rfl,kn _,.inl h01⟩))) ne_self))).trans rfl)).trans ?_;exact(dE (aZ (aq (ah rfl) rfl rfl))).trans (bF ((kS (ah rfl) (kT hl) (af (bH (xs:=[]) rfl z0) rfl)).trans hap))
   .rcases hp with⟨_,e1⟩|⟨c,_⟩
    .obtain⟨t,ht⟩:=Dd;refine⟨S1,some .non,?_,p.trans p1⟩;refine(au (aP ((aw (af rfl (af rfl (af (ah rfl) (af (ah rfl) rfl))))).trans (A9 e1)))).trans ?_;refine(au ((cp (aZ (aq (bb (af (ah rfl) rfl) (ht S1)) (bb (af (ah rfl) rfl) (ht S1)) ne_self))).trans rfl)).trans ?_;exact(cp (aZ (aq (ah rfl) rfl rfl))).trans rfl
    .exact absurd c hw
  obtain⟨S1,b8,e1,p1⟩:=key;obtain⟨S2,a6,a8,e2,p2⟩:=qX hr h7 hL0 hs hdue h0 r0 r3 r4 r7 r9 r10 ks S1 (some (.int i)) b8 p1;exact⟨S2,a6,a8,(bj (r1:=[r0,some (tupI row),some (.int b),r3,r4,some due,some (.int i),r7,r8,r9,r10]) rfl e1).trans e2,p2⟩
theorem yI(hn:∀x∈row,okN x)(h7:row.length<=7){odd:D}(ho:odd∈iS)(b:Int){bx:Nat}(g:Gr bx S S):∃S':Sto,cY [.ref bx,tupI row,.int b,odd] S=.ok (.bl true) S'/\Gr bx S' S':=by
 have z:(1000:Nat)<=sizeLine:=by decide
 have z0:(0:Nat)<=sizeLine:=Y2 _
 have z1:(1:Nat)<=sizeLine:=by decide
 have z4:(4:Nat)<=sizeLine:=by decide
 have hr:Row row:=⟨λx hx=>(hn x hx).1,by omega⟩
 have hbx:bx<S.length:=by obtain⟨n,hb⟩:=g.bx;exact(Jf.mp hb).1
 obtain⟨S1,Ls,e1,hl,hL,p1⟩:=yB (row:=row) (by omega) b S
 have okL:=yH hn (by omega) hL
 have hx:=uF (S:=S1) (.inl hl) hL.len;have hmL:=hL.lasts
 have hnil:Ls.getD row.length []=[]↔wiL b row=[]:=by
  constructor
  .intro q
   match hw:wiL b row with
   |[]=>rfl
   |v::_=>have:=(hmL v).mpr (by rw[hw];exact .head _);rw[q]at this;cases this
  .intro q
   match hw:Ls.getD row.length [] with
   |[]=>rfl
   |v::_=>have:=(hmL v).mp (by rw[hw];exact .head _);rw[q]at this;cases this
 have heq:fI S1 (tupI (Ls.getD row.length [])) (.tup [])=some (.bl (decide (Ls.getD row.length []=[]))):=by
  have:=nQ (Ls.getD row.length []) [];unfold fI
  rw[show(D.tup []:D)=.tup (([]:List Int).map .int) from rfl,this];rfl
 have hdue:∃due:D,eIf (tV (eOp fI (eOp oIx (ag 4) (eUn ef (eC (.int 1)))) (bz aj))) (ag 4) (eC .non) [some (.ref bx),some (tupI row),some (.int b),some odd,some (.ref S.length),none,none,none,none,none,none] S1=.ok due S1/\((wiL b row=[]/\due=.ref S.length)\/(wiL b row≠[]/\due=.non)):=by
  have ht:tV (eOp fI (eOp oIx (ag 4) (eUn ef (eC (.int 1)))) (bz aj)) [some (.ref bx),some (tupI row),some (.int b),some odd,some (.ref S.length),none,none,none,none,none,none] S1=.ok (decide (Ls.getD row.length []=[])) S1:=aZ (aq (aq (ah rfl) rfl hx) (bH (xs:=[]) rfl z0) heq);by_cases c:wiL b row=[]
  .rw[Yc (hnil.mpr c)]at ht;exact⟨_,(yc ht).trans (ah rfl),.inl ⟨c,rfl⟩⟩
  .rw[Yb (λq=>c (hnil.mp q))]at ht;exact⟨_,(yd ht).trans rfl,.inr ⟨c,rfl⟩⟩
 obtain⟨due,e2,hd⟩:=hdue;obtain⟨S2,a6,a8,e3,p2⟩:=qX hr h7 hL okL hd hl (some (.ref bx)) (some odd) (some (.ref S.length)) none none none (List.range 2) S1 none none (Pre.refl _)
 have hl2:S2[S.length]?=some (.lst (cx Ls)):=by rw[p2.old _ (Jf.mp hl).1];exact hl
 have g2:Gr bx S2 S2:=(Pre.gr g (p1.trans p2)).self;have lenL:=hL.len
 obtain⟨ys,S3,e4,ly,ty,g3⟩:=qW (l:=S.length) (b:=bx) (by omega) (by omega) (by omega) okL ho ((List.range 4).map λ(i:Nat)=>D.int i) none S2 g2 hl2
 have l4:ys.length=4:=by rw[ly];rfl
 have hl3:S3[S.length]?=some (.lst (cx Ls)):=by rw[g3.oth _ (by omega) (Jf.mp hl2).1];exact hl2
 obtain⟨rep,hrep⟩:∃rep:List D,rep=List.replicate (row.length+1) (.tup []):=⟨_,rfl⟩
 have hmul:cD S2 (.lst [.tup []]) (.int ((row.length:Int)+1))=some (.lst rep):=by
  obtain⟨k,hk⟩:∃k:Int,k=(row.length:Int)+1:=⟨_,rfl⟩
  have k0:0<=k:=by omega
  have k1:k<=100:=by omega
  have hz:k.toNat=row.length+1:=by omega
  have b1:=uo k0 (by omega)
  rw[<- hk,uV (a:=[.tup []]) (k:=k) ⟨by omega,by omega,by rw[hz];show 1*(row.length+1)<=sizeLine;omega⟩,hz,hrep]
  simp
 have hTg:∀d∈[D.ref S.length,odd,.lst [],.lst rep]++ys,Tg S3 d:=λd hd=>by
  rcases Jt.mp hd with hd|hd
  .simp only[Jq,Yh,Q0]at hd;rcases hd with rfl|rfl|rfl|rfl
   .exact .inl ⟨_,.inr ⟨_,rfl,kn _,.inl hl3⟩,by rw[Jg];omega,pd okL⟩
   .exact Dj ho
   .exact jc (by decide) λx hx=>by cases hx
   .refine jc (by rw[hrep,Qy];omega) λx hx=>?_
    rw[hrep]at hx;rw[List.eq_of_mem_replicate hx]
    exact dC (by decide) λx hx=>by cases hx
  .exact ty d hd S3
 obtain⟨S4,a7,a9,a10,e5,k5⟩:=qV hr h7 (b:=b) (some (.ref bx)) (some odd) (some (.ref S.length)) (some due) a6 a8 _ S3 none none none hTg;obtain⟨n,hn3⟩:=g3.bx;refine⟨S4,bN (ρ:=[some (.ref bx),some (tupI row),some (.int b),some odd,none,none,none,none,none,none,none]) rfl ?_,⟨⟨n,k5.2 bx n hn3⟩,λ_ _ _=>rfl,Jd _⟩⟩;refine(au (aP ((aw (af (ah rfl) (af (ah rfl) rfl))).trans e1))).trans ?_;refine(au (aP e2)).trans ?_
 refine(au ((fD (fK (n:=2) rfl (by decide))).trans e3)).trans ?_
 have hc:eOp aI (cC (aa (ag 4) (aa (ag 3) (aa (cC aj) (aa (eOp cD (cC (aa (bz aj) aj)) (eOp aI (eB cL (aa (ag 1) aj)) (eC (.int 1)))) aj))))) (bf (bC (aa (eC (.int 4)) aj)) 1 [0,4,3] (.nm 0) bh (aA bW (aa (ag 1) (aa (ag 2) (aa (ag 3) aj))))) [some (.ref bx),some (tupI row),some (.int b),some odd,some (.ref S.length),some due,a6,none,a8,none,none] S2=.ok (.lst ([D.ref S.length,odd,.lst [],.lst rep]++ys)) S3:=by
  refine aq (cZ (xs:=[.ref S.length,odd,.lst [],.lst rep]) (af (ah rfl) (af (ah rfl) (af (cZ (xs:=[]) rfl z0) (af (aq (cZ (xs:=[.tup []]) (af (bH (xs:=[]) rfl z0) rfl) z1) (aq (bb (af (ah rfl) rfl) fX) rfl rfl) hmul) rfl)))) z4) (y:=.lst ys) ?_ (mG (by rw[l4];show 4+4<=sizeLine;decide))
  unfold bf
  rw[fK (n:=4) rfl (by decide),R.bind_ok,Je (by rw[Jg,Vo];exact z4)]
  show(cy (.nm 0) bh _ _ [none,some (.ref bx),some (.ref S.length),some odd] S2).bind _=_;rw[e4,R.bind_ok]
 exact(au ((bY hc rfl).trans e5)).trans (aS rfl)
noncomputable abbrev EZ:SM:=(sIf (PD.cS (tV (aA cY (aa (ag 4) (aa (ag 5) (aa (ag 1) (aa (ag 6) aj))))))) (aT (eC (.bl false))) aY)
theorem qY(hn:∀x∈row,okN x)(h7:row.length<=7){odd:D}(ho:odd∈iS){bx:Nat}(r0 r2 r3 r7:Option D):∀(bs:List Int)(S:Sto)(r1:Option D),Gr bx S S->∃(S':Sto)(a1:Option D),forL (.nm 1) EZ (bs.map .int) [r0,r1,r2,r3,some (.ref bx),some (tupI row),some odd,r7] S=.ok (.nx [r0,a1,r2,r3,some (.ref bx),some (tupI row),some odd,r7]) S'
 |[],S,r1,_=>⟨S,r1,rfl⟩
 |b::bs,S,r1,g=>by obtain⟨S1,e1,g1⟩:=yI hn h7 ho b g;obtain⟨S2,a1,e2⟩:=qY hn h7 ho r0 r2 r3 r7 bs S1 (some (.int b)) g1;exact⟨S2,a1,(bj (r1:=[r0,some (.int b),r2,r3,some (.ref bx),some (tupI row),some odd,r7]) rfl ((cp (bD (b:=true) (aZ ((aw (af (ah rfl) (af (ah rfl) (af (ah rfl) (af (ah rfl) rfl))))).trans e1)))).trans rfl)).trans e2⟩
noncomputable abbrev Ew:SM:=(aF (ba 4 (aA dy (aa (ag 0) (aa (ag 3) aj)))) (aF (ba 5 (aA fJ (aa (ag 4) (aa (eC (.int 7)) aj)))) (aF (ba 6 (aA eI (aa (ag 4) aj))) (aF (ba 7 (eB nF (aa (eOp aI (bz (aa (eC (.int 0)) aj)) (ag 5)) aj))) (d8 (bJ (cC (aa (eOp hU (eOp iW (ag 7) (eC (.int 2))) (eC (.int 1))) (aa (eOp iW (ag 7) (eC (.int 2))) (aa (eOp hU (ag 7) (eC (.int 1))) (aa (eUn ef (eC (.int 1))) (aa (aA aL (aa (ag 4) (aa (eC (.int 20)) aj))) aj)))))) bg) (.nm 1) (sIf (PD.cS (tV (aA cY (aa (ag 4) (aa (ag 5) (aa (ag 1) (aa (ag 6) aj))))))) (aT (eC (.bl false))) aY))))))
theorem yJ(ns:List Int)(k:Nat)(S:Sto)(r1 r2 r4 r5 r6 r7:Option D):∃(S':Sto)(a1 a4 a5 a6 a7:Option D),Ew [some (.fz (ns.map .int)),r1,r2,some (.int k),r4,r5,r6,r7] S=.ok (.nx [some (.fz (ns.map .int)),a1,r2,some (.int k),a4,a5,a6,a7]) S':=by
 have z:(1000:Nat)<=sizeLine:=by decide
 have z1:(1:Nat)<=sizeLine:=by decide
 have z5:(5:Nat)<=sizeLine:=by decide
 obtain⟨v,e0⟩:=CN ns k S
 have g0:Gr S.length (S++[.lst [.int v]]) (S++[.lst [.int v]]):=⟨⟨v,by simp⟩,λ_ _ _=>rfl,Jd _⟩
 obtain⟨row,S1,e1,l1,p1,g1⟩:=CQ g0 (most:=7) ⟨by decide,by decide⟩
 have h7:row.length<=7:=by omega
 obtain⟨odd,S2,e2,ho,g2⟩:=AF g1.self
 have hmx:nF S2 [tupI (0::row)]=some (.int (iR 0 row)):=by have h1:bO S2 (tupI (0::row))=some ((0::row).map .int):=rfl;unfold nF;simp only[h1,mD]
 have hadd:aI S2 (.tup [.int 0]) (tupI row)=some (tupI (0::row)):=gL (a:=[.int 0]) (by rw[Jg];show 1+row.length<=sizeLine;omega)
 generalize iR 0 row=H at *
 obtain⟨q,S3,e3,c0,c1,g3⟩:=fC g2.self (many:=20) (by decide) (by decide)
 have hfd:∀S:Sto,iW S (.int H) (.int 2)=some (.int (H/2)):=λS=>by
  show(if (0:Int)<2/\(2:Int)<1073741824 then some (D.int (H/2)) else none)=_
  rw[Je (by decide)]
 obtain⟨S4,a1,e4⟩:=qY p1 h7 ho (bx:=S.length) (some (.fz (ns.map .int))) r2 (some (.int k)) (some (.int H)) [H/2-1,H/2,H-1,-1,q] S3 r1 g3.self;refine⟨S4,a1,some (.ref S.length),some (tupI row),some odd,some (.int H),?_⟩;refine(au (aP ((aw (af (ah rfl) (af (ah rfl) rfl))).trans e0))).trans ?_;refine(au (aP ((aw (af (ah rfl) (af rfl rfl))).trans e1))).trans ?_;refine(au (aP ((aw (af (ah rfl) rfl)).trans e2))).trans ?_;refine(au (aP (bb (af (aq (bH (xs:=[.int 0]) rfl z1) (ah rfl) hadd) rfl) hmx))).trans ?_;exact(bY (d:=.lst ([H/2-1,H/2,H-1,-1,q].map .int)) (cZ (xs:=[.int (H/2-1),.int (H/2),.int (H-1),.int (-1),.int q]) (af (aq (aq (ah rfl) rfl (hfd _)) rfl rfl) (af (aq (ah rfl) rfl (hfd _)) (af (aq (ah rfl) rfl rfl) (af rfl (af ((aw (af (ah rfl) (af rfl rfl))).trans e3) rfl))))) z5) rfl).trans e4
theorem qZ(ns:List Int):∀(l:List Nat)(S:Sto)(r1 r2 r3 r4 r5 r6 r7:Option D),∃(S':Sto)(ρ:Rho),forL (.nm 3) Ew (l.map λ(i:Nat)=>D.int i) [some (.fz (ns.map .int)),r1,r2,r3,r4,r5,r6,r7] S=.ok (.nx ρ) S'
 |[],S,r1,r2,r3,r4,r5,r6,r7=>⟨S,_,rfl⟩
 |k::l,S,r1,r2,r3,r4,r5,r6,r7=>by obtain⟨S1,a1,a4,a5,a6,a7,e1⟩:=yJ ns k S r1 r2 r4 r5 r6 r7;obtain⟨S2,ρ,e2⟩:=qZ ns l S1 a1 r2 (some (.int k)) a4 a5 a6 a7;exact⟨S2,ρ,(bj (r1:=[some (.fz (ns.map .int)),r1,r2,some (.int k),r4,r5,r6,r7]) rfl e1).trans e2⟩
theorem AI(ns:List Int)(c:Nat)(hn:ns.length<=63)(hc:1<=c/\c<=63)(r:Rho)(hr:r[0]?=some (some (.fz (ns.map .int))))(S:Sto):∃n:Nat,bC (aa (eB xc (aa (eC (.int 1)) (aa (eB xf (aa (eB cL (aa (ag 0) aj)) (aa (eC (.int c)) aj))) aj))) aj) r S=.ok ((List.range n).map (λ(i:Nat)=>D.int i)) S/\n<=c:=by
 refine⟨max 1 (min ns.length c),fK ?_ (by omega),by omega⟩
 have e:(if (1:Int)<(if (c:Int)<(ns.length:Int) then (c:Int) else (ns.length:Int)) then (if (c:Int)<(ns.length:Int) then (c:Int) else (ns.length:Int)) else 1)=((max 1 (min ns.length c):Nat):Int):=by split<;>split<;>omega
 rw[<- e];simp[aa,aj,eB,eC,ag,R.bind,R.of,hr,cL,bO,xf,xc]
noncomputable abbrev AJ:SM:=(aT (eOp aI (cC (aa (eC (.str "refused")) aj)) (bf (bC (aa (eC (.int 9)) aj)) 1 [4] (.nm 0) (tV (aA eY (aa (ag 1) (aa (ag 0) aj)))) (ag 0))))
theorem E2(S:Sto):AJ [none,none,none,none,some (.exc "TooMany")] S=.ok (.rt (.lst [.str "refused",.int 3])) S:=by kernel_rfl
theorem E3(S:Sto):AJ [none,none,none,none,some (.exc "NoNumber")] S=.ok (.rt (.lst [.str "refused",.int 1])) S:=by kernel_rfl
theorem rs3:raisedX.contains "TooMany" = true:=by decide +kernel
theorem rs1:raisedX.contains "NoNumber" = true:=by decide +kernel
theorem uW{lg:List Int}{nd a:D}{c:Str}{e:Int}(hx:∀S,aG [tupI lg,nd] S=.err ⟨c,a⟩ S)(hc:raisedX.contains c=true)(hh:∀S,AJ [none,none,none,none,some (.exc c)] S=.ok (.rt (.lst [.str "refused",.int e])) S)(S:Sto):∀k:Nat,k<2->bc [.int k,.non,tupI lg,nd] S=.ok (.lst [.str "refused",.int e]) S:=λk hk=>by
 have ea:aN [.non,tupI lg,nd] S=.err ⟨c,a⟩ S:=gM (ρ:=[some .non,some (tupI lg),some nd]) rfl (jI (gp ((aw (af (ah rfl) (af (ah rfl) rfl))).trans (hx S))));have eb:aX [tupI lg,nd] S=.err ⟨c,a⟩ S:=gM (ρ:=[some (tupI lg),some nd,none]) rfl (jI (gp ((aw (af (ah rfl) (af (ah rfl) rfl))).trans (hx S))))
 have body:(aF (sIf (tNx (tV (eOp fI (ag 0) (eC (.int 0))))) (aT (aA aN (aa (ag 1) (aa (ag 2) (aa (ag 3) aj))))) aY) (aT (aA aX (aa (ag 2) (aa (ag 3) aj))))) [some (.int k),some .non,some (tupI lg),some nd,none] S=.err ⟨c,a⟩ S:=by
  match k,hk with
  |0,_=>exact jI ((dE (fL (b:=true) (aZ (aq (ah rfl) rfl rfl)))).trans (qH ((aw (af (ah rfl) (af (ah rfl) (af (ah rfl) rfl)))).trans ea)))
  |1,_=>exact(au ((cp (fL (b:=false) (aZ (aq (ah rfl) rfl rfl)))).trans rfl)).trans (qH ((aw (af (ah rfl) (af (ah rfl) rfl))).trans eb))
 refine bN (ρ:=[some (.int k),some .non,some (tupI lg),some nd,none]) rfl ?_;show jZ raisedX 4 5 _ _ _ _=_;unfold jZ;rw[body]
 show(if raisedX.contains c=true then _ else _)=_
 rw[Je hc];show((AJ [none,none,none,none,some (.exc c)] S).nx.bind _)=_;rw[hh S];rfl
theorem yK(ns:List Int)(hn:ns.length<=63):∃S,uj [.fz (ns.map .int)] []=.ok (.bl true) S:=by
 have z1:(1:Nat)<=sizeLine:=by decide
 have z2:(2:Nat)<=sizeLine:=by decide
 have z11:(11:Nat)<=sizeLine:=by decide
 obtain⟨lg,hlg⟩:∃lg:List Int,lg=List.replicate 11 1:=⟨_,rfl⟩
 have hm:∀S,cD S (.tup [.int 1]) (.int 11)=some (tupI lg):=λS=>by rw[Cb (a:=[.int 1]) (k:=11) ⟨by decide,by decide,z11⟩,hlg];rfl
 have hr:Row lg:=⟨λx hx=>by rw[hlg]at hx;rw[List.eq_of_mem_replicate hx];decide,by rw[hlg];decide⟩
 have hll:lg.length=11:=by rw[hlg];decide
 have nr:∀S,cQ [tupI lg] S=.ok .non S:=λS=>by have e:=qE (S:=S) hr.okay;rw[hr.is]at e;exact iz (ρ:=[some (tupI lg)]) rfl ((cp (fL (bD (aZ ((aw (af (ah rfl) rfl)).trans e))))).trans rfl)
 have x3:∀S,aG [tupI lg,.int 1] S=.err ⟨"TooMany",.tup [.str "here rows have at most ten numbers"]⟩ S:=λS=>by
  have e2:cc [.int 1] S=.ok .non S:=iz (ρ:=[some (.int 1)]) rfl ((cp (fL (bD (b:=true) (aZ ((aw (af (ah rfl) rfl)).trans (gn (d:=.int 1) (S:=S) rfl)))))).trans rfl);have e3:aU [tupI lg,.int 1] S=.ok .non S:=iz (ρ:=[some (tupI lg),some (.int 1)]) rfl ((au (bF ((aw (af (ah rfl) rfl)).trans (nr S)))).trans (bF ((aw (af (ah rfl) rfl)).trans e2)))
  have hc:tV (eOp oGt (eB cL (aa (ag 0) aj)) (eC (.int (10)))) [some (tupI lg)] S=.ok true S:=aZ (aq (bb (af (ah rfl) rfl) fX) rfl (by rw[hll];rfl))
  have e4:eJ [tupI lg] S=.err ⟨"TooMany",.tup [.str "here rows have at most ten numbers"]⟩ S:=gM (ρ:=[some (tupI lg)]) rfl ((au (bF ((aw (af (ah rfl) rfl)).trans (nr S)))).trans ((dE (fL hc)).trans (nM (xs:=[.str "here rows have at most ten numbers"]) rfl z1)))
  exact gM (ρ:=[some (tupI lg),some (.int 1)]) rfl ((au (bF ((aw (af (ah rfl) (af (ah rfl) rfl))).trans e3))).trans (gp ((aw (af (ah rfl) rfl)).trans e4)))
 have x1:∀S,aG [tupI lg,.non] S=.err ⟨"NoNumber",.tup [.str "this is no whole number"]⟩ S:=λS=>by
  have e2:cc [.non] S=.err ⟨"NoNumber",.tup [.str "this is no whole number"]⟩ S:=gM (ρ:=[some .non]) rfl ((dE (fL (bD (b:=false) (aZ ((aw (af (ah rfl) rfl)).trans (gn (d:=.non) (S:=S) rfl)))))).trans (nM (xs:=[.str "this is no whole number"]) rfl z1))
  have e3:aU [tupI lg,.non] S=.err ⟨"NoNumber",.tup [.str "this is no whole number"]⟩ S:=gM (ρ:=[some (tupI lg),some .non]) rfl ((au (bF ((aw (af (ah rfl) rfl)).trans (nr S)))).trans (gp ((aw (af (ah rfl) rfl)).trans e2)))
  exact gM (ρ:=[some (tupI lg),some .non]) rfl (jI (gp ((aw (af (ah rfl) (af (ah rfl) rfl))).trans e3)))
 have one:∀(nd:D)(e:Int)(r3 r4 r5 r6 r7:Option D),(∀k:Nat,k<2->bc [.int k,.non,tupI lg,nd] []=.ok (.lst [.str "refused",.int e]) [])->eh [] (.lst [.lst [.str "refused",.int e],.lst [.str "refused",.int e]]) (.lst [.lst [.str "refused",.int e],.lst [.str "refused",.int e]])=some (.bl false)->sIf (tV (eOp eh (bf (bC (aa (eC (.int 2)) aj)) 1 [1] (.nm 0) bh (aA bc (aa (ag 0) (aa (eC .non) (aa (eOp cD (bz (aa (eC (.int 1)) aj)) (eC (.int 11))) (aa (ag 1) aj)))))) (eOp cD (cC (aa (cC (aa (eC (.str "refused")) (aa (ag 2) aj))) aj)) (eC (.int 2))))) (aT (eC (.bl false))) aY [some (.fz (ns.map .int)),some nd,some (.int e),r3,r4,r5,r6,r7] []=.ok (.nx [some (.fz (ns.map .int)),some nd,some (.int e),r3,r4,r5,r6,r7]) []:=λnd e r3 r4 r5 r6 r7 hs hq=>by
  have hc:=eK (enc:=λ(i:Nat)=>D.int i) (out:=λ_:Nat=>D.lst [.str "refused",.int e]) (e:=aA bc (aa (ag 0) (aa (eC .non) (aa (eOp cD (bz (aa (eC (.int 1)) aj)) (eC (.int 11))) (aa (ag 1) aj))))) (it:=bC (aa (eC (.int 2)) aj)) (caps:=[1]) (tl:=[some nd]) (r:=[some (.fz (ns.map .int)),some nd,some (.int e),r3,r4,r5,r6,r7]) (S:=[]) (List.range 2) (fK (n:=2) rfl (by decide)) (by rw[Vo];exact z2) rfl λk hk=>(aw (af (ah rfl) (af rfl (af (aq (bH (xs:=[.int 1]) rfl z1) rfl (hm _)) (af (ah rfl) rfl))))).trans (hs k (Qo.mp hk))
  have hl2:cD [] (.lst [.lst [.str "refused",.int e]]) (.int 2)=some (.lst [.lst [.str "refused",.int e],.lst [.str "refused",.int e]]):=by rw[uV (a:=[.lst [.str "refused",.int e]]) (k:=2) ⟨by decide,by decide,z2⟩];rfl
  exact(cp (aZ (aq hc (aq (cZ (xs:=[.lst [.str "refused",.int e]]) (af (cZ (xs:=[.str "refused",.int e]) (af rfl (af (ah rfl) rfl)) z2) rfl) z1) rfl hl2) hq))).trans rfl
 obtain⟨n,hg,hn3⟩:=AI ns 3 hn (by decide) [some (.fz (ns.map .int)),some .non,some (.int 1),none,none,none,none,none] rfl []
 obtain⟨S,ρ,e⟩:=qZ ns (List.range n) [] (some .non) (some (.int 1)) none none none none none;have o1:=one (.int 1) 3 none none none none none (uW x3 rs3 E2 []) J0;have o2:=one .non 1 none none none none none (uW x1 rs1 E3 []) J0;refine⟨S,bN (ρ:=[some (.fz (ns.map .int)),none,none,none,none,none,none,none]) rfl ?_⟩;refine(au ((bY (d:=.lst [.tup [.int 1,.int 3],.tup [.non,.int 1]]) (cZ (xs:=[.tup [.int 1,.int 3],.tup [.non,.int 1]]) (af (bH (xs:=[.int 1,.int 3]) rfl z2) (af (bH (xs:=[.non,.int 1]) rfl z2) rfl)) z2) rfl).trans ((bj (r1:=[some (.fz (ns.map .int)),some (.int 1),some (.int 3),none,none,none,none,none]) rfl o1).trans ((bj (r1:=[some (.fz (ns.map .int)),some .non,some (.int 1),none,none,none,none,none]) rfl o2).trans rfl)))).trans ?_;exact(au ((fD hg).trans e)).trans (aS rfl)
set_option maxHeartbeats 4000000
theorem mJ:bootBuiltins "ValueError" = some (.type "ValueError"):=by decide +kernel
theorem jP:bootBuiltins "abs" = some (.builtin "abs"):=by decide +kernel
theorem iN:bootBuiltins "all" = some (.builtin "all"):=by decide +kernel
theorem mK:bootBuiltins "bool" = some (.type "bool"):=by decide +kernel
theorem rf:bootBuiltins "dict" = some (.type "dict"):=by decide +kernel
theorem sY:bootBuiltins "divmod" = some (.builtin "divmod"):=by decide +kernel
theorem uX:bootBuiltins "int" = some (.type "int"):=by decide +kernel
theorem aB:bootBuiltins "isinstance" = some (.builtin "isinstance"):=by decide +kernel
theorem de:bootBuiltins "len" = some (.builtin "len"):=by decide +kernel
theorem jQ:bootBuiltins "list" = some (.type "list"):=by decide +kernel
theorem uY:bootBuiltins "max" = some (.builtin "max"):=by decide +kernel
theorem AK:bootBuiltins "min" = some (.builtin "min"):=by decide +kernel
theorem jR:bootBuiltins "repr" = some (.builtin "repr"):=by decide +kernel
theorem iO:bootBuiltins "set" = some (.type "set"):=by decide +kernel
theorem dD:bootBuiltins "sorted" = some (.builtin "sorted"):=by decide +kernel
theorem dG:bootBuiltins "tuple" = some (.type "tuple"):=by decide +kernel
structure Txt(K:Frag)(mg:Str->Option Value):Prop where
 cl:Cls K raisedX askedX isaX
 x_NoNumber:XC K mg "NoNumber"
 x_NoRow:XC K mg "NoRow"
 x_TooMany:XC K mg "TooMany"
 v_Bare:ClsAt K mg "Bare"
 v_Lacking:ClsAt K mg "Lacking"
 v_NoLine:ClsAt K mg "NoLine"
 v_NoNumber:ClsAt K mg "NoNumber"
 v_NoRow:ClsAt K mg "NoRow"
 v_NoSigns:ClsAt K mg "NoSigns"
 v_NoTable:ClsAt K mg "NoTable"
 v_NoText:ClsAt K mg "NoText"
 v_PlusError:ClsAt K mg "PlusError"
 v_TooMany:ClsAt K mg "TooMany"
 tr:TryAt K mg "PlusError" raisedX
 b_ValueError:mg "ValueError" = none
 b_abs:mg "abs" = none
 b_all:mg "all" = none
 b_bool:mg "bool" = none
 b_dict:mg "dict" = none
 b_divmod:mg "divmod" = none
 b_enumerate:mg "enumerate" = none
 b_int:mg "int" = none
 b_isinstance:mg "isinstance" = none
 b_len:mg "len" = none
 b_list:mg "list" = none
 b_max:mg "max" = none
 b_min:mg "min" = none
 b_range:mg "range" = none
 b_repr:mg "repr" = none
 b_set:mg "set" = none
 b_sorted:mg "sorted" = none
 b_tuple:mg "tuple" = none
 c_LONGEST_ROW:∃t,mg "LONGEST_ROW" = some (.int 16 t)
 c_LONGEST_TABLED:∃t,mg "LONGEST_TABLED" = some (.int 10 t)
 m_SIGNS:TupAt K mg "SIGNS" [(-1),(1)]
 sm:∃o,K.lookup sysModules=some o
section
variable{P:Program}{w:World}{K:Frag}{mg:Str->Option Value}{base:Heap}
theorem cz:FnScope ["script","k","here","number","j","part"] ["script","k"] (defScope fO):=fsk
theorem rh(F:Fun K "_law_box" "_law_box" fO f fd)(hm:mg "_law_box" = some (.ref f))(hb:Binds K fd ["script","k"] [])(T:Txt K mg):DefN P w K mg base "_law_box" 1 2 dy:=
 bU ["script","k","here","number","j","part"] ["script","k"] 0 1 2 6 rfl rfl rfl F hm hb cz (m:=gJ) λcdv A outer s H E hr=>(ar (aQ cz.nd J0 J2 (aE aM (aE eD ao (vL 1)) ao)) (ar (cN (bp wY (vL 1) (av eF J1 T.b_len de (ae (vL 0) ai))) (ay (aQ cz.nd J0 J2 (cI cH (vL 0) (vL 1)))) bQ) (ar (cN (bp (lO hr) (aE lE (vL 2) ao) ao) (ay (aO (lx (ae (aE oy (vL 2) ao) ai)))) bQ) (ar (aQ cz.nd J0 J2 ao) (ar (cO Yq rfl (cT J1 T.b_range (ae ao ai)) (aJ cz.nd J0 J2) (ar (aQ cz.nd J0 J2 (aE lE (aE aM (aE aM (aE eD (aE lE (vL 2) ao) ao) (aE eD ao (vL 4))) ao) ao)) (ar (aQ cz.nd J0 J2 (aE lE (aE eD (vL 5) (vL 5)) ao)) (ay (aQ cz.nd J0 J2 (aE aM (aE eD (vL 3) ao) (aE lE (aE eD (vL 5) (aE aM (vL 5) ao)) ao))))))) (ay (aO (lx (ae (vL 3) ai)))))))))
theorem gO:FnScope ["box","many","left","digit"] ["box","many"] (defScope ft):=fsk
theorem pe(F:Fun K "_law_take" "_law_take" ft f fd)(hm:mg "_law_take" = some (.ref f))(hb:Binds K fd ["box","many"] [])(T:Txt K mg):DefN P w K mg base "_law_take" 1 2 aL:=
 bU ["box","many","left","digit"] ["box","many"] 0 1 2 4 rfl rfl rfl F hm hb gO (m:=ir) λcdv A outer s H E hr=>(ar (BY (av vp J1 T.b_divmod sY (ae (cI cH (vL 0) ao) (ae (vL 1) ai))) (lA rfl (dh (aJ gO.nd J0 J2) (dh (aJ gO.nd J0 J2) jf)))) (ar (wU xi (vL 2) (vL 0) ao) (ay (aO (vL 3)))))
theorem kE:FnScope ["box","some"] ["box"] (defScope fP):=fsk
theorem rj(F:Fun K "_law_odd" "_law_odd" fP f fd)(hm:mg "_law_odd" = some (.ref f))(hb:Binds K fd ["box"] [])(T:Txt K mg)(d__law_take:DefN P w K mg base "_law_take" 1 2 aL):DefN P w K mg base "_law_odd" 2 1 eI:=
 bU ["box","some"] ["box"] 1 2 1 2 rfl rfl rfl F hm hb kE (m:=i8) λcdv A outer s H E hr=>(ar (aQ kE.nd J0 J2 (ck (ae g6 (ae cM (ae cM (ae (gW fc ao) (ae ao (ae g7 (ae g7 (ae (bu (ae ao ai)) (ae (ck (ae ao ai)) (ae (B7 (p8 g7 ao tR)) (ae (bu (ae (gW fc ao) ai)) (ae (bu (ae cM ai)) (ae (bu (ae (bu (ae ao ai)) ai)) (ae (bu (ae g6 ai)) (ae (aE wX ao ao) (ae (ck ai) ai)))))))))))))))))) (ay (aO (cI cH (vL 1) (bq d__law_take (hr.mono (by decide)) J1 (ae (vL 0) (ae ao ai)) (ak (ak aD)))))))
theorem bZ:FnScope ["box","layers","odd","at","some","to","one","news","kind"] ["box","layers","odd"] (defScope fu):=fsk
theorem pf(F:Fun K "_law_bent" "_law_bent" fu f fd)(hm:mg "_law_bent" = some (.ref f))(hb:Binds K fd ["box","layers","odd"] [])(T:Txt K mg)(d__law_take:DefN P w K mg base "_law_take" 1 2 aL):DefN P w K mg base "_law_bent" 2 3 bW:=
 bU ["box","layers","odd","at","some","to","one","news","kind"] ["box","layers","odd"] 1 2 3 9 rfl rfl rfl F hm hb bZ (m:=iu) λcdv A outer s H E hr=>(ar (aQ bZ.nd J0 J2 (bq d__law_take (hr.mono (by decide)) J1 (ae (vL 0) (ae (av eF J1 T.b_len de (ae (vL 1) ai)) ai)) (ak (ak aD)))) (ar (aQ bZ.nd J0 J2 (cI cH (vL 1) (vL 3))) (ar (aQ bZ.nd J0 J2 (bq d__law_take (hr.mono (by decide)) J1 (ae (vL 0) (ae (aE aM (av eF J1 T.b_len de (ae (vL 4) ai)) ao) ai)) (ak (ak aD)))) (ar (aQ bZ.nd J0 J2 (cI cH (aE aM (ie gB (vL 4) (dO (vL 5)) dN) (bu (ae ao ai))) ao)) (ar (aQ bZ.nd J0 J2 (ck (ae (aE aM (ie gB (vL 4) dN (dO (vL 5))) (ie gB (vL 4) (dO (aE aM (vL 5) ao)) dN)) (ae (aE aM (aE aM (ie gB (vL 4) dN (dO (vL 5))) (bu (ae (aE aM (vL 6) ao) ai))) (ie gB (vL 4) (dO (aE aM (vL 5) ao)) dN)) (ae (eA ip J1 T.b_tuple dG (ae (oY (oX rfl J1 T.b_sorted dD J1 T.b_set iO (ae (aE aM (vL 4) (bu (ae (aE aM (vL 6) ao) ai))) ai)) (oV rfl J1 T.b_sorted dD J1 T.b_set iO (ae (aE aM (vL 4) (bu (ae (aE aM (vL 6) ao) ai))) ai))) ai)) ai))))) (ar (aQ bZ.nd J0 J2 (aE aM (vL 7) (ck (ae (eA tO J1 T.b_list jQ (ae (vL 4) ai)) (ae (aE aM (vL 4) (ie gB (vL 4) (dO (gW fc ao)) dN)) (ae (CH (vL 4) (gW fc ao)) (ae (aE aM (aE aM (ie gB (vL 4) dN (dO (vL 5))) (bu (ae (lu (lO hr) (vL 6) ao) ai))) (ie gB (vL 4) (dO (aE aM (vL 5) ao)) dN)) (ae (vL 2) (ae (bu ai) (ae (bu (ae ao ai)) ai)))))))))) (ar (aQ bZ.nd J0 J2 (bq d__law_take (hr.mono (by decide)) J1 (ae (vL 0) (ae ao ai)) (ak (ak aD)))) (ar (cN (bp wY (vL 8) ao) (ay (aO (aE aM (aE aM (ie sQ (vL 1) dN (dO (vL 3))) (ck (ae (cI cH (vL 7) (vL 8)) ai))) (ie sQ (vL 1) (dO (aE aM (vL 3) ao)) dN)))) bQ) (ay (aO (cI cH (ck (ae (eA ip J1 T.b_tuple dG (ae (vL 1) ai)) (ae (ie sQ (vL 1) dN (dO (gW fc ao))) (ae (aE Aa (vL 1) (ck (ae (bu ai) ai))) ai)))) (aE j3 (vL 8) ao))))))))))))
theorem mX:FnScope ["thing"] ["thing"] (defScope eQ):=fsk
theorem mY(F:Fun K "_law_whole" "_law_whole" eQ f fd)(hm:mg "_law_whole" = some (.ref f))(hb:Binds K fd ["thing"] [])(T:Txt K mg):DefN P w K mg base "_law_whole" 1 1 bX:=
 bU ["thing"] ["thing"] 0 1 1 1 rfl rfl rfl F hm hb mX (m:=jD) λcdv A outer s H E hr=>(ay (aO (rS (av fY J1 T.b_isinstance aB (ae (vL 0) (ae (g8 J1 T.b_int uX) ai))) (rR (wQ (av fY J1 T.b_isinstance aB (ae (vL 0) (ae (g8 J1 T.b_bool mK) ai))))))))
theorem cu:FnScope ["thing","row","number","some","at","here","there"] ["thing","row","number"] (defScope cW):=fsk
theorem ko(F:Fun K "_law_is_paper" "_law_is_paper" cW f fd)(hm:mg "_law_is_paper" = some (.ref f))(hb:Binds K fd ["thing","row","number"] [])(T:Txt K mg)(d__law_whole:DefN P w K mg base "_law_whole" 1 1 bX):DefN P w K mg base "_law_is_paper" 2 3 br:=
 bU ["thing","row","number","some","at","here","there"] ["thing","row","number"] 1 2 3 7 rfl rfl rfl F hm hb cu (m:=gZ) λcdv A outer s H E hr=>(ar (cN (gc (g9 (dI (dq (av t7 J1 T.b_isinstance aB (ae (vL 0) (ae (g8 J1 T.b_list jQ) ai))))) (gA (bp (gG hr) (av eF J1 T.b_len de (ae (vL 0) ai)) (aE aM (av eF J1 T.b_len de (ae (vL 1) ai)) ao))))) (ay (aO cM)) bQ) (ar (cO Yq rfl (A6 (vL 0)) (aJ cu.nd J0 J2) (ay (cN (gc (g9 (dI (dq (av fY J1 T.b_isinstance aB (ae (vL 3) (ae (g8 J1 T.b_tuple dG) ai))))) (g9 (dI (dq (av (j8 rfl) J1 T.b_all iN (ae (cJ (N:=["one"]) (k:=1) (caps:=[]) rfl (λ_ _ z=>z) (eW J0 J0 J0 J0 rfl J0) (cA (vL 3)) (λ_ _ _ _=>(aJ (show(["one"]:List Str).Nodup by decide +kernel) J0 J2)) (λ_ _ _ _=>cU) (λ_ _ _ _=>(bq d__law_whole (hr.mono (by decide)) J1 (ae (vL 0) ai) (ak aD)))) ai)))) (gA (bp (gG hr) (eA tO J1 T.b_list jQ (ae (vL 3) ai)) (oY (oX rfl J1 T.b_sorted dD J1 T.b_set iO (ae (vL 3) ai)) (oV rfl J1 T.b_sorted dD J1 T.b_set iO (ae (vL 3) ai)))))))) (ay (aO cM)) bQ))) (ar (cN (gc (g9 (gc (oq (bp tL (vL 2) ao) (kL (bp ji ao (cI cH (vL 0) ao))))) (gA (bp (gG hr) (cI cH (vL 0) (gW fc ao)) (bu ai))))) (ay (aO cM)) bQ) (ar (cO Yq rfl (cT J1 T.b_range (ae (av eF J1 T.b_len de (ae (vL 1) ai)) ai)) (aJ cu.nd J0 J2) (ay (cO Yq rfl (cA (cI cH (vL 0) (vL 4))) (aJ cu.nd J0 J2) (ay (cO Yq rfl (cA (bu (ae (aE aM (vL 5) (cI cH (vL 1) (vL 4))) (ae (aE j3 (vL 5) (cI cH (vL 1) (vL 4))) ai)))) (aJ cu.nd J0 J2) (ay (cN (gc (oq (bp pW (av lG J1 T.b_abs jP (ae (vL 6) ai)) (vL 2)) (kL (bp ji (vL 6) (cI cH (vL 0) (aE aM (vL 4) ao)))))) (ay (aO cM)) bQ))))))) (ay (aO cM))))))
theorem eU:FnScope ["row","number","found","one","later"] ["row","number"] (defScope eR):=fsk
theorem mZ(F:Fun K "_law_least" "_law_least" eR f fd)(hm:mg "_law_least" = some (.ref f))(hb:Binds K fd ["row","number"] [])(T:Txt K mg):DefN P w K mg base "_law_least" 1 2 dW:=
 bU ["row","number","found","one","later"] ["row","number"] 0 1 2 5 rfl rfl rfl F hm hb eU (m:=jE) λcdv A outer s H E hr=>(ar (aQ eU.nd J0 J2 (lx (ae (wR (bp tL (vC 1) ao) (bu (ae ao ai)) (bu ai)) ai))) (ar (cO Yq rfl (cA (vL 0)) (aJ eU.nd J0 (Or.inr J0)) (ar (aQ eU.nd J0 J2 (aE aM (cJ (N:=["here","one"]) (k:=1) (caps:=[3]) rfl (λ_ _ z=>z) (eW J0 J0 J0 J0 rfl J0) (cA (cI cH (vL 2) (gW fc ao))) (λ_ _ _ _=>(aJ (show(["here","one"]:List Str).Nodup by decide +kernel) J0 J2)) (λ_ _ _ _=>cU) (λ_ _ _ _=>(aE aM (vL 0) (vC 1)))) (cJ (N:=["here","one"]) (k:=1) (caps:=[3]) rfl (λ_ _ z=>z) (eW J0 J0 J0 J0 rfl J0) (cA (cI cH (vL 2) (gW fc ao))) (λ_ _ _ _=>(aJ (show(["here","one"]:List Str).Nodup by decide +kernel) J0 J2)) (λ_ _ _ _=>cU) (λ_ _ _ _=>(aE j3 (vL 0) (vC 1)))))) (ay (dJ (oE Wm Wg Wh iG (vL 2) (ae (eA ip J1 T.b_tuple dG (ae (oY (oX rfl J1 T.b_sorted dD J1 T.b_set iO (ae (cJ (N:=["there","number"]) (k:=1) (caps:=[1]) rfl (λ_ _ z=>z) (eW J0 J0 J0 J0 rfl J0) (cA (vL 4)) (λ_ _ _ _=>(aJ (show(["there","number"]:List Str).Nodup by decide +kernel) J0 J2)) (λ_ _ _ _=>(kN (bp pW (av lG J1 T.b_abs jP (ae (vL 0) ai)) (vC 1)))) (λ_ _ _ _=>(vL 0))) ai)) (oV rfl J1 T.b_sorted dD J1 T.b_set iO (ae (cJ (N:=["there","number"]) (k:=1) (caps:=[1]) rfl (λ_ _ z=>z) (eW J0 J0 J0 J0 rfl J0) (cA (vL 4)) (λ_ _ _ _=>(aJ (show(["there","number"]:List Str).Nodup by decide +kernel) J0 J2)) (λ_ _ _ _=>(kN (bp pW (av lG J1 T.b_abs jP (ae (vL 0) ai)) (vC 1)))) (λ_ _ _ _=>(vL 0))) ai))) ai)) ai)))))) (ay (aO (vL 2)))))
theorem fj:FnScope ["e","found"] ["e"] (defScope dk):=fsk
theorem kJ(F:Fun K "_law_classes" "_law_classes" dk f fd)(hm:mg "_law_classes" = some (.ref f))(hb:Binds K fd ["e"] [])(T:Txt K mg):DefM P w K mg base "_law_classes" 1 1 dX:=
 tT ["e","found"] ["e"] 0 1 1 2 rfl rfl rfl F hm hb fj (m:=iw) λcdv A outer s H hr hq=>(ar (aQ fj.nd J0 J2 (ck (ae (av (fH T.cl) J1 T.b_isinstance aB (ae (vL 0) (ae (fZ T.v_NoRow J1) ai))) (ae (av (fH T.cl) J1 T.b_isinstance aB (ae (vL 0) (ae (fZ T.v_NoNumber J1) ai))) (ae (av (fH T.cl) J1 T.b_isinstance aB (ae (vL 0) (ae (fZ T.v_NoSigns J1) ai))) (ae (av (fH T.cl) J1 T.b_isinstance aB (ae (vL 0) (ae (fZ T.v_TooMany J1) ai))) ai)))))) (ar (aQ fj.nd J0 J2 (aE aM (vL 1) (ck (ae (av (fH T.cl) J1 T.b_isinstance aB (ae (vL 0) (ae (fZ T.v_Lacking J1) ai))) (ae (av (fH T.cl) J1 T.b_isinstance aB (ae (vL 0) (ae (fZ T.v_Bare J1) ai))) (ae (av (fH T.cl) J1 T.b_isinstance aB (ae (vL 0) (ae (fZ T.v_NoTable J1) ai))) (ae (av (fH T.cl) J1 T.b_isinstance aB (ae (vL 0) (ae (fZ T.v_NoLine J1) ai))) ai))))))) (ay (aO (aE aM (vL 1) (ck (ae (av (fH T.cl) J1 T.b_isinstance aB (ae (vL 0) (ae (fZ T.v_NoText J1) ai))) ai)))))))
theorem ph:FnScope ["e","place"] ["e","place"] (defScope fw):=fsk
theorem pj(F:Fun K "_law_only" "_law_only" fw f fd)(hm:mg "_law_only" = some (.ref f))(hb:Binds K fd ["e","place"] [])(T:Txt K mg)(d__law_classes:DefM P w K mg base "_law_classes" 1 1 dX):DefM P w K mg base "_law_only" 2 2 eY:=
 tT ["e","place"] ["e","place"] 1 2 2 2 rfl rfl rfl F hm hb ph (m:=kz) λcdv A outer s H hr hq=>(ar (cN (gc (g9 (dI (dq (av (fH T.cl) J1 T.b_isinstance aB (ae (vL 0) (ae (fZ T.v_PlusError J1) ai))))) (gA (dI (dq (av (fH T.cl) J1 T.b_isinstance aB (ae (vL 0) (ae (g8 J1 T.b_ValueError mJ) ai)))))))) (ay (aO cM)) bQ) (ay (aO (lu (zZ hr) (xo d__law_classes (hr.mono (by decide)) hq J1 (ae (vL 0) ai) (ak aD)) (lJ (qb:=true) (N:=["k","place"]) (k:=1) (caps:=[1]) (.inr ⟨rfl,hq⟩) (λ_ _ z=>z) (eW J0 J0 J0 J0 rfl J0) (cT J1 T.b_range (ae ao ai)) (λ_ _ _ _ cq=>(aJ (show(["k","place"]:List Str).Nodup by decide +kernel) J0 J2)) (λ_ _ _ _ cq=>cU) (λ_ _ _ _ cq=>(lu w8 (vL 0) (vC 1))))))))
theorem rm:FnScope ["thing"] ["thing"] (defScope fQ):=fsk
theorem rn(F:Fun K "is_whole" "is_whole" fQ f fd)(hm:mg "is_whole" = some (.ref f))(hb:Binds K fd ["thing"] [])(T:Txt K mg):DefN P w K mg base "is_whole" 1 1 bR:=
 bU ["thing"] ["thing"] 0 1 1 1 rfl rfl rfl F hm hb rm (m:=i9) λcdv A outer s H E hr=>(ay (aO (rS (av fY J1 T.b_isinstance aB (ae (vL 0) (ae (g8 J1 T.b_int uX) ai))) (rR (wQ (av fY J1 T.b_isinstance aB (ae (vL 0) (ae (g8 J1 T.b_bool mK) ai))))))))
theorem pk:FnScope ["thing"] ["thing"] (defScope fA):=fsk
theorem pq(F:Fun K "is_rising" "is_rising" fA f fd)(hm:mg "is_rising" = some (.ref f))(hb:Binds K fd ["thing"] [])(T:Txt K mg)(d_is_whole:DefN P w K mg base "is_whole" 1 1 bR):DefN P w K mg base "is_rising" 2 1 cP:=
 bU ["thing"] ["thing"] 1 2 1 1 rfl rfl rfl F hm hb pk (m:=kA) λcdv A outer s H E hr=>(ar (cN (gc (g9 (dI (dq (av fY J1 T.b_isinstance aB (ae (vC 0) (ae (g8 J1 T.b_tuple dG) ai))))) (gA (dI (dq (av (j8 rfl) J1 T.b_all iN (ae (cJ (N:=["number"]) (k:=1) (caps:=[]) rfl (λ_ _ z=>z) (eW J0 J0 J0 J0 rfl J0) (cA (vC 0)) (λ_ _ _ _=>(aJ (show(["number"]:List Str).Nodup by decide +kernel) J0 J2)) (λ_ _ _ _=>cU) (λ_ _ _ _=>(bq d_is_whole (hr.mono (by decide)) J1 (ae (vL 0) ai) (ak aD)))) ai))))))) (ay (aO cM)) bQ) (ay (aO (av (j8 rfl) J1 T.b_all iN (ae (cJ (N:=["place","thing"]) (k:=1) (caps:=[0]) rfl (λ_ _ z=>z) (eW J0 J0 J0 J0 rfl J0) (vM J1 T.b_range (ae ao (ae (av eF J1 T.b_len de (ae (vC 0) ai)) ai))) (λ_ _ _ _=>(aJ (show(["place","thing"]:List Str).Nodup by decide +kernel) J0 J2)) (λ_ _ _ _=>cU) (λ_ _ _ _=>(lu wY (cI cH (vC 1) (aE j3 (vL 0) ao)) (cI cH (vC 1) (vL 0))))) ai)))))
theorem bS:FnScope ["layer","following","step","bound","present","reached","sign","there"] ["layer","following","step","bound"] (defScope cB):=fsk
theorem jd(F:Fun K "leads_on_within" "leads_on_within" cB f fd)(hm:mg "leads_on_within" = some (.ref f))(hb:Binds K fd ["layer","following","step","bound"] [])(T:Txt K mg):DefN P w K mg base "leads_on_within" 1 4 bG:=
 bU ["layer","following","step","bound","present","reached","sign","there"] ["layer","following","step","bound"] 0 1 4 8 rfl rfl rfl F hm hb bS (m:=fR) λcdv A outer s H E hr=>(ar (aQ bS.nd J0 J2 (lQ (xH rfl) J1 T.b_dict rf (ae (cJ (N:=["reached"]) (k:=1) (caps:=[]) rfl (λ_ _ z=>z) (eW J0 J0 J0 J0 rfl J0) (cA (vL 1)) (λ_ _ _ _=>(aJ (show(["reached"]:List Str).Nodup by decide +kernel) J0 J2)) (λ_ _ _ _=>cU) (λ_ _ _ _=>(bu (ae (vL 0) (ae cM ai))))) ai))) (ar (cO Yq rfl (cA (vL 0)) (aJ bS.nd J0 J2) (ay (cO Yq rfl (cA (A1 T.m_SIGNS J1)) (aJ bS.nd J0 J2) (ar (aQ bS.nd J0 J2 (aE aM (vL 5) (aE eD (vL 6) (vL 2)))) (ay (cN (gc (oq (bp pW (av lG J1 T.b_abs jP (ae (vL 7) ai)) (vL 3)) (kL (bp (vI hr) (vL 7) (vL 4))))) (ay (aO cM)) bQ)))))) (ay (aO cM))))
theorem wa:FnScope ["thing"] ["thing"] (defScope iJ):=fsk
theorem wb(F:Fun K "is_row" "is_row" iJ f fd)(hm:mg "is_row" = some (.ref f))(hb:Binds K fd ["thing"] [])(T:Txt K mg)(d_is_whole:DefN P w K mg base "is_whole" 1 1 bR):DefN P w K mg base "is_row" 2 1 eZ:=
 bU ["thing"] ["thing"] 1 2 1 1 rfl rfl rfl F hm hb wa (m:=iy) λcdv A outer s H E hr=>(ar (cN (gc (g9 (dI (dq (av fY J1 T.b_isinstance aB (ae (vL 0) (ae (g8 J1 T.b_tuple dG) ai))))) (gA (bp AX (av eF J1 T.b_len de (ae (vL 0) ai)) (AZ T.c_LONGEST_ROW J1))))) (ay (aO cM)) bQ) (ay (aO (av (j8 rfl) J1 T.b_all iN (ae (cJ (N:=["number"]) (k:=1) (caps:=[]) rfl (λ_ _ z=>z) (eW J0 J0 J0 J0 rfl J0) (cA (vL 0)) (λ_ _ _ _=>(aJ (show(["number"]:List Str).Nodup by decide +kernel) J0 J2)) (λ_ _ _ _=>cU) (λ_ _ _ _=>(rS (bq d_is_whole (hr.mono (by decide)) J1 (ae (vL 0) ai) (ak aD)) (rR (lu tL (vL 0) ao))))) ai)))))
theorem rp:FnScope ["thing"] ["thing"] (defScope fT):=fsk
theorem rq(F:Fun K "need_row" "need_row" fT f fd)(hm:mg "need_row" = some (.ref f))(hb:Binds K fd ["thing"] [])(T:Txt K mg)(d_is_row:DefN P w K mg base "is_row" 2 1 eZ):DefR P w K mg base "need_row" 3 1 cQ:=
 gF ["thing"] ["thing"] 2 3 1 1 rfl rfl rfl F hm hb rp (m:=mz) λcdv A outer s H E hr=>(ay (cN (tS (dI (dq (bq d_is_row (hr.mono (by decide)) J1 (ae (vL 0) ai) (ak aD))))) (ay (lM T.x_NoRow kc hr.hd J1 (ae g7 ai))) bQ))
theorem rA:FnScope ["row"] ["row"] (defScope fU):=fsk
theorem rB(F:Fun K "need_few" "need_few" fU f fd)(hm:mg "need_few" = some (.ref f))(hb:Binds K fd ["row"] [])(T:Txt K mg)(d_need_row:DefR P w K mg base "need_row" 3 1 cQ):DefR P w K mg base "need_few" 4 1 eJ:=
 gF ["row"] ["row"] 3 4 1 1 rfl rfl rfl F hm hb rA (m:=mB) λcdv A outer s H E hr=>(ar (dJ (gE d_need_row eG (hr.mono (by decide)) J1 (ae (vL 0) ai) (ak aD))) (ay (cN (tS (bp AX (av eF J1 T.b_len de (ae (vL 0) ai)) (AZ T.c_LONGEST_TABLED J1))) (ay (lM T.x_TooMany kc hr.hd J1 (ae g7 ai))) bQ)))
theorem mL:FnScope ["thing"] ["thing"] (defScope dY):=fsk
theorem mM(F:Fun K "need_number" "need_number" dY f fd)(hm:mg "need_number" = some (.ref f))(hb:Binds K fd ["thing"] [])(T:Txt K mg)(d_is_whole:DefN P w K mg base "is_whole" 1 1 bR):DefR P w K mg base "need_number" 2 1 cc:=
 gF ["thing"] ["thing"] 1 2 1 1 rfl rfl rfl F hm hb mL (m:=iZ) λcdv A outer s H E hr=>(ay (cN (tS (dI (dq (bq d_is_whole (hr.mono (by decide)) J1 (ae (vL 0) ai) (ak aD))))) (ay (lM T.x_NoNumber kc hr.hd J1 (ae g7 ai))) bQ))
theorem gP:FnScope ["row","number"] ["row","number"] (defScope bL):=fsk
theorem gQ(F:Fun K "need_row_and_number" "need_row_and_number" bL f fd)(hm:mg "need_row_and_number" = some (.ref f))(hb:Binds K fd ["row","number"] [])(T:Txt K mg)(d_need_number:DefR P w K mg base "need_number" 2 1 cc)(d_need_row:DefR P w K mg base "need_row" 3 1 cQ):DefR P w K mg base "need_row_and_number" 4 2 aU:=
 gF ["row","number"] ["row","number"] 3 4 2 2 rfl rfl rfl F hm hb gP (m:=et) λcdv A outer s H E hr=>(ar (dJ (gE d_need_row eG (hr.mono (by decide)) J1 (ae (vL 0) ai) (ak aD))) (ay (dJ (gE d_need_number eG (hr.mono (by decide)) J1 (ae (vL 1) ai) (ak aD)))))
theorem gR:FnScope ["row","number"] ["row","number"] (defScope bM):=fsk
theorem gS(F:Fun K "need_few_and_number" "need_few_and_number" bM f fd)(hm:mg "need_few_and_number" = some (.ref f))(hb:Binds K fd ["row","number"] [])(T:Txt K mg)(d_need_few:DefR P w K mg base "need_few" 4 1 eJ)(d_need_row_and_number:DefR P w K mg base "need_row_and_number" 4 2 aU):DefR P w K mg base "need_few_and_number" 5 2 aG:=
 gF ["row","number"] ["row","number"] 4 5 2 2 rfl rfl rfl F hm hb gR (m:=eu) λcdv A outer s H E hr=>(ar (dJ (gE d_need_row_and_number eG (hr.mono (by decide)) J1 (ae (vL 0) (ae (vL 1) ai)) (ak (ak aD)))) (ay (dJ (gE d_need_few eG (hr.mono (by decide)) J1 (ae (vL 0) ai) (ak aD)))))
theorem jS:FnScope ["thing","row","number"] ["thing","row","number"] (defScope cK):=fsk
theorem jT(F:Fun K "is_swing_paper" "is_swing_paper" cK f fd)(hm:mg "is_swing_paper" = some (.ref f))(hb:Binds K fd ["thing","row","number"] [])(T:Txt K mg)(d_is_rising:DefN P w K mg base "is_rising" 2 1 cP)(d_leads_on_within:DefN P w K mg base "leads_on_within" 1 4 bG)(d_need_few_and_number:DefR P w K mg base "need_few_and_number" 5 2 aG):DefR P w K mg base "is_swing_paper" 6 3 aN:=
 gF ["thing","row","number"] ["thing","row","number"] 5 6 3 3 rfl rfl rfl F hm hb jS (m:=gm) λcdv A outer s H E hr=>(ar (dJ (gE d_need_few_and_number eG (hr.mono (by decide)) J1 (ae (vL 1) (ae (vC 2) ai)) (ak (ak aD)))) (ar (nA (cN (gc (g9 (dI (dq (av t7 J1 T.b_isinstance aB (ae (vC 0) (ae (g8 J1 T.b_list jQ) ai))))) (gA (bp (gG hr) (av eF J1 T.b_len de (ae (vC 0) ai)) (aE aM (av eF J1 T.b_len de (ae (vL 1) ai)) ao))))) (ay (aO cM)) bQ)) (ar (nA (cN (gc (g9 (dI (dq (av (j8 rfl) J1 T.b_all iN (ae (cJ (N:=["layer"]) (k:=1) (caps:=[]) rfl (λ_ _ z=>z) (eW J0 J0 J0 J0 rfl J0) (A6 (vC 0)) (λ_ _ _ _=>(aJ (show(["layer"]:List Str).Nodup by decide +kernel) J0 J2)) (λ_ _ _ _=>cU) (λ_ _ _ _=>(bq d_is_rising (hr.mono (by decide)) J1 (ae (vL 0) ai) (ak aD)))) ai)))) (gA (bp (gG hr) (cI cH (vC 0) (gW fc ao)) (bu ai))))) (ay (aO cM)) bQ)) (ar (nA (cN (gc (oq (bp tL (vC 2) ao) (kL (bp ji ao (cI cH (vC 0) ao))))) (ay (aO cM)) bQ)) (ay (nA (aO (av (j8 rfl) J1 T.b_all iN (ae (cJ (N:=["place","step","thing","number"]) (k:=2) (caps:=[0,2]) rfl (λ_ _ z=>z) (eW J0 J0 J0 J0 rfl J0) (zJ J1 T.b_enumerate (ae (vL 1) ai)) (λ_ _ _ _=>(lA rfl (dh (aJ (show(["place","step","thing","number"]:List Str).Nodup by decide +kernel) J0 J2) (dh (aJ (show(["place","step","thing","number"]:List Str).Nodup by decide +kernel) J0 J2) jf)))) (λ_ _ _ _=>cU) (λ_ _ _ _=>(bq d_leads_on_within (hr.mono (by decide)) J1 (ae (cI cH (vC 2) (vL 0)) (ae (cI cH (vC 2) (aE aM (vL 0) ao)) (ae (vL 1) (ae (vC 3) ai)))) (ak (ak (ak (ak aD))))))) ai)))))))))
theorem mO:FnScope ["reached","bound"] ["reached","bound"] (defScope dZ):=fsk
theorem mP(F:Fun K "kept_within" "kept_within" dZ f fd)(hm:mg "kept_within" = some (.ref f))(hb:Binds K fd ["reached","bound"] [])(T:Txt K mg):DefN P w K mg base "kept_within" 1 2 cf:=
 bU ["reached","bound"] ["reached","bound"] 0 1 2 2 rfl rfl rfl F hm hb mO (m:=i0) λcdv A outer s H E hr=>(ay (aO (lQ (xH rfl) J1 T.b_dict rf (ae (cJ (N:=["number","held","bound"]) (k:=2) (caps:=[1]) rfl (λ_ _ z=>z) (eW J0 J0 J0 J0 rfl J0) (qi (vL 0)) (λ_ _ _ _=>(lA rfl (dh (aJ (show(["number","held","bound"]:List Str).Nodup by decide +kernel) J0 J2) (dh (aJ (show(["number","held","bound"]:List Str).Nodup by decide +kernel) J0 J2) jf)))) (λ_ _ _ _=>(kN (bp pW (av lG J1 T.b_abs jP (ae (vL 0) ai)) (vC 2)))) (λ_ _ _ _=>(bu (ae (vL 0) (ae (vL 1) ai))))) ai))))
theorem eO:FnScope ["table","step","choices","wider","reached","ways","choice","there"] ["table","step","choices"] (defScope gK):=fsk
theorem sZ(F:Fun K "stepped" "stepped" gK f fd)(hm:mg "stepped" = some (.ref f))(hb:Binds K fd ["table","step","choices"] [])(T:Txt K mg):DefN P w K mg base "stepped" 1 3 fE:=
 bU ["table","step","choices","wider","reached","ways","choice","there"] ["table","step","choices"] 0 1 3 8 rfl rfl rfl F hm hb eO (m:=nJ) λcdv A outer s H E hr=>(ar (aQ eO.nd J0 J2 zS) (ar (cO Yq rfl (qi (vL 0)) (lA rfl (dh (aJ eO.nd J0 J2) (dh (aJ eO.nd J0 J2) jf))) (ay (cO Yq rfl (cA (vL 2)) (aJ eO.nd J0 J2) (ar (aQ eO.nd J0 J2 (aE aM (vL 4) (aE eD (vL 6) (vL 1)))) (ay (wU (zO hr) (aE aM (zP hr (vL 3) (vL 7) ao (Ea J0 J0 J0 J0)) (vL 5)) (vL 3) (vL 7))))))) (ay (aO (vL 3)))))
theorem cv:FnScope ["row","bound","table","tables","step"] ["row","bound"] (defScope cX):=fsk
theorem kq(F:Fun K "tables_within" "tables_within" cX f fd)(hm:mg "tables_within" = some (.ref f))(hb:Binds K fd ["row","bound"] [])(T:Txt K mg)(d_kept_within:DefN P w K mg base "kept_within" 1 2 cf)(d_stepped:DefN P w K mg base "stepped" 1 3 fE):DefN P w K mg base "tables_within" 2 2 cF:=
 bU ["row","bound","table","tables","step"] ["row","bound"] 1 2 2 5 rfl rfl rfl F hm hb cv (m:=g4) λcdv A outer s H E hr=>(ar (aQ cv.nd J0 J2 (bq d_kept_within (hr.mono (by decide)) J1 (ae (zR (p8 ao ao tR)) (ae (vL 1) ai)) (ak (ak aD)))) (ar (aQ cv.nd J0 J2 (lx (ae (vL 2) ai))) (ar (cO Yq rfl (cA (vL 0)) (aJ cv.nd J0 J2) (ar (aQ cv.nd J0 J2 (bq d_kept_within (hr.mono (by decide)) J1 (ae (bq d_stepped (hr.mono (by decide)) J1 (ae (vL 2) (ae (vL 4) (ae (A1 T.m_SIGNS J1) ai))) (ak (ak (ak aD)))) (ae (vL 1) ai)) (ak (ak aD)))) (ay (dJ (oE Wm Wg Wh iG (vL 3) (ae (vL 2) ai)))))) (ay (aO (vL 3))))))
theorem iE:FnScope ["row","number","tables"] ["row","number"] (defScope d5):=fsk
theorem mQ(F:Fun K "swing_paper" "swing_paper" d5 f fd)(hm:mg "swing_paper" = some (.ref f))(hb:Binds K fd ["row","number"] [])(T:Txt K mg)(d_need_few_and_number:DefR P w K mg base "need_few_and_number" 5 2 aG)(d_tables_within:DefN P w K mg base "tables_within" 2 2 cF):DefR P w K mg base "swing_paper" 6 2 aX:=
 gF ["row","number","tables"] ["row","number"] 5 6 2 3 rfl rfl rfl F hm hb iE (m:=i4) λcdv A outer s H E hr=>(ar (dJ (gE d_need_few_and_number eG (hr.mono (by decide)) J1 (ae (vL 0) (ae (vL 1) ai)) (ak (ak aD)))) (ar (nA (aQ iE.nd J0 J2 (bq d_tables_within (hr.mono (by decide)) J1 (ae (vL 0) (ae (vL 1) ai)) (ak (ak aD))))) (ay (nA (aO (wR (bp (CC hr) (cI cH (vL 2) (gW fc ao)) zT) (xJ (qb:=false) (N:=["table"]) (k:=1) (caps:=[]) (.inl rfl) (λ_ _ z=>z) (eW J0 J0 J0 J0 rfl J0) (xD (vL 2)) (λ_ _ _ _ _=>(aJ (show(["table"]:List Str).Nodup by decide +kernel) J0 J2)) (λ_ _ _ _ _=>cU) (λ_ _ _ _ _=>(eA ip J1 T.b_tuple dG (ae (av (CA rfl) J1 T.b_sorted dD (ae (vL 0) ai)) ai)))) g6))))))
theorem jU:FnScope ["kind","thing","row","number","e"] ["kind","thing","row","number"] (defScope fB):=fsk
theorem px(F:Fun K "_law_said" "_law_said" fB f fd)(hm:mg "_law_said" = some (.ref f))(hb:Binds K fd ["kind","thing","row","number"] [])(T:Txt K mg)(d__law_only:DefM P w K mg base "_law_only" 2 2 eY)(d_is_swing_paper:DefR P w K mg base "is_swing_paper" 6 3 aN)(d_swing_paper:DefR P w K mg base "swing_paper" 6 2 aX):DefN P w K mg base "_law_said" 7 4 bc:=
 bU ["kind","thing","row","number","e"] ["kind","thing","row","number"] 6 7 4 5 rfl rfl rfl F hm hb jU (m:=kB) λcdv A outer s H E hr=>(ay (xE T.tr rfl ⟨rfl,rfl⟩ J1 jU.nd J0 rfl J0 rfl (λp W E1 hP=>(ar (cN (tS (bp (lO hr) (vL 0) ao)) (ay (aO (gE d_is_swing_paper hP (hr.mono (by decide)) J1 (ae (vL 1) (ae (vL 2) (ae (vL 3) ai))) (ak (ak (ak aD)))))) bQ) (ay (aO (gE d_swing_paper hP (hr.mono (by decide)) J1 (ae (vL 2) (ae (vL 3) ai)) (ak (ak aD))))))) (λea oe ue zo=>(ay (aO (aE aM (ck (ae g7 ai)) (lJ (qb:=true) (N:=["place","e"]) (k:=1) (caps:=[4]) (.inr ⟨rfl,(Or.inr ⟨ea,oe,ue,rfl,aC,zo⟩)⟩) (λ_ _ z=>z) (eW J0 J0 J0 J0 rfl J0) (cT J1 T.b_range (ae ao ai)) (λ_ _ _ _ cq=>(aJ (show(["place","e"]:List Str).Nodup by decide +kernel) J0 J2)) (λ_ _ _ _ cq=>(kN (dq (xo d__law_only ((hr.mono (by decide)).m.mark _) (cq.qt rfl) J1 (ae (vC 1) (ae (vL 0) ai)) (ak (ak aD)))))) (λ_ _ _ _ cq=>(vL 0)))))))))
theorem bP:FnScope ["box","row","number","odd","layers","due","turn","thing","found","held","told"] ["box","row","number","odd"] (defScope eS):=fsk
theorem m5(F:Fun K "_law_right" "_law_right" eS f fd)(hm:mg "_law_right" = some (.ref f))(hb:Binds K fd ["box","row","number","odd"] [])(T:Txt K mg)(d__law_bent:DefN P w K mg base "_law_bent" 2 3 bW)(d__law_is_paper:DefN P w K mg base "_law_is_paper" 2 3 br)(d__law_least:DefN P w K mg base "_law_least" 1 2 dW)(d__law_said:DefN P w K mg base "_law_said" 7 4 bc):DefN P w K mg base "_law_right" 8 4 cY:=
 bU ["box","row","number","odd","layers","due","turn","thing","found","held","told"] ["box","row","number","odd"] 7 8 4 11 rfl rfl rfl F hm hb bP (m:=jF) λcdv A outer s H E hr=>(ar (aQ bP.nd J0 (Or.inr J0) (bq d__law_least (hr.mono (by decide)) J1 (ae (vL 1) (ae (vL 2) ai)) (ak (ak aD)))) (ar (aQ bP.nd J0 J2 (wR (bp (lO hr) (cI cH (vC 4) (gW fc ao)) (bu ai)) (vC 4) g6)) (ar (cO Yq rfl (cT J1 T.b_range (ae ao ai)) (aJ bP.nd J0 J2) (ar (aQ bP.nd J0 J2 (bq d__law_said (hr.mono (by decide)) J1 (ae ao (ae g6 (ae (vL 1) (ae (vL 2) ai)))) (ak (ak (ak (ak aD)))))) (ar (cN (bp (gG hr) (av (jC (Ww T.sm) hr) J1 T.b_repr jR (ae (vL 8) ai)) (av (jC (Ww T.sm) hr) J1 T.b_repr jR (ae (vL 5) ai))) (ay (aO cM)) bQ) (ay (cN (bp xr (vL 5) g6) (ay (dJ (oE Wm Wg Wh iG (vL 8) (ae (bu ai) ai)))) bQ))))) (ar (cO Yq rfl (cA (aE aM (ck (ae (vC 4) (ae (vC 3) (ae (ck ai) (ae (aE eD (ck (ae (bu ai) ai)) (aE aM (av eF J1 T.b_len de (ae (vL 1) ai)) ao)) ai))))) (cJ (N:=["lap","box","layers","odd"]) (k:=1) (caps:=[0,4,3]) rfl (λ_ _ z=>z) (eW J0 J0 J0 J0 rfl J0) (cT J1 T.b_range (ae ao ai)) (λ_ _ _ _=>(aJ (show(["lap","box","layers","odd"]:List Str).Nodup by decide +kernel) J0 J2)) (λ_ _ _ _=>cU) (λ_ _ _ _=>(bq d__law_bent (hr.mono (by decide)) J1 (ae (vC 1) (ae (vC 2) (ae (vC 3) ai))) (ak (ak (ak aD)))))))) (aJ bP.nd J0 J2) (ar (aQ bP.nd J0 J2 (av (jC (Ww T.sm) hr) J1 T.b_repr jR (ae (vL 7) ai))) (ar (aQ bP.nd J0 J2 (bq d__law_said (hr.mono (by decide)) J1 (ae ao (ae (vL 7) (ae (vL 1) (ae (vL 2) ai)))) (ak (ak (ak (ak aD)))))) (ay (cN (gc (g9 (dI (dq (av fY J1 T.b_isinstance aB (ae (vL 10) (ae (g8 J1 T.b_bool mK) ai))))) (g9 (bp (gG hr) (vL 10) (bq d__law_is_paper (hr.mono (by decide)) J1 (ae (vL 7) (ae (vL 1) (ae (vL 2) ai))) (ak (ak (ak aD))))) (gA (bp (gG hr) (av (jC (Ww T.sm) hr) J1 T.b_repr jR (ae (vL 7) ai)) (vL 9)))))) (ay (aO cM)) bQ))))) (ay (aO cM))))))
theorem cR:FnScope ["box","most","many","kind","base","found","k","given"] ["box","most"] (defScope fV):=fsk
theorem rC(F:Fun K "_law_row" "_law_row" fV f fd)(hm:mg "_law_row" = some (.ref f))(hb:Binds K fd ["box","most"] [])(T:Txt K mg)(d__law_take:DefN P w K mg base "_law_take" 1 2 aL):DefN P w K mg base "_law_row" 2 2 fJ:=
 bU ["box","most","many","kind","base","found","k","given"] ["box","most"] 1 2 2 8 rfl rfl rfl F hm hb cR (m:=mC) λcdv A outer s H E hr=>(ar (aQ cR.nd J0 J2 (bq d__law_take (hr.mono (by decide)) J1 (ae (vL 0) (ae (aE aM (vL 1) ao) ai)) (ak (ak aD)))) (ar (aQ cR.nd J0 J2 (bq d__law_take (hr.mono (by decide)) J1 (ae (vL 0) (ae ao ai)) (ak (ak aD)))) (ar (aQ cR.nd J0 J2 (aE aM ao (bq d__law_take (hr.mono (by decide)) J1 (ae (vL 0) (ae ao ai)) (ak (ak aD))))) (ar (aQ cR.nd J0 J2 (lx ai)) (ar (cO Yq rfl (cT J1 T.b_range (ae (vL 2) ai)) (aJ cR.nd J0 J2) (ar (aQ cR.nd J0 J2 (aE aM ao (bq d__law_take (hr.mono (by decide)) J1 (ae (vL 0) (ae ao ai)) (ak (ak aD))))) (ay (dJ (oE Wm Wg Wh iG (vL 5) (ae (cI cH (ck (ae (vL 7) (ae (vL 7) (ae (vL 4) (ae (aE B1 ao (vL 6)) (ae (aE aM (vL 4) (aE eD (vL 6) (vL 7))) (ae (aE aM (aE eD (aE wX ao ao) (vL 7)) (vL 4)) ai))))))) (vL 3)) ai)))))) (ay (aO (eA ip J1 T.b_tuple dG (ae (vL 5) ai)))))))))
theorem gU:FnScope ["script","number","due","k","box","row","odd","high"] ["script"] (defScope km):=fsk
end
/-! what the top has written -/
abbrev FnI(K:Frag)(n:Str)(st:Stmt):Prop:=∃(f:Addr)(oc:Value)(od:Option Addr)(sl:Array (Option Value))(kV dc pm:Value)(an:Option Addr)(cd ct:Value),nsIn K mainGlobals n=some (some (.ref f))/\K.lookup f=some ⟨oc,od,.func (fnOf n n (defArgs st) (defBody st) (defScope st) .none kV dc pm an cd ct),sl⟩/\codeIn K cd n=true/\keepIn K (.ref f)=true
theorem cw{K:Frag}{n:Str}{st:Stmt}{oc:Value}{od:Option Addr}{sl:Array (Option Value)}{kV dc pm:Value}{an:Option Addr}{cd ct:Value}(a:nsIn K mainGlobals n=some (some (.ref f)))(l:K.lookup f=some ⟨oc,od,.func (fnOf n n (defArgs st) (defBody st) (defScope st) .none kV dc pm an cd ct),sl⟩)(c:codeIn K cd n=true)(k:keepIn K (.ref f)=true):FnI K n st:=⟨f,oc,od,sl,kV,dc,pm,an,cd,ct,a,l,c,k⟩
theorem us1(h:∀a,p [a])(us:List Value)(e:us.length=1):p us:=by
 rcases us with _|⟨a,_|⟨b,r⟩⟩
 · simp at e
 · exact h a
 · simp at e
theorem us2(h:∀a b,p [a,b])(us:List Value)(e:us.length=2):p us:=by
 rcases us with _|⟨a,_|⟨b,_|⟨c,r⟩⟩⟩
 · simp at e
 · simp at e
 · exact h a b
 · simp at e
theorem us3(h:∀a b c,p [a,b,c])(us:List Value)(e:us.length=3):p us:=by
 rcases us with _|⟨a,_|⟨b,_|⟨c,_|⟨d,r⟩⟩⟩⟩
 · simp at e
 · simp at e
 · simp at e
 · exact h a b c
 · simp at e
theorem us4(h:∀a b c d,p [a,b,c,d])(us:List Value)(e:us.length=4):p us:=by
 rcases us with _|⟨a,_|⟨b,_|⟨c,_|⟨d,_|⟨x,r⟩⟩⟩⟩⟩
 · simp at e
 · simp at e
 · simp at e
 · simp at e
 · exact h a b c d
 · simp at e
section
variable{K:Frag}{C_j:Addr}{C_c:Addr}{C_g:Addr}{C_b:Addr}{C_i:Addr}{C_d:Addr}{C_e:Addr}{C_h:Addr}{C_a:Addr}{C_f:Addr}{cd_b:ClassData}{cd_i:ClassData}{cd_f:ClassData}
  (gt:specialIn K (.builtin "object.__class__") "__get__" = some (some (.builtin "getset_descriptor.__get__")))
  (tk:takesIn K (.builtin "object.__class__")=some true)
  (n_j:nsIn K mainGlobals "Bare" = some (some (.ref C_j)))
  (n_c:nsIn K mainGlobals "Lacking" = some (some (.ref C_c)))
  (n_g:nsIn K mainGlobals "NoLine" = some (some (.ref C_g)))
  (n_b:nsIn K mainGlobals "NoNumber" = some (some (.ref C_b)))
  (n_i:nsIn K mainGlobals "NoRow" = some (some (.ref C_i)))
  (n_d:nsIn K mainGlobals "NoSigns" = some (some (.ref C_d)))
  (n_e:nsIn K mainGlobals "NoTable" = some (some (.ref C_e)))
  (n_h:nsIn K mainGlobals "NoText" = some (some (.ref C_h)))
  (n_a:nsIn K mainGlobals "PlusError" = some (some (.ref C_a)))
  (n_f:nsIn K mainGlobals "TooMany" = some (some (.ref C_f)))
  (q_b:excIn K C_b veMro "ValueError.__new__" = true)
  (g1_b:findIn K (.ref C_b) "__getattribute__" = some (some (.builtin "BaseException.__getattribute__")))
  (g2_b:findIn K (.ref C_b) "__getattr__" = some none)
  (g3_b:findIn K (.ref C_b) "__class__" = some (some (.builtin "object.__class__")))
  (m1_b:mroIn K C_b (.type "BaseException")=some true)
  (m2_b:mroIn K C_b (.type "object")=some true)
  (cc_b:clsIn K C_b=some cd_b)
  (kv_b:kitOne K (.ref C_b) (.type "ValueError")=some true)
  (ex_b:exmOne K (.ref C_b) (.ref C_a)=some true)
  (is_b_j:kitOne K (.ref C_b) (.ref C_j)=some false)
  (is_b_c:kitOne K (.ref C_b) (.ref C_c)=some false)
  (is_b_g:kitOne K (.ref C_b) (.ref C_g)=some false)
  (is_b_b:kitOne K (.ref C_b) (.ref C_b)=some true)
  (is_b_i:kitOne K (.ref C_b) (.ref C_i)=some false)
  (is_b_d:kitOne K (.ref C_b) (.ref C_d)=some false)
  (is_b_e:kitOne K (.ref C_b) (.ref C_e)=some false)
  (is_b_h:kitOne K (.ref C_b) (.ref C_h)=some false)
  (is_b_a:kitOne K (.ref C_b) (.ref C_a)=some true)
  (is_b_f:kitOne K (.ref C_b) (.ref C_f)=some false)
  (q_i:excIn K C_i veMro "ValueError.__new__" = true)
  (g1_i:findIn K (.ref C_i) "__getattribute__" = some (some (.builtin "BaseException.__getattribute__")))
  (g2_i:findIn K (.ref C_i) "__getattr__" = some none)
  (g3_i:findIn K (.ref C_i) "__class__" = some (some (.builtin "object.__class__")))
  (m1_i:mroIn K C_i (.type "BaseException")=some true)
  (m2_i:mroIn K C_i (.type "object")=some true)
  (cc_i:clsIn K C_i=some cd_i)
  (kv_i:kitOne K (.ref C_i) (.type "ValueError")=some true)
  (ex_i:exmOne K (.ref C_i) (.ref C_a)=some true)
  (is_i_j:kitOne K (.ref C_i) (.ref C_j)=some false)
  (is_i_c:kitOne K (.ref C_i) (.ref C_c)=some false)
  (is_i_g:kitOne K (.ref C_i) (.ref C_g)=some false)
  (is_i_b:kitOne K (.ref C_i) (.ref C_b)=some false)
  (is_i_i:kitOne K (.ref C_i) (.ref C_i)=some true)
  (is_i_d:kitOne K (.ref C_i) (.ref C_d)=some false)
  (is_i_e:kitOne K (.ref C_i) (.ref C_e)=some false)
  (is_i_h:kitOne K (.ref C_i) (.ref C_h)=some false)
  (is_i_a:kitOne K (.ref C_i) (.ref C_a)=some true)
  (is_i_f:kitOne K (.ref C_i) (.ref C_f)=some false)
  (q_f:excIn K C_f veMro "ValueError.__new__" = true)
  (g1_f:findIn K (.ref C_f) "__getattribute__" = some (some (.builtin "BaseException.__getattribute__")))
  (g2_f:findIn K (.ref C_f) "__getattr__" = some none)
  (g3_f:findIn K (.ref C_f) "__class__" = some (some (.builtin "object.__class__")))
  (m1_f:mroIn K C_f (.type "BaseException")=some true)
  (m2_f:mroIn K C_f (.type "object")=some true)
  (cc_f:clsIn K C_f=some cd_f)
  (kv_f:kitOne K (.ref C_f) (.type "ValueError")=some true)
  (ex_f:exmOne K (.ref C_f) (.ref C_a)=some true)
  (is_f_j:kitOne K (.ref C_f) (.ref C_j)=some false)
  (is_f_c:kitOne K (.ref C_f) (.ref C_c)=some false)
  (is_f_g:kitOne K (.ref C_f) (.ref C_g)=some false)
  (is_f_b:kitOne K (.ref C_f) (.ref C_b)=some false)
  (is_f_i:kitOne K (.ref C_f) (.ref C_i)=some false)
  (is_f_d:kitOne K (.ref C_f) (.ref C_d)=some false)
  (is_f_e:kitOne K (.ref C_f) (.ref C_e)=some false)
  (is_f_h:kitOne K (.ref C_f) (.ref C_h)=some false)
  (is_f_a:kitOne K (.ref C_f) (.ref C_a)=some true)
  (is_f_f:kitOne K (.ref C_f) (.ref C_f)=some true)
include gt tk n_j n_c n_g n_b n_i n_d n_e n_h n_a n_f q_b g1_b g2_b g3_b m1_b m2_b cc_b kv_b ex_b is_b_j is_b_c is_b_g is_b_b is_b_i is_b_d is_b_e is_b_h is_b_a is_b_f q_i g1_i g2_i g3_i m1_i m2_i cc_i kv_i ex_i is_i_j is_i_c is_i_g is_i_b is_i_i is_i_d is_i_e is_i_h is_i_a is_i_f q_f g1_f g2_f g3_f m1_f m2_f cc_f kv_f ex_f is_f_j is_f_c is_f_g is_f_b is_f_i is_f_d is_f_e is_f_h is_f_a is_f_f
theorem Dq:Cls K raisedX askedX isaX:=
 ⟨gt,tk,λc hc=>by
   simp only[raisedX,Jq,Yh,Q0]at hc;rcases hc with rfl|rfl|rfl
   .exact⟨C_b,n_b,se g1_b g2_b g3_b m1_b m2_b cc_b,kv_b⟩
   .exact⟨C_i,n_i,se g1_i g2_i g3_i m1_i m2_i cc_i,kv_i⟩
   .exact⟨C_f,n_f,se g1_f g2_f g3_f m1_f m2_f cc_f,kv_f⟩,
  λc hc k hk=>by
   simp only[raisedX,askedX,Jq,Yh,Q0]at hc hk;rcases hc with rfl|rfl|rfl<;>rcases hk with rfl|rfl|rfl|rfl|rfl|rfl|rfl|rfl|rfl|rfl
   .exact⟨_,_,n_b,n_j,is_b_j.trans J6⟩
   .exact⟨_,_,n_b,n_c,is_b_c.trans J6⟩
   .exact⟨_,_,n_b,n_g,is_b_g.trans J6⟩
   .exact⟨_,_,n_b,n_b,is_b_b.trans J6⟩
   .exact⟨_,_,n_b,n_i,is_b_i.trans J6⟩
   .exact⟨_,_,n_b,n_d,is_b_d.trans J6⟩
   .exact⟨_,_,n_b,n_e,is_b_e.trans J6⟩
   .exact⟨_,_,n_b,n_h,is_b_h.trans J6⟩
   .exact⟨_,_,n_b,n_a,is_b_a.trans J6⟩
   .exact⟨_,_,n_b,n_f,is_b_f.trans J6⟩
   .exact⟨_,_,n_i,n_j,is_i_j.trans J6⟩
   .exact⟨_,_,n_i,n_c,is_i_c.trans J6⟩
   .exact⟨_,_,n_i,n_g,is_i_g.trans J6⟩
   .exact⟨_,_,n_i,n_b,is_i_b.trans J6⟩
   .exact⟨_,_,n_i,n_i,is_i_i.trans J6⟩
   .exact⟨_,_,n_i,n_d,is_i_d.trans J6⟩
   .exact⟨_,_,n_i,n_e,is_i_e.trans J6⟩
   .exact⟨_,_,n_i,n_h,is_i_h.trans J6⟩
   .exact⟨_,_,n_i,n_a,is_i_a.trans J6⟩
   .exact⟨_,_,n_i,n_f,is_i_f.trans J6⟩
   .exact⟨_,_,n_f,n_j,is_f_j.trans J6⟩
   .exact⟨_,_,n_f,n_c,is_f_c.trans J6⟩
   .exact⟨_,_,n_f,n_g,is_f_g.trans J6⟩
   .exact⟨_,_,n_f,n_b,is_f_b.trans J6⟩
   .exact⟨_,_,n_f,n_i,is_f_i.trans J6⟩
   .exact⟨_,_,n_f,n_d,is_f_d.trans J6⟩
   .exact⟨_,_,n_f,n_e,is_f_e.trans J6⟩
   .exact⟨_,_,n_f,n_h,is_f_h.trans J6⟩
   .exact⟨_,_,n_f,n_a,is_f_a.trans J6⟩
   .exact⟨_,_,n_f,n_f,is_f_f.trans J6⟩⟩
theorem Dr{h:Heap}{mg:Str->Option Value}(X:K.In h)(G:h.Ns mainGlobals mg):TryAt K mg "PlusError" raisedX:=
 ⟨_,Js X G n_a,λc hc=>by
   simp only[raisedX,Jq,Yh,Q0]at hc;rcases hc with rfl|rfl|rfl
   .exact⟨_,n_b,ex_b⟩
   .exact⟨_,n_i,ex_i⟩
   .exact⟨_,n_f,ex_f⟩⟩
theorem all_mk{P:Program}{w:World}{h:Heap}{mg:Str->Option Value}{fa:Addr}(X:K.In h)(G:h.Ns mainGlobals mg)(hfa:mg "law" = some (.ref fa))   {t_LONGEST_ROW:Tok} {t_LONGEST_TABLED:Tok} {A_SIGNS:Addr} {od_SIGNS:Option Addr} {n_SIGNS:Nat} {sl_SIGNS:Array (Option Value)} {u0_SIGNS:Tok} {u1_SIGNS:Tok}
    (h0:FnI K "_law_box" fO)
    (h1:FnI K "_law_take" ft)
    (h2:FnI K "_law_odd" fP)
    (h3:FnI K "_law_bent" fu)
    (h4:FnI K "_law_whole" eQ)
    (h5:FnI K "_law_is_paper" cW)
    (h6:FnI K "_law_least" eR)
    (h7:FnI K "_law_classes" dk)
    (h8:FnI K "_law_only" fw)
    (h9:FnI K "is_whole" fQ)
    (h10:FnI K "is_rising" fA)
    (h11:FnI K "leads_on_within" cB)
    (h12:FnI K "is_row" iJ)
    (h13:FnI K "need_row" fT)
    (h14:FnI K "need_few" fU)
    (h15:FnI K "need_number" dY)
    (h16:FnI K "need_row_and_number" bL)
    (h17:FnI K "need_few_and_number" bM)
    (h18:FnI K "is_swing_paper" cK)
    (h19:FnI K "kept_within" dZ)
    (h20:FnI K "stepped" gK)
    (h21:FnI K "tables_within" cX)
    (h22:FnI K "swing_paper" d5)
    (h23:FnI K "_law_said" fB)
    (h24:FnI K "_law_right" eS)
    (h25:FnI K "_law_row" fV)
    (h26:FnI K "law" km)
    (z_ValueError:nsIn K mainGlobals "ValueError" = some none)
    (z_abs:nsIn K mainGlobals "abs" = some none)
    (z_all:nsIn K mainGlobals "all" = some none)
    (z_bool:nsIn K mainGlobals "bool" = some none)
    (z_dict:nsIn K mainGlobals "dict" = some none)
    (z_divmod:nsIn K mainGlobals "divmod" = some none)
    (z_enumerate:nsIn K mainGlobals "enumerate" = some none)
    (z_int:nsIn K mainGlobals "int" = some none)
    (z_isinstance:nsIn K mainGlobals "isinstance" = some none)
    (z_len:nsIn K mainGlobals "len" = some none)
    (z_list:nsIn K mainGlobals "list" = some none)
    (z_max:nsIn K mainGlobals "max" = some none)
    (z_min:nsIn K mainGlobals "min" = some none)
    (z_range:nsIn K mainGlobals "range" = some none)
    (z_repr:nsIn K mainGlobals "repr" = some none)
    (z_set:nsIn K mainGlobals "set" = some none)
    (z_sorted:nsIn K mainGlobals "sorted" = some none)
    (z_tuple:nsIn K mainGlobals "tuple" = some none)
    (z_LONGEST_ROW:nsIn K mainGlobals "LONGEST_ROW" = some (some (.int 16 t_LONGEST_ROW)))
    (z_LONGEST_TABLED:nsIn K mainGlobals "LONGEST_TABLED" = some (some (.int 10 t_LONGEST_TABLED)))
    (zt_SIGNS:nsIn K mainGlobals "SIGNS" = some (some (.ref A_SIGNS))) (yt_SIGNS:K.lookup A_SIGNS=some ⟨.type "tuple",od_SIGNS,.seq #[.int (-1) u0_SIGNS,.int (1) u1_SIGNS] n_SIGNS,sl_SIGNS⟩)
    (sm:∃o,K.lookup sysModules=some o)
    :
    ∃fd:FuncData,(∀(s:Shared)(v:Value),BindsTo s fd ⟨[v],[]⟩ [("script",v)])/\∀base:Heap,K.In base->base.Ns mainGlobals mg->FnOk P w K mg base (CX1 P w) 9 fa fd ["script"] (spN K 1 uj):=by
  obtain⟨f0,oc0,od0,sl0,kV0,dc0,pm0,an0,cd0,ct0,a0,l0,c0,k0⟩:=h0;obtain⟨f1,oc1,od1,sl1,kV1,dc1,pm1,an1,cd1,ct1,a1,l1,c1,k1⟩:=h1;obtain⟨f2,oc2,od2,sl2,kV2,dc2,pm2,an2,cd2,ct2,a2,l2,c2,k2⟩:=h2;obtain⟨f3,oc3,od3,sl3,kV3,dc3,pm3,an3,cd3,ct3,a3,l3,c3,k3⟩:=h3;obtain⟨f4,oc4,od4,sl4,kV4,dc4,pm4,an4,cd4,ct4,a4,l4,c4,k4⟩:=h4;obtain⟨f5,oc5,od5,sl5,kV5,dc5,pm5,an5,cd5,ct5,a5,l5,c5,k5⟩:=h5;obtain⟨f6,oc6,od6,sl6,kV6,dc6,pm6,an6,cd6,ct6,a6,l6,c6,k6⟩:=h6;obtain⟨f7,oc7,od7,sl7,kV7,dc7,pm7,an7,cd7,ct7,a7,l7,c7,k7⟩:=h7;obtain⟨f8,oc8,od8,sl8,kV8,dc8,pm8,an8,cd8,ct8,a8,l8,c8,k8⟩:=h8;obtain⟨f9,oc9,od9,sl9,kV9,dc9,pm9,an9,cd9,ct9,a9,l9,c9,k9⟩:=h9;obtain⟨f10,oc10,od10,sl10,kV10,dc10,pm10,an10,cd10,ct10,a10,l10,c10,k10⟩:=h10;obtain⟨f11,oc11,od11,sl11,kV11,dc11,pm11,an11,cd11,ct11,a11,l11,c11,k11⟩:=h11;obtain⟨f12,oc12,od12,sl12,kV12,dc12,pm12,an12,cd12,ct12,a12,l12,c12,k12⟩:=h12;obtain⟨f13,oc13,od13,sl13,kV13,dc13,pm13,an13,cd13,ct13,a13,l13,c13,k13⟩:=h13;obtain⟨f14,oc14,od14,sl14,kV14,dc14,pm14,an14,cd14,ct14,a14,l14,c14,k14⟩:=h14;obtain⟨f15,oc15,od15,sl15,kV15,dc15,pm15,an15,cd15,ct15,a15,l15,c15,k15⟩:=h15;obtain⟨f16,oc16,od16,sl16,kV16,dc16,pm16,an16,cd16,ct16,a16,l16,c16,k16⟩:=h16;obtain⟨f17,oc17,od17,sl17,kV17,dc17,pm17,an17,cd17,ct17,a17,l17,c17,k17⟩:=h17;obtain⟨f18,oc18,od18,sl18,kV18,dc18,pm18,an18,cd18,ct18,a18,l18,c18,k18⟩:=h18;obtain⟨f19,oc19,od19,sl19,kV19,dc19,pm19,an19,cd19,ct19,a19,l19,c19,k19⟩:=h19;obtain⟨f20,oc20,od20,sl20,kV20,dc20,pm20,an20,cd20,ct20,a20,l20,c20,k20⟩:=h20;obtain⟨f21,oc21,od21,sl21,kV21,dc21,pm21,an21,cd21,ct21,a21,l21,c21,k21⟩:=h21;obtain⟨f22,oc22,od22,sl22,kV22,dc22,pm22,an22,cd22,ct22,a22,l22,c22,k22⟩:=h22;obtain⟨f23,oc23,od23,sl23,kV23,dc23,pm23,an23,cd23,ct23,a23,l23,c23,k23⟩:=h23;obtain⟨f24,oc24,od24,sl24,kV24,dc24,pm24,an24,cd24,ct24,a24,l24,c24,k24⟩:=h24;obtain⟨f25,oc25,od25,sl25,kV25,dc25,pm25,an25,cd25,ct25,a25,l25,c25,k25⟩:=h25;obtain⟨f26,oc26,od26,sl26,kV26,dc26,pm26,an26,cd26,ct26,a26,l26,c26,k26⟩:=h26;have e:=hfa.symm.trans (Js X G a26);cases e;have T:Txt K mg:=⟨Dq gt tk n_j n_c n_g n_b n_i n_d n_e n_h n_a n_f q_b g1_b g2_b g3_b m1_b m2_b cc_b kv_b ex_b is_b_j is_b_c is_b_g is_b_b is_b_i is_b_d is_b_e is_b_h is_b_a is_b_f q_i g1_i g2_i g3_i m1_i m2_i cc_i kv_i ex_i is_i_j is_i_c is_i_g is_i_b is_i_i is_i_d is_i_e is_i_h is_i_a is_i_f q_f g1_f g2_f g3_f m1_f m2_f cc_f kv_f ex_f is_f_j is_f_c is_f_g is_f_b is_f_i is_f_d is_f_e is_f_h is_f_a is_f_f,⟨_,Js X G n_b,n_b,q_b⟩,⟨_,Js X G n_i,n_i,q_i⟩,⟨_,Js X G n_f,n_f,q_f⟩,⟨_,Js X G n_j,n_j⟩,⟨_,Js X G n_c,n_c⟩,⟨_,Js X G n_g,n_g⟩,⟨_,Js X G n_b,n_b⟩,⟨_,Js X G n_i,n_i⟩,⟨_,Js X G n_d,n_d⟩,⟨_,Js X G n_e,n_e⟩,⟨_,Js X G n_h,n_h⟩,⟨_,Js X G n_a,n_a⟩,⟨_,Js X G n_f,n_f⟩,Dr gt tk n_j n_c n_g n_b n_i n_d n_e n_h n_a n_f q_b g1_b g2_b g3_b m1_b m2_b cc_b kv_b ex_b is_b_j is_b_c is_b_g is_b_b is_b_i is_b_d is_b_e is_b_h is_b_a is_b_f q_i g1_i g2_i g3_i m1_i m2_i cc_i kv_i ex_i is_i_j is_i_c is_i_g is_i_b is_i_i is_i_d is_i_e is_i_h is_i_a is_i_f q_f g1_f g2_f g3_f m1_f m2_f cc_f kv_f ex_f is_f_j is_f_c is_f_g is_f_b is_f_i is_f_d is_f_e is_f_h is_f_a is_f_f X G,Y8 X G z_ValueError,Y8 X G z_abs,Y8 X G z_all,Y8 X G z_bool,Y8 X G z_dict,Y8 X G z_divmod,Y8 X G z_enumerate,Y8 X G z_int,Y8 X G z_isinstance,Y8 X G z_len,Y8 X G z_list,Y8 X G z_max,Y8 X G z_min,Y8 X G z_range,Y8 X G z_repr,Y8 X G z_set,Y8 X G z_sorted,Y8 X G z_tuple,⟨_,Js X G z_LONGEST_ROW⟩,⟨_,Js X G z_LONGEST_TABLED⟩,zQ X G zt_SIGNS yt_SIGNS,sm⟩;have F0:=bA (st:=fO) l0 c0 k0;have b0:=F0.binds (ps:=["script","k"]) λ_ _ _ _ _ _=>us2 λ_ _=>rfl
  have F1:=bA (st:=ft) l1 c1 k1;have b1:=F1.binds (ps:=["box","many"]) λ_ _ _ _ _ _=>us2 λ_ _=>rfl
  have F2:=bA (st:=fP) l2 c2 k2;have b2:=F2.binds (ps:=["box"]) λ_ _ _ _ _ _=>us1 λ_=>rfl
  have F3:=bA (st:=fu) l3 c3 k3;have b3:=F3.binds (ps:=["box","layers","odd"]) λ_ _ _ _ _ _=>us3 λ_ _ _=>rfl
  have F4:=bA (st:=eQ) l4 c4 k4;have b4:=F4.binds (ps:=["thing"]) λ_ _ _ _ _ _=>us1 λ_=>rfl
  have F5:=bA (st:=cW) l5 c5 k5;have b5:=F5.binds (ps:=["thing","row","number"]) λ_ _ _ _ _ _=>us3 λ_ _ _=>rfl
  have F6:=bA (st:=eR) l6 c6 k6;have b6:=F6.binds (ps:=["row","number"]) λ_ _ _ _ _ _=>us2 λ_ _=>rfl
  have F7:=bA (st:=dk) l7 c7 k7;have b7:=F7.binds (ps:=["e"]) λ_ _ _ _ _ _=>us1 λ_=>rfl
  have F8:=bA (st:=fw) l8 c8 k8;have b8:=F8.binds (ps:=["e","place"]) λ_ _ _ _ _ _=>us2 λ_ _=>rfl
  have F9:=bA (st:=fQ) l9 c9 k9;have b9:=F9.binds (ps:=["thing"]) λ_ _ _ _ _ _=>us1 λ_=>rfl
  have F10:=bA (st:=fA) l10 c10 k10;have b10:=F10.binds (ps:=["thing"]) λ_ _ _ _ _ _=>us1 λ_=>rfl
  have F11:=bA (st:=cB) l11 c11 k11;have b11:=F11.binds (ps:=["layer","following","step","bound"]) λ_ _ _ _ _ _=>us4 λ_ _ _ _=>rfl
  have F12:=bA (st:=iJ) l12 c12 k12;have b12:=F12.binds (ps:=["thing"]) λ_ _ _ _ _ _=>us1 λ_=>rfl
  have F13:=bA (st:=fT) l13 c13 k13;have b13:=F13.binds (ps:=["thing"]) λ_ _ _ _ _ _=>us1 λ_=>rfl
  have F14:=bA (st:=fU) l14 c14 k14;have b14:=F14.binds (ps:=["row"]) λ_ _ _ _ _ _=>us1 λ_=>rfl
  have F15:=bA (st:=dY) l15 c15 k15;have b15:=F15.binds (ps:=["thing"]) λ_ _ _ _ _ _=>us1 λ_=>rfl
  have F16:=bA (st:=bL) l16 c16 k16;have b16:=F16.binds (ps:=["row","number"]) λ_ _ _ _ _ _=>us2 λ_ _=>rfl
  have F17:=bA (st:=bM) l17 c17 k17;have b17:=F17.binds (ps:=["row","number"]) λ_ _ _ _ _ _=>us2 λ_ _=>rfl
  have F18:=bA (st:=cK) l18 c18 k18;have b18:=F18.binds (ps:=["thing","row","number"]) λ_ _ _ _ _ _=>us3 λ_ _ _=>rfl
  have F19:=bA (st:=dZ) l19 c19 k19;have b19:=F19.binds (ps:=["reached","bound"]) λ_ _ _ _ _ _=>us2 λ_ _=>rfl
  have F20:=bA (st:=gK) l20 c20 k20;have b20:=F20.binds (ps:=["table","step","choices"]) λ_ _ _ _ _ _=>us3 λ_ _ _=>rfl
  have F21:=bA (st:=cX) l21 c21 k21;have b21:=F21.binds (ps:=["row","bound"]) λ_ _ _ _ _ _=>us2 λ_ _=>rfl
  have F22:=bA (st:=d5) l22 c22 k22;have b22:=F22.binds (ps:=["row","number"]) λ_ _ _ _ _ _=>us2 λ_ _=>rfl
  have F23:=bA (st:=fB) l23 c23 k23;have b23:=F23.binds (ps:=["kind","thing","row","number"]) λ_ _ _ _ _ _=>us4 λ_ _ _ _=>rfl
  have F24:=bA (st:=eS) l24 c24 k24;have b24:=F24.binds (ps:=["box","row","number","odd"]) λ_ _ _ _ _ _=>us4 λ_ _ _ _=>rfl
  have F25:=bA (st:=fV) l25 c25 k25;have b25:=F25.binds (ps:=["box","most"]) λ_ _ _ _ _ _=>us2 λ_ _=>rfl
  have F26:=bA (st:=km) l26 c26 k26;have b26:=F26.binds (ps:=["script"]) λ_ _ _ _ _ _=>us1 λ_=>rfl
  refine⟨fnOf "law" "law" (defArgs km) (defBody km) (defScope km) .none kV26 dc26 pm26 an26 cd26 ct26,λs v=>.of_eq rfl,λbase _ _=>?_⟩
  have d__law_box:DefN P w K mg base "_law_box" 1 2 dy:=rh F0 (Js X G a0) b0 T
  have d__law_take:DefN P w K mg base "_law_take" 1 2 aL:=pe F1 (Js X G a1) b1 T
  have d__law_odd:DefN P w K mg base "_law_odd" 2 1 eI:=rj F2 (Js X G a2) b2 T d__law_take
  have d__law_bent:DefN P w K mg base "_law_bent" 2 3 bW:=pf F3 (Js X G a3) b3 T d__law_take
  have d__law_whole:DefN P w K mg base "_law_whole" 1 1 bX:=mY F4 (Js X G a4) b4 T
  have d__law_is_paper:DefN P w K mg base "_law_is_paper" 2 3 br:=ko F5 (Js X G a5) b5 T d__law_whole
  have d__law_least:DefN P w K mg base "_law_least" 1 2 dW:=mZ F6 (Js X G a6) b6 T
  have d__law_classes:DefM P w K mg base "_law_classes" 1 1 dX:=kJ F7 (Js X G a7) b7 T
  have d__law_only:DefM P w K mg base "_law_only" 2 2 eY:=pj F8 (Js X G a8) b8 T d__law_classes
  have d_is_whole:DefN P w K mg base "is_whole" 1 1 bR:=rn F9 (Js X G a9) b9 T
  have d_is_rising:DefN P w K mg base "is_rising" 2 1 cP:=pq F10 (Js X G a10) b10 T d_is_whole
  have d_leads_on_within:DefN P w K mg base "leads_on_within" 1 4 bG:=jd F11 (Js X G a11) b11 T
  have d_is_row:DefN P w K mg base "is_row" 2 1 eZ:=wb F12 (Js X G a12) b12 T d_is_whole
  have d_need_row:DefR P w K mg base "need_row" 3 1 cQ:=rq F13 (Js X G a13) b13 T d_is_row
  have d_need_few:DefR P w K mg base "need_few" 4 1 eJ:=rB F14 (Js X G a14) b14 T d_need_row
  have d_need_number:DefR P w K mg base "need_number" 2 1 cc:=mM F15 (Js X G a15) b15 T d_is_whole
  have d_need_row_and_number:DefR P w K mg base "need_row_and_number" 4 2 aU:=gQ F16 (Js X G a16) b16 T d_need_number d_need_row
  have d_need_few_and_number:DefR P w K mg base "need_few_and_number" 5 2 aG:=gS F17 (Js X G a17) b17 T d_need_few d_need_row_and_number
  have d_is_swing_paper:DefR P w K mg base "is_swing_paper" 6 3 aN:=jT F18 (Js X G a18) b18 T d_is_rising d_leads_on_within d_need_few_and_number
  have d_kept_within:DefN P w K mg base "kept_within" 1 2 cf:=mP F19 (Js X G a19) b19 T
  have d_stepped:DefN P w K mg base "stepped" 1 3 fE:=sZ F20 (Js X G a20) b20 T
  have d_tables_within:DefN P w K mg base "tables_within" 2 2 cF:=kq F21 (Js X G a21) b21 T d_kept_within d_stepped
  have d_swing_paper:DefR P w K mg base "swing_paper" 6 2 aX:=mQ F22 (Js X G a22) b22 T d_need_few_and_number d_tables_within
  have d__law_said:DefN P w K mg base "_law_said" 7 4 bc:=px F23 (Js X G a23) b23 T d__law_only d_is_swing_paper d_swing_paper
  have d__law_right:DefN P w K mg base "_law_right" 8 4 cY:=m5 F24 (Js X G a24) b24 T d__law_bent d__law_is_paper d__law_least d__law_said
  have d__law_row:DefN P w K mg base "_law_row" 2 2 fJ:=rC F25 (Js X G a25) b25 T d__law_take
  exact zB ["script","number","due","k","box","row","odd","high"] ["script"] 8 9 1 8 rfl rfl rfl (m:=A7) F26 gU λcdv A outer s H E hr=>(ar (cO Yq rfl (cA (ck (ae (bu (ae ao (ae ao ai))) (ae (bu (ae g6 (ae ao ai))) ai)))) (lA rfl (dh (aJ gU.nd J0 (Or.inr J0)) (dh (aJ gU.nd J0 J2) jf))) (ay (cN (bp (gG hr) (cJ (N:=["kind","number"]) (k:=1) (caps:=[1]) rfl (λ_ _ z=>z) (eW J0 J0 J0 J0 rfl J0) (cT J1 T.b_range (ae ao ai)) (λ_ _ _ _=>(aJ (show(["kind","number"]:List Str).Nodup by decide +kernel) J0 J2)) (λ_ _ _ _=>cU) (λ_ _ _ _=>(bq d__law_said (hr.mono (by decide)) J1 (ae (vL 0) (ae g6 (ae (aE eD (bu (ae ao ai)) ao) (ae (vC 1) ai)))) (ak (ak (ak (ak aD))))))) (aE eD (ck (ae (ck (ae g7 (ae (vL 2) ai))) ai)) ao)) (ay (aO cM)) bQ))) (ar (cO Yq rfl (cT J1 T.b_range (ae (av (B4 rfl) J1 T.b_max uY (ae ao (ae (av (B5 rfl) J1 T.b_min AK (ae (av eF J1 T.b_len de (ae (vL 0) ai)) (ae ao ai))) ai))) ai)) (aJ gU.nd J0 J2) (ar (aQ gU.nd J0 J2 (bq d__law_box (hr.mono (by decide)) J1 (ae (vL 0) (ae (vL 3) ai)) (ak (ak aD)))) (ar (aQ gU.nd J0 J2 (bq d__law_row (hr.mono (by decide)) J1 (ae (vL 4) (ae ao ai)) (ak (ak aD)))) (ar (aQ gU.nd J0 J2 (bq d__law_odd (hr.mono (by decide)) J1 (ae (vL 4) ai) (ak aD))) (ar (aQ gU.nd J0 J2 (av (z8 rfl) J1 T.b_max uY (ae (aE aM (bu (ae ao ai)) (vL 5)) ai))) (ay (cO Yq rfl (cA (ck (ae (aE j3 (aE oy (vL 7) ao) ao) (ae (aE oy (vL 7) ao) (ae (aE j3 (vL 7) ao) (ae (gW fc ao) (ae (bq d__law_take (hr.mono (by decide)) J1 (ae (vL 4) (ae ao ai)) (ak (ak aD))) ai))))))) (aJ gU.nd J0 (Or.inr J0)) (ay (cN (dI (dq (bq d__law_right (hr.mono (by decide)) J1 (ae (vL 4) (ae (vL 5) (ae (vC 1) (ae (vL 6) ai)))) (ak (ak (ak (ak aD))))))) (ay (aO cM)) bQ))))))))) (ay (aO cM))))
end
theorem walk{l:PySem.W.OpenLaw}{q:Program}{loose:List Str}{XP:(Str->Option Value)->Heap->Prop}{YP:World->Heap->Prop}{d:DefRec}{K:Params->Frag}(hn:l.most=some 63)(hdf:d.params.defaults=[])
  (hY:∀(w:World)(h:Heap),YP w h->(K w.params).In h)
  (F:∀(w:World)(mg:Str->Option Value)(fa:Addr)(h:Heap),(K w.params).In h->h.Ns mainGlobals mg->mg d.name=some (.ref fa)->
   ∃fd:FuncData,(∀(s:Shared)(u:Value),BindsTo s fd ⟨[u],[]⟩ [("script",u)])/\∀base:Heap,(K w.params).In base->base.Ns mainGlobals mg->FnOk l.prog w (K w.params) mg base (CX1 l.prog w) 9 fa fd ["script"] (spN (K w.params) 1 uj)):
  PySem.W.WalkO q loose XP YP l.row.toRowW d [] (λf vs=>PySem.call f vs):=
 L2.zj (n:=63) (k:=9) (x:="script") (CX:=λw=>CX1 l.prog w) (sp:=λw=>spN (K w.params) 1 uj) hn (by decide) hdf ⟨rfl,by decide,by decide,rfl⟩ hY F (λw H a ns hl ho hS=>zE yK (K w.params) H a ns hl ho hS) λ_ _ _ _ _ z=>Ci z
end Lw
open PySem PySem.W PyProof.Rows
set_option maxRecDepth 100000 in
set_option maxHeartbeats 0 in
theorem PySem.Challenge.cw_plusless_k54_swing_papers_holds : PySem.Challenge.rw_plusless_k54_swing_papers.Holds := by
 w_on; o_law
 refine holds_open (q := Lw.hV) (loose := []) (Xt := Lw.hX) (XP := XL Lw.hV []) (Yf := Hook.obs (kHook Lw.hK Lw.hA Lw.hKA)) (Ya := Hook.val (kHook Lw.hK Lw.hA Lw.hKA)) (YP := Hook.says (kHook Lw.hK Lw.hA Lw.hKA)) (N := 6126) Lw.left (Hook.of (kHook Lw.hK Lw.hA Lw.hKA)) (Hook.keeps (kHook Lw.hK Lw.hA Lw.hKA)) (λs e => xl_of s (Bool.and_eq_true_iff.mp e).1) XL.keeps (by rfl) (by rfl) (by rfl) (λs e => recFacts_of (Bool.and_eq_true_iff.mp e).2) (by rfl) (by first | assumption | decide +kernel) (by decide +kernel) ⟨rfl, rfl, rfl, rfl, rfl, by decide +kernel⟩ ?hw ?hc
 case hw => w_witness2
 k_fill
 refine Lw.walk (l := PySem.Challenge.rw_plusless_k54_swing_papers) rfl rfl (λw h Y => by first | exact PySem.W.kIn_of Y | exact Y.1) ?F
 case F =>
  intro w mg fa h KX G hmg
  refine' Lw.all_mk ?gt ?tk ?n_j ?n_c ?n_g ?n_b ?n_i ?n_d ?n_e ?n_h ?n_a ?n_f ?q_b ?g1_b ?g2_b ?g3_b ?m1_b ?m2_b ?cc_b ?kv_b ?ex_b ?is_b_j ?is_b_c ?is_b_g ?is_b_b ?is_b_i ?is_b_d ?is_b_e ?is_b_h ?is_b_a ?is_b_f ?q_i ?g1_i ?g2_i ?g3_i ?m1_i ?m2_i ?cc_i ?kv_i ?ex_i ?is_i_j ?is_i_c ?is_i_g ?is_i_b ?is_i_i ?is_i_d ?is_i_e ?is_i_h ?is_i_a ?is_i_f ?q_f ?g1_f ?g2_f ?g3_f ?m1_f ?m2_f ?cc_f ?kv_f ?ex_f ?is_f_j ?is_f_c ?is_f_g ?is_f_b ?is_f_i ?is_f_d ?is_f_e ?is_f_h ?is_f_a ?is_f_f KX G hmg ?h0 ?h1 ?h2 ?h3 ?h4 ?h5 ?h6 ?h7 ?h8 ?h9 ?h10 ?h11 ?h12 ?h13 ?h14 ?h15 ?h16 ?h17 ?h18 ?h19 ?h20 ?h21 ?h22 ?h23 ?h24 ?h25 ?h26 ?z_ValueError ?z_abs ?z_all ?z_bool ?z_dict ?z_divmod ?z_enumerate ?z_int ?z_isinstance ?z_len ?z_list ?z_max ?z_min ?z_range ?z_repr ?z_set ?z_sorted ?z_tuple ?z_LONGEST_ROW ?z_LONGEST_TABLED ?zt_SIGNS ?yt_SIGNS ?sm
  (case h0=>refine' Lw.cw ?a ?l ?c ?k;(case a=>k_is);(case l=>k_is);(case c=>k_is);(case k=>k_is))
  (case h1=>refine' Lw.cw ?a ?l ?c ?k;(case a=>k_is);(case l=>k_is);(case c=>k_is);(case k=>k_is))
  (case h2=>refine' Lw.cw ?a ?l ?c ?k;(case a=>k_is);(case l=>k_is);(case c=>k_is);(case k=>k_is))
  (case h3=>refine' Lw.cw ?a ?l ?c ?k;(case a=>k_is);(case l=>k_is);(case c=>k_is);(case k=>k_is))
  (case h4=>refine' Lw.cw ?a ?l ?c ?k;(case a=>k_is);(case l=>k_is);(case c=>k_is);(case k=>k_is))
  (case h5=>refine' Lw.cw ?a ?l ?c ?k;(case a=>k_is);(case l=>k_is);(case c=>k_is);(case k=>k_is))
  (case h6=>refine' Lw.cw ?a ?l ?c ?k;(case a=>k_is);(case l=>k_is);(case c=>k_is);(case k=>k_is))
  (case h7=>refine' Lw.cw ?a ?l ?c ?k;(case a=>k_is);(case l=>k_is);(case c=>k_is);(case k=>k_is))
  (case h8=>refine' Lw.cw ?a ?l ?c ?k;(case a=>k_is);(case l=>k_is);(case c=>k_is);(case k=>k_is))
  (case h9=>refine' Lw.cw ?a ?l ?c ?k;(case a=>k_is);(case l=>k_is);(case c=>k_is);(case k=>k_is))
  (case h10=>refine' Lw.cw ?a ?l ?c ?k;(case a=>k_is);(case l=>k_is);(case c=>k_is);(case k=>k_is))
  (case h11=>refine' Lw.cw ?a ?l ?c ?k;(case a=>k_is);(case l=>k_is);(case c=>k_is);(case k=>k_is))
  (case h12=>refine' Lw.cw ?a ?l ?c ?k;(case a=>k_is);(case l=>k_is);(case c=>k_is);(case k=>k_is))
  (case h13=>refine' Lw.cw ?a ?l ?c ?k;(case a=>k_is);(case l=>k_is);(case c=>k_is);(case k=>k_is))
  (case h14=>refine' Lw.cw ?a ?l ?c ?k;(case a=>k_is);(case l=>k_is);(case c=>k_is);(case k=>k_is))
  (case h15=>refine' Lw.cw ?a ?l ?c ?k;(case a=>k_is);(case l=>k_is);(case c=>k_is);(case k=>k_is))
  (case h16=>refine' Lw.cw ?a ?l ?c ?k;(case a=>k_is);(case l=>k_is);(case c=>k_is);(case k=>k_is))
  (case h17=>refine' Lw.cw ?a ?l ?c ?k;(case a=>k_is);(case l=>k_is);(case c=>k_is);(case k=>k_is))
  (case h18=>refine' Lw.cw ?a ?l ?c ?k;(case a=>k_is);(case l=>k_is);(case c=>k_is);(case k=>k_is))
  (case h19=>refine' Lw.cw ?a ?l ?c ?k;(case a=>k_is);(case l=>k_is);(case c=>k_is);(case k=>k_is))
  (case h20=>refine' Lw.cw ?a ?l ?c ?k;(case a=>k_is);(case l=>k_is);(case c=>k_is);(case k=>k_is))
  (case h21=>refine' Lw.cw ?a ?l ?c ?k;(case a=>k_is);(case l=>k_is);(case c=>k_is);(case k=>k_is))
  (case h22=>refine' Lw.cw ?a ?l ?c ?k;(case a=>k_is);(case l=>k_is);(case c=>k_is);(case k=>k_is))
  (case h23=>refine' Lw.cw ?a ?l ?c ?k;(case a=>k_is);(case l=>k_is);(case c=>k_is);(case k=>k_is))
  (case h24=>refine' Lw.cw ?a ?l ?c ?k;(case a=>k_is);(case l=>k_is);(case c=>k_is);(case k=>k_is))
  (case h25=>refine' Lw.cw ?a ?l ?c ?k;(case a=>k_is);(case l=>k_is);(case c=>k_is);(case k=>k_is))
  (case h26=>refine' Lw.cw ?a ?l ?c ?k;(case a=>k_is);(case l=>k_is);(case c=>k_is);(case k=>k_is))
  (case z_ValueError=>k_is)
  (case z_abs=>k_is)
  (case z_all=>k_is)
  (case z_bool=>k_is)
  (case z_dict=>k_is)
  (case z_divmod=>k_is)
  (case z_enumerate=>k_is)
  (case z_int=>k_is)
  (case z_isinstance=>k_is)
  (case z_len=>k_is)
  (case z_list=>k_is)
  (case z_max=>k_is)
  (case z_min=>k_is)
  (case z_range=>k_is)
  (case z_repr=>k_is)
  (case z_set=>k_is)
  (case z_sorted=>k_is)
  (case z_tuple=>k_is)
  (case z_LONGEST_ROW=>k_is)
  (case z_LONGEST_TABLED=>k_is)
  (case zt_SIGNS=>k_is)
  (case yt_SIGNS=>k_is)
  (case sm => exact ⟨PySem.W.boot_o_1 w.params, by kernel_rfl⟩)
  (case gt=>k_is)
  (case tk=>k_is)
  (case n_j=>k_is)
  (case n_c=>k_is)
  (case n_g=>k_is)
  (case n_b=>k_is)
  (case n_i=>k_is)
  (case n_d=>k_is)
  (case n_e=>k_is)
  (case n_h=>k_is)
  (case n_a=>k_is)
  (case n_f=>k_is)
  (case q_b => k_exc)
  (case g1_b=>k_is)
  (case g2_b=>k_is)
  (case g3_b=>k_is)
  (case m1_b=>k_is)
  (case m2_b=>k_is)
  (case cc_b=>k_is)
  (case kv_b => kit_is)
  (case ex_b => kts_exm)
  (case is_b_j => kit_is)
  (case is_b_c => kit_is)
  (case is_b_g => kit_is)
  (case is_b_b => kit_is)
  (case is_b_i => kit_is)
  (case is_b_d => kit_is)
  (case is_b_e => kit_is)
  (case is_b_h => kit_is)
  (case is_b_a => kit_is)
  (case is_b_f => kit_is)
  (case q_i => k_exc)
  (case g1_i=>k_is)
  (case g2_i=>k_is)
  (case g3_i=>k_is)
  (case m1_i=>k_is)
  (case m2_i=>k_is)
  (case cc_i=>k_is)
  (case kv_i => kit_is)
  (case ex_i => kts_exm)
  (case is_i_j => kit_is)
  (case is_i_c => kit_is)
  (case is_i_g => kit_is)
  (case is_i_b => kit_is)
  (case is_i_i => kit_is)
  (case is_i_d => kit_is)
  (case is_i_e => kit_is)
  (case is_i_h => kit_is)
  (case is_i_a => kit_is)
  (case is_i_f => kit_is)
  (case q_f => k_exc)
  (case g1_f=>k_is)
  (case g2_f=>k_is)
  (case g3_f=>k_is)
  (case m1_f=>k_is)
  (case m2_f=>k_is)
  (case cc_f=>k_is)
  (case kv_f => kit_is)
  (case ex_f => kts_exm)
  (case is_f_j => kit_is)
  (case is_f_c => kit_is)
  (case is_f_g => kit_is)
  (case is_f_b => kit_is)
  (case is_f_i => kit_is)
  (case is_f_d => kit_is)
  (case is_f_e => kit_is)
  (case is_f_h => kit_is)
  (case is_f_a => kit_is)
  (case is_f_f => kit_is)
