import PyProof.Rows.All
import Wide.All
import OpenK.AllK
import PySem.Challenge.RW_plusless_k84_whole_desks
set_option Elab.async false
set_option linter.all false
set_option maxRecDepth 100000
set_option maxHeartbeats 0
set_option genSizeOf false
noncomputable section
open PySem.W (BT Frag Hook InitBack KdlSrc LeftO Looks RowW SharedT any_some behindTheImports bind_fn blockOf boot_drawn boot_heap boot_o_0 boot_o_1 boot_o_10 boot_o_2 boot_o_3 boot_o_4 boot_o_5 boot_o_6 boot_o_7 boot_o_8 boot_o_9 boot_open boot_toks byRow2 callWith_K callWith_K0 cellsFrom_some clsIn codeIn codeRec_of emptyDict eq_bytes fencedOpening findIn findObj_own fnOf gensDone get_value go_top handedIn hasDictIn hideAll hideAll_get hideAll_none hideAll_size instObj isFn kHook kdl_dict kdu_collect keepIn ki_setAt ki_setBack kia_one kitCls kitOne kitx_bool kitx_dict kitx_float kitx_int kitx_list kitx_none kitx_own kitx_str kitx_tuple laidKept lookIn looks_clsIn looks_findIn make_core makesIn makes_of methodCall_KW methodObj method_fn mg_none_of mg_of mroIn namesBound ne_bytes nsIn of_hideAll openEnds openGood openSeen osa_open piece_app piece_block piecesOf plainGet plainGet_of plainOver recOk restOf segRun segRunT segRun_of set_plain specialIn staticsOk takerIn takesIn topFrame topFrom topGo topRun topRun_mono topStub typeIn xlAt)
def zz8(h:True:=by intro _ _ z;cases z):True:=h
def zz9(h:True:=by first|exact L2.Ia _|kernel_rfl):True:=h
def zz7(h:True:=by first|left;rfl|right;kernel_rfl):True:=h
def Tn{α β:Type}{a b c:α->β->Prop}{P:Prop}(z:∃x y,a x y/\b x y/\c x y)(f:∀x y,a x y->b x y->c x y->P):P:=by obtain⟨x,y,u,v,w⟩:=z;exact f x y u v w
def Y6:=@PySem.wpAny_bind
def Y7:=@PySem.Heap.get?_push_of_some
def Y8:=@List.map_cons
def Y9:=@if_pos
def Yb:=@List.mem_cons
def Yc:=@List.getElem?_eq_some_iff
def Yd:=@mg_of
def Ye:=@PySem.Heap.get?_push_size
def Yg:=@PySem.wpAny_pure
def Yh:=@Nat.le_refl
def Yi:=@List.length_map
def Yj:=@if_neg
def Yk:=@List.getElem?_eq_getElem
def Yl:=@PySem.Heap.lt_size
def Ym:=@Bool.false_ne_true
def Yn:=@List.length_cons
def Yo:=@decide_eq_false
def Yp:=@List.length_append
def Yq:=@List.mem_singleton
def Yr:=@decide_eq_true
def Ys:=@Nat.lt_of_lt_of_le
def Yt:=@List.mem_map
def Yu:=@List.size_toArray
def Yv:=@Nat.ne_of_lt
def Yw:=@Nat.le_trans
def Yx:=@List.mem_append
def Yy:=@List.not_mem_nil
def Yz:=@List.mem_append_right
def Z0:=@List.mem_cons_of_mem
def Z1:=@List.getElem?_append_left
def Z2:=@PySem.Heap.size_push
def Z3:=@List.getElem?_set_ne
def Z4:=@List.mem_cons_self
def Z5:=@Bool.and_eq_true
def Z6:=@List.mem_filter
def Z7:=@List.getElem?_set_self
def Z8:=@Option.some.inj
def Z9:=@PySem.PassesOwn.never
def Za:=@List.map_map
def Zb:=@mg_none_of
def Zc:=@PySem.Heap.get?_update_other
def Zd:=@List.set_cons_zero
def Ze:=@Bool.false_eq_true
def Zf:=@List.sum_cons
def Zg:=@PySem.F.plainAttrs_str
def Zh:=@PySem.wpAny_newObj_type
def Zi:=@if_true
def Zj:=@List.all_eq_true
def Zk:=@PySem.wpAny_seqItems
def Zl:=@of_decide_eq_true
def Zm:=@PySem.wpAny_field
def Zn:=@or_false
def Zo:=@List.set_cons_succ
def Zp:=@Prod.mk.inj
def Zq:=@List.getD_eq_getElem?_getD
def Zr:=@List.mem_of_getElem?
def Zs:=@Nat.zero_le
def Zt:=@PyProof.Rows.KTD.isSome_datumAt
def Zu:=@List.length_nil
def Zv:=@List.append_assoc
def Zw:=@PySem.wpAny_callSpecial?_slot
def Zx:=@List.getElem?_cons_succ
def Zy:=@PySem.Around.under_plainId
def Zz:=@List.mem_append_left
def Q0:=@kia_one
def Q2:=@Nat.lt_succ_self
def Q3:=@List.map_congr_left
def Q4:=@decide_eq_true_eq
def Q5:=@PySem.codeAny_builtin
def Q6:=@List.find?_cons
def Q7:=@Option.map_some
def Q8:=@PyProof.Rows.callWith_type1
def Q9:=@List.getElem?_cons_zero
def Qa:=@PySem.wpAny_call_entry
def Qb:=@PySem.F.plain_min_loop
def Qc:=@Nat.pow_le_pow_right
def Qd:=@Nat.lt_irrefl
def Qe:=@PySem.wpAny_truthy_bool
def Qf:=@PySem.wpAny_pyIter_list
def Qg:=@List.flatMap_cons
def Qh:=@List.replicate_succ
def Qi:=@List.append_nil
def Qj:=@PySem.Heap.get?_update_self
def Qk:=@List.set_getElem_self
def Ql:=@congrArg
def Qm:=@if_false
def Qn:=@List.length_drop
def Qo:=@List.lookup_cons
def Qp:=@List.pairwise_cons
def Qq:=@PySem.F.plain_max_loop
def Qr:=@decide_eq_decide
def Qs:=@PySem.wpAny_holding
def Qt:=@List.any_cons
def Qu:=@PySem.plainId_quiet
def Qv:=@PySem.Heap.get?_none_of_le
def Qw:=@PySem.wpAny_tryCatch
def Qx:=@List.getElem?_map
def Qy:=@Bool.eq_iff_iff
def Qz:=@List.nil_append
def W0:=@Array.length_toList
def W3:=@PySem.wpAny_mono
def W4:=@List.getElem?_append_right
def W5:=@List.length_take
def W6:=@List.cons_append
def W7:=@List.length_singleton
def W8:=@PyProof.Rows.slot_tuple_getitem
def W9:=@PySem.wpAny_letGo
def Wa:=@List.of_mem_zip
def Wb:=@List.map_nil
def Wc:=@List.any_eq_false
def We:=@Nat.lt_succ_of_lt
def Wf:=@List.length_eq_zero_iff
def Wg:=@List.pairwise_singleton
def Wh:=@PySem.wpAny_rule
def Wi:=@PyProof.Rows.vals1
def Wj:=@PySem.F.slot_str_split
def Wk:=@PySem.F.type_str_split
def Wl:=@PySem.wpAny_setField_rec
def Wm:=@PySem.wpAny_passesOwn
def Wn:=@List.length_replicate
def Wp:=@PySem.F.slot_tuple_iterator_next
def Wq:=@List.flatten_cons
def Wr:=@Array.getElem?_eq_getElem
def Ws:=@Nat.le_succ
def Wt:=@PySem.sizeLine_eq
def Wu:=@Nat.ne_of_gt
def Wv:=@List.take_length
def Ww:=@PySem.AutoSeq1.wpAny_loadPart'
def Wx:=@List.set_set
def Wy:=@PySem.F.slot_list_append
def Wz:=@PySem.F.type_list_append
def V0:=@beq_eq_false_iff_ne
def V1:=@PySem.mem_of_lookup
def V2:=@PySem.Heap.SameBut.update
def V3:=@List.getElem?_replicate
def V4:=@PySem.F.plainAttrs_list
def V5:=@PySem.wpAny_Call_Name_kw
def V6:=@PySem.typeIs_int
def V7:=@PySem.wpAny_updateSeq
def V8:=@of_decide_eq_false
def V9:=@Sum.inl.inj
def Va:=@List.take_append_drop
def Vb:=@PyProof.Rows.getD_mem'
def Vc:=@beq_iff_eq
def Vd:=@PySem.call_meets
def Ve:=@Nat.succ_ne_self
def Vf:=@List.length_dropLast
def Vg:=@Nat.mul_le_mul_right
def Vh:=@List.filter_cons
def Vi:=@List.all_cons
def Vj:=@Bool.true_and
def Vk:=@PySem.wpAny_of_eq
def Vl:=@Array.toList_append
def Vm:=@List.drop_eq_getElem_cons
def Vn:=@PySem.wpAny_pyIter_tuple
def Vo:=@PySem.F.args_tuple_add_2
def Vp:=@Nat.succ_mul
def Vq:=@Nat.mul_comm
def Vr:=@PySem.tupleKind_room_in1
def Vs:=@byRow2
def Vt:=@PySem.F.entry_tuple_add
def Vu:=@Nat.toDigits_of_lt_base
def Vv:=@Nat.lt_of_succ_lt
def Vw:=@PyProof.noPylong_small
def Vx:=@PySem.F.slot_tuple_add
def Vy:=@List.take_of_length_le
def Vz:=@Option.getD_none
def U0:=@PySem.F.entry_min_loop
def U1:=@PySem.F.entry_max_loop
def U2:=@List.mem_flatMap
def U3:=@PySem.Obj.isFreed_of_fields
def U4:=@PySem.F.slot_dict_get
def U5:=@Array.getElem?_toList
def U6:=@List.set_append_right
def U7:=@PySem.wpAny_execs_nil
def U8:=@List.nodup_cons
def U9:=@Nat.add_comm
def Ua:=@PySem.F.slot_int_rmul
def Ub:=@List.forIn_cons
def Uc:=@Bool.or_eq_true
def Ud:=@PySem.Walks.list
def Ue:=@PySem.wpAny_updateSeq_pair
def Uf:=@PySem.F.slot_zip_next
def Ug:=@Nat.succ_pos
def Uh:=@Nat.pow_succ
def Ui:=@List.set_append_left
def Uj:=@List.filterMap_cons
def Uk:=@plainGet_of
def Ul:=@ne_true_of_eq_false
def Um:=@List.map_eq_nil_iff
def Uo:=@List.drop_zero
def Up:=@List.take_succ
def Uq:=@PySem.intText_digits
def Ur:=@List.dropLast_concat_getLast
def Us:=@Int.le_refl
def Ut:=@PySem.Obj.data_mapFields
def Uu:=@PySem.Calls.spliced_cons
def Uv:=@callWith_K
def Uw:=@LawfulBEq.eq_of_beq
def Ux:=@PySem.F.args_tuple_mul_2
def Uy:=@List.getElem?_drop
def Uz:=@Int.emod_lt_of_pos
def Gc:=@Int.natAbs_natCast
def Go:=@PySem.F.slot_str_startswith
def M0:=@PySem.F.type_str_startswith
def M1:=@PySem.wpAny_attempt
def M3:=@Int.fdiv_eq_ediv_of_nonneg
def M4:=@Int.fmod_eq_emod_of_nonneg
def M5:=@PySem.wpAny_newList
def M6:=@PySem.wpAny_onRaise
def M7:=@List.exists_cons_of_ne_nil
def M8:=@Int.toNat_natCast
def M9:=@PySem.wpAny_Call_method
def Ma:=@PySem.F.entry_tuple_mul
def Mb:=@Nat.le_succ_of_le
def Mc:=@Nat.le_of_lt
def Md:=@PySem.codeAny_mono
def Me:=@PySem.wpAny_typeOf
def Mf:=@List.drop_length
def Mg:=@decide_false
def Mh:=@List.any_eq_true
def Mi:=@List.length_set
def Mj:=@List.foldl_cons
def Ml:=@Int.emod_nonneg
def Mm:=@List.map_append
def Mn:=@List.mem_range
def Mo:=@Bool.false_and
def Mp:=@List.find?_map
def Mq:=@Prod.ext
namespace Lw
open PySem
def top(i:Nat):Stmt:=PySem.Challenge.pw_plusless_k84_whole_desks.main.body.getD i (.Pass ⟨0,0,0,0⟩)
def hdI(s:Stmt)(j:Nat):Stmt:=match s with
 |.ClassDef _ _ _ body _ _ _ _ _ _ _=>body.getD j (.Pass ⟨0,0,0,0⟩)
 |_=>.Pass ⟨0,0,0,0⟩
def hdA(s:Stmt):Arguments:=match s with
 |.FunctionDef _ a _ _ _ _ _ _ _ _=>a
 |_=>{posonlyargs:=[],args:=[],vararg:=none,kwonlyargs:=[],kw_defaults:=[],kwarg:=none,defaults:=[]}
def hdB(s:Stmt):List Stmt:=match s with
 |.FunctionDef _ _ b _ _ _ _ _ _ _=>b
 |_=>[]
def hdS(s:Stmt):Scope:=match s with
 |.FunctionDef _ _ _ _ _ _ sc _ _ _=>sc
 |_=>{kind:=.function,names:=[],isGenerator:=false,isCoroutine:=false}
def hE(P:Params)(n:Str)(t:Tok)(v:Value):DictEntry:={hash:=PyData.keyHash P n,key:=.str n t,val:=v}
def hF(n:Str)(i:Nat)(m:Str)(t:Tok)(c:Addr):Obj:={cls:=.type "function",data:=.func {name:=n,qualname:=n,params:=hdA (top i),body:=.stmts (hdB (top i)),scope:=hdS (top i),globals:=3,closure:=[],defaults:=.none,kwdefaults:=.none,pyModule:=.str m t,code:=.ref c}}
def hC(n:Str)(t0 t1 t2:Tok)(a b c d e:Int)(r0:Value)(f:Int)(r1 r2 r3 r4 r5:Value)(g h:Int)(t3:Tok):Obj:={cls:=.type "code",data:=.fields #[.str n t0,.str n t1,.str "/claim/cut.py" t2,.int a 0,.int b 0,.int c 0,.int d 0,.int e 0,r0,.bool true,.int f 0,r1,r2,r3,r4,r5,.int g 0,.int h 0,.str "/claim/cut.py" t3]}
def hM(n q:Str)(i j:Nat)(m:Str)(t:Tok)(c:Addr):Obj:={cls:=.type "function",data:=.func {name:=n,qualname:=q,params:=hdA (hdI (top i) j),body:=.stmts (hdB (hdI (top i) j)),scope:=hdS (hdI (top i) j),globals:=3,closure:=[],defaults:=.none,kwdefaults:=.none,pyModule:=.str m t,code:=.ref c}}
def hC2(q n:Str)(t0 t1 t2:Tok)(a b c d e:Int)(r0:Value)(f:Int)(r1 r2 r3 r4 r5:Value)(g h:Int)(t3:Tok):Obj:={cls:=.type "code",data:=.fields #[.str n t0,.str q t1,.str "/claim/cut.py" t2,.int a 0,.int b 0,.int c 0,.int d 0,.int e 0,r0,.bool true,.int f 0,r1,r2,r3,r4,r5,.int g 0,.int h 0,.str "/claim/cut.py" t3]}
def hG(n:Str)(i:Nat):Obj:={cls:=.none,data:=.func {name:=n,qualname:=n,params:=hdA (top i),body:=.stmts (hdB (top i)),scope:=hdS (top i),globals:=0,closure:=[],defaults:=.none,kwdefaults:=.none}}
def hG2(n q:Str)(i j:Nat):Obj:={cls:=.none,data:=.func {name:=n,qualname:=q,params:=hdA (hdI (top i) j),body:=.stmts (hdB (hdI (top i) j)),scope:=hdS (hdI (top i) j),globals:=0,closure:=[],defaults:=.none,kwdefaults:=.none}}
def hq0:Obj:={cls:=.type "tuple",data:=.seq #[]}
def hq1:Obj:={cls:=.none,data:=.fields #[]}
def hq2(x1 x2 x3:Nat)(y0:Str):Obj:={cls:=.type "code",data:=.fields #[.str y0 x1,.str y0 (x1+1),.str "/claim/cut.py" (x1+2),.int (.ofNat x2) 0,.int 0 0,.int 0 0,.int 0 0,.int 0 0,.ref x3,.bool false,.int 181 0,.ref (x3+1),.none,.none,.none,.none,.int (.ofNat (x1+3)) 0,.int (.ofNat x2) 0,.str "/claim/cut.py" (x1+4)]}
def ZZ(x0 x1 x3:Nat)(y2:Str):Obj:={cls:=.type "frame",slots:=#[some (.ref x0),some (.ref 3),some (.ref x1),none,some (.str y2 x3),none,some (.ref 0)]}
def Rn(x1 x2 x3 x4 x5:Nat)(y0:Str):Obj:=hC y0 x1 (x1+1) (x1+2) (.ofNat x2) (.ofNat x3) 0 0 3 (.ref x4) 181 (.ref (x4+1)) .none (.ref (x4+2)) (.ref (x4+3)) (.ref (x4+4)) (.ofNat x5) (.ofNat x2) (x5+1)
def hq5:Obj:={cls:=.type "builtin_function_or_method",data:=.fields #[.builtin "type.__prepare__",.type "type"]}
def hq6(P:Params)(x0 x2 x3:Nat)(y1:Str):Obj:={cls:=.type "dict",data:=.dict #[hE P "__module__" x0 (.str "plusless.errors" 194),hE P "__qualname__" (x0+2) (.str y1 (x0+1)),hE P "__firstlineno__" (x0+4) (.int (.ofNat x2) (x0+3)),hE P "__static_attributes__" (x0+5) (.ref x3)] 4}
def hq7(x0:Nat):Obj:={cls:=.type "super",data:=.fields #[.ref x0,.ref x0,.ref x0]}
def hq8(x0:Nat):Obj:={cls:=.type "builtin_function_or_method",data:=.fields #[.builtin "object.__init_subclass__",.ref x0]}
def hq9:Obj:={cls:=.type "tuple",data:=.seq #[.ref 31]}
def Bd(P:Params)(x0 x1 x2:Nat):Obj:={cls:=.type "dict",data:=.dict #[hE P "__module__" x0 (.str "plusless.errors" 194),hE P "__firstlineno__" (x0+4) (.int (.ofNat x1) (x0+3)),hE P "__static_attributes__" (x0+5) (.ref x2),hE P "__doc__" (x0+6) .none] 2}
def Be(x1 x2:Nat)(y0:Str):Obj:={cls:=.type "type",data:=.cls {name:=y0,bases:=[.ref 31],mro:=[.ref (x1+9),.ref 31,.type "ValueError",.type "Exception",.type "BaseException",.type "object"],ns:=(x1+8),qualname:=y0},slots:=#[some (.ref x1),none,some (.str y0 x2),some (.str y0 (x2+8)),some (.builtin "ValueError.__new__"),some (.bool true)]}
def jI(x1 x2 x3 x4:Nat)(y0:Str):Obj:=hC y0 x1 (x1+1) (x1+2) (.ofNat x2) (.ofNat x3) 0 0 3 (.ref x4) 181 (.ref (x4+1)) .none .none .none (.ref (x4+2)) (.ofNat (x1+3)) (.ofNat x2) (x1+4)
def yi(x2 x3 x4 x5 x6:Nat)(y0 y1:Str):Obj:=hC2 y0 y1 x2 (x2+1) (x2+2) (.ofNat x3) (.ofNat x4) 0 0 3 (.ref x5) 181 (.ref (x5+1)) .none (.ref (x5+2)) (.ref (x5+3)) (.ref (x5+4)) (.ofNat x6) (.ofNat x3) (x6+1)
def JF(x1 x2:Nat)(y0:Str):Obj:={cls:=.type "type",data:=.cls {name:=y0,bases:=[.type "object"],mro:=[.ref (x1+1),.type "object"],ns:=x1,qualname:=y0},slots:=#[none,none,some (.str y0 x2),some (.str y0 (x2+8)),some (.builtin "object.__new__"),some (.bool true)]}
def hK:Params->Frag:=λP=>(nat_lit 2,{cls:=.none,data:=.dict #[]})::
 (nat_lit 3,{cls:=.type "dict",data:=.dict #[hE P "__name__" 165 (.str "law_plusless_k84_whole_desks" 934),hE P "__doc__" 166 .none,hE P "__package__" 167 .none,hE P "__loader__" 168 (.builtin "__main__.__loader__#opaque"),hE P "__spec__" 169 .none,hE P "__annotations__" 170 (.ref 6),hE P "__builtins__" 171 (.ref 4),hE P "__file__" 173 (.str "/claim/cut.py" 172),hE P "__cached__" 174 .none,hE P "_wall" 193 (.ref 21),hE P "PlusError" 213 (.ref 31),hE P "NoRow" 229 (.ref 44),hE P "NoNumber" 245 (.ref 56),hE P "NoSigns" 261 (.ref 68),hE P "TooMany" 277 (.ref 80),hE P "Bare" 293 (.ref 92),hE P "NoLine" 309 (.ref 104),hE P "NoText" 334 (.ref 123),hE P "LONGEST_ROW" 338 (.int 16 337),hE P "is_whole" 345 (.ref 132),hE P "are_whole" 351 (.ref 137),hE P "is_row" 357 (.ref 142),hE P "need_row" 364 (.ref 149),hE P "need_number" 371 (.ref 156),hE P "need_number_from" 379 (.ref 163),hE P "need_row_and_number" 387 (.ref 170),hE P "are_parts" 393 (.ref 175),hE P "are_so_many_signs" 399 (.ref 180),hE P "are_signs" 407 (.ref 187),hE P "need_parts" 415 (.ref 194),hE P "total" 422 (.ref 201),hE P "worth" 428 (.ref 206),hE P "SIGNS" 434 (.ref 207),hE P "stepped" 448 (.ref 214),hE P "table_of" 458 (.ref 221),hE P "halves_of" 468 (.ref 228),hE P "half_worths" 474 (.ref 233),hE P "many_met" 480 (.ref 238),hE P "firsts_stepped" 494 (.ref 245),hE P "firsts_of" 503 (.ref 252),hE P "first_met" 509 (.ref 257),hE P "walk" 522 (.ref 264),hE P "below" 528 (.ref 269),hE P "above" 534 (.ref 274),hE P "unevenness" 543 (.ref 281),hE P "TIMES_BY_PARTS" 547 (.int 2 546),hE P "TIMES_BY_SIGNS" 549 (.int 1 548),hE P "ahead_of_too_great" 559 (.ref 288),hE P "every_by_parts" 566 (.ref 295),hE P "every_by_signs" 573 (.ref 302),hE P "swings_stepped" 589 (.ref 309),hE P "least_swing" 598 (.ref 316),hE P "Keeper" 695 (.ref 394),hE P "MARK_OF" 708 (.ref 399),hE P "PART_OF" 719 (.ref 400),hE P "FIGURES" 721 (.str "0123456789" 720),hE P "PIECE" 723 (.int 60 722),hE P "figures_of" 732 (.ref 407),hE P "number_of" 743 (.ref 414),hE P "is_word" 749 (.ref 419),hE P "show" 755 (.ref 424),hE P "words_of" 762 (.ref 431),hE P "read" 773 (.ref 438),hE P "MOST_FIGURES" 777 (.int 30 776),hE P "row_text" 783 (.ref 443),hE P "total_text" 790 (.ref 450),hE P "even_text" 797 (.ref 457),hE P "swing_text" 804 (.ref 464),hE P "every_text" 811 (.ref 471),hE P "comes_text" 819 (.ref 478),hE P "ways_text" 827 (.ref 485),hE P "signs_text" 836 (.ref 492),hE P "number_or_none" 843 (.ref 499),hE P "near_text" 851 (.ref 506),hE P "CHANGED_ALONE" 854 (.ref 507),hE P "ASKED_ALONE" 865 (.ref 508),hE P "ASKED_OF_A_NUMBER" 874 (.ref 509),hE P "is_number_word" 880 (.ref 514),hE P "is_line" 887 (.ref 521),hE P "words_of_line" 895 (.ref 528),hE P "Desk" 933 (.ref 552),hE P "_law_box" 947 (.ref 563),hE P "_law_take" 957 (.ref 570),hE P "_law_all" 963 (.ref 575),hE P "_law_row" 969 (.ref 580),hE P "_law_turned" 979 (.ref 587),hE P "_law_signs_right" 991 (.ref 594),hE P "law" 997 (.ref 599)] 88})::
 (nat_lit 131,Rn 339 25 1 126 343 "is_whole")::
 (nat_lit 132,hF "is_whole" 12 "plusless.rows" 335 131)::
 (nat_lit 136,jI 346 27 2 133 "are_whole")::
 (nat_lit 137,hF "are_whole" 13 "plusless.rows" 335 136)::
 (nat_lit 141,jI 352 29 1 138 "is_row")::
 (nat_lit 142,hF "is_row" 14 "plusless.rows" 335 141)::
 (nat_lit 148,Rn 358 33 1 143 362 "need_row")::
 (nat_lit 149,hF "need_row" 15 "plusless.rows" 335 148)::
 (nat_lit 155,Rn 365 36 1 150 369 "need_number")::
 (nat_lit 156,hF "need_number" 16 "plusless.rows" 335 155)::
 (nat_lit 162,Rn 372 39 2 157 377 "need_number_from")::
 (nat_lit 163,hF "need_number_from" 17 "plusless.rows" 335 162)::
 (nat_lit 169,Rn 380 43 2 164 385 "need_row_and_number")::
 (nat_lit 170,hF "need_row_and_number" 18 "plusless.rows" 335 169)::
 (nat_lit 174,jI 388 46 2 171 "are_parts")::
 (nat_lit 175,hF "are_parts" 19 "plusless.rows" 335 174)::
 (nat_lit 179,jI 394 49 2 176 "are_so_many_signs")::
 (nat_lit 180,hF "are_so_many_signs" 20 "plusless.rows" 335 179)::
 (nat_lit 186,Rn 400 51 2 181 405 "are_signs")::
 (nat_lit 187,hF "are_signs" 21 "plusless.rows" 335 186)::
 (nat_lit 193,Rn 408 54 2 188 413 "need_parts")::
 (nat_lit 194,hF "need_parts" 22 "plusless.rows" 335 193)::
 (nat_lit 200,Rn 416 57 1 195 420 "total")::
 (nat_lit 201,hF "total" 23 "plusless.rows" 335 200)::
 (nat_lit 205,jI 423 60 2 202 "worth")::
 (nat_lit 206,hF "worth" 24 "plusless.rows" 335 205)::
 (nat_lit 207,{cls:=.type "tuple",data:=.seq #[.int (-1) 432,.int 1 433]})::
 (nat_lit 213,Rn 435 65 3 208 446 "stepped")::
 (nat_lit 214,hF "stepped" 27 "plusless.tables" 429 213)::
 (nat_lit 220,Rn 449 72 2 215 456 "table_of")::
 (nat_lit 221,hF "table_of" 28 "plusless.tables" 429 220)::
 (nat_lit 227,Rn 461 78 1 222 466 "halves_of")::
 (nat_lit 228,hF "halves_of" 30 "plusless.halves" 459 227)::
 (nat_lit 232,jI 469 81 1 229 "half_worths")::
 (nat_lit 233,hF "half_worths" 31 "plusless.halves" 459 232)::
 (nat_lit 237,jI 475 84 2 234 "many_met")::
 (nat_lit 238,hF "many_met" 32 "plusless.halves" 459 237)::
 (nat_lit 244,Rn 481 88 2 239 492 "firsts_stepped")::
 (nat_lit 245,hF "firsts_stepped" 33 "plusless.halves" 459 244)::
 (nat_lit 251,Rn 495 96 1 246 501 "firsts_of")::
 (nat_lit 252,hF "firsts_of" 34 "plusless.halves" 459 251)::
 (nat_lit 256,jI 504 101 2 253 "first_met")::
 (nat_lit 257,hF "first_met" 35 "plusless.halves" 459 256)::
 (nat_lit 263,Rn 510 106 2 258 520 "walk")::
 (nat_lit 264,hF "walk" 36 "plusless.halves" 459 263)::
 (nat_lit 268,jI 523 119 2 265 "below")::
 (nat_lit 269,hF "below" 37 "plusless.halves" 459 268)::
 (nat_lit 273,jI 529 122 2 270 "above")::
 (nat_lit 274,hF "above" 38 "plusless.halves" 459 273)::
 (nat_lit 280,Rn 537 126 1 275 541 "unevenness")::
 (nat_lit 281,hF "unevenness" 40 "plusless.evenness" 535 280)::
 (nat_lit 287,Rn 550 131 2 282 557 "ahead_of_too_great")::
 (nat_lit 288,hF "ahead_of_too_great" 44 "plusless.every" 544 287)::
 (nat_lit 294,Rn 560 138 1 289 564 "every_by_parts")::
 (nat_lit 295,hF "every_by_parts" 45 "plusless.every" 544 294)::
 (nat_lit 301,Rn 567 141 1 296 571 "every_by_signs")::
 (nat_lit 302,hF "every_by_signs" 46 "plusless.every" 544 301)::
 (nat_lit 308,Rn 576 145 2 303 587 "swings_stepped")::
 (nat_lit 309,hF "swings_stepped" 48 "plusless.inturn" 574 308)::
 (nat_lit 315,Rn 590 153 1 310 596 "least_swing")::
 (nat_lit 316,hF "least_swing" 49 "plusless.inturn" 574 315)::
 (nat_lit 329,yi 613 162 1 324 617 "Keeper.__init__" "__init__")::
 (nat_lit 330,hM "__init__" "Keeper.__init__" 51 0 "plusless.keeper" 599 329)::
 (nat_lit 336,yi 620 166 2 331 625 "Keeper.change" "change")::
 (nat_lit 337,hM "change" "Keeper.change" 51 1 "plusless.keeper" 599 336)::
 (nat_lit 343,yi 628 171 2 338 633 "Keeper.put" "put")::
 (nat_lit 344,hM "put" "Keeper.put" 51 2 "plusless.keeper" 599 343)::
 (nat_lit 350,yi 636 177 1 345 640 "Keeper.take" "take")::
 (nat_lit 351,hM "take" "Keeper.take" 51 3 "plusless.keeper" 599 350)::
 (nat_lit 364,yi 650 188 1 359 654 "Keeper.row" "row")::
 (nat_lit 365,hM "row" "Keeper.row" 51 5 "plusless.keeper" 599 364)::
 (nat_lit 393,{cls:=.type "dict",data:=.dict #[hE P "__module__" 608 (.str "plusless.keeper" 599),hE P "__firstlineno__" 612 (.int 160 611),hE P "__init__" 619 (.ref 330),hE P "change" 627 (.ref 337),hE P "put" 635 (.ref 344),hE P "take" 642 (.ref 351),hE P "back" 649 (.ref 358),hE P "row" 656 (.ref 365),hE P "worths_many" 663 (.ref 372),hE P "ways" 671 (.ref 379),hE P "first" 679 (.ref 386),hE P "times" 685 (.ref 391),hE P "__static_attributes__" 688 (.ref 392),hE P "__dict__" 690 (.ref 395),hE P "__weakref__" 692 (.ref 396),hE P "__doc__" 693 .none] 4})::
 (nat_lit 394,JF 393 601 "Keeper")::
 (nat_lit 399,{cls:=.type "dict",data:=.dict #[{hash:=1,key:=.int 1 698,val:=.str "+" 699},{hash:=0,key:=.int 0 700,val:=.str "." 701},{hash:=-2,key:=.int (-1) 703,val:=.str "-" 704}] 3})::
 (nat_lit 400,{cls:=.type "dict",data:=.dict #[hE P "+" 709 (.int 1 710),hE P "." 711 (.int 0 712),hE P "-" 713 (.int (-1) 715)] 3})::
 (nat_lit 406,Rn 724 207 1 401 730 "figures_of")::
 (nat_lit 407,hF "figures_of" 57 "plusless.texts" 696 406)::
 (nat_lit 413,Rn 733 214 1 408 741 "number_of")::
 (nat_lit 414,hF "number_of" 58 "plusless.texts" 696 413)::
 (nat_lit 418,jI 744 221 1 415 "is_word")::
 (nat_lit 419,hF "is_word" 59 "plusless.texts" 696 418)::
 (nat_lit 423,jI 750 225 2 420 "show")::
 (nat_lit 424,hF "show" 60 "plusless.texts" 696 423)::
 (nat_lit 430,Rn 756 228 1 425 760 "words_of")::
 (nat_lit 431,hF "words_of" 61 "plusless.texts" 696 430)::
 (nat_lit 437,Rn 763 230 1 432 771 "read")::
 (nat_lit 438,hF "read" 62 "plusless.texts" 696 437)::
 (nat_lit 442,jI 778 243 1 439 "row_text")::
 (nat_lit 443,hF "row_text" 65 "plusless.desk" 774 442)::
 (nat_lit 449,Rn 784 245 1 444 788 "total_text")::
 (nat_lit 450,hF "total_text" 66 "plusless.desk" 774 449)::
 (nat_lit 456,Rn 791 247 1 451 795 "even_text")::
 (nat_lit 457,hF "even_text" 67 "plusless.desk" 774 456)::
 (nat_lit 463,Rn 798 249 1 458 802 "swing_text")::
 (nat_lit 464,hF "swing_text" 68 "plusless.desk" 774 463)::
 (nat_lit 470,Rn 805 251 1 465 809 "every_text")::
 (nat_lit 471,hF "every_text" 69 "plusless.desk" 774 470)::
 (nat_lit 477,Rn 812 255 2 472 817 "comes_text")::
 (nat_lit 478,hF "comes_text" 70 "plusless.desk" 774 477)::
 (nat_lit 484,Rn 820 257 2 479 825 "ways_text")::
 (nat_lit 485,hF "ways_text" 71 "plusless.desk" 774 484)::
 (nat_lit 491,Rn 828 259 2 486 834 "signs_text")::
 (nat_lit 492,hF "signs_text" 72 "plusless.desk" 774 491)::
 (nat_lit 498,Rn 837 262 1 493 841 "number_or_none")::
 (nat_lit 499,hF "number_or_none" 73 "plusless.desk" 774 498)::
 (nat_lit 505,Rn 844 264 2 500 849 "near_text")::
 (nat_lit 506,hF "near_text" 74 "plusless.desk" 774 505)::
 (nat_lit 507,{cls:=.type "tuple",data:=.seq #[.str "take" 852,.str "back" 853]})::
 (nat_lit 508,{cls:=.type "dict",data:=.dict #[hE P "row" 855 (.ref 443),hE P "total" 856 (.ref 450),hE P "even" 857 (.ref 457),hE P "swing" 858 (.ref 464),hE P "every" 859 (.ref 471)] 5})::
 (nat_lit 509,{cls:=.type "dict",data:=.dict #[hE P "comes" 866 (.ref 478),hE P "ways" 867 (.ref 485),hE P "signs" 868 (.ref 492),hE P "near" 869 (.ref 506)] 4})::
 (nat_lit 513,jI 875 269 1 510 "is_number_word")::
 (nat_lit 514,hF "is_number_word" 78 "plusless.desk" 774 513)::
 (nat_lit 520,Rn 881 274 1 515 885 "is_line")::
 (nat_lit 521,hF "is_line" 79 "plusless.desk" 774 520)::
 (nat_lit 527,Rn 888 282 1 522 893 "words_of_line")::
 (nat_lit 528,hF "words_of_line" 80 "plusless.desk" 774 527)::
 (nat_lit 541,yi 908 291 1 536 912 "Desk.__init__" "__init__")::
 (nat_lit 542,hM "__init__" "Desk.__init__" 81 0 "plusless.desk" 774 541)::
 (nat_lit 548,yi 915 294 2 543 922 "Desk.say" "say")::
 (nat_lit 549,hM "say" "Desk.say" 81 1 "plusless.desk" 774 548)::
 (nat_lit 551,{cls:=.type "dict",data:=.dict #[hE P "__module__" 903 (.str "plusless.desk" 774),hE P "__firstlineno__" 907 (.int 289 906),hE P "__init__" 914 (.ref 542),hE P "say" 924 (.ref 549),hE P "__static_attributes__" 926 (.ref 550),hE P "__dict__" 928 (.ref 553),hE P "__weakref__" 930 (.ref 554),hE P "__doc__" 931 .none] 4})::
 (nat_lit 552,JF 551 896 "Desk")::
 (nat_lit 562,Rn 936 307 2 557 945 "_law_box")::
 (nat_lit 563,hF "_law_box" 83 "law_plusless_k84_whole_desks" 934 562)::
 (nat_lit 569,Rn 948 319 2 564 955 "_law_take")::
 (nat_lit 570,hF "_law_take" 84 "law_plusless_k84_whole_desks" 934 569)::
 (nat_lit 574,jI 958 323 2 571 "_law_all")::
 (nat_lit 575,hF "_law_all" 85 "law_plusless_k84_whole_desks" 934 574)::
 (nat_lit 579,jI 964 327 1 576 "_law_row")::
 (nat_lit 580,hF "_law_row" 86 "law_plusless_k84_whole_desks" 934 579)::
 (nat_lit 586,Rn 970 330 2 581 977 "_law_turned")::
 (nat_lit 587,hF "_law_turned" 87 "law_plusless_k84_whole_desks" 934 586)::
 (nat_lit 593,Rn 980 337 3 588 989 "_law_signs_right")::
 (nat_lit 594,hF "_law_signs_right" 88 "law_plusless_k84_whole_desks" 934 593)::
 (nat_lit 598,jI 992 345 1 595 "law")::
 (nat_lit 599,hF "law" 89 "law_plusless_k84_whole_desks" 934 598)::[]
def hA:List Addr:=[2,3,131,132,136,137,141,142,148,149,155,156,162,163,169,170,174,175,179,180,186,187,193,194,200,201,205,206,207,213,214,220,221,227,228,232,233,237,238,244,245,251,252,256,257,263,264,268,269,273,274,280,281,287,288,294,295,301,302,308,309,315,316,329,330,336,337,343,344,350,351,364,365,393,394,399,400,406,407,413,414,418,419,423,424,430,431,437,438,442,443,449,450,456,457,463,464,470,471,477,478,484,485,491,492,498,499,505,506,507,508,509,513,514,520,521,527,528,541,542,548,549,551,552,562,563,569,570,574,575,579,580,586,587,593,594,598,599]
def hV:Program:={PySem.Challenge.pw_plusless_k84_whole_desks with main:={PySem.Challenge.pw_plusless_k84_whole_desks.main with body:=[top 0,top 2,top 3,top 4,top 5,top 6,top 7,top 8,top 9,top 11,top 12,top 13,top 14,top 15,top 16,top 17,top 18,top 19,top 20,top 21,top 22,top 23,top 24,top 26,top 27,top 28,top 30,top 31,top 32,top 33,top 34,top 35,top 36,top 37,top 38,top 40,top 42,top 43,top 44,top 45,top 46,top 48,top 49,top 51,top 53,top 54,top 55,top 56,top 57,top 58,top 59,top 60,top 61,top 62,top 64,top 65,top 66,top 67,top 68,top 69,top 70,top 71,top 72,top 73,top 74,top 75,top 76,top 77,top 78,top 79,top 80,top 81,top 83,top 84,top 85,top 86,top 87,top 88,top 89]}}
def X4(P:Params):hA=(hK P).map (·.1):=by kernel_rfl
abbrev hX(s:Shared):Bool:=xlAt hV [] s&&recOk (RowW.records PySem.Challenge.rw_plusless_k84_whole_desks.row.toRowW) s
def hN:=@BT.node
def hz:=BT.nil
def hL(o:Obj):=BT.node o .nil .nil
def q2(P:Params):Obj:=hq2 182 1 11 "<module>"
def q3(P:Params):Obj:=ZZ 13 3 164 "__main__"
def t0T(P:Params):BT:=(hN (boot_o_0 P) (hN (boot_o_1 P) (hN (boot_o_3 P) (hL (boot_o_7 P)) (hL hq0)) (hN (boot_o_5 P) (hL (boot_o_9 P)) (hL (q2 P)))) (hN (boot_o_2 P) (hN (boot_o_4 P) (hL (boot_o_8 P)) (hL hq1)) (hN (boot_o_6 P) (hL (boot_o_10 P)) (hL (q3 P)))))
def t1T(P:Params):BT:=(hN (boot_o_0 P) (hN (boot_o_1 P) (hN {cls:=.type "dict",data:=.dict #[hE P "__name__" 165 (.str "plusless.errors" 194),hE P "__doc__" 166 .none,hE P "__package__" 167 .none,hE P "__loader__" 168 (.builtin "__main__.__loader__#opaque"),hE P "__spec__" 169 .none,hE P "__annotations__" 170 (.ref 6),hE P "__builtins__" 171 (.ref 4),hE P "__file__" 173 (.str "/claim/cut.py" 172),hE P "__cached__" 174 .none,hE P "_wall" 193 (.ref 21),hE P "PlusError" 213 (.ref 31),hE P "NoRow" 229 (.ref 44),hE P "NoNumber" 245 (.ref 56),hE P "NoSigns" 261 (.ref 68),hE P "TooMany" 277 (.ref 80),hE P "Bare" 293 (.ref 92),hE P "NoLine" 309 (.ref 104)] 17} (hN (boot_o_7 P) (hN hq0 (hN {cls:=.type "type",data:=.cls {name:="PlusError",bases:=[.type "ValueError"],mro:=[.ref 31,.type "ValueError",.type "Exception",.type "BaseException",.type "object"],ns:=30,qualname:="PlusError",subclasses:=[.ref 44,.ref 56,.ref 68,.ref 80,.ref 92,.ref 104]},slots:=#[some (.ref 22),none,some (.str "PlusError" 196),some (.str "PlusError" 204),some (.builtin "ValueError.__new__"),some (.bool true)]} (hL hq1) (hL hq9)) (hN hq9 (hL (Bd P 269 13 78)) hz)) (hN hq5 (hN hq1 (hL hq9) (hL (Bd P 301 17 102))) (hN (Bd P 237 9 54) (hL hq1) hz))) (hN hq0 (hN (hG "_wall" 0) (hN hq9 (hL (Bd P 253 11 66)) (hL hq1)) (hN hq1 (hL hq9) hz)) (hN (hq2 198 5 25 "PlusError") (hN (Bd P 221 7 42) (hL hq1) hz) (hN hq9 (hL (Bd P 285 15 90)) hz)))) (hN (boot_o_5 P) (hN (boot_o_9 P) (hN {cls:=.type "tuple",data:=.seq #[.str "k" 190]} (hN (hq7 31) (hL (ZZ 64 61 194 "plusless.errors")) (hL (hq6 P 301 17 102 "NoLine"))) (hN (hq6 P 237 9 54 "NoNumber") (hL (hq7 80)) hz)) (hN hq0 (hN (ZZ 40 37 194 "plusless.errors") (hL (hq6 P 269 13 78 "TooMany")) (hL (hq7 104))) (hN (hq7 56) (hL (ZZ 88 85 194 "plusless.errors")) hz))) (hN (q2 P) (hN (hF "_wall" 0 "__main__" 164 20) (hN (hq6 P 221 7 42 "NoRow") (hL (hq7 68)) (hL (ZZ 100 97 194 "plusless.errors"))) (hN (ZZ 52 49 194 "plusless.errors") (hL (hq6 P 285 15 90 "Bare")) hz)) (hN hq0 (hN (hq7 44) (hL (ZZ 76 73 194 "plusless.errors")) hz) (hN (hq6 P 253 11 66 "NoSigns") (hL (hq7 92)) hz))))) (hN (boot_o_2 P) (hN (boot_o_4 P) (hN (boot_o_8 P) (hN hq1 (hN {cls:=.type "getset_descriptor",data:=.fields #[.str "__weakref__" 209,.ref 31,.builtin "ExceptionGroup.__weakref__",.none]} (hL (hq2 248 11 62 "NoSigns")) (hL hq5)) (hN hq5 (hL (Be 71 262 "TooMany")) hz)) (hN (hq6 P 203 5 29 "PlusError") (hN (hq2 216 7 38 "NoRow") (hL hq5) (hL (Be 95 294 "NoLine"))) (hN (Be 47 230 "NoNumber") (hL (hq2 280 15 86 "Bare")) hz))) (hN {cls:=.none,data:=.fields #[.int 1 0,.int 0 0,.ref 20,.int 5 0,.int 0 0,.ref 27,.int 7 0,.int 0 0,.ref 40,.int 9 0,.int 0 0,.ref 52,.int 11 0,.int 0 0,.ref 64,.int 13 0,.int 0 0,.ref 76,.int 15 0,.int 0 0,.ref 88,.int 17 0,.int 0 0,.ref 100]} (hN (Rn 187 1 1 15 191 "_wall") (hN hq5 (hL (Be 59 246 "NoSigns")) (hL (hq2 296 17 98 "NoLine"))) (hN (hq2 232 9 50 "NoNumber") (hL hq5) hz)) (hN (ZZ 27 24 194 "plusless.errors") (hN (Be 35 214 "NoRow") (hL (hq2 264 13 74 "TooMany")) hz) (hN hq5 (hL (Be 83 278 "Bare")) hz)))) (hN (boot_o_6 P) (hN (boot_o_10 P) (hN hq0 (hN (hq8 31) (hL hq0) (hL hq0)) (hN hq0 (hL (hq8 80)) hz)) (hN hq1 (hN hq0 (hL hq0) (hL (hq8 104))) (hN (hq8 56) (hL hq0) hz))) (hN (q3 P) (hN {cls:=.type "tuple",data:=.seq #[.type "ValueError"]} (hN hq0 (hL (hq8 68)) (hL hq0)) (hN hq0 (hL hq0) hz)) (hN {cls:=.type "dict",data:=.dict #[hE P "__module__" 203 (.str "plusless.errors" 194),hE P "__firstlineno__" 207 (.int 5 206),hE P "__static_attributes__" 208 (.ref 29),hE P "__weakref__" 210 (.ref 32),hE P "__doc__" 211 .none] 3} (hN (hq8 44) (hL hq0) hz) (hN hq0 (hL (hq8 92)) hz))))))
abbrev hp:Program:=PySem.Challenge.rw_plusless_k84_whole_desks.row.prog
def yj:Env:={scope:=hp.main.scope,locals:=mainNs,globals:=mainNs,cells:=[],code:=.ref 13,frame:=some 14}
def hB:List Stmt:=behindTheImports hp
def Xd:Code:=Code.body hB yj
def hp0:Pos:=⟨0,0,0,0⟩
def hsT(t:BT)(n k:Nat)(os:OsState):SharedT:={tree:=t,n:=n,life:={},gens:=#[],drawn:={},toks:=k,os:=os}
def htg(w:World)(os:OsState):topGo treeTable hp w 11 (some (.ref 6)) 12 {heap:=boot_heap w.params,gens:=#[],drawn:=boot_drawn,toks:=boot_toks,os:=os} (topStub hp)=some ((hsT (t0T w.params) 15 187 os).abs,{cur:=denote treeTable (Code.body hB yj),code:=Xd,pos:=hp0,stack:=[topFrame hp0]}):=by kernel_rfl
def htb(w:World)(os:OsState):segRun treeTable hp w 11 (some (.ref 6)) 1 1 (hsT (t0T w.params) 15 187 os).abs (blockOf hB yj Xd hp0 [topFrame hp0])=some (Flow.next,(hsT (t0T w.params) 15 187 os).abs,Xd,hp0):=by kernel_rfl
abbrev hs(s:Shared):=openSeen hV ["MARK_OF","PART_OF","ASKED_ALONE","ASKED_OF_A_NUMBER"] (importedModules hp.main.body) hX true s
abbrev hg:=openGood hV ["MARK_OF","PART_OF","ASKED_ALONE","ASKED_OF_A_NUMBER"]
def hla(w:World)(s:Shared):=(staticsOk (importedModules hp.main.body) (boot_heap w.params) s.heap&&namesBound hp s.heap&&gensDone s&&laidKept (boot_heap w.params) s.heap,Hook.obs (kHook hK hA X4) s)
def hlb(w:World)(s:Shared):=(hs s).2.2.1
def hlc(w:World)(s:Shared):=(hs s).2.2.2.1
def hly(w:World)(s:Shared):=(hs s).2.2.2.2
def hld(w:World)(s:Shared):=(hs s).1
def hle(w:World)(s:Shared):=(hs s).2.1
def pc0(w:World)(os:OsState):segRunT treeTable hp w 11 (some (.ref 6)) 1 4300 (hsT (t0T w.params) 15 187 os) (piecesOf ((hB.drop 0).take 9) yj Xd hp0 [topFrame hp0])=some (Flow.next,hsT (t1T w.params) 107 310 os,Xd,⟨17,0,18,8⟩):=by kernel_rfl
def hr(w:World)(os:OsState):=segRunT treeTable hp w 11 (some (.ref 6)) 1 6100 (hsT (t1T w.params) 107 310 os) (piecesOf ((hB.drop 9).take 81) yj Xd ⟨17,0,18,8⟩ [topFrame hp0])
def hSa(w:World):Prop:=∀os,Option.map (λx=>(x.1,x.2.2.1,x.2.2.2,hla w x.2.1.abs)) (hr w os)=some (Flow.next,Xd,⟨345,0,372,15⟩,(true,Hook.val (kHook hK hA X4) w))
def JG(w:World):hSa (w.withFollow "special-get-raises" true):=λos=>by kernel_rfl
def JH(w:World):hSa (w.withFollow "special-get-raises" false):=λos=>by kernel_rfl
def JI(w:World):hSa w:=Vs "special-get-raises" (P:=hSa) JH JG w
def hSb(w:World):Prop:=∀os,Option.map (λx=>(x.1,x.2.2.1,x.2.2.2,hlb w x.2.1.abs)) (hr w os)=some (Flow.next,Xd,⟨345,0,372,15⟩,hg.2.2.1)
def JJ(w:World):hSb (w.withFollow "special-get-raises" true):=λos=>by kernel_rfl
def JK(w:World):hSb (w.withFollow "special-get-raises" false):=λos=>by kernel_rfl
def Le(w:World):hSb w:=Vs "special-get-raises" (P:=hSb) JK JJ w
def hSc(w:World):Prop:=∀os,Option.map (λx=>(x.1,x.2.2.1,x.2.2.2,hlc w x.2.1.abs)) (hr w os)=some (Flow.next,Xd,⟨345,0,372,15⟩,hg.2.2.2.1)
def JL(w:World):hSc (w.withFollow "special-get-raises" true):=λos=>by kernel_rfl
def JM(w:World):hSc (w.withFollow "special-get-raises" false):=λos=>by kernel_rfl
def Lf(w:World):hSc w:=Vs "special-get-raises" (P:=hSc) JM JL w
def hSy(w:World):Prop:=∀os,Option.map (λx=>(x.1,x.2.2.1,x.2.2.2,hly w x.2.1.abs)) (hr w os)=some (Flow.next,Xd,⟨345,0,372,15⟩,hg.2.2.2.2)
def hmy(w:World):hSy (w.withFollow "special-get-raises" true):=λos=>by kernel_rfl
def hny(w:World):hSy (w.withFollow "special-get-raises" false):=λos=>by kernel_rfl
def hoy(w:World):hSy w:=Vs "special-get-raises" (P:=hSy) hny hmy w
def hSd(w:World):Prop:=∀os,Option.map (λx=>(x.1,x.2.2.1,x.2.2.2,hld w x.2.1.abs)) (hr w os)=some (Flow.next,Xd,⟨345,0,372,15⟩,hg.1)
def JN(w:World):hSd (w.withFollow "special-get-raises" true):=λos=>by kernel_rfl
def JO(w:World):hSd (w.withFollow "special-get-raises" false):=λos=>by kernel_rfl
def Lg(w:World):hSd w:=Vs "special-get-raises" (P:=hSd) JO JN w
def hSe(w:World):Prop:=∀os,Option.map (λx=>(x.1,x.2.2.1,x.2.2.2,hle w x.2.1.abs)) (hr w os)=some (Flow.next,Xd,⟨345,0,372,15⟩,hg.2.1)
def JP(w:World):hSe (w.withFollow "special-get-raises" true):=λos=>by kernel_rfl
def JQ(w:World):hSe (w.withFollow "special-get-raises" false):=λos=>by kernel_rfl
def Lh(w:World):hSe w:=Vs "special-get-raises" (P:=hSe) JQ JP w
def htz(w:World)(s:Shared):topRun treeTable hp w 11 (some (.ref 6)) 2 s (restOf [] yj Xd ⟨345,0,372,15⟩ [topFrame hp0])=some s:=by kernel_rfl
def hsp:hB=((hB.drop 0).take 9++((hB.drop 9).take 81++[])):=by kernel_rfl
def left:LeftO hp hV ["MARK_OF","PART_OF","ASKED_ALONE","ASKED_OF_A_NUMBER"] hX (Hook.obs (kHook hK hA X4)) (Hook.val (kHook hK hA X4)) 12400:=λw=>by
 have o:=boot_open (p:=hp) (N:=12400) (by kernel_rfl) (by decide) (λs=>by kernel_rfl) w
 rcases fo:fencedOpening treeTable hp w 12400 with _|⟨b0,b1,b2,b3,os⟩<;>rw[fo]at o
 .cases o
 obtain⟨o1,o⟩:=Zp (Z8 o);obtain⟨o2,o⟩:=Zp o;obtain⟨o3,o4⟩:=Zp o;subst o1 o2 o3 o4;rcases ru:hr w os with _|⟨fl,s,cd,po⟩
 .have u:=JI w os;rw[ru]at u;cases u
 have u:=JI w os;rw[ru]at u;obtain⟨g1,u⟩:=Zp (Z8 u);obtain⟨g2,u⟩:=Zp u;obtain⟨g3,u⟩:=Zp u;obtain⟨l1,l3⟩:=Zp u;have j3:=Le w os;rw[ru]at j3;obtain⟨g1,j3⟩:=Zp (Z8 j3);obtain⟨g2,j3⟩:=Zp j3;obtain⟨g3,j3⟩:=Zp j3;have j4:=Lf w os;rw[ru]at j4;obtain⟨g1,j4⟩:=Zp (Z8 j4);obtain⟨g2,j4⟩:=Zp j4;obtain⟨g3,j4⟩:=Zp j4;have j5:=hoy w os;rw[ru]at j5;obtain⟨g1,j5⟩:=Zp (Z8 j5);obtain⟨g2,j5⟩:=Zp j5;obtain⟨g3,j5⟩:=Zp j5;have j1:=Lg w os;rw[ru]at j1;obtain⟨g1,j1⟩:=Zp (Z8 j1);obtain⟨g2,j1⟩:=Zp j1;obtain⟨g3,j1⟩:=Zp j1;have j2:=Lh w os;rw[ru]at j2;obtain⟨g1,j2⟩:=Zp (Z8 j2);obtain⟨g2,j2⟩:=Zp j2;obtain⟨g3,j2⟩:=Zp j2;have l2:hs s.abs=hg:=Mq j1 (Mq j2 (Mq j3 (Mq j4 j5)));subst g1 g2 g3
 have go:∀b,b=((hB.drop 0).take 9++((hB.drop 9).take 81++[]))->topRun treeTable hp w 11 (some (.ref 6)) (4300+(6100+2)) (hsT (t0T w.params) 15 187 os).abs (restOf b yj Xd hp0 [topFrame hp0])=some s.abs:=λb z=>by subst z;exact(piece_app (segRun_of (pc0 w os)) (piece_app (segRun_of ru) (htz w s.abs)))
 have r:topRun treeTable hp w 11 (some (.ref 6)) 12400 {heap:=boot_heap w.params,gens:=#[],drawn:=boot_drawn,toks:=boot_toks,os:=os} (topStub hp)=some s.abs:=topRun_mono 1985 _ _ _ _ (go_top (n:=12) (N:=1+(4300+(6100+2))) (htg w os) (piece_block (n:=1) (N:=(4300+(6100+2))) (htb w os) (go hB hsp)))
 have z1:((boot_heap w.params).isNs mainGlobals&&(#[]:Array GenState).size==0)=true:=by kernel_rfl
 have z2:(boot_heap w.params).objs.size=11:=by kernel_rfl
 have z3:(boot_heap w.params).nsMap mainGlobals "__annotations__"=some (.ref 6):=by kernel_rfl
 have tf:topFrom treeTable hp w 12400 {heap:=boot_heap w.params,gens:=#[],drawn:=boot_drawn,toks:=boot_toks,os:=os}=some s.abs:=by simp only[topFrom,z1,z2,z3,r,Option.bind_some,l1]
 unfold openEnds;rw[fo,Option.bind_some,tf];have l4:openSeen hV ["MARK_OF","PART_OF","ASKED_ALONE","ASKED_OF_A_NUMBER"] (importedModules hp.main.body) hX true s.abs=openGood hV ["MARK_OF","PART_OF","ASKED_ALONE","ASKED_OF_A_NUMBER"]:=l2
 show some (_,_)=some _
 rw[l4,show Hook.obs (kHook hK hA X4) s.abs=_ from l3]
end Lw
section
set_option Elab.async false
set_option linter.all false
set_option maxRecDepth 100000
namespace PySem
def ZO(o:Obj):Prop:=∃fs:Array Value,o.data=.fields fs/\fs[2]?=some .none
def Heap.Zat(h:Heap)(e:Addr):Prop:=∃o,h.get? e=some o/\ZO o
end PySem
namespace PySem
open PyProof.Rows
variable{ha:Addr}
def qW:entryFor table "proto.unchain" = some Builtin.«proto.unchain»:=entryFor_of_tree (by kernel_rfl)
def qX:plainId "proto.unchain" = true:=by decide +kernel
section
variable{prog:Program}{w:World}{A:Around}{E:Value->Shared->Prop}{s:Shared}
def Cy{ea:Addr}{Q:Value->Shared->Prop}(z:s.heap.Zat ha)(h:Q .none s):wpAny (model prog w) A (runValue (.builtin "proto.unchain" ⟨[.ref ea,.ref ha,.ref ha,.bool false],[]⟩)) Q E s:=by
 obtain⟨o,ho,fs,hd,h2⟩:=z;refine wpAny_runValue (Q5 qW ?_);rw[Zy qX _];unfold Builtin.«proto.unchain»;refine Y6 (Zm ho hd h2 ?_)
 rw[Y9 (by rfl)]
 refine Y6 (Yg ?_);exact Yg h
def Bf{α:Type}{ea:Addr}{o:Obj}{fs:Array Value}{Q:α->Shared->Prop}(hh:A.handled=some (.ref ha))(z:s.heap.Zat ha)(ne:ha≠ea)(he:s.heap.get? ea=some o)(hd:o.data=.fields fs)(hs:2<fs.size)
  (h:E (.ref ea) { s with heap:=s.heap.update ea (Obj.mapFields (λy=>y.setIfInBounds 2 (.ref ha))) }):wpAny (model prog w) A (raiseNew (.ref ea):Sem α) Q E s:=by
 unfold raiseNew;refine Y6 (wpAny_handled ?_);rw[hh];dsimp only
 rw[Y9 (by simpa using ne)]
 refine Y6 (Qs (Cy z ?_));refine Y6 ?_;show wpAny _ _ (setField (.ref ea) 2 (.ref ha)) _ _ s;exact wpAny_setField he hd hs (wpAny_throw h)
def Bg{it:Addr}{x left step:Int}{Q:Option Value->Shared->Prop}(hh:A.handled=some (.ref ha))(z:s.heap.Zat ha)(hit:IsRangeIter s.heap it x left step)(hl:left<=0)
  (k:∀h',Heap.ExtBut it s.heap h'->Q none { s with heap:=h' }):wpAny (model prog w) A (pyNext (.ref it)) Q E s:=by
 have ty:s.TypeIs (.ref it) "range_iterator":=⟨_,hit,rfl⟩
 have lta:ha<s.heap.objs.size:=let ⟨o,q,_⟩:=z;Yl q
 unfold pyNext;refine Y6 (M1 (Zw (name:=Str.ofString "__next__") ty F.slot_range_iterator_next (Qa F.slot_range_iterator_next ty F.entry_range_iterator_next ?_ (F.args_range_iterator_next_1 _))))
 show wpAny _ _ (field (.ref it) 0 >>= _) _ _ s;refine Y6 (Zm hit rfl (x:=rawInt x) rfl ?_);show wpAny _ _ (field (.ref it) 1 >>= _) _ _ s;refine Y6 (Zm hit rfl (x:=rawInt left) rfl ?_);show wpAny _ _ (field (.ref it) 2 >>= _) _ _ s;refine Y6 (Zm hit rfl (x:=rawInt step) rfl ?_)
 show wpAny _ _ (if left<=0 then _ else _) _ _ s
 rw[Y9 hl];refine Y6 (Wh ?_);refine Y6 ?_;show wpAny _ _ (newExc (.type "StopIteration") [] >>= _) _ _ _
 refine Y6 ?_;simp only[newExc,newTuple]
 refine Y6 (Zh ?_ (by size_fits))
 refine Y6 (m:=firstArgMember _ _) (Vk (a:=Value.none) (by first|rfl|(simp only[firstArgMember];rfl)) ?_)
 refine Zh ?_ (by size_fits)
 refine Bf (ha:=ha) (by first|exact hh|(show A.in1.handled=_;exact hh)) ?_ ?_ (Ye _ rfl) rfl ?_ ?_
 .obtain⟨o,q,r⟩:=z;exact⟨o,Y7 _ (Y7 _ q),r⟩
 .exact Yv (Ys lta (by rw[Z2];exact Ws _))
 .rw[Array.size_append];exact Ys (show 2<6 by decide) (Nat.le_add_right _ _)
 .dsimp only;generalize hfn:Obj.mapFields (λy=>y.setIfInBounds 2 (Value.ref ha))=fn;generalize hg:s.heap.push { cls:=Value.type "tuple",data:=Data.seq #[] }=g
  generalize hex:({ cls:=Value.type "StopIteration",data:=Data.fields (#[Value.ref s.heap.objs.size,Value.none,Value.none,Value.none,Value.bool false,Value.none]++ownMembersOf (Value.type "StopIteration") []) }:Obj)=ex
  have c0:ex.cls=.type "StopIteration":=by rw[<- hex]
  have d0:∃fs,ex.data=.fields fs:=⟨_,by rw[<- hex]⟩
  obtain⟨fs,d0⟩:=d0;have p0:(g.push ex).get? g.objs.size=some ex:=Ye g (U3 d0)
  have d1:(fn ex).data=.fields (fs.setIfInBounds 2 (.ref ha)):=by rw[<- hfn];exact Ut d0 _
  have c1:(fn ex).cls=.type "StopIteration":=by rw[<- hfn];exact(Obj.cls_mapFields _ _).trans c0
  have e1:((g.push ex).update g.objs.size fn).get? g.objs.size=some (fn ex):=Qj fn p0 (U3 d1);refine Y6 (wpAny_isInstance (T:="StopIteration") (b:=true) ⟨fn ex,e1,c1⟩ isSubtype_stop ?_)
  refine Yg (k _ λb o _ q=>?_)
  have q1:g.get? b=some o:=by rw[<- hg];exact Y7 _ q
  rw[Zc (g.push ex) fn (Wu (Yl q1))];exact Y7 ex q1
end
end PySem
namespace L2
open PySem PySem.Spec PyProof.Rows
variable{us:List Value}{u:Value}{a b C:Addr}{P:Program}{w:World}{h base:Heap}{i j:Nat}{x:Str}{e c tg:Expr}{A:Around}{s:Shared}{pos:Pos}{pins:List (Addr×Obj)}{qb:Bool}{fp:List Addr}{op:CmpOp}{mg:Str→Option Value}{fd:FuncData}{ps:List Str}{kindOf:Str→Option NameKind}
abbrev Key:=Sum Int Str
def pd:Key->Value->Bool
 |.inl k,v=>Value.isInt k v
 |.inr x,v=>Value.isStrOf x v
def Li(w:World):Key->Int
 |.inl k=>hashInt k
 |.inr x=>hashStr w x
theorem cj:∀{k:Key}{v:Value},pd k v=true->(∃i t,k=Sum.inl i/\v=Value.int i t)\/(∃x t,k=Sum.inr x/\v=Value.str x t)
 |.inl i,v,h=>by obtain⟨t,e⟩:=Value.isInt_shape (k:=i) (v:=v) h;exact .inl ⟨i,t,rfl,e⟩
 |.inr x,v,h=>by obtain⟨t,e⟩:=Value.isStrOf_shape (x:=x) (v:=v) h;exact .inr ⟨x,t,rfl,e⟩
def Bh(i:Int)(t:Tok):pd (.inl i) (.int i t)=true:=by simp[pd,Value.isInt]
def Bi(x:Str)(t:Tok):pd (.inr x) (.str x t)=true:=by simp[pd,Value.isStrOf]
def Hq(a b:Int):decide ((Sum.inl a:Key)=Sum.inl b)=(a == b):=by
 by_cases e:a=b
 .subst e;simp
 .have h:¬(Sum.inl a:Key)=Sum.inl b:=λq=>e (V9 q);rw[Yo h];exact(V0.mpr e).symm
def Hr(a b:Str):decide ((Sum.inr a:Key)=Sum.inr b)=decide (a=b):=by
 by_cases e:a=b
 .subst e;simp
 .have h:¬(Sum.inr a:Key)=Sum.inr b:=λq=>e (Sum.inr.inj q);rw[Yo h,Yo e]
def Hs(a:Int)(b:Str):decide ((Sum.inl a:Key)=Sum.inr b)=false:=Yo (λq=>nomatch q)
def Ht(a:Str)(b:Int):decide ((Sum.inr a:Key)=Sum.inl b)=false:=Yo (λq=>nomatch q)
def bA(prog:Program)(w:World):PySem.KeyKind prog w Key where
 is:=pd
 hash:=Li w
 inj:=λv a b ha hb=>by
  rcases cj ha with⟨i,t,rfl,rfl⟩|⟨x,t,rfl,rfl⟩
  .rcases cj hb with⟨j,u,rfl,e⟩|⟨y,u,rfl,e⟩
   .injection e with e1 _;rw[e1]
   .exact nomatch e
  .rcases cj hb with⟨j,u,rfl,e⟩|⟨y,u,rfl,e⟩
   .exact nomatch e
   .injection e with e1 _;rw[e1]
 byValue:=λk v h=>by rcases cj h with⟨i,t,rfl,rfl⟩|⟨x,t,rfl,rfl⟩<;>rfl
 pyHash:=λhv h=>by
  rcases cj hv with⟨i,t,rfl,rfl⟩|⟨x,t,rfl,rfl⟩
  .exact wpAny_pyHash_int h
  .exact wpAny_pyHash_str h
 eqBool:=λhu hv h=>by
  rcases cj hu with⟨i,t,rfl,rfl⟩|⟨x,t,rfl,rfl⟩
  .rcases cj hv with⟨j,u,rfl,rfl⟩|⟨y,u,rfl,rfl⟩
   .rw[Hq]at h;exact wpAny_eqBool_int h
   .rw[Hs]at h;exact SeqAt.EqAt.int_str i t y u _ _ _ _ h
  .rcases cj hv with⟨j,u,rfl,rfl⟩|⟨y,u,rfl,rfl⟩
   .rw[Ht]at h;exact SeqAt.EqAt.str_int x t j u _ _ _ _ h
   .rw[Hr]at h;exact wpAny_eqBool_str h
 «strs»:=λk x t v h=>by
  rcases cj h with⟨i,u,rfl,e⟩|⟨y,u,rfl,e⟩
  .exact nomatch e
  .injection e with e1 _;subst e1;cases v<;>rfl
def yk(prog:Program)(w:World)(k:Key)(v:Value):(bA prog w).is k v=pd k v:=rfl
def vR(prog:Program)(w:World)(i:Int)(t:Tok):(bA prog w).is (.inl i) (.int i t)=true:=Bh i t
def vS(prog:Program)(w:World)(x:Str)(t:Tok):(bA prog w).is (.inr x) (.str x t)=true:=Bi x t
inductive V where
 |non|bl (b:Bool)|int (i:Int)|str (x:Str)|Xl (b:Array UInt8)|flt (b:UInt64)|ref (a:Addr)|ty (n:String)
 deriving DecidableEq
def RelV:V->Value->Prop
 |.non,u=>u=Value.none
 |.bl b,u=>u=Value.bool b
 |.int i,u=>∃t,u=Value.int i t
 |.str x,u=>∃t,u=Value.str x t
 |.Xl b,u=>∃t,u=Value.bytes b t
 |.flt b,u=>∃t,u=Value.float b t
 |.ref a,u=>u=Value.ref a
 |.ty n,u=>u=Value.type n
abbrev Vals:List V->List Value->Prop:=Paired RelV
theorem Vals.length{xs:List V}(r:Vals xs us):xs.length=us.length:=Paired.length r
theorem Vals.get:∀{xs:List V}{us:List Value}{i:Nat}{x:V},Vals xs us->xs[i]?=some x->∃u,us[i]?=some u/\RelV x u
 |_,_,_,_,.nil,e=>by simp at e
 |_,_,0,_,.cons r _,e=>by simp at e;subst e;exact⟨_,rfl,r⟩
 |_,_,i+1,x,.cons _ t,e=>by
  obtain⟨u,h1,h2⟩:=Vals.get (i:=i) (x:=x) t (by simpa using e)
  exact⟨u,by simpa using h1,h2⟩
theorem Vals.set{x:V}(r:RelV x u):∀{xs:List V}{us:List Value}(i:Nat),Vals xs us->Vals (xs.set i x) (us.set i u)
 |_,_,_,.nil=>.nil
 |_,_,0,.cons _ t=>.cons r t
 |_,_,i+1,.cons q t=>.cons q (Vals.set r i t)
theorem Vals.append:∀{xs ys:List V}{us ws:List Value},Vals xs us->Vals ys ws->Vals (xs++ys) (us++ws)
 |_,_,_,_,.nil,s=>s
 |_,_,_,_,.cons r t,s=>.cons r (Vals.append t s)
theorem Vals.take:∀{xs:List V}{us:List Value}(n:Nat),Vals xs us->Vals (xs.take n) (us.take n)
 |_,_,0,_=>.nil
 |_,_,_+1,.nil=>.nil
 |_,_,n+1,.cons r t=>.cons r (Vals.take n t)
theorem Vals.drop:∀{xs:List V}{us:List Value}(n:Nat),Vals xs us->Vals (xs.drop n) (us.drop n)
 |_,_,0,r=>r
 |_,_,_+1,.nil=>.nil
 |_,_,n+1,.cons _ t=>Vals.drop n t
def jB:Option V->Option Value->Prop
 |some v,some u=>RelV v u
 |none,none=>True
 |_,_=>False
def KV{κ:Type}:List (κ×V)->List (κ×Value)->Prop:=Paired λ(p:κ×V)(q:κ×Value)=>p.1=q.1/\RelV p.2 q.2
def kV:Key->V
 |.inl i=>.int i
 |.inr x=>.str x
set_option genInjectivity false in
inductive HO where
 /-- a list -/
 |lst (xs:List V)
 /-- a tuple (never changes) -/
 |tup (xs:List V)
 /-- a dict whose keys are ints and texts;one whose keys are tuples of ints and texts (the empty one is both) -/
 |dK (kvs:List (Key×V))|dT (kvs:List (List Key×V))
 /-- a set of ints: its members,its size -/
 |set (S:Int->Bool) (n:Nat)
 /-- an instance of the class at C,its dict at dx,its attributes -/
 |ins (C dx:Addr) (fs:List (Str×V))
 /-- the dict of the instance at x -/
 |own (x:Addr)
 /-- the dict of an exception -/
 |xd (fs:List (Str×V))
 /-- a bound method,f of x -/
 |met (f x:Addr)
 /-- a range object lo,lo+1,.. below hi -/
 |rng (lo hi:Int)
 /-- a thing that is known to the object (the script;a dict while a loop walks it): read,never written while it is so -/
 |QX (o:Obj) (u:HO)
 /-- a code object's table -/
 |tbl (ps:Array Value)
 /-- any other thing,by what is true of its one object (a def of one's own: aaZ a S n:=HO.ext λh=>..) -/
 |ext (φ:Heap->Prop)
variable{o:HO}
abbrev Hp:=Addr->Option HO
variable{H:Hp}
def upd(H:Hp)(a:Addr)(o:HO):Hp:=λb=>if b=a then some o else H b
def aU:upd H a o a=some o:=by unfold upd;rw[Y9 rfl]
def aQ(h:b≠a):upd H a o b=H b:=by unfold upd;rw[Yj h]
def JR{u:HO}(h:H a=some o)(h':H b=some u)(d:o≠u):a≠b:=by intro e;subst e;rw[h]at h';exact d (Z8 h')
def aW(h:H a=some o)(h':H b=none):a≠b:=by intro e;subst e;rw[h]at h';cases h'
section
variable(P:Program)(w:World)
def ck(H:Hp)(h:Heap)(a:Addr):HO->Prop
 |.lst xs=>xs.length<=sizeLine/\∃(its:List Value)(n:Nat),Vals xs its/\h.get? a=some { cls:=.type "list",data:=.seq its.toArray n }
 |.tup xs=>xs.length<=sizeLine/\∃its:List Value,Vals xs its/\IsTup h a its.toArray
 |.dK kvs=>kvs.length<=sizeLine/\(a == sysModules)=false/\∃vs,KV kvs vs/\h.DictOf (bA P w) a vs
 |.dT kvs=>kvs.length<=sizeLine/\(a == sysModules)=false/\∃xs:List (List Key×Addr×Value),
   Paired (λ(p:List Key×V)(q:List Key×Addr×Value)=>p.1=q.1/\H q.2.1=some (.tup (p.1.map kV))/\RelV p.2 q.2.2) kvs xs/\
   ∃o es ep,h.get? a=some o/\o.ExactDict/\o.data=.dict es ep/\es.toList=xs.map (entryOfKey (tupleKind (bA P w)))/\(xs.map (·.1)).Nodup
 |.set S n=>h.SetOf (intKind P w) a S n
 |.ins C dx fs=>H dx=some (.own a)/\fs.length<=1000/\dx≠a/\h.get? a=some (instObj C dx)/\
   ∃mA,h.Ns1 dx mA/\(∀f,jB (fs.lookup f) (mA f))/\PySem.Within mA (fs.map (·.1))
 |.own _=>∃o,h.get? a=some o
 |.xd fs=>∃mA,h.Ns1 a mA/\∀f,jB (fs.lookup f) (mA f)
 |.rng lo hi=>∃t u v,h.get? a=some { cls:=.type "range",data:=.fields #[.int lo t,.int hi u,.int 1 v] }
 |.QX o u=>h.get? a=some o/\ck H h a u
 |.tbl ps=>h.get? a=some { cls:=.none,data:=.fields ps }
 |.met f x=>h.get? a=some (methodObj (.ref f) (.ref x))
 |.ext φ=>φ h/\(∃o,h.get? a=some o)/\∀h1 h2:Heap,φ h1->(∀o,h1.get? a=some o->h2.get? a=some o)->φ h2
def RN(H:Hp)(h:Heap):Prop:=∀a o,H a=some o->ck P w H h a o
end
section
variable{P:Program}{w:World}{H H':Hp}{h h':Heap}{a:Addr}{o:HO}
theorem ck.lt(x:ck P w H h a o):a<h.objs.size:=by
 cases o with
 |lst xs=>obtain⟨_,_,_,_,e⟩:=x;exact Yl e
 |tup xs=>obtain⟨_,_,_,p⟩:=x;exact p.lt
 |dK kvs=>obtain⟨_,_,_,_,o,_,_,e,_⟩:=x;exact Yl e
 |dT kvs=>obtain⟨_,_,_,_,o,_,_,e,_⟩:=x;exact Yl e
 |set S n=>obtain⟨o,_,_,_,e,_⟩:=x;exact Yl e
 |ins C dx fs=>obtain⟨_,_,_,e,_⟩:=x;exact Yl e
 |own y=>obtain⟨_,e⟩:=x;exact Yl e
 |xd fs=>obtain⟨_,⟨_,_,_,e,_⟩,_⟩:=x;exact Yl e
 |rng lo hi=>obtain⟨_,_,_,e⟩:=x;exact Yl e
 |QX ob u=>obtain⟨e,_⟩:=x;exact Yl e
 |tbl ps=>exact Yl (show h.get? a=some _ from x)
 |met f y=>exact Yl (show h.get? a=some _ from x)
 |ext φ=>obtain⟨_,⟨_,e⟩,_⟩:=x;exact Yl e
theorem Paired.aad{α β:Type}{F G:α->β->Prop}:∀{l₁:List α}{l₂:List β},Paired F l₁ l₂->(∀a b,F a b->G a b)->Paired G l₁ l₂
 |_,_,.nil,_=>.nil
 |_,_,.cons r t,f=>.cons (f _ _ r) (Paired.aad t f)
theorem ck.stay(x:ck P w H h a o)(k:∀b u,(b=a\/H b=some (.own a))->h.get? b=some u->h'.get? b=some u)
  (ho:∀b,H b=some (.own a)->H' b=some (.own a)) (ht:∀b xs,H b=some (.tup xs)->H' b=some (.tup xs)):ck P w H' h' a o:=by
 induction o with
 |lst xs=>obtain⟨z,its,n,r,e⟩:=x;exact⟨z,its,n,r,k _ _ (.inl rfl) e⟩
 |tup xs=>obtain⟨z,its,r,ob,e,c⟩:=x;exact⟨z,its,r,ob,k _ _ (.inl rfl) e,c⟩
 |dK kvs=>obtain⟨z,y,vs,r,ob,es,ep,e,c⟩:=x;exact⟨z,y,vs,r,ob,es,ep,k _ _ (.inl rfl) e,c⟩
 |dT kvs=>
  obtain⟨z,y,xs,r,ob,es,ep,e,c⟩:=x;exact⟨z,y,xs,Paired.aad r λp q z=>⟨z.1,ht _ _ z.2.1,z.2.2⟩,ob,es,ep,k _ _ (.inl rfl) e,c⟩
 |set S n=>obtain⟨ob,es,ep,t,e,c⟩:=x;exact⟨ob,es,ep,t,k _ _ (.inl rfl) e,c⟩
 |ins C dx fs=>
  obtain⟨d,z,ne,e,mA,⟨od,es,ep,e2,c⟩,r⟩:=x;exact⟨ho _ d,z,ne,k _ _ (.inl rfl) e,mA,⟨od,es,ep,k _ _ (.inr d) e2,c⟩,r⟩
 |own y=>obtain⟨ob,e⟩:=x;exact⟨ob,k _ _ (.inl rfl) e⟩
 |xd fs=>obtain⟨mA,⟨od,es,ep,e,c⟩,r⟩:=x;exact⟨mA,⟨od,es,ep,k _ _ (.inl rfl) e,c⟩,r⟩
 |rng lo hi=>obtain⟨t,u,v,e⟩:=x;exact⟨t,u,v,k _ _ (.inl rfl) e⟩
 |QX ob u ih=>obtain⟨e,q⟩:=x;exact⟨k _ _ (.inl rfl) e,ih q⟩
 |tbl ps=>
  have e:h.get? a=some { cls:=.none,data:=.fields ps }:=x;show h'.get? a=some { cls:=.none,data:=.fields ps };exact k a _ (.inl rfl) e
 |met f y=>
  have e:h.get? a=some (methodObj (.ref f) (.ref y)):=x;show h'.get? a=some (methodObj (.ref f) (.ref y));exact k a _ (.inl rfl) e
 |ext φ=>obtain⟨p,⟨o,e⟩,st⟩:=x;exact⟨st _ _ p λo q=>k _ _ (.inl rfl) q,⟨o,k _ _ (.inl rfl) e⟩,st⟩
theorem RN.lt(x:RN P w H h)(e:H a=some o):a<h.objs.size:=(x a o e).lt
def RN.fresh(x:RN P w H h)(e:h.objs.size<=a):H a=none:=by
 cases q:H a with
 |none=>rfl
 |some u=>exact absurd (Ys (x.lt q) e) (Qd _)
def RN.kept(x:RN P w H h)(k:∀b u,h.get? b=some u->h'.get? b=some u):RN P w H h':=λa o e=>
 (x a o e).stay (λb u _ q=>k b u q) (λ_ q=>q) λ_ _ q=>q
def RN.laid(x:RN P w H h)(k:∀b u,h.get? b=some u->h'.get? b=some u)(hp:h.objs.size<=a)(new:ck P w (upd H a o) h' a o):RN P w (upd H a o) h':=λb u e=>by
 have hn:=x.fresh hp;by_cases hb:b=a
 .subst hb;rw[aU]at e;cases e;exact new
 .rw[aQ hb]at e
  exact(x b u e).stay (λc v _ q=>k c v q) (λc q=>by rw[aQ (aW q hn)];exact q) λc xs q=>by rw[aQ (aW q hn)];exact q
end
def Rd(H:Hp)(a:Addr)(u:HO):Prop:=H a=some u \/ ∃o,H a=some (.QX o u)
def Rd.ok{u:HO}(r:Rd H a u)(x:RN P w H h):ck P w H h a u:=by
 rcases r with r|⟨o,r⟩
 .exact x a u r
 .obtain⟨_,q⟩:=x a _ r;exact q
def Mut:Option HO->Prop
 |some (.lst _)=>True
 |some (.dK _)=>True
 |some (.dT _)=>True
 |some (.set _ _)=>True
 |some (.ins _ _ _)=>True
 |some (.ext _)=>True
 |_=>False
section
variable{P:Program}{w:World}{H:Hp}{h h':Heap}{x e:Addr}{o':HO}
def RN.write(ok:RN P w H h)(mu:Mut (H x))(he:e=x\/H e=some (.own x))(k:∀b u,b≠e->h.get? b=some u->h'.get? b=some u)(heo:∃u,h'.get? e=some u)
  (new:ck P w (upd H x o') h' x o'):RN P w (upd H x o') h':=λb u q=>by
 have aan:∀c y,H c=some (.own y)->c≠x:=λc y r z=>by subst z;rw[r]at mu;exact mu
 have aaD:∀c xs,H c=some (.tup xs)->c≠x:=λc xs r z=>by subst z;rw[r]at mu;exact mu
 by_cases hb:b=x
 .subst hb;rw[aU]at q;cases q;exact new
 .rw[aQ hb]at q;by_cases hbe:b=e
  .have q':H b=some (.own x):=by
    rcases he with z|z
    .exact absurd (hbe.trans z) hb
    .rw[hbe];exact z
   rw[q]at q';cases q';obtain⟨v,hv⟩:=heo
   exact⟨v,by rw[hbe];exact hv⟩
  .refine(ok b u q).stay (λc v hc r=>k c v ?_ r) (λc r=>by rw[aQ (aan c b r)];exact r) λc xs r=>by rw[aQ (aaD c xs r)];exact r
   rcases hc with rfl|hc
   .exact hbe
   .rintro rfl;rcases he with z|z
    .exact aan c b hc z
    .rw[hc]at z;cases z;exact hb rfl
end
structure Un(fs ex:List Addr)(H H':Hp)(h h':Heap):Prop where
 keep:∀b o,h.get? b=some o->H b=none->b∉fs->b∉ex->h'.get? b=some o
 slot:∀b o,h.get? b=some o->H b=none->b∈fs->b∉ex->∃sl,h'.get? b=some { o with slots:=sl }
 free:∀b o,h.get? b=some o->H b=none->b∉ex->H' b=none
 there:∀b o,h.get? b=some o->b∉ex->∃o',h'.get? b=some o'
 tups:∀b xs,H b=some (.tup xs)->H' b=some (.tup xs)
 Ry:∀b o u,H b=some (.QX o u)->H' b=some (.QX o u)
 R0:∀b ps,H b=some (.tbl ps)->∃more,H' b=some (.tbl (ps++more))
section
variable{fs fs' ex ex':List Addr}{H H1 H2:Hp}{h h1 h2 h':Heap}{a x e:Addr}{o:HO}
def Un.any(u:Un fs ex H H1 h h1){ob:Obj}(q:h.get? b=some ob)(n:H b=none)(hx:b∉ex):∃sl,h1.get? b=some { ob with slots:=sl }:=by
 by_cases hb:b∈fs
 .exact u.slot b ob q n hb hx
 .exact⟨ob.slots,u.keep b ob q n hb hx⟩
def Un.trans(a:Un fs ex H H1 h h1)(b:Un fs ex H1 H2 h1 h2):Un fs ex H H2 h h2 where
 keep:=λc ob q n hc hx=>b.keep c ob (a.keep c ob q n hc hx) (a.free c ob q n hx) hc hx
 slot:=λc ob q n hc hx=>by obtain⟨sl,e1⟩:=a.slot c ob q n hc hx;obtain⟨sl',e2⟩:=b.slot c _ e1 (a.free c ob q n hx) hc hx;exact⟨sl',e2⟩
 free:=λc ob q n hx=>by obtain⟨o',e1⟩:=a.there c ob q hx;exact b.free c o' e1 (a.free c ob q n hx) hx
 there:=λc ob q hx=>by obtain⟨o',e1⟩:=a.there c ob q hx;exact b.there c o' e1 hx
 tups:=λc xs q=>b.tups c xs (a.tups c xs q)
 Ry:=λc ob xs q=>b.Ry c ob xs (a.Ry c ob xs q)
 R0:=λc ps q=>by
  obtain⟨m1,e1⟩:=a.R0 c ps q;obtain⟨m2,e2⟩:=b.R0 c _ e1
  exact⟨m1++m2,by rw[e2,Array.append_assoc]⟩
def Un.kept(k:∀b u,h.get? b=some u->h'.get? b=some u):Un fs ex H H h h':=
 ⟨λb ob q _ _ _=>k b ob q,λb ob q _ _ _=>⟨ob.slots,k b ob q⟩,λ_ _ _ n _=>n,λb ob q _=>⟨ob,k b ob q⟩,λ_ _ q=>q,λ_ _ _ q=>q,λ_ ps q=>⟨#[],by rw[q];simp⟩⟩
def Un.refl:Un fs ex H H h h:=Un.kept λ_ _ q=>q
def Un.laid(k:∀b u,h.get? b=some u->h'.get? b=some u)(hp:h.objs.size<=a)(hn:H a=none):Un fs ex H (upd H a o) h h' where
 keep:=λb u q _ _ _=>k b u q
 slot:=λb u q _ _ _=>⟨u.slots,k b u q⟩
 free:=λb u q n _=>by rw[aQ (Yv (Ys (Yl q) hp))];exact n
 there:=λb u q _=>⟨u,k b u q⟩
 tups:=λb xs q=>by rw[aQ (aW q hn)];exact q
 Ry:=λb u xs q=>by rw[aQ (aW q hn)];exact q
 R0:=λb ps q=>⟨#[],by rw[aQ (aW q hn),q];simp⟩
def Un.write(mu:Mut (H x))(he:e=x\/H e=some (.own x))(k:∀b u,b≠e->h.get? b=some u->h'.get? b=some u)(heo:∃u,h'.get? e=some u):Un fs ex H (upd H x o) h h':=by
 have hx:∀b,H b=none->b≠x:=λb n z=>by subst z;rw[n]at mu;exact mu
 have hb:∀b,H b=none->b≠e:=λb n z=>by
  subst z;rcases he with r|r
  .exact hx b n r
  .rw[n]at r;cases r
 have hm:∀b u,H b=some u->¬Mut (some u)->b≠x:=λb u q nm z=>by subst z;rw[q]at mu;exact nm mu
 refine⟨λb u q n _ _=>k b u (hb b n) q,λb u q n _ _=>⟨u.slots,k b u (hb b n) q⟩,λb u q n _=>by rw[aQ (hx b n)];exact n,λb u q _=>?_,
  λb xs q=>by rw[aQ (hm b _ q λz=>z)];exact q,λb u xs q=>by rw[aQ (hm b _ q λz=>z)];exact q,λb ps q=>⟨#[],by rw[aQ (hm b _ q λz=>z),q];simp⟩⟩
 by_cases hbe:b=e
 .subst hbe;exact heo
 .exact⟨u,k b u hbe q⟩
end
def trk(h:Heap)(H:Hp):List Addr:=(List.range h.objs.size).filter λa=>(H a).isSome
def tS(h:Heap)(H:Hp):Heap:=hideAll h (trk h H)
def Bj(h:Heap)(H:Hp):(tS h H).objs.size=h.objs.size:=hideAll_size _ _
def Cz{o:Obj}(e:h.get? b=some o)(n:H b=none):(tS h H).get? b=some o:=
 hideAll_get _ e λhm=>by have q:(H b).isSome=true:=(Z6.mp hm).2;rw[n]at q;simp at q
def E6{o:Obj}(e:(tS h H).get? b=some o):h.get? b=some o/\H b=none:=by
 have e':h.get? b=some o:=of_hideAll (trk h H) e;refine⟨e',?_⟩;cases q:H b with
 |none=>rfl
 |some x=>
  have hm:b∈trk h H:=Z6.mpr ⟨Mn.mpr (Yl e'),by simp[q]⟩
  have z:(tS h H).get? b=none:=hideAll_none (trk h H) hm;rw[z]at e;cases e
structure Mod(K:Frag)(mg:Str->Option Value)(base:Heap):Prop where
 kin:K.In base
 glob:base.Ns mainGlobals mg
 blt:∃mb,base.Ns builtinsNs mb/\∀x:Str,x ≠ "__name__"->mb x=bootBuiltins x
 nolimit:base.NoLimit
structure Cx where
 prog:Program
 w:World
 K:Frag
 mg:Str->Option Value
 base:Heap
 A:Around
 N:List Str
 s₀:Shared
 H₀:Hp
 env:Env
 outer:List Env
 stack:List Env
 ex:List Addr
 fn:Str->Bool
 calm:Bool
 pn:List (Addr×Obj)
 xe:Value->Shared->Prop
variable{X:Cx}
def frs(l:List Env):List Addr:=l.filterMap (·.frame)
abbrev Cx.fs(X:Cx):List Addr:=frs X.outer
def Vis(sc:Scope)(x:Str):Prop:=sc.names.lookup x=some .local\/sc.names.lookup x=some .cell\/sc.names.lookup x=some .free
def Loc(sc:Scope)(x:Str):Prop:=sc.names.lookup x=some .local\/sc.names.lookup x=some .cell
def Look(env:Env)(h:Heap)(m:Str->Option Value)(x:Str)(u:Value):Prop:=
 (env.kindOf x=some .local/\m x=some u)\/((env.kindOf x=some .cell\/env.kindOf x=some .free)/\∃c,env.cells.lookup x=some c/\h.IsCell c (some u))
structure Cx.Ok(X:Cx):Prop where
 mod:Mod X.K X.mg X.base
 kind:X.env.scope.kind=.function
 glob:X.env.globals=mainGlobals
 blt:X.env.builtins=builtinsNs
 above:X.s₀.heap.objs.size<=X.env.locals
 inj:∀x y c,X.env.cells.lookup x=some c->X.env.cells.lookup y=some c->x=y
 has:∀x,(X.env.kindOf x=some .cell\/X.env.kindOf x=some .free)->∃c,X.env.cells.lookup x=some c
 cab:∀x c,X.fn x=true->X.env.cells.lookup x=some c->X.s₀.heap.objs.size<=c
 hd:X.calm=true->X.A.handled=none
 frames:X.A.frames=some X.stack
 stk:X.stack=X.outer\/(X.stack=X.env::X.outer/\X.env.frame=some X.env.locals)
 exf:∀b∈X.ex,b≠X.env.locals/\∀x c,X.env.cells.lookup x=some c->c≠b
 bs:∀b o,X.base.get? b=some o->X.s₀.heap.get? b=some o/\X.H₀ b=none
 YJ:X.base.objs.size<=X.s₀.heap.objs.size
 Xr:∀b o,X.base.get? b=some o->b∉X.ex
 YK:∀b∈X.ex,b∉X.fs
 Ss:X.s₀.heap.FunFrames X.base X.outer
 frf:∀b∈X.fs,X.H₀ b=none
structure Inv(X:Cx)(pins:List (Addr×Obj))(σ:List (Option V))(H:Hp)(s:Shared):Prop where
 ok:X.Ok
 os:s.os=X.s₀.os
 bare:AllBare s.gens
 base:Un X.fs X.ex X.H₀ H X.s₀.heap s.heap
 loc:∃m,s.heap.Ns X.env.locals m/\∀(i:Nat)(x:Str)(v:V),X.N[i]?=some x->σ[i]?=some (some v)->Vis X.env.scope x->∃u,RelV v u/\Look X.env s.heap m x u
 cell:∀x c,X.env.cells.lookup x=some c->∃v,s.heap.IsCell c v
 free:H X.env.locals=none
 RJ:∀x c,X.env.cells.lookup x=some c->H c=none
 pin:∀p∈X.pn++pins,s.heap.get? p.1=some p.2/\H p.1=none/\p.1≠X.env.locals/\p.1∉X.fs/\∀v,p.2.data≠.cell v
 hok:RN X.prog X.w H s.heap
 len:σ.length=X.N.length
section
variable{X:Cx}{pins:List (Addr×Obj)}{σ:List (Option V)}{H H':Hp}{s:Shared}{h':Heap}
def Cx.Ok.aaE(ok:X.Ok){o:Obj}(e:X.base.get? b=some o):b∉X.fs:=λhb=>by have:=(ok.Ss.mem hb).1;rw[e]at this;cases this
theorem Inv.bs(I:Inv X pins σ H s):∀b o,X.base.get? b=some o->s.heap.get? b=some o/\H b=none:=λb o e=>
 ⟨I.base.keep b o (I.ok.bs b o e).1 (I.ok.bs b o e).2 (I.ok.aaE e) (I.ok.Xr b o e),I.base.free b o (I.ok.bs b o e).1 (I.ok.bs b o e).2 (I.ok.Xr b o e)⟩
def Inv.bk(I:Inv X pins σ H s):∀b o,X.base.get? b=some o->s.heap.get? b=some o:=λb o e=>(I.bs b o e).1
theorem Inv.mod(I:Inv X pins σ H s):Mod X.K X.mg X.base:=I.ok.mod
def Inv.RK(I:Inv X pins σ H s):X.K.In s.heap:=I.ok.mod.kin.keeps I.bk
theorem Inv.lt(I:Inv X pins σ H s):X.env.locals<s.heap.objs.size:=let ⟨_,hn,_⟩:=I.loc;hn.lt
def Inv.sz(I:Inv X pins σ H s):X.s₀.heap.objs.size<=s.heap.objs.size:=Yw I.ok.above (Mc I.lt)
def Inv.aaF(I:Inv X pins σ H s)(h:s.heap.objs.size<=a):a∉X.fs:=λhb=>by obtain⟨_,o,ho,_⟩:=I.ok.Ss.mem hb;exact absurd (Ys (Yl ho) (Yw I.sz h)) (Qd _)
def Inv.cne(I:Inv X pins σ H s):∀x c,X.env.cells.lookup x=some c->c≠X.env.locals:=λx c e z=>by obtain⟨v,o,ho,hd⟩:=I.cell x c e;obtain⟨m,⟨o',es,ep,ho',hd',_⟩,_⟩:=I.loc;rw[z,ho']at ho;cases ho;rw[hd']at hd;cases hd
theorem Inv.Ss(I:Inv X pins σ H s):s.heap.FunFrames X.base X.outer:=by
 have all:∀(l:List Env),(∀b∈frs l,b∈X.fs)->X.s₀.heap.FunFrames X.base l->s.heap.FunFrames X.base l:=by
  intro l
  induction l with
  |nil=>intro _ _;trivial
  |cons env r ih=>
   intro hs hl;obtain⟨hk,⟨L,o,hf,hn,ho,hd⟩,hr⟩:=hl
   have hL:L∈X.fs:=hs L (by unfold frs;rw[Uj,hf];exact Z4)
   obtain⟨sl,e⟩:=I.base.slot L o ho (I.ok.frf L hL) hL λz=>I.ok.YK L z hL
   exact⟨hk,⟨L,_,hf,hn,e,hd⟩,ih (λb hb=>hs b (by unfold frs;rw[Uj,hf];exact Z0 _ hb)) hr⟩
 exact all X.outer (λ_ hb=>hb) I.ok.Ss
theorem Inv.stack(I:Inv X pins σ H s):s.heap.FunFrames X.base X.stack:=by
 rcases I.ok.stk with e|⟨e,hf⟩
 .rw[e];exact I.Ss
 .rw[e];obtain⟨m,hn,_⟩:=I.loc
  refine .cons (by rw[I.ok.kind];decide) hf hn ?_ I.Ss
  exact Qv (Yw I.ok.YJ I.ok.above)
def Inv.R1(I:Inv X pins σ H s):∀b∈frs X.stack,b∈X.env.locals::X.fs:=λb hb=>by
 rcases I.ok.stk with e|⟨e,hf⟩
 .rw[e]at hb;exact Z0 _ hb
 .rw[e]at hb;unfold frs at hb;rw[Uj,hf]at hb;exact hb
def Inv.WT(I:Inv X pins σ H s):∀b∈frs X.stack,H b=none:=λb hb=>by
 rcases Yb.mp (I.R1 b hb) with e|hb
 .rw[e];exact I.free
 .obtain⟨_,o,ho,_⟩:=I.ok.Ss.mem hb;exact I.base.free b o ho (I.ok.frf b hb) λz=>I.ok.YK b z hb
def Inv.step{g':Array GenState}{t':Nat}{d':Drawn}{ch:List Addr}(I:Inv X pins σ H s)
  (hch:∀b∈ch,(b∈X.ex\/X.s₀.heap.objs.size<=b)/\b≠X.env.locals/\(∀x c,X.env.cells.lookup x=some c->c≠b)/\∀p∈X.pn++pins,p.1≠b)
  (keep:∀b o,b≠X.env.locals->b∉X.fs->b∉ch->s.heap.get? b=some o->H b=none->h'.get? b=some o)
  (slot:∀b o,b≠X.env.locals->b∈X.fs->b∉ch->s.heap.get? b=some o->H b=none->∃sl,h'.get? b=some { o with slots:=sl }) (free:∀b o,b∉ch->s.heap.get? b=some o->H b=none->H' b=none)
  (there:∀b o,b∉ch->s.heap.get? b=some o->∃o',h'.get? b=some o')
  (tups:∀b xs,H b=some (.tup xs)->H' b=some (.tup xs)) (Ry:∀b o u,H b=some (.QX o u)->H' b=some (.QX o u)) (R0:∀b ps,H b=some (.tbl ps)->∃more,H' b=some (.tbl (ps++more)))
  (ns:∀m,s.heap.Ns X.env.locals m->h'.Ns X.env.locals m) (hok:RN X.prog X.w H' h') (hg:AllBare g'):
  Inv X pins σ H' { s with heap:=h',gens:=g',drawn:=d',toks:=t' }:=by
 have neL:∀b o,X.s₀.heap.get? b=some o->b≠X.env.locals:=λb o e=>Yv (Ys (Yl e) I.ok.above)
 have Xm:∀b o,X.s₀.heap.get? b=some o->b∉X.ex->b∉ch:=λb o e hx hb=>by
  rcases(hch b hb).1 with z|z
  .exact hx z
  .exact absurd (Ys (Yl e) z) (Qd _)
 have cellK:∀x c,X.env.cells.lookup x=some c->∀v,s.heap.IsCell c v->h'.IsCell c v:=λx c e v ⟨o,ho,hd⟩=>by
  have nch:c∉ch:=λz=>(hch c z).2.2.1 x c e rfl;by_cases hc:c∈X.fs
  .obtain⟨sl,q⟩:=slot c o (I.cne x c e) hc nch ho (I.RJ x c e);exact⟨_,q,hd⟩
  .exact⟨o,keep c o (I.cne x c e) hc nch ho (I.RJ x c e),hd⟩
 refine⟨I.ok,I.os,hg,⟨λb o e n hb hx=>?_,λb o e n hb hx=>?_,λb o e n hx=>?_,λb o e hx=>?_,λb xs e=>tups b xs (I.base.tups b xs e),λb o xs e=>Ry b o xs (I.base.Ry b o xs e),λb ps e=>?_⟩,?_,λx c e=>?_,?_,λx c e=>?_,λp hp=>?_,hok,I.len⟩
 .exact keep b o (neL b o e) hb (Xm b o e hx) (I.base.keep b o e n hb hx) (I.base.free b o e n hx)
 .obtain⟨sl,e1⟩:=I.base.slot b o e n hb hx;obtain⟨sl',e2⟩:=slot b _ (neL b o e) hb (Xm b o e hx) e1 (I.base.free b o e n hx);exact⟨sl',e2⟩
 .obtain⟨o',e1⟩:=I.base.there b o e hx;exact free b o' (Xm b o e hx) e1 (I.base.free b o e n hx)
 .obtain⟨o',e1⟩:=I.base.there b o e hx;exact there b o' (Xm b o e hx) e1
 .obtain⟨m1,e1⟩:=I.base.R0 b ps e;obtain⟨m2,e2⟩:=R0 b _ e1
  exact⟨m1++m2,by rw[e2,Array.append_assoc]⟩
 .obtain⟨m,hn,hl⟩:=I.loc;refine⟨m,ns m hn,λi x v e1 e2 e3=>?_⟩;obtain⟨u,r,l⟩:=hl i x v e1 e2 e3;refine⟨u,r,?_⟩;rcases l with l|⟨k,c,e,z⟩
  .exact .inl l
  .exact .inr ⟨k,c,e,cellK x c e _ z⟩
 .obtain⟨v,z⟩:=I.cell x c e;exact⟨v,cellK x c e v z⟩
 .obtain⟨m,⟨o,_,_,ho,_⟩,_⟩:=I.loc;exact free _ o (λz=>(hch _ z).2.1 rfl) ho I.free
 .obtain⟨v,o,ho,hd⟩:=I.cell x c e;exact free c o (λz=>(hch c z).2.2.1 x c e rfl) ho (I.RJ x c e)
 .obtain⟨e,n,ne,nf,d⟩:=I.pin p hp;have nch:p.1∉ch:=λz=>(hch p.1 z).2.2.2 p hp rfl;exact⟨keep p.1 p.2 ne nf nch e n,free p.1 p.2 nch e n,ne,nf,d⟩
def Inv.un{t':Nat}(I:Inv X pins σ H s)(u:Un X.fs [] H H' s.heap h')(hok:RN X.prog X.w H' h'):Inv X pins σ H' { s with heap:=h',toks:=t' }:=by
 obtain⟨m,⟨o,es,ep,ho,r⟩,_⟩:=id I.loc
 obtain⟨sl,hL⟩:=u.any ho I.free (by simp)
 exact I.step (g':=s.gens) (d':=s.drawn) (ch:=[]) (λ_ z=>nomatch z) (λb o _ hb _ e n=>u.keep b o e n hb (by simp)) (λb o _ hb _ e n=>u.slot b o e n hb (by simp)) (λb o _ e n=>u.free b o e n (by simp)) (λb o _ e=>u.there b o e (by simp)) u.tups u.Ry u.R0 (λm' hm=>by
  obtain⟨o',es',ep',ho',r'⟩:=hm;rw[ho]at ho';cases ho'
  exact⟨_,es',ep',hL,r'⟩) hok I.bare
def Inv.call{g':Array GenState}{t':Nat}{d':Drawn}{ch:List Addr}(I:Inv X pins σ H s)(u:Un (frs X.stack) ch H H' s.heap h')(hok:RN X.prog X.w H' h')(hg:AllBare g')
  (hch:∀b∈ch,(b∈X.ex\/X.s₀.heap.objs.size<=b)/\b≠X.env.locals/\(∀x c,X.env.cells.lookup x=some c->c≠b)/\∀p∈X.pn++pins,p.1≠b):
  Inv X pins σ H' { s with heap:=h',gens:=g',drawn:=d',toks:=t' }:=by
 obtain⟨m,⟨o,es,ep,ho,r⟩,_⟩:=id I.loc;obtain⟨sl,hL⟩:=u.any ho I.free λz=>(hch _ z).2.1 rfl
 exact I.step (ch:=ch) hch (λb o hL hb hc e n=>u.keep b o e n (λz=>(Yb.mp (I.R1 b z)).elim hL hb) hc) (λb o _ _ hc e n=>u.any e n hc) (λb o hc e n=>u.free b o e n hc) (λb o hc e=>u.there b o e hc) u.tups u.Ry u.R0 (λm' hm=>by
  obtain⟨o',es',ep',ho',r'⟩:=hm;rw[ho]at ho';cases ho'
  exact⟨_,es',ep',hL,r'⟩) hok hg
def Inv.turned{t':Nat}{it:Addr}(I:Inv X pins σ H s)(k:∀b o,b≠it->s.heap.get? b=some o->h'.get? b=some o)(hn:H it=none)(hL:it≠X.env.locals)
  (h1:it∈X.ex\/X.s₀.heap.objs.size<=it) (h2:∀x c,X.env.cells.lookup x=some c->c≠it) (h3:∀p∈X.pn++pins,p.1≠it):Inv X pins σ H { s with heap:=h',toks:=t' }:=by
 have nit:∀b u,H b=some u->b≠it:=λb u e z=>by rw[z,hn]at e;cases e
 refine I.step (g':=s.gens) (d':=s.drawn) (ch:=[it]) (λb hb=>?_) (λb o _ _ hc e _=>k b o (λz=>hc (by simp[z])) e) (λb o _ _ hc e _=>⟨o.slots,k b o (λz=>hc (by simp[z])) e⟩) (λ_ _ _ _ n=>n)
  (λb o hc e=>⟨o,k b o (λz=>hc (by simp[z])) e⟩) (λ_ _ e=>e) (λ_ _ _ e=>e) (λb ps e=>⟨#[],by rw[e];simp⟩) (λm hm=>?_) (λb u e=>?_) I.bare
 .have e:b=it:=by simpa using hb
  subst e;exact⟨h1,hL,h2,h3⟩
 .obtain⟨o,es,ep,ho,r⟩:=hm;exact⟨o,es,ep,k _ o (Ne.symm hL) ho,r⟩
 .refine(I.hok b u e).stay (λc v hc q=>k c v ?_ q) (λ_ q=>q) λ_ _ q=>q;rcases hc with z|z
  .rw[z];exact nit b u e
  .exact nit c _ z
def Inv.tok(I:Inv X pins σ H s)(t:Nat):Inv X pins σ H { s with toks:=t }:=I.un (h':=s.heap) (t':=t) Un.refl I.hok
theorem Inv.kept{t':Nat}(I:Inv X pins σ H s)(k:∀b u,s.heap.get? b=some u->h'.get? b=some u):Inv X pins σ H { s with heap:=h',toks:=t' }:=I.un (Un.kept k) (I.hok.kept k)
theorem Inv.laid{t':Nat}(I:Inv X pins σ H s)(k:∀b u,s.heap.get? b=some u->h'.get? b=some u)(hp:s.heap.objs.size<=a)(new:ck X.prog X.w (upd H a o) h' a o):
  Inv X pins σ (upd H a o) { s with heap:=h',toks:=t' }:=I.un (Un.laid k hp (I.hok.fresh hp)) (I.hok.laid k hp new)
theorem Inv.write{x e:Addr}{o:HO}{t':Nat}(I:Inv X pins σ H s)(mu:Mut (H x))(he:e=x\/H e=some (.own x))(k:∀b u,b≠e->s.heap.get? b=some u->h'.get? b=some u)(heo:∃u,h'.get? e=some u)
  (new:ck X.prog X.w (upd H x o) h' x o):Inv X pins σ (upd H x o) { s with heap:=h',toks:=t' }:=I.un (Un.write mu he k heo) (I.hok.write mu he k heo new)
def Inv.WW{aaa:List (Addr×Obj)}(I:Inv X pins σ H s)(h:∀p∈aaa,s.heap.get? p.1=some p.2/\H p.1=none/\p.1≠X.env.locals/\p.1∉X.fs/\∀v,p.2.data≠.cell v):Inv X aaa σ H s:=
 ⟨I.ok,I.os,I.bare,I.base,I.loc,I.cell,I.free,I.RJ,λp hp=>(Yx.mp hp).elim (λz=>I.pin p (Zz _ z)) (h p),I.hok,I.len⟩
def vT{N:List Str}(hN:N.Nodup)(a:N[i]?=some x)(b:N[j]?=some x):i=j:=by obtain⟨h1,e1⟩:=Yc.mp a;obtain⟨h2,e2⟩:=Yc.mp b;exact(List.getElem_inj hN).mp (e1.trans e2.symm)
def rK{M:Model}{A:Around}{E:Value->Shared->Prop}{v:V}{Q:Unit->Shared->Prop}(I:Inv X pins σ H s)(hN:X.N.Nodup)(hi:X.N[i]?=some x)(hx:Loc X.env.scope x)(r:RelV v u)
  (h:∀s',Inv X pins (σ.set i (some v)) H s'->(∃a,Heap.SameBut a s.heap s'.heap/\(a=X.env.locals\/X.env.cells.lookup x=some a))->Q () s') (hf:X.fn x=true\/X.env.scope.names.lookup x=some .local):wpAny M A (storeName X.env x u) Q E s:=by
 obtain⟨m,hn,hl⟩:=id I.loc
 have hcls:(X.env.scope.kind == .class||(X.env.scope.kind == .module&&X.env.locals != X.env.globals))=false:=by rw[I.ok.kind];rfl
 have hiσ:i < σ.length:=by rw[I.len];exact(Yc.mp hi).1
 have cne:=I.cne
 have tracked:∀{a:Addr}{h':Heap},(∃o,s.heap.get? a=some o/\H a=none)->Heap.SameBut a s.heap h'->RN X.prog X.w H h':=λ{a h'} ha hs b ob e=>by
  obtain⟨_,_,hfree⟩:=ha;refine(I.hok b ob e).stay (λc w' hc q=>(hs.2 c ?_).trans q) (λ_ q=>q) λ_ _ q=>q;rintro rfl;rcases hc with rfl|hc
  .rw[hfree]at e;cases e
  .rw[hfree]at hc;cases hc
 rcases hx with hk|hk
 .refine wpAny_storeName_local hk hn (λh' hn' hs=>?_) hcls;obtain⟨oL,_,_,hoL,_⟩:=id hn
  refine h _ ⟨I.ok,I.os,I.bare,⟨λb o e n hb hx=>?_,λb o e n hb hx=>?_,I.base.free,λb o e hx=>?_,I.base.tups,I.base.Ry,I.base.R0⟩,⟨_,hn',λj y v' e1 e2 e3=>?_⟩,λy c e=>?_,I.free,I.RJ,λp hp=>?_,tracked ⟨oL,hoL,I.free⟩ hs,by simpa using I.len⟩ ⟨_,hs,.inl rfl⟩
  .exact(hs.2 b (Yv (Ys (Yl e) I.ok.above))).trans (I.base.keep b o e n hb hx)
  .obtain⟨sl,e1⟩:=I.base.slot b o e n hb hx;exact⟨sl,(hs.2 b (Yv (Ys (Yl e) I.ok.above))).trans e1⟩
  .obtain⟨o',e1⟩:=I.base.there b o e hx;exact⟨o',(hs.2 b (Yv (Ys (Yl e) I.ok.above))).trans e1⟩
  .by_cases hj:j=i
   .subst hj;rw[hi]at e1;cases e1;rw[Z7 hiσ]at e2;cases e2
    exact⟨u,r,.inl ⟨hk,by simp⟩⟩
   .rw[Z3 (Ne.symm hj)]at e2;obtain⟨u',r',q⟩:=hl j y v' e1 e2 e3;refine⟨u',r',?_⟩;rcases q with⟨k,e⟩|⟨k,c,e,z⟩
    .refine .inl ⟨k,?_⟩;have:y≠x:=λe=>hj (vT hN e1 (e▸hi));simp[this,e]
    .exact .inr ⟨k,c,e,z.sameBut hs (cne y c e)⟩
  .obtain⟨w',z⟩:=I.cell y c e;exact⟨w',z.sameBut hs (cne y c e)⟩
  .obtain⟨e,n,ne,nf,d⟩:=I.pin p hp;exact⟨(hs.2 p.1 ne).trans e,n,ne,nf,d⟩
 .have hfn:X.fn x=true:=by
   rcases hf with z|z
   .exact z
   .rw[z]at hk;cases hk
  obtain⟨c,hc⟩:=I.ok.has x (.inl hk);obtain⟨w',z⟩:=I.cell x c hc;refine wpAny_storeName_cell I.ok.kind hk hc z (λh' hc' hs=>?_);obtain⟨oc,hoc,aaG⟩:=id z
  refine h { s with heap:=h' } ⟨I.ok,I.os,I.bare,⟨λb o e n hb hx=>?_,λb o e n hb hx=>?_,I.base.free,λb o e hx=>?_,I.base.tups,I.base.Ry,I.base.R0⟩,⟨m,hn.sameBut hs (Ne.symm (cne x c hc)),λj y v' e1 e2 e3=>?_⟩,λy c' e=>?_,I.free,I.RJ,λp hp=>?_,tracked ⟨oc,hoc,I.RJ x c hc⟩ hs,by simpa using I.len⟩ ⟨c,hs,.inr hc⟩
  .exact(hs.2 b (Yv (Ys (Yl e) (I.ok.cab x c hfn hc)))).trans (I.base.keep b o e n hb hx)
  .obtain⟨sl,e1⟩:=I.base.slot b o e n hb hx;exact⟨sl,(hs.2 b (Yv (Ys (Yl e) (I.ok.cab x c hfn hc)))).trans e1⟩
  .obtain⟨o',e1⟩:=I.base.there b o e hx;exact⟨o',(hs.2 b (Yv (Ys (Yl e) (I.ok.cab x c hfn hc)))).trans e1⟩
  .by_cases hj:j=i
   .subst hj;rw[hi]at e1;cases e1;rw[Z7 hiσ]at e2;cases e2;exact⟨u,r,.inr ⟨.inl hk,c,hc,hc'⟩⟩
   .rw[Z3 (Ne.symm hj)]at e2;obtain⟨u',r',q⟩:=hl j y v' e1 e2 e3;refine⟨u',r',?_⟩;rcases q with q|⟨k,c',e,z'⟩
    .exact .inl q
    .refine .inr ⟨k,c',e,z'.sameBut hs ?_⟩;rintro rfl;exact hj (vT hN e1 (I.ok.inj _ _ _ e hc▸hi))
  .by_cases hcc:c'=c
   .subst hcc;exact⟨_,hc'⟩
   .obtain⟨w2,z2⟩:=I.cell y c' e;exact⟨w2,z2.sameBut hs hcc⟩
  .obtain⟨e,n,ne,nf,d⟩:=I.pin p hp;refine⟨(hs.2 p.1 ?_).trans e,n,ne,nf,d⟩;intro q;rw[q,hoc]at e;have q':oc=p.2:=Z8 e
   exact d w' (by rw[<- q'];exact aaG)
def vU{M:Model}{A:Around}{E:Value->Shared->Prop}{v:V}{Q:Unit->Shared->Prop}(I:Inv X pins σ H s)(hN:X.N.Nodup)(hi:X.N[i]?=some x)(hx:Loc X.env.scope x)(r:RelV v u)
  (h:∀s',Inv X pins (σ.set i (some v)) H s'->Q () s') (hf:X.fn x=true\/X.env.scope.names.lookup x=some .local):wpAny M A (storeName X.env x u) Q E s:=
 rK I hN hi hx r (λs' I' _=>h s' I') hf
def Inv.call'{s':Shared}{ch:List Addr}(I:Inv X pins σ H s)(ho:s'.os=s.os)(u:Un (frs X.stack) ch H H' s.heap s'.heap)(hok:RN X.prog X.w H' s'.heap)(hg:AllBare s'.gens)
  (hch:∀b∈ch,(b∈X.ex\/X.s₀.heap.objs.size<=b)/\b≠X.env.locals/\(∀x c,X.env.cells.lookup x=some c->c≠b)/\∀p∈X.pn++pins,p.1≠b):Inv X pins σ H' s':=by
 obtain⟨h',g',d',t',o'⟩:=s';have e:o'=s.os:=ho;subst e;exact I.call (g':=g') (t':=t') (d':=d') u hok hg hch
end
abbrev XK:=Value->Option Addr->Hp->Prop
abbrev St:=List (Option V)
variable{σ:St}
abbrev VK:=V->Hp->Prop
abbrev TE:=St->Hp->VK->Prop
abbrev TT:=St->Hp->(Bool->Hp->Prop)->Prop
abbrev TA:=St->Hp->(List V->Hp->Prop)->Prop
set_option genInjectivity false in
structure Ends where
 nx:St->Hp->Prop
 rt:VK
 bk:St->Hp->Prop:=λ_ _=>False
 ct:St->Hp->Prop:=λ_ _=>False
abbrev TS:=Ends->St->Hp->Prop
def EP(X:Cx)(pins:List (Addr×Obj))(σ:St)(Q:VK)(u:Value)(s':Shared):Prop:=∃v H',Inv X pins σ H' s'/\RelV v u/\Q v H'
def TP(X:Cx)(pins:List (Addr×Obj))(σ:St)(Q:Bool->Hp->Prop)(b:Bool)(s':Shared):Prop:=∃H',Inv X pins σ H' s'/\Q b H'
def AP(X:Cx)(pins:List (Addr×Obj))(σ:St)(Q:List V->Hp->Prop)(us:List Value)(s':Shared):Prop:=∃vs H',Inv X pins σ H' s'/\Vals vs us/\Q vs H'
def SP(X:Cx)(pins:List (Addr×Obj))(D:Ends)(f:Flow)(s':Shared):Prop:=
 match f with
 |.next=>∃σ' H',Inv X pins σ' H' s'/\D.nx σ' H'
 |.brk=>∃σ' H',Inv X pins σ' H' s'/\D.bk σ' H'
 |.cont=>∃σ' H',Inv X pins σ' H' s'/\D.ct σ' H'
 |.ret u=>∃v σ' H',Inv X pins σ' H' s'/\RelV v u/\D.rt v H'
def PE(X:Cx)(e:Expr)(t:TE):Prop:=
 ∀(pins:List (Addr×Obj))(s:Shared)(σ:St)(H:Hp)(Q:VK),Inv X pins σ H s->t σ H Q->wpAny (model X.prog X.w) X.A (eval e X.env) (EP X pins σ Q) X.xe s
def PT(X:Cx)(e:Expr)(t:TT):Prop:=
 ∀(pins:List (Addr×Obj))(s:Shared)(σ:St)(H:Hp)(Q:Bool->Hp->Prop),Inv X pins σ H s->t σ H Q->wpAny (model X.prog X.w) X.A (isTrue e X.env (eval e X.env)) (TP X pins σ Q) X.xe s
def PW(X:Cx)(e:Expr)(t:TT):Prop:=
 ∀(whole:Sem Value)(pins:List (Addr×Obj))(s:Shared)(σ:St)(H:Hp)(Q:Bool->Hp->Prop),Inv X pins σ H s->t σ H Q->wpAny (model X.prog X.w) X.A (isTrue e X.env whole) (TP X pins σ Q) X.xe s
def PW.pt{t:TT}(h:PW X e t):PT X e t:=h _
def PA(X:Cx)(es:List Expr)(t:TA):Prop:=
 ∀(pos:Pos)(pins:List (Addr×Obj))(s:Shared)(σ:St)(H:Hp)(Q:List V->Hp->Prop),Inv X pins σ H s->t σ H Q->wpAny (model X.prog X.w) X.A (spliced (backTo pos (starEach es X.env))) (AP X pins σ Q) X.xe s
def PS(X:Cx)(st:Stmt)(t:TS):Prop:=
 ∀(pins:List (Addr×Obj))(s:Shared)(σ:St)(H:Hp)(D:Ends),Inv X pins σ H s->t D σ H->wpAny (model X.prog X.w) X.A (exec st X.env) (SP X pins D) X.xe s
def VH(X:Cx)(st:List Stmt)(t:TS):Prop:=
 ∀(pins:List (Addr×Obj))(s:Shared)(σ:St)(H:Hp)(D:Ends),Inv X pins σ H s->t D σ H->wpAny (model X.prog X.w) X.A (execs st X.env) (SP X pins D) X.xe s
def PX{α:Type}{t:Sem α}{Q Q':α->Shared->Prop}{M:Model}{E:Value->Shared->Prop}(h:wpAny M A t Q E s)(hQ:∀a s,Q a s->Q' a s):wpAny M A t Q' E s:=W3 h hQ λ_ _ x=>x
section
variable{X:Cx}
def JS(i:Nat):TE:=λσ H Q=>∃v,σ[i]?=some (some v)/\Q v H
def tC(v:V):TE:=λ_ H Q=>Q v H
def Hu(hN:X.N[i]?=some x)(hv:Vis X.env.scope x)(hd:(x == ("__debug__":Str))=false:=by decide)(hcd:(x == ("__classdict__":Str))=false:=by decide):PE X (.Name x pos) (JS i):=by
 intro pins s σ H Q I h;obtain⟨v,e,h⟩:=h;obtain⟨m,hn,hl⟩:=I.loc;obtain⟨u,r,l⟩:=hl i x v hN e hv;have fin:EP X pins σ Q u s:=⟨v,H,I,r,h⟩;rcases l with⟨hk,hm⟩|⟨hk,c,hc,hcell⟩
 .exact wpAny_Name (wpAny_loadName_local I.ok.kind hk hn hm fin) hd
 .rcases hk with hk|hk
  .exact wpAny_Name (wpAny_loadName_cell I.ok.kind hk hc hcell fin) hd
  .exact wpAny_Name (wpAny_loadName_free I.ok.kind hk hc hcell fin hcd) hd
def Hv{i j pos}:PE X (.Constant (.int i) j pos) (tC (.int i)):=λ_ _ _ H _ I h=>wpAny_Constant_int ⟨.int i,H,I.tok _,⟨_,rfl⟩,h⟩
def JT{b j pos}:PE X (.Constant (.bool b) j pos) (tC (.bl b)):=λ_ _ _ H _ I h=>Constant_bool ⟨.bl b,H,I,rfl,h⟩
def Hw{j pos}:PE X (.Constant .none j pos) (tC .non):=λ_ _ _ H _ I h=>Constant_none ⟨.non,H,I,rfl,h⟩
def Hx{x j pos}:PE X (.Constant (.str x) j pos) (tC (.str x)):=λ_ _ _ H _ I h=>Calls.Constant_str ⟨.str x,H,I.tok _,⟨_,rfl⟩,h⟩
def Gl(X:Cx)(x:Str):Prop:=X.env.kindOf x=some .globalImplicit
def tT{E:Value->Shared->Prop}{pos:Pos}{Q:Value->Shared->Prop}(I:Inv X pins σ H s)(hg:Gl X x)(hm:X.mg x=some u)(h:Q u s)
  (hd:(x == ("__debug__":Str))=false:=by decide):wpAny (model X.prog X.w) X.A (eval (.Name x pos) X.env) Q E s:=
 Calls.Name_function_global I.ok.kind hg (Calls.loadGlobal_global (by rw[I.ok.glob];exact I.mod.glob.keeps I.bk) hm h) hd
def i4{E:Value->Shared->Prop}{pos:Pos}{Q:Value->Shared->Prop}(I:Inv X pins σ H s)(hg:Gl X x)(hm:X.mg x=none)(hv:bootBuiltins x=some u)(h:Q u s)
  (hn:x ≠ "__name__":=by decide) (hd:(x == ("__debug__":Str))=false:=by decide):wpAny (model X.prog X.w) X.A (eval (.Name x pos) X.env) Q E s:=by
 obtain⟨mb,h1,h2⟩:=I.mod.blt
 exact Calls.Name_function_global I.ok.kind hg (Calls.loadGlobal_builtin (by rw[I.ok.glob];exact I.mod.glob.keeps I.bk) hm (by rw[I.ok.blt];exact h1.keeps I.bk) ((h2 x hn).trans hv) h) hd
def gn{v:V}(hg:Gl X x)(hm:X.mg x=some u)(r:RelV v u)(hd:(x == ("__debug__":Str))=false:=by decide):PE X (.Name x pos) (tC v):=
 λ_ _ _ H _ I h=>tT I hg hm ⟨v,H,I,r,h⟩ hd
def E7{v:V}(hg:Gl X x)(hm:X.mg x=none)(hv:bootBuiltins x=some u)(r:RelV v u)(hn:x ≠ "__name__":=by decide)(hd:(x == ("__debug__":Str))=false:=by decide):PE X (.Name x pos) (tC v):=
 λ_ _ _ H _ I h=>i4 I hg hm hv ⟨v,H,I,r,h⟩ hn hd
variable{a b:Expr}{ta tb:TE}{pos:Pos}
def tB(t:TE):TT:=λσ H Q=>t σ H λx H1=>∃c,x=.bl c/\Q c H1
def Hy{t:TE}(h:PE X e t)(he:∀whole,isTrue e X.env whole=(do let v <- whole;standAt e.pos;holding [v] (truthy v)):=by intro _;rfl):PT X e (tB t):=by intro pins s σ H Q I hw;refine isTrue_plain (PX (h pins s σ H _ I hw) λv s1 zq=>?_) (he _);obtain⟨x,H1,I1,r1,q1⟩:=zq;obtain⟨d,rfl,q⟩:=q1;cases r1;exact Qe ⟨H1,I1,q⟩
variable{tA tB':TT}{rest:List Expr}
def i5(t u:TT):TT:=λσ H Q=>t σ H λc H1=>if c=true then u σ H1 Q else Q false H1
def T8(t u:TT):TT:=λσ H Q=>t σ H λc H1=>if c=true then Q true H1 else u σ H1 Q
def fM(t:TT):TT:=λσ H Q=>t σ H λc H1=>Q (!c) H1
def E8(ha:PT X a tA):PW X (.BoolOp .And [a] pos) tA:=by
 intro wh pins s σ H Q I h;refine isTrue_and (PX (ha pins s σ H Q I h) λc s1 e=>?_);cases c with
 |true=>exact isTrue_and_nil e
 |false=>exact e
def Hz(ha:PT X a tA):PW X (.BoolOp .Or [a] pos) tA:=by
 intro wh pins s σ H Q I h;refine isTrue_or (PX (ha pins s σ H Q I h) λc s1 e=>?_);cases c with
 |false=>exact isTrue_or_nil e
 |true=>exact e
def HA(ha:PT X a tA)(hb:PW X (.BoolOp .And (b::rest) pos) tB'):PW X (.BoolOp .And (a::b::rest) pos) (i5 tA tB'):=by
 intro wh pins s σ H Q I h;refine isTrue_and (PX (ha pins s σ H _ I h) λc s1 zq=>?_);obtain⟨H1,I1,q1⟩:=zq;cases c with
 |true=>exact hb wh pins s1 σ H1 Q I1 q1
 |false=>exact⟨H1,I1,q1⟩
def JU(ha:PT X a tA)(hb:PW X (.BoolOp .Or (b::rest) pos) tB'):PW X (.BoolOp .Or (a::b::rest) pos) (T8 tA tB'):=by
 intro wh pins s σ H Q I h;refine isTrue_or (PX (ha pins s σ H _ I h) λc s1 zq=>?_);obtain⟨H1,I1,q1⟩:=zq;cases c with
 |true=>exact⟨H1,I1,q1⟩
 |false=>exact hb wh pins s1 σ H1 Q I1 q1
def HB(ha:PT X a tA):PT X (.UnaryOp .Not a pos) (fM tA):=by intro pins s σ H Q I h;exact isTrue_not (ha pins s σ H (λc H1=>Q (!c) H1) I h)
def JV(ta tb:TE):TE:=λσ H Q=>ta σ H λx H1=>∃c,x=.bl c/\if c=true then tb σ H1 Q else Q (.bl false) H1
def Lj(ta tb:TE):TE:=λσ H Q=>ta σ H λx H1=>∃c,x=.bl c/\if c=true then Q (.bl true) H1 else tb σ H1 Q
def JW(ta:TE):TE:=λσ H Q=>ta σ H λx H1=>∃c,x=.bl c/\Q (.bl (!c)) H1
def HC{op}{t:TE}(h:PE X a t):PE X (.BoolOp op [a] pos) t:=λpins s σ H Q I hw=>BoolOp_one (h pins s σ H Q I hw)
def HD(ha:PE X a ta)(hb:PE X (.BoolOp .And (b::rest) pos) tb):PE X (.BoolOp .And (a::b::rest) pos) (JV ta tb):=by
 intro pins s σ H Q I h;refine BoolOp_and (PX (ha pins s σ H _ I h) λv s1 zq=>?_);obtain⟨x,H1,I1,r1,q1⟩:=zq;obtain⟨c,rfl,q1⟩:=q1;cases r1;refine Qe ?_;cases c with
 |true=>exact hb pins s1 σ H1 Q I1 q1
 |false=>exact⟨.bl false,H1,I1,rfl,q1⟩
def JX(ha:PE X a ta)(hb:PE X (.BoolOp .Or (b::rest) pos) tb):PE X (.BoolOp .Or (a::b::rest) pos) (Lj ta tb):=by
 intro pins s σ H Q I h;refine BoolOp_or (PX (ha pins s σ H _ I h) λv s1 zq=>?_);obtain⟨x,H1,I1,r1,q1⟩:=zq;obtain⟨c,rfl,q1⟩:=q1;cases r1;refine Qe ?_;cases c with
 |false=>exact hb pins s1 σ H1 Q I1 q1
 |true=>exact⟨.bl true,H1,I1,rfl,q1⟩
def HE(ha:PE X a ta):PE X (.UnaryOp .Not a pos) (JW ta):=by intro pins s σ H Q I h;refine UnaryOp_ (PX (ha pins s σ H _ I h) λv s1 zq=>?_);obtain⟨x,H1,I1,r1,q1⟩:=zq;obtain⟨c,rfl,q1⟩:=q1;cases r1;exact not_of (Qe ⟨.bl (!c),H1,I1,rfl,q1⟩)
def tIf(t:TT)(ta tb:TE):TE:=λσ H Q=>t σ H λc H1=>if c=true then ta σ H1 Q else tb σ H1 Q
def CA(hc:PT X c tA)(ha:PE X a ta)(hb:PE X b tb):PE X (.IfExp c a b pos) (tIf tA ta tb):=by
 intro pins s σ H Q I h;refine wpAny_IfExp (PX (hc pins s σ H _ I h) λd s1 zq=>?_);obtain⟨H1,I1,q1⟩:=zq;cases d with
 |true=>exact ha pins s1 σ H1 Q I1 q1
 |false=>exact hb pins s1 σ H1 Q I1 q1
end
def Rm(K:Frag)(H:Hp)(a:Addr)(xs:List V):Prop:=
 Rd H a (.lst xs) \/
  ∃(o:Obj)(its:Array Value)(n:Nat),K.lookup a=some o/\o.cls=.type "list"/\o.dict=none/\o.data=.seq its n/\its.size<=sizeLine/\Vals xs its.toList
def Tp(K:Frag)(H:Hp)(a:Addr)(xs:List V):Prop:=
 Rd H a (.tup xs) \/
  ∃(o:Obj)(its:Array Value)(n:Nat),K.lookup a=some o/\o.cls=.type "tuple"/\o.data=.seq its n/\its.size<=sizeLine/\Vals xs its.toList
def Lk:Value->Option V
 |.none=>some .non
 |.bool b=>some (.bl b)
 |.int i _=>some (.int i)
 |.str x _=>some (.str x)
 |.bytes b _=>some (.Xl b)
 |.float b _=>some (.flt b)
 |.ref a=>some (.ref a)
 |.type n=>some (.ty n)
 |_=>none
def RelV.abs{x:V}(r:RelV x u):Lk u=some x:=by
 cases x with
 |non=>cases r;rfl
 |bl _=>cases r;rfl
 |int _=>obtain⟨t,rfl⟩:=r;rfl
 |str _=>obtain⟨t,rfl⟩:=r;rfl
 |Xl _=>obtain⟨t,rfl⟩:=r;rfl
 |flt _=>obtain⟨t,rfl⟩:=r;rfl
 |ref _=>cases r;rfl
 |ty _=>cases r;rfl
def RelV.inj{x y:V}(r:RelV x u)(q:RelV y u):x=y:=Z8 (r.abs.symm.trans q.abs)
theorem Vals.inj:∀{xs ys:List V}{us:List Value},Vals xs us->Vals ys us->xs=ys
 |_,_,_,.nil,.nil=>rfl
 |_,_,_,.cons r t,.cons r' t'=>by rw[r.inj r',Vals.inj t t']
section
variable{X:Cx}{pins:List (Addr×Obj)}{σ:St}{H:Hp}{s:Shared}{a:Addr}{xs ys:List V}
def Rm.of{K:Frag}(h:H a=some (.lst xs)):Rm K H a xs:=.inl (.inl h)
def Tp.of{K:Frag}(h:H a=some (.tup xs)):Tp K H a xs:=.inl (.inl h)
def Inv.list(I:Inv X pins σ H s)(h:Rm X.K H a xs):∃its:List Value,Vals xs its/\PlainL s.heap a its.toArray/\xs.length<=sizeLine:=by
 rcases h with h|⟨o,its,n,hk,hc,hd,hs,hz,r⟩
 .obtain⟨z,its,n,r,e⟩:=h.ok I.hok;exact⟨its,r,⟨_,n,e,rfl,rfl,rfl⟩,z⟩
 .refine⟨its.toList,r,⟨o,n,I.RK a o hk,hc,hd,by simpa using hs⟩,?_⟩
  have e:=r.length;simp only[W0]at e;omega
def Inv.tuple(I:Inv X pins σ H s)(h:Tp X.K H a xs):∃its:List Value,Vals xs its/\IsTup s.heap a its.toArray/\xs.length<=sizeLine:=by
 rcases h with h|⟨o,its,n,hk,hc,hs,hz,r⟩
 .obtain⟨z,its,r,p⟩:=h.ok I.hok;exact⟨its,r,p,z⟩
 .refine⟨its.toList,r,⟨o,I.RK a o hk,hc,n,by simpa using hs⟩,?_⟩
  have e:=r.length;simp only[W0]at e;omega
def Inv.UJ(I:Inv X pins σ H s)(h:Rm X.K H a xs)(h':Rm X.K H a ys):xs=ys:=by
 obtain⟨its,r,⟨o,n,e,_,_,d⟩,_⟩:=I.list h;obtain⟨its',r',⟨o',n',e',_,_,d'⟩,_⟩:=I.list h';rw[e]at e';cases e';rw[d]at d';injection d' with d1 _
 have:its=its':=by simpa using Ql Array.toList d1
 subst this;exact r.inj r'
def Inv.Tu(I:Inv X pins σ H s)(h:Tp X.K H a xs)(h':Tp X.K H a ys):xs=ys:=by
 obtain⟨its,r,⟨o,e,_,n,d⟩,_⟩:=I.tuple h;obtain⟨its',r',⟨o',e',_,n',d'⟩,_⟩:=I.tuple h';rw[e]at e';cases e';rw[d]at d';injection d' with d1 _
 have:its=its':=by simpa using Ql Array.toList d1
 subst this;exact r.inj r'
end
abbrev Cx.wish(X:Cx)(E:Value->Shared->Prop):Cx:={ X with xe:=E }
abbrev Cx.nox(X:Cx):Cx:=X.wish λ_ _=>False
theorem Cx.Ok.wish(ok:X.Ok)(E:Value->Shared->Prop):(X.wish E).Ok:=
 ⟨ok.mod,ok.kind,ok.glob,ok.blt,ok.above,ok.inj,ok.has,ok.cab,ok.hd,ok.frames,ok.stk,ok.exf,ok.bs,ok.YJ,ok.Xr,ok.YK,ok.Ss,ok.frf⟩
def Cx.Ok.Rr{E:Value->Shared->Prop}(ok:(X.wish E).Ok):X.Ok:=
 ⟨ok.mod,ok.kind,ok.glob,ok.blt,ok.above,ok.inj,ok.has,ok.cab,ok.hd,ok.frames,ok.stk,ok.exf,ok.bs,ok.YJ,ok.Xr,ok.YK,ok.Ss,ok.frf⟩
section
variable{X:Cx}{pins:List (Addr×Obj)}{σ:St}{H:Hp}{s:Shared}{E:Value->Shared->Prop}
theorem Inv.wish(I:Inv X pins σ H s)(E:Value->Shared->Prop):Inv (X.wish E) pins σ H s:=⟨I.ok.wish E,I.os,I.bare,I.base,I.loc,I.cell,I.free,I.RJ,I.pin,I.hok,I.len⟩
theorem Inv.Rr(I:Inv (X.wish E) pins σ H s):Inv X pins σ H s:=⟨I.ok.Rr,I.os,I.bare,I.base,I.loc,I.cell,I.free,I.RJ,I.pin,I.hok,I.len⟩
theorem SP.Rr{D:Ends}{f:Flow}{s':Shared}(h:SP (X.wish E) pins D f s'):SP X pins D f s':=by
 cases f with
 |next=>obtain⟨σ',H',I,q⟩:=h;exact⟨σ',H',I.Rr,q⟩
 |brk=>obtain⟨σ',H',I,q⟩:=h;exact⟨σ',H',I.Rr,q⟩
 |cont=>obtain⟨σ',H',I,q⟩:=h;exact⟨σ',H',I.Rr,q⟩
 |ret u=>obtain⟨v,σ',H',I,r,q⟩:=h;exact⟨v,σ',H',I.Rr,r,q⟩
theorem VH.nox{st:List Stmt}{t:TS}(h:VH X.nox st t):VH X st t:=λpins s σ H D I hw=>
 W3 (h pins s σ H D (I.wish _) hw) (λ_ _ q=>q.Rr) λ_ _ z=>False.elim z
end
section
variable{X:Cx}{st:Stmt}{rest:List Stmt}{t u:TS}{e:Expr}{te:TE}{pos:Pos}
def JY:TS:=λD σ H=>D.nx σ H
def Ll(t u:TS):TS:=λD σ H=>t { D with nx:=u D } σ H
def E9:VH X [] JY:=λ_ _ σ H _ I h=>U7 ⟨σ,H,I,h⟩
def CB(h1:PS X st t)(h2:VH X rest u):VH X (st::rest) (Ll t u):=by
 intro pins s σ H D I h
 refine wpAny_execs_cons (PX (h1 pins s σ H { D with nx:=u D } I h) λf s1 q=>?_)
 cases f with
 |next=>
  obtain⟨σ',H',I',q⟩:=q;exact h2 pins s1 σ' H' D I' q
 |ret v=>exact q
 |brk=>exact q
 |cont=>exact q
def Fc(h1:PS X st t):VH X [st] t:=by
 intro pins s σ H D I h;refine wpAny_execs_cons (PX (h1 pins s σ H D I h) λf s1 q=>?_);cases f with
 |next=>exact U7 q
 |ret v=>exact q
 |brk=>exact q
 |cont=>exact q
def Inv.quiet(I:Inv X pins σ H s):interactive X.env=false:=by simp[interactive,I.ok.kind]
def JZ(te:TE):TS:=λD σ H=>te σ H λ_ H1=>D.nx σ H1
def Fd(he:PE X e te)(hs:swapsWith e none pos.line X.env=pure false:=by rfl):PS X (.Expr e pos) (JZ te):=by intro pins s σ H D I h;exact wpAny_Expr_any (PX (he pins s σ H _ I h) λv s1 zq=>Tn zq λx H1 I1 r1 q1=>⟨σ,H1,I1,q1⟩) I.quiet hs
def Lm(te:TE):TS:=λD σ H=>te σ H D.rt
def HF(he:PE X e te):PS X (.Return (some e) pos) (Lm te):=by intro pins s σ H D I h;exact wpAny_Return_some (PX (he pins s σ H _ I h) λv s1 zq=>Tn zq λx H1 I1 r1 q1=>⟨x,σ,H1,I1,r1,q1⟩)
def Ln(c:TT)(t u:TS):TS:=λD σ H=>c σ H λb H1=>if b=true then t D σ H1 else u D σ H1
def J0{a b:List Stmt}{tc:TT}(hc:PT X c tc)(ha:VH X a t)(hb:VH X b u):PS X (.If c a b pos) (Ln tc t u):=by
 intro pins s σ H D I h;refine wpAny_If (PX (hc pins s σ H _ I h) λd s1 zq=>?_);obtain⟨H1,I1,q1⟩:=zq;cases d with
 |true=>exact ha pins s1 σ H1 D I1 q1
 |false=>exact hb pins s1 σ H1 D I1 q1
def HG:TS:=λ_ _ _=>False
def CC:PS X st HG:=λ_ _ _ _ _ _ h=>h.elim
end
abbrev TG:=V->St->Hp->(St->Hp->Prop)->Prop
abbrev YL:=List V->St->Hp->(St->Hp->Prop)->Prop
def PG(X:Cx)(target:Expr)(t:TG):Prop:=
 ∀(pins:List (Addr×Obj))(s:Shared)(σ:St)(H:Hp)(v:V)(u:Value)(Q:St->Hp->Prop),Inv X pins σ H s->RelV v u->t v σ H Q->
  wpAny (model X.prog X.w) X.A (assign target X.env u) (λ_ s'=>∃σ' H',Inv X pins σ' H' s'/\Q σ' H') X.xe s
def PGs(X:Cx)(ts:List Expr)(t:YL):Prop:=
 ∀(pins:List (Addr×Obj))(s:Shared)(σ:St)(H:Hp)(vs:List V)(us:List Value)(Q:St->Hp->Prop),Inv X pins σ H s->Vals vs us->t vs σ H Q->
  wpAny (model X.prog X.w) X.A (assignInOrder ((assignEach ts X.env).map (·.2)) us) (λ_ s'=>∃σ' H',Inv X pins σ' H' s'/\Q σ' H') X.xe s
abbrev Fe:=V->V->V->Hp->(Hp->Prop)->Prop
def tU(X:Cx)(t:Fe):Prop:=
 ∀(pins:List (Addr×Obj))(s:Shared)(σ:St)(H:Hp)(o i v:V)(ov iv u:Value)(Q:Hp->Prop),Inv X pins σ H s->RelV o ov->RelV i iv->RelV v u->t o i v H Q->
  wpAny (model X.prog X.w) X.A (setItem ov iv u) (λ_ s'=>∃H',Inv X pins σ H' s'/\Q H') X.xe s
section
variable{X:Cx}{pos:Pos}
def CD(i:Nat):TG:=λv σ H Q=>Q (σ.set i (some v)) H
def Ff(hN:X.N.Nodup)(hi:X.N[i]?=some x)(hx:Loc X.env.scope x)(hf:X.fn x=true\/X.env.scope.names.lookup x=some .local):PG X (.Name x pos) (CD i):=by intro pins s σ H v u Q I r h;exact wpAny_assign_Name (vU I hN hi hx r (λs' I'=>⟨_,H,I',h⟩) hf)
def Lo:YL:=λvs σ H Q=>vs=[]/\Q σ H
def J1(t:TG)(u:YL):YL:=λvs σ H Q=>∃v r,vs=v::r/\t v σ H λσ' H'=>u r σ' H' Q
def Fg:PGs X [] Lo:=by intro pins s σ H vs us Q I r h;obtain⟨e,h⟩:=h;subst e;cases r;exact assignInOrder_nil ⟨σ,H,I,h⟩
theorem CF{es:List Expr}{t:TG}{u:YL}(h1:PG X e t)(h2:PGs X es u)
  (hs:(assignEach (e::es) X.env).map (·.2)=assign e X.env::(assignEach es X.env).map (·.2):=by rfl):PGs X (e::es) (J1 t u):=by
 intro pins s σ H vs us Q I r h;obtain⟨v,vr,e1,h⟩:=h;subst e1;cases r with
 |cons r rr=>
  rw[hs];refine assignInOrder_cons (PX (h1 pins s σ H _ _ _ I r h) λ_ s1 zq=>?_);obtain⟨σ1,H1,I1,q1⟩:=zq;exact h2 pins s1 σ1 H1 _ _ Q I1 rr q1
def Lp(K:Frag)(n:Nat)(t:YL):TG:=λv σ H Q=>∃a xs,v=.ref a/\Tp K H a xs/\xs.length=n/\t xs σ H Q
def HH{es:List Expr}{k:Nat}{t:YL}{n:Nat}(hc:X.calm=true)(h:PGs X es t)
  (hn:(assignEach es X.env).length=n:=by rfl) (hst:(assignEach es X.env).findIdx? (·.1)=none:=by rfl):PG X (.Tuple es k pos) (Lp X.K n t):=by
 intro pins s σ H v u Q I r hw;obtain⟨a,xs,e1,hq,hl,hw⟩:=hw;subst e1;cases r;obtain⟨its,rv,ht,hz⟩:=I.tuple hq
 refine assign_Tuple_tuple (I.ok.hd hc) ht (by simp[hn,<- hl,rv.length]) hst λh' hx=>?_
 have I1:Inv X pins σ H { s with heap:=h' }:=I.kept (t':=s.toks) λb o e=>hx b o (Yv (Yl e)) e
 exact h pins _ σ H xs _ Q I1 (by simpa using rv) hw
def Lq(to ti:TE)(t:Fe):TG:=λv σ H Q=>to σ H λo H1=>ti σ H1 λi H2=>t o i v H2 λH3=>Q σ H3
def HI{o i:Expr}{to ti:TE}{t:Fe}(ho:PE X o to)(hi:PE X i ti)(hs:tU X t)
  (ha:∀v,assign (.Subscript o i pos) X.env v=(do
   let ov <- holding [v] (eval o X.env)
   let iv <- holding [v,ov] (eval i X.env)
   standAt pos
   holding [v,ov,iv] (setItem ov iv v)
   release [v,ov,iv] []):=by intro _;rfl):PG X (.Subscript o i pos) (Lq to ti t):=by
 intro pins s σ H v u Q I r h;rw[ha];refine Y6 (Qs (PX (ho pins s σ H _ I h) λov s1 zq=>?_));obtain⟨x,H1,I1,r1,q1⟩:=zq;refine Y6 (Qs (PX (hi pins s1 σ H1 _ I1 q1) λiv s2 zq=>?_));obtain⟨y,H2,I2,r2,q2⟩:=zq;refine Y6 (wpAny_standAt (Y6 (Qs (PX (hs pins s2 σ H2 x y v ov iv u _ I2 r1 r2 r q2) λ_ s3 zq=>?_))));obtain⟨H3,I3,q3⟩:=zq;exact wpAny_release ⟨σ,H3,I3,q3⟩
def HJ(te:TE)(g:TG):TS:=λD σ H=>te σ H λx H1=>g x σ H1 D.nx
def CG{te:TE}{g:TG}(he:PE X e te)(hg:PG X tg g)(hs:swapsWithSole [tg] e pos.line X.env=pure false:=by rfl)(hw:swappedStores [tg] e X.env=pure none:=by rfl)
  (h1:(assignEach [tg] X.env).map (·.2)=[assign tg X.env]:=by rfl):PS X (.Assign [tg] e pos) (HJ te g):=by
 intro pins s σ H D I h;refine wpAny_Assign_stores (PX (he pins s σ H _ I h) λv s1 zq=>?_) hs hw;obtain⟨x,H1,I1,r1,q1⟩:=zq;rw[h1];exact PX (hg pins s1 σ H1 x v _ I1 r1 q1) λ_ s2 q=>q
def HK{te:TE}{pos':Pos}(hN:X.N.Nodup)(hi:X.N[i]?=some x)(hx:Loc X.env.scope x)(he:PE X e te)(hs:swapsWith e (some (.Name x pos')) pos.line X.env=pure false:=by rfl)(hf:X.fn x=true\/X.env.scope.names.lookup x=some .local):
  PS X (.Assign [.Name x pos'] e pos) (HJ te (CD i)):=by
 intro pins s σ H D I h;refine wpAny_Assign_Name (PX (he pins s σ H _ I h) λv s1 zq=>?_) hs;obtain⟨y,H1,I1,r1,q1⟩:=zq;exact vU I1 hN hi hx r1 (λs2 I2=>⟨_,H1,I2,q1⟩) hf
end
section
variable{X:Cx}{pos:Pos}
def HL(c:TT)(tb:TS):TS:=λD σ H=>∃W:Nat->St->Hp->Prop,(∃m,W m σ H)/\∀m σ H,W m σ H->
 c σ H λb H1=>if b=true then ∃N:St->Hp->Prop,(∀σ' H',N σ' H'->∃m',m'<m/\W m' σ' H')/\tb { D with nx:=N,ct:=N,bk:=D.nx } σ H1 else D.nx σ H1
def CH{body:List Stmt}{tc:TT}{tb:TS}(hp:PassesOwn (model X.prog X.w) X.A X.env X.xe)(hc:PT X c tc)(hb:VH X body tb):PS X (.While c body [] pos) (HL tc tb):=by
 intro pins s σ H D I h;obtain⟨W,⟨m0,w0⟩,turn⟩:=h;refine wpAny_While (codeAny_whileLoop (λn s'=>∃σ' H',Inv X pins σ' H' s'/\W n σ' H') ?_ m0 ⟨σ,H,I,w0⟩);rintro n s1 ⟨σ1,H1,I1,w1⟩;refine Wm hp (PX (hc pins s1 σ1 H1 _ I1 (turn n σ1 H1 w1)) λb s2 zq=>?_);obtain⟨H2,I2,q2⟩:=zq;cases b with
 |true=>
  obtain⟨N,hN,q2⟩:=q2;rw[Y9 rfl];refine Wm hp (PX (hb pins s2 σ1 H2 _ I2 q2) λf s3 q3=>?_);cases f with
  |next=>
   obtain⟨σ3,H3,I3,n3⟩:=q3;obtain⟨m',hm,w3⟩:=hN σ3 H3 n3;exact⟨m',hm,σ3,H3,I3,w3⟩
  |cont=>
   obtain⟨σ3,H3,I3,n3⟩:=q3;obtain⟨m',hm,w3⟩:=hN σ3 H3 n3;exact⟨m',hm,σ3,H3,I3,w3⟩
  |brk=>exact q3
  |ret v=>exact q3
 |false=>
  rw[Yj Ym];exact U7 ⟨σ1,H2,I2,q2⟩
end
set_option genInjectivity false in
structure It where
 go:Nat->Hp->Prop
 X5:Nat->Hp->V->Hp->Prop
 stop:Nat->Hp->Prop
def RT(X:Cx)(pins:List (Addr×Obj))(H:Hp)(b:Addr):Prop:=
 H b=none/\b≠X.env.locals/\b∉X.fs/\(b∈X.ex\/X.s₀.heap.objs.size<=b)/\(∀x c,X.env.cells.lookup x=some c->c≠b)/\∀p∈X.pn++pins,p.1≠b
def Inv.Tq{H':Hp}(I:Inv X pins σ H s)(hb:s.heap.objs.size<=b)(hn:H' b=none):RT X pins H' b:=by
 refine⟨hn,Wu (Ys I.lt hb),I.aaF hb,.inr (Yw I.sz hb),λx c e z=>?_,λp hp z=>?_⟩
 .obtain⟨v,q⟩:=I.cell x c e
  exact absurd (Ys q.lt (by rw[z];exact hb)) (Qd _)
 .exact absurd (Ys (Yl (I.pin p hp).1) (by rw[z];exact hb)) (Qd _)
def QtH(X:Cx):Prop:=X.A.handled=none \/ ∃a o u,X.A.handled=some (.ref a)/\X.H₀ a=some (.QX o u)/\ZO o
def Cd(qb:Bool)(X:Cx):Prop:=X.calm=true\/(qb=true/\QtH X)
def Cd.cm(h:Cd false X):X.calm=true:=h.elim id λz=>nomatch z.1
def Inv.qt{σ:List (Option V)}(I:Inv X pins σ H s)(h:Cd qb X):X.A.handled=none \/ ∃a,X.A.handled=some (.ref a)/\s.heap.Zat a:=by
 rcases h with h|⟨_,h|⟨a,o,u,e,q,z⟩⟩
 .exact .inl (I.ok.hd h)
 .exact .inl h
 .exact .inr ⟨a,e,o,(I.hok a _ (I.base.Ry a o u q)).1,z⟩
structure Turn(qb:Bool)(P:Program)(w:World)(K:Frag)(tg:Expr)(J:It)(fp:List Addr)(it:Addr)(tn:Nat->Heap->Prop):Prop where
 mem:it∈fp
 obj:∀i h,tn i h->∀b∈fp,∃o,h.get? b=some o/\∀v,o.data≠.cell v
 keep:∀i h h',tn i h->(∀b∈fp,∀o,h.get? b=some o->h'.get? b=some o)->tn i h'
 item:∀(X:Cx),X.prog=P->X.w=w->X.K=K->Cd qb X->∀(i:Nat)(pins:List (Addr×Obj))(s:Shared)(σ:St)(H:Hp)(E:Value->Shared->Prop),Inv X pins σ H s->(∀b∈fp,RT X pins H b)->tn i s.heap->J.go i H->
  wpAny (model P w) X.A (pyNext (.ref it)) (λr s1=>∃u,r=some u/\
   wpAny (model P w) X.A (letOwnedTupleGo tg (.ref it) u) (λ_ s2=>∃x H',Inv X pins σ H' s2/\RelV x u/\J.X5 i H x H'/\tn (i+1) s2.heap/\∀b∈fp,H' b=none) E s1) E s
 done:∀(X:Cx),X.prog=P->X.w=w->X.K=K->Cd qb X->∀(i:Nat)(pins:List (Addr×Obj))(s:Shared)(σ:St)(H:Hp)(E:Value->Shared->Prop),Inv X pins σ H s->(∀b∈fp,RT X pins H b)->tn i s.heap->J.stop i H->
  wpAny (model P w) X.A (pyNext (.ref it)) (λr s1=>r=none/\Inv X pins σ H s1) E s
 self:∀(A:Around)(i:Nat)(s:Shared)(Q:Value->Shared->Prop)(E:Value->Shared->Prop),tn i s.heap->Q (.ref it) s->wpAny (model P w) A (pyIter (.ref it)) Q E s
abbrev TI:=St->Hp->(It->Hp->Prop)->Prop
def HM(qb:Bool)(X:Cx)(pins:List (Addr×Obj))(σ:St)(tg:Expr)(R:It->Hp->Prop)(itv:Value)(s2:Shared):Prop:=
 ∃(it:Addr)(fp:List Addr)(tn:Nat->Heap->Prop)(J:It)(H':Hp),itv=.ref it/\Inv X pins σ H' s2/\Turn qb X.prog X.w X.K tg J fp it tn/\tn 0 s2.heap/\(∀b∈fp,RT X pins H' b)/\R J H'
def PIb(qb:Bool)(X:Cx)(tg iter:Expr)(wi:TI):Prop:=
 ∀(pins:List (Addr×Obj))(s:Shared)(σ:St)(H:Hp)(R:It->Hp->Prop),Inv X pins σ H s->wi σ H R->
  wpAny (model X.prog X.w) X.A (eval iter X.env) (λv s1=>wpAny (model X.prog X.w) X.A (pyIter v) (HM qb X pins σ tg R) X.xe s1) X.xe s
abbrev PIE:=HM false
abbrev PI:=PIb false
theorem rL{M:Model}{A:Around}{E:Value->Shared->Prop}{tg:Expr}{it:Addr}{u:Value}{o:Obj}{n:String}{vs:Array Value}{Q:Unit->Shared->Prop}(ho:s.heap.get? it=some o)(hc:o.cls=.type n)(hd:o.data=.fields vs)
    (hn:["enumerate","zip","dict_itemiterator","dict_reverseitemiterator","odict_iterator","itertools.zip_longest","itertools.pairwise"].contains n=false) (hQ:Q () s):wpAny M A (letOwnedTupleGo tg (.ref it) u) Q E s:=by
  unfold letOwnedTupleGo
  cases tg<;>first
    |exact Yg hQ
    | (cases u<;>first
        |exact Yg hQ
        | (refine Y6 (wpAny_load ho ?_)
           rw[hc,hd]
           show wpAny M A (if (["enumerate","zip","dict_itemiterator","dict_reverseitemiterator","odict_iterator","itertools.zip_longest","itertools.pairwise"].contains n&&vs[0]? == some (rawInt _))=true then _ else _) Q E s
           rw[Yj (by intro h;rw[hn,Mo]at h;cases h)]
           exact Yg hQ))
def Itl(K:Frag)(a:Addr):It:=
 ⟨λi H=>∃xs x,Rm K H a xs/\xs[i]?=some x,λi H x H'=>H'=H/\∀xs,Rm K H a xs->xs[i]?=some x,λi H=>∃xs,Rm K H a xs/\xs.length<=i⟩
def Itt(K:Frag)(a:Addr):It:=
 ⟨λi H=>∃xs x,Tp K H a xs/\xs[i]?=some x,λi H x H'=>H'=H/\∀xs,Tp K H a xs->xs[i]?=some x,λi H=>∃xs,Tp K H a xs/\xs.length<=i⟩
def Itr(lo:Int)(n:Nat):It:=⟨λi _=>i<n,λi H x H'=>H'=H/\x=.int (lo+i),λi _=>n<=i⟩
def rM{K:Frag}(a it:Addr):Turn false P w K tg (Itl K a) [it] it (λi h=>h.IsListIter it a i) where
 mem:=by simp
 obj:=λi h st b hb=>by
  have e:b=it:=by simpa using hb
  subst e;obtain⟨o,e,c,d⟩:=st
  exact⟨o,e,λv z=>by rw[d]at z;cases z⟩
 keep:=λi h h' st k=>st.at λo e=>k it (by simp) o e
 item:=by
  intro X hP hw hK hc i pins s σ H E I hf st hg;subst hP hw hK;obtain⟨xs,x,hq,hx⟩:=hg;obtain⟨its,rv,p,hz⟩:=I.list hq;obtain⟨u,hu,ru⟩:=rv.get hx
  obtain⟨f0,f1,f2,f3,f4,f5⟩:=hf it (by simp)
  refine wpAny_pyNext_list_item st p.isList (x:=u) (by simpa using hu) λh' st' sb=>?_
  have I1:Inv X pins σ H { s with heap:=h' }:=I.turned (t':=s.toks) (λb o hb e=>(sb.2 b hb).trans e) f0 f1 f3 f4 f5
  obtain⟨o,e,c,d⟩:=id st'
  exact⟨u,rfl,rL (s:={ s with heap:=h' }) e c d (by decide) ⟨x,H,I1,ru,⟨rfl,λys hy=>by rw[I.UJ hy hq];exact hx⟩,st',λb hb=>(hf b hb).1⟩⟩
 done:=by
  intro X hP hw hK hc i pins s σ H E I hf st hg;subst hP hw hK;obtain⟨xs,hq,hx⟩:=hg;obtain⟨its,rv,p,hz⟩:=I.list hq
  obtain⟨f0,f1,f2,f3,f4,f5⟩:=hf it (by simp)
  have hl:=rv.length
  exact wpAny_pyNext_list_end (I.ok.hd hc.cm) st p.isList (by simp;omega) λh' eb=>⟨rfl,I.turned (t':=s.toks) (λb o hb e=>eb b o hb e) f0 f1 f3 f4 f5⟩
 self:=λ_ _ _ _ _ st h=>wpAny_pyIter_listiter st h
def yl{K:Frag}(a it:Addr):Turn false P w K tg (Itt K a) [it] it (λi h=>h.IsTupleIter it a i) where
 mem:=by simp
 obj:=λi h st b hb=>by
  have e:b=it:=by simpa using hb
  subst e;obtain⟨o,e,c,d⟩:=st
  exact⟨o,e,λv z=>by rw[d]at z;cases z⟩
 keep:=λi h h' st k=>st.at λo e=>k it (by simp) o e
 item:=by
  intro X hP hw hK hc i pins s σ H E I hf st hg;subst hP hw hK;obtain⟨xs,x,hq,hx⟩:=hg;obtain⟨its,rv,p,hz⟩:=I.tuple hq;obtain⟨u,hu,ru⟩:=rv.get hx
  obtain⟨f0,f1,f2,f3,f4,f5⟩:=hf it (by simp)
  refine wpAny_pyNext_tuple_item st (show s.heap.IsTuple a its.toArray from p) (x:=u) (by simpa using hu) λh' st' sb=>?_
  have I1:Inv X pins σ H { s with heap:=h' }:=I.turned (t':=s.toks) (λb o hb e=>(sb.2 b hb).trans e) f0 f1 f3 f4 f5
  obtain⟨o,e,c,d⟩:=id st'
  exact⟨u,rfl,rL (s:={ s with heap:=h' }) e c d (by decide) ⟨x,H,I1,ru,⟨rfl,λys hy=>by rw[I.Tu hy hq];exact hx⟩,st',λb hb=>(hf b hb).1⟩⟩
 done:=by
  intro X hP hw hK hc i pins s σ H E I hf st hg;subst hP hw hK;obtain⟨xs,hq,hx⟩:=hg;obtain⟨its,rv,p,hz⟩:=I.tuple hq
  obtain⟨f0,f1,f2,f3,f4,f5⟩:=hf it (by simp)
  have hl:=rv.length
  exact wpAny_pyNext_tuple_end (I.ok.hd hc.cm) st (show s.heap.IsTuple a its.toArray from p) (by simp;omega) λh' eb=>⟨rfl,I.turned (t':=s.toks) (λb o hb e=>eb b o hb e) f0 f1 f3 f4 f5⟩
 self:=λ_ _ _ _ _ st h=>wpAny_pyIter_tupleiter st h
def ym{K:Frag}(it:Addr)(lo:Int)(n:Nat):Turn qb P w K tg (Itr lo n) [it] it (λi h=>IsRangeIter h it (lo+(i:Nat)*1) ((n:Int)-(i:Nat)) 1) where
 mem:=by simp
 obj:=λi h st b hb=>by
  have e:b=it:=by simpa using hb
  subst e
  exact⟨_,st,λv z=>by
   have z':Data.fields _=Data.cell v:=z
   cases z'⟩
 keep:=λi h h' st k=>k it (by simp) _ st
 item:=by
  intro X hP hw hK hc i pins s σ H E I hf st hg;subst hP hw hK
  obtain⟨f0,f1,f2,f3,f4,f5⟩:=hf it (by simp)
  have hg':(i:Nat)<n:=hg
  refine wpAny_pyNext_range_item st (by omega) λh' st' kk=>?_
  have I1:Inv X pins σ H { s with heap:=h',toks:=s.toks+1 }:=I.turned (λb o hb e=>(kk.2 b hb).trans e) f0 f1 f3 f4 f5
  have st2:IsRangeIter h' it (lo+((i+1:Nat):Int)*1) ((n:Int)-((i+1:Nat):Int)) 1:=by
   have e1:lo+((i+1:Nat):Int)*1=lo+(i:Nat)*1+1:=by omega
   have e2:(n:Int)-((i+1:Nat):Int)=(n:Int)-(i:Nat)-1:=by omega
   rw[e1,e2];exact st'
  refine⟨_,rfl,rL (s:={ s with heap:=h',toks:=s.toks+1 }) (n:="range_iterator") st2 rfl rfl (by decide) ⟨.int (lo+i),H,I1,⟨s.toks,?_⟩,⟨rfl,rfl⟩,st2,λb hb=>(hf b hb).1⟩⟩
  rw[Int.mul_one]
 done:=by
  intro X hP hw hK hc i pins s σ H E I hf st hg;subst hP hw hK
  obtain⟨f0,f1,f2,f3,f4,f5⟩:=hf it (by simp)
  have hg':n<=i:=hg;rcases I.qt hc with hh|⟨ha,hh,z⟩
  .exact wpAny_pyNext_range_end hh st (by omega) λh' eb=>⟨rfl,I.turned (t':=s.toks) (λb o hb e=>eb b o hb e) f0 f1 f3 f4 f5⟩
  .exact Bg hh z st (by omega) λh' eb=>⟨rfl,I.turned (t':=s.toks) (λb o hb e=>eb b o hb e) f0 f1 f3 f4 f5⟩
 self:=λ_ _ _ _ _ st h=>wpAny_pyIter_rangeiter st h
section
variable{X:Cx}{tg:Expr}
def J2(K:Frag)(tl:TE):TI:=λσ H R=>tl σ H λx H1=>∃a,x=.ref a/\(∃xs,Rm K H1 a xs)/\R (Itl K a) H1
def Lr(K:Frag)(tl:TE):TI:=λσ H R=>tl σ H λx H1=>∃a,x=.ref a/\(∃xs,Tp K H1 a xs)/\R (Itt K a) H1
def Fh{l:Expr}{tl:TE}(hl:PE X l tl):PI X tg l (J2 X.K tl):=by
 intro pins s σ H R I h;refine PX (hl pins s σ H _ I h) λv s1 zq=>?_;obtain⟨x,H1,I1,r1,q1⟩:=zq;obtain⟨a,e,⟨xs,hq⟩,q⟩:=q1;subst e;cases r1;obtain⟨its,rv,p,hz⟩:=I1.list hq;refine Qf p.isList ?_;refine⟨s1.heap.objs.size,[s1.heap.objs.size],_,_,H1,rfl,I1.kept (t':=s1.toks) λb o e=>Y7 _ e,rM a _,⟨_,Ye _ rfl,rfl,rfl⟩,λb hb=>?_,q⟩
 have e:b=s1.heap.objs.size:=by simpa using hb
 subst e;exact I1.Tq (Yh _) (I1.hok.fresh (Yh _))
def HN{l:Expr}{tl:TE}(hl:PE X l tl):PI X tg l (Lr X.K tl):=by
 intro pins s σ H R I h;refine PX (hl pins s σ H _ I h) λv s1 zq=>?_;obtain⟨x,H1,I1,r1,q1⟩:=zq;obtain⟨a,e,⟨xs,hq⟩,q⟩:=q1;subst e;cases r1;obtain⟨its,rv,p,hz⟩:=I1.tuple hq
 refine Vn (show s1.heap.IsTuple a its.toArray from p) ?_
 refine⟨s1.heap.objs.size,[s1.heap.objs.size],_,_,H1,rfl,I1.kept (t':=s1.toks) λb o e=>Y7 _ e,yl a _,⟨_,Ye _ rfl,rfl,rfl⟩,λb hb=>?_,q⟩
 have e:b=s1.heap.objs.size:=by simpa using hb
 subst e;exact I1.Tq (Yh _) (I1.hok.fresh (Yh _))
def vV{qb:Bool}{R:It->Hp->Prop}{E:Value->Shared->Prop}{lo hi:Int}{t u v:Tok}{tk:Nat}(I:Inv X pins σ H s)(h1:-(2^62)<=lo)(h2:lo<2^62)(h3:-(2^62)<=hi)(h4:hi<2^62)
  (q:R (Itr lo (hi-lo).toNat) H):wpAny (model X.prog X.w) X.A (pyIter (.ref s.heap.objs.size)) (HM qb X pins σ tg R) E { s with heap:=s.heap.push { cls:=.type "range",data:=.fields #[.int lo t,.int hi u,.int 1 v] },toks:=tk }:=by
 refine wpAny_pyIter_range (IsRange.new ..) (small_one h1 h2 h3 h4) ?_
 have I1:Inv X pins σ H { s with heap:=s.heap.push { cls:=.type "range",data:=.fields #[.int lo t,.int hi u,.int 1 v] },toks:=tk }:=I.kept λb o e=>Y7 _ e
 refine⟨(s.heap.push { cls:=.type "range",data:=.fields #[.int lo t,.int hi u,.int 1 v] }).objs.size,[(s.heap.push { cls:=.type "range",data:=.fields #[.int lo t,.int hi u,.int 1 v] }).objs.size],_,_,H,rfl,
  I1.kept (t':=tk) λb o e=>Y7 _ e,ym _ lo (hi-lo).toNat,?_,λb hb=>?_,q⟩
 .have e1:lo+((0:Nat):Int)*1=lo:=by simp
  have e2:(((hi-lo).toNat:Nat):Int)-((0:Nat):Int)=Builtin.Range.rangeSize lo hi 1:=by rw[rangeSize_one];split<;>omega
  show IsRangeIter _ _ (lo+((0:Nat):Int)*1) ((((hi-lo).toNat:Nat):Int)-((0:Nat):Int)) 1;rw[e1,e2];exact Ye _ rfl
 .have e:b=(s.heap.push { cls:=.type "range",data:=.fields #[.int lo t,.int hi u,.int 1 v] }).objs.size:=by simpa using hb
  subst e;exact I1.Tq (Yh _) (I1.hok.fresh (Yh _))
def J3(ta:TA):TI:=λσ H R=>ta σ H λvs H1=>∃j:Int,vs=[.int j]/\-(2^62)<=j/\j<2^62/\R (Itr 0 j.toNat) H1
def J4(ta:TA):TI:=λσ H R=>ta σ H λvs H1=>∃i j:Int,vs=[.int i,.int j]/\(-(2^62)<=i/\i<2^62/\-(2^62)<=j/\j<2^62)/\R (Itr i (j-i).toNat) H1
def Bk{a:Expr}{ta:TA}{p:Pos}(hg:Gl X "range")(hm:X.mg "range" = none)(ha:PA X [a] ta)(hs:starEach [a] X.env=[(false,eval a X.env)]:=by rfl):PIb qb X tg (.Call (.Name "range" p) [a] [] pos) (J3 ta):=by
 intro pins s σ H R I h;refine Call_ (i4 I hg hm boot_range (Q8 (PX (ha pos pins s σ H _ I h) λus s1 zq=>?_) hs rfl));obtain⟨vs,H1,I1,r1,q1⟩:=zq;obtain⟨j,e,q1,q2,q⟩:=q1;subst e;cases r1 with
 |cons r rr=>
  cases rr;obtain⟨t,rfl⟩:=r
  exact call_range_1 (vV I1 (by omega) (by omega) q1 q2 (by simpa using q))
theorem Bl{a b:Expr}{ta:TA}{p pos:Pos}(hg:Gl X "range")(hm:X.mg "range" = none)(ha:PA X [a,b] ta)(hs:starEach [a,b] X.env=[(false,eval a X.env),(false,eval b X.env)]:=by rfl)(hs2:starEach [b] X.env=[(false,eval b X.env)]:=by rfl):
  PI X tg (.Call (.Name "range" p) [a,b] [] pos) (J4 ta):=by
 intro pins s σ H R I h
 refine Call_ (i4 I hg hm boot_range (Q8 (PX (ha pos pins s σ H _ I h) λus s1 zq=>?_) (by rw[hs,hs2]) (by rw[hs2];rfl)))
 obtain⟨vs,H1,I1,r1,q1⟩:=zq;obtain⟨i,j,e,⟨q1,q2,q3,q4⟩,q⟩:=q1;subst e;cases r1 with
 |cons r rr=>
  cases rr with
  |cons r' rr=>
   cases rr;obtain⟨t,rfl⟩:=r;obtain⟨t',rfl⟩:=r';exact call_range_2 (vV I1 q1 q2 q3 q4 q)
def Ls(wi:TI)(g:TG)(tb:TS):TS:=λD σ H=>wi σ H λJ H1=>∃W:Nat->Nat->St->Hp->Prop,(∃m,W 0 m σ H1)/\∀i m σ H,W i m σ H->
 (J.stop i H/\D.nx σ H)\/(J.go i H/\∃N:St->Hp->Prop,(∀σ' H',N σ' H'->∃m',m'<m/\W (i+1) m' σ' H')/\∀x H',J.X5 i H x H'->g x σ H' λσ2 H2=>tb { D with nx:=N,ct:=N,bk:=D.nx } σ2 H2)
def mI(fp:List Addr)(h:Heap):List (Addr×Obj):=fp.filterMap λb=>(h.get? b).map λo=>(b,o)
def ff{o:Obj}(hb:b∈fp)(e:h.get? b=some o):(b,o)∈mI fp h:=List.mem_filterMap.mpr ⟨b,hb,by rw[e];rfl⟩
def Bm{p:Addr×Obj}(hp:p∈mI fp h):p.1∈fp/\h.get? p.1=some p.2:=by
 obtain⟨b,hb,e⟩:=List.mem_filterMap.mp hp;cases q:h.get? b with
 |none=>rw[q]at e;cases e
 |some o=>
  rw[q]at e;have e':(b,o)=p:=Z8 e;subst e';exact⟨hb,q⟩
def Inv.pinned(I:Inv X pins σ H s)(hf:∀b∈fp,RT X pins H b)(ho:∀b∈fp,∃o,s.heap.get? b=some o/\∀v,o.data≠.cell v):Inv X (pins++mI fp s.heap) σ H s:=
 I.WW λp hp=>(Yx.mp hp).elim (λz=>I.pin p (Yz _ z)) λz=>by obtain⟨hb,e⟩:=Bm z;obtain⟨f0,f1,f2,_⟩:=hf p.1 hb;obtain⟨o,e',d⟩:=ho p.1 hb;rw[e]at e';cases e';exact⟨e,f0,f1,f2,d⟩
def Inv.Rt{pl:List (Addr×Obj)}(I:Inv X (pins++pl) σ H s):Inv X pins σ H s:=I.WW λp hp=>I.pin p (Yz _ (Zz _ hp))
theorem HP{iter:Expr}{body:List Stmt}{wi:TI}{g:TG}{tb:TS}{pos:Pos}(hp:PassesOwn (model X.prog X.w) X.A X.env X.xe)(hc:X.calm=true)(hi:PI X tg iter wi)(hg:PG X tg g)(hb:VH X body tb)
  (hs:∀x,foldedSetIterable iter X.env x=pure x:=by intro _;rfl):PS X (.For tg iter body [] pos) (Ls wi g tb):=by
 intro pins s σ H D I h;refine wpAny_For (PX (hi pins s σ H _ I h) λv s1 h1=>PX h1 λitv s2 h2=>?_) hs;obtain⟨it,fp,tn,J,H2,e,I2,T,st2,f2,W,⟨m0,w0⟩,turn⟩:=h2;subst e
 -- what stays true of the iterator's objects through the loop
 have stat:∀{H':Hp},(∀b∈fp,H' b=none)->∀b∈fp,RT X pins H' b:=λhn b hb=>⟨hn b hb,(f2 b hb).2⟩;refine codeAny_forLoop_any (λn s'=>∃i σ' H',Inv X pins σ' H' s'/\tn i s'.heap/\(∀b∈fp,H' b=none)/\W i n σ' H') ?_ m0 ⟨0,σ,H2,I2,st2,λb hb=>(f2 b hb).1,w0⟩;rintro n s3 ⟨i,σ3,H3,I3,st3,fr3,w3⟩;rcases turn i n σ3 H3 w3 with⟨stop,qn⟩|⟨go,N,hN,step⟩
 .refine Wm hp (PX (T.done X rfl rfl rfl (.inl hc) i pins s3 σ3 H3 X.xe I3 (stat fr3) st3 stop) λr s4 zq=>?_);obtain⟨hr,I4⟩:=zq;subst hr;exact U7 ⟨σ3,H3,I4,qn⟩
 .refine Wm hp (PX (T.item X rfl rfl rfl (.inl hc) i pins s3 σ3 H3 X.xe I3 (stat fr3) st3 go) λr s4 zq=>?_);obtain⟨u,hr,h4⟩:=zq;subst hr;refine Wm hp (PX h4 λ_ s5 zq=>?_);obtain⟨x,H5,I5,r5,y5,YM,fr5⟩:=zq;have I5':=I5.pinned (stat fr5) (T.obj _ _ YM);refine Wm hp (PX (hg _ s5 σ3 H5 x u _ I5' r5 (step x H5 y5)) λ_ s6 zq=>?_);obtain⟨σ6,H6,I6,q6⟩:=zq;refine Wm hp (PX (hb _ s6 σ6 H6 _ I6 q6) λf s7 q7=>?_)
  have again:∀{σ7:St}{H7:Hp},Inv X (pins++mI fp s5.heap) σ7 H7 s7->N σ7 H7->∃m,m<n/\∃i σ' H',Inv X pins σ' H' s7/\tn i s7.heap/\(∀b∈fp,H' b=none)/\W i m σ' H':=λ{σ7 H7} I7 n7=>by obtain⟨m',hm,w7⟩:=hN σ7 H7 n7;refine⟨m',hm,i+1,σ7,H7,I7.Rt,T.keep _ _ _ YM λb hb o e=>(I7.pin (b,o) (Yz _ (Yz _ (ff hb e)))).1,λb hb=>?_,w7⟩;obtain⟨o,e,d⟩:=T.obj _ _ YM b hb;exact(I7.pin (b,o) (Yz _ (Yz _ (ff hb e)))).2.1
  cases f with
  |next=>obtain⟨σ7,H7,I7,n7⟩:=q7;exact again I7 n7
  |cont=>obtain⟨σ7,H7,I7,n7⟩:=q7;exact again I7 n7
  |brk=>obtain⟨σ7,H7,I7,q7⟩:=q7;exact⟨σ7,H7,I7.Rt,q7⟩
  |ret v=>obtain⟨x7,σ7,H7,I7,r7,q7⟩:=q7;exact⟨x7,σ7,H7,I7.Rt,r7,q7⟩
end
abbrev R2:=V->V->Hp->VK->Prop
variable{r:R2}
def QS(X:Cx)(f:Value->Value->Sem Value)(r:R2):Prop:=
 ∀(pins:List (Addr×Obj))(s:Shared)(σ:St)(H:Hp)(x y:V)(v u:Value)(Q:VK),Inv X pins σ H s->RelV x v->RelV y u->r x y H Q->
  wpAny (model X.prog X.w) X.A (f v u) (EP X pins σ Q) X.xe s
def UnR(X:Cx)(f:Value->Sem Value)(r:V->Hp->VK->Prop):Prop:=
 ∀(pins:List (Addr×Obj))(s:Shared)(σ:St)(H:Hp)(x:V)(v:Value)(Q:VK),Inv X pins σ H s->RelV x v->r x H Q->
  wpAny (model X.prog X.w) X.A (f v) (EP X pins σ Q) X.xe s
def bT(X:Cx)(f:Value)(r:List V->Hp->VK->Prop):Prop:=
 ∀(pins:List (Addr×Obj))(s:Shared)(σ:St)(H:Hp)(xs:List V)(us:List Value)(Q:VK),Inv X pins σ H s->Vals xs us->r xs H Q->
  wpAny (model X.prog X.w) X.A (call f us) (EP X pins σ Q) X.xe s
def tOp(r:R2)(ta tb:TE):TE:=λσ H Q=>ta σ H λx H1=>tb σ H1 λy H2=>r x y H2 Q
def tUn(r:V->Hp->VK->Prop)(ta:TE):TE:=λσ H Q=>ta σ H λx H1=>r x H1 Q
def rI(C:Int->Int->Prop)(g:Int->Int->V):R2:=λx y H Q=>∃i j,x=.int i/\y=.int j/\C i j/\Q (g i j) H
def YQ(g:Int->Int->V):R2:=λx y H Q=>∃i j,x=.int i/\y=.int j/\Q (g i j) H
def rU(g:Int->V):V->Hp->VK->Prop:=λx H Q=>∃i,x=.int i/\Q (g i) H
section
variable{X:Cx}{a b c:Expr}{ta tb tc:TE}{pos:Pos}
def HQ(ha:PE X a ta)(hb:PE X b tb){R:V->V->Hp->Prop}(I:Inv X pins σ H s)
  (h:ta σ H λx H1=>tb σ H1 λy H2=>R x y H2) {Q:Value->Shared->Prop} {f:Value->Value->Sem Value}
  (hf:∀v u s2 x y H2,Inv X pins σ H2 s2->RelV x v->RelV y u->R x y H2->wpAny (model X.prog X.w) X.A (f v u) Q X.xe s2):
  wpAny (model X.prog X.w) X.A (eval a X.env) (λv s₁=>wpAny (model X.prog X.w) X.A (eval b X.env) (λu s₂=>wpAny (model X.prog X.w) X.A (f v u) Q X.xe s₂) X.xe s₁) X.xe s:=by
 refine PX (ha pins s σ H _ I h) λv s1 zq=>?_;obtain⟨x,H1,I1,r1,q1⟩:=zq;refine PX (hb pins s1 σ H1 _ I1 q1) λu s2 zq=>?_;obtain⟨y,H2,I2,r2,q2⟩:=zq;exact hf v u s2 x y H2 I2 r1 r2 q2
def J5{op:Operator}(ho:QS X (binaryOp op) r)(ha:PE X a ta)(hb:PE X b tb):PE X (.BinOp a op b pos) (tOp r ta tb):=by intro pins s σ H Q I h;exact wpAny_BinOp (HQ ha hb I h λv u s2 x y H2 I2 rx ry q=>ho pins s2 σ H2 x y v u Q I2 rx ry q)
def J6{op:UnaryOp}{r:V->Hp->VK->Prop}(ho:UnR X (unaryOp op) r)(ha:PE X a ta):PE X (.UnaryOp op a pos) (tUn r ta):=by intro pins s σ H Q I h;exact UnaryOp_ (PX (ha pins s σ H _ I h) λv s1 zq=>Tn zq λx H1 I1 r1 q1=>ho pins s1 σ H1 x v Q I1 r1 q1)
def opI{f:Value->Value->Sem Value}{C:Int->Int->Prop}{g:Int->Int->Int}
  (rule:∀(i j:Int)(t u:Tok)(s:Shared)(Q:Value->Shared->Prop)(E:Value->Shared->Prop),C i j->Q (.int (g i j) s.toks) { s with toks:=s.toks+1 }->wpAny (model X.prog X.w) X.A (f (.int i t) (.int j u)) Q E s):
  QS X f (rI C λi j=>.int (g i j)):=by
 intro pins s σ H x y v u Q I rx ry h;obtain⟨i,j,rfl,rfl,hc,q⟩:=h;obtain⟨t,rfl⟩:=rx;obtain⟨t',rfl⟩:=ry;exact rule i j t t' s _ _ hc ⟨.int (g i j),H,I.tok _,⟨_,rfl⟩,q⟩
def J7{f:Value->Value->Sem Value}{g:Int->Int->Int}
  (rule:∀(i j:Int)(t u:Tok)(s:Shared)(Q:Value->Shared->Prop)(E:Value->Shared->Prop),Q (.int (g i j) s.toks) { s with toks:=s.toks+1 }->wpAny (model X.prog X.w) X.A (f (.int i t) (.int j u)) Q E s):
  QS X f (YQ λi j=>.int (g i j)):=by
 intro pins s σ H x y v u Q I rx ry h;obtain⟨i,j,rfl,rfl,q⟩:=h;obtain⟨t,rfl⟩:=rx;obtain⟨t',rfl⟩:=ry;exact rule i j t t' s _ _ ⟨.int (g i j),H,I.tok _,⟨_,rfl⟩,q⟩
def Fi{f:Value->Value->Sem Value}{g:Int->Int->Bool}
  (rule:∀(i j:Int)(t u:Tok)(s:Shared)(Q:Value->Shared->Prop)(E:Value->Shared->Prop),Q (.bool (g i j)) s->wpAny (model X.prog X.w) X.A (f (.int i t) (.int j u)) Q E s):
  QS X f (YQ λi j=>.bl (g i j)):=by
 intro pins s σ H x y v u Q I rx ry h;obtain⟨i,j,rfl,rfl,q⟩:=h;obtain⟨t,rfl⟩:=rx;obtain⟨t',rfl⟩:=ry;exact rule i j t t' s _ _ ⟨.bl (g i j),H,I,rfl,q⟩
def J8(i j:Int):Prop:=0<j/\j<1073741824
def Lu(i j:Int):Prop:=0<=j/\j<=1000000/\i.natAbs<2^64
def HR(i j:Int):Prop:=(-(2^64)<i/\i<2^64)\/(-(2^64)<j/\j<2^64)
def HR.ok{i j:Int}(h:HR i j):IntMulOk i j:=by
 rcases h with⟨h1,h2⟩|⟨h1,h2⟩
 .exact .of_left (intBits_le_64 h1 h2)
 .exact .of_right (intBits_le_64 h1 h2)
def HS:QS X (binaryOp .Add) (YQ λi j=>.int (i+j)):=J7 λ_ _ _ _ _ _ _ q=>add_int q
def HU:QS X (binaryOp .Sub) (YQ λi j=>.int (i-j)):=J7 λ_ _ _ _ _ _ _ q=>sub_int q
def HV:QS X (binaryOp .Mult) (rI HR λi j=>.int (i*j)):=opI λ_ _ _ _ _ _ _ hc q=>mul_int q hc.ok
def Fj:QS X (binaryOp .FloorDiv) (rI J8 λi j=>.int (i/j)):=opI λi j _ _ _ _ _ hc q=>by
 have h1:(0:Int)<j:=hc.1;have h2:j<1073741824:=hc.2
 exact floordiv_int (by omega) (by rw[M3 i (by omega)];exact q) (.inl (Vw (by omega)))
def HW:QS X (binaryOp .Mod) (rI (λ_ j=>0<j) λi j=>.int (i%j)):=opI λi j _ _ _ _ _ hc q=>by
 have h1:(0:Int)<j:=hc
 exact mod_int' (by omega) (by rw[M4 i (by omega)];exact q)
def HX:QS X (binaryOp .Pow) (rI Lu λi j=>.int (i^j.toNat)):=opI λ_ _ _ _ _ _ _ hc q=>pow_int_small hc.1 hc.2.1 hc.2.2 q
def unI{f:Value->Sem Value}{g:Int->Int}
  (rule:∀(i:Int)(t:Tok)(s:Shared)(Q:Value->Shared->Prop)(E:Value->Shared->Prop),Q (.int (g i) s.toks) { s with toks:=s.toks+1 }->wpAny (model X.prog X.w) X.A (f (.int i t)) Q E s):
  UnR X f (rU λi=>.int (g i)):=by
 intro pins s σ H x v Q I rx h;obtain⟨i,rfl,q⟩:=h;obtain⟨t,rfl⟩:=rx;exact rule i t s _ _ ⟨.int (g i),H,I.tok _,⟨_,rfl⟩,q⟩
def HY:UnR X (unaryOp .USub) (rU λi=>.int (-i)):=unI λ_ _ _ _ _ q=>neg_int q
end
def HZ:V->V->Bool
 |.non,.non=>true | .non,.int _=>true | .int _,.non=>true | .non,.bl _=>true | .bl _,.non=>true | .non,.str _=>true | .str _,.non=>true
 |.int _,.int _=>true | .bl _,.bl _=>true | .str _,.str _=>true | .Xl _,.Xl _=>true
 |.int _,.str _=>true | .str _,.int _=>true | .bl _,.str _=>true | .str _,.bl _=>true
 |_,_=>false
def rEq:R2:=λx y H Q=>HZ x y=true/\Q (.bl (decide (x=y))) H
def rNe:R2:=λx y H Q=>HZ x y=true/\Q (.bl (!decide (x=y))) H
def zI{i j:Int}:decide (V.int i=V.int j)=(i == j):=by rw[Qy];simp
def CI{i j:Bool}:decide (V.bl i=V.bl j)=(i == j):=by rw[Qy];simp
def zJ{i j:Str}:decide (V.str i=V.str j)=(i == j):=by rw[Qy];simp
def zK{i j:Array UInt8}:decide (V.Xl i=V.Xl j)=(i.toList == j.toList):=by rw[Qy];cases i;cases j;simp
section
variable{X:Cx}{a b c:Expr}{ta tb tc:TE}{pos:Pos}
def bI{Q:VK}{k k':Bool}(I:Inv X pins σ H s)(q:Q (.bl k) H)(e:k=k'):EP X pins σ Q (.bool k') s:=by subst e;exact⟨.bl k,H,I,rfl,q⟩
def J9:QS X (compareOp .Eq) rEq:=by
 intro pins s σ H x y v u Q I rx ry h;obtain⟨hs,q⟩:=h;cases x with
 |non=>
  cases rx;cases y with
  |non=>cases ry;exact PySem.EqNone.eq_none_none (bI I q (by simp))
  |bl j=>cases ry;exact PySem.EqNone.eq_none_bool (bI I q (by simp))
  |int j=>obtain⟨t',rfl⟩:=ry;exact PySem.EqNone.eq_none_int (bI I q (by simp))
  |str j=>obtain⟨t',rfl⟩:=ry;exact PySem.EqNone.eq_none_str (bI I q (by simp))
  |_=>exact absurd (show false=true from hs) Ym
 |bl i=>
  cases rx;cases y with
  |non=>cases ry;exact PySem.EqNone.eq_bool_none (bI I q (by simp))
  |bl j=>cases ry;exact eq_bool (bI I q CI)
  |str j=>obtain⟨t',rfl⟩:=ry;exact PySem.EqMixed.eq_bool_str (bI I q (by simp))
  |_=>exact absurd (show false=true from hs) Ym
 |int i=>
  obtain⟨t,rfl⟩:=rx;cases y with
  |non=>cases ry;exact PySem.EqNone.eq_int_none (bI I q (by simp))
  |int j=>obtain⟨t',rfl⟩:=ry;exact eq_int (bI I q zI)
  |str j=>obtain⟨t',rfl⟩:=ry;exact PySem.EqMixed.eq_int_str (bI I q (by simp))
  |_=>exact absurd (show false=true from hs) Ym
 |str i=>
  obtain⟨t,rfl⟩:=rx;cases y with
  |non=>cases ry;exact PySem.EqNone.eq_str_none (bI I q (by simp))
  |bl j=>cases ry;exact PySem.EqMixed.eq_str_bool (bI I q (by simp))
  |int j=>obtain⟨t',rfl⟩:=ry;exact PySem.EqMixed.eq_str_int (bI I q (by simp))
  |str j=>obtain⟨t',rfl⟩:=ry;exact eq_str (bI I q zJ)
  |_=>exact absurd (show false=true from hs) Ym
 |Xl i=>
  obtain⟨t,rfl⟩:=rx;cases y with
  |Xl j=>obtain⟨t',rfl⟩:=ry;exact eq_bytes (bI I q zK)
  |_=>exact absurd (show false=true from hs) Ym
 |_=>cases y<;>exact absurd (show false=true from hs) Ym
def Ka:QS X (compareOp .NotEq) rNe:=by
 intro pins s σ H x y v u Q I rx ry h;obtain⟨hs,q⟩:=h;cases x with
 |non=>
  cases rx;cases y with
  |non=>cases ry;exact PySem.EqNone.ne_none_none (bI I q (by simp))
  |bl j=>cases ry;exact PySem.EqNone.ne_none_bool (bI I q (by simp))
  |int j=>obtain⟨t',rfl⟩:=ry;exact PySem.EqNone.ne_none_int (bI I q (by simp))
  |str j=>obtain⟨t',rfl⟩:=ry;exact PySem.EqNone.ne_none_str (bI I q (by simp))
  |_=>exact absurd (show false=true from hs) Ym
 |bl i=>
  cases rx;cases y with
  |non=>cases ry;exact PySem.EqNone.ne_bool_none (bI I q (by simp))
  |bl j=>cases ry;exact ne_bool (bI I q (Ql not CI))
  |str j=>obtain⟨t',rfl⟩:=ry;exact PySem.EqMixed.ne_bool_str (bI I q (by simp))
  |_=>exact absurd (show false=true from hs) Ym
 |int i=>
  obtain⟨t,rfl⟩:=rx;cases y with
  |non=>cases ry;exact PySem.EqNone.ne_int_none (bI I q (by simp))
  |int j=>obtain⟨t',rfl⟩:=ry;exact ne_int (bI I q (Ql not zI))
  |str j=>obtain⟨t',rfl⟩:=ry;exact PySem.EqMixed.ne_int_str (bI I q (by simp))
  |_=>exact absurd (show false=true from hs) Ym
 |str i=>
  obtain⟨t,rfl⟩:=rx;cases y with
  |non=>cases ry;exact PySem.EqNone.ne_str_none (bI I q (by simp))
  |bl j=>cases ry;exact PySem.EqMixed.ne_str_bool (bI I q (by simp))
  |int j=>obtain⟨t',rfl⟩:=ry;exact PySem.EqMixed.ne_str_int (bI I q (by simp))
  |str j=>obtain⟨t',rfl⟩:=ry;exact ne_str (bI I q (Ql not zJ))
  |_=>exact absurd (show false=true from hs) Ym
 |Xl i=>
  obtain⟨t,rfl⟩:=rx;cases y with
  |Xl j=>obtain⟨t',rfl⟩:=ry;exact ne_bytes (bI I q (Ql not zK))
  |_=>exact absurd (show false=true from hs) Ym
 |_=>cases y<;>exact absurd (show false=true from hs) Ym
def Kb:QS X (compareOp .Lt) (YQ λi j=>.bl (decide (i<j))):=Fi λ_ _ _ _ _ _ _ q=>lt_int q
def Kc:QS X (compareOp .LtE) (YQ λi j=>.bl (decide (i<=j))):=Fi λ_ _ _ _ _ _ _ q=>le_int q
def Ke:QS X (compareOp .Gt) (YQ λi j=>.bl (decide (j<i))):=Fi λ_ _ _ _ _ _ _ q=>gt_int q
def Kf:QS X (compareOp .GtE) (YQ λi j=>.bl (decide (j<=i))):=Fi λ_ _ _ _ _ _ _ q=>ge_int q
def Bn:QS X (compareOp .In) (λx y H Q=>∃i j,x=.str i/\y=.str j/\Q (.bl (!(Builtin.Str.occurrences j i 0 j.length 1).isEmpty)) H):=by intro pins s σ H x y v u Q I rx ry h;obtain⟨i,j,rfl,rfl,q⟩:=h;obtain⟨t,rfl⟩:=rx;obtain⟨t',rfl⟩:=ry;exact in_str (bI I q rfl)
def Ia(b:Expr)(h:op≠.In:=by decide)(h2:op≠.NotIn:=by decide):behindInMarks op b=false:=by
 have e1:(op == CmpOp.In)=false:=by cases op<;>first|rfl|exact absurd rfl h
 have e2:(op == CmpOp.NotIn)=false:=by cases op<;>first|rfl|exact absurd rfl h2
 cases b<;>simp[behindInMarks,e1,e2]
def zL(ho:QS X (compareOp op) r)(ha:PE X a ta)(hb:PE X b tb)(hm:behindInMarks op b=false):PE X (.Compare a [op] [b] pos) (tOp r ta tb):=by intro pins s σ H Q I h;exact wpAny_Compare1 (HQ ha hb I h λv u s2 x y H2 I2 rx ry q=>ho pins s2 σ H2 x y v u Q I2 rx ry q) hm
def Kg(t:TE):TT:=λσ H Q=>t σ H λx H'=>∃k,x=.bl k/\Q k H'
def zM(ho:QS X (compareOp op) r)(ha:PE X a ta)(hb:PE X b tb)(hm:behindInMarks op b=false):PT X (.Compare a [op] [b] pos) (Kg (tOp r ta tb)):=by
 intro pins s σ H Q I h
 refine wpAny_isTrue_Compare1 (PX (ha pins s σ H _ I h) λv s1 zq=>Tn zq λx H1 I1 r1 q1=>PX (hb pins s1 σ H1 _ I1 q1) λu s2 zq=>Tn zq λy H2 I2 r2 q2=>
  PX (ho pins s2 σ H2 x y v u _ I2 r1 r2 q2) λc s3 ⟨z,H3,I3,r3,k,e,q3⟩=>?_) hm
 subst e;cases r3;exact Qe ⟨H3,I3,q3⟩
def Ib(r r':R2)(ta tb tc:TE):TE:=λσ H Q=>ta σ H λx H1=>tb σ H1 λy H2=>r x y H2 λz H3=>∃k,z=.bl k/\
 (if k=true then tc σ H3 λw' H4=>r' y w' H4 Q else Q (.bl false) H3)
theorem CJ{op':CmpOp}{r':R2}(ho:QS X (compareOp op) r)(ho':QS X (compareOp op') r')(ha:PE X a ta)(hb:PE X b tb)(hc:PE X c tc)
  (hm:lastMarks [op,op'] [b,c]=false:=by with_unfolding_all rfl):PE X (.Compare a [op,op'] [b,c] pos) (Ib r r' ta tb tc):=by
 intro pins s σ H Q I h
 refine Compare_chain (PX (ha pins s σ H _ I h) λv s1 zq=>Tn zq λx H1 I1 r1 q1=>chain_link (PX (hb pins s1 σ H1 _ I1 q1) λu s2 zq=>Tn zq λy H2 I2 r2 q2=>
  PX (ho pins s2 σ H2 x y v u _ I2 r1 r2 q2) λd s3 ⟨z,H3,I3,r3,k,e,q3⟩=>?_)) hm
 subst e;cases r3;refine Qe ?_;cases k with
 |false=>exact ite_ff ⟨.bl false,H3,I3,rfl,q3⟩
 |true=>exact ite_tt (chain_last (PX (hc pins s3 σ H3 _ I3 q3) λw' s4 ⟨z',H4,I4,r4,q4⟩=>ho' pins s4 σ H4 y z' u w' Q I4 r2 r4 q4))
def mJ:(sizeLine:Nat)<2^63:=by rw[Wt];decide
def yn:QS X (binaryOp .Add) (λx y H Q=>∃i j,x=.str i/\y=.str j/\i.length+j.length<=sizeLine/\Q (.str (i++j)) H):=by intro pins s σ H x y v u Q I rx ry h;obtain⟨i,j,rfl,rfl,hz,q⟩:=h;obtain⟨t,rfl⟩:=rx;obtain⟨t',rfl⟩:=ry;exact add_str (λt' tk=>⟨.str (i++j),H,I.tok _,⟨_,rfl⟩,q⟩) hz
def Wi{x:V}(r:Vals [x] us):∃u,us=[u]/\RelV x u:=by
 cases r with
 |cons r1 r2=>cases r2;exact⟨_,rfl,r1⟩
def vals2{x y:V}(r:Vals [x,y] us):∃u w',us=[u,w']/\RelV x u/\RelV y w':=by
 cases r with
 |cons r1 r2=>
  cases r2 with
  |cons r3 r4=>cases r4;exact⟨_,_,rfl,r1,r3⟩
def CK:bT X (.builtin "abs") (λxs H Q=>∃i,xs=[.int i]/\Q (.int (if i<0 then -i else i)) H):=by
 intro pins s σ H xs us Q I r h;obtain⟨i,rfl,q⟩:=h;obtain⟨u,rfl,t,rfl⟩:=Wi r
 exact call_abs_int λu tk=>⟨.int (if i<0 then -i else i),H,I.tok _,⟨_,rfl⟩,q⟩
def Bo(hc:X.calm=true):bT X (.builtin "max") (λxs H Q=>∃i j,xs=[.int i,.int j]/\Q (.int (if j>i then j else i)) H):=by
 intro pins s σ H xs us Q I r h;obtain⟨i,j,rfl,q⟩:=h;obtain⟨u,w',rfl,⟨t,rfl⟩,⟨t',rfl⟩⟩:=vals2 r;refine max_two_ints (I.ok.hd hc) λh' tk k=>⟨_,H,I.kept k,?_,q⟩;by_cases hj:j>i
 .rw[Y9 hj,Y9 hj];exact⟨_,rfl⟩
 .rw[Yj hj,Yj hj];exact⟨_,rfl⟩
def Bp(hc:X.calm=true):bT X (.builtin "min") (λxs H Q=>∃i j,xs=[.int i,.int j]/\Q (.int (if j<i then j else i)) H):=by
 intro pins s σ H xs us Q I r h;obtain⟨i,j,rfl,q⟩:=h;obtain⟨u,w',rfl,⟨t,rfl⟩,⟨t',rfl⟩⟩:=vals2 r;refine min_two_ints (I.ok.hd hc) λh' tk k=>⟨_,H,I.kept k,?_,q⟩;by_cases hj:j<i
 .rw[Y9 hj,Y9 hj];exact⟨_,rfl⟩
 .rw[Yj hj,Yj hj];exact⟨_,rfl⟩
def rN:bT X (.type "int") (λxs H Q=>(∃i,xs=[.int i]/\Q (.int i) H) \/ ∃k,xs=[.bl k]/\Q (.int (if k then 1 else 0)) H):=by
 intro pins s σ H xs us Q I r h;rcases h with⟨i,rfl,q⟩|⟨k,rfl,q⟩
 .obtain⟨u,rfl,t,rfl⟩:=Wi r;exact call_int_int ⟨.int i,H,I,⟨_,rfl⟩,q⟩
 .obtain⟨u,rfl,r1⟩:=Wi r;cases r1
  exact call_int_bool ⟨.int (if k then 1 else 0),H,I.tok _,⟨_,rfl⟩,q⟩
def tW:bT X (.type "str") (λxs H Q=>∃i,xs=[.int i]/\i.natAbs.log2<1920/\Q (.str (toString i)) H):=by intro pins s σ H xs us Q I r h;obtain⟨i,rfl,hz,q⟩:=h;obtain⟨u,rfl,t,rfl⟩:=Wi r;exact PySem.P.str_of_int hz ⟨.str _,H,I.tok _,⟨_,rfl⟩,q⟩
def vW:bT X (.builtin "divmod") (λxs H Q=>∃i j,xs=[.int i,.int j]/\J8 i j/\∀p,H p=none->Q (.ref p) (upd H p (.tup [.int (i/j),.int (i%j)]))):=by
 intro pins s σ H xs us Q I r h;obtain⟨i,j,rfl,⟨h1,h2⟩,q⟩:=h;obtain⟨u,w',rfl,⟨t,rfl⟩,⟨t',rfl⟩⟩:=vals2 r
 refine divmod_int (by omega) ?_ (.inl (Vw (by omega)))
 rw[M3 i (by omega),M4 i (by omega)]
 have hn:H s.heap.objs.size=none:=I.hok.fresh (Yh _);refine⟨.ref s.heap.objs.size,_,?_,rfl,q _ hn⟩
 refine I.laid (λb o e=>Y7 _ e) (Yh _) ⟨by simp only[Yn,Zu];rw[Wt];decide,[.int (i/j) s.toks,.int (i%j) (s.toks+1)],.cons ⟨_,rfl⟩ (.cons ⟨_,rfl⟩ .nil),?_⟩
 exact⟨_,Ye s.heap rfl,rfl,0,rfl⟩
end
structure VJ(h:Heap)(x dx C:Addr)(mA:Str->Option Value):Prop where
 obj:h.get? x=some (instObj C dx)
 ns:h.Ns1 dx mA
 ne:dx≠x
def Bq{dx:Addr}{mA:Str->Option Value}(n:h.Ns1 dx mA):∃od,h.get? dx=some od/\∀name,lookIn name od=some (mA name):=by
 obtain⟨o,es,ep,ho,hd,hk,_,hm⟩:=n;refine⟨o,ho,λname=>?_⟩;have e:=hm name;unfold nsFind findBy at e;rw[<- Array.find?_toList]at e;unfold lookIn;rw[hd];dsimp only;split
 .rename_i y q;rw[q]at e;exact Ql some e
 .rename_i q;rw[q]at e
  have a:es.toList.any (·.refKey)=false:=by rw[Wc];intro y hy;obtain⟨z,t,hkey⟩:=hk y (Array.mem_toList_iff.mp hy);simp[DictEntry.refKey,hkey]
  have a':¬es.toList.any (·.refKey)=true:=by rw[a];exact Ym
  rw[Yj a'];exact Ql some e
def VJ.look{x dx:Addr}{mA:Str->Option Value}(I:VJ h x dx C mA):∃od,PySem.W.InstAt h x (instObj C dx) C (some od)/\∀name,lookIn name od=some (mA name):=
 let ⟨od,ho,hl⟩:=Bq I.ns
 ⟨od,⟨I.obj,rfl,rfl,ho⟩,hl⟩
section
variable{prog:Program}{w:World}{A:Around}{E:Value->Shared->Prop}{s:Shared}{K:Frag}{x dx C f:Addr}{mA:Str->Option Value}{name:Str}{v:Value}
def get_map{expr:Bool}{Q:Value->Shared->Prop}(X:K.In s.heap)(I:VJ s.heap x dx C mA)(hg:plainGet K C name=true)(hh:hasDictIn K C=true)
  (ha:findIn K (.ref C) name=some none) (hv:mA name=some v) (hv':handedIn v=true) (h:Q v { s with toks:=s.toks+1 }):
  wpAny (model prog w) A (getAttr (.ref x) name expr) Q E s:=by
 obtain⟨od,J,hl⟩:=I.look
 exact get_value X J (Uk hg).1 (findObj_own hh ha rfl (by rw[hl,hv])) hv' h
def CL{pl:Sem Bool}{Q:Value×List Value->Shared->Prop}(X:K.In s.heap)(I:VJ s.heap x dx C mA)(hg:plainGet K C name=true)
  (hf:findIn K (.ref C) name=some (some (.ref f))) (ht:isFn K (.ref f)=true) (hv:mA name=none) (h:Q (.ref f,[.ref x]) s):
  wpAny (model prog w) A (getMethod (.ref x) name pl) Q E s:=by
 obtain⟨od,J,hl⟩:=I.look
 exact method_fn X J (Uk hg).1 (Uk hg).2 hf (Vc.mp ht) (by show(lookIn name od).map (·.isSome)=some false;rw[hl,hv];rfl) h
def Fl{ns:List Str}{Q:Unit->Shared->Prop}(X:K.In s.heap)(I:VJ s.heap x dx C mA)
  (hs:findIn K (.ref C) "__setattr__" = some (some (.builtin "object.__setattr__"))) (hp:plainOver K C=true) (ht:takerIn K C name=some none) (hh:hasDictIn K C=true)
  (hw:PySem.Within mA ns) (hsz:ns.length<=sizeLine)
  (h:∀h',VJ h' x dx C (λy=>if y=name then some v else mA y)->Heap.SameBut dx s.heap h'->Q () { s with heap:=h',toks:=s.toks+2 }):
  wpAny (model prog w) A (setAttr (.ref x) name v) Q E s:=by
 obtain⟨od,J,hl⟩:=I.look
 refine set_plain X J hs (osa_open (s:={ s with toks:=s.toks+1 }) (r:=none) X J hp ht λb=>?_)
 obtain⟨cd,hc,hd'⟩:=any_some hh;have hx:s.heap.get? x=some ⟨.ref C,some dx,.plain,#[]⟩:=I.obj
 refine Y6 (Yg (Y6 (Y6 (wpAny_loadPart hx (Y6 (Looks.here (s:={ s with toks:=s.toks+1 }) (looks_clsIn X hc) ?_))))))
 rw[hd'];refine Yg (a:=some dx) (Y6 (Yg (Y6 ?_)))
 refine wpAny_nsSet1 (s:={ s with toks:=s.toks+1 }) I.ns λh' hn2 hs2=>?_
 obtain⟨oD,esD,epD,hoD,hdD,hcD⟩:=hn2.count (PySem.Within.cons name v hw)
 refine Y6 (wpAny_lookBehind hoD (by rw[hdD];exact pastItsLine_dict (Yw hcD (by rw[Yn];omega))) ?_)
 exact Yg (h _ ⟨(hs2.2 _ (Ne.symm I.ne)).trans I.obj,hn2,I.ne⟩ hs2)
def CM{R:Result->Shared->Prop}{vs:List Value}{kw:List (Str×Value)}(X:K.In s.heap)(hm:makesIn K C=true)
  (hi:findIn K (.ref C) "__init__" = some (some (.ref f))) (hf:typeIn K (.ref f)=some (.type "function"))
  (h:codeAny (model prog w) (A.under (.builtin "type.__call__" ⟨.ref C::vs,kw⟩)) (.call (.ref f) ⟨.ref (s.heap.objs.size+1)::vs,kw⟩) (InitBack (s.heap.objs.size+1) R)
   { s with heap:=(s.heap.push emptyDict).push (instObj C s.heap.objs.size) }):
  codeAny (model prog w) A (.call (.ref C) ⟨vs,kw⟩) R s:=by
 obtain⟨hh,g,d,t,os⟩:=s;exact make_core (makes_of X hm) (looks_findIn X hi) (λself=>bind_fn X self hf) (.inl rfl) h
end
def iG(f:Str)(v:V):List (Str×V)->List (Str×V)
 |[]=>[(f,v)]
 |(g,x)::r=>if g=f then (g,v)::r else (g,x)::iG f v r
theorem nJ(f g:Str)(v:V):∀fs:List (Str×V),(iG f v fs).lookup g=if g=f then some v else fs.lookup g
 |[]=>by
  show List.lookup g [(f,v)]=_;by_cases h:g=f
  .have hb:(g == f)=true:=Vc.mpr h;simp only[List.lookup,hb,Y9 h]
  .have hb:(g == f)=false:=V0.mpr h;simp only[List.lookup,hb,Yj h]
 |(k,x)::r=>by
  have ih:=nJ f g v r
  rw[show iG f v ((k,x)::r)=(if k=f then (k,v)::r else (k,x)::iG f v r) from rfl]
  by_cases hk:k=f
  .rw[Y9 hk];by_cases h:g=k
   .have hb:(g == k)=true:=Vc.mpr h;simp only[List.lookup,hb,Y9 (h.trans hk)]
   .have hb:(g == k)=false:=V0.mpr h;simp only[List.lookup,hb,Yj (λe:g=f=>h (e.trans hk.symm))]
  .rw[Yj hk];by_cases h:g=k
   .have hb:(g == k)=true:=Vc.mpr h;simp only[List.lookup,hb,Yj (λe:g=f=>hk (h.symm.trans e))]
   .have hb:(g == k)=false:=V0.mpr h;simp only[List.lookup,hb];exact ih
theorem mK(f:Str)(v:V):∀fs:List (Str×V),f∈(iG f v fs).map (·.1)/\∀g,g∈fs.map (·.1)->g∈(iG f v fs).map (·.1)
 |[]=>⟨by simp[iG],λg h=>by simp at h⟩
 |(k,x)::r=>by
  obtain⟨i1,i2⟩:=mK f v r
  rw[show iG f v ((k,x)::r)=(if k=f then (k,v)::r else (k,x)::iG f v r) from rfl]
  by_cases hk:k=f
  .rw[Y9 hk];subst hk
   exact⟨by simp,λg h=>by simpa using h⟩
  .rw[Yj hk];refine⟨?_,λg h=>?_⟩
   .rw[Y8];exact Z0 _ i1
   .rw[Y8]at h ⊢;rcases Yb.mp h with e|e
    .exact Yb.mpr (.inl e)
    .exact Z0 _ (i2 g e)
theorem nK(f:Str)(v:V):∀fs:List (Str×V),(iG f v fs).length<=fs.length+1
 |[]=>by simp[iG]
 |(k,x)::r=>by
  have ih:=nK f v r
  rw[show iG f v ((k,x)::r)=(if k=f then (k,v)::r else (k,x)::iG f v r) from rfl]
  by_cases hk:k=f
  .rw[Y9 hk,Yn,Yn];omega
  .rw[Yj hk,Yn,Yn];omega
def jB.some_of{v:V}{o:Option Value}(r:jB (some v) o):∃u,o=some u/\RelV v u:=by
 cases o with
 |none=>exact(show False from r).elim
 |some u=>exact⟨u,rfl,r⟩
def jB.none_of{o:Option Value}(r:jB none o):o=none:=by
 cases o with
 |none=>rfl
 |some u=>exact(show False from r).elim
def Br{v:V}(r:RelV v u):handedIn u=true:=by
 cases v with
 |non=>cases (show u=Value.none from r);rfl
 |bl b=>cases (show u=Value.bool b from r);rfl
 |int i=>obtain⟨t,e⟩:=(show ∃t,u=Value.int i t from r);cases e;rfl
 |str x=>obtain⟨t,e⟩:=(show ∃t,u=Value.str x t from r);cases e;rfl
 |Xl b=>obtain⟨t,e⟩:=(show ∃t,u=Value.bytes b t from r);cases e;rfl
 |flt b=>obtain⟨t,e⟩:=(show ∃t,u=Value.float b t from r);cases e;rfl
 |ref a=>cases (show u=Value.ref a from r);rfl
 |ty n=>cases (show u=Value.type n from r);rfl
section
variable{P:Program}{w:World}{H H':Hp}{h h':Heap}{a C dx:Addr}{fs fs':List (Str×V)}
def oQ(hok:RN P w H h)(e:H a=some (.ins C dx fs)):∃mA,VJ h a dx C mA/\(∀f,jB (fs.lookup f) (mA f))/\PySem.Within mA (fs.map (·.1))/\fs.length<=1000/\H dx=some (.own a):=by
 obtain⟨d,z,ne,ob,mA,n,r,q⟩:=(show ck P w H h a (.ins C dx fs) from hok a _ e)
 exact⟨mA,⟨ob,n,ne⟩,r,q,z,d⟩
end
structure Tr(K:Frag)(C:Addr):Prop where
 pg:plainGet K C Str.empty=true
 hd:hasDictIn K C=true
 po:plainOver K C=true
 sa:findIn K (.ref C) "__setattr__" = some (some (.builtin "object.__setattr__"))
def Tr.get{K:Frag}(c:Tr K C)(f:Str):plainGet K C f=true:=c.pg
def k6(K:Frag)(C:Addr)(f:Str):Prop:=findIn K (.ref C) f=some none
def k6.taker{K:Frag}{f:Str}(n:k6 K C f):takerIn K C f=some none:=by
 unfold takerIn
 rw[show findIn K (.ref C) f=some none from n]
 rfl
structure Meth(K:Frag)(C:Addr)(m:Str)(f:Addr):Prop where
 at_:findIn K (.ref C) m=some (some (.ref f))
 fn:isFn K (.ref f)=true
 kp:keepIn K (.ref f)=true
section
variable{X:Cx}{pins:List (Addr×Obj)}{σ:St}{H:Hp}{s:Shared}{a C dx:Addr}{fs:List (Str×V)}{f:Str}{v:V}{A:Around}{E:Value->Shared->Prop}
def yo{b:Bool}{Q:Value->Shared->Prop}(I:Inv X pins σ H s)(e:H a=some (.ins C dx fs))(c:Tr X.K C)(n:k6 X.K C f)(l:fs.lookup f=some v)
  (h:∀u s',Inv X pins σ H s'->RelV v u->Q u s'):wpAny (model X.prog X.w) A (getAttr (.ref a) f b) Q E s:=by
 obtain⟨mA,O,r,_,_,_⟩:=oQ I.hok e
 obtain⟨u,hu,ru⟩:=jB.some_of (v:=v) (o:=mA f) (by rw[<- l];exact r f)
 exact get_map I.RK O (c.get f) c.hd n hu (Br ru) (h u _ (I.tok _) ru)
def pe{m:Str}{g:Addr}{pl:Sem Bool}{Q:Value×List Value->Shared->Prop}(I:Inv X pins σ H s)(e:H a=some (.ins C dx fs))(c:Tr X.K C)(k:Meth X.K C m g)(l:fs.lookup m=none)
  (h:Q (.ref g,[.ref a]) s):wpAny (model X.prog X.w) A (getMethod (.ref a) m pl) Q E s:=by
 obtain⟨mA,O,r,_,_,_⟩:=oQ I.hok e
 have hn:mA m=none:=jB.none_of (by rw[<- l];exact r m)
 exact CL I.RK O (c.get m) k.at_ k.fn hn h
def yp{y:V}{Q:Unit->Shared->Prop}(I:Inv X pins σ H s)(e:H a=some (.ins C dx fs))(c:Tr X.K C)(n:k6 X.K C f)(hl:fs.length<1000)(ry:RelV y u)
  (h:∀s',Inv X pins σ (upd H a (.ins C dx (iG f y fs))) s'->Q () s'):wpAny (model X.prog X.w) A (setAttr (.ref a) f u) Q E s:=by
 obtain⟨mA,O,r,wi,_,ho⟩:=oQ I.hok e
 have hz:(fs.map (·.1)).length<=sizeLine:=by rw[Yi,Wt];omega
 refine Fl I.RK O c.sa c.po n.taker c.hd wi hz λh' O' sb=>h _ ?_
 have hd:∃o,h'.get? dx=some o:=let ⟨o,_,_,e',_⟩:=O'.ns;⟨o,e'⟩
 refine I.write (x:=a) (e:=dx) (by rw[e];exact True.intro) (.inr ho) (λb q hb z=>(sb.2 b hb).trans z) hd ?_
 refine⟨by rw[aQ O.ne];exact ho,?_,O.ne,O'.obj,_,O'.ns,λg=>?_,λg hg=>?_⟩
 .have:=nK f y fs;omega
 .show jB ((iG f y fs).lookup g) (if g=f then some u else mA g)
  rw[nJ];by_cases q:g=f
  .rw[Y9 q,Y9 q];exact ry
  .rw[Yj q,Yj q];exact r g
 .by_cases q:g=f
  .rw[q];exact(mK f y fs).1
  .refine(mK f y fs).2 g (wi g λz=>hg ?_)
   show(if g=f then some u else mA g)=none
   rw[Yj q];exact z
def Inv.made(I:Inv X pins σ H s):Inv X pins σ (upd (upd H s.heap.objs.size (.own (s.heap.objs.size+1))) (s.heap.objs.size+1) (.ins C s.heap.objs.size []))
  { s with heap:=(s.heap.push emptyDict).push (instObj C s.heap.objs.size) }:=by
 have e1:(s.heap.push emptyDict).get? s.heap.objs.size=some emptyDict:=Ye s.heap rfl
 have e2:((s.heap.push emptyDict).push (instObj C s.heap.objs.size)).get? (s.heap.objs.size+1)=some (instObj C s.heap.objs.size):=by
  have:=Ye (s.heap.push emptyDict) (o:=instObj C s.heap.objs.size) rfl
  rwa [Z2]at this
 have e3:(s.heap.push emptyDict).Ns s.heap.objs.size (λ_=>none):=⟨emptyDict,#[],_,e1,rfl,(λe he=>absurd he (by simp)),λ_=>rfl⟩
 have I1:=I.laid (a:=s.heap.objs.size) (o:=.own (s.heap.objs.size+1)) (h':=s.heap.push emptyDict) (t':=s.toks) (λb u q=>Y7 _ q) (Yh _) ⟨_,e1⟩;refine I1.laid (a:=s.heap.objs.size+1) (o:=.ins C s.heap.objs.size []) (t':=s.toks) (λb u q=>Y7 _ q) (Nat.le_of_eq (Z2 _ _)) ?_;have ne:s.heap.objs.size≠s.heap.objs.size+1:=Yv (Q2 _)
 refine⟨by rw[aQ ne,aU],Zs _,ne,e2,λ_=>none,(Heap.Ns1.of_empty e3).at λo q=>Y7 _ q,λ_=>True.intro,λy hy=>absurd rfl hy⟩
def Fm{prog:Program}{w:World}{env:Env}{f:Str}{pos:Pos}{s:Shared}{Q:Value->Shared->Prop}(hb:attributeBase e f env (eval e env)=eval e env)
  (h:wpAny (model prog w) A (eval e env) (λo s₁=>wpAny (model prog w) A (getAttr o f true) Q E s₁) E s):wpAny (model prog w) A (eval (.Attribute e f pos) env) Q E s:=
 Attribute_any_ h (by rw[arm_eval_Attribute,hb])
end
def Lv(K:Frag)(ta:TE)(f:Str):TE:=λσ H Q=>ta σ H λx H1=>∃a C dx fs v,x=.ref a/\H1 a=some (.ins C dx fs)/\Tr K C/\k6 K C f/\fs.lookup f=some v/\Q v H1
def Lx(K:Frag)(ta tv:TE)(f:Str):TS:=λD σ H=>tv σ H λy H1=>ta σ H1 λx H2=>∃a C dx fs,x=.ref a/\H2 a=some (.ins C dx fs)/\Tr K C/\k6 K C f/\fs.length<1000/\
 D.nx σ (upd H2 a (.ins C dx (iG f y fs)))
section
variable{X:Cx}{o e value:Expr}{f:Str}{pos pos' tpos:Pos}{ta tv:TE}
def Ic(he:PE X e ta)(hb:attributeBase e f X.env (eval e X.env)=eval e X.env):PE X (.Attribute e f pos) (Lv X.K ta f):=by intro pins s σ H Q I h;refine Fm hb (PX (he pins s σ H _ I h) λu s1 zq=>?_);obtain⟨x,H1,I1,rx,a,C,dx,fs,v,ex,ea,c,n,l,q⟩:=zq;subst ex;obtain rfl:u=Value.ref a:=rx;exact yo I1 ea c n l λu' s2 I2 ru=>⟨v,H1,I2,ru,q⟩
def Ie(ha:PE X o ta)(hv:PE X value tv)(hs:swapsWith value (some (.Attribute o f pos')) pos.line X.env=pure false):PS X (.Assign [.Attribute o f pos'] value pos) (Lx X.K ta tv f):=by intro pins s σ H D I h;refine plainObj_wpAny_Assign_Attribute (PX (hv pins s σ H _ I h) λu s1 zq=>Tn zq λy H1 I1 ry q=>PX (ha pins s1 σ H1 _ I1 q) λov s2 zq=>?_) hs;obtain⟨x,H2,I2,rx,a,C,dx,fs,ex,ea,c,n,l,q2⟩:=zq;subst ex;obtain rfl:ov=Value.ref a:=rx;exact yp I2 ea c n l ry λs3 I3=>⟨σ,_,I3,q2⟩
end
section
variable{X:Cx}{pins:List (Addr×Obj)}{σ:St}{H:Hp}{s:Shared}{A:Around}{E:Value->Shared->Prop}{Q:Value->Shared->Prop}{c:Value}{b:Bool}
inductive R3(K:Frag)(H:Hp):V->Value->Prop where
 |non:R3 K H .non (.type "NoneType")
 |bl (x:Bool):R3 K H (.bl x) (.type "bool")
 |int (i:Int):R3 K H (.int i) (.type "int")
 |str (x:Str):R3 K H (.str x) (.type "str")
 |flt (x:UInt64):R3 K H (.flt x) (.type "float")
 |lst {a:Addr} {xs:List V} (e:H a=some (.lst xs)):R3 K H (.ref a) (.type "list")
 |QX {a:Addr} {o:Obj} {xs:List V} (e:H a=some (.QX o (.lst xs))):R3 K H (.ref a) (.type "list")
 |tup {a:Addr} {xs:List V} (e:H a=some (.tup xs)):R3 K H (.ref a) (.type "tuple")
 |dK {a:Addr} {kvs:List (Key×V)} (e:H a=some (.dK kvs)):R3 K H (.ref a) (.type "dict")
 |dT {a:Addr} {kvs:List (List Key×V)} (e:H a=some (.dT kvs)):R3 K H (.ref a) (.type "dict")
 |ins {a C dx:Addr} {fs:List (Str×V)} (e:H a=some (.ins C dx fs)) (cl:Tr K C) (ha:findIn K (.ref C) "__class__" = some (some (.builtin "object.__class__")))
   (hn:specialIn K (.builtin "object.__class__") "__get__" = some (some (.builtin "getset_descriptor.__get__"))) (htk:takesIn K (.builtin "object.__class__")=some true)
   (hm:mroIn K C (.type "object")=some true):R3 K H (.ref a) (.ref C)
def Bs{x:V}{t:Value}(I:Inv X pins σ H s)(rx:RelV x u)(ty:R3 X.K H x t)(e:kitOne X.K t c=some b)(h:∀tk,Q (.bool b) { s with toks:=tk }):
  wpAny (model X.prog X.w) A (call (.builtin "isinstance") [u,c]) Q E s:=by
 cases ty with
 |non=>cases (show u=Value.none from rx);exact Q0 kitx_none I.RK True.intro e (λz=>nomatch z) h
 |bl y=>cases (show u=Value.bool y from rx);exact Q0 kitx_bool I.RK True.intro e (λz=>nomatch z) h
 |int i=>obtain⟨t,q⟩:=(show ∃t,u=Value.int i t from rx);cases q;exact Q0 kitx_int I.RK True.intro e (λz=>nomatch z) h
 |str y=>obtain⟨t,q⟩:=(show ∃t,u=Value.str y t from rx);cases q;exact Q0 kitx_str I.RK True.intro e (λz=>nomatch z) h
 |flt y=>obtain⟨t,q⟩:=(show ∃t,u=Value.float y t from rx);cases q;exact Q0 kitx_float I.RK True.intro e (λz=>nomatch z) h
 | @lst a xs ea=>
  cases (show u=Value.ref a from rx)
  obtain⟨_,_,n,_,h1⟩:=(show ck X.prog X.w H s.heap a (.lst xs) from I.hok a _ ea)
  exact Q0 kitx_list I.RK ⟨_,h1,rfl⟩ e (λz=>nomatch z) h
 | @QX a ob xs ea=>
  cases (show u=Value.ref a from rx)
  obtain⟨_,_,_,n,_,h1⟩:=(show ck X.prog X.w H s.heap a (.QX ob (.lst xs)) from I.hok a _ ea)
  exact Q0 kitx_list I.RK ⟨_,h1,rfl⟩ e (λz=>nomatch z) h
 | @tup a xs ea=>
  cases (show u=Value.ref a from rx)
  obtain⟨_,_,_,p⟩:=(show ck X.prog X.w H s.heap a (.tup xs) from I.hok a _ ea)
  obtain⟨o,h1,h2,_⟩:=p
  exact Q0 kitx_tuple I.RK ⟨o,h1,h2⟩ e (λz=>nomatch z) h
 | @dK a kvs ea=>
  cases (show u=Value.ref a from rx)
  obtain⟨_,_,vs,_,p⟩:=(show ck X.prog X.w H s.heap a (.dK kvs) from I.hok a _ ea)
  obtain⟨o,es,ep,h1,h2,_⟩:=p
  exact Q0 kitx_dict I.RK ⟨o,h1,h2.1⟩ e (λz=>nomatch z) h
 | @dT a kvs ea=>
  cases (show u=Value.ref a from rx)
  obtain⟨_,_,xs,_,o,es,ep,h1,h2,_⟩:=(show ck X.prog X.w H s.heap a (.dT kvs) from I.hok a _ ea)
  exact Q0 kitx_dict I.RK ⟨o,h1,h2.1⟩ e (λz=>nomatch z) h
 | @ins a C dx fs ea cl ha hn htk hm=>
  cases (show u=Value.ref a from rx)
  obtain⟨mA,O,_⟩:=oQ I.hok ea;obtain⟨od,J,_⟩:=O.look
  exact Q0 (kitx_own (cl.get _) cl.hd ha hn htk hm) I.RK J e (λz=>nomatch z) h
end
structure PQ(k:Nat)(A:Around):Prop where
 hd:A.handled=none
 dp:A.depth+3*k+5<recursionLimit
 un:A.units+16*k+200<cLine
 gd:A.guards=some []
def PQ.mono{k:Nat}(r:PQ k A)(h:j<=k):PQ j A:=⟨r.hd,by have:=r.dp;omega,by have:=r.un;omega,r.gd⟩
theorem PQ.deeper{k:Nat}(r:PQ (k+1) A)(env:Env):PQ k (A.deeper env):=
 ⟨r.hd,by have:=r.dp;show A.depth+1+3*k+5<_;omega,by have:=r.un;show A.units+3+16*k+200<_;omega,r.gd⟩
def yq{kw:List (Str×Value)}:(A.under (.builtin "type.__call__" ⟨.ref C::us,kw⟩)).depth=A.depth+1:=by first|rfl|simp[Around.under,Code.weight,Code.isCreation,Code.isGuard,Code.isCaller,Code.frames,Code.isFrame,guardIds]
def yr{kw:List (Str×Value)}:(A.under (.builtin "type.__call__" ⟨.ref C::us,kw⟩)).units=A.units+1:=by first|rfl|simp[Around.under,Code.cUnits,Code.frames,Code.isFrame]
def PQ.make{k:Nat}(r:PQ (k+1) A)(C:Addr)(us:List Value)(kw:List (Str×Value)):PQ k (A.under (.builtin "type.__call__" ⟨.ref C::us,kw⟩)):=
 ⟨r.hd,by have:=r.dp;rw[yq];omega,by have:=r.un;rw[yr];omega,by first|exact r.gd|(have:=r.gd;simpa[Around.under,Code.isGuard,guardIds] using this)⟩
theorem PQ.depth{k:Nat}(r:PQ k A):A.depth<recursionLimit:=by have:=r.dp;omega
theorem PQ.units{k:Nat}(r:PQ k A):A.units+64<cLine:=by have:=r.un;omega
def Ig:TA:=λ_ H Q=>Q [] H
def Kh(ta:TE)(tr:TA):TA:=λσ H Q=>ta σ H λx H1=>tr σ H1 λxs H2=>Q (x::xs) H2
section
variable{X:Cx}{e:Expr}{es:List Expr}{te:TE}{t:TA}{pos:Pos}
def CN:PA X [] Ig:=λ_ _ _ _ H Q I h=>Calls.spliced_nil ⟨[],H,I,.nil,h⟩
def zN(ha:PE X e te)(hr:PA X es t)(hs:starEach (e::es) X.env=(false,eval e X.env)::starEach es X.env:=by rfl):PA X (e::es) (Kh te t):=by intro pos pins s σ H Q I h;rw[hs];show wpAny _ _ (spliced ((false,eval e X.env)::backTo pos (starEach es X.env))) _ _ s;refine Uu (PX (ha pins s σ H _ I h) λu s1 zq=>?_);obtain⟨x,H1,I1,r1,q1⟩:=zq;exact PX (hr pos pins s1 σ H1 _ I1 q1) λus s2 zq=>Tn zq λxs H2 I2 r2 q2=>⟨x::xs,H2,I2,.cons r1 r2,q2⟩
def Ly(t:TA):TE:=λσ H Q=>t σ H λxs H1=>xs.length<=sizeLine/\∀p,H1 p=none->Q (.ref p) (upd H1 p (.tup xs))
def Lz(t:TA):TE:=λσ H Q=>t σ H λxs H1=>xs.length<=sizeLine/\∀p,H1 p=none->Q (.ref p) (upd H1 p (.lst xs))
def Ih{x1}(h:PA X es t):PE X (.Tuple es x1 pos) (Ly t):=by
 intro pins s σ H Q I hq
 refine wpAny_Tuple_spliced (PX (h pos pins s σ H _ I hq) λus s1 ⟨xs,H1,I1,r,z,q⟩=>⟨by rw[<- r.length];exact z,?_⟩)
 have hf:H1 s1.heap.objs.size=none:=I1.hok.fresh (Yh _);refine⟨.ref s1.heap.objs.size,upd H1 s1.heap.objs.size (.tup xs),I1.laid (t':=s1.toks) (λb u e=>Y7 _ e) (Yh _) ?_,rfl,q _ hf⟩;exact⟨z,us,r,⟨_,Ye _ rfl,rfl,_,rfl⟩⟩
def CO(h:PA X es t):PE X (.List es pos) (Lz t):=by
 intro pins s σ H Q I hq
 refine wpAny_List_spliced (PX (h pos pins s σ H _ I hq) λus s1 ⟨xs,H1,I1,r,z,q⟩=>⟨by rw[<- r.length];exact z,?_⟩)
 have hf:H1 s1.heap.objs.size=none:=I1.hok.fresh (Yh _);refine⟨.ref s1.heap.objs.size,upd H1 s1.heap.objs.size (.lst xs),I1.laid (t':=s1.toks) (λb u e=>Y7 _ e) (Yh _) ?_,rfl,q _ hf⟩;exact⟨z,us,0,r,Ye _ rfl⟩
end
abbrev Sp:=List V->Hp->VK->XK->Prop
abbrev Xe:=List Env->Hp->Shared->XK->Value->Shared->Prop
structure VL(P:Program)(w:World)(K:Frag)(mg:Str->Option Value)(base:Heap)(A:Around)(outer:List Env)(s:Shared)(H:Hp):Prop where
 frames:A.frames=some outer
 mod:Mod K mg base
 bs:∀b o,base.get? b=some o->s.heap.get? b=some o/\H b=none
 YJ:base.objs.size<=s.heap.objs.size
 Ss:s.heap.FunFrames base outer
 frf:∀b∈frs outer,H b=none
 hok:RN P w H s.heap
 bare:AllBare s.gens
def CE(outer:List Env)(P:Program)(w:World)(H:Hp)(s:Shared)(Q:VK)(u:Value)(s':Shared):Prop:=
 ∃v H',s'.os=s.os/\AllBare s'.gens/\Un (frs outer) [] H H' s.heap s'.heap/\RN P w H' s'.heap/\RelV v u/\Q v H'
def CR(CX:Xe)(outer:List Env)(P:Program)(w:World)(H:Hp)(s:Shared)(Q:VK)(E:XK)(r:Result)(s':Shared):Prop:=
 match r with
 |.ok (.ret u)=>CE outer P w H s Q u s'
 |.ok _=>False
 |.error e=>CX outer H s E e s'
structure Rb(P:Program)(w:World)(K:Frag)(mg:Str->Option Value)(base:Heap)(CX:Xe)(k:Nat)(f:Addr)(fd:FuncData)(ps:List Str)(sp:Sp):Prop where
 len:∀vs H Q E,sp vs H Q E->vs.length=ps.length
 run:∀(A:Around)(outer:List Env)(s:Shared)(H:Hp)(args:Args)(us:List Value)(vs:List V)(Q:VK)(E:XK),PQ k A->VL P w K mg base A outer s H->BindsTo s fd args (ps.zip us)->Vals vs us->sp vs H Q E->
  codeAny (model P w) A (.call (.ref f) args) (CR CX outer P w H s Q E) s
theorem Rb.mono{K:Frag}{CX:Xe}{k:Nat}{f:Addr}{sp:Sp}(F:Rb P w K mg base CX j f fd ps sp)(h:j<=k):
  Rb P w K mg base CX k f fd ps sp:=⟨F.len,λA outer s H args us vs Q E hr=>F.run A outer s H args us vs Q E (hr.mono h)⟩
def Rb.imp{K:Frag}{CX:Xe}{k:Nat}{f:Addr}{sp sp':Sp}(F:Rb P w K mg base CX k f fd ps sp)
  (h:∀vs H Q E,sp' vs H Q E->sp vs H Q E):Rb P w K mg base CX k f fd ps sp':=
 ⟨λvs H Q E q=>F.len vs H Q E (h _ _ _ _ q),λA outer s H args us vs Q E hr he hb hv hs=>F.run A outer s H args us vs Q E hr he hb hv (h _ _ _ _ hs)⟩
def VL.make{K:Frag}{outer:List Env}(e:VL P w K mg base A outer s H)(C:Addr)(us:List Value)(kw:List (Str×Value)):
  VL P w K mg base (A.under (.builtin "type.__call__" ⟨.ref C::us,kw⟩)) outer s H:=⟨by first|exact e.frames|(simpa[Around.under,Code.envs,Code.isFrame,pushEnvs] using e.frames),e.mod,e.bs,e.YJ,e.Ss,e.frf,e.hok,e.bare⟩
section
variable{X:Cx}{pins:List (Addr×Obj)}{σ:St}{H:Hp}{s s':Shared}
def Inv.env0(I:Inv X pins σ H s):VL X.prog X.w X.K X.mg X.base X.A X.stack s H:=
 ⟨I.ok.frames,I.ok.mod,I.bs,Yw I.ok.YJ I.sz,I.stack,I.WT,I.hok,I.bare⟩
def Inv.after{Q:VK}(I:Inv X pins σ H s)(h:CE X.stack X.prog X.w H s Q u s'):EP X pins σ Q u s':=by
 obtain⟨v,H',os,bare,un,hok,r,q⟩:=h;obtain⟨hh,g,d,t,os'⟩:=s';obtain rfl:os'=s.os:=os
 exact⟨v,H',I.call (h':=hh) (g':=g) (d':=d) (t':=t) (ch:=[]) un hok bare (λb z=>absurd z (by simp)),r,q⟩
end
def Ki(sp:Sp)(Su:List V)(E:XK)(t:TA):TE:=λσ H Q=>t σ H λvs H1=>sp (vs++Su) H1 Q E
def G8(C:Addr)(m:Str)(sp:Sp)(Su:List V)(E:XK)(ta:TE)(t:TA):TE:=λσ H Q=>ta σ H λx H1=>∃a dx fs,x=.ref a/\H1 a=some (.ins C dx fs)/\fs.lookup m=none/\
 t σ H1 λvs H2=>sp (x::(vs++Su)) H2 Q E
def Kj(C:Addr)(sp:Sp)(Su:List V)(E:XK)(t:TA):TE:=λσ H Q=>t σ H λvs H1=>∀x dx,H1 x=none->H1 dx=none->dx≠x->
 sp (.ref x::(vs++Su)) (upd (upd H1 dx (.own x)) x (.ins C dx [])) (λv H2=>v=.non/\Q (.ref x) H2) E
def Binds(K:Frag)(fd:FuncData)(ps:List Str)(ds:List Value):Prop:=
 ∀(s:Shared)(us:List Value),K.In s.heap->(us++ds).length=ps.length->BindsTo s fd ⟨us,[]⟩ (ps.zip (us++ds))
def Binds.all{K:Frag}(h:∀us:List Value,us.length=ps.length->bindArgs fd ⟨us,[]⟩=pure (ps.zip us)):Binds K fd ps []:=λs us _ hl=>by rw[Qi]at hl ⊢;exact .of_eq (h us hl)
def Passes(CX:Xe)(X:Cx)(E:XK):Prop:=∀(pins:List (Addr×Obj))(σ:St)(H:Hp)(s:Shared)(e:Value)(s':Shared),Inv X pins σ H s->CX X.stack H s E e s'->X.xe e s'
section
variable{X:Cx}{CX:Xe}{k:Nat}{f C:Addr}{fd:FuncData}{ps:List Str}{sp:Sp}{Su:List V}{ds:List Value}{E:XK}{x m:Str}{p pos apos:Pos}{e o:Expr}{es:List Expr}{ta:TE}{t:TA}
theorem tX{pins:List (Addr×Obj)}{σ:St}{H:Hp}{s:Shared}{Q:VK}{us:List Value}{vs:List V}(F:Rb X.prog X.w X.K X.mg X.base CX k f fd ps sp)(hr:PQ k X.A)(hb:Binds X.K fd ps ds)(hd:Vals Su ds)(hx:Passes CX X E)
  (I:Inv X pins σ H s) (r:Vals vs us) (h:sp (vs++Su) H Q E):wpAny (model X.prog X.w) X.A (call (.ref f) us) (EP X pins σ Q) X.xe s:=by
 have r2:Vals (vs++Su) (us++ds):=r.append hd
 have hl:(us++ds).length=ps.length:=by rw[<- r2.length];exact F.len _ _ _ _ h
 refine wpAny_call (Md (F.run X.A X.stack s H ⟨us,[]⟩ (us++ds) (vs++Su) Q E hr I.env0 (hb s us I.RK hl) r2 h) λr s' hq=>?_);cases r with
 |error e=>exact hx pins σ H s e s' I hq
 |ok fl=>
  cases fl with
  |ret u=>exact I.after hq
  |next=>exact False.elim hq
  |brk=>exact False.elim hq
  |cont=>exact False.elim hq
def Fn(F:Rb X.prog X.w X.K X.mg X.base CX k f fd ps sp)(hr:PQ k X.A)(hg:Gl X x)(hm:X.mg x=some (.ref f))(hk:keepIn X.K (.ref f)=true)(hb:Binds X.K fd ps ds)(hd:Vals Su ds)(hx:Passes CX X E)
  (ha:PA X (e::es) t) (hdb:(x == ("__debug__":Str))=false:=by decide) (he:starEach (e::es) X.env=(false,eval e X.env)::starEach es X.env:=by rfl) (hpl:(backTo pos (starEach es X.env)).any (·.1)=false:=by rfl):
  PE X (.Call (.Name x p) (e::es) [] pos) (Ki sp Su E t):=by
 intro pins s σ H Q I h;refine V5 (tT I hg hm ?_ hdb);refine Uv (h₀:=X.base) I.ok.mod.kin hk (PX (ha pos pins s σ H _ I h) λus s1 zq=>Tn zq λvs H1 I1 r q=>⟨I1.RK,?_⟩) he hpl;exact tX F hr hb hd hx I1 r q
def Fp{pl:Sem Bool}(he:PE X o ta)(c:Tr X.K C)(hm:Meth X.K C m f)(F:Rb X.prog X.w X.K X.mg X.base CX k f fd ps sp)(hr:PQ k X.A)(hb:Binds X.K fd ps ds)(hd:Vals Su ds)(hx:Passes CX X E)(ha:PA X (e::es) t)
  (hst:starEach (e::es) X.env=(false,eval e X.env)::starEach es X.env:=by rfl) (hpl:(backTo pos (starEach es X.env)).any (·.1)=false:=by rfl)
  (ht:eval (.Call (.Attribute o m apos) (e::es) [] pos) X.env=(do
   let ov <- eval o X.env
   standAt apos.atName
   let (f,first) <- holding [ov] (getMethod ov m pl)
   callWith pos f first (backTo pos (starEach (e::es) X.env)) (backToKw pos (keywordEach [] X.env))):=by rfl):
  PE X (.Call (.Attribute o m apos) (e::es) [] pos) (G8 C m sp Su E ta t):=by
 intro pins s σ H Q I h;refine methodCall_KW (pl:=pl) (PX (he pins s σ H _ I h) λu s1 zq=>?_) ht;obtain⟨x,H1,I1,rx,a,dx,fs,ex,ea,l,q⟩:=zq;subst ex;obtain rfl:u=Value.ref a:=rx;refine pe I1 ea c hm l ?_
 refine Uv (first:=[.ref a]) (h₀:=X.base) I.ok.mod.kin hm.kp (PX (ha pos pins s1 σ H1 _ I1 q) λus s2 zq=>Tn zq λvs H2 I2 r q2=>⟨I2.RK,?_⟩) hst hpl
 exact tX (us:=.ref a::us) (vs:=.ref a::vs) F hr hb hd hx I2 (.cons rfl r) q2
def CP{pl:Sem Bool}(he:PE X o ta)(c:Tr X.K C)(hm:Meth X.K C m f)(F:Rb X.prog X.w X.K X.mg X.base CX k f fd ps sp)(hr:PQ k X.A)(hb:Binds X.K fd ps ds)(hd:Vals Su ds)(hx:Passes CX X E)
  (ht:eval (.Call (.Attribute o m apos) [] [] pos) X.env=(do
   let ov <- eval o X.env
   standAt apos.atName
   let (f,first) <- holding [ov] (getMethod ov m pl)
   callWith pos f first (backTo pos (starEach [] X.env)) (backToKw pos (keywordEach [] X.env))):=by rfl):
  PE X (.Call (.Attribute o m apos) [] [] pos) (G8 C m sp Su E ta Ig):=by
 intro pins s σ H Q I h;refine methodCall_KW (pl:=pl) (PX (he pins s σ H _ I h) λu s1 zq=>?_) ht;obtain⟨x,H1,I1,rx,a,dx,fs,ex,ea,l,q⟩:=zq;subst ex;obtain rfl:u=Value.ref a:=rx;refine pe I1 ea c hm l ?_
 exact callWith_K0 (first:=[.ref a]) I1.RK hm.kp (tX (us:=[.ref a]) (vs:=[.ref a]) F hr hb hd hx I1 (.cons rfl .nil) q)
structure Mk(K:Frag)(C f:Addr):Prop where
 makes:makesIn K C=true
 init:findIn K (.ref C) "__init__" = some (some (.ref f))
 fn:isFn K (.ref f)=true
 kp:keepIn K (.ref C)=true
theorem CQ{pins:List (Addr×Obj)}{σ:St}{H:Hp}{s:Shared}{Q:VK}{us:List Value}{vs:List V}(M:Mk X.K C f)(F:Rb X.prog X.w X.K X.mg X.base CX k f fd ps sp)(hr:PQ (k+1) X.A)(hb:Binds X.K fd ps ds)(hd:Vals Su ds)
  (hx:Passes CX X E) (I:Inv X pins σ H s) (r:Vals vs us)
  (h:∀x dx,H x=none->H dx=none->dx≠x->sp (.ref x::(vs++Su)) (upd (upd H dx (.own x)) x (.ins C dx [])) (λv H2=>v=.non/\Q (.ref x) H2) E):
  wpAny (model X.prog X.w) X.A (call (.ref C) us) (EP X pins σ Q) X.xe s:=by
 have hq:=h (s.heap.objs.size+1) s.heap.objs.size (I.hok.fresh (Ws _)) (I.hok.fresh (Yh _)) (Yv (Q2 _));have I2:=Inv.made (C:=C) I;have r2:Vals (V.ref (s.heap.objs.size+1)::(vs++Su)) (Value.ref (s.heap.objs.size+1)::(us++ds)):=.cons rfl (r.append hd)
 have hl:(Value.ref (s.heap.objs.size+1)::us++ds).length=ps.length:=by have e:=r2.length;rw[F.len _ _ _ _ hq]at e;exact e.symm
 refine wpAny_call (CM (f:=f) I.RK M.makes M.init (Vc.mp M.fn) (Md (F.run _ X.stack _ _ ⟨Value.ref (s.heap.objs.size+1)::us,[]⟩ (Value.ref (s.heap.objs.size+1)::(us++ds)) _ _ E (hr.make C us [])
  (I2.env0.make C us []) (hb _ (Value.ref (s.heap.objs.size+1)::us) I2.RK hl) r2 hq) λr s' hq'=>?_))
 cases r with
 |error e=>exact hx pins σ _ _ e s' I2 hq'
 |ok fl=>
  cases fl with
  |ret u=>
   obtain⟨v,H',I3,rv,ev,q3⟩:=I2.after hq';subst ev;exact⟨rv,⟨V.ref (s.heap.objs.size+1),H',I3,rfl,q3⟩⟩
  |next=>exact False.elim hq'
  |brk=>exact False.elim hq'
  |cont=>exact False.elim hq'
def CS(M:Mk X.K C f)(F:Rb X.prog X.w X.K X.mg X.base CX k f fd ps sp)(hr:PQ (k+1) X.A)(hg:Gl X x)(hm:X.mg x=some (.ref C))(hb:Binds X.K fd ps ds)(hd:Vals Su ds)(hx:Passes CX X E)
  (hdb:(x == ("__debug__":Str))=false:=by decide):PE X (.Call (.Name x p) [] [] pos) (Kj C sp Su E Ig):=by
 intro pins s σ H Q I h;refine V5 (tT I hg hm ?_ hdb);exact callWith_K0 I.RK M.kp (CQ (us:=[]) M F hr hb hd hx I .nil h)
end
structure Py(N P:List Str)(sc:Scope):Prop where
 kind:sc.kind=.function
 co:sc.isCoroutine=false
 gen:sc.isGenerator=false
 nd:N.Nodup
 pre:N.take P.length=P
 par:∀x∈P,sc.names.lookup x=some .local\/sc.names.lookup x=some .cell
 aae:∀y∈sc.names,y.2≠.free
theorem rO:∀{binds:List (Str×Value)}{m:Str->Option Value},(∀v,(x,v)∉binds)->bindL kindOf binds m x=m x
 |[],_,_=>rfl
 |(n,v)::r,m,h=>by
  unfold bindL;rw[rO λw hw=>h w (Z0 _ hw)];split
  .have:x≠n:=by rintro rfl;exact h v Z4
   simp[this]
  .rfl
theorem rP:∀{binds:List (Str×Value)}{m:Str->Option Value},(∀v,(x,v)∉binds)->bindC kindOf binds m x=m x
 |[],_,_=>rfl
 |(n,v)::r,m,h=>by
  unfold bindC;rw[rP λw hw=>h w (Z0 _ hw)];split
  .rfl
  .have:x≠n:=by rintro rfl;exact h v Z4
   simp[this]
theorem rQ{v:Value}:∀{P:List Str}{vs:List Value}{i:Nat}{m:Str->Option Value},P.Nodup->P[i]?=some x->vs[i]?=some v->kindOf x=some .local->
  bindL kindOf (P.zip vs) m x=some v
 |[],_,_,_,_,h,_,_=>by simp at h
 |_::_,[],_,_,_,_,h,_=>by simp at h
 |p::P,w::vs,0,m,nd,h1,h2,hk=>by simp at h1 h2;subst h1;subst h2;show bindL kindOf ((p,w)::P.zip vs) m p=_;unfold bindL;rw[rO λv hv=>(U8.mp nd).1 (Wa hv).1,Y9 hk];simp
 |p::P,w::vs,i+1,m,nd,h1,h2,hk=>by
  show bindL kindOf ((p,w)::P.zip vs) m x=_;unfold bindL
  exact rQ (i:=i) (U8.mp nd).2 (by simpa using h1) (by simpa using h2) hk
theorem rR{v:Value}:∀{P:List Str}{vs:List Value}{i:Nat}{m:Str->Option Value},P.Nodup->P[i]?=some x->vs[i]?=some v->kindOf x≠some .local->
  bindC kindOf (P.zip vs) m x=some v
 |[],_,_,_,_,h,_,_=>by simp at h
 |_::_,[],_,_,_,_,h,_=>by simp at h
 |p::P,w::vs,0,m,nd,h1,h2,hk=>by simp at h1 h2;subst h1;subst h2;show bindC kindOf ((p,w)::P.zip vs) m p=_;unfold bindC;rw[rP λv hv=>(U8.mp nd).1 (Wa hv).1,Yj hk];simp
 |p::P,w::vs,i+1,m,nd,h1,h2,hk=>by
  show bindC kindOf ((p,w)::P.zip vs) m x=_;unfold bindC
  exact rR (i:=i) (U8.mp nd).2 (by simpa using h1) (by simpa using h2) hk
def start(N:List Str)(vs:List V):St:=vs.map some++List.replicate (N.length-vs.length) none
def qY(CX:Xe)(P:Program)(w:World)(K:Frag)(mg:Str->Option Value)(base:Heap)(N:List Str)(qual:Str)(scope:Scope)(f:Addr)(cd:Value)(A:Around)(outer:List Env)(s:Shared)(H:Hp)(E:XK):Cx where
 prog:=P
 w:=w
 K:=K
 mg:=mg
 base:=base
 A:=A.deeper (envOfC qual scope s.heap.objs.size f cd)
 N:=N
 s₀:=s
 H₀:=H
 env:=envOfC qual scope s.heap.objs.size f cd
 outer:=outer
 stack:=envOfC qual scope s.heap.objs.size f cd::outer
 ex:=[]
 calm:=true
 fn:=λ_=>true
 pn:=[]
 xe:=λe s'=>wpAny (model P w) (A.deeper (envOfC qual scope s.heap.objs.size f cd)) (leaving (envOfC qual scope s.heap.objs.size f cd) e) (λ_ s''=>CX outer H s E e s'') (λe' s''=>CX outer H s E e' s'') s'
def vX{sc:Scope}{n:Nat}(h:sc.names.lookup x=some .cell):∃c,(cellsFrom n sc.names []).lookup x=some c:=by have q:=cellsFrom_some sc.names n [] (.inl h);exact Option.isSome_iff_exists.mp q
theorem Bt{CX:Xe}{P:Program}{w:World}{K:Frag}{mg:Str->Option Value}{base:Heap}{N ps:List Str}{qual:Str}{scope:Scope}{f:Addr}{cd:Value}{A:Around}{outer:List Env}{s s1:Shared}{H:Hp}{E:XK}{us:List Value}{vs:List V}
  (S:Py N ps scope) (hd:A.handled=none) (e0:VL P w K mg base A outer s H) (hl:vs.length=ps.length) (r:Vals vs us)
  (x:InCallC s s.heap.objs.size (bindL (envOfC qual scope s.heap.objs.size f cd).kindOf (ps.zip us) λ_=>none) (cellsFrom (s.heap.objs.size+1) scope.names []) (bindC (envOfC qual scope s.heap.objs.size f cd).kindOf (ps.zip us) λ_=>none) s1):
  Inv (qY CX P w K mg base N qual scope f cd A outer s H E) [] (start N vs) H s1:=by
 have hpl:ps.length<=N.length:=by have:=Ql List.length S.pre;rw[W5]at this;omega
 obtain⟨h1,tk,rfl,hk⟩:=x.done
 have noA:∀b:Addr,b∉(qY CX P w K mg base N qual scope f cd A outer s H E).ex:=λb z=>absurd (show b∈([]:List Addr) from z) (by simp)
 refine⟨⟨e0.mod,S.kind,rfl,rfl,Yh _,λy z c h1 h2=>?_,λy hy=>?_,λy c _ h=>?_,λ_=>hd,Around.frames_deeper e0.frames,.inr ⟨rfl,rfl⟩,λb z=>absurd z (noA b),e0.bs,e0.YJ,λb _ _=>noA b,λb z=>absurd z (noA b),e0.Ss,e0.frf⟩,
  rfl,e0.bare,Un.kept hk,⟨_,x.toInCall.ns,λi y v h1 h2 h3=>?_⟩,λy c h=>⟨_,x.cell y c h⟩,e0.hok.fresh (Yh _),λy c h=>?_,λp hp=>absurd (show p∈([]:List (Addr×Obj)) from hp) (by simp),e0.hok.kept hk,?_⟩
 .exact name_of_addr x.apart (V1 h1) (V1 h2)
 .have hy:scope.names.lookup y=some .cell\/scope.names.lookup y=some .free:=hy;rcases hy with hy|hy
  .exact vX hy
  .exact absurd rfl (S.aae _ (V1 hy))
 .exact Mc (x.above y c (V1 h))
 .have hi:i<vs.length:=by
   unfold start at h2;by_cases hi:i<vs.length
   .exact hi
   .rw[W4 (by simpa using hi)]at h2
    rw[V3]at h2;split at h2<;>cases h2
  have ha:vs[i]?=some v:=by
   unfold start at h2
   rw[Z1 (by simpa using hi),Qx]at h2
   cases e:vs[i]? with
   |none=>rw[e]at h2;cases h2
   |some a=>rw[e]at h2;cases h2;rfl
  obtain⟨u,hu,rv⟩:=r.get ha
  have hp:ps[i]?=some y:=by rw[<- S.pre,List.getElem?_take_of_lt (by omega)];exact h1
  have ndP:ps.Nodup:=by rw[<- S.pre];exact S.nd.sublist (List.take_sublist _ _)
  refine⟨u,rv,?_⟩;rcases S.par y (Zr hp) with k|k
  .exact .inl ⟨k,rQ ndP hp hu k⟩
  .obtain⟨c,e⟩:=vX (n:=s.heap.objs.size+1) k;refine .inr ⟨.inl k,c,e,?_⟩;have q:=x.cell y c e
   rw[rR ndP hp hu (by show scope.names.lookup y≠_;rw[k];decide)]at q
   exact q
 .exact e0.hok.fresh (Mc (x.above y c (V1 h)))
 .unfold start;show _=N.length;rw[Yp,Yi,Wn];omega
theorem Kk{CX:Xe}{P:Program}{w:World}{K:Frag}{mg:Str->Option Value}{base:Heap}{k:Nat}{f:Addr}{name qual:Str}{params:Arguments}{body:List Stmt}{scope:Scope}{dV kV doc pm cdv ct oc:Value}{an od:Option Addr}
  {osl:Array (Option Value)} {N ps:List Str} {sp:Sp} (lk:K.lookup f=some ⟨oc,od,.func (fnOf name qual params body scope dV kV doc pm an cdv ct),osl⟩) (hcd:codeIn K cdv qual=true) (S:Py N ps scope)
  (len:∀vs H Q E,sp vs H Q E->vs.length=ps.length)
  (hbody:∀(A:Around)(outer:List Env)(s:Shared)(H:Hp)(vs:List V)(Q:VK)(E:XK),PQ k (A.deeper (envOfC qual scope s.heap.objs.size f cdv))->sp vs H Q E->
   ∃t,VH (qY CX P w K mg base N qual scope f cdv A outer s H E) body t/\t { nx:=λ_ H'=>Q .non H',rt:=Q } (start N vs) H):
  Rb P w K mg base CX (k+1) f (fnOf name qual params body scope dV kV doc pm an cdv ct) ps sp:=by
 refine⟨len,λA outer s H args us vs Q E hr e0 hb r hsp=>?_⟩;have hl:=len _ _ _ _ hsp;have KX:K.In s.heap:=e0.mod.kin.keeps λb o e=>(e0.bs b o e).1;have lim:s.heap.NoLimit:=e0.mod.nolimit.keeps λb o e=>(e0.bs b o e).1
 have hkind:∀y∈ps.zip us,scope.names.lookup y.1=some .local\/(scope.names.lookup y.1=some .cell/\((cellsFrom (s.heap.objs.size+1) scope.names []).lookup y.1).isSome=true):=λ⟨n,v⟩ hy=>by
  rcases S.par n (Wa hy).1 with q|q
  .exact .inl q
  .exact .inr ⟨q,cellsFrom_some _ _ _ (.inl q)⟩
 refine codeAny_call_function hr.depth (KX _ _ lk) rfl S.co S.gen rfl (codeRec_of KX hcd) (hb _ _ _ _ ?_);refine wpAny_newFunctionEnv_cells S.kind hkind λenv he s1 x=>?_;subst he;refine⟨lim.keeps x.toInCall.keep,codeAny_func ?_⟩;obtain⟨t,ht,hq⟩:=hbody A outer s H vs Q E (hr.deeper _) hsp;have I:Inv (qY CX P w K mg base N qual scope f cdv A outer s H E) [] (start N vs) H s1:=Bt S hr.hd e0 hl r x;refine W3 (ht [] s1 (start N vs) H _ I hq) (λfl s' hs=>?_) λe s' hs=>hs
 have fin:∀{σ':St}{H':Hp}{v:V}{u:Value},Inv (qY CX P w K mg base N qual scope f cdv A outer s H E) [] σ' H' s'->RelV v u->Q v H'->CE outer P w H s Q u s':=
  λ{σ' H' v u} J rv q=>⟨v,H',J.os,J.bare,J.base,J.hok,rv,q⟩
 cases fl with
 |ret u=>
  obtain⟨v,σ',H',J,rv,q⟩:=hs;exact fin J rv q
 |next=>
  obtain⟨σ',H',J,q⟩:=hs;exact fin (v:=V.non) (u:=Value.none) J rfl q
 |brk=>
  obtain⟨_,_,_,q⟩:=hs;exact False.elim q
 |cont=>
  obtain⟨_,_,_,q⟩:=hs;exact False.elim q
section
variable{X:Cx}{x:Str}{p pos:Pos}{e:Expr}{es:List Expr}{t:TA}{id T:String}{r:List V->Hp->VK->Prop}
def tCB(r:List V->Hp->VK->Prop)(t:TA):TE:=λσ H Q=>t σ H λvs H1=>r vs H1 Q
def vY(hc:bT X (.builtin id) r)(hg:Gl X x)(hm:X.mg x=none)(hv:bootBuiltins x=some (.builtin id))(ha:PA X (e::es) t)(hn:x ≠ "__name__":=by decide)(hdb:(x == ("__debug__":Str))=false:=by decide)
  (he:starEach (e::es) X.env=(false,eval e X.env)::starEach es X.env:=by rfl) (hpl:(backTo pos (starEach es X.env)).any (·.1)=false:=by rfl):PE X (.Call (.Name x p) (e::es) [] pos) (tCB r t):=by
 intro pins s σ H Q I h;refine V5 (i4 I hg hm hv ?_ hn hdb);exact PyProof.Rows.callWith_builtin1 (PX (ha pos pins s σ H _ I h) λus s1 zq=>Tn zq λvs H1 I1 r1 q1=>hc pins s1 σ H1 vs us Q I1 r1 q1) he hpl
def Bu(hc:bT X (.type T) r)(hg:Gl X x)(hm:X.mg x=none)(hv:bootBuiltins x=some (.type T))(ha:PA X (e::es) t)(hn:x ≠ "__name__":=by decide)(hdb:(x == ("__debug__":Str))=false:=by decide)
  (he:starEach (e::es) X.env=(false,eval e X.env)::starEach es X.env:=by rfl) (hpl:(backTo pos (starEach es X.env)).any (·.1)=false:=by rfl):PE X (.Call (.Name x p) (e::es) [] pos) (tCB r t):=by
 intro pins s σ H Q I h;refine V5 (i4 I hg hm hv ?_ hn hdb);exact Q8 (PX (ha pos pins s σ H _ I h) λus s1 zq=>Tn zq λvs H1 I1 r1 q1=>hc pins s1 σ H1 vs us Q I1 r1 q1) he hpl
end
end L2
namespace HT
open PySem PyProof.Rows
section
variable{prog:Program}{w:World}{A:Around}{E:Value->Shared->Prop}{s:Shared}
def YS{t b:Addr}{vs ws:List Value}{Q:Value->Shared->Prop}(ht:IsTup s.heap t vs.toArray)(hb:IsTup s.heap b ws.toArray)(hv:vs≠[])
  (h1:ws=[]->Q (.ref t) s) (h2:ws≠[]->Q (.ref s.heap.objs.size) { s with heap:=s.heap.push { cls:=.type "tuple",data:=.seq (vs++ws).toArray } })
  (hsz:vs.length+ws.length<=sizeLine):wpAny (model prog w) A (binaryOp .Add (.ref t) (.ref b)) Q E s:=by
 obtain⟨⟨cls,dd,data,sl⟩,ho,hc,n,hd⟩:=id ht;obtain⟨⟨cls2,dd2,data2,sl2⟩,ho2,hc2,n2,hd2⟩:=id hb;simp only at hc hd hc2 hd2;subst hc hd hc2 hd2
 have e:vs.toArray++ws.toArray=(vs++ws).toArray:=by simp
 by_cases hw:ws=[]
 .exact concat_meets ⟨_,ho,rfl⟩ ⟨_,ho2,rfl⟩ noFill_tuple_add seq_tuple_add Vx Vt (Vo _ _)
   (tuple_addW1 t b vs.toArray ws.toArray n n2 dd dd2 sl sl2 (by simpa using hv) (by simp[hw])) ⟨ho,ho2,h1 hw⟩
 .refine concat_meets ⟨_,ho,rfl⟩ ⟨_,ho2,rfl⟩ noFill_tuple_add seq_tuple_add Vx Vt (Vo _ _)
   (tuple_addW2 t b vs.toArray ws.toArray n n2 dd dd2 sl sl2 (by simpa using hv) (by simpa using hw) (by rw[Yu,Yu];exact hsz)) ⟨ho,ho2,?_⟩
  rw[e];exact h2 hw
def QH(n d:Nat):Option Int->Nat
 |none=>d
 |some v=>if v<0 then (v+(n:Int)).toNat else min v.toNat n
def WX(n d k:Nat):QH n d (some (k:Int))=min k n:=by
 show(if (k:Int)<0 then ((k:Int)+(n:Int)).toNat else min (k:Int).toNat n)=min k n
 rw[Yj (by omega),M8]
def Ii(n d:Nat)(hd:d<=n)(o:Option Int):QH n d o<=n:=by
 cases o with
 |none=>exact hd
 |some v=>
  show(if v<0 then (v+(n:Int)).toNat else min v.toNat n)<=n
  by_cases hv:v<0
  .rw[Y9 hv];omega
  .rw[Yj hv];exact Nat.min_le_right _ _
def zO(v:Int)(n d:Nat):(if v<0 then max (v+(n:Int)) 0 else min v (n:Int))=((QH n d (some v):Nat):Int):=by
 show(if v<0 then max (v+(n:Int)) 0 else min v (n:Int))=(((if v<0 then (v+(n:Int)).toNat else min v.toNat n):Nat):Int)
 by_cases hv:v<0
 .simp only[Y9 hv];omega
 .simp only[Yj hv];omega
def yt(lo hi:Option Int)(n:Nat):Builtin.Slice.sliceAdjust lo hi 1 (n:Int)=(((QH n 0 lo:Nat):Int),((QH n n hi:Nat):Int)):=by
 have h1:¬((1:Int)<0):=by omega
 unfold Builtin.Slice.sliceAdjust;simp only[h1,Qm];refine Mq ?_ ?_
 .cases lo with
  |none=>rfl
  |some v=>exact zO v n 0
 .cases hi with
  |none=>rfl
  |some v=>exact zO v n n
def yu(i j:Nat):Builtin.Slice.slicePlaces (i:Int) (j:Int) 1=j-i:=by
 unfold Builtin.Slice.slicePlaces
 have h1:(1:Int)>0:=by omega
 simp only[h1,Zi,Int.ediv_one];split<;>omega
def pf{v:Value}{o:Option Int}{Q:Option Int->Shared->Prop}(p:IsPart v o)(h:Q o s):wpAny (model prog w) A (Builtin.Slice.slicePartIndex v) Q E s:=by
 cases p with
 |none=>exact slicePart_none h
 |int i t=>exact slicePart_int h
def iH{sl:Addr}{vl vu:Value}{lo hi:Option Int}{n:Nat}{Q:Int×Int×Nat->Shared->Prop}(hs:s.heap.IsSliceOf sl vl vu .none)(pl:IsPart vl lo)(pu:IsPart vu hi)
  (h:Q (((QH n 0 lo:Nat):Int),1,QH n n hi-QH n 0 lo) s):wpAny (model prog w) A (Builtin.Slice.sliceApplied (.ref sl) (pure (n:Int))) Q E s:=by
 obtain⟨os,hos,hcs,hds⟩:=id hs;unfold Builtin.Slice.sliceApplied Builtin.Slice.sliceFields;refine Y6 (Y6 (Zm hos hds (x:=vl) rfl (Y6 (Zm hos hds (x:=vu) rfl (Y6 (Zm hos hds (x:=.none) rfl (Yg ?_)))))));refine Y6 (slicePart_none ?_)
 show wpAny _ _ (if ((1:Int) == 0)=true then _ else _) _ _ s
 rw[Yj (by decide)]
 refine Y6 (pf pl (Y6 (pf pu (Y6 (Yg ?_)))))
 show wpAny _ _ (match Builtin.Slice.sliceAdjust lo hi 1 (n:Int) with|(lo,hi)=>pure (lo,(1:Int),Builtin.Slice.slicePlaces lo hi 1)) _ _ s
 rw[yt lo hi n];show wpAny _ _ (pure (((QH n 0 lo:Nat):Int),(1:Int),Builtin.Slice.slicePlaces ((QH n 0 lo:Nat):Int) ((QH n n hi:Nat):Int) 1)) _ _ s;rw[yu];exact Yg h
def CT(xs:Array Value)(i k:Nat):((List.range k).filterMap λ(m:Nat)=>xs[((i:Int)+(m:Int)*1).toNat]?).toArray=((xs.toList.drop i).take k).toArray:=by
 have e:(λ(m:Nat)=>xs[((i:Int)+(m:Int)*1).toNat]?)=λm=>xs[i+m]?:=by
  funext m
  have:((i:Int)+(m:Int)*1).toNat=i+m:=by omega
  rw[this]
 rw[e];have:=pick_run xs i k;rw[List.filterMap_map]at this;have e2:((λx=>xs[x]?)∘λx=>i+x)=λm=>xs[i+m]?:=rfl;rw[e2]at this;rw[this]
theorem RV{t sl:Addr}{items:Array Value}{vl vu:Value}{lo hi:Option Int}{Q:Value->Shared->Prop}(ht:IsTup s.heap t items)(hs:s.heap.IsSliceOf sl vl vu .none)(pl:IsPart vl lo)(pu:IsPart vu hi)
  (hw:¬(QH items.size 0 lo=0/\QH items.size items.size hi=items.size))
  (h:Q (.ref s.heap.objs.size) { s with heap:=s.heap.push { cls:=.type "tuple",data:=.seq ((items.toList.drop (QH items.size 0 lo)).take (QH items.size items.size hi-QH items.size 0 lo)).toArray } })
  (hsz:items.size<=sizeLine):wpAny (model prog w) A (getItem (.ref t) (.ref sl)) Q E s:=by
 have WY:sizeOk (.seq ((items.toList.drop (QH items.size 0 lo)).take (QH items.size items.size hi-QH items.size 0 lo)).toArray):=by show((items.toList.drop (QH items.size 0 lo)).take (QH items.size items.size hi-QH items.size 0 lo)).toArray.size<=sizeLine;rw[Yu,W5,Qn,W0];omega
 have hj:QH items.size items.size hi<=items.size:=Ii _ _ (Yh _) hi;obtain⟨os,hos,hcs,hds⟩:=id hs;have hTs:s.TypeIs (.ref sl) "slice":=⟨os,hos,hcs⟩
 unfold getItem
 try with_reducible refine Qs ?_
 first|refine Y6 (Yg ?_)|skip
 refine Y6 (wpAny_sequenceKey ht.typeIs (by decide) ?_)
 refine Y6 (Zw (name:=Str.ofString "__getitem__") ht.typeIs W8
  (Qa W8 ht.typeIs entry_tuple_getitem ?_ (args_tuple_getitem _ _)))
 show wpAny _ _ (Builtin.Tuple.tupleItemsOf (.ref t) >>= _) _ _ s;refine Y6 (tupleItemsOf_ ht ?_);refine Y6 (Me hTs ?_)
 rw[Y9 (by decide)]
 refine Y6 (iH hs pl pu ?_)
 have hno:¬((((QH items.size 0 lo:Nat):Int) == 0&&(1:Int) == 1&&(QH items.size items.size hi-QH items.size 0 lo) == items.size)=true):=by
  intro q;rw[Z5,Z5]at q;have q1:((QH items.size 0 lo:Nat):Int)=0:=Uw q.1.1;have q2:QH items.size items.size hi-QH items.size 0 lo=items.size:=Uw q.2
  exact hw ⟨by omega,by omega⟩
 show wpAny _ _ (if (((QH items.size 0 lo:Nat):Int) == 0&&(1:Int) == 1&&(QH items.size items.size hi-QH items.size 0 lo) == items.size)=true then _ else _) _ _ s
 rw[Yj hno,CT]
 first
  |exact Y6 (m:=Builtin.Tuple.tupleExact _) (Zh (Yg ⟨_,rfl,Yg h⟩) WY)
  |exact Y6 (m:=Builtin.Tuple.tupleExact _) (Zh (Y6 (Yg (Yg ⟨_,rfl,Yg h⟩))) WY)
  |exact Y6 (Y6 (m:=Builtin.Tuple.tupleExact _) (Zh (Yg (Yg ⟨_,rfl,Yg h⟩)) WY))
  |exact Y6 (Y6 (m:=Builtin.Tuple.tupleExact _) (Zh (Yg ⟨_,rfl,Yg h⟩) WY))
end
end HT
namespace L2
open PySem PySem.Spec PyProof.Rows
variable{pins:List (Addr×Obj)}{σ:St}{H:Hp}{s:Shared}{u v:Value}{P:Program}{w:World}{xs:List (List Key×Addr×Value)}{a:Addr}{Q:Value→Shared→Prop}{X:Cx}{pos:Pos}
abbrev TO:=St->Hp->(Option Int->Hp->Prop)->Prop
def PO(X:Cx)(e:Option Expr)(t:TO):Prop:=
 ∀(pins:List (Addr×Obj))(s:Shared)(σ:St)(H:Hp)(Q:Option Int->Hp->Prop),Inv X pins σ H s->t σ H Q->
  wpAny (model X.prog X.w) X.A (evalPart e X.env) (λu s'=>∃o H',Inv X pins σ H' s'/\IsPart u o/\Q o H') X.xe s
def Fq:TO:=λ_ H Q=>Q none H
def Kl(t:TE):TO:=λσ H Q=>t σ H λx H1=>∃i,x=.int i/\Q (some i) H1
section
variable{X:Cx}{e:Expr}{te:TE}{lo hi:Option Expr}{tl th:TO}{pos p2:Pos}
def Fs:PO X none Fq:=by intro pins s σ H Q I h;rw[evalPart_none];exact Yg ⟨none,H,I,.none,h⟩
def Ft(h:PE X e te):PO X (some e) (Kl te):=by intro pins s σ H Q I hw;rw[evalPart_some];refine PX (h pins s σ H _ I hw) λu s1 zq=>?_;obtain⟨x,H1,I1,r1,q1⟩:=zq;obtain⟨i,rfl,q⟩:=q1;obtain⟨t,rfl⟩:=r1;exact⟨some i,H1,I1,.int i t,q⟩
def SlR(X:Cx)(r:V->Option Int->Option Int->Hp->VK->Prop):Prop:=
 ∀(pins:List (Addr×Obj))(s:Shared)(σ:St)(H:Hp)(x:V)(v vl vu:Value)(lo hi:Option Int)(sl:Addr)(Q:VK),Inv X pins σ H s->RelV x v->s.heap.IsSliceOf sl vl vu .none->IsPart vl lo->IsPart vu hi->r x lo hi H Q->
  ∃T id,typeLookup (.type T) "__getitem__" = pure (some (.builtin id))/\s.TypeIs v T/\wpAny (model X.prog X.w) X.A (getItem v (.ref sl)) (EP X pins σ Q) X.xe s
def tSl(r:V->Option Int->Option Int->Hp->VK->Prop)(te:TE)(tl th:TO):TE:=λσ H Q=>te σ H λx H1=>tl σ H1 λl H2=>th σ H2 λu H3=>r x l u H3 Q
def CU{r:V->Option Int->Option Int->Hp->VK->Prop}(hr:SlR X r)(he:PE X e te)(hl:PO X lo tl)(hu:PO X hi th):PE X (.Subscript e (.Slice lo hi none p2) pos) (tSl r te tl th):=by
 intro pins s σ H Q I h;refine Subscript_ (PX (he pins s σ H _ I h) λv s1 zq=>?_);obtain⟨x,H1,I1,r1,q1⟩:=zq;refine wpAny_Slice (PX (hl pins s1 σ H1 _ I1 q1) λvl s2 zq=>Tn zq λl H2 I2 pl q2=>PX (hu pins s2 σ H2 _ I2 q2) λvu s3 zq=>?_);obtain⟨u,H3,I3,pu,q3⟩:=zq;rw[evalPart_none];refine Yg ?_
 have I4:Inv X pins σ H3 { s3 with heap:=s3.heap.push { cls:=.type "slice",data:=.fields #[vl,vu,.none] } }:=I3.kept (t':=s3.toks) λb ob q=>Y7 _ q
 obtain⟨T,id,hT,ht,hg⟩:=hr pins { s3 with heap:=s3.heap.push { cls:=.type "slice",data:=.fields #[vl,vu,.none] } } σ H3 x v vl vu l u s3.heap.objs.size Q I4 r1 (Heap.IsSliceOf.new ..) pl pu q3
 show wpAny (model X.prog X.w) X.A (subscriptTail e (.Slice lo hi none p2) v (.ref s3.heap.objs.size)) (EP X pins σ Q) X.xe { s3 with heap:=s3.heap.push { cls:=.type "slice",data:=.fields #[vl,vu,.none] } }
 exact tail_any (ops:=[.ref s3.heap.objs.size,v]) ht hT hg (by with_unfolding_all rfl)
def vZ(xs:List V)(lo hi:Option Int):List V:=(xs.drop (HT.QH xs.length 0 lo)).take (HT.QH xs.length xs.length hi-HT.QH xs.length 0 lo)
def nM(xs:List V)(lo hi:Option Int):(vZ xs lo hi).length<=xs.length:=by unfold vZ;rw[W5,Qn];omega
def LA(K:Frag):V->Option Int->Option Int->Hp->VK->Prop:=λx lo hi H Q=>∃a xs,x=.ref a/\Tp K H a xs/\
 ¬(HT.QH xs.length 0 lo=0/\HT.QH xs.length xs.length hi=xs.length)/\∀p,H p=none->Q (.ref p) (upd H p (.tup (vZ xs lo hi)))
def Ij:SlR X (LA X.K):=by
 intro pins s σ H x v vl vu lo hi sl Q I rx hs pl pu h;obtain⟨a,xs,rfl,hx,hw,q⟩:=h;cases rx;obtain⟨its,r,ht,hz⟩:=I.tuple hx
 have hlen:its.toArray.size=xs.length:=by rw[Yu];exact r.length.symm
 refine⟨"tuple",_,PyProof.Rows.slot_tuple_getitem.lookup,ht.typeIs,?_⟩
 refine HT.RV ht hs pl pu (by rw[hlen];exact hw) ?_ (by rw[hlen];exact hz)
 rw[hlen];refine⟨.ref s.heap.objs.size,_,I.laid (t':=s.toks) (o:=.tup (vZ xs lo hi)) (λb ob q=>Y7 _ q) (Yh _) ?_,rfl,q _ (I.hok.fresh (Yh _))⟩;exact⟨Yw (nM xs lo hi) hz,_,(r.drop (HT.QH xs.length 0 lo)).take (HT.QH xs.length xs.length hi-HT.QH xs.length 0 lo),IsTup.new _ _⟩
def Km(K:Frag):R2:=λx y H Q=>∃a b xs ys,x=.ref a/\y=.ref b/\Tp K H a xs/\Tp K H b ys/\xs≠[]/\xs.length+ys.length<=sizeLine/\
 (ys=[]->Q (.ref a) H)/\(ys≠[]->∀p,H p=none->Q (.ref p) (upd H p (.tup (xs++ys))))
def Vals.Sw{xs:List V}{us:List Value}(r:Vals xs us):us=[]↔xs=[]:=by
 cases r with
 |nil=>simp
 |cons _ _=>simp
def Fu:QS X (binaryOp .Add) (Km X.K):=by
 intro pins s σ H x y v u Q I rx ry h;obtain⟨a,b,xs,ys,rfl,rfl,ha,hb,hx,hz,q1,q2⟩:=h;cases rx;cases ry;obtain⟨its,r1,p1,_⟩:=I.tuple ha;obtain⟨its2,r2,p2,_⟩:=I.tuple hb
 refine HT.YS p1 p2 (λz=>hx (r1.Sw.mp z)) (λz=>⟨.ref a,H,I,rfl,q1 (r2.Sw.mp z)⟩) (λz=>?_) (by rw[<- r1.length,<- r2.length];exact hz)
 refine⟨.ref s.heap.objs.size,_,I.laid (t':=s.toks) (o:=.tup (xs++ys)) (λb ob q=>Y7 _ q) (Yh _) ?_,rfl,q2 (λw=>z (r2.Sw.mpr w)) _ (I.hok.fresh (Yh _))⟩
 exact⟨by rw[Yp];exact hz,_,r1.append r2,IsTup.new _ _⟩
end
def Xn(n:Nat)(i:Int):Option Nat:=if 0<=i then (if i<n then some i.toNat else none) else if -(n:Int)<=i then some (i+n).toNat else none
def Tt{α:Type}(xs:List α)(i:Int):Option α:=(Xn xs.length i).bind λj=>xs[j]?
def zP{n:Nat}{i:Int}{j:Nat}(h:Xn n i=some j):seqIndex? i n=some j/\j<n/\-(n:Int)<=i/\i<n:=by
 unfold Xn at h;by_cases h0:0<=i
 .rw[Y9 h0]at h;by_cases h1:i<n
  .rw[Y9 h1]at h;have e:i.toNat=j:=Z8 h
   exact⟨by rw[seqIndex_of h0 h1,e],by omega,by omega,h1⟩
  .rw[Yj h1]at h;cases h
 .rw[Yj h0]at h;by_cases h1:-(n:Int)<=i
  .rw[Y9 h1]at h;have e:(i+n).toNat=j:=Z8 h
   exact⟨by rw[seqIndex_neg (by omega) h1,e],by omega,h1,by omega⟩
  .rw[Yj h1]at h;cases h
def tZ{α:Type}{xs:List α}{i:Int}{v:α}(h:Tt xs i=some v):∃j,seqIndex? i xs.length=some j/\xs[j]?=some v/\j<xs.length/\-(xs.length:Int)<=i/\i<xs.length:=by
 unfold Tt at h;cases e:Xn xs.length i with
 |none=>rw[e]at h;cases h
 |some j=>
  rw[e]at h;obtain⟨h1,h2,h3,h4⟩:=zP e;exact⟨j,h1,h,h2,h3,h4⟩
def zQ{α:Type}{xs:List α}{j:Nat}{v:α}(h:xs[j]?=some v):Tt xs (j:Int)=some v:=by
 have hj:j<xs.length:=(Yc.mp h).1
 have e:Xn xs.length (j:Int)=some j:=by
  unfold Xn
  rw[Y9 (by omega),Y9 (by omega)];simp
 unfold Tt;rw[e];exact h
def lK(b:Expr):Prop:=∀o i,subscripted b false o i=operate [o,i] (getItem o i)
def UL(X:Cx)(r:R2):Prop:=
 ∀(value slice:Expr)(pins:List (Addr×Obj))(s:Shared)(σ:St)(H:Hp)(x y:V)(v u:Value)(Q:VK),Inv X pins σ H s->RelV x v->RelV y u->r x y H Q->
  subscripted slice false v u=operate [v,u] (getItem v u)->wpAny (model X.prog X.w) X.A (subscriptTail value slice v u) (EP X pins σ Q) X.xe s
def MtR(X:Cx)(id:String)(r:V->List V->Hp->VK->Prop):Prop:=
 ∀(pins:List (Addr×Obj))(s:Shared)(σ:St)(H:Hp)(x:V)(xs:List V)(v:Value)(us:List Value)(Q:VK),Inv X pins σ H s->RelV x v->Vals xs us->r x xs H Q->
  wpAny (model X.prog X.w) X.A (call (.builtin id) (v::us)) (EP X pins σ Q) X.xe s
section
variable{X:Cx}{a b:Expr}{ta tb:TE}{pos:Pos}
def UL.or{r r':R2}(h:UL X r)(h':UL X r'):UL X (λx y H Q=>r x y H Q\/r' x y H Q):=by
 intro value slice pins s σ H x y v u Q I rx ry q hs;rcases q with q|q
 .exact h value slice pins s σ H x y v u Q I rx ry q hs
 .exact h' value slice pins s σ H x y v u Q I rx ry q hs
def Kn{r:R2}(hr:UL X r)(ha:PE X a ta)(hb:PE X b tb)(hs:lK b):PE X (.Subscript a b pos) (tOp r ta tb):=by intro pins s σ H Q I h;exact Subscript_ (HQ ha hb I h λv u s2 x y H2 I2 rx ry q=>hr a b pins s2 σ H2 x y v u Q I2 rx ry q (hs _ _))
def Ko(K:Frag):R2:=λx y H Q=>∃p xs i v,x=.ref p/\y=.int i/\Rm K H p xs/\Tt xs i=some v/\Q v H
def Kp(K:Frag):R2:=λx y H Q=>∃p xs i v,x=.ref p/\y=.int i/\Tp K H p xs/\Tt xs i=some v/\Q v H
def Kq:R2:=λx y H Q=>∃z i c,x=.str z/\y=.int i/\z.length<=sizeLine/\Tt z.cps.toList i=some c/\Q (.str ⟨#[c]⟩) H
def Fv:UL X (Ko X.K):=by
 intro value slice pins s σ H x y v u Q I rx ry h hs;obtain⟨p,xs,i,z,rfl,rfl,hq,he,q⟩:=h;cases rx;obtain⟨t,rfl⟩:=ry;obtain⟨its,r,pl,hz⟩:=I.list hq;obtain⟨j,h1,h2,h3,h4,h5⟩:=tZ he;obtain⟨w,ew,YT⟩:=r.get h2;have hl:=r.length;have hn:=mJ;have fin:EP X pins σ Q w s:=⟨z,H,I,YT,q⟩;by_cases h0:0<=i
 .have hj:i.toNat=j:=by rw[seqIndex_of h0 h5]at h1;exact Z8 h1
  exact item_listR pl.isList h0 (by omega) (by rw[hj];simpa using ew) fin hs
 .have hj:(i+(its.toArray.size:Int)).toNat=j:=by
   rw[seqIndex_neg (by omega) h4]at h1
   rw[Yu,<- hl];exact Z8 h1
  exact subscriptTail_builtinR (x:=w) pl.isList.typeIs slot_list_getitem.lookup
   (wpAny_getItem_list_neg (Q:=λr s'=>r=w/\EP X pins σ Q r s') pl.isList (by omega) (by rw[Yu]<;>omega) (by omega) (by rw[hj];simpa using ew) ⟨rfl,fin⟩) hs
def t5:UL X (Kp X.K):=by
 intro value slice pins s σ H x y v u Q I rx ry h hs;obtain⟨p,xs,i,z,rfl,rfl,hq,he,q⟩:=h;cases rx;obtain⟨t,rfl⟩:=ry;obtain⟨its,r,pl,hz⟩:=I.tuple hq;obtain⟨j,h1,h2,h3,h4,h5⟩:=tZ he;obtain⟨w,ew,YT⟩:=r.get h2;have hl:=r.length;have hn:=mJ;have fin:EP X pins σ Q w s:=⟨z,H,I,YT,q⟩;exact subscriptTail_builtinR (x:=w) pl.typeIs slot_tuple_getitem.lookup
  (getItem_tuple (j:=j) (Q:=λr s'=>r=w/\EP X pins σ Q r s') pl (by omega) (by omega) (by rw[Yu,<- hl];exact h1) (by simpa using ew) ⟨rfl,fin⟩) hs
def Ik:UL X Kq:=by
 intro value slice pins s σ H x y v u Q I rx ry h hs;obtain⟨z,i,c,rfl,rfl,hz,he,q⟩:=h;obtain⟨t,rfl⟩:=rx;obtain⟨t',rfl⟩:=ry;obtain⟨j,h1,h2,h3,h4,h5⟩:=tZ he
 have hl:z.cps.toList.length=z.length:=by simp[Str.length]
 rw[hl]at h1 h4 h5;have hn:=mJ
 exact tail_any (typeIs_str s z t) slot_str_getitem.lookup (getItem_str (c:=c) (by
  have e1:decide (i < -(2^63:Int))=false:=Yo (by omega)
  have e2:decide (i >= 2^63)=false:=Yo (by omega)
  rw[e1,e2,Bool.or_false]) (by rw[h1];simpa using h2) ⟨.str ⟨#[c]⟩,H,I.tok _,⟨_,rfl⟩,q⟩) hs
def rIx(K:Frag):R2:=λx y H Q=>Ko K x y H Q\/Kp K x y H Q\/Kq x y H Q
def CV:UL X (rIx X.K):=Fv.or (t5.or Ik)
def yw(its:List Value)(n j:Nat)(u:Value):Obj.mapSeq (·.setIfInBounds j u) { cls:=.type "list",data:=.seq its.toArray n }={ cls:=.type "list",data:=.seq (its.set j u).toArray n }:=by simp[Obj.mapSeq]
theorem Inv.lst{pins:List (Addr×Obj)}{σ:St}{H:Hp}{s:Shared}{p:Addr}{xs:List V}(I:Inv X pins σ H s)(h:H p=some (.lst xs)):
  ∃(its:List Value)(n:Nat),Vals xs its/\s.heap.get? p=some { cls:=.type "list",data:=.seq its.toArray n }/\xs.length<=sizeLine:=by
 obtain⟨z,its,n,r,e⟩:=I.hok p _ h;exact⟨its,n,r,e,z⟩
def Inv.aaf{p:Addr}{xs ys:List V}{its its':List Value}{n n':Nat}{f:Obj->Obj}(I:Inv X pins σ H s)(h:H p=some (.lst xs))
  (ho:s.heap.get? p=some { cls:=.type "list",data:=.seq its.toArray n }) (hf:f { cls:=.type "list",data:=.seq its.toArray n }={ cls:=.type "list",data:=.seq its'.toArray n' }) (r:Vals ys its') (hz:ys.length<=sizeLine) (t:Nat):
  Inv X pins σ (upd H p (.lst ys)) { s with heap:=s.heap.update p f,toks:=t }:=by
 have e:(s.heap.update p f).get? p=some { cls:=.type "list",data:=.seq its'.toArray n' }:=by rw[Qj f ho (by rw[hf]<;>rfl),hf]
 refine I.write (x:=p) (e:=p) (by rw[h];trivial) (.inl rfl) (λb u hb q=>(Zc _ _ (Ne.symm hb)).trans q) ⟨_,e⟩ ?_
 exact⟨hz,its',n',r,e⟩
def Kr:V->V->V->Hp->(Hp->Prop)->Prop:=λo i v H Q=>∃p xs k j,o=.ref p/\i=.int k/\H p=some (.lst xs)/\Xn xs.length k=some j/\Q (upd H p (.lst (xs.set j v)))
def set_list:tU X Kr:=by
 intro pins s σ H o i v ov iv u Q I ro ri rv h;obtain⟨p,xs,k,j,rfl,rfl,hp,hj,q⟩:=h;cases ro;obtain⟨t,rfl⟩:=ri;obtain⟨its,n,r,ho,hz⟩:=I.lst hp;obtain⟨h1,h2,h3,h4⟩:=zP hj;have hl:=r.length;have hn:=mJ
 have I':Inv X pins σ (upd H p (.lst (xs.set j v))) { s with heap:=s.heap.update p (Obj.mapSeq (·.setIfInBounds j u)) }:=
  I.aaf hp ho (yw its n j u) (r.set rv j) (by rw[Mi];exact hz) s.toks
 by_cases h0:0<=k
 .have hk:k.toNat=j:=by rw[seqIndex_of h0 h4]at h1;exact Z8 h1
  exact ki_setAt ho h0 (by omega) (by rw[Yu,<- hl];exact h4) (by rw[hk];exact⟨_,I',q⟩)
 .have hk:(k+(its.toArray.size:Int)).toNat=j:=by
   rw[seqIndex_neg (by omega) h3]at h1
   rw[Yu,<- hl];exact Z8 h1
  exact ki_setBack ho (by omega) (by rw[Yu,<- hl];exact h3) (by omega) (by rw[hk];exact⟨_,I',q⟩)
def t6(lo hi:Option Int)(n:Nat):(sliceBounds lo hi none n).1=((HT.QH n 0 lo:Nat):Int)/\(sliceBounds lo hi none n).2.1=((HT.QH n n hi:Nat):Int)/\(sliceBounds lo hi none n).2.2=1:=by
 refine⟨?_,?_,rfl⟩
 .cases lo with
  |none=>simp[sliceBounds,HT.QH]
  |some i=>
   simp only[sliceBounds,HT.QH,Vz,show(1:Int)>0 by decide,Zi]
   by_cases h:i<0
   .simp only[h,Zi]<;>omega
   .simp only[h,Qm]<;>omega
 .cases hi with
  |none=>simp[sliceBounds,HT.QH]
  |some i=>
   simp only[sliceBounds,HT.QH,Vz,show(1:Int)>0 by decide,Zi]
   by_cases h:i<0
   .simp only[h,Zi]<;>omega
   .simp only[h,Qm]<;>omega
def qZ(its:List Value)(lo hi:Option Int):slicePick its.toArray lo hi none=((its.drop (HT.QH its.length 0 lo)).take (HT.QH its.length its.length hi-HT.QH its.length 0 lo)).toArray:=by obtain⟨h1,h2,h3⟩:=t6 lo hi its.toArray.size;unfold slicePick;rw[h1,h2,h3];simp only[sliceRange_one,pick_run,Yu]<;>rfl
def LB(K:Frag):V->Option Int->Option Int->Hp->VK->Prop:=λx lo hi H Q=>∃a xs,x=.ref a/\Rm K H a xs/\∀p,H p=none->Q (.ref p) (upd H p (.lst (vZ xs lo hi)))
def Fw:SlR X (LB X.K):=by
 intro pins s σ H x v vl vu lo hi sl Q I rx hs pl pu h;obtain⟨a,xs,rfl,hx,q⟩:=h;cases rx;obtain⟨its,r,ht,hz⟩:=I.list hx;have hlen:=r.length;refine⟨"list",_,slot_list_getitem.lookup,ht.isList.typeIs,?_⟩
 refine wpAny_getItem_list_slice ht.isList hs pl pu .none (by simp) ?_ (by rw[Yu]<;>omega)
 rw[qZ,<- hlen];refine⟨.ref s.heap.objs.size,_,I.laid (t':=s.toks) (o:=.lst (vZ xs lo hi)) (λb ob q=>Y7 _ q) (Yh _) ?_,rfl,q _ (I.hok.fresh (Yh _))⟩;exact⟨Yw (nM xs lo hi) hz,_,0,(r.drop (HT.QH xs.length 0 lo)).take (HT.QH xs.length xs.length hi-HT.QH xs.length 0 lo),Ye _ rfl⟩
def kM:V->Bool
 |.non=>true
 |.bl _=>true
 |.int _=>true
 |.str _=>true
 |_=>false
def X6:V->V->Bool
 |.non,.non=>true
 |.bl a,.bl b=>a == b
 |.bl a,.int b=>(if a then 1 else 0) == b
 |.int a,.bl b=>a == (if b then 1 else 0)
 |.int a,.int b=>a == b
 |.str a,.str b=>a == b
 |_,_=>false
def Il{A:Around}{y x:V}(ry:RelV y u)(rx:RelV x v)(fy:kM y=true)(fx:kM x=true):SeqAt.EqAt A s u v (X6 y x):=by
 cases y with
 |non=>
  cases ry;cases x with
  |non=>cases rx;exact SeqAt.EqAt.same _
  |bl b=>cases rx;exact SeqAt.EqAt.none_bool b
  |int b=>obtain⟨t,rfl⟩:=rx;exact SeqAt.EqAt.none_int b t
  |str b=>obtain⟨t,rfl⟩:=rx;exact SeqAt.EqAt.none_str b t
  |_=>exact absurd (show false=true from fx) Ym
 |bl a=>
  cases ry;cases x with
  |non=>cases rx;exact SeqAt.EqAt.bool_none a
  |bl b=>cases rx;exact SeqAt.EqAt.bool_bool a b
  |int b=>obtain⟨t,rfl⟩:=rx;exact SeqAt.EqAt.bool_int a b t
  |str b=>obtain⟨t,rfl⟩:=rx;exact SeqAt.EqAt.bool_str a b t
  |_=>exact absurd (show false=true from fx) Ym
 |int a=>
  obtain⟨t',rfl⟩:=ry;cases x with
  |non=>cases rx;exact SeqAt.EqAt.int_none a t'
  |bl b=>cases rx;exact SeqAt.EqAt.int_bool a t' b
  |int b=>obtain⟨t,rfl⟩:=rx;exact SeqAt.EqAt.int_int a t' b t
  |str b=>obtain⟨t,rfl⟩:=rx;exact SeqAt.EqAt.int_str a t' b t
  |_=>exact absurd (show false=true from fx) Ym
 |str a=>
  obtain⟨t',rfl⟩:=ry;cases x with
  |non=>cases rx;exact SeqAt.EqAt.str_none a t'
  |bl b=>cases rx;exact SeqAt.EqAt.str_bool a t' b
  |int b=>obtain⟨t,rfl⟩:=rx;exact SeqAt.EqAt.str_int a t' b t
  |str b=>obtain⟨t,rfl⟩:=rx;exact SeqAt.EqAt.str_str a t' b t
  |_=>exact absurd (show false=true from fx) Ym
 |_=>exact absurd (show false=true from fy) Ym
def YW(x:V)(u:Value):Bool:=match u with
 |.none=>X6 .non x
 |.bool b=>X6 (.bl b) x
 |.int i _=>X6 (.int i) x
 |.str z _=>X6 (.str z) x
 |_=>false
def CW{x y:V}(r:RelV y u)(f:kM y=true):YW x u=X6 y x:=by
 cases y with
 |non=>cases r;rfl
 |bl b=>cases r;rfl
 |int i=>obtain⟨t,rfl⟩:=r;rfl
 |str z=>obtain⟨t,rfl⟩:=r;rfl
 |_=>exact absurd (show false=true from f) Ym
theorem t7{x:V}:∀{xs:List V}{us:List Value},Vals xs us->xs.all kM=true->us.any (YW x)=xs.any λy=>X6 y x
 |_,_,.nil,_=>rfl
 |y::xs,u::us,.cons r t,f=>by rw[Vi,Z5]at f;rw[Qt,Qt,CW r f.1,t7 t f.2]
theorem ph{A:Around}{x:V}(rx:RelV x v)(fx:kM x=true):∀{xs:List V}{us:List Value},Vals xs us->xs.all kM=true->∀u∈us,SeqAt.EqAt A s u v (YW x u)
 |_,_,.nil,_=>λu hu=>by cases hu
 |y::xs,u::us,.cons r t,f=>λu' hu=>by
  rw[Vi,Z5]at f;rcases Yb.mp hu with rfl|hu
  .rw[CW r f.1];exact Il r rx f.1 fx
  .exact ph rx fx t f.2 u' hu
def inV(x:V)(xs:List V):Bool:=xs.any λy=>X6 y x
def rIn(K:Frag)(neg:Bool):R2:=λx y H Q=>∃p xs,y=.ref p/\(Rm K H p xs\/Tp K H p xs)/\kM x=true/\xs.all kM=true/\Q (.bl (if neg then !inV x xs else inV x xs)) H
def Bv:QS X (compareOp .In) (rIn X.K false):=by
 intro pins s σ H x y v u Q I rx ry h;obtain⟨p,xs,rfl,hq,fx,fs,q⟩:=h;cases ry;rcases hq with hq|hq
 .obtain⟨its,r,pl,hz⟩:=I.list hq
  refine SeqAt.in_listAt (YW x) pl.isList (λw hw=>ph rx fx r fs w (by simpa using hw)) ⟨.bl _,H,I,rfl,?_⟩
  rw[show its.toArray.any (YW x)=its.any (YW x) by simp,t7 r fs]
  exact q
 .obtain⟨its,r,pl,hz⟩:=I.tuple hq
  refine SeqAt.in_tupleAt (YW x) pl (λw hw=>ph rx fx r fs w (by simpa using hw)) ⟨.bl _,H,I,rfl,?_⟩
  rw[show its.toArray.any (YW x)=its.any (YW x) by simp,t7 r fs]
  exact q
def t8:bT X (.builtin "len") (λxs H Q=>∃p ys,xs=[.ref p]/\(Rm X.K H p ys\/Tp X.K H p ys)/\Q (.int ys.length) H):=by
 intro pins s σ H xs us Q I r h;obtain⟨p,ys,rfl,hq,q⟩:=h;obtain⟨u,rfl,rx⟩:=Wi r;cases rx;have hn:=mJ;rcases hq with hq|hq
 .obtain⟨its,r',pl,hz⟩:=I.list hq;have hlen:=r'.length
  exact Calls.call_len_list pl.isList (by simp only[Yu]<;>omega) ⟨.int ys.length,H,I.tok _,⟨s.toks+1,by rw[Yu,hlen]⟩,q⟩
 .obtain⟨its,r',pl,hz⟩:=I.tuple hq;have hlen:=r'.length
  exact len_tuple pl (by simp only[Yu]<;>omega) ⟨.int ys.length,H,I.tok _,⟨s.toks+1,by rw[Yu,hlen]⟩,q⟩
def t9:bT X (.builtin "len") (λxs H Q=>∃z,xs=[.str z]/\z.length<=sizeLine/\Q (.int z.length) H):=by
 intro pins s σ H xs us Q I r h;obtain⟨z,rfl,hz,q⟩:=h;obtain⟨u,rfl,t,rfl⟩:=Wi r;have hn:=mJ
 exact len_str (by omega) ⟨.int z.length,H,I.tok _,⟨_,rfl⟩,q⟩
def kN:bT X (.type "tuple") (λxs H Q=>∃p ys,xs=[.ref p]/\((Rm X.K H p ys/\∀l,H l=none->Q (.ref l) (upd H l (.tup ys)))\/(Tp X.K H p ys/\Q (.ref p) H))):=by
 intro pins s σ H xs us Q I r h;obtain⟨p,ys,rfl,h⟩:=h;obtain⟨u,rfl,rx⟩:=Wi r;cases rx;rcases h with⟨hq,q⟩|⟨hq,q⟩
 .obtain⟨its,r',pl,hz⟩:=I.list hq;have hlen:=r'.length
  refine call_tuple_list pl.isList (λh' kp=>?_) (by simp only[Yu]<;>omega)
  have I1:Inv X pins σ H { s with heap:=h' }:=I.kept (t':=s.toks) kp
  have I2:Inv X pins σ (upd H h'.objs.size (.tup ys)) { s with heap:=h'.push { cls:=.type "tuple",data:=.seq its.toArray } }:=
   I1.laid (t':=s.toks) (λb o e=>Y7 _ e) (Yh _) (show ck X.prog X.w _ _ _ (.tup ys) from ⟨hz,its,r',IsTup.new _ _⟩)
  exact⟨.ref h'.objs.size,_,I2,rfl,q _ (I1.hok.fresh (Yh _))⟩
 .obtain⟨its,r',pl,hz⟩:=I.tuple hq;exact call_tuple_same pl ⟨.ref p,H,I,rfl,q⟩
def tyV(K:Frag)(T:String)(x:V)(H:Hp):Prop:=match x with
 |.str _=>T = "str"
 |.int _=>T = "int"
 |.ref p=>(T = "list"/\∃xs,Rm K H p xs)\/(T = "tuple"/\∃o,K.lookup p=some o/\o.cls=.type "tuple"/\o.dict=none) \/
   (T = "dict"/\((∃kvs,H p=some (.dK kvs)) \/ ∃kvs,H p=some (.dT kvs)))\/(T = "set"/\∃S n,H p=some (.set S n))
 |_=>False
theorem Im{T:String}{x:V}(I:Inv X pins σ H s)(r:RelV x v)(ty:tyV X.K T x H):
  s.TypeIs v T/\∀a,v=.ref a->∃ob,s.heap.get? a=some ob/\ob.dict=none:=by
 cases x with
 |str z=>
  obtain⟨t,rfl⟩:=r
  cases (show T = "str" from ty)
  exact⟨typeIs_str s z t,λ_ e=>nomatch e⟩
 |int i=>
  obtain⟨t,rfl⟩:=r
  cases (show T = "int" from ty)
  exact⟨V6 s i t,λ_ e=>nomatch e⟩
 |ref p=>
  cases r;rcases ty with⟨rfl,xs,hq⟩|⟨rfl,o,hk,hc,hd⟩|⟨rfl,hk⟩|⟨rfl,S,n,hk⟩
  .obtain⟨its,_,pl,_⟩:=I.list hq;refine⟨pl.isList.typeIs,λa e=>?_⟩;cases e;obtain⟨o,n,e,c,hd,_⟩:=pl;exact⟨o,e,hd⟩
  .refine⟨⟨o,I.RK p o hk,hc⟩,λa e=>?_⟩;cases e;exact⟨o,I.RK _ o hk,hd⟩
  .have z:∃o,s.heap.get? p=some o/\o.ExactDict:=by
    rcases hk with⟨kvs,hk⟩|⟨kvs,hk⟩
    .obtain⟨_,_,_,_,o,_,_,e,ex,_⟩:=I.hok p _ hk;exact⟨o,e,ex⟩
    .obtain⟨_,_,_,_,o,_,_,e,ex,_⟩:=I.hok p _ hk;exact⟨o,e,ex⟩
   obtain⟨o,e,ex⟩:=z;refine⟨⟨o,e,ex.1⟩,λa e2=>?_⟩;cases e2;exact⟨o,e,ex.2.1⟩
  .obtain⟨o,_,_,_,e,ex,_⟩:=I.hok p _ hk;refine⟨⟨o,e,ex.1⟩,λa e2=>?_⟩;cases e2;exact⟨o,e,ex.2.1⟩
 |_=>exact False.elim ty
def tBM(K:Frag)(T:String)(r:V->List V->Hp->VK->Prop)(to:TE)(t:TA):TE:=λσ H Q=>to σ H λx H1=>tyV K T x H1/\t σ H1 λxs H2=>r x xs H2 Q
variable{o e:Expr}{es:List Expr}{to:TE}{t:TA}{name:Str}{apos cpos:Pos}{T id:String}{r:V->List V->Hp->VK->Prop}
def G9(pa:PlainAttrs T)(slot:Slot T name id)(hty:typeOf (.builtin id)=pure (.type "method_descriptor"))(hm:MtR X id r)(ho:PE X o to)(ha:PA X (e::es) t)
  (hbase:attributeBase o name X.env (eval o X.env)=eval o X.env:=by rfl)
  (hfew:((backTo cpos (starEach (e::es) X.env)).all (λx=>!x.1)&&(backToKw cpos (keywordEach [] X.env)).all (λx=>x.1.isSome)
   && decide ((e::es).length+([]:List Keyword).length+(if ([]:List Keyword).isEmpty then 0 else 1)<30))=true:=by rfl)
  (hline:(apos.endLine == cpos.line)=true:=by rfl) (hs:starEach (e::es) X.env=(false,eval e X.env)::starEach es X.env:=by rfl) (hplain:(backTo cpos (starEach es X.env)).any (·.1)=false:=by rfl):
  PE X (.Call (.Attribute o name apos) (e::es) [] cpos) (tBM X.K T r to t):=by
 intro pins s σ H Q I h;refine wpAny_Call_method_late hbase hfew hline rfl (PX (ho pins s σ H _ I h) λv s1 zq=>?_);obtain⟨x,H1,I1,r1,ty,q1⟩:=zq;obtain⟨h1,h2⟩:=Im I1 r1 ty;refine⟨T,id,pa,slot,hty,h1,h2,?_⟩;have hA:=ha cpos pins s1 σ H1 _ I1 q1;rw[hs]at hA ⊢
 refine Calls.callWith_builtin (by show(false||(backTo cpos (starEach es X.env)).any (·.1))=false;rw[hplain]<;>rfl) (Calls.evalArgs_plain ?_)
 exact PX hA λus s2 zq=>Tn zq λvs H2 I2 r2 q2=>hm pins s2 σ H2 x vs v us Q I2 r1 r2 q2
end
def MtM(X:Cx)(id:String)(r:V->List V->Hp->VK->Prop):Prop:=
 ∀(pins:List (Addr×Obj))(s:Shared)(σ:St)(H:Hp)(x:V)(xs:List V)(v:Value)(us:List Value)(Q:VK),Inv X pins σ H s->RelV x v->Vals xs us->r x xs H Q->
  wpAny (model X.prog X.w) X.A (call (.builtin id) (v::us)) (EP X pins σ Q) X.xe s
theorem Vals.one:∀{x:V}{us:List Value},Vals [x] us->∃u,us=[u]/\RelV x u
 |_,_,.cons r .nil=>⟨_,rfl,r⟩
theorem Vals.rep{xs:List V}{us:List Value}(h:Vals xs us):∀k:Nat,Vals (List.replicate k xs).flatten (List.replicate k us).flatten
 |0=>.nil
 |k+1=>by rw[Qh,Qh,Wq,Wq];exact Vals.append h (Vals.rep h k)
theorem foldl_rep(its:List Value):∀(k:Nat)(acc:List Value),
  List.foldl (λx1 x2=>x1++x2) acc.toArray (List.replicate k its.toArray)=(acc++(List.replicate k its).flatten).toArray
 |0,acc=>by simp
 |k+1,acc=>by
  have e:acc.toArray++its.toArray=(acc++its).toArray:=by simp
  have e2:(acc++its)++(List.replicate k its).flatten=acc++(List.replicate (k+1) its).flatten:=by rw[Qh,Wq,Zv]
  rw[<- e2,<- foldl_rep its k (acc++its),<- e,Qh,Mj]
section
variable{X:Cx}{pins:List (Addr×Obj)}{σ:St}{H:Hp}{s:Shared}{l b:Addr}{xs ys zs:List V}
def Inv.aaH{its its':List Value}{n:Nat}{f:Array Value->Array Value}{t':Nat}(I:Inv X pins σ H s)(hH:H l=some (.lst xs))
  (e:s.heap.get? l=some { cls:=.type "list",data:=.seq its.toArray n }) (hf:f its.toArray=its'.toArray) (hv:Vals ys its') (hz:ys.length<=sizeLine):
  Inv X pins σ (upd H l (.lst ys)) { s with heap:=s.heap.update l (Obj.mapSeq f),toks:=t' }:=by
 have q:=PySem.IsL.update e f;rw[hf]at q
 refine I.write (x:=l) (e:=l) (by rw[hH];exact trivial) (.inl rfl) (λb' u hb hu=>(Zc s.heap (Obj.mapSeq f) (Ne.symm hb)).trans hu) ⟨_,q⟩ ?_
 exact⟨hz,its',_,hv,q⟩
def Inv.aao{its:List Value}{t':Nat}(I:Inv X pins σ H s)(hv:Vals ys its)(hz:ys.length<=sizeLine):
  Inv X pins σ (upd H s.heap.objs.size (.lst ys)) { s with heap:=s.heap.push { cls:=.type "list",data:=.seq its.toArray },toks:=t' }:=
 I.laid (λ_ _ q=>Y7 _ q) (Yh _) ⟨hz,its,0,hv,Ye _ rfl⟩
theorem Inv.fresh(I:Inv X pins σ H s):H s.heap.objs.size=none:=I.hok.fresh (Yh _)
def Inv.YX(I:Inv X pins σ H s)(hH:H l=some (.lst xs)):xs.length<=sizeLine/\∃(its:List Value)(n:Nat),Vals xs its/\xs.length=its.length/\s.heap.get? l=some { cls:=.type "list",data:=.seq its.toArray n }:=by obtain⟨z,its,n,r,e⟩:=I.hok l _ hH;exact⟨z,its,n,r,r.length,e⟩
def CY{n:Nat}(h:n<=sizeLine):Builtin.List.listTooLong n=false:=by
 unfold Builtin.List.listTooLong
 exact Yo (by omega)
end
section
variable{X:Cx}
def Fx:V->List V->Hp->VK->Prop:=λx vs H Q=>∃l xs y,x=.ref l/\vs=[y]/\H l=some (.lst xs)/\xs.length<sizeLine/\Q .non (upd H l (.lst (xs++[y])))
def mL:MtM X "list.append" Fx:=by
 intro pins s σ H x vs v us Q I rx rv h;obtain⟨l,xs,y,rfl,rfl,hH,hz,q⟩:=h;cases rx;obtain⟨u,rfl,ru⟩:=rv.one;obtain⟨z,its,n,r,hl,e⟩:=I.YX hH
 refine Vd F.slot_list_append ⟨_,e,rfl⟩ F.entry_list_append (F.args_list_append_2 _ _) (PySem.list_append l its.toArray n u (by rw[Yu];omega)) ⟨e,?_⟩
 refine⟨.non,_,I.aaH (its':=its++[u]) hH e (by simp) (r.append (.cons ru .nil)) ?_,rfl,q⟩
 rw[Yp,W7];omega
def LC:R2:=λx y H Q=>∃l b xs zs,x=.ref l/\y=.ref b/\H l=some (.lst xs)/\H b=some (.lst zs)/\xs.length+zs.length<=sizeLine/\∀p,H p=none->Q (.ref p) (upd H p (.lst (xs++zs)))
def Io:QS X (binaryOp .Add) LC:=by
 intro pins s σ H x y v u Q I rx ry h;obtain⟨l,b,xs,zs,rfl,rfl,hH,hB,hz,q⟩:=h;cases rx;cases ry;obtain⟨z,its,n,r,hl,e⟩:=I.YX hH;obtain⟨z2,its2,n2,r2,hl2,e2⟩:=I.YX hB
 refine PySem.P.add_list e e2 ?_ (by rw[Yu,Yu];omega)
 have ea:its.toArray++its2.toArray=(its++its2).toArray:=by simp
 rw[ea]
 exact⟨.ref _,_,I.aao (t':=s.toks) (r.append r2) (by rw[Yp];omega),rfl,q _ I.fresh⟩
def LD:R2:=λx y H Q=>∃l k xs,x=.ref l/\y=.int k/\H l=some (.lst xs)/\-(2^63)<=k/\k<2^63/\xs.length*k.toNat<=sizeLine/\
 ∀p,H p=none->Q (.ref p) (upd H p (.lst (List.replicate k.toNat xs).flatten))
def len_rep{α:Type}(xs:List α)(k:Nat):(List.replicate k xs).flatten.length=k*xs.length:=by
 induction k with
 |zero=>simp
 |succ k ih=>rw[Qh,Wq,Yp,ih,Vp,U9]
def Ip:QS X (binaryOp .Mult) LD:=by
 intro pins s σ H x y v u Q I rx ry h;obtain⟨l,k,xs,rfl,rfl,hH,h1,h2,hz,q⟩:=h;cases rx;obtain⟨t,rfl⟩:=ry;obtain⟨z,its,n,r,hl,e⟩:=I.YX hH
 have hlen:its.toArray.size*k.toNat<=sizeLine:=by rw[Yu,<- hl];exact hz
 have aaI:¬its.toArray.size*k.toNat>(2^63-1)/8:=by
  have:(sizeLine:Nat)<=(2^63-1)/8:=by decide
  omega
 have hfit:¬(!Builtin.List.listFitsIndex k)=true:=by rw[fitsIndex_both h1 h2];exact Ym
 have aap:¬Builtin.List.listTooLong (its.toArray.size*k.toNat)=true:=by rw[CY hlen];exact Ym
 have hnew:List.foldl (λx1 x2=>x1++x2) #[] (List.replicate (if its.toArray.isEmpty=true then 0 else k.toNat) its.toArray)=(List.replicate k.toNat its).flatten.toArray:=by
  have f0:∀m:Nat,List.foldl (λx1 x2=>x1++x2) #[] (List.replicate m its.toArray)=(List.replicate m its).flatten.toArray:=λm=>by have:=foldl_rep its m [];rw[Qz]at this;exact this
  rw[f0];cases its with
  |nil=>simp
  |cons a r'=>rw[Yj (by simp)]
 refine wpAny_binaryOp_repeat_ref (T:="list") (U:="int") (by decide) ⟨_,e,rfl⟩ (λs'=>V6 s' k t) noFill_list_mul F.fills_int_mul Ua repeat_list F.slot_int_index.lookup
  (Vd Ua (V6 s k t) F.entry_int_rmul (F.args_int_rmul_2 _ _) (int___rmul___int_list k t l its.toArray n)
   ⟨e,rfl,⟨_,e,rfl⟩,Vd F.slot_list_mul ⟨_,e,rfl⟩ F.entry_list_mul (F.args_list_mul_2 _ _) (AutoListH.list___mul___list_int_3 l its.toArray n k t hfit aaI aap) ⟨e,?_⟩⟩)
 rw[hnew]
 exact⟨.ref _,_,I.aao (t':=s.toks) (r.rep k.toNat) (by rw[len_rep,Vq];exact hz),rfl,q _ I.fresh⟩
end
section
variable{κ:Type}[DecidableEq κ]
def i6(kvs:List (κ×V))(k:κ):Option V:=(kvs.find? λkv=>decide (kv.1=k)).map (·.2)
def putK(kvs:List (κ×V))(k:κ)(v:V):List (κ×V):=
 if (kvs.any λkv=>decide (kv.1=k))=true then kvs.map (λkv=>if kv.1=k then (kv.1,v) else kv) else kvs++[(k,v)]
def pj{p:κ×V}{r:List (κ×V)}{k:κ}(e:p.1=k):i6 (p::r) k=some p.2:=by simp[i6,Q6,e]
def pk{p:κ×V}{r:List (κ×V)}{k:κ}(e:¬p.1=k):i6 (p::r) k=i6 r k:=by simp[i6,Q6,e]
theorem v5(k:κ):∀kvs:List (κ×V),(kvs.any λkv=>decide (kv.1=k))=(i6 kvs k).isSome
 |[]=>rfl
 |p::r=>by
  rw[Qt];by_cases e:p.1=k
  .simp only[pj e,Yr e,Bool.true_or,Option.isSome_some]
  .rw[pk e,Yo e,Bool.false_or];exact v5 k r
def jJ(kvs:List (κ×V))(k:κ)(v:V):(putK kvs k v).length<=kvs.length+1:=by
 unfold putK;split
 .rw[Yi];omega
 .rw[Yp,Yn,Zu];omega
def jB.R4{o:Option V}{u:Option Value}(r:jB o u):o.isSome=u.isSome:=by
 cases o with
 |none=>cases u with
  |none=>rfl
  |some _=>exact(show False from r).elim
 |some _=>cases u with
  |none=>exact(show False from r).elim
  |some _=>rfl
theorem jB.getD{o:Option V}{u:Option Value}{d:V}{d':Value}(r:jB o u)(rd:RelV d d'):RelV (o.getD d) (u.getD d'):=by
 cases o with
 |none=>cases u with
  |none=>exact rd
  |some _=>exact(show False from r).elim
 |some _=>cases u with
  |none=>exact(show False from r).elim
  |some _=>exact r
def KV.val{kvs:List (κ×V)}{vs:List (κ×Value)}(r:KV kvs vs)(k:κ):jB (i6 kvs k) (valueAt vs k):=by
 unfold KV at r
 induction r with
 |nil=>exact True.intro
 | @cons p q ps qs h t ih=>
  obtain⟨h1,h2⟩:=h;by_cases e:p.1=k
  .have e':q.1=k:=h1.symm.trans e
   have b:valueAt (q::qs) k=some q.2:=by simp[valueAt,Q6,e']
   rw[pj e,b];exact h2
  .have e':¬q.1=k:=λz=>e (h1.trans z)
   have b:valueAt (q::qs) k=valueAt qs k:=by simp[valueAt,Q6,e']
   rw[pk e,b];exact ih
theorem KV.any{kvs:List (κ×V)}{vs:List (κ×Value)}(r:KV kvs vs)(k:κ):(kvs.any λkv=>decide (kv.1=k))=vs.any λkv=>decide (kv.1=k):=by
 unfold KV at r
 induction r with
 |nil=>rfl
 |cons h t ih=>rw[Qt,Qt,ih,h.1]
theorem KV.repl{kvs:List (κ×V)}{vs:List (κ×Value)}(r:KV kvs vs)(k:κ){y:V}(ry:RelV y u):
  KV (kvs.map λkv=>if kv.1=k then (kv.1,y) else kv) (vs.map λkv=>if kv.1=k then (kv.1,u) else kv):=by
 unfold KV at r ⊢
 induction r with
 |nil=>exact .nil
 | @cons p q ps qs h t ih=>
  rw[Y8,Y8];refine .cons ?_ ih;obtain⟨h1,h2⟩:=h;by_cases e:p.1=k
  .rw[Y9 e,Y9 (h1.symm.trans e)];exact⟨h1,ry⟩
  .rw[Yj e,Yj (λz=>e (h1.trans z))];exact⟨h1,h2⟩
def KV.put{kvs:List (κ×V)}{vs:List (κ×Value)}(r:KV kvs vs)(k:κ){y:V}(ry:RelV y u):KV (putK kvs k y) (stored vs k u):=by
 unfold putK stored;rw[r.any k];by_cases e:(vs.any λkv=>decide (kv.1=k))=true
 .rw[Y9 e,Y9 e];exact r.repl k ry
 .rw[Yj e,Yj e];exact Paired.snoc r ⟨rfl,ry⟩
def KV.keys{kvs:List (κ×V)}{vs:List (κ×Value)}(r:KV kvs vs):kvs.map (·.1)=vs.map (·.1):=by
 unfold KV at r
 induction r with
 |nil=>rfl
 |cons h t ih=>rw[Y8,Y8,ih,h.1]
theorem KV.length{kvs:List (κ×V)}{vs:List (κ×Value)}(r:KV kvs vs):kvs.length=vs.length:=Paired.length r
end
def rS{k:Key}(r:RelV (kV k) u):(bA P w).is k u=true:=by
 cases k with
 |inl i=>obtain⟨t,e⟩:=(show ∃t,u=Value.int i t from r);subst e;exact vR P w i t
 |inr x=>obtain⟨t,e⟩:=(show ∃t,u=Value.str x t from r);subst e;exact vS P w x t
theorem rT:∀{ks:List Key}{us:List Value},Vals (ks.map kV) us->ItemsAre (bA P w) ks us
 |[],_,r=>by rw[Wb]at r;cases r;exact .nil
 |k::ks,_,r=>by
  rw[Y8]at r;cases r with
  |cons h t=>exact .cons (rS h) (rT t)
abbrev KT(H:Hp):List (List Key×V)->List (List Key×Addr×Value)->Prop:=Paired λp q=>p.1=q.1/\H q.2.1=some (.tup (p.1.map kV))/\RelV p.2 q.2.2
def KT.val{kvs:List (List Key×V)}(r:KT H kvs xs)(k:List Key):jB (i6 kvs k) ((atKey xs k).map (·.2)):=by
 induction r with
 |nil=>exact True.intro
 | @cons p q ps qs h t ih=>
  obtain⟨h1,_,h2⟩:=h;by_cases e:p.1=k
  .have e':q.1=k:=h1.symm.trans e
   have b:atKey (q::qs) k=some q.2:=by simp[atKey,Q6,e']
   rw[pj e,b];exact h2
  .have e':¬q.1=k:=λz=>e (h1.trans z)
   have b:atKey (q::qs) k=atKey qs k:=by simp[atKey,Q6,e']
   rw[pk e,b];exact ih
theorem KT.repl{kvs:List (List Key×V)}(r:KT H kvs xs)(k:List Key){y:V}(ry:RelV y u):
  KT H (kvs.map λkv=>if kv.1=k then (kv.1,y) else kv) (xs.map (putAt k u)):=by
 induction r with
 |nil=>exact .nil
 | @cons p q ps qs h t ih=>
  rw[Y8,Y8];refine .cons ?_ ih;obtain⟨h1,h2,h3⟩:=h;unfold putAt;by_cases e:p.1=k
  .rw[Y9 e,Y9 (h1.symm.trans e)];exact⟨h1,h2,ry⟩
  .rw[Yj e,Yj (λz=>e (h1.trans z))];exact⟨h1,h2,h3⟩
def KT.put{kvs:List (List Key×V)}(r:KT H kvs xs)(k:List Key){b:Addr}{y:V}(hb:H b=some (.tup (k.map kV)))(ry:RelV y u):
  KT H (putK kvs k y) (storedH xs k b u):=by
 have e:(kvs.any λkv=>decide (kv.1=k))=(atKey xs k).isSome:=by rw[v5,(r.val k).R4,Option.isSome_map]
 unfold putK storedH;rw[e];by_cases q:(atKey xs k).isSome=true
 .rw[Y9 q,Y9 q];exact r.repl k ry
 .rw[Yj q,Yj q];exact Paired.snoc r ⟨rfl,hb,ry⟩
def KT.keeps{H':Hp}{kvs:List (List Key×V)}(r:KT H kvs xs)(ht:∀b ys,H b=some (.tup ys)->H' b=some (.tup ys)):KT H' kvs xs:=
 Paired.aad r λ_ _ z=>⟨z.1,ht _ _ z.2.1,z.2.2⟩
section
variable{P:Program}{w:World}{H:Hp}{h:Heap}{a:Addr}
def Ha{u:HO}(ok:RN P w H h)(e:Rd H a u):ck P w H h a u:=e.ok ok
def kO{kvs:List (Key×V)}(ok:RN P w H h)(e:Rd H a (.dK kvs)):kvs.length<=sizeLine/\(a == sysModules)=false/\∃vs,KV kvs vs/\h.DictOf (bA P w) a vs:=
 show ck P w H h a (.dK kvs) from Ha ok e
def Hb{kvs:List (Key×V)}(ok:RN P w H h)(e:H a=some (.dK kvs)):kvs.length<=sizeLine/\(a == sysModules)=false/\∃vs,KV kvs vs/\h.DictOf (bA P w) a vs:=kO ok (.inl e)
def pw{ks:List Key}(ok:RN P w H h)(e:H a=some (.tup (ks.map kV))):(tupleKind (bA P w)).is h ks a:=by
 obtain⟨_,its,r,o,h1,h2,n,h3⟩:=(show ck P w H h a (.tup (ks.map kV)) from ok a _ e)
 exact⟨o,its.toArray,n,h1,h2,h3,by simpa using rT r⟩
theorem rV{kvs:List (List Key×V)}(ok:RN P w H h)(e:Rd H a (.dT kvs)):kvs.length<=sizeLine/\(a == sysModules)=false/\
  ∃xs,KT H kvs xs/\h.DictOfH (tupleKind (bA P w)) a xs:=by
 obtain⟨z,y,xs,r,o,es,ep,h1,h2,h3,h4,h5⟩:=(show ck P w H h a (.dT kvs) from Ha ok e)
 refine⟨z,y,xs,r,o,es,ep,h1,h2,h3,h4,λx hx=>?_,h5⟩
 have all:∀{l:List (List Key×V)}{m:List (List Key×Addr×Value)},KT H l m->∀x∈m,(tupleKind (bA P w)).is h x.1 x.2.1:=by
  intro l m q
  induction q with
  |nil=>intro x hx;exact nomatch hx
  | @cons p q ps qs hq t ih=>
   intro x hx;rcases Yb.mp hx with e|hx
   .subst e
    exact pw ok (by rw[<- hq.1];exact hq.2.1)
   .exact ih x hx
 exact all r x hx
def Ks{kvs:List (List Key×V)}(ok:RN P w H h)(e:H a=some (.dT kvs)):kvs.length<=sizeLine/\(a == sysModules)=false/\
  ∃xs,KT H kvs xs/\h.DictOfH (tupleKind (bA P w)) a xs:=rV ok (.inl e)
end
def Bw(H:Hp)(a:Addr)(y:V)(r:Option V):Prop:=
 (∃kvs k,Rd H a (.dK kvs)/\y=kV k/\r=i6 kvs k) \/ ∃kvs k b,Rd H a (.dT kvs)/\y=.ref b/\H b=some (.tup (k.map kV))/\r=i6 kvs k
def Fy(H:Hp)(a:Addr)(y v:V)(H':Hp):Prop:=
 (∃kvs k,H a=some (.dK kvs)/\y=kV k/\kvs.length<sizeLine/\H'=upd H a (.dK (putK kvs k v))) \/
 ∃kvs k b,H a=some (.dT kvs)/\y=.ref b/\H b=some (.tup (k.map kV))/\kvs.length<sizeLine/\H'=upd H a (.dT (putK kvs k v))
theorem Fy.k{kvs:List (Key×V)}{k:Key}{v:V}(e:H a=some (.dK kvs))(hl:kvs.length<sizeLine):Fy H a (kV k) v (upd H a (.dK (putK kvs k v))):=.inl ⟨kvs,k,e,rfl,hl,rfl⟩
section
variable{X:Cx}{pins:List (Addr×Obj)}{σ:St}{H:Hp}{s:Shared}{a:Addr}{y v:V}{u r:Value}{o:Option V}{A:Around}{E:Value->Shared->Prop}
def Inv.big(I:Inv X pins σ H s):sysModules<s.heap.objs.size:=by
 have h:mainGlobals<s.heap.objs.size:=(I.mod.glob.keeps I.bk).lt
 exact Nat.lt_trans (by decide) h
def By(hu:A.units+1<cLine)(I:Inv X pins σ H s)(g:Bw H a y (some v))(ry:RelV y u)(h:∀w' s',Inv X pins σ H s'->RelV v w'->Q w' s'):
  wpAny (model X.prog X.w) A (getItem (.ref a) u) Q E s:=by
 rcases g with⟨kvs,k,e,ey,l⟩|⟨kvs,k,b,e,ey,eb,l⟩
 .subst ey;obtain⟨z,hd,vs,rel,dd⟩:=kO I.hok e
  obtain⟨w',hw,YT⟩:=jB.some_of (v:=v) (o:=valueAt vs k) (by rw[l];exact rel.val k)
  exact wpAny_getItem_of (rS ry) dd.mapOf hw (h w' _ (I.tok _) YT)
 .subst ey
  cases (show u=Value.ref b from ry)
  obtain⟨z,hd,xs,rel,dd⟩:=rV I.hok e
  obtain⟨w',hw,YT⟩:=jB.some_of (v:=v) (o:=(atKey xs k).map (·.2)) (by rw[l];exact rel.val k)
  obtain⟨p,hp,hp2⟩:=Option.map_eq_some_iff.mp hw;refine wpAny_getItem_heap (Vr hu) (pw I.hok eb) dd hp ?_;rw[hp2];exact h w' _ (I.tok _) YT
def LF(hu:A.units+1<cLine)(I:Inv X pins σ H s)(g:Bw H a y o)(ry:RelV y u)(h:∀s',Inv X pins σ H s'->Q (.bool o.isSome) s'):
  wpAny (model X.prog X.w) A (compareOp .In u (.ref a)) Q E s:=by
 rcases g with⟨kvs,k,e,ey,l⟩|⟨kvs,k,b,e,ey,eb,l⟩
 .subst ey;obtain⟨z,hd,vs,rel,dd⟩:=kO I.hok e;refine wpAny_in_of (rS ry) hd dd.mapOf ?_;rw[<- (rel.val k).R4,<- l];exact h _ (I.tok _)
 .subst ey
  cases (show u=Value.ref b from ry)
  obtain⟨z,hd,xs,rel,dd⟩:=rV I.hok e;refine wpAny_in_heap (Vr hu) (pw I.hok eb) hd dd ?_;have q:=(rel.val k).R4;rw[Option.isSome_map]at q;rw[<- q,<- l];exact h _ (I.tok _)
def ua{h':Heap}{t':Nat}{ob:HO}(I:Inv X pins σ H s)(mu:Mut (H a))(hs:Heap.SameBut a s.heap h')(he:∃q,h'.get? a=some q)(new:ck X.prog X.w (upd H a ob) h' a ob):
  Inv X pins σ (upd H a ob) { s with heap:=h',toks:=t' }:=
 I.write (x:=a) (e:=a) mu (.inl rfl) (λb q hb z=>(hs.2 b hb).trans z) he new
def CZ{H':Hp}{h':Heap}{kvs:List (Key×V)}{vs:List (Key×Value)}(z:kvs.length<=sizeLine)(hd:(a == sysModules)=false)(rel:KV kvs vs)(dd:h'.DictOf (bA P w) a vs):
  ck P w H' h' a (.dK kvs):=⟨z,hd,vs,rel,dd⟩
def Bz{H':Hp}{Q:Unit->Shared->Prop}(hu:A.units+1<cLine)(I:Inv X pins σ H s)(g:Fy H a y v H')(ry:RelV y u)(rv:RelV v r)(h:∀s',Inv X pins σ H' s'->Q () s'):
  wpAny (model X.prog X.w) A (setItem (.ref a) u r) Q E s:=by
 rcases g with⟨kvs,k,e,ey,l,eH⟩|⟨kvs,k,b,e,ey,eb,l,eH⟩
 .subst ey eH;obtain⟨z,hd,vs,rel,dd⟩:=Hb I.hok e
  have hz:vs.length<=sizeLine:=by rw[<- rel.length];exact z
  have hl:(putK kvs k v).length<=sizeLine:=by have:=jJ kvs k v;omega
  refine wpAny_setItem_pairs (hsz:=hz) (rS ry) dd λh' dd' hs=>h _ ?_
  have he:∃q,h'.get? a=some q:=let ⟨q,_,_,hq,_⟩:=dd';⟨q,hq⟩
  exact ua I (by rw[e];exact True.intro) hs he (CZ hl hd (rel.put k rv) dd')
 .subst ey eH
  cases (show u=Value.ref b from ry)
  obtain⟨z,hd,xs,rel,dd⟩:=Ks I.hok e
  have hz:xs.length<=sizeLine:=by rw[<- Paired.length rel];exact z
  have hl:(putK kvs k v).length<=sizeLine:=by have:=jJ kvs k v;omega
  refine wpAny_setItem_heap (hsz:=hz) (Vr hu) (pw I.hok eb) dd λh' dd' hs=>h _ ?_;obtain⟨q,es,ep,hq,h2,h3,h4,_,h5⟩:=dd'
  refine ua I (by rw[e];exact True.intro) hs ⟨q,hq⟩ ⟨hl,hd,_,(rel.put k eb rv).keeps λc ys ec=>?_,q,es,ep,hq,h2,h3,h4,h5⟩
  rw[aQ (JR ec e (λz=>nomatch z))]
  exact ec
end
section
variable{X:Cx}{pins:List (Addr×Obj)}{σ:St}{H:Hp}{s:Shared}{a:Addr}{kvs:List (Key×V)}{k:Key}{u:Value}{A:Around}{E:Value->Shared->Prop}
def Kt(I:Inv X pins σ H s)(e:Rd H a (.dK kvs))(h:∀t s',Inv X pins σ H s'->Q (.int kvs.length t) s'):wpAny (model X.prog X.w) A (call (.builtin "len") [.ref a]) Q E s:=by
 obtain⟨z,hd,vs,rel,dd⟩:=kO I.hok e
 refine call_len_dict hd dd (by rw[<- rel.length];rw[Wt]at z;omega) ?_
 rw[<- rel.length];exact h _ _ (I.tok _)
end
def v7{y:V}{o:Option V}(I:Inv X pins σ H s)(g:Bw H a y o):s.TypeIs (.ref a) "dict":=by
 rcases g with⟨kvs,k,e,_,_⟩|⟨kvs,k,b,e,_,_,_⟩
 .obtain⟨_,_,vs,_,dd⟩:=kO I.hok e;exact dd.typeIs
 .obtain⟨_,_,xs,_,dd⟩:=rV I.hok e;exact dd.typeIs
def v8(h:Heap)(hb:sysModules<h.objs.size):ck P w H (h.push { cls:=.type "dict",data:=.dict #[] }) h.objs.size (.dK []):=
 ⟨Zs _,V0.mpr (Ne.symm (Yv hb)),[],.nil,Heap.DictOf.new h⟩
def Iq:TE:=λ_ H Q=>∀p,H p=none->Q (.ref p) (upd H p (.dK []))
section
variable{X:Cx}{pos:Pos}
def C0:PE X (.Dict [] [] pos) Iq:=λpins s σ H Q I h=>
 wpAny_Dict_empty ⟨.ref s.heap.objs.size,_,I.laid (a:=s.heap.objs.size) (o:=.dK []) (t':=s.toks) (λ_ _ q=>Y7 _ q) (Yh _) (v8 s.heap I.big),rfl,h _ (I.hok.fresh (Yh _))⟩
end
def ub:List (TE×TE)->St->Hp->(List (V×V)->Hp->Prop)->Prop
 |[],_,H,Q=>Q [] H
 |(tk,tv)::r,σ,H,Q=>tk σ H λx H1=>tv σ H1 λy H2=>ub r σ H2 λps H3=>Q ((x,y)::ps) H3
abbrev VV:List (V×V)->List (Value×Value)->Prop:=Paired λp q=>RelV p.1 q.1/\RelV p.2 q.2
def PPs(X:Cx)(pos:Pos)(keys:List (Option Expr))(values:List Expr)(YZ:List (TE×TE)):Prop:=
 ∀(pins:List (Addr×Obj))(s:Shared)(σ:St)(H:Hp)(Q:List (V×V)->Hp->Prop),Inv X pins σ H s->ub YZ σ H Q->
  wpAny (model X.prog X.w) X.A (evalPairs (pairTrees keys values X.env pos)) (λvs s'=>∃ps H',Inv X pins σ H' s'/\VV ps vs/\Q ps H') X.xe s
def Fz:PPs X pos [] [] []:=λpins s σ H Q I h=>pairTrees_nil_walk ⟨[],H,I,.nil,h⟩
def C3{k v:Expr}{ks:List (Option Expr)}{vs:List Expr}{tk tv:TE}{YZ:List (TE×TE)}(hk:PE X k tk)(hv:PE X v tv)(hr:PPs X pos ks vs YZ):
  PPs X pos (some k::ks) (v::vs) ((tk,tv)::YZ):=λpins s σ H Q I h=>
 pairTrees_cons_walk (PX (hk pins s σ H _ I h) λu s1 zq=>Tn zq λx H1 I1 rx q1=>PX (hv pins s1 σ H1 _ I1 q1) λw2 s2 zq=>Tn zq λy H2 I2 ry q2=>
  PX (hr pins s2 σ H2 _ I2 q2) λws s3 zq=>Tn zq λps H3 I3 rel q3=>⟨(x,y)::ps,H3,I3,.cons ⟨rx,ry⟩ rel,q3⟩)
def i7(kvs more:List (Key×V)):List (Key×V):=more.foldl (λacc kv=>putK acc kv.1 kv.2) kvs
def KV.merge:∀{more:List (Key×V)}{rs:List (Key×Value)}{kvs:List (Key×V)}{vs:List (Key×Value)},KV more rs->KV kvs vs->KV (i7 kvs more) (merged vs rs):=by
 intro more rs kvs vs r;unfold KV at r
 induction r generalizing kvs vs with
 |nil=>intro q;exact q
 | @cons p q ps qs h t ih=>
  intro r0
  have e:KV (putK kvs p.1 p.2) (stored vs q.1 q.2):=by have:=r0.put p.1 h.2;rw[<- h.1];exact this
  exact ih e
theorem kP:∀(more kvs:List (Key×V)),(i7 kvs more).length<=kvs.length+more.length
 |[],kvs=>by show kvs.length<=kvs.length+0;omega
 |p::r,kvs=>by have h1:=kP r (putK kvs p.1 p.2);have h2:=jJ kvs p.1 p.2;show(i7 (putK kvs p.1 p.2) r).length<=_;rw[Yn];omega
theorem px{P:Program}{w:World}:∀{kvs:List (Key×V)}{ws:List (Value×Value)},VV (kvs.map λkv=>(kV kv.1,kv.2)) ws->∃rs,Carries (bA P w) ws rs/\KV kvs rs
 |[],_,r=>by rw[Wb]at r;cases r;exact⟨[],True.intro,.nil⟩
 |p::kvs,_,r=>by
  rw[Y8]at r;cases r with
  | @cons a b as bs h t=>
   obtain⟨rs,c,q⟩:=px (P:=P) (w:=w) t;obtain⟨b1,b2⟩:=b;exact⟨(p.1,b2)::rs,⟨rS h.1,rfl,c⟩,.cons ⟨rfl,h.2⟩ q⟩
def Hc(YZ:List (TE×TE)):TE:=λσ H Q=>∀p,H p=none->ub YZ σ (upd H p (.dK [])) λps H2=>H2 p=some (.dK [])/\∃kvs:List (Key×V),ps=kvs.map (λkv=>(kV kv.1,kv.2))/\kvs.length<=15/\Q (.ref p) (upd H2 p (.dK (i7 [] kvs)))
def FA{keys:List (Option Expr)}{values:List Expr}{YZ:List (TE×TE)}(h:PPs X pos keys values YZ)(hall:keys.all (·.isSome)=true)(hl:keys.length=values.length)(h0:keys≠[])
  (h15:keys.length<=15):PE X (.Dict keys values pos) (Hc YZ):=by
 intro pins s σ H Q I q;have hn:=I.hok.fresh (Yh s.heap.objs.size);have I1:=I.laid (a:=s.heap.objs.size) (o:=.dK []) (h':=s.heap.push { cls:=.type "dict",data:=.dict #[] }) (t':=s.toks) (λ_ _ q=>Y7 _ q) (Yh _) (v8 s.heap I.big)
 refine wpAny_Dict_walk (knd:=bA X.prog X.w) hall hl h0 h15 (PX (h pins _ σ _ _ I1 (q _ hn)) λws s2 zq=>?_);obtain⟨ps,H2,I2,rel,e,kvs,ep,lk,q2⟩:=zq;subst ep;obtain⟨rs,c,rk⟩:=px (P:=X.prog) (w:=X.w) rel;obtain⟨z,hd,vs0,r0,dd⟩:=Hb I2.hok e;cases r0;refine⟨rs,c,dd,λh' dd' hs=>⟨.ref s.heap.objs.size,_,?_,rfl,q2⟩⟩
 have hz:(i7 [] kvs).length<=sizeLine:=by have h1:=kP kvs [];rw[Zu]at h1;rw[Wt];omega
 have he:∃q,h'.get? s.heap.objs.size=some q:=let ⟨q,_,_,hq,_⟩:=dd';⟨q,hq⟩
 exact ua I2 (by rw[e];exact True.intro) hs he (CZ hz hd (rk.merge .nil) dd')
structure M2(X:Cx)(o:Expr)(m:Str)(apos:Pos)(e f:Expr)(cpos:Pos):Prop where
 base:attributeBase o m X.env (eval o X.env)=eval o X.env
 few:((backTo cpos (starEach [e,f] X.env)).all (λx=>!x.1)&&(backToKw cpos (keywordEach [] X.env)).all (λx=>x.1.isSome)
  && decide (([e,f]:List Expr).length+([]:List Keyword).length+(if ([]:List Keyword).isEmpty then 0 else 1)<30))=true
 line:(apos.endLine == cpos.line)=true
 trees:backTo cpos (starEach [e,f] X.env)=[(false,eval e X.env),(false,eval f X.env)]
def IsD(H:Hp)(a:Addr):Prop:=(∃kvs,Rd H a (.dK kvs)) \/ ∃kvs,Rd H a (.dT kvs)
def yx(I:Inv X pins σ H s)(d:IsD H a):
  s.TypeIs (.ref a) "dict"/\(∀b,Value.ref a=.ref b->∃ob,s.heap.get? b=some ob/\ob.dict=none)/\(a == sysModules)=false:=by
 rcases d with⟨kvs,e⟩|⟨kvs,e⟩
 .obtain⟨_,hd,vs,_,dd⟩:=kO I.hok e;refine⟨dd.typeIs,λb q=>?_,hd⟩;cases q;obtain⟨ob,_,_,h1,h2,_⟩:=dd;exact⟨ob,h1,h2.2.1⟩
 .obtain⟨_,hd,xs,_,dd⟩:=rV I.hok e;refine⟨dd.typeIs,λb q=>?_,hd⟩;cases q;obtain⟨ob,_,_,h1,h2,_⟩:=dd;exact⟨ob,h1,h2.2.1⟩
section
variable{X:Cx}{pins:List (Addr×Obj)}{σ:St}{H:Hp}{s:Shared}{a:Addr}{y d:V}{u r:Value}{o:Option V}{A:Around}{E:Value->Shared->Prop}
def Ir(hu:A.units+1<cLine)(I:Inv X pins σ H s)(g:Bw H a y o)(ry:RelV y u)(rd:RelV d r)(h:∀w' s',Inv X pins σ H s'->RelV (o.getD d) w'->Q w' s'):
  wpAny (model X.prog X.w) A (call (.builtin "dict.get") [.ref a,u,r]) Q E s:=by
 rcases g with⟨kvs,k,e,ey,l⟩|⟨kvs,k,b,e,ey,eb,l⟩
 .subst ey;obtain⟨z,hd,vs,rel,dd⟩:=kO I.hok e;refine call_meetsIn U4 dd.typeIs PySem.F.entry_dict_get (PySem.F.args_dict_get_3 _ _ _) (meets_dict_get_default (bA X.prog X.w) a (rS ry) hd r) ⟨_,dd.mapOf,h _ _ (I.tok _) ?_⟩;rw[l];exact(rel.val k).getD rd
 .subst ey
  cases (show u=Value.ref b from ry)
  obtain⟨z,hd,xs,rel,dd⟩:=rV I.hok e;refine call_meetsIn U4 dd.typeIs PySem.F.entry_dict_get (PySem.F.args_dict_get_3 _ _ _) (meetsH_dict_get_default (tupleKind (bA X.prog X.w)) a b hd r) ⟨Vr hu,k,xs,pw I.hok eb,dd,h _ _ (I.tok _) ?_⟩;rw[l];exact(rel.val k).getD rd
end
def Iu(td ty tx:TE):TE:=λσ H Q=>td σ H λx H1=>∃a,x=.ref a/\IsD H1 a/\ty σ H1 λy H2=>tx σ H2 λz H3=>∃o,Bw H3 a y o/\Q (o.getD z) H3
section
variable{X:Cx}{o e f:Expr}{apos cpos:Pos}{td ty tx:TE}
def C4(hu:X.A.units+1<cLine)(ho:PE X o td)(he:PE X e ty)(hf:PE X f tx)(m:M2 X o "get" apos e f cpos):PE X (.Call (.Attribute o "get" apos) [e,f] [] cpos) (Iu td ty tx):=by
 intro pins s σ H Q I h;refine M9 m.base m.few m.line PySem.F.plainAttrs_dict U4 PySem.F.type_dict_get (PX (ho pins s σ H _ I h) λu s1 zq=>?_);obtain⟨x,H1,I1,rx,a,ex,d,q1⟩:=zq;subst ex;obtain rfl:u=Value.ref a:=rx;obtain⟨t1,t2,_⟩:=yx I1 d;refine⟨t1,t2,?_⟩;rw[m.trees]
 refine Calls.callWith_builtin rfl (Calls.evalArgs_plain (Uu (PX (he pins s1 σ H1 _ I1 q1) λiv s2 zq=>Tn zq λy H2 I2 ry q2=>
  Uu (PX (hf pins s2 σ H2 _ I2 q2) λfv s3 ⟨z,H3,I3,rz,ov,g,q3⟩=>Calls.spliced_nil ?_))))
 exact Ir hu I3 g ry rz λw' s4 I4 YT=>⟨_,H3,I4,YT,q3⟩
end
end L2
namespace Att
open PySem PySem.W PySem.Calls PyProof.Rows
def ou{P:Params}{h:Heap}:∀(ns:List Int)(vs:List Value),WellAll P h vs (ns.map WData.int)->IntsAre vs ns:=by
 intro ns
 induction ns with
 |nil=>
  intro vs w;rw[Wb]at w;cases w;exact .nil
 |cons n ns ih=>
  intro vs w;rw[Y8]at w;cases w with
  |cons a b=>
   cases a;exact .cons _ _ (ih _ b)
theorem BA{l:OpenLaw}{n:Nat}(hn:l.most=some n){P:Params}{h:Heap}{args:List WData}{vals:List Value}
  (hpre:l.row.toRowW.claim.pre args=true) (hwl:WellAll P h vals args):
  ∃a vs ns,vals=[Value.ref a]/\args=[WData.list (ns.map WData.int)]/\h.get? a=some { cls:=.type "list",data:=.seq vs.toArray }/\IntsAre vs ns/\ns.length<=n:=by
 have hsh:WShape.hasAll [] args [.list .int]=true:=(pre_splitW hpre).1;have hc:l.pre.holds [] { args:=args }=true:=(pre_splitW hpre).2;obtain⟨d,r,rfl,h1,h2⟩:=hasAllW_cons hsh;obtain rfl:=hasAllW_nil h2;obtain⟨xs,rfl,h3⟩:=hasW_list h1;obtain⟨ns,rfl⟩:=items_int h3
 have hlen:ns.length<=n:=by
  unfold OpenLaw.pre at hc
  have h4:(WTm.not (.lt (.lit (.int (n:Int))) (.len (.arg 0)))).holds [] { args:=[.list (ns.map .int)] }=true:=by have h4:=(holds_andW hc).1;rw[hn]at h4;exact h4
  have h5:=condW_of h4 (w_not (w_lt w_lit (w_len_list (w_arg rfl))));rw[Yi]at h5;refine Nat.le_of_not_lt λq=>?_
  have q':(n:Int)<((ns.length:Nat):Int):=by omega
  first
   |(rw[Yr q']at h5;exact absurd h5 (by decide))
   |(simp at h5;omega)
 cases hwl with
 |cons w1 w2=>
  cases w2;cases w1 with
  |list ho hall=>exact⟨_,_,ns,rfl,rfl,ho,ou ns _ hall,hlen⟩
def BB(l:OpenLaw)(args:List WData):l.row.toRowW.claim.post args (.bool true) args=true:=
 postW_of (r:=l.row.toRowW) (X:=(true == true))
  (show WShape.has [] (.bool true) .bool=true by first|rfl|decide|simp[WShape.has,WShape.arms,WShape.armsAll])
  (show(WTm.eq .res (.lit (.bool true))).value [] { args:=args,res:=some (.bool true),after:=args }=some (.bool (true == true)) from w_eq_bool (w_res rfl) w_lit) rfl
def UT{l:OpenLaw}{n:Nat}{q:Program}{loose:List Str}{XP:(Str->Option Value)->Heap->Prop}{YP:World->Heap->Prop}{d:DefRec}
  (hn:l.most=some n) (hdf:d.params.defaults=[])
  (call:∀(w:World)(s₀ s₁:Shared)(mg mb:Str->Option Value)(fa:Addr)(o:Obj)(pm cd doc:Value)(a:Addr)(vs:List Value)(ns:List Int),
   Ground q loose [] XP w s₀ mg mb s₁.heap->YP w s₁.heap->
   s₁.heap.get? fa=some o->o.data=.func (docDef d.name d.params d.body d.scope pm cd doc)->s₁.heap.CodeRec cd d.name->mg d.name=some (.ref fa)->
   s₁.heap.get? a=some { cls:=.type "list",data:=.seq vs.toArray }->IntsAre vs ns->ns.length<=n->s₁.gens = #[]->
   codeAny (model l.prog w) callerA (.call (.ref fa) ⟨[.ref a],[]⟩) (λr s'=>r=.ok (.ret (.bool true))/\OldK s₁.heap s'.heap/\s'.os=s₁.os/\AllBare s'.gens) s₁):
  WalkO q loose XP YP l.row.toRowW d [] (λf vs=>PySem.call f vs):=by
 intro w s₀ s₁ mg mb G Y fa o pm cd doc dV kV ho hd hcd hD hmg hg args vals as hpre hlay hrd hwl hlo;obtain rfl:dV=.none:=Dflts.none hD hdf;obtain rfl:kV=.none:=Dflts.noKw hD;obtain⟨a,vs,ns,rfl,rfl,hobj,hints,hlen⟩:=BA hn hpre hwl;refine enter_call (Md (call w s₀ s₁ mg mb fa o pm cd doc a vs ns G Y ho (fd_plain hd) hcd hmg hobj hints hlen hg) λr s' hq=>?_);obtain⟨rfl,h2,h3,h4⟩:=hq
 exact⟨.inl ⟨.bool true,.bool true,[],rfl,λ_=>rfl,.bool true,BB l _,λ_=>⟨List.Pairwise.nil,λ_ hm=>(nomatch hm)⟩⟩,h2,h3,h4⟩
end Att
namespace L2
open PySem PySem.Spec PyProof.Rows
variable{x:Str}
theorem rW:∀{vs:List Value}{ns:List Int},IntsAre vs ns->Vals (ns.map V.int) vs
 |_,_,.nil=>.nil
 |_,_,.cons n t h=>.cons ⟨t,rfl⟩ (rW h)
def C5(H:Hp):Prop:=∀b,H b=none \/ ∃o xs,H b=some (.QX o (.lst xs))
theorem C6{P:Program}{w:World}{K:Frag}{mg mb:Str->Option Value}{CX:Xe}{k:Nat}{fa a:Addr}{fd:FuncData}{x:Str}{sp:Sp}{s₁:Shared}{vs:List Value}{ns:List Int}
  (KX:K.In s₁.heap) (hns:s₁.heap.Ns mainGlobals mg) (hb:s₁.heap.Ns builtinsNs mb) (hbb:∀x:Str,x ≠ "__name__"->mb x=bootBuiltins x) (hlim:s₁.heap.NoLimit) (hg:s₁.gens = #[])
  (ha:s₁.heap.get? a=some { cls:=.type "list",data:=.seq vs.toArray }) (hi:IntsAre vs ns) (hl:ns.length<=sizeLine) (hr:PQ k callerA)
  (F:∀base:Heap,K.In base->base.Ns mainGlobals mg->Rb P w K mg base CX k fa fd [x] sp) (hbind:∀(s:Shared)(u:Value),BindsTo s fd ⟨[u],[]⟩ [(x,u)])
  (hsp:∀H:Hp,C5 H->Rm K H a (ns.map V.int)->sp [.ref a] H (λv _=>v=.bl true) λ_ _ _=>False)
  (hCX:∀H e s',CX [] H s₁ (λ_ _ _=>False) e s'->False):
  codeAny (model P w) callerA (.call (.ref fa) ⟨[.ref a],[]⟩) (λr s'=>r=.ok (.ret (.bool true))/\OldK s₁.heap s'.heap/\s'.os=s₁.os/\AllBare s'.gens) s₁:=by
 have rv:=rW hi;have lenV:=hi.length
 -- from an abstract heap in which nothing but the script may be tracked
 have core:∀H:Hp,C5 H->Rm K H a (ns.map V.int)->RN P w H s₁.heap->(∀b,H b≠none->b=a)->(H a≠none->K.lookup a=none)->
   codeAny (model P w) callerA (.call (.ref fa) ⟨[.ref a],[]⟩) (λr s'=>r=.ok (.ret (.bool true))/\OldK s₁.heap s'.heap/\s'.os=s₁.os/\AllBare s'.gens) s₁:=by
  intro H hO hS hok hA hK;have Xa:∀{b:Addr}{o:Obj},s₁.heap.get? b=some o->H b=none->(tS s₁.heap H).get? b=some o:=λe n=>Cz e n
  have noA:∀{b:Addr}{o:Obj}{es:Array DictEntry}{ep:Nat},s₁.heap.get? b=some o->o.data=.dict es ep->H b=none:=λ{b o es ep} e d=>by
   cases q:H b with
   |none=>rfl
   |some u=>
    have e':b=a:=hA b (by rw[q];simp)
    subst e';rw[ha]at e;cases e;have d':Data.seq vs.toArray _=Data.dict es ep:=d;cases d'
  have nsK:∀{b:Addr}{m:Str->Option Value},s₁.heap.Ns b m->(tS s₁.heap H).Ns b m:=λ{b m} ⟨o,es,ep,e,d,r⟩=>⟨o,es,ep,Xa e (noA e d),d,r⟩
  have hKb:K.In (tS s₁.heap H):=λb o e=>Xa (KX b o e) (by
   cases q:H b with
   |none=>rfl
   |some u=>
    have e':b=a:=hA b (by rw[q];simp)
    subst e'
    rw[hK (by rw[q];simp)]at e;cases e)
  have hM:Mod K mg (tS s₁.heap H):=⟨hKb,nsK hns,⟨mb,nsK hb,hbb⟩,let ⟨mc,h1,h2⟩:=hlim;⟨mc,nsK h1,h2⟩⟩
  have e0:VL P w K mg (tS s₁.heap H) callerA [] s₁ H:=⟨rfl,hM,λb o e=>E6 e,Nat.le_of_eq (Bj _ _),trivial,λb hb=>absurd (show b∈([]:List Addr) from hb) (by simp),hok,.of_eq hg⟩
  refine Md ((F _ hKb (nsK hns)).run callerA [] s₁ H ⟨[.ref a],[]⟩ [.ref a] [.ref a] _ _ hr e0 (hbind s₁ (.ref a)) (.cons rfl .nil) (hsp H hO hS)) λr s' h=>?_;cases r with
  |error e=>exact(hCX H e s' h).elim
  |ok fl=>
   cases fl with
   |next=>exact False.elim h
   |brk=>exact False.elim h
   |cont=>exact False.elim h
   |ret u=>
    obtain⟨v,H',os,bare,un,hok',r',q⟩:=h;have q':v=.bl true:=q;subst q';obtain rfl:u=Value.bool true:=r';refine⟨rfl,OldK.of_keep λb o e=>?_,os,bare⟩;cases q:H b with
    |none=>exact un.keep b o e q (by intro z;exact absurd (show b∈([]:List Addr) from z) (by simp)) (by simp)
    |some u=>
     rcases hO b with z|⟨ob,xs,z⟩
     .rw[q]at z;cases z
     .have z2:=un.Ry b ob _ z;obtain⟨e1,_⟩:=hok b _ z;obtain⟨e2,_⟩:=hok' b _ z2;rw[e]at e1;cases e1;exact e2
 cases hk:K.lookup a with
 |some o=>
  -- the script is one of the module's own objects
  have e:=KX a o hk;rw[ha]at e;cases e
  refine core (λ_=>none) (λ_=>.inl rfl) (.inr ⟨_,vs.toArray,_,hk,rfl,rfl,rfl,by rw[Yu,lenV];exact hl,by simpa using rv⟩) (λb u z=>by have z':(none:Option HO)=some u:=z;cases z') (λb z=>absurd rfl z) λz=>absurd rfl z
 |none=>
  refine core (λb=>if b=a then some (.QX { cls:=.type "list",data:=.seq vs.toArray } (.lst (ns.map V.int))) else none) (λb=>?_) (.inl (.inr ⟨{ cls:=.type "list",data:=.seq vs.toArray },Y9 rfl⟩)) (λb u z=>?_) (λb z=>?_) λ_=>hk
  .by_cases hb:b=a
   .exact .inr ⟨_,_,Y9 hb⟩
   .exact .inl (Yj hb)
  .by_cases hb:b=a
   .have z':=(Y9 hb).symm.trans z;cases z';subst hb
    exact⟨ha,by rw[Yi];exact hl,vs,_,rv,ha⟩
   .have z':=(Yj hb).symm.trans z;cases z'
  .by_cases hb:b=a
   .exact hb
   .exact absurd (Yj hb) z
def FC{l:PySem.W.OpenLaw}{n k:Nat}{q:Program}{loose:List Str}{XP:(Str->Option Value)->Heap->Prop}{YP:World->Heap->Prop}{d:DefRec}{K:Params->Frag}{CX:World->Xe}{sp:World->Sp}{x:Str}
  (hn:l.most=some n) (hn2:n<=sizeLine) (hdf:d.params.defaults=[]) (hr:PQ k callerA)
  (hY:∀(w:World)(h:Heap),YP w h->(K w.params).In h)
  (F:∀(w:World)(mg:Str->Option Value)(fa:Addr)(h:Heap),(K w.params).In h->h.Ns mainGlobals mg->mg d.name=some (.ref fa)->
   ∃fd:FuncData,(∀(s:Shared)(u:Value),BindsTo s fd ⟨[u],[]⟩ [(x,u)])/\
    ∀base:Heap,(K w.params).In base->base.Ns mainGlobals mg->Rb l.prog w (K w.params) mg base (CX w) k fa fd [x] (sp w))
  (hsp:∀(w:World)(H:Hp)(a:Addr)(ns:List Int),ns.length<=n->C5 H->Rm (K w.params) H a (ns.map V.int)->sp w [.ref a] H (λv _=>v=.bl true) λ_ _ _=>False)
  (hCX:∀(w:World)(H:Hp)(s:Shared)(e:Value)(s':Shared),CX w [] H s (λ_ _ _=>False) e s'->False):
  PySem.W.WalkO q loose XP YP l.row.toRowW d [] (λf vs=>PySem.call f vs):=by
 refine Att.UT hn hdf λw s₀ s₁ mg mb fa o pm cd doc a vs ns G Y ho hd hcd hmg hobj hints hlen hg=>?_;have KX:=hY w _ Y;obtain⟨fd,hb,hF⟩:=F w mg fa _ KX G.T.g hmg;exact C6 KX G.T.g G.T.b G.T.builtins G.T.nolimit hg hobj hints (Yw hlen hn2) hr hF hb (λH hO hS=>hsp w H a ns hlen hO hS) λH e s'=>hCX w H s₁ e s'
def inClass(s:Stmt)(j:Nat):Stmt:=match s with
 |.ClassDef _ _ _ body _ _ _ _ _ _ _=>body.getD j (.Pass ⟨0,0,0,0⟩)
 |_=>.Pass ⟨0,0,0,0⟩
def Ri(s:Stmt):Arguments:=match s with
 |.FunctionDef _ a _ _ _ _ _ _ _ _=>a
 |_=>{ posonlyargs:=[],args:=[],vararg:=none,kwonlyargs:=[],kw_defaults:=[],kwarg:=none,defaults:=[] }
def QL(s:Stmt):List Stmt:=match s with
 |.FunctionDef _ _ b _ _ _ _ _ _ _=>b
 |_=>[]
def Pr(s:Stmt):Scope:=match s with
 |.FunctionDef _ _ _ _ _ _ sc _ _ _=>sc
 |_=>{ kind:=.function,names:=[],isGenerator:=false,isCoroutine:=false }
abbrev E0:XK:=λ_ _ _=>False
structure QJ(K:Frag)(x qual:Str)(st:Stmt)(f:Addr)(fd:FuncData):Prop where
 ex:∃(oc:Value)(od:Option Addr)(kV doc pm:Value)(an:Option Addr)(cdv ct:Value)(osl:Array (Option Value)),
  fd=fnOf x qual (Ri st) (QL st) (Pr st) .none kV doc pm an cdv ct/\K.lookup f=some ⟨oc,od,.func fd,osl⟩/\codeIn K cdv qual=true
 kp:keepIn K (.ref f)=true
section
variable{P:Program}{w:World}{K:Frag}{mg:Str->Option Value}{base:Heap}
def QJ.binds{qual:Str}{st:Stmt}{f:Addr}{fd:FuncData}{ps:List Str}(F:QJ K x qual st f fd)
  (h:∀(kV doc pm:Value)(an:Option Addr)(cdv ct:Value)(us:List Value),us.length=ps.length->bindArgs (fnOf x qual (Ri st) (QL st) (Pr st) .none kV doc pm an cdv ct) ⟨us,[]⟩=pure (ps.zip us)):Binds K fd ps []:=by
 obtain⟨oc,od,kV,doc,pm,an,cdv,ct,osl,rfl,lk,hcd⟩:=F.ex;exact .all (h kV doc pm an cdv ct)
def yy{qual:Str}{st:Stmt}{f:Addr}{oc:Value}{od an:Option Addr}{osl:Array (Option Value)}{kV doc pm cdv ct:Value}(l:K.lookup f=some ⟨oc,od,.func (fnOf x qual (Ri st) (QL st) (Pr st) .none kV doc pm an cdv ct),osl⟩)
  (c:codeIn K cdv qual=true) (k:keepIn K (.ref f)=true):QJ K x qual st f (fnOf x qual (Ri st) (QL st) (Pr st) .none kV doc pm an cdv ct):=⟨⟨oc,od,kV,doc,pm,an,cdv,ct,osl,rfl,l,c⟩,k⟩
end
section
variable{X:Cx}
def pv(i:Nat){pos:Pos}(hN:X.N[i]?=some x:=by rfl)(hv:Vis X.env.scope x)(hd:(x == ("__debug__":Str))=false:=by decide)
  (hcd:(x == ("__classdict__":Str))=false:=by decide):PE X (.Name x pos) (JS i):=Hu hN hv hd hcd
end
def rg{A B:Prop}(h:B):if false=true then A else B:=by rw[Yj Ym];exact h
def rh{A B:Prop}(h:A):if true=true then A else B:=by rw[Y9 rfl];exact h
section
variable{X:Cx}
def rX:bT X (.builtin "len") (λxs H Q=>∃a kvs,xs=[V.ref a]/\H a=some (.dK kvs)/\Q (.int kvs.length) H):=by intro pins s σ H xs us Q I r h;obtain⟨a,kvs,rfl,ha,q⟩:=h;obtain⟨u,rfl,ru⟩:=Wi r;cases ru;exact Kt I (.inl ha) λt s' I'=>⟨.int kvs.length,H,I',⟨t,rfl⟩,q⟩
end
end L2
end
set_option autoImplicit false
namespace PD
open PySem
inductive D where
 |non|bl (b:Bool)|int (i:Int)|str (x:Str)
 |tup (xs:List D)|lst (xs:List D)|fz (xs:List D)|PN (kvs:List (Sum Int Str×D))|ref (n:Nat)|ty (n:String)
 /-- a caught exception of an own class;an own class -/
 |exc (c:Str) (f:Option Int)|cls (c:Str)
 deriving Inhabited
inductive SO where
 |lst (xs:List D)|PN (kvs:List (Sum Int Str×D))|ins (c:Str) (fs:List (Str×D))
 /-- a dict that has been walked: read,changed no more -/
 |P0 (kvs:List (Sum Int Str×D))
 /-- a list that has been walked: read,changed no more -/
 |RP (xs:List D)
 deriving Inhabited
abbrev Pz:=List SO
set_option genInjectivity false in
structure XD where
 cls:Str
 arg:D
 deriving Inhabited
def XD.fld(x:XD):Option Int:=match x.arg with | .int i=>some i|_=>none
inductive R(A:Type) where
 |ok (a:A) (S:Pz)|err (x:XD) (S:Pz)|bad
def R.bind{A B:Type}(r:R A)(f:A->Pz->R B):R B:=match r with
 |.ok a S=>f a S | .err x S=>.err x S | .bad=>.bad
def R.Pq{A B:Type}(a:A)(S:Pz)(f:A->Pz->R B):(R.ok a S).bind f=f a S:=rfl
def R.Xu{A B:Type}(x:XD)(S:Pz)(f:A->Pz->R B):(R.err (A:=A) x S).bind f=.err x S:=rfl
def R.Xv{A B:Type}(f:A->Pz->R B):(R.bad (A:=A)).bind f=.bad:=rfl
def R.of{A:Type}(S:Pz):Option A->R A
 |some a=>.ok a S|none=>.bad
def R.aaC{A:Type}(S:Pz)(a:A):R.of S (some a)=.ok a S:=rfl
abbrev Rp:=List (Option D)
abbrev EM:=Rp->Pz->R D
abbrev TM:=Rp->Pz->R Bool
abbrev AM:=Rp->Pz->R (List D)
set_option genInjectivity false in
inductive F where
 |nx (r:Rp)|rt (d:D)|bk (r:Rp)|ct (r:Rp)
abbrev SM:=Rp->Pz->R F
abbrev FM:=List D->Pz->R D
def af(i:Nat):EM:=λr S=>match r[i]? with
 |some (some d)=>.ok d S
 |_=>.bad
def eC(d:D):EM:=λ_ S=>.ok d S
def X7(f:Pz->D->Option D)(a:EM):EM:=λr S=>(a r S).bind λx S1=>R.of S1 (f S1 x)
def Px(f:Pz->D->D->Option D)(a b:EM):EM:=λr S=>(a r S).bind λx S1=>(b r S1).bind λy S2=>R.of S2 (f S2 x y)
def ig(f g:Pz->D->D->Option D)(a b c:EM):EM:=λr S=>(a r S).bind λx S1=>(b r S1).bind λy S2=>match f S2 x y with
 |some (.bl true)=>(c r S2).bind λz S3=>R.of S3 (g S3 y z)
 |some (.bl false)=>.ok (.bl false) S2
 |_=>.bad
def jK(a b:EM):EM:=λr S=>(a r S).bind λx S1=>match x with
 |.bl true=>b r S1
 |.bl false=>.ok (.bl false) S1
 |_=>.bad
def eOr(a b:EM):EM:=λr S=>(a r S).bind λx S1=>match x with
 |.bl true=>.ok (.bl true) S1
 |.bl false=>b r S1
 |_=>.bad
def Iv(a:EM):EM:=λr S=>(a r S).bind λx S1=>match x with
 |.bl b=>.ok (.bl (!b)) S1
 |_=>.bad
def VM(t:TM)(a b:EM):EM:=λr S=>(t r S).bind λc S1=>if c=true then a r S1 else b r S1
def ak:AM:=λ_ S=>.ok [] S
def ag(a:EM)(t:AM):AM:=λr S=>(a r S).bind λx S1=>(t r S1).bind λxs S2=>.ok (x::xs) S2
def gU(t:AM):EM:=λr S=>(t r S).bind λxs S1=>if xs.length<=sizeLine then .ok (.tup xs) S1 else .bad
def ow(t:AM):EM:=λr S=>(t r S).bind λxs S1=>if xs.length<=sizeLine then .ok (.lst xs) S1 else .bad
def eNew(t:AM):EM:=λr S=>(t r S).bind λxs S1=>if xs.length<=sizeLine then .ok (.ref S1.length) (S1++[.lst xs]) else .bad
def az(f:FM)(t:AM):EM:=λr S=>(t r S).bind λxs S1=>f xs S1
def eB(f:Pz->List D->Option D)(t:AM):EM:=λr S=>(t r S).bind λxs S1=>R.of S1 (f S1 xs)
def eBN(f:Pz->List D->Option SO)(t:AM):EM:=λr S=>(t r S).bind λxs S1=>match f S1 xs with
 |some o=>.ok (.ref S1.length) (S1++[o])
 |none=>.bad
def tV(a:EM):TM:=λr S=>(a r S).bind λx S1=>match x with
 |.bl b=>.ok b S1
 |_=>.bad
def i5(a b:TM):TM:=λr S=>(a r S).bind λc S1=>if c=true then b r S1 else .ok false S1
def T8(a b:TM):TM:=λr S=>(a r S).bind λc S1=>if c=true then .ok true S1 else b r S1
def fM(a:TM):TM:=λr S=>(a r S).bind λc S1=>.ok (!c) S1
def R.nx{A:Type}:R A->R A
 |.err _ _=>.bad
 |r=>r
def eNx(a:EM):EM:=λr S=>(a r S).nx
def tNx(a:TM):TM:=λr S=>(a r S).nx
def aNx(a:AM):AM:=λr S=>(a r S).nx
def bc:SM:=λr S=>.ok (.nx r) S
def mM:SM:=λ_ _=>.bad
def aA(a b:SM):SM:=λr S=>(a r S).bind λf S1=>match f with
 |.nx r1=>b r1 S1
 |g=>.ok g S1
def aT(a:EM):SM:=λr S=>(a r S).bind λx S1=>.ok (.rt x) S1
def LY:SM:=λ_ S=>.ok (.rt .non) S
def bN(a:EM):SM:=λr S=>(a r S).bind λ_ S1=>.ok (.nx r) S1
def QQ(t:TM)(a b:SM):SM:=λr S=>(t r S).bind λc S1=>if c=true then a r S1 else b r S1
def LG:SM:=λr S=>.ok (.bk r) S
def LZ:SM:=λr S=>.ok (.ct r) S
set_option genInjectivity false in
inductive G where
 |nm (i:Nat)|tp (gs:List G)
mutual
def G.put:G->D->Rp->Option Rp
 |.nm i,d,r=>some (r.set i (some d))
 |.tp gs,d,r=>match d with
  |.tup xs=>G.Ru gs xs r
  |_=>none
def G.Ru:List G->List D->Rp->Option Rp
 |[],[],r=>some r
 |g::gs,x::xs,r=>match G.put g x r with
  |some r1=>G.Ru gs xs r1
  |none=>none
 |_,_,_=>none
end
def aN(i:Nat)(a:EM):SM:=λr S=>(a r S).bind λx S1=>.ok (.nx (r.set i (some x))) S1
def BC(g:G)(a:EM):SM:=λr S=>(a r S).bind λx S1=>match g.put x r with
 |some r1=>.ok (.nx r1) S1
 |none=>.bad
def L0(i j:Nat)(t:AM):SM:=λr S=>(t r S).bind λxs S1=>match xs with
 |[x,y]=>.ok (.nx ((r.set i (some x)).set j (some y))) S1
 |_=>.bad
def lL(f:Pz->D->D->D->Option Pz)(e o i:EM):SM:=λr S=>(e r S).bind λv S1=>(o r S1).bind λx S2=>(i r S2).bind λy S3=>match f S3 x y v with
 |some S4=>.ok (.nx r) S4
 |none=>.bad
def L1(f:Pz->D->List D->Option Pz)(o:EM)(t:AM):SM:=λr S=>(o r S).bind λx S1=>(t r S1).bind λys S2=>match f S2 x ys with
 |some S3=>.ok (.nx r) S3
 |none=>.bad
def sNx(a:SM):SM:=λr S=>(a r S).nx
def LH(c:Str)(t:AM):SM:=λr S=>(t r S).bind λxs S1=>if xs.length<=sizeLine then .err ⟨c,.tup xs⟩ S1 else .bad
def L3(cs:List Str)(i n:Nat)(b h:SM):SM:=λr S=>match b r S with
 |.err x S1=>if cs.contains x.cls=true then (h ((List.replicate n none).set i (some (.exc x.cls x.fld))) S1).nx.bind λf S2=>match f with
   |.rt d=>.ok (.rt d) S2
   |_=>.bad
  else .bad
 |.ok f S1=>.ok f S1
 |.bad=>.bad
def forL(g:G)(b:SM):List D->SM
 |[]=>λr S=>.ok (.nx r) S
 |x::xs=>λr S=>match g.put x r with
  |none=>.bad
  |some r1=>(b r1 S).bind λf S1=>match f with
   |.nx r2=>forL g b xs r2 S1
   |.ct r2=>forL g b xs r2 S1
   |.bk r2=>.ok (.nx r2) S1
   |.rt d=>.ok (.rt d) S1
def dU(it:AM)(g:G)(b:SM):SM:=λr S=>(it r S).bind λxs S1=>forL g b xs r S1
def cH(t:TM)(b:SM):Nat->SM
 |0=>λ_ _=>.bad
 |n+1=>λr S=>(t r S).bind λc S1=>if c=true then (b r S1).bind λf S2=>match f with
   |.nx r2=>cH t b n r2 S2
   |.ct r2=>cH t b n r2 S2
   |.bk r2=>.ok (.nx r2) S2
   |.rt d=>.ok (.rt d) S2
  else .ok (.nx r) S1
def eZ(k:Nat)(PB:List Nat)(r:Rp):Rp:=List.replicate k none++PB.map λi=>(r[i]?).join
def cI(g:G)(t:TM)(e:EM):List D->Rp->Pz->R (List D)
 |[],_,S=>.ok [] S
 |x::xs,r,S=>match g.put x r with
  |none=>.bad
  |some r1=>(t r1 S).bind λc S1=>if c=true then (e r1 S1).bind λy S2=>(cI g t e xs r1 S2).bind λys S3=>.ok (y::ys) S3
    else cI g t e xs r1 S1
def br(it:AM)(k:Nat)(PB:List Nat)(g:G)(t:TM)(e:EM):EM:=λr S=>(it r S).bind λxs S1=>
 if xs.length<=sizeLine then (cI g t e xs (eZ k PB r) S1).bind λys S2=>.ok (.lst ys) S2 else .bad
def bY:TM:=λ_ S=>.ok true S
def QB(n:Nat)(b:SM):FM:=λds S=>(b (ds.map some++List.replicate (n-ds.length) none) S).bind λf S1=>match f with
 |.rt d=>.ok d S1
 |.nx _=>.ok .non S1
 |_=>.bad
end PD
namespace PD
open PySem PySem.Spec PyProof.Rows L2
variable{H H' H2:Hp}{a p:Addr}{o:HO}{r:Rp}{X:Cx}{e tg:Expr}{t:TT}{x:Str}{i:Int}{T:String}{op:CmpOp}{mt:TM}{es:List Expr}{ms:AM}{S:Pz}{qb:Bool}{N:List Str}{env:Env}{scope:Scope}{PB:List Nat}{ma:EM}{pins:List (Addr×Obj)}{s:Shared}
set_option genInjectivity false in
structure Wd where
 st:List Addr
 hid:List Addr
variable{w w' w2:Wd}
def Wd.no(w:Wd)(a:Addr):Prop:=a∉w.st/\a∉w.hid
def Wd.add(w:Wd)(p:Addr):Wd:=⟨w.st++[p],w.hid⟩
def Wd.hide(w:Wd)(p:Addr):Wd:=⟨w.st,p::w.hid⟩
def At(w:Wd)(H:Hp)(a:Addr)(o:HO):Prop:=H a=some o/\w.no a
def uc(K:Frag)(a:Addr)(vs:List V):Prop:=
 ∃(o:Obj)(its:Array Value)(n:Nat),K.lookup a=some o/\o.cls=.type "tuple"/\o.data=.seq its n/\its.size<=sizeLine/\Vals vs its.toList
def LI(K:Frag)(a:Addr)(vs:List V):Prop:=
 ∃(o:Obj)(its:Array Value)(n:Nat),K.lookup a=some o/\o.cls=.type "list"/\o.dict=none/\o.data=.seq its n/\its.size<=sizeLine/\Vals vs its.toList
def yz(K:Frag)(w:Wd)(H:Hp)(a:Addr)(vs:List V):Prop:=(∃o,At w H a (.QX o (.lst vs)))\/LI K a vs
def yz.sq{K:Frag}{vs:List V}(h:yz K w H a vs):Rm K H a vs:=h.elim (λ⟨o,z⟩=>.inl (.inr ⟨o,z.1⟩)) .inr
def ExcAt(a:Addr)(C:Value):Heap->Prop:=λh=>∃o,h.get? a=some o/\o.cls=C
def TabOf(dx:Addr)(od:Obj)(j:Int):Prop:=∀h:Heap,h.get? dx=some od->∃u m,h.Ns dx m/\m "at" = some u/\RelV (.int j) u
def v9(w:Wd)(H:Hp)(f:Option Int)(da:Option Addr):Prop:=∀j,f=some j->∃dx od,da=some dx/\At w H dx (.QX od (.ext (λh=>∃o,h.get? dx=some o)))/\TabOf dx od j
def v9.imp{f:Option Int}{da:Option Addr}(h:v9 w H f da)(k:∀a o,At w H a o->At w' H' a o):v9 w' H' f da:=λj e=>let ⟨dx,od,a,b,c⟩:=h j e;⟨dx,od,a,k _ _ b,c⟩
mutual
def RD(K:Frag)(w:Wd)(H:Hp):D->V->Prop
 |.non,v=>v=.non
 |.bl b,v=>v=.bl b
 |.int i,v=>v=.int i
 |.str x,v=>v=.str x
 |.tup ds,v=>∃a vs,v=.ref a/\(At w H a (.tup vs)\/uc K a vs)/\PJ K w H ds vs
 |.lst ds,v=>∃a vs,v=.ref a/\At w H a (.lst vs)/\PJ K w H ds vs
 |.fz ds,v=>∃a vs,v=.ref a/\yz K w H a vs/\PJ K w H ds vs
 |.PN kvs,v=>∃a us,v=.ref a/\At w H a (.dK us)/\QC K w H kvs us
 |.ref n,v=>∃a,v=.ref a/\w.st[n]?=some a
 |.ty n,v=>v=.ty n
 |.exc c f,v=>∃a C o,v=.ref a/\nsIn K mainGlobals c=some (some C)/\At w H a (.QX o (.ext (ExcAt a C)))/\ZO o/\v9 w H f o.dict
 |.cls c,v=>∃C,nsIn K mainGlobals c=some (some (.ref C))/\v=.ref C
def PJ(K:Frag)(w:Wd)(H:Hp):List D->List V->Prop
 |[],vs=>vs=[]
 |d::ds,vs=>∃v r,vs=v::r/\RD K w H d v/\PJ K w H ds r
def QC(K:Frag)(w:Wd)(H:Hp):List (Sum Int Str×D)->List (Key×V)->Prop
 |[],us=>us=[]
 |(k,d)::ds,us=>∃v r,us=(k,v)::r/\RD K w H d v/\QC K w H ds r
end
structure Ext(w:Wd)(H:Hp)(w':Wd)(H':Hp):Prop where
 keep:∀a o,H a=some o->a∉w.st->H' a=some o
 sub:∃l,w'.st=w.st++l/\∀a∈l,H a=none
 hid:∀a,a∈w.hid->a∈w'.hid
 hnew:∀a,a∈w'.hid->a∈w.hid\/H a=none
 QX:∀a o u,H a=some (.QX o u)->H' a=some (.QX o u)
def Ext.refl(w:Wd)(H:Hp):Ext w H w H:=⟨λ_ _ h _=>h,⟨[],by simp,λ_ h=>nomatch h⟩,λ_ h=>h,λ_ h=>.inl h,λ_ _ _ h=>h⟩
def Ext.out(x:Ext w H w' H')(h:H a=some o)(n:a∉w.st):a∉w'.st:=by
 obtain⟨l,e,f⟩:=x.sub;rw[e];intro z;rcases Yx.mp z with z|z
 .exact n z
 .rw[f a z]at h;cases h
theorem Ext.at(x:Ext w H w' H')(h:At w H a o):At w' H' a o:=⟨x.keep a o h.1 h.2.1,x.out h.1 h.2.1,λz=>(x.hnew a z).elim h.2.2 λe=>by rw[h.1]at e;cases e⟩
def Ext.get(x:Ext w H w' H'){n:Nat}(h:w.st[n]?=some a):w'.st[n]?=some a:=by obtain⟨l,e,f⟩:=x.sub;rw[e,Z1 (Yc.mp h).1];exact h
def Ext.trans{w1:Wd}{H1:Hp}(x:Ext w H w1 H1)(y:Ext w1 H1 w2 H2)(fr:∀a∈w.st,∃o,H a=some o/\∃o',H1 a=some o'):Ext w H w2 H2:=by
 have hno:∀a,H1 a=none->H a=none:=λa z=>by
  cases e:H a with
  |none=>rfl
  |some o=>
   by_cases hw:a∈w.st
   .obtain⟨_,_,o',e'⟩:=fr a hw;rw[z]at e';cases e'
   .have:=x.keep a o e hw;rw[z]at this;cases this
 refine⟨λa o h n=>y.keep a o (x.keep a o h n) (x.out h n),?_,λa h=>y.hid a (x.hid a h),λa h=>(y.hnew a h).elim (x.hnew a) λz=>.inr (hno a z),λa o u h=>y.QX a o u (x.QX a o u h)⟩;obtain⟨l,e1,f⟩:=x.sub;obtain⟨l2,e2,f2⟩:=y.sub
 refine⟨l++l2,by rw[e2,e1];simp,λa ha=>?_⟩
 rcases Yx.mp ha with z|z
 .exact f a z
 .exact hno a (f2 a z)
section
variable{K:Frag}{w w':Wd}{H H':Hp}
mutual
theorem RD.ext(x:Ext w H w' H'):∀(d:D)(v:V),RD K w H d v->RD K w' H' d v
 |.non,_,h=>h
 |.bl _,_,h=>h
 |.int _,_,h=>h
 |.str _,_,h=>h
 |.tup ds,v,h=>by unfold RD at h ⊢;obtain⟨a,vs,e,p,r⟩:=h;exact⟨a,vs,e,p.imp x.at id,PJ.ext x ds vs r⟩
 |.lst ds,v,h=>by unfold RD at h ⊢;obtain⟨a,vs,e,p,r⟩:=h;exact⟨a,vs,e,x.at p,PJ.ext x ds vs r⟩
 |.fz ds,v,h=>by unfold RD at h ⊢;obtain⟨a,vs,e,p,r⟩:=h;exact⟨a,vs,e,p.imp (λ⟨o,z⟩=>⟨o,x.at z⟩) id,PJ.ext x ds vs r⟩
 |.PN kvs,v,h=>by unfold RD at h ⊢;obtain⟨a,us,e,p,r⟩:=h;exact⟨a,us,e,x.at p,QC.ext x kvs us r⟩
 |.ref n,v,h=>by unfold RD at h ⊢;obtain⟨a,e,p⟩:=h;exact⟨a,e,x.get p⟩
 |.ty _,_,h=>h
 |.exc c f,v,h=>by unfold RD at h ⊢;obtain⟨a,C,o,e,q,p,z,y⟩:=h;exact⟨a,C,o,e,q,x.at p,z,y.imp λ_ _ p=>x.at p⟩
 |.cls _,_,h=>h
theorem PJ.ext(x:Ext w H w' H'):∀(ds:List D)(vs:List V),PJ K w H ds vs->PJ K w' H' ds vs
 |[],_,h=>h
 |d::ds,vs,h=>by unfold PJ at h ⊢;obtain⟨v,r,e,p,q⟩:=h;exact⟨v,r,e,RD.ext x d v p,PJ.ext x ds r q⟩
theorem QC.ext(x:Ext w H w' H'):∀(ds:List (Sum Int Str×D))(vs:List (Key×V)),QC K w H ds vs->QC K w' H' ds vs
 |[],_,h=>h
 |(k,d)::ds,vs,h=>by unfold QC at h ⊢;obtain⟨v,r,e,p,q⟩:=h;exact⟨v,r,e,RD.ext x d v p,QC.ext x ds r q⟩
end
end
def T9(K:Frag)(w:Wd)(H:Hp)(fs:List (Str×D))(us:List (Str×V)):Prop:=fs.map (·.1)=us.map (·.1)/\PJ K w H (fs.map (·.2)) (us.map (·.2))
def RO(K:Frag)(w:Wd)(H:Hp)(a:Addr):SO->Prop
 |.lst ds=>∃vs,H a=some (.lst vs)/\PJ K w H ds vs
 |.PN kvs=>∃us,H a=some (.dK us)/\QC K w H kvs us
 |.P0 kvs=>∃o us,H a=some (.QX o (.dK us))/\QC K w H kvs us
 |.ins c fs=>∃C dx us,nsIn K mainGlobals c=some (some (.ref C))/\H a=some (.ins C dx us)/\T9 K w H fs us
 |.RP ds=>∃o vs,H a=some (.QX o (.lst vs))/\PJ K w H ds vs
structure RS(K:Frag)(w:Wd)(H:Hp)(S:Pz):Prop where
 nd:w.st.Nodup
 len:w.st.length=S.length
 obj:∀(n:Nat)(o:SO),S[n]?=some o->∃a:Addr,w.st[n]?=some a/\RO K w H a o
 hid:∀a∈w.hid,a∉w.st/\∃o,H a=some o
section
variable{K:Frag}{w w':Wd}{H H':Hp}{S:Pz}
def RS.there(s:RS K w H S)(ha:a∈w.st):∃o,H a=some o:=by
 obtain⟨n,hn⟩:=List.mem_iff_getElem?.mp ha
 have hl:n<S.length:=by rw[<- s.len];exact(Yc.mp hn).1
 obtain⟨b,hb,r⟩:=s.obj n S[n] (Yk hl);rw[hn]at hb;cases hb;revert r;cases S[n] with
 |lst ds=>rintro⟨vs,e,_⟩;exact⟨_,e⟩
 |PN kvs=>rintro⟨vs,e,_⟩;exact⟨_,e⟩
 |P0 kvs=>rintro⟨o,vs,e,_⟩;exact⟨_,e⟩
 |ins c fs=>rintro⟨C,dx,us,_,e,_⟩;exact⟨_,e⟩
 |RP ds=>rintro⟨o,vs,e,_⟩;exact⟨_,e⟩
def RS.VN(s:RS K w H S)(h:H a=none):a∉w.st:=λz=>by obtain⟨o,e⟩:=s.there z;rw[h]at e;cases e
def RS.fresh(s:RS K w H S)(h:H a=none):w.no a:=⟨s.VN h,λz=>by
 obtain⟨_,o,e⟩:=s.hid a z
 rw[h]at e;cases e⟩
def Ext.trans'{w1:Wd}{H1:Hp}{S1:Pz}(x:Ext w H w1 H1)(y:Ext w1 H1 w2 H2)(s:RS K w H S)(s1:RS K w1 H1 S1):Ext w H w2 H2:=
 x.trans y λa ha=>by
  obtain⟨o,e⟩:=s.there ha;obtain⟨l,el,_⟩:=x.sub
  obtain⟨o',e'⟩:=s1.there (a:=a) (by rw[el];exact Zz _ ha)
  exact⟨o,e,o',e'⟩
def Ext.new(hp:H p=none):Ext w H w (upd H p o):=
 ⟨λa u e _=>by rw[aQ (aW e hp)];exact e,⟨[],by simp,λ_ z=>nomatch z⟩,λ_ h=>h,λ_ h=>.inl h,λa o u e=>by rw[aQ (aW e hp)];exact e⟩
theorem RO.ext(x:Ext w H w' H'){o:SO}(hk:∀u,H a=some u->H' a=some u)(r:RO K w H a o):RO K w' H' a o:=by
 cases o with
 |lst ds=>obtain⟨vs,e,q⟩:=r;exact⟨vs,hk _ e,PJ.ext x _ _ q⟩
 |PN kvs=>obtain⟨vs,e,q⟩:=r;exact⟨vs,hk _ e,QC.ext x _ _ q⟩
 |P0 kvs=>obtain⟨o,vs,e,q⟩:=r;exact⟨o,vs,hk _ e,QC.ext x _ _ q⟩
 |ins c fs=>obtain⟨C,dx,us,n,e,q1,q2⟩:=r;exact⟨C,dx,us,n,hk _ e,q1,PJ.ext x _ _ q2⟩
 |RP ds=>obtain⟨o,vs,e,q⟩:=r;exact⟨o,vs,hk _ e,PJ.ext x _ _ q⟩
theorem RS.new(s:RS K w H S)(hp:H p=none):RS K w (upd H p o) S:=
  ⟨s.nd,s.len,λn so e=>by
    obtain⟨a,ha,r⟩:=s.obj n so e
    exact⟨a,ha,r.ext (Ext.new hp) λu q=>by rw[aQ (aW q hp)];exact q⟩,
   λa ha=>by
    obtain⟨h1,u,e⟩:=s.hid a ha
    exact⟨h1,u,by rw[aQ (aW e hp)];exact e⟩⟩
def Ext.alloc(hp:H p=none):Ext w H (w.add p) (upd H p o):=
 ⟨λa u e _=>by rw[aQ (aW e hp)];exact e,⟨[p],rfl,λa ha=>by
  have:a=p:=by simpa using ha
  subst this;exact hp⟩,λ_ h=>h,λ_ h=>.inl h,λa o u e=>by rw[aQ (aW e hp)];exact e⟩
theorem RS.alloc{so:SO}(s:RS K w H S)(hp:H p=none)(r:RO K (w.add p) (upd H p o) p so):RS K (w.add p) (upd H p o) (S++[so]):=by
 have np:=s.VN hp
 refine⟨?_,by simp[Wd.add,s.len],λn so' e=>?_,λa ha=>?_⟩
 .show(w.st++[p]).Nodup;rw[List.nodup_append]
  exact⟨s.nd,by simp,λa ha b hb=>by
   have:b=p:=by simpa using hb
   subst this;rintro rfl
   exact np ha⟩
 .by_cases hn:n<S.length
  .rw[Z1 hn]at e;obtain⟨a,ha,q⟩:=s.obj n so' e
   exact⟨a,(Ext.alloc (o:=o) hp).get ha,q.ext (Ext.alloc hp) λu z=>by rw[aQ (aW z hp)];exact z⟩
  .have hn':n=S.length:=by have:=(Yc.mp e).1;simp at this;omega
   subst hn';simp at e;subst e
   exact⟨p,by show(w.st++[p])[S.length]?=some p;rw[<- s.len];simp,r⟩
 .obtain⟨h1,u,e⟩:=s.hid a ha
  refine⟨?_,u,by rw[aQ (aW e hp)];exact e⟩
  show a∉w.st++[p];intro z;rcases Yx.mp z with z|z
  .exact h1 z
  .have:a=p:=by simpa using z
   subst this;rw[hp]at e;cases e
def Ext.mut{u0:HO}(hp:p∈w.st)(h0:H p=some u0)(hu:autoParam (∀o u,u0≠.QX o u) zz8._auto_1):Ext w H w (upd H p o):=
 ⟨λa u e n=>by rw[aQ (λz:a=p=>n (z▸hp))];exact e,⟨[],by simp,λ_ z=>nomatch z⟩,λ_ h=>h,λ_ h=>.inl h,λa o u e=>by rw[aQ (λz:a=p=>by rw[z,h0]at e;exact hu o u (Z8 e))];exact e⟩
theorem RS.mut{so:SO}{n:Nat}(s:RS K w H S)(hp:w.st[n]?=some p){u0:HO}(h0:H p=some u0)(r:RO K w (upd H p o) p so)(hu:autoParam (∀o u,u0≠.QX o u) zz8._auto_1):RS K w (upd H p o) (S.set n so):=by
 have hm:p∈w.st:=Zr hp
 refine⟨s.nd,by simp[s.len],λm so' e=>?_,λa ha=>?_⟩
 .by_cases hn:m=n
  .subst hn
   have hl:m<S.length:=by rw[<- s.len];exact(Yc.mp hp).1
   rw[Z7 hl]at e;cases e;exact⟨p,hp,r⟩
  .rw[Z3 (Ne.symm hn)]at e;obtain⟨a,ha,q⟩:=s.obj m so' e;refine⟨a,ha,q.ext (Ext.mut hm h0 hu) λu z=>?_⟩
   have:a≠p:=λz=>by subst z;obtain⟨h1,e1⟩:=Yc.mp ha;obtain⟨h2,e2⟩:=Yc.mp hp;exact hn ((List.getElem_inj s.nd).mp (e1.trans e2.symm))
   rw[aQ this];exact z
 .obtain⟨h1,u,e⟩:=s.hid a ha
  exact⟨h1,u,by rw[aQ (λz:a=p=>h1 (z▸hm))];exact e⟩
end
def Rq(K:Frag)(w:Wd)(H:Hp)(r:Rp)(s:L2.St):Prop:=
 s.length=r.length/\∀(i:Nat)(d:D),r[i]?=some (some d)->∃v,s[i]?=some (some v)/\RD K w H d v
theorem Rq.ext{K:Frag}{s:L2.St}(h:Rq K w H r s)(x:Ext w H w' H'):Rq K w' H' r s:=
 ⟨h.1,λi d e=>let ⟨v,e1,q⟩:=h.2 i d e;⟨v,e1,RD.ext x d v q⟩⟩
theorem Rq.set{K:Frag}{s:L2.St}(h:Rq K w H r s)(i:Nat){d:D}{v:V}(q:RD K w H d v):Rq K w H (r.set i (some d)) (s.set i (some v)):=by
 refine⟨by simp[h.1],λj d' e=>?_⟩
 by_cases hj:j=i
 .subst hj
  have hl:j<r.length:=by have:=(Yc.mp e).1;simpa using this
  rw[Z7 hl]at e;cases e
  exact⟨v,Z7 (by rw[h.1];exact hl),q⟩
 .rw[Z3 (Ne.symm hj)]at e;obtain⟨v',e',q'⟩:=h.2 j d' e
  exact⟨v',by rw[Z3 (Ne.symm hj)];exact e',q'⟩
section
variable{K:Frag}{w:Wd}{H:Hp}
def PJ.nil:PJ K w H [] []:=by unfold PJ;rfl
def PJ.cons{d:D}{v:V}{ds:List D}{vs:List V}(r:RD K w H d v)(q:PJ K w H ds vs):PJ K w H (d::ds) (v::vs):=by unfold PJ;exact⟨v,vs,rfl,r,q⟩
def PJ.nil_inv{vs:List V}(h:PJ K w H [] vs):vs=[]:=by unfold PJ at h;exact h
def PJ.cons_inv{d:D}{ds:List D}{vs:List V}(h:PJ K w H (d::ds) vs):∃v r,vs=v::r/\RD K w H d v/\PJ K w H ds r:=by unfold PJ at h;exact h
def PJ.PK{d:D}{vs:List V}(h:PJ K w H [d] vs):∃v,vs=[v]/\RD K w H d v:=by obtain⟨v,r,rfl,h1,h2⟩:=h.cons_inv;rw[h2.nil_inv];exact⟨v,rfl,h1⟩
def PJ.RW{d e:D}{vs:List V}(h:PJ K w H [d,e] vs):∃v u,vs=[v,u]/\RD K w H d v/\RD K w H e u:=by obtain⟨v,r,rfl,h1,h2⟩:=h.cons_inv;obtain⟨u,rfl,h3⟩:=h2.PK;exact⟨v,u,rfl,h1,h3⟩
theorem PJ.length:∀{ds:List D}{vs:List V},PJ K w H ds vs->vs.length=ds.length
 |[],_,h=>by rw[h.nil_inv];rfl
 |_::_,_,h=>by obtain⟨v,r,rfl,_,q⟩:=h.cons_inv;simp[q.length]
theorem PJ.get:∀{ds:List D}{vs:List V}{i:Nat}{d:D},PJ K w H ds vs->ds[i]?=some d->∃v,vs[i]?=some v/\RD K w H d v
 |[],_,_,_,_,e=>by simp at e
 |_::_,_,0,_,h,e=>by obtain⟨v,r,rfl,p,_⟩:=h.cons_inv;simp at e;subst e;exact⟨v,rfl,p⟩
 |_::ds,_,i+1,d,h,e=>by
  obtain⟨v,r,rfl,_,q⟩:=h.cons_inv
  obtain⟨u,e1,q1⟩:=q.get (i:=i) (d:=d) (by simpa using e)
  exact⟨u,by simpa using e1,q1⟩
theorem PJ.append:∀{ds es:List D}{vs us:List V},PJ K w H ds vs->PJ K w H es us->PJ K w H (ds++es) (vs++us)
 |[],_,_,_,h,q=>by rw[h.nil_inv];exact q
 |_::_,_,_,_,h,q=>by obtain⟨v,r,rfl,p,t⟩:=h.cons_inv;exact .cons p (t.append q)
theorem PJ.take:∀{ds:List D}{vs:List V}(n:Nat),PJ K w H ds vs->PJ K w H (ds.take n) (vs.take n)
 |_,_,0,_=>by simp;exact .nil
 |[],_,_+1,h=>by rw[h.nil_inv];simp;exact .nil
 |_::_,_,n+1,h=>by obtain⟨v,r,rfl,p,t⟩:=h.cons_inv;exact .cons p (t.take n)
theorem PJ.drop:∀{ds:List D}{vs:List V}(n:Nat),PJ K w H ds vs->PJ K w H (ds.drop n) (vs.drop n)
 |_,_,0,h=>h
 |[],_,_+1,h=>by rw[h.nil_inv];simp;exact .nil
 |_::_,_,n+1,h=>by obtain⟨v,r,rfl,_,t⟩:=h.cons_inv;exact t.drop n
theorem PJ.set{d:D}{v:V}(r:RD K w H d v):∀{ds:List D}{vs:List V}(i:Nat),PJ K w H ds vs->PJ K w H (ds.set i d) (vs.set i v)
 |[],_,_,h=>by rw[h.nil_inv];exact .nil
 |_::_,_,0,h=>by obtain⟨_,_,rfl,_,t⟩:=h.cons_inv;exact .cons r t
 |_::_,_,i+1,h=>by obtain⟨_,_,rfl,p,t⟩:=h.cons_inv;exact .cons p (PJ.set r i t)
end
def RX(K:Frag)(w:Wd)(H:Hp)(x:XD)(c:Value)(da:Option Addr):Prop:=nsIn K mainGlobals x.cls=some (some c)/\v9 w H x.fld da
def aF{A B:Type}(K:Frag)(E:XK)(rel:Wd->Hp->A->B->Prop)(w:Wd)(H:Hp)(r:R A)(Q:B->Hp->Prop):Prop:=match r with
 |.ok a S'=>∀w' H' b,Ext w H w' H'->rel w' H' a b->RS K w' H' S'->Q b H'
 |.err x S'=>∀w' H' c da,Ext w H w' H'->RS K w' H' S'->RX K w' H' x c da->E c da H'
 |.bad=>False
section
variable{A B A2 B2:Type}{K:Frag}{E:XK}{rel:Wd->Hp->A->B->Prop}{VP:Wd->Hp->A2->B2->Prop}{w w1:Wd}{H H1:Hp}{S S1:Pz}
def aF.ext{r:R A}{Q:B->Hp->Prop}(h:aF K E rel w H r Q)(x:Ext w H w1 H1)(s:RS K w H S)(s1:RS K w1 H1 S1):aF K E rel w1 H1 r Q:=by
 cases r with
 |ok a S'=>exact λw' H' b y q t=>h w' H' b (x.trans' y s s1) q t
 |err e S'=>exact λw' H' c da y t q=>h w' H' c da (x.trans' y s s1) t q
 |bad=>exact h
theorem aF.bind{r:R A}{f:A->Pz->R A2}{Q':B->Hp->Prop}{Q:B2->Hp->Prop}(h:aF K E VP w H (r.bind f) Q)(s:RS K w H S)
  (k:∀a S1 w1 H1 b,Ext w H w1 H1->rel w1 H1 a b->RS K w1 H1 S1->aF K E VP w1 H1 (f a S1) Q->Q' b H1):aF K E rel w H r Q':=by
 cases r with
 |ok a S'=>exact λw1 H1 b x q s1=>k a S' w1 H1 b x q s1 (aF.ext (r:=f a S') h x s s1)
 |err e S'=>exact h
 |bad=>exact h
theorem aF.R5{w0:Wd}{H0:Hp}{S0:Pz}{r:R A}{f:A->Pz->R A2}{Q':B->Hp->Prop}{Q:B2->Hp->Prop}(h:aF K E VP w0 H0 (r.bind f) Q)(x:Ext w0 H0 w H)(s0:RS K w0 H0 S0)(s:RS K w H S)
  (k:∀a S1 w1 H1 b,Ext w H w1 H1->rel w1 H1 a b->RS K w1 H1 S1->aF K E VP w0 H0 (f a S1) Q->Q' b H1):aF K E rel w H r Q':=by
 cases r with
 |ok a S'=>exact λw1 H1 b y q s1=>k a S' w1 H1 b y q s1 h
 |err e S'=>exact λw' H' c da y t q=>h w' H' c da (x.trans' y s0 s) t q
 |bad=>exact h
def aF.ret{a:A}{b:B}{Q:B->Hp->Prop}(h:aF K E rel w H (.ok a S) Q)(q:rel w H a b)(s:RS K w H S):Q b H:=h w H b (Ext.refl w H) q s
def aF.at{a:A}{b:B}{Q:B->Hp->Prop}(h:aF K E rel w H (.ok a S) Q)(x:Ext w H w1 H1)(q:rel w1 H1 a b)(s:RS K w1 H1 S):Q b H1:=h w1 H1 b x q s
theorem aF.of{o:Option A}{Q:B->Hp->Prop}(h:aF K E rel w H (R.of S o) Q):∃a,o=some a/\aF K E rel w H (.ok a S) Q:=by
 cases o with
 |some a=>exact⟨a,rfl,h⟩
 |none=>exact h.elim
end
set_option genInjectivity false in
inductive FV where
 |nx (s:L2.St)|rt (v:V)|bk (s:L2.St)|ct (s:L2.St)
def FV.to(D:Ends):FV->Hp->Prop
 |.nx s,H=>D.nx s H
 |.rt v,H=>D.rt v H
 |.bk s,H=>D.bk s H
 |.ct s,H=>D.ct s H
def RF(K:Frag)(w:Wd)(H:Hp):F->FV->Prop
 |.nx r,f=>∃s,f=.nx s/\Rq K w H r s
 |.rt d,f=>∃v,f=.rt v/\RD K w H d v
 |.bk r,f=>∃s,f=.bk s/\Rq K w H r s
 |.ct r,f=>∃s,f=.ct s/\Rq K w H r s
def RB(w:Wd)(H:Hp)(a b:Bool):Prop:=b=a
def uE(K:Frag)(E:XK)(m:EM):TE:=λs H Q=>∃w r S,Rq K w H r s/\RS K w H S/\aF K E (RD K) w H (m r S) Q
def uT(K:Frag)(E:XK)(m:TM):TT:=λs H Q=>∃w r S,Rq K w H r s/\RS K w H S/\aF K E RB w H (m r S) Q
def uA(K:Frag)(E:XK)(m:AM):TA:=λs H Q=>∃w r S,Rq K w H r s/\RS K w H S/\aF K E (PJ K) w H (m r S) Q
def uS(K:Frag)(E:XK)(m:SM):TS:=λD s H=>∃w r S,Rq K w H r s/\RS K w H S/\aF K E (RF K) w H (m r S) (FV.to D)
def QR{K:Frag}{s:L2.St}{c:Wd->Rp->Pz->Prop}{P:Prop}(z:∃w r S,Rq K w H r s/\RS K w H S/\c w r S)(f:∀w r S,Rq K w H r s->RS K w H S->c w r S->P):P:=by obtain⟨w,r,S,x,y,z⟩:=z;exact f w r S x y z
theorem ex8.{u} {α:Type u} {a:Wd->Rp->Prop} {b:Wd->Rp->α->Rp->Prop} {c:Wd->Rp->α->Rp->Prop} {d:Wd->Rp->α->Rp->Prop} {P:Prop} (z:∃w r e r',a w r/\b w r e r'/\c w r e r'/\d w r e r') (f:∀w r e r',a w r->b w r e r'->c w r e r'->d w r e r'->P):P:=by obtain⟨w,r,e,r',x,y,z,t⟩:=z;exact f w r e r' x y z t
structure Bx(p:Prop):Prop where
 out:p
abbrev SE(X:Cx)(E:XK)(e:Expr)(m:EM):Prop:=Bx (PE X e (uE X.K E m))
abbrev ST(X:Cx)(E:XK)(e:Expr)(m:TM):Prop:=Bx (PT X e (uT X.K E m))
abbrev SW(X:Cx)(E:XK)(e:Expr)(m:TM):Prop:=Bx (PW X e (uT X.K E m))
abbrev SA(X:Cx)(E:XK)(es:List Expr)(m:AM):Prop:=Bx (PA X es (uA X.K E m))
abbrev SS(X:Cx)(E:XK)(st:Stmt)(m:SM):Prop:=Bx (PS X st (uS X.K E m))
abbrev Xf(X:Cx)(E:XK)(st:List Stmt)(m:SM):Prop:=Bx (VH X st (uS X.K E m))
def bj{t t':TE}(h:PE X e t)(k:∀s H Q,t' s H Q->t s H Q):PE X e t':=λpins s σ H Q I q=>h pins s σ H Q I (k σ H Q q)
def oR{t':TT}(h:PT X e t)(k:∀s H Q,t' s H Q->t s H Q):PT X e t':=λpins s σ H Q I q=>h pins s σ H Q I (k σ H Q q)
def zR{t':TT}(h:PW X e t)(k:∀s H Q,t' s H Q->t s H Q):PW X e t':=λwh pins s σ H Q I q=>h wh pins s σ H Q I (k σ H Q q)
def zS{e:List Expr}{t t':TA}(h:PA X e t)(k:∀s H Q,t' s H Q->t s H Q):PA X e t':=λp pins s σ H Q I q=>h p pins s σ H Q I (k σ H Q q)
def eE{e:Stmt}{t t':TS}(h:PS X e t)(k:∀D s H,t' D s H->t D s H):PS X e t':=λpins s σ H Q I q=>h pins s σ H Q I (k Q σ H q)
def wa{e:List Stmt}{t t':TS}(h:VH X e t)(k:∀D s H,t' D s H->t D s H):VH X e t':=λpins s σ H Q I q=>h pins s σ H Q I (k Q σ H q)
section
variable{X:Cx}{E:XK}{a b c:Expr}{ma mb mc:EM}{pos:Pos}
def C7(i:Nat){pos:Pos}(hN:X.N[i]?=some x:=by kernel_rfl)(hv:Vis X.env.scope x)(hd:(x == ("__debug__":Str))=false:=by decide +kernel)
  (hcd:(x == ("__classdict__":Str))=false:=by decide +kernel):SE X E (.Name x pos) (af i):=⟨
 bj (pv i hN hv hd hcd) λs H Q zq=>QR zq λw r S hr hS hp=>by
  unfold af at hp;split at hp
  .rename_i d e;obtain⟨v,e',q⟩:=hr.2 i d e;exact⟨v,e',hp.ret q hS⟩
  .exact hp.elim⟩
def ud{v:V}{d:D}(h:PE X e (tC v))(q:∀w H,RD X.K w H d v):SE X E e (eC d):=⟨
 bj h λs H Q zq=>QR zq λw r S hr hS hp=>hp.ret (q w H) hS⟩
def ay{i j pos}:SE X E (.Constant (.int i) j pos) (eC (.int i)):=ud Hv λ_ _=>by unfold RD;rfl
def jL{i j pos}:SE X E (.Constant (.bool i) j pos) (eC (.bl i)):=ud JT λ_ _=>by unfold RD;rfl
def pz{j pos}:SE X E (.Constant .none j pos) (eC .non):=ud Hw λ_ _=>by unfold RD;rfl
def aS{i j pos}:SE X E (.Constant (.str i) j pos) (eC (.str i)):=ud Hx λ_ _=>by unfold RD;rfl
def FD{t:Tok}{pos:Pos}(hg:Gl X x)(hm:X.mg x=some (.int i t))(hd:(x == ("__debug__":Str))=false:=by decide +kernel):SE X E (.Name x pos) (eC (.int i)):=
 ud (gn hg hm (v:=.int i) ⟨t,rfl⟩ hd) λ_ _=>by unfold RD;rfl
def rY{pos:Pos}(hg:Gl X x)(hm:X.mg x=none)(hv:bootBuiltins x=some (.type T))(hn:x ≠ "__name__":=by decide +kernel)(hd:(x == ("__debug__":Str))=false:=by decide +kernel):SE X E (.Name x pos) (eC (.ty T)):=
 ud (E7 hg hm hv (v:=.ty T) rfl hn hd) λ_ _=>by unfold RD;rfl
def xO(K:Frag)(E:XK)(f:Pz->D->D->Option D):R2:=λx y H Q=>∃w S d e,RS K w H S/\RD K w H d x/\RD K w H e y/\aF K E (RD K) w H (R.of S (f S d e)) Q
def xU(K:Frag)(E:XK)(f:Pz->D->Option D):V->Hp->VK->Prop:=λx H Q=>∃w S d,RS K w H S/\RD K w H d x/\aF K E (RD K) w H (R.of S (f S d)) Q
def xC(K:Frag)(E:XK)(f:Pz->List D->Option D):List V->Hp->VK->Prop:=λxs H Q=>∃w S ds,RS K w H S/\PJ K w H ds xs/\aF K E (RD K) w H (R.of S (f S ds)) Q
def aM{op:Operator}{f:Pz->D->D->Option D}(ho:QS X (binaryOp op) (xO X.K E f))(ha:SE X E a ma)(hb:SE X E b mb):SE X E (.BinOp a op b pos) (Px f ma mb):=⟨
 bj (J5 ho ha.out hb.out) λs H Q zq=>QR zq λw r S hr hS hp=>⟨w,r,S,hr,hS,hp.bind hS λd S1 w1 H1 v x1 q1 s1 p1=>
  ⟨w1,r,S1,hr.ext x1,s1,p1.bind s1 λe S2 w2 H2 u x2 q2 s2 p2=>⟨w2,S2,d,e,s2,RD.ext x2 d v q1,q2,p2⟩⟩⟩⟩
def Hd{op:UnaryOp}{f:Pz->D->Option D}(ho:UnR X (unaryOp op) (xU X.K E f))(ha:SE X E a ma):SE X E (.UnaryOp op a pos) (X7 f ma):=⟨
 bj (J6 ho ha.out) λs H Q zq=>QR zq λw r S hr hS hp=>⟨w,r,S,hr,hS,hp.bind hS λd S1 w1 H1 v x1 q1 s1 p1=>⟨w1,S1,d,s1,q1,p1⟩⟩⟩
def eF{f:Pz->D->D->Option D}(ho:QS X (compareOp op) (xO X.K E f))(ha:SE X E a ma)(hb:SE X E b mb)(hm:autoParam (behindInMarks op b=false) zz9._auto_1):
  SE X E (.Compare a [op] [b] pos) (Px f ma mb):=⟨
 bj (zL ho ha.out hb.out hm) λs H Q zq=>QR zq λw r S hr hS hp=>⟨w,r,S,hr,hS,hp.bind hS λd S1 w1 H1 v x1 q1 s1 p1=>
  ⟨w1,r,S1,hr.ext x1,s1,p1.bind s1 λe S2 w2 H2 u x2 q2 s2 p2=>⟨w2,S2,d,e,s2,RD.ext x2 d v q1,q2,p2⟩⟩⟩⟩
theorem wb{op':CmpOp}{f g:Pz->D->D->Option D}(ho:QS X (compareOp op) (xO X.K E f))(ho':QS X (compareOp op') (xO X.K E g))(ha:SE X E a ma)(hb:SE X E b mb)(hc:SE X E c mc)
  (hm:lastMarks [op,op'] [b,c]=false:=by kernel_rfl):SE X E (.Compare a [op,op'] [b,c] pos) (ig f g ma mb mc):=⟨
 bj (CJ ho ho' ha.out hb.out hc.out hm) λs H Q zq=>QR zq λw r S hr hS hp=>⟨w,r,S,hr,hS,hp.bind hS λd S1 w1 H1 v x1 q1 s1 p1=>
  ⟨w1,r,S1,hr.ext x1,s1,p1.bind s1 λe S2 w2 H2 u x2 q2 s2 p2=>by
   refine⟨w2,S2,d,e,s2,RD.ext x2 d v q1,q2,?_⟩;cases hf:f S2 d e with
   |none=>rw[hf]at p2;exact p2.elim
   |some z=>
    rw[hf]at p2;intro w3 H3 z' x3 q3 s3;cases z with
    |bl k=>
     unfold RD at q3;subst q3;refine⟨k,rfl,?_⟩;cases k with
     |true=>
      refine rh ⟨w3,r,S2,((hr.ext x1).ext x2).ext x3,s3,?_⟩;have p3:=aF.ext p2 x3 s2 s3;refine p3.bind s3 λt S4 w4 H4 u' x4 q4 s4 p4=>⟨w4,S4,e,t,s4,RD.ext x4 e u (RD.ext x3 e u q2),q4,p4⟩
     |false=>exact rg (aF.at p2 x3 (by unfold RD;rfl) s3)
    |_=>exact p2.elim⟩⟩⟩
def jM{op}(h:SE X E a ma):SE X E (.BoolOp op [a] pos) ma:=⟨HC h.out⟩
def i8{rest:List Expr}(ha:SE X E a ma)(hb:SE X E (.BoolOp .And (b::rest) pos) mb):SE X E (.BoolOp .And (a::b::rest) pos) (jK ma mb):=⟨
 bj (HD ha.out hb.out) λs H Q zq=>QR zq λw r S hr hS hp=>⟨w,r,S,hr,hS,hp.bind hS λd S1 w1 H1 v x1 q1 s1 p1=>by
  cases d with
  |bl k=>
   unfold RD at q1;subst q1;refine⟨k,rfl,?_⟩;cases k with
   |true=>exact rh ⟨w1,r,S1,hr.ext x1,s1,p1⟩
   |false=>exact rg (aF.ret p1 (by unfold RD;rfl) s1)
  |_=>exact p1.elim⟩⟩
def Ku{rest:List Expr}(ha:SE X E a ma)(hb:SE X E (.BoolOp .Or (b::rest) pos) mb):SE X E (.BoolOp .Or (a::b::rest) pos) (eOr ma mb):=⟨
 bj (JX ha.out hb.out) λs H Q zq=>QR zq λw r S hr hS hp=>⟨w,r,S,hr,hS,hp.bind hS λd S1 w1 H1 v x1 q1 s1 p1=>by
  cases d with
  |bl k=>
   unfold RD at q1;subst q1;refine⟨k,rfl,?_⟩;cases k with
   |false=>exact rg ⟨w1,r,S1,hr.ext x1,s1,p1⟩
   |true=>exact rh (aF.ret p1 (by unfold RD;rfl) s1)
  |_=>exact p1.elim⟩⟩
def Iw(ha:SE X E a ma):SE X E (.UnaryOp .Not a pos) (Iv ma):=⟨
 bj (HE ha.out) λs H Q zq=>QR zq λw r S hr hS hp=>⟨w,r,S,hr,hS,hp.bind hS λd S1 w1 H1 v x1 q1 s1 p1=>by
  cases d with
  |bl k=>
   unfold RD at q1;subst q1
   exact⟨k,rfl,aF.ret p1 (by unfold RD;rfl) s1⟩
  |_=>exact p1.elim⟩⟩
def nN(hc:ST X E c mt)(ha:SE X E a ma)(hb:SE X E b mb):SE X E (.IfExp c a b pos) (VM mt ma mb):=⟨
 bj (CA hc.out ha.out hb.out) λs H Q zq=>QR zq λw r S hr hS hp=>⟨w,r,S,hr,hS,hp.bind hS λk S1 w1 H1 v x1 q1 s1 p1=>by
  have e:v=k:=q1;subst e;cases v with
  |true=>exact rh ⟨w1,r,S1,hr.ext x1,s1,p1⟩
  |false=>exact rg ⟨w1,r,S1,hr.ext x1,s1,p1⟩⟩⟩
def C8{s:L2.St}{Q:Bool->Hp->Prop}(h:uT X.K E (tV ma) s H Q):uE X.K E ma s H λx H1=>∃k,x=.bl k/\Q k H1:=by
 obtain⟨w,r,S,hr,hS,hp⟩:=h
 exact⟨w,r,S,hr,hS,hp.bind hS λd S1 w1 H1 v x1 q1 s1 p1=>by
  cases d with
  |bl k=>
   unfold RD at q1;exact⟨k,q1,aF.ret p1 rfl s1⟩
  |_=>exact p1.elim⟩
def dW(h:SE X E a ma)(he:∀whole,isTrue a X.env whole=(do let v <- whole;standAt a.pos;holding [v] (truthy v)):=by intro _;kernel_rfl):ST X E a (tV ma):=⟨
 oR (Hy h.out he) λs H Q q=>C8 q⟩
def bb{f:Pz->D->D->Option D}(ho:QS X (compareOp op) (xO X.K E f))(ha:SE X E a ma)(hb:SE X E b mb)(hm:autoParam (behindInMarks op b=false) zz9._auto_1):
  ST X E (.Compare a [op] [b] pos) (tV (Px f ma mb)):=⟨
 oR (zM ho ha.out hb.out hm) λs H Q q=>by
  obtain⟨w,r,S,hr,hS,hp⟩:=C8 q
  exact⟨w,r,S,hr,hS,hp.bind hS λd S1 w1 H1 v x1 q1 s1 p1=>
   ⟨w1,r,S1,hr.ext x1,s1,p1.bind s1 λe S2 w2 H2 u x2 q2 s2 p2=>⟨w2,S2,d,e,s2,RD.ext x2 d v q1,q2,p2⟩⟩⟩⟩
def oS(ha:ST X E a mt):SW X E (.BoolOp .And [a] pos) mt:=⟨E8 ha.out⟩
def pC(ha:ST X E a mt):SW X E (.BoolOp .Or [a] pos) mt:=⟨Hz ha.out⟩
def ue{mu:TM}{rest:List Expr}(ha:ST X E a mt)(hb:SW X E (.BoolOp .And (b::rest) pos) mu):SW X E (.BoolOp .And (a::b::rest) pos) (PD.i5 mt mu):=⟨
 zR (HA ha.out hb.out) λs H Q zq=>QR zq λw r S hr hS hp=>⟨w,r,S,hr,hS,hp.bind hS λk S1 w1 H1 v x1 q1 s1 p1=>by
  have e:v=k:=q1;subst e;cases v with
  |true=>exact rh ⟨w1,r,S1,hr.ext x1,s1,p1⟩
  |false=>exact rg (aF.ret p1 rfl s1)⟩⟩
def rZ{mu:TM}{rest:List Expr}(ha:ST X E a mt)(hb:SW X E (.BoolOp .Or (b::rest) pos) mu):SW X E (.BoolOp .Or (a::b::rest) pos) (PD.T8 mt mu):=⟨
 zR (JU ha.out hb.out) λs H Q zq=>QR zq λw r S hr hS hp=>⟨w,r,S,hr,hS,hp.bind hS λk S1 w1 H1 v x1 q1 s1 p1=>by
  have e:v=k:=q1;subst e;cases v with
  |false=>exact rg ⟨w1,r,S1,hr.ext x1,s1,p1⟩
  |true=>exact rh (aF.ret p1 rfl s1)⟩⟩
def lM(h:SW X E a mt):ST X E a mt:=⟨PW.pt h.out⟩
def gB(ha:ST X E a mt):ST X E (.UnaryOp .Not a pos) (PD.fM mt):=⟨
 oR (HB ha.out) λs H Q zq=>QR zq λw r S hr hS hp=>⟨w,r,S,hr,hS,hp.bind hS λk S1 w1 H1 v x1 q1 s1 p1=>by
  have e:v=k:=q1;subst e
  exact aF.ret p1 rfl s1⟩⟩
def aj:SA X E [] ak:=⟨zS CN λs H Q zq=>QR zq λw r S hr hS hp=>aF.ret hp PJ.nil hS⟩
def ah(ha:SE X E a ma)(hrr:SA X E es ms)(hs:starEach (a::es) X.env=(false,eval a X.env)::starEach es X.env:=by kernel_rfl):SA X E (a::es) (ag ma ms):=⟨
 zS (zN ha.out hrr.out hs) λs H Q zq=>QR zq λw r S hr hS hp=>⟨w,r,S,hr,hS,hp.bind hS λd S1 w1 H1 v x1 q1 s1 p1=>
  ⟨w1,r,S1,hr.ext x1,s1,p1.bind s1 λe S2 w2 H2 u x2 q2 s2 p2=>aF.ret p2 (PJ.cons (RD.ext x2 d v q1) q2) s2⟩⟩⟩
def ik{k}(h:SA X E es ms):SE X E (.Tuple es k pos) (gU ms):=⟨
 bj (Ih h.out) λs H Q zq=>QR zq λw r S hr hS hp=>⟨w,r,S,hr,hS,hp.bind hS λds S1 w1 H1 vs x1 q1 s1 p1=>by
  by_cases hl:ds.length<=sizeLine
  .rw[Y9 hl]at p1
   refine⟨by rw[q1.length];exact hl,λp hp=>?_⟩
   exact aF.at p1 (Ext.new hp) (by unfold RD;exact⟨p,vs,rfl,.inl ⟨aU,s1.fresh hp⟩,PJ.ext (Ext.new hp) _ _ q1⟩) (s1.new hp)
  .rw[Yj hl]at p1;exact p1.elim⟩⟩
def pD(h:SA X E es ms):SE X E (.List es pos) (ow ms):=⟨
 bj (CO h.out) λs H Q zq=>QR zq λw r S hr hS hp=>⟨w,r,S,hr,hS,hp.bind hS λds S1 w1 H1 vs x1 q1 s1 p1=>by
  by_cases hl:ds.length<=sizeLine
  .rw[Y9 hl]at p1
   refine⟨by rw[q1.length];exact hl,λp hp=>?_⟩
   exact aF.at p1 (Ext.new hp) (by unfold RD;exact⟨p,vs,rfl,⟨aU,s1.fresh hp⟩,PJ.ext (Ext.new hp) _ _ q1⟩) (s1.new hp)
  .rw[Yj hl]at p1;exact p1.elim⟩⟩
def RS.Sx{K:Frag}(s:RS K w H S):RD K (w.add p) H' (.ref S.length) (.ref p):=by
 unfold RD
 exact⟨p,rfl,by show(w.st++[p])[S.length]?=some p;rw[<- s.len];simp⟩
def mN(h:SA X E es ms):SE X E (.List es pos) (eNew ms):=⟨
 bj (CO h.out) λs H Q zq=>QR zq λw r S hr hS hp=>⟨w,r,S,hr,hS,hp.bind hS λds S1 w1 H1 vs x1 q1 s1 p1=>by
  by_cases hl:ds.length<=sizeLine
  .rw[Y9 hl]at p1
   refine⟨by rw[q1.length];exact hl,λp hp=>?_⟩
   exact aF.at p1 (Ext.alloc hp) s1.Sx (s1.alloc hp ⟨vs,aU,PJ.ext (Ext.alloc hp) _ _ q1⟩)
  .rw[Yj hl]at p1;exact p1.elim⟩⟩
def spM(K:Frag)(n:Nat)(f:FM):Sp:=λvs H Q E=>vs.length=n/\∃w S ds,RS K w H S/\PJ K w H ds vs/\aF K E (RD K) w H (f ds S) Q
variable{CX:Xe}{k n:Nat}{fa:Addr}{fd:FuncData}{ps:List Str}{f:FM}{x:Str}{p:Pos}{es:List Expr}{ms:AM}
def aH{id:String}{f:Pz->List D->Option D}(hc:bT X (.builtin id) (xC X.K E f))(hg:Gl X x)(hm:X.mg x=none)(hv:bootBuiltins x=some (.builtin id))(ha:SA X E (a::es) ms)(hn:x ≠ "__name__":=by decide +kernel)(hdb:(x == ("__debug__":Str))=false:=by decide +kernel)
  (he:starEach (a::es) X.env=(false,eval a X.env)::starEach es X.env:=by kernel_rfl) (hpl:(backTo pos (starEach es X.env)).any (·.1)=false:=by kernel_rfl):SE X E (.Call (.Name x p) (a::es) [] pos) (eB f ms):=⟨
 bj (vY hc hg hm hv ha.out hn hdb he hpl) λs H Q zq=>QR zq λw r S hr hS hp=>⟨w,r,S,hr,hS,hp.bind hS λds S1 w1 H1 vs x1 q1 s1 p1=>⟨w1,S1,ds,s1,q1,p1⟩⟩⟩
def aO{f:Pz->List D->Option D}(hc:bT X (.type T) (xC X.K E f))(hg:Gl X x)(hm:X.mg x=none)(hv:bootBuiltins x=some (.type T))(ha:SA X E (a::es) ms)(hn:x ≠ "__name__":=by decide +kernel)(hdb:(x == ("__debug__":Str))=false:=by decide +kernel)
  (he:starEach (a::es) X.env=(false,eval a X.env)::starEach es X.env:=by kernel_rfl) (hpl:(backTo pos (starEach es X.env)).any (·.1)=false:=by kernel_rfl):SE X E (.Call (.Name x p) (a::es) [] pos) (eB f ms):=⟨
 bj (Bu hc hg hm hv ha.out hn hdb he hpl) λs H Q zq=>QR zq λw r S hr hS hp=>⟨w,r,S,hr,hS,hp.bind hS λds S1 w1 H1 vs x1 q1 s1 p1=>⟨w1,S1,ds,s1,q1,p1⟩⟩⟩
variable{st:Stmt}{rest:List Stmt}{m m':SM}
def bD:Xf X E [] bc:=⟨wa E9 λD s H zq=>QR zq λw r S hr hS hp=>aF.ret (b:=FV.nx s) hp ⟨s,rfl,hr⟩ hS⟩
def aq(h1:SS X E st m)(h2:Xf X E rest m'):Xf X E (st::rest) (aA m m'):=⟨
 wa (CB h1.out h2.out) λD s H zq=>QR zq λw r S hr hS hp=>⟨w,r,S,hr,hS,hp.bind hS λf S1 w1 H1 fv x1 q1 s1 p1=>by
  cases f with
  |nx r1=>obtain⟨s',rfl,q⟩:=q1;exact⟨w1,r1,S1,q,s1,p1⟩
  |rt d=>obtain⟨v,rfl,q⟩:=q1;have z:=aF.ret (Q:=FV.to D) (rel:=RF X.K) (a:=F.rt d) (b:=FV.rt v) p1 ⟨v,rfl,q⟩ s1;exact z
  |bk r1=>obtain⟨s',rfl,q⟩:=q1;have z:=aF.ret (Q:=FV.to D) (rel:=RF X.K) (a:=F.bk r1) (b:=FV.bk s') p1 ⟨s',rfl,q⟩ s1;exact z
  |ct r1=>obtain⟨s',rfl,q⟩:=q1;have z:=aF.ret (Q:=FV.to D) (rel:=RF X.K) (a:=F.ct r1) (b:=FV.ct s') p1 ⟨s',rfl,q⟩ s1;exact z⟩⟩
def ax(h1:SS X E st m):Xf X E [st] m:=⟨Fc h1.out⟩
def dj:SS X E st mM:=⟨eE CC λD s H zq=>QR zq λw r S hr hS hp=>hp.elim⟩
def bE(ha:SE X E a ma)(hs:swapsWith a none pos.line X.env=pure false:=by kernel_rfl):SS X E (.Expr a pos) (bN ma):=⟨
 eE (Fd ha.out hs) λD s H zq=>QR zq λw r S hr hS hp=>⟨w,r,S,hr,hS,hp.bind hS λd S1 w1 H1 v x1 q1 s1 p1=>aF.ret (b:=FV.nx s) p1 ⟨s,rfl,hr.ext x1⟩ s1⟩⟩
def aE(ha:SE X E a ma):SS X E (.Return (some a) pos) (aT ma):=⟨
 eE (HF ha.out) λD s H zq=>QR zq λw r S hr hS hp=>⟨w,r,S,hr,hS,hp.bind hS λd S1 w1 H1 v x1 q1 s1 p1=>aF.ret (b:=FV.rt v) p1 ⟨v,rfl,q1⟩ s1⟩⟩
def bZ{sa sb:List Stmt}(hc:ST X E c mt)(ha:Xf X E sa m)(hb:Xf X E sb m'):SS X E (.If c sa sb pos) (QQ mt m m'):=⟨
 eE (J0 hc.out ha.out hb.out) λD s H zq=>QR zq λw r S hr hS hp=>⟨w,r,S,hr,hS,hp.bind hS λk S1 w1 H1 v x1 q1 s1 p1=>by
  have e:v=k:=q1;subst e;cases v with
  |true=>exact rh ⟨w1,r,S1,hr.ext x1,s1,p1⟩
  |false=>exact rg ⟨w1,r,S1,hr.ext x1,s1,p1⟩⟩⟩
def aK{i:Nat}{x:Str}{pos':Pos}(hN:X.N.Nodup)(hi:X.N[i]?=some x)(hx:Loc X.env.scope x)(ha:SE X E a ma)(hs:swapsWith a (some (.Name x pos')) pos.line X.env=pure false:=by kernel_rfl)(hf:autoParam (X.fn x=true\/X.env.scope.names.lookup x=some .local) zz7._auto_1):
  SS X E (.Assign [.Name x pos'] a pos) (aN i ma):=⟨
 eE (HK hN hi hx ha.out hs hf) λD s H zq=>QR zq λw r S hr hS hp=>⟨w,r,S,hr,hS,hp.bind hS λd S1 w1 H1 v x1 q1 s1 p1=>
  aF.ret (b:=FV.nx (s.set i (some v))) p1 ⟨_,rfl,(hr.ext x1).set i q1⟩ s1⟩⟩
end
def uG(K:Frag)(g:G):TG:=λv s H Q=>∃w r d r',Rq K w H r s/\RD K w H d v/\g.put d r=some r'/\∀s',Rq K w H r' s'->Q s' H
def uGs(K:Frag)(gs:List G):YL:=λvs s H Q=>∃w r ds r',Rq K w H r s/\PJ K w H ds vs/\G.Ru gs ds r=some r'/\∀s',Rq K w H r' s'->Q s' H
abbrev SG(X:Cx)(e:Expr)(g:G):Prop:=Bx (PG X e (uG X.K g))
abbrev SGs(X:Cx)(es:List Expr)(gs:List G):Prop:=Bx (PGs X es (uGs X.K gs))
def zT{t t':TG}(h:PG X e t)(k:∀v s H Q,t' v s H Q->t v s H Q):PG X e t':=λpins s σ H v u Q I r q=>h pins s σ H v u Q I r (k v σ H Q q)
def wc{e:List Expr}{t t':YL}(h:PGs X e t)(k:∀v s H Q,t' v s H Q->t v s H Q):PGs X e t':=λpins s σ H v u Q I r q=>h pins s σ H v u Q I r (k v σ H Q q)
theorem jN:∀{gs:List G}{ds:List D}{r r':Rp},G.Ru gs ds r=some r'->ds.length=gs.length
 |[],[],_,_,_=>rfl
 |[],_::_,_,_,h=>by simp[G.Ru]at h
 |_::_,[],_,_,h=>by simp[G.Ru]at h
 |g::gs,d::ds,r,r',h=>by
  unfold G.Ru at h;cases e:G.put g d r with
  |none=>rw[e]at h;cases h
  |some r1=>
   rw[e]at h;have:=jN h;simp[this]
section
variable{X:Cx}{E:XK}{a b c:Expr}{ma mb mc:EM}{pos:Pos}
def aI{i:Nat}(hN:X.N.Nodup)(hi:X.N[i]?=some x)(hx:Loc X.env.scope x)(hf:autoParam (X.fn x=true\/X.env.scope.names.lookup x=some .local) zz7._auto_1):SG X (.Name x pos) (.nm i):=⟨
 zT (Ff hN hi hx hf) λv s H Q zq=>ex8 zq λw r d r' hr q e k=>by
  unfold G.put at e;cases e
  exact k _ (hr.set i q)⟩
def dQ:SGs X [] []:=⟨
 wc Fg λv s H Q zq=>ex8 zq λw r ds r' hr q e k=>by
  cases ds with
  |nil=>
   unfold G.Ru at e;cases e;exact⟨q.nil_inv,k s hr⟩
  |cons d ds=>simp[G.Ru]at e⟩
theorem bf{g:G}{gs:List G}(h1:SG X e g)(h2:SGs X es gs)
  (hs:(assignEach (e::es) X.env).map (·.2)=assign e X.env::(assignEach es X.env).map (·.2):=by kernel_rfl):SGs X (e::es) (g::gs):=⟨
 wc (CF h1.out h2.out hs) λv s H Q zq=>ex8 zq λw r ds r' hr q e k=>by
  cases ds with
  |nil=>simp[G.Ru]at e
  |cons d ds=>
   obtain⟨v1,vs,rfl,q1,q2⟩:=q.cons_inv;unfold G.Ru at e;cases e1:G.put g d r with
   |none=>rw[e1]at e;cases e
   |some r1=>
    rw[e1]at e
    exact⟨v1,vs,rfl,w,r,d,r1,hr,q1,e1,λs' hs'=>⟨w,r1,ds,r',hs',q2,e,k⟩⟩⟩
def dm{K:Frag}{vs:List V}(h:At w H p (.tup vs)\/uc K p vs):Tp K H p vs:=h.elim (λz=>Tp.of z.1) .inr
theorem fV{k:Nat}{gs:List G}(hc:X.calm=true)(h:SGs X es gs)
  (hn:(assignEach es X.env).length=gs.length:=by kernel_rfl) (hst:(assignEach es X.env).findIdx? (·.1)=none:=by kernel_rfl):SG X (.Tuple es k pos) (.tp gs):=⟨
 zT (HH hc h.out hn hst) λv s H Q zq=>ex8 zq λw r d r' hr q e k=>by
  cases d with
  |tup ds=>
   unfold RD at q;obtain⟨p,vs,rfl,h1,q1⟩:=q;unfold G.put at e
   exact⟨p,vs,rfl,dm h1,by rw[q1.length];exact jN e,w,r,ds,r',hr,q1,e,k⟩
  |_=>simp[G.put]at e⟩
theorem C9{g:G}(ha:SE X E a ma)(hg:SG X tg g)(hs:swapsWithSole [tg] a pos.line X.env=pure false:=by kernel_rfl)(hw:swappedStores [tg] a X.env=pure none:=by kernel_rfl)
  (h1:(assignEach [tg] X.env).map (·.2)=[assign tg X.env]:=by kernel_rfl):SS X E (.Assign [tg] a pos) (BC g ma):=⟨
 eE (CG ha.out hg.out hs hw h1) λD s H zq=>QR zq λw r S hr hS hp=>⟨w,r,S,hr,hS,hp.bind hS λd S1 w1 H1 v x1 q1 s1 p1=>by
  cases e:g.put d r with
  |none=>rw[e]at p1;exact p1.elim
  |some r'=>
   rw[e]at p1
   exact⟨w1,r,d,r',hr.ext x1,q1,e,λs' hs'=>aF.ret (b:=FV.nx s') p1 ⟨s',rfl,hs'⟩ s1⟩⟩⟩
def xS(K:Frag)(f:Pz->D->D->D->Option Pz):Fe:=λo i v H Q=>∃w S x y z S',RS K w H S/\RD K w H x o/\RD K w H y i/\RD K w H z v/\f S x y z=some S'/\∀w' H',Ext w H w' H'->RS K w' H' S'->Q H'
theorem uf{f:Pz->D->D->D->Option Pz}{tpos:Pos}(hf:tU X (xS X.K f))(ha:SE X E a ma)(ho:SE X E b mb)(hi:SE X E c mc)(hs:swapsWithSole [.Subscript b c tpos] a pos.line X.env=pure false:=by kernel_rfl)(hw:swappedStores [.Subscript b c tpos] a X.env=pure none:=by kernel_rfl)
  (h1:(assignEach [.Subscript b c tpos] X.env).map (·.2)=[assign (.Subscript b c tpos) X.env]:=by kernel_rfl)
  (hz:∀v,assign (.Subscript b c tpos) X.env v=(do
   let ov <- holding [v] (eval b X.env)
   let iv <- holding [v,ov] (eval c X.env)
   standAt tpos
   holding [v,ov,iv] (setItem ov iv v)
   release [v,ov,iv] []):=by intro _;kernel_rfl):SS X E (.Assign [.Subscript b c tpos] a pos) (lL f ma mb mc):=⟨
 eE (CG ha.out (HI ho.out hi.out hf hz) hs hw h1) λD s H zq=>QR zq λw r S hr hS hp=>⟨w,r,S,hr,hS,hp.bind hS λd S1 w1 H1 v x1 q1 s1 p1=>
  ⟨w1,r,S1,hr.ext x1,s1,p1.bind s1 λe S2 w2 H2 u x2 q2 s2 p2=>⟨w2,r,S2,(hr.ext x1).ext x2,s2,p2.bind s2 λt S3 w3 H3 y x3 q3 s3 p3=>by
   cases hf:f S3 e t d with
   |none=>rw[hf]at p3;exact p3.elim
   |some S4=>
    rw[hf]at p3
    exact⟨w3,S3,e,t,d,S4,s3,RD.ext x3 _ _ q2,q3,RD.ext x3 _ _ (RD.ext x2 _ _ q1),hf,λw' H' x4 s4=>aF.at (b:=FV.nx s) p3 x4 ⟨s,rfl,(((hr.ext x1).ext x2).ext x3).ext x4⟩ s4⟩⟩⟩⟩⟩
def RI(K:Frag)(w:Wd)(H:Hp)(ds:List D)(J:It):Prop:=∀(i:Nat)(w':Wd)(H':Hp),Ext w H w' H'->
 (i<ds.length->J.go i H'/\∀x Xb,J.X5 i H' x Xb->(Xb=H' \/ ∃p o,H' p=none/\Xb=upd H' p o)/\∀S,RS K w' H' S->∃d,ds[i]?=some d/\RD K w' Xb d x)/\(ds.length<=i->J.stop i H')
def uI(K:Frag)(E:XK)(m:AM):TI:=λs H Q=>∃w r S,Rq K w H r s/\RS K w H S/\aF K E (RI K) w H (m r S) Q
abbrev SIb(qb:Bool)(X:Cx)(E:XK)(tg iter:Expr)(m:AM):Prop:=Bx (PIb qb X tg iter (uI X.K E m))
abbrev SI(X:Cx)(E:XK)(tg iter:Expr)(m:AM):Prop:=Bx (PI X tg iter (uI X.K E m))
def pE{K:Frag}(h:H'=H \/ ∃p o,H p=none/\H'=upd H p o)(s:RS K w H S):Ext w H w H'/\RS K w H' S:=by
 rcases h with rfl|⟨p,o,hp,rfl⟩
 .exact⟨Ext.refl _ _,s⟩
 .exact⟨Ext.new hp,s.new hp⟩
theorem c8{iter:Expr}{body:List Stmt}{it:AM}{g:G}{m:SM}(hp:PassesOwn (model X.prog X.w) X.A X.env X.xe)(hc:X.calm=true)(hi:SI X E tg iter it)(hg:SG X tg g)(hb:Xf X E body m)
  (hs:∀x,foldedSetIterable iter X.env x=pure x:=by intro _;kernel_rfl):SS X E (.For tg iter body [] pos) (dU it g m):=⟨
 eE (HP hp hc hi.out hg.out hb.out hs) λD s H zq=>QR zq λw r S hr hS hp=>⟨w,r,S,hr,hS,hp.bind hS λds S1 w1 H1 J x1 q1 s1 p1=>by
  refine⟨λi n s' H'=>n=ds.length-i/\i<=ds.length/\∃w' r' S',Ext w1 H1 w' H'/\Rq X.K w' H' r' s'/\RS X.K w' H' S'/\aF X.K E (RF X.K) w' H' (forL g m (ds.drop i) r' S') (FV.to D),
   ⟨ds.length,by simp,Zs _,w1,r,S1,Ext.refl _ _,hr.ext x1,s1,p1⟩,?_⟩
  rintro i n s2 H2 ⟨rfl,hi.out,w2,r2,S2,x2,hr2,hS2,hp2⟩;by_cases hlt:i<ds.length
  .obtain⟨go,X5⟩:=(q1 i w2 H2 x2).1 hlt
   refine .inr ⟨go,λs' H'=>∃w' r' S',Ext w1 H1 w' H'/\Rq X.K w' H' r' s'/\RS X.K w' H' S'/\aF X.K E (RF X.K) w' H' (forL g m (ds.drop (i+1)) r' S') (FV.to D),
    λs' H' hN=>⟨ds.length-(i+1),by omega,rfl,hlt,hN⟩,λx H3 hy=>?_⟩
   obtain⟨gr,rd⟩:=X5 x H3 hy;obtain⟨d,ed,qd⟩:=rd S2 hS2;obtain⟨x3,s3⟩:=pE gr hS2;have x13:Ext w1 H1 w2 H3:=x2.trans' x3 s1 hS2
   have hdrop:ds.drop i=d::ds.drop (i+1):=by rw[Vm hlt];rw[Yk hlt]at ed;cases ed;rfl
   rw[hdrop]at hp2;have hp3:=aF.ext hp2 x3 hS2 s3;unfold forL at hp3;cases e:g.put d r2 with
   |none=>rw[e]at hp3;exact hp3.elim
   |some r3=>
    rw[e]at hp3;refine⟨w2,r2,d,r3,hr2.ext x3,qd,e,λs4 Xw=>⟨w2,r3,S2,Xw,s3,?_⟩⟩;refine aF.bind (rel:=RF X.K) hp3 s3 λf S5 w5 H5 fv x5 q5 s5 p5=>?_;cases f with
    |nx r6=>obtain⟨s6,rfl,q6⟩:=q5;exact⟨w5,r6,S5,x13.trans' x5 s1 s3,q6,s5,p5⟩
    |ct r6=>obtain⟨s6,rfl,q6⟩:=q5;exact⟨w5,r6,S5,x13.trans' x5 s1 s3,q6,s5,p5⟩
    |bk r6=>obtain⟨s6,rfl,q6⟩:=q5;have z:=aF.ret (Q:=FV.to D) (rel:=RF X.K) (a:=F.nx r6) (b:=FV.nx s6) p5 ⟨s6,rfl,q6⟩ s5;exact z
    |rt d6=>obtain⟨v6,rfl,q6⟩:=q5;have z:=aF.ret (Q:=FV.to D) (rel:=RF X.K) (a:=F.rt d6) (b:=FV.rt v6) p5 ⟨v6,rfl,q6⟩ s5;exact z
  .have e:i=ds.length:=by omega
   subst e;rw[Mf]at hp2
   exact .inl ⟨(q1 _ w2 H2 x2).2 (Yh _),aF.ret (b:=FV.nx s2) hp2 ⟨s2,rfl,hr2⟩ hS2⟩⟩⟩
def bJ(m:EM)(f:Pz->D->Option (List D)):AM:=λr S=>(m r S).bind λd S1=>R.of S1 (f S1 d)
def Kv:Pz->D->Option (List D)
 |_,.tup ds=>some ds
 |_,_=>none
def Kw:Pz->D->Option (List D)
 |_,.lst ds=>some ds
 |_,.fz ds=>some ds
 |_,_=>none
def eG(t:AM):AM:=λr S=>(t r S).bind λxs S1=>match xs with
 |[.int n]=>if n<2^62/\-(2^62)<=n then .ok ((List.range n.toNat).map λ(i:Nat)=>D.int i) S1 else .bad
 |_=>.bad
def eI{X:Cx}{t t':TI}(h:PIb qb X tg e t)(k:∀s H Q,t' s H Q->t s H Q):PIb qb X tg e t':=λpins s σ H Q I q=>h pins s σ H Q I (k σ H Q q)
def Iy(ha:SE X E a ma):SI X E tg a (bJ ma Kv):=⟨
 eI (HN ha.out) λs H Q zq=>QR zq λw r S hr hS hp=>⟨w,r,S,hr,hS,hp.bind hS λd S1 w1 H1 v x1 q1 s1 p1=>by
  cases d with
  |tup ds=>
   unfold RD at q1;obtain⟨p,vs,rfl,h1,q⟩:=q1;refine⟨p,rfl,⟨vs,dm h1⟩,aF.ret p1 ?_ s1⟩;intro i w' H' x';have h1':At w' H' p (.tup vs)\/uc X.K p vs:=h1.imp x'.at id;have q':=PJ.ext x' _ _ q
   refine⟨λhi=>⟨⟨vs,vs[i]'(by rw[q.length];exact hi),dm h1',Yk _⟩,λx Xb y=>?_⟩,λhi=>⟨vs,dm h1',by rw[q.length];exact hi⟩⟩
   obtain⟨rfl,y⟩:=y;refine⟨.inl rfl,λS _=>⟨ds[i],Yk hi,?_⟩⟩;obtain⟨v,e,rv⟩:=q'.get (Yk hi);rw[y vs (dm h1')]at e;cases e;exact rv
  |_=>exact p1.elim⟩⟩
def Iz(ha:SE X E a ma):SI X E tg a (bJ ma Kw):=⟨
 eI (Fh ha.out) λs H Q zq=>QR zq λw r S hr hS hp=>⟨w,r,S,hr,hS,hp.bind hS λd S1 w1 H1 v x1 q1 s1 p1=>by
  have main:∀(ds:List D)(p:Addr)(vs:List V),PJ X.K w1 H1 ds vs->(∀w' H',Ext w1 H1 w' H'->Rm X.K H' p vs)->RI X.K w1 H1 ds (Itl X.K p):=by
   intro ds p vs q sq i w' H' x';have q':=PJ.ext x' _ _ q
   refine⟨λhi=>⟨⟨vs,vs[i]'(by rw[q.length];exact hi),sq _ _ x',Yk _⟩,λx Xb y=>?_⟩,λhi=>⟨vs,sq _ _ x',by rw[q.length];exact hi⟩⟩
   obtain⟨rfl,y⟩:=y;refine⟨.inl rfl,λS _=>⟨ds[i],Yk hi,?_⟩⟩;obtain⟨v,e,rv⟩:=q'.get (Yk hi);rw[y vs (sq _ _ x')]at e;cases e;exact rv
  cases d with
  |lst ds=>
   unfold RD at q1;obtain⟨p,vs,rfl,h1,q⟩:=q1;exact⟨p,rfl,⟨vs,Rm.of h1.1⟩,aF.ret p1 (main ds p vs q λw' H' x'=>Rm.of (x'.at h1).1) s1⟩
  |fz ds=>
   unfold RD at q1;obtain⟨p,vs,rfl,h1,q⟩:=q1;exact⟨p,rfl,⟨vs,h1.sq⟩,aF.ret p1 (main ds p vs q λw' H' x'=>yz.sq (w:=w') (h1.imp (λ⟨o,z⟩=>⟨o,x'.at z⟩) id)) s1⟩
  |_=>exact p1.elim⟩⟩
def bH:Pz->D->Option (List D)
 |_,.tup ds=>some ds
 |_,.lst ds=>some ds
 |_,.fz ds=>some ds
 |_,_=>none
def Kx{t u:TI}(h1:PI X tg e t)(h2:PI X tg e u):PI X tg e (λs H Q=>t s H Q\/u s H Q):=λpins s σ H Q I q=>q.elim (h1 pins s σ H Q I) (h2 pins s σ H Q I)
def cJ(ha:SE X E a ma):SI X E tg a (bJ ma bH):=⟨
 eI (Kx (Iy ha).out (Iz ha).out) λs H Q zq=>QR zq λw r S hr hS hp=>by
  unfold bJ at hp;cases e:ma r S with
  |bad=>rw[e]at hp;exact hp.elim
  |err y S'=>rw[e]at hp;exact .inl ⟨w,r,S,hr,hS,by unfold bJ;rw[e];exact hp⟩
  |ok d S'=>
   rw[e]at hp;cases d with
   |tup ds=>exact .inl ⟨w,r,S,hr,hS,by unfold bJ;rw[e];exact hp⟩
   |lst ds=>exact .inr ⟨w,r,S,hr,hS,by unfold bJ;rw[e];exact hp⟩
   |fz ds=>exact .inr ⟨w,r,S,hr,hS,by unfold bJ;rw[e];exact hp⟩
   |_=>exact hp.elim⟩
def mO{p:Pos}(hg:Gl X "range")(hm:X.mg "range" = none)(ha:SA X E [a] ms)(hs:starEach [a] X.env=[(false,eval a X.env)]:=by kernel_rfl):SIb qb X E tg (.Call (.Name "range" p) [a] [] pos) (eG ms):=⟨
 eI (Bk hg hm ha.out hs) λs H Q zq=>QR zq λw r S hr hS hp=>⟨w,r,S,hr,hS,hp.bind hS λds S1 w1 H1 vs x1 q1 s1 p1=>by
  rcases ds with _|⟨d,_|⟨d',ds⟩⟩
  .exact p1.elim
  .cases d with
   |int n=>
    obtain⟨v,rfl,q2⟩:=q1.PK;unfold RD at q2;subst q2;by_cases hn:n<2^62/\-(2^62)<=n
    .have p2:aF X.K E (RI X.K) w1 H1 (if n<2^62/\-(2^62)<=n then R.ok ((List.range n.toNat).map λ(i:Nat)=>D.int i) S1 else R.bad) Q:=p1
     rw[Y9 hn]at p2;refine⟨n,rfl,hn.2,hn.1,aF.ret p2 ?_ s1⟩;intro i w' H' x'
     refine⟨λhi=>⟨show i<n.toNat by simpa using hi,λx Xb y=>?_⟩,λhi=>show n.toNat<=i by simpa using hi⟩
     obtain⟨rfl,rfl⟩:=y;refine⟨.inl rfl,λS _=>⟨.int i,?_,?_⟩⟩
     .have:i<n.toNat:=by simpa using hi
      simp[this]
     .unfold RD;simp
    .have p2:aF X.K E (RI X.K) w1 H1 (if n<2^62/\-(2^62)<=n then R.ok ((List.range n.toNat).map λ(i:Nat)=>D.int i) S1 else R.bad) Q:=p1
     rw[Yj hn]at p2;exact p2.elim
   |_=>exact p1.elim
  .cases d<;>exact p1.elim⟩⟩
end
section
variable{P:Program}{w:World}{K:Frag}{mg:Str->Option Value}{base:Heap}
def BD{K:Frag}{w:Wd}{ds:List D}{vs:List V}(q:PJ K w H ds vs):Rq K w H (ds.map some++List.replicate (N.length-ds.length) none) (L2.start N vs):=by
 unfold L2.start
 refine⟨by simp[q.length],λi d e=>?_⟩
 by_cases hi:i<ds.length
 .rw[Z1 (by simpa using hi),Qx]at e
  rw[Z1 (by rw[Yi,q.length];exact hi),Qx]
  cases e1:ds[i]? with
  |none=>rw[e1]at e;cases e
  |some d'=>
   rw[e1]at e;cases e;obtain⟨v,ev,rv⟩:=q.get e1
   exact⟨v,by rw[ev];rfl,rv⟩
 .rw[W4 (by simpa using hi),V3]at e
  split at e<;>cases e
end
section
variable{prog:Program}{w:World}{A:Around}{R:Result->Shared->Prop}{s:Shared}
theorem lN{elt target iter:Expr}{ifs:List Expr}{scope:Scope}{pos:Pos}{it acc:Value}{env:Env}(I:Nat->Shared->Prop)
  (turn:∀n s,I n s->wpAny (model prog w) A (pyNext it) (λr s1=>match r with
   |none=>R (.ok .next) s1
   |some v=>wpAny (model prog w) A (letOwnedTupleGo target it v) (λ_ s1'=>wpAny (model prog w) A (assign target env v) (λ_ s2=>
     wpAny (model prog w) A (forIn ifs true λc r=>if r=true then do let ok <- isTrue c env (eval c env);pure (ForInStep.yield ok) else pure (ForInStep.yield r)) (λok s3=>
      if ok=true then wpAny (model prog w) A (eval elt env) (λx s4=>
       wpAny (model prog w) A (call (.builtin "list.append") [acc,x]) (λ_ s5=>∃m,m<n/\I m s5) (λ_ _=>False) s4) (λ_ _=>False) s3
      else ∃m,m<n/\I m s3) (λ_ _=>False) s2) (λ_ _=>False) s1') (λ_ _=>False) s1) (λ_ _=>False) s)
  (n:Nat) (h:I n s):
  codeAny (model prog w) A (.compLoop (.ListComp elt [⟨target,iter,ifs,0⟩] scope pos) 0 it acc env) R s:=by
 refine codeAny_loop rfl I (λn s hI=>?_) n h
 show wpAny _ A ((compTurn (.ListComp elt [⟨target,iter,ifs,0⟩] scope pos) 0 it acc env).onRaise (λx=>do noteFrame x env;theTreesLotGoes x)) _ _ s
 refine wpAny_noted ?_;rw[compTurn_list];refine Y6 (wpAny_standAt (Y6 (W3 (turn n s hI) (λr s1 h1=>?_) λ_ _ h'=>h'.elim)));cases r with
 |none=>exact Yg h1
 |some v=>
  refine Y6 (W3 h1 (λ_ s1' h1'=>?_) λ_ _ h'=>h'.elim);refine Y6 (W3 h1' (λ_ s2 h2=>Y6 (W3 h2 (λok s3 h3=>?_) λ_ _ h'=>h'.elim)) λ_ _ h'=>h'.elim);cases ok with
  |false=>exact Yg ⟨rfl,h3⟩
  |true=>
   exact Y6 (Y6 (W3 h3 (λx s4 h4=>Y6 (W3 h4 (λ_ s5 h5=>Yg (Yg ⟨rfl,h5⟩)) λ_ _ h'=>h'.elim)) λ_ _ h'=>h'.elim))
end
def Dc(X:Cx)(ifs:List Expr)(t:TT):Prop:=
 ∀(pins:List (Addr×Obj))(s:Shared)(σ:L2.St)(H:Hp)(Q:Bool->Hp->Prop),Inv X pins σ H s->t σ H Q->
  wpAny (model X.prog X.w) X.A (forIn ifs true λc r=>if r=true then do let ok <- isTrue c X.env (eval c X.env);pure (ForInStep.yield ok) else pure (ForInStep.yield r)) (TP X pins σ Q) X.xe s
def Dd:Dc X [] (λ_ H Q=>Q true H):=λpins s σ H Q I h=>wpAny_tests_nil ⟨H,I,h⟩
def De{c:Expr}(h:PT X c t):Dc X [c] t:=λpins s σ H Q I q=>wpAny_tests_one (h pins s σ H Q I q)
def Ro(X:Cx)(N:List Str)(scope:Scope)(cl:List (Str×Addr))(s0:Shared)(H0:Hp)(ex:List Addr):Cx:=
 { X with N:=N,s₀:=s0,H₀:=H0,env:=compEnvC scope cl s0.heap.objs.size X.env,outer:=X.stack,ex:=ex,fn:=λ_=>false }
def nO(k:Nat)(PB:List Nat)(s:L2.St):L2.St:=List.replicate k none++PB.map λi=>(s[i]?).join
structure QW(X:Cx)(N:List Str)(k:Nat)(PB:List Nat)(scope:Scope):Prop where
 kind:scope.kind=.function
 VR:∀x∈scope.names,x.2≠.cell
 names:∀x∈scope.names,x.2=.local->scope.names.lookup x.1=some .local
 free:∀x∈scope.names,x.2=.free->X.env.kindOf x.1=some .cell\/X.env.kindOf x.1=some .free
 len:N.length=k+PB.length
 cap:∀t i,PB[t]?=some i->∃x,X.N[i]?=some x/\N[k+t]?=some x/\scope.names.lookup x=some .free
theorem eJ{A B:Type}[BEq A][LawfulBEq A]:∀{l:List (A×B)}{x:A}{b:B},l.lookup x=some b->(x,b)∈l
 |[],_,_,h=>by simp at h
 |(y,c)::r,x,b,h=>by
  rw[Qo]at h;cases e:x == y with
  |true=>
   rw[e]at h;have:=Uw e;subst this;cases h;exact Z4
  |false=>
   rw[e]at h;exact Z0 _ (eJ h)
theorem k7:∀(names:List (Str×NameKind))(cs:List (Str×Addr)),(∀x∈names,x.2=.free->∃c,env.cells.lookup x.1=some c)->
  ∃cl,(forIn names cs λ(x:Str×NameKind)(r:List (Str×Addr))=>(if x.2 == NameKind.free then do let a <- cellOf env x.1;pure (ForInStep.yield ((x.1,a)::r)) else pure (ForInStep.yield r):Sem (ForInStep (List (Str×Addr)))))=pure cl/\
   (∀p∈cl,p∈cs\/env.cells.lookup p.1=some p.2)/\(∀p∈cs,p∈cl)/\∀x∈names,x.2=.free->∃c,(x.1,c)∈cl
 |[],cs,_=>⟨cs,rfl,λp h=>.inl h,λp h=>h,λx h=>nomatch h⟩
 |(n,k)::r,cs,h=>by
  by_cases hk:k=.free
  .subst hk;obtain⟨c,hc⟩:=h (n,.free) Z4 rfl;obtain⟨cl,e,h1,h2,h3⟩:=k7 r ((n,c)::cs) λx hx=>h x (Z0 _ hx);refine⟨cl,?_,λp hp=>?_,λp hp=>h2 p (Z0 _ hp),λx hx hf=>?_⟩
   .rw[Ub]
    have hco:cellOf env n=pure c:=by unfold cellOf;rw[hc]
    simp only[beq_self_eq_true,Zi,hco,pure_bind];exact e
   .rcases h1 p hp with z|z
    .rcases Yb.mp z with z|z
     .subst z;exact .inr hc
     .exact .inl z
    .exact .inr z
   .rcases Yb.mp hx with z|z
    .subst z;exact⟨c,h2 _ Z4⟩
    .exact h3 x z hf
  .obtain⟨cl,e,h1,h2,h3⟩:=k7 r cs λx hx=>h x (Z0 _ hx)
   have hb:(k == NameKind.free)=false:=by simpa using hk
   refine⟨cl,?_,h1,h2,λx hx hf=>?_⟩
   .rw[Ub];simp only[hb,Ze,Qm,pure_bind];exact e
   .rcases Yb.mp hx with z|z
    .subst z;exact absurd hf hk
    .exact h3 x z hf
theorem nP(h:∀x∈scope.names,x.2=.free->∃c,env.cells.lookup x.1=some c):
  ∃cl,closureFor scope env=pure cl/\(∀x c,cl.lookup x=some c->env.cells.lookup x=some c)/\∀x∈scope.names,x.2=.free->∃c,cl.lookup x.1=some c:=by
 obtain⟨cl,e,h1,h2,h3⟩:=k7 (env:=env) scope.names [] h;refine⟨cl,?_,λx c hx=>?_,λx hx hf=>?_⟩
 .unfold closureFor
  show((forIn scope.names [] λ(x:Str×NameKind)(r:List (Str×Addr))=>(if x.2 == NameKind.free then do let a <- cellOf env x.1;pure (ForInStep.yield ((x.1,a)::r)) else pure (ForInStep.yield r):Sem (ForInStep (List (Str×Addr))))) >>= λl=>pure l)=pure cl
  rw[e,pure_bind]
 .rcases h1 _ (eJ hx) with z|z
  .exact nomatch z
  .exact z
 .obtain⟨c,hc⟩:=h3 x hx hf;cases e2:cl.lookup x.1 with
  |some c'=>exact⟨c',rfl⟩
  |none=>
   rw[List.lookup_eq_none_iff]at e2;have:=e2 _ hc;simp at this
def wd{k:NameKind}(h:(relabel scope env).names.lookup x=some k):(x,k)∈scope.names\/(k=.cell/\(x,NameKind.free)∈scope.names):=by
 have m:=eJ h;obtain⟨⟨n,j⟩,hn,e⟩:=Yt.mp m;dsimp only at e;split at e
 .rename_i hc;cases e
  have:j=NameKind.free:=by have:=(Z5 _ _ |>.mp (Z5 _ _ |>.mp hc).1).1;simpa using this
  subst this;exact .inr ⟨rfl,hn⟩
 .cases e;exact .inl hn
theorem lO{scope:Scope}{env:Env}{x:Str}:∀{names:List (Str×NameKind)},names.lookup x=some .free->
  ((names.map λ(n,k)=>if (k == NameKind.free&&env.scope.kind == .function&&env.kindOf n == some .cell) then (n,NameKind.cell) else (n,k)).lookup x=some .cell) \/
  ((names.map λ(n,k)=>if (k == NameKind.free&&env.scope.kind == .function&&env.kindOf n == some .cell) then (n,NameKind.cell) else (n,k)).lookup x=some .free)
 |[],h=>by simp at h
 |(n,k)::r,h=>by
  have ih:=@lO scope env x r;simp only[Y8];cases hx:x == n with
  |true=>
   simp only[Qo,hx]at h;cases h;by_cases hc:(NameKind.free == NameKind.free&&env.scope.kind == .function&&env.kindOf n == some .cell)=true
   .left;rw[Y9 hc];simp[Qo,hx]
   .right;rw[Yj hc];simp[Qo,hx]
  |false=>
   simp only[Qo,hx]at h;by_cases hc:(k == NameKind.free&&env.scope.kind == .function&&env.kindOf n == some .cell)=true
   .rw[Y9 hc];simp only[Qo,hx];exact ih h
   .rw[Yj hc];simp only[Qo,hx];exact ih h
section
variable{X:Cx}{pins:List (Addr×Obj)}{σ:L2.St}{H:Hp}{s:Shared}
theorem pG{k:Nat}{cl:List (Str×Addr)}{fp:List Addr}{h':Heap}{m:Str->Option Value}{t:Nat}(I:Inv X pins σ H s)(C:QW X N k PB scope)
  (hcl:∀x c,cl.lookup x=some c->X.env.cells.lookup x=some c) (hcf:∀x∈scope.names,x.2=.free->∃c,cl.lookup x.1=some c)
  (hfp:∀b∈fp,RT X pins H b/\b<s.heap.objs.size) (hn:h'.Ns s.heap.objs.size m) (hk:∀b o,s.heap.get? b=some o->h'.get? b=some o):
  Inv (Ro X N scope cl s H fp) pins (nO k PB σ) H { s with heap:=h',toks:=t }:=by
 have hfs:∀b,b∈frs X.stack->b<s.heap.objs.size:=λb hb=>by obtain⟨_,o,ho,_⟩:=I.stack.mem hb;exact Yl ho
 refine⟨⟨I.ok.mod,C.kind,I.ok.glob,I.ok.blt,Yh _,λx y c h1 h2=>I.ok.inj x y c (hcl x c h1) (hcl y c h2),λx hx=>?_,(λx c h=>nomatch h),I.ok.hd,I.ok.frames,.inl rfl,λb hb=>?_,λb o e=>?_,?_,λb o e hb=>?_,λb hb=>?_,I.stack,λb hb=>I.WT b hb⟩,
  rfl,I.bare,Un.kept hk,?_,λx c e=>?_,I.hok.fresh (Yh _),λx c e=>I.RJ x c (hcl x c e),λp hp=>?_,I.hok.kept hk,?_⟩
 ·-- has
  have key:∀kk,(kk=NameKind.cell\/kk=NameKind.free)->(relabel scope X.env).names.lookup x=some kk->∃c,cl.lookup x=some c:=λkk hkk hl=>by
   rcases wd hl with z|⟨_,z⟩
   .rcases hkk with q|q
    .subst q;exact absurd rfl (C.VR _ z)
    .subst q;exact hcf _ z rfl
   .exact hcf _ z rfl
  rcases hx with z|z
  .exact key _ (.inl rfl) z
  .exact key _ (.inr rfl) z
 .obtain⟨f,lt⟩:=hfp b hb;exact⟨Yv lt,λx c e=>f.2.2.2.2.1 x c (hcl x c e)⟩
 .exact I.bs b o e
 .exact Yw I.ok.YJ I.sz
 .obtain⟨f,lt⟩:=hfp b hb;rcases f.2.2.2.1 with z|z
  .exact I.ok.Xr b o e z
  .exact absurd (Ys (Yl e) (Yw I.ok.YJ z)) (Qd _)
 .obtain⟨f,lt⟩:=hfp b hb;intro z;rcases Yb.mp (I.R1 b z) with q|q
  .exact f.2.1 q
  .exact f.2.2.1 q
 .obtain⟨m0,hn0,hl0⟩:=I.loc;refine⟨m,hn,λi x v e1 e2 e3=>?_⟩;unfold nO at e2;by_cases hi:i<k
  .rw[Z1 (by simpa using hi),V3]at e2
   split at e2<;>cases e2
  .rw[W4 (by simpa using hi),Qx,Wn]at e2
   cases ec:PB[i-k]? with
   |none=>rw[ec]at e2;cases e2
   |some j=>
    rw[ec]at e2;have e2':(σ[j]?).join=some v:=Z8 e2;obtain⟨y,hy1,hy2,hy3⟩:=C.cap _ _ ec;have e1':N[i]?=some x:=e1
    rw[show k+(i-k)=i by omega]at hy2
    rw[hy2]at e1';have exy:y=x:=Z8 e1';subst exy;have hfr:(y,NameKind.free)∈scope.names:=eJ hy3
    have hsj:σ[j]?=some (some v):=by
     cases q:σ[j]? with
     |none=>rw[q]at e2';cases e2'
     |some o=>rw[q]at e2';rw[show o=some v from e2']
    have kinds:=C.free _ hfr rfl
    have aaJ:Vis X.env.scope y:=by
     rcases kinds with z|z
     .exact .inr (.inl z)
     .exact .inr (.inr z)
    obtain⟨u,ru,lk⟩:=hl0 j y v hy1 hsj aaJ;refine⟨u,ru,?_⟩;rcases lk with⟨z,_⟩|⟨_,c,hc,hcell⟩
    .rcases kinds with q|q<;>(rw[q]at z;cases z)
    .obtain⟨c',hc'⟩:=hcf _ hfr rfl;have:=hcl _ _ hc';rw[hc]at this;cases this;refine .inr ⟨?_,c,hc',hcell.keeps hk⟩;exact lO (scope:=scope) (env:=X.env) hy3
 .obtain⟨v,z⟩:=I.cell x c (hcl x c e);exact⟨v,z.keeps hk⟩
 .obtain⟨e,n,ne,nf,d⟩:=I.pin p hp;refine⟨hk _ _ e,n,Yv (Yl e),λz=>?_,d⟩;rcases Yb.mp (I.R1 _ z) with q|q
  .exact ne q
  .exact nf q
 .unfold nO;show _=N.length;rw[C.len];simp
end
def zU(wi:TI)(k:Nat)(PB:List Nat)(g:TG)(tt:TT)(te:TE):TE:=λσ H Q=>wi σ H λJ H1=>∀p,H1 p=none->∃W:Nat->Nat->L2.St->Hp->Prop,(∃m,W 0 m (nO k PB σ) (upd H1 p (.lst [])))/\∀i m σ' H',W i m σ' H'->
 (J.stop i H'/\Q (.ref p) H')\/(J.go i H'/\∃N:L2.St->Hp->Prop,(∀σ2 H2,N σ2 H2->∃m',m'<m/\W (i+1) m' σ2 H2)/\
  ∀x H3,J.X5 i H' x H3->g x σ' H3 λσ4 H4=>tt σ4 H4 λb H5=>if b=true then te σ4 H5 λy H6=>∃ys,H6 p=some (.lst ys)/\ys.length<sizeLine/\N σ4 (upd H6 p (.lst (ys++[y]))) else N σ4 H5)
theorem Df{elt tg iter:Expr}{ifs:List Expr}{pos:Pos}{k:Nat}{wi:TI}{g:TG}{tt:TT}{te:TE}(hX:Cd qb X)(Y4:∀e s,¬X.xe e s)(C:QW X N k PB scope)
  (hi:PIb qb X tg iter wi) (hg:∀cl s0 H0 ex,Cd qb (Ro X N scope cl s0 H0 ex)->PG (Ro X N scope cl s0 H0 ex) tg g) (ht:∀cl s0 H0 ex,Cd qb (Ro X N scope cl s0 H0 ex)->Dc (Ro X N scope cl s0 H0 ex) ifs tt) (he:∀cl s0 H0 ex,Cd qb (Ro X N scope cl s0 H0 ex)->PE (Ro X N scope cl s0 H0 ex) elt te)
  (hs:∀x,foldedSetIterable iter X.env x=pure x:=by intro _;kernel_rfl):PE X (.ListComp elt [⟨tg,iter,ifs,0⟩] scope pos) (zU wi k PB g tt te):=by
 intro pins s σ H Q I h;have ZC:∀{α:Type}{t:Sem α}{Q':α->Shared->Prop}{s':Shared},wpAny (model X.prog X.w) X.A t Q' X.xe s'->wpAny (model X.prog X.w) X.A t Q' (λ_ _=>False) s':=λh=>W3 h (λ_ _ x=>x) λe s z=>Y4 e s z;obtain⟨cl,hclos,hcl,hcf⟩:=nP (scope:=scope) (env:=X.env) λx hx hf=>I.ok.has _ (C.free x hx hf);rw[eval_ListComp];refine wpAny_comprehension_free (use:=none) (cl:=cl) rfl hs hclos C.kind C.names ?_;refine PX (hi pins s σ H _ I h) λv s1 h1=>PX h1 λitv s2 h2=>?_;obtain⟨it,fp,tn,J,H2,e,I2,T,st2,f2,q⟩:=h2;subst e
 refine M5 (items:=[]) ?_ (by show 0<=sizeLine;exact Zs _)
 have hp:H2 s2.heap.objs.size=none:=I2.hok.fresh (Yh _);obtain⟨W,⟨m0,w0⟩,turn⟩:=q _ hp
 have I3:Inv X pins σ (upd H2 s2.heap.objs.size (.lst [])) { s2 with heap:=s2.heap.push { cls:=.type "list",data:=.seq ([]:List Value).toArray } }:=
  I2.laid (t':=s2.toks) (λb u e=>Y7 _ e) (Yh _) ⟨Zs _,[],0,.nil,Ye _ rfl⟩
 refine wpAny_newFunctionEnv C.VR (λx hx=>nomatch hx) (λh4 hn4 hs4=>?_) C.kind
 have WD:∀b∈fp,b<s2.heap.objs.size:=λb hb=>by obtain⟨o,ho,_⟩:=T.obj _ _ st2 b hb;exact Yl ho
 have hk4:∀b o,(s2.heap.push { cls:=.type "list",data:=.seq ([]:List Value).toArray }).get? b=some o->h4.get? b=some o:=λb o e=>by
  have ne:b≠(s2.heap.push { cls:=.type "list",data:=.seq ([]:List Value).toArray }).objs.size:=Yv (Yl e)
  rw[hs4.2 b ne];exact Y7 _ e
 have f3:∀b∈fp,RT X pins (upd H2 s2.heap.objs.size (.lst [])) b:=λb hb=>by
  obtain⟨a1,a2⟩:=f2 b hb
  exact⟨by rw[aQ (Yv (WD b hb))];exact a1,a2⟩
 have I4:=pG (N:=N) (k:=k) (PB:=PB) (scope:=scope) (cl:=cl) (fp:=fp) (t:=s2.toks+0) I3 C hcl hcf (λb hb=>⟨f3 b hb,by rw[show({ s2 with heap:=s2.heap.push { cls:=.type "list",data:=.seq ([]:List Value).toArray } }:Shared).heap.objs.size=s2.heap.objs.size+1 from Z2 ..];exact We (WD b hb)⟩) hn4 hk4
 have tn4:tn 0 h4:=T.keep _ _ _ st2 λb hb o e=>hk4 b o (Y7 _ e)
 have loop:codeAny (model X.prog X.w) X.A (.compLoop (.ListComp elt [⟨tg,iter,ifs,0⟩] scope pos) 0 (.ref it) (.ref s2.heap.objs.size) (compEnvC scope cl ({ s2 with heap:=s2.heap.push { cls:=.type "list",data:=.seq ([]:List Value).toArray } }:Shared).heap.objs.size X.env))
   (compPost (model X.prog X.w) X.A X.xe none (EP X pins σ Q) (.ref s2.heap.objs.size) ({ s2 with heap:=s2.heap.push { cls:=.type "list",data:=.seq ([]:List Value).toArray } }:Shared).heap.objs.size) { s2 with heap:=h4,toks:=s2.toks+0 }:=by
  generalize hs3:({ s2 with heap:=s2.heap.push { cls:=.type "list",data:=.seq ([]:List Value).toArray } }:Shared)=s3 at *
  have sz3:s2.heap.objs.size<=s3.heap.objs.size:=by rw[<- hs3];show _<=(s2.heap.push _).objs.size;rw[Z2];exact Ws _
  have k23:∀b o,s2.heap.get? b=some o->s3.heap.get? b=some o:=λb o e=>by rw[<- hs3];exact Y7 _ e
  have hos:s3.os=s2.os:=by rw[<- hs3]
  have stat:∀{H':Hp},(∀b∈fp,H' b=none)->∀b∈fp,RT (Ro X N scope cl s3 (upd H2 s2.heap.objs.size (.lst [])) fp) pins H' b:=λ{H'} hn b hb=>by
   obtain⟨a1,a2,a3,a4,a5,a6⟩:=f3 b hb;refine⟨hn b hb,Yv (Ys (WD b hb) sz3),λz=>?_,.inl hb,λx c e=>a5 x c (hcl x c e),a6⟩;rcases Yb.mp (I2.R1 b z) with q|q
   .exact a2 q
   .exact a3 q
  have I4':Inv (Ro X N scope cl s3 (upd H2 s2.heap.objs.size (.lst [])) fp) pins (nO k PB σ) (upd H2 s2.heap.objs.size (.lst [])) { s2 with heap:=h4,toks:=s2.toks+0 }:=by subst hs3;exact I4
  have hX2:Cd qb (Ro X N scope cl s3 (upd H2 s2.heap.objs.size (.lst [])) fp):=by
   rcases hX with z|⟨z,y|⟨a,o,u,e1,e2,e3⟩⟩
   .exact .inl z
   .exact .inr ⟨z,.inl y⟩
   .refine .inr ⟨z,.inr ⟨a,o,u,e1,?_,e3⟩⟩;have q0:=I2.base.Ry a o u e2;show upd H2 s2.heap.objs.size (.lst []) a=_
    rw[aQ (λy=>by rw[y,hp]at q0;cases q0)]
    exact q0
  refine lN (λn s'=>∃i σ' H',Inv (Ro X N scope cl s3 (upd H2 s2.heap.objs.size (.lst [])) fp) pins σ' H' s'/\tn i s'.heap/\(∀b∈fp,H' b=none)/\W i n σ' H') ?_ m0 ⟨0,_,_,I4',tn4,λb hb=>(f3 b hb).1,w0⟩;rintro n s5 ⟨i,σ5,H5,I5,YM,fr5,w5⟩;rcases turn i n σ5 H5 w5 with⟨stop,qn⟩|⟨go,Nn,hN,step⟩
  .refine PX (T.done (Ro X N scope cl s3 (upd H2 s2.heap.objs.size (.lst [])) fp) rfl rfl rfl hX2 i pins s5 σ5 H5 _ I5 (stat fr5) YM stop) λr s6 zq=>?_;obtain⟨hr,I6⟩:=zq;subst hr;obtain⟨m6,hn6,_⟩:=I6.loc;refine⟨m6,hn6,λh7 hs7=>⟨.ref s2.heap.objs.size,H5,?_,rfl,qn⟩⟩;have u1:Un (frs X.stack) fp H2 (upd H2 s2.heap.objs.size (.lst [])) s2.heap s3.heap:=Un.laid k23 (Yh _) hp;have u2:Un (frs X.stack) fp H2 H5 s2.heap s6.heap:=u1.trans I6.base;have Xm:∀b o,s2.heap.get? b=some o->b≠s3.heap.objs.size:=λb o e=>Yv (Ys (Yl e) sz3);have hfree:H5 s3.heap.objs.size=none:=I6.free
   refine I2.call' (s':={ s6 with heap:=h7 }) (ch:=fp) (by rw[<- hos];exact I6.os) ⟨λb o e n hb hx=>?_,λb o e n hb hx=>?_,u2.free,λb o e hx=>?_,u2.tups,u2.Ry,u2.R0⟩ (λb ob e=>?_) I6.bare λb hb=>?_
   .exact(hs7.2 b (Xm b o e)).trans (u2.keep b o e n hb hx)
   .obtain⟨sl,e1⟩:=u2.slot b o e n hb hx;exact⟨sl,(hs7.2 b (Xm b o e)).trans e1⟩
   .obtain⟨o',e1⟩:=u2.there b o e hx;exact⟨o',(hs7.2 b (Xm b o e)).trans e1⟩
   .refine(I6.hok b ob e).stay (λc v hc z=>(hs7.2 c ?_).trans z) (λ_ z=>z) λ_ _ z=>z;intro y;rcases hc with z|z
    .rw[<- z,y,hfree]at e;cases e
    .rw[y,hfree]at z;cases z
   .obtain⟨a1,a2,a3,a4,a5,a6⟩:=f2 b hb;exact⟨a4,a2,a5,a6⟩
  .refine PX (T.item (Ro X N scope cl s3 (upd H2 s2.heap.objs.size (.lst [])) fp) rfl rfl rfl hX2 i pins s5 σ5 H5 _ I5 (stat fr5) YM go) λr s6 zq=>?_;obtain⟨u,hr,h6⟩:=zq;subst hr;refine PX h6 λ_ s7 zq=>?_;obtain⟨x,H7,I7,r7,y7,st7,fr7⟩:=zq;have I7':=I7.pinned (stat fr7) (T.obj _ _ st7);refine ZC (PX (hg cl s3 _ fp hX2 _ s7 σ5 H7 x u _ I7' r7 (step x H7 y7)) λ_ s8 zq=>?_);obtain⟨σ8,H8,I8,q8⟩:=zq;refine ZC (PX (ht cl s3 _ fp hX2 _ s8 σ8 H8 _ I8 q8) λok s9 zq=>?_);obtain⟨H9,I9,q9⟩:=zq
   have again:∀{s':Shared}{σ':L2.St}{H':Hp},Inv (Ro X N scope cl s3 (upd H2 s2.heap.objs.size (.lst [])) fp) (pins++mI fp s7.heap) σ' H' s'->Nn σ' H'->
     ∃m,m<n/\∃i σ' H',Inv (Ro X N scope cl s3 (upd H2 s2.heap.objs.size (.lst [])) fp) pins σ' H' s'/\tn i s'.heap/\(∀b∈fp,H' b=none)/\W i m σ' H':=λ{s' σ' H'} I' n'=>by
    obtain⟨m',hm,w'⟩:=hN σ' H' n';refine⟨m',hm,i+1,σ',H',I'.Rt,T.keep _ _ _ st7 λb hb o e=>(I'.pin (b,o) (Yz _ (Yz _ (ff hb e)))).1,λb hb=>?_,w'⟩;obtain⟨o,e,d⟩:=T.obj _ _ st7 b hb;exact(I'.pin (b,o) (Yz _ (Yz _ (ff hb e)))).2.1
   cases ok with
   |false=>exact again I9 q9
   |true=>
    refine ZC (PX (he cl s3 _ fp hX2 _ s9 σ8 H9 _ I9 q9) λy s10 zq=>?_);obtain⟨yv,H10,I10,r10,ys,hys,hlt,q10⟩:=zq;refine ZC (PX (mL (X:=Ro X N scope cl s3 (upd H2 s2.heap.objs.size (.lst [])) fp) _ s10 σ8 H10 (.ref s2.heap.objs.size) [yv] _ [y] (λ_ H'=>Nn σ8 H') I10 rfl (.cons r10 .nil) ⟨_,ys,yv,rfl,rfl,hys,hlt,q10⟩) λ_ s11 zq=>?_);obtain⟨_,H11,I11,_,q11⟩:=zq;exact again I11 q11
 exact codeAny_compStart_list loop (T.self X.A 0 _ _ _ tn4 loop)
def dH(i:Int):Prop:=-(2^64)<i/\i<2^64
noncomputable instance (i:Int):Decidable (dH i):=by unfold dH;infer_instance
def aY:Pz->D->D->Option D
 |_,.int i,.int j=>some (.int (i+j))
 |_,.str a,.str b=>if a.length+b.length<=sizeLine then some (.str (a++b)) else none
 |_,.tup a,.tup b=>if a.length+b.length<=sizeLine then some (.tup (a++b)) else none
 |_,.lst a,.lst b=>if a.length+b.length<=sizeLine then some (.lst (a++b)) else none
 |_,_,_=>none
def gC:Pz->D->D->Option D
 |_,.int i,.int j=>some (.int (i-j))
 |_,_,_=>none
def dn:Pz->D->D->Option D
 |_,.int i,.int j=>if dH i\/dH j then some (.int (i*j)) else none
 |_,.tup a,.int k=>if -(2^63)<=k/\k<2^63/\a.length*k.toNat<=sizeLine then some (.tup (List.replicate k.toNat a).flatten) else none
 |_,.lst a,.int k=>if -(2^63)<=k/\k<2^63/\a.length*k.toNat<=sizeLine then some (.lst (List.replicate k.toNat a).flatten) else none
 |_,_,_=>none
def jr:Pz->D->D->Option D
 |_,.int i,.int j=>if 0<j/\j<1073741824 then some (.int (i/j)) else none
 |_,_,_=>none
def oMod:Pz->D->D->Option D
 |_,.int i,.int j=>if 0<j then some (.int (i%j)) else none
 |_,_,_=>none
def pH:Pz->D->D->Option D
 |_,.int i,.int j=>if 0<=j/\j<=1000000/\i.natAbs<2^64 then some (.int (i^j.toNat)) else none
 |_,_,_=>none
def yA:Pz->D->Option D
 |_,.int i=>some (.int (-i))
 |_,_=>none
def mP(p:Int->Int->Bool):Pz->D->D->Option D
 |_,.int i,.int j=>some (.bl (p i j))
 |_,_,_=>none
abbrev oLt:=mP λi j=>decide (i<j)
abbrev oLe:=mP λi j=>decide (i<=j)
abbrev X8:=mP λi j=>decide (j<i)
abbrev Xo:=mP λi j=>decide (j<=i)
def Xg:D->D->Option Bool
 |.int i,.int j=>some (decide (i=j))
 |.bl i,.bl j=>some (decide (i=j))
 |.str i,.str j=>some (decide (i=j))
 |.non,.non=>some true
 |.non,.int _=>some false
 |.int _,.non=>some false
 |.non,.bl _=>some false
 |.bl _,.non=>some false
 |.non,.str _=>some false
 |.str _,.non=>some false
 |.int _,.str _=>some false
 |.str _,.int _=>some false
 |.bl _,.str _=>some false
 |.str _,.bl _=>some false
 |_,_=>none
def oEq:Pz->D->D->Option D:=λ_ a b=>(Xg a b).map .bl
def oNe:Pz->D->D->Option D:=λ_ a b=>(Xg a b).map λc=>.bl (!c)
def iI:D->Bool
 |.non=>true
 |.bl _=>true
 |.int _=>true
 |.str _=>true
 |_=>false
def eqF:D->D->Bool
 |.non,.non=>true
 |.bl a,.bl b=>a == b
 |.bl a,.int b=>(if a then 1 else 0) == b
 |.int a,.bl b=>a == (if b then 1 else 0)
 |.int a,.int b=>a == b
 |.str a,.str b=>a == b
 |_,_=>false
def cc(S:Pz):D->Option (List D)
 |.tup a=>some a
 |.lst a=>some a
 |.fz a=>some a
 |.ref n=>match S[n]? with
  |some (.lst a)=>some a
  |some (.RP a)=>some a
  |_=>none
 |_=>none
def oIn(neg:Bool):Pz->D->D->Option D:=λS x y=>match cc S y with
 |some a=>if iI x=true/\a.all iI=true then some (.bl (if neg then !(a.any λz=>eqF z x) else a.any λz=>eqF z x)) else none
 |none=>none
def QV:Pz->D->D->Option D:=λS x y=>match cc S x,y with
 |some a,.int i=>Tt a i
 |_,_=>none
def cutD(xs:List D)(lo hi:Option Int):List D:=(xs.drop (HT.QH xs.length 0 lo)).take (HT.QH xs.length xs.length hi-HT.QH xs.length 0 lo)
section
variable{X:Cx}{E:XK}
theorem RD.int{K:Frag}{v:V}(q:RD K w H (.int i) v):v=.int i:=by unfold RD at q;exact q
theorem RD.bl{K:Frag}{i:Bool}{v:V}(q:RD K w H (.bl i) v):v=.bl i:=by unfold RD at q;exact q
theorem RD.str{K:Frag}{i:Str}{v:V}(q:RD K w H (.str i) v):v=.str i:=by unfold RD at q;exact q
theorem RD.non{K:Frag}{v:V}(q:RD K w H .non v):v=.non:=by unfold RD at q;exact q
def RD.Sh{K:Frag}:RD K w H (.int i) (.int i):=by unfold RD;rfl
def RD.Tv{K:Frag}{i:Bool}:RD K w H (.bl i) (.bl i):=by unfold RD;rfl
def RD.Xx{K:Frag}{i:Str}:RD K w H (.str i) (.str i):=by unfold RD;rfl
def RD.tupI{K:Frag}{ds:List D}{v:V}(q:RD K w H (.tup ds) v):∃a vs,v=.ref a/\(At w H a (.tup vs)\/uc K a vs)/\PJ K w H ds vs:=by unfold RD at q;exact q
def RD.R6{K:Frag}{ds:List D}{v:V}(q:RD K w H (.lst ds) v):∃a vs,v=.ref a/\At w H a (.lst vs)/\PJ K w H ds vs:=by unfold RD at q;exact q
def RD.fzI{K:Frag}{ds:List D}{v:V}(q:RD K w H (.fz ds) v):∃a vs,v=.ref a/\yz K w H a vs/\PJ K w H ds vs:=by unfold RD at q;exact q
def RD.Rz{K:Frag}{n:Nat}{v:V}(q:RD K w H (.ref n) v):∃a,v=.ref a/\w.st[n]?=some a:=by unfold RD at q;exact q
def RD.Td{K:Frag}{ds:List D}{vs:List V}(s:RS K w H S)(hp:H p=none)(q:PJ K w H ds vs):RD K w (upd H p (.tup vs)) (.tup ds) (.ref p):=by unfold RD;exact⟨p,vs,rfl,.inl ⟨aU,s.fresh hp⟩,PJ.ext (Ext.new hp) _ _ q⟩
def RD.Te{K:Frag}{ds:List D}{vs:List V}(s:RS K w H S)(hp:H p=none)(q:PJ K w H ds vs):RD K w (upd H p (.lst vs)) (.lst ds) (.ref p):=by unfold RD;exact⟨p,vs,rfl,⟨aU,s.fresh hp⟩,PJ.ext (Ext.new hp) _ _ q⟩
def IA{f:Value->Value->Sem Value}{C:Int->Int->Prop}{g:Int->Int->D}{gv:Int->Int->V}{o:Pz->D->D->Option D}(h:QS X f (rI C gv))(hg:∀K w H i j,RD K w H (g i j) (gv i j))
  (ho:∀S d e z,o S d e=some z->∃i j,d=.int i/\e=.int j/\C i j/\z=g i j):QS X f (xO X.K E o):=by
 rintro pins s σ H x y v u Q I rx ry ⟨w,S,d,e,hS,qd,qe,p⟩;obtain⟨z,hz,p⟩:=p.of;obtain⟨i,j,rfl,rfl,c,rfl⟩:=ho _ _ _ _ hz;cases qd.int;cases qe.int;exact h pins s σ H _ _ v u Q I rx ry ⟨i,j,rfl,rfl,c,p.ret (hg _ _ _ _ _) hS⟩
def we{f:Value->Value->Sem Value}{g:Int->Int->D}{gv:Int->Int->V}{o:Pz->D->D->Option D}(h:QS X f (YQ gv))(hg:∀K w H i j,RD K w H (g i j) (gv i j))
  (ho:∀S d e z,o S d e=some z->∃i j,d=.int i/\e=.int j/\z=g i j):QS X f (xO X.K E o):=by
 rintro pins s σ H x y v u Q I rx ry ⟨w,S,d,e,hS,qd,qe,p⟩;obtain⟨z,hz,p⟩:=p.of;obtain⟨i,j,rfl,rfl,rfl⟩:=ho _ _ _ _ hz;cases qd.int;cases qe.int;exact h pins s σ H _ _ v u Q I rx ry ⟨i,j,rfl,rfl,p.ret (hg _ _ _ _ _) hS⟩
def il:QS X (binaryOp .Sub) (xO X.K E gC):=we (g:=λi j=>.int (i-j)) HU (λ_ _ _ _ _=>RD.Sh) λS d e z h=>by
 unfold gC at h;split at h
 .cases h;exact⟨_,_,rfl,rfl,rfl⟩
 .cases h
def oT:QS X (binaryOp .FloorDiv) (xO X.K E jr):=IA (g:=λi j=>.int (i/j)) Fj (λ_ _ _ _ _=>RD.Sh) λS d e z h=>by
 unfold jr at h;split at h
 .split at h
  .cases h;exact⟨_,_,rfl,rfl,by assumption,rfl⟩
  .cases h
 .cases h
def jO:QS X (binaryOp .Mod) (xO X.K E oMod):=IA (g:=λi j=>.int (i%j)) HW (λ_ _ _ _ _=>RD.Sh) λS d e z h=>by
 unfold oMod at h;split at h
 .split at h
  .cases h;exact⟨_,_,rfl,rfl,by assumption,rfl⟩
  .cases h
 .cases h
def uh:QS X (binaryOp .Pow) (xO X.K E pH):=IA (g:=λi j=>.int (i^j.toNat)) HX (λ_ _ _ _ _=>RD.Sh) λS d e z h=>by
 unfold pH at h;split at h
 .split at h
  .cases h;exact⟨_,_,rfl,rfl,by assumption,rfl⟩
  .cases h
 .cases h
def lP{p:Int->Int->Bool}{d e z:D}(h:mP p S d e=some z):∃i j,d=.int i/\e=.int j/\z=.bl (p i j):=by
 unfold mP at h;split at h
 .cases h;exact⟨_,_,rfl,rfl,rfl⟩
 .cases h
def pI:QS X (compareOp .Lt) (xO X.K E oLt):=we (g:=λi j=>.bl (decide (i<j))) Kb (λ_ _ _ _ _=>RD.Tv) λS d e z h=>lP h
def wg:QS X (compareOp .LtE) (xO X.K E oLe):=we (g:=λi j=>.bl (decide (i<=j))) Kc (λ_ _ _ _ _=>RD.Tv) λS d e z h=>lP h
def zV:QS X (compareOp .Gt) (xO X.K E X8):=we (g:=λi j=>.bl (decide (j<i))) Ke (λ_ _ _ _ _=>RD.Tv) λS d e z h=>lP h
def wj:QS X (compareOp .GtE) (xO X.K E Xo):=we (g:=λi j=>.bl (decide (j<=i))) Kf (λ_ _ _ _ _=>RD.Tv) λS d e z h=>lP h
def Dg:UnR X (unaryOp .USub) (xU X.K E yA):=by
 rintro pins s σ H x v Q I rx ⟨w,S,d,hS,qd,p⟩;obtain⟨z,hz,p⟩:=p.of;unfold yA at hz;split at hz
 .cases hz;cases qd.int;exact HY pins s σ H _ v Q I rx ⟨_,rfl,p.ret RD.Sh hS⟩
 .cases hz
def Dh{K:Frag}{d e:D}{x y:V}{c:Bool}(qd:RD K w H d x)(qe:RD K w H e y)(h:Xg d e=some c):HZ x y=true/\decide (x=y)=c:=by
 unfold Xg at h
 split at h<;>(try (cases h;done))<;>(unfold RD at qd qe;subst qd;subst qe;cases h;refine⟨rfl,?_⟩;simp)
def Ky:QS X (compareOp .Eq) (xO X.K E oEq):=by
 rintro pins s σ H x y v u Q I rx ry ⟨w,S,d,e,hS,qd,qe,p⟩;obtain⟨z,hz,p⟩:=p.of;unfold oEq at hz;cases h:Xg d e with
 |none=>rw[h]at hz;cases hz
 |some c=>
  rw[h]at hz;cases hz;obtain⟨h1,h2⟩:=Dh qd qe h
  exact J9 pins s σ H _ _ v u Q I rx ry ⟨h1,by rw[h2];exact p.ret RD.Tv hS⟩
def Kz:QS X (compareOp .NotEq) (xO X.K E oNe):=by
 rintro pins s σ H x y v u Q I rx ry ⟨w,S,d,e,hS,qd,qe,p⟩;obtain⟨z,hz,p⟩:=p.of;unfold oNe at hz;cases h:Xg d e with
 |none=>rw[h]at hz;cases hz
 |some c=>
  rw[h]at hz;cases hz;obtain⟨h1,h2⟩:=Dh qd qe h
  exact Ka pins s σ H _ _ v u Q I rx ry ⟨h1,by rw[h2];exact p.ret RD.Tv hS⟩
def pJ{K:Frag}{d:D}{v:V}{a:List D}(s:RS K w H S)(q:RD K w H d v)(h:cc S d=some a):∃p vs,v=.ref p/\(Rm K H p vs\/Tp K H p vs)/\PJ K w H a vs:=by
 unfold cc at h;split at h
 .cases h;obtain⟨p,vs,e,z,r⟩:=q.tupI;exact⟨p,vs,e,.inr (dm z),r⟩
 .cases h;obtain⟨p,vs,e,z,r⟩:=q.R6;exact⟨p,vs,e,.inl (Rm.of z.1),r⟩
 .cases h;obtain⟨p,vs,e,z,r⟩:=q.fzI;exact⟨p,vs,e,.inl z.sq,r⟩
 .split at h
  .rename_i n b hn;cases h;obtain⟨p,e,hp⟩:=q.Rz;obtain⟨p',hp',vs,hv,r⟩:=s.obj _ _ hn;rw[hp]at hp';cases hp';exact⟨p,vs,e,.inl (Rm.of hv),r⟩
  .rename_i n b hn;cases h;obtain⟨p,e,hp⟩:=q.Rz;obtain⟨p',hp',o,vs,hv,r⟩:=s.obj _ _ hn;rw[hp]at hp';cases hp';exact⟨p,vs,e,.inl (.inl (.inr ⟨o,hv⟩)),r⟩
  .cases h
 .cases h
theorem PJ.Tt{K:Frag}{a:List D}{vs:List V}{d:D}(r:PJ K w H a vs)(h:Tt a i=some d):∃v,L2.Tt vs i=some v/\RD K w H d v:=by
 unfold L2.Tt at h ⊢;rw[r.length];cases e:Xn a.length i with
 |none=>rw[e]at h;cases h
 |some j=>
  rw[e]at h
  obtain⟨v,ev,rv⟩:=r.get (show a[j]?=some d from h)
  exact⟨v,ev,rv⟩
def cG:UL X (xO X.K E QV):=by
 rintro va sl pins s σ H x y v u Q I rx ry ⟨w,S,d,e,hS,qd,qe,p⟩ hsub;obtain⟨z,hz,p'⟩:=p.of;clear p;unfold QV at hz;split at hz
 .rename_i a i ha;obtain⟨q,vs,rfl,sq,r⟩:=pJ hS qd ha;cases qe.int;obtain⟨v',ev,rv⟩:=r.Tt hz;exact CV va sl pins s σ H _ _ v u Q I rx ry (sq.elim (λz=>.inl ⟨q,vs,i,v',rfl,rfl,z,ev,p'.ret rv hS⟩) λz=>.inr (.inl ⟨q,vs,i,v',rfl,rfl,z,ev,p'.ret rv hS⟩)) hsub
 .cases hz
def zW{K:Frag}{d:D}{v:V}(q:RD K w H d v)(h:iI d=true):kM v=true:=by
 unfold iI at h;split at h
 .cases q.non;rfl
 .cases q.bl;rfl
 .cases q.int;rfl
 .cases q.str;rfl
 .cases h
theorem wk{K:Frag}:∀{ds:List D}{vs:List V},PJ K w H ds vs->ds.all iI=true->vs.all kM=true
 |[],_,q,_=>by rw[q.nil_inv];rfl
 |d::ds,_,q,h=>by obtain⟨v,r,rfl,p,t⟩:=q.cons_inv;rw[Vi,Z5]at h ⊢;exact⟨zW p h.1,wk t h.2⟩
def IB{K:Frag}{d e:D}{x y:V}(qd:RD K w H d x)(qe:RD K w H e y)(h1:iI d=true)(h2:iI e=true):X6 x y=eqF d e:=by
 unfold iI at h1 h2
 split at h1<;>(try (cases h1;done))<;>split at h2<;>(try (cases h2;done))<;>(unfold RD at qd qe;subst qd;subst qe;rfl)
theorem zX{K:Frag}{d:D}{x:V}(qd:RD K w H d x)(hd:iI d=true):∀{ds:List D}{vs:List V},PJ K w H ds vs->ds.all iI=true->(vs.any λy=>X6 y x)=ds.any λz=>eqF z d
 |[],_,q,_=>by rw[q.nil_inv];rfl
 |e::ds,_,q,h=>by obtain⟨v,r,rfl,p,t⟩:=q.cons_inv;rw[Vi,Z5]at h;rw[Qt,Qt,IB p qd h.1 hd,zX qd hd t h.2]
def Di:QS X (compareOp .In) (xO X.K E (oIn false)):=by
 rintro pins s σ H x y v u Q I rx ry ⟨w,S,d,e,hS,qd,qe,p⟩;obtain⟨z,hz,p⟩:=p.of;unfold oIn at hz;split at hz
 .rename_i a ha;split at hz
  .rename_i hf;obtain⟨q,vs,rfl,sq,r⟩:=pJ hS qe ha;cases hz;refine Bv pins s σ H _ _ v u Q I rx ry ⟨q,vs,rfl,sq,zW qd hf.1,wk r hf.2,?_⟩;have hi:inV x vs=a.any λz=>eqF z d:=zX qd hf.1 r hf.2;simp only[Ze,Qm]at p ⊢;rw[hi];exact p.ret RD.Tv hS
  .cases hz
 .cases hz
end
section
open PySem.SeqAt
open PySem.AutoSeq1 (wpAny_loadPart')
open PySem.MeetsSeq PySem.MeetsSeq2 PySem.MeetsSeq3
def uk(a:Int)(t:Tok)(l:Addr)(items:Array Value)(n:Nat)(dd:Option Addr)(sl:Array (Option Value)):
  Meets (Builtin.«int.__rmul__» ⟨[.int a t,.ref l],[]⟩) (λ_ R s=>s.heap.get? l=some { cls:=.type "tuple",dict:=dd,data:=.seq items n,slots:=sl }/\R (.ok (.ret Value.notImplemented)) s):=
 .of_wp λprog w A R s h=>by obtain⟨hp,g,d,tk,os⟩:=s;obtain⟨hl,h⟩:=h;wp_walk using wpAny_loadPart' hl;exact⟨_,rfl,h⟩
def um(l:Addr)(items:Array Value)(n:Nat)(k:Int)(t:Tok)(dd:Option Addr)(sl:Array (Option Value))(h1:¬(decide (k < -(2^63))||decide (k >= 2^63))=true)(h2:(items.isEmpty||k == 1)=true):
  Meets (Builtin.«tuple.__mul__» ⟨[.ref l,.int k t],[]⟩) (λ_ R s=>s.heap.get? l=some { cls:=.type "tuple",dict:=dd,data:=.seq items n,slots:=sl }/\R (.ok (.ret (.ref l))) s):=
 .of_wp λprog w A R s h=>by obtain⟨hp,g,d,tk,os⟩:=s;obtain⟨hl,h⟩:=h;have f1:=AutoSeq1.idx_int;wp_walk using wpAny_loadPart' hl;rw[Yj h1];wp_walk using wpAny_loadPart' hl;exact⟨_,rfl,h⟩
def uo(l:Addr)(items:Array Value)(n:Nat)(k:Int)(t:Tok)(dd:Option Addr)(sl:Array (Option Value))(h1:¬(decide (k < -(2^63))||decide (k >= 2^63))=true)(h2:¬(items.isEmpty||k == 1)=true)(h3:(decide (k<=0)||items.isEmpty)=true):
  Meets (Builtin.«tuple.__mul__» ⟨[.ref l,.int k t],[]⟩) (λ_ R s=>s.heap.get? l=some { cls:=.type "tuple",dict:=dd,data:=.seq items n,slots:=sl }/\R (.ok (.ret (Value.ref s.heap.objs.size))) { s with heap:=s.heap.push { cls:=Value.type "tuple",data:=Data.seq #[] },toks:=s.toks }):=
 .of_wp λprog w A R s h=>by obtain⟨hp,g,d,tk,os⟩:=s;obtain⟨hl,h⟩:=h;have f1:=AutoSeq1.idx_int;wp_walk using wpAny_loadPart' hl;rw[Yj h1];wp_walk using wpAny_loadPart' hl;exact⟨_,rfl,h⟩
def uq(l:Addr)(items:Array Value)(n:Nat)(k:Int)(t:Tok)(dd:Option Addr)(sl:Array (Option Value))(h1:¬(decide (k < -(2^63))||decide (k >= 2^63))=true)(h2:¬(items.isEmpty||k == 1)=true)(h3:¬(decide (k<=0)||items.isEmpty)=true)
  (h4:¬(items.size:Int)*k>(2^63-1)/8) (h5:¬Builtin.Tuple.tupleTooMany ((items.size:Int)*k)=true) (hsz:(List.foldl (λx1 x2=>x1++x2) #[] (List.replicate k.toNat items)).size<=sizeLine):
  Meets (Builtin.«tuple.__mul__» ⟨[.ref l,.int k t],[]⟩) (λ_ R s=>s.heap.get? l=some { cls:=.type "tuple",dict:=dd,data:=.seq items n,slots:=sl }/\R (.ok (.ret (Value.ref s.heap.objs.size))) { s with heap:=s.heap.push { cls:=Value.type "tuple",data:=Data.seq (List.foldl (λx1 x2=>x1++x2) #[] (List.replicate k.toNat items)) },toks:=s.toks }):=
 .of_wp λprog w A R s h=>by obtain⟨hp,g,d,tk,os⟩:=s;obtain⟨hl,h⟩:=h;have f1:=AutoSeq1.idx_int;wp_walk using wpAny_loadPart' hl;rw[Yj h1];wp_walk using wpAny_loadPart' hl;rw[Yj h4];wp_walk using wpAny_loadPart' hl;exact⟨_,rfl,h⟩
end
section
variable{prog:Program}{w:World}{A:Around}{E:Value->Shared->Prop}{s:Shared}
def mQ:fillsNumberSlot (.type "tuple") "mul" = pure false:=
 PySem.fillsNumberSlot_seq (id:="tuple.__mul__") (r:=some (.builtin "tuple.__rmul__")) F.slot_tuple_mul.lookup (by decide +kernel) F.slot_tuple_rmul.lookup (by decide +kernel)
def uw:seqRepeat? (.type "tuple")=pure (some (.builtin "tuple.__mul__")):=by
 unfold seqRepeat?
 rw[PySem.seqSlot_of (T:="tuple") (name:="__mul__") (id:="tuple.__mul__") F.slot_tuple_mul.lookup (by decide +kernel),PySem.seqSlot_of (T:="tuple") (name:="__rmul__") (id:="tuple.__rmul__") F.slot_tuple_rmul.lookup (by decide +kernel)]
 rfl
def FE{t:Addr}{vs:List Value}{k:Int}{tk:Tok}{Q:Value->Shared->Prop}(ht:IsTup s.heap t vs.toArray)(h1:-(2^63)<=k)(h2:k<2^63)(hz:vs.length*k.toNat<=sizeLine)
  (q1:(vs=[]\/k=1)->Q (.ref t) s) (q2:¬(vs=[]\/k=1)->Q (.ref s.heap.objs.size) { s with heap:=s.heap.push { cls:=.type "tuple",data:=.seq (List.replicate k.toNat vs).flatten.toArray } }):
  wpAny (model prog w) A (binaryOp .Mult (.ref t) (.int k tk)) Q E s:=by
 obtain⟨⟨cls,dd,data,sl⟩,ho,hc,n,hd⟩:=id ht;simp only at hc hd;subst hc hd
 have hk:¬(decide (k < -(2^63))||decide (k >= 2^63))=true:=by simp;omega
 refine wpAny_binaryOp_repeat_ref (T:="tuple") (U:="int") (by decide) ⟨_,ho,rfl⟩ (λs'=>V6 s' k tk) mQ F.fills_int_mul Ua uw F.slot_int_index.lookup
  (Vd Ua (V6 s k tk) F.entry_int_rmul (F.args_int_rmul_2 _ _) (uk k tk t vs.toArray n dd sl) ⟨ho,rfl,⟨_,ho,rfl⟩,?_⟩)
 have aab:∀m:Nat,List.foldl (λx1 x2=>x1++x2) #[] (List.replicate m vs.toArray)=(List.replicate m vs).flatten.toArray:=λm=>by have:=foldl_rep vs m [];rw[Qz]at this;exact this
 by_cases c1:vs=[]\/k=1
 .refine Vd F.slot_tuple_mul ⟨_,ho,rfl⟩ Ma (Ux _ _) (um t vs.toArray n k tk dd sl hk ?_) ⟨ho,q1 c1⟩;rcases c1 with rfl|rfl
  .rfl
  .simp
 .have c2:¬(vs.toArray.isEmpty||k == 1)=true:=by
   intro z;rw[Uc]at z;rcases z with z|z
   .exact c1 (.inl (by simpa using z))
   .exact c1 (.inr (by simpa using z))
  by_cases c3:k<=0
  .refine Vd F.slot_tuple_mul ⟨_,ho,rfl⟩ Ma (Ux _ _) (uo t vs.toArray n k tk dd sl hk c2 (by simp[c3])) ⟨ho,?_⟩
   have:=q2 c1
   rw[show k.toNat=0 by omega]at this
   exact this
  .have c4:¬(decide (k<=0)||vs.toArray.isEmpty)=true:=by
    intro z;rw[Uc]at z;rcases z with z|z
    .exact c3 (Zl z)
    .exact c1 (.inl (by simpa using z))
   have hmul:((vs.toArray.size:Nat):Int)*k=((vs.length*k.toNat:Nat):Int):=by rw[Yu,Int.natCast_mul,Int.toNat_of_nonneg (by omega)]
   have hs0:(sizeLine:Nat)=2^24:=rfl;refine Vd F.slot_tuple_mul ⟨_,ho,rfl⟩ Ma (Ux _ _) (uq t vs.toArray n k tk dd sl hk c2 c4 ?_ ?_ ?_) ⟨ho,?_⟩
   .rw[hmul];intro z
    have:((2:Int)^63-1)/8 >= 2^24:=by decide
    omega
   .rw[hmul];unfold Builtin.Tuple.tupleTooMany;simp only[Q4];intro z;have z':((sizeLine:Nat):Int)<((vs.length*k.toNat:Nat):Int):=z;omega
   .rw[aab,Yu,len_rep,Vq];exact hz
   .rw[aab];exact q2 c1
end
section
variable{prog:Program}{w:World}{A:Around}{E:Value->Shared->Prop}{s:Shared}
def Dk{t b:Addr}{ws:List Value}{Q:Value->Shared->Prop}(ht:IsTup s.heap t ([]:List Value).toArray)(hb:IsTup s.heap b ws.toArray)(h:Q (.ref b) s):wpAny (model prog w) A (binaryOp .Add (.ref t) (.ref b)) Q E s:=by obtain⟨⟨cls,dd,data,sl⟩,ho,hc,n,hd⟩:=id ht;obtain⟨⟨cls2,dd2,data2,sl2⟩,ho2,hc2,n2,hd2⟩:=id hb;simp only at hc hd hc2 hd2;subst hc hd hc2 hd2;exact concat_meets ⟨_,ho,rfl⟩ ⟨_,ho2,rfl⟩ noFill_tuple_add seq_tuple_add Vx Vt (Vo _ _) (tuple_addW0 t b _ ws.toArray n n2 dd dd2 sl sl2 rfl) ⟨ho,ho2,h⟩
open HT in
theorem kG{t sl:Addr}{items:Array Value}{vl vu:Value}{lo hi:Option Int}{Q:Value->Shared->Prop}(ht:IsTup s.heap t items)(hs:s.heap.IsSliceOf sl vl vu .none)(pl:IsPart vl lo)(pu:IsPart vu hi)
  (hw:QH items.size 0 lo=0/\QH items.size items.size hi=items.size) (h:Q (.ref t) s):wpAny (model prog w) A (getItem (.ref t) (.ref sl)) Q E s:=by
 obtain⟨os,hos,hcs,hds⟩:=id hs;have hTs:s.TypeIs (.ref sl) "slice":=⟨os,hos,hcs⟩
 unfold getItem
 try with_reducible refine Qs ?_
 first|refine Y6 (Yg ?_)|skip
 refine Y6 (wpAny_sequenceKey ht.typeIs (by decide) ?_)
 refine Y6 (Zw (name:=Str.ofString "__getitem__") ht.typeIs W8
  (Qa W8 ht.typeIs entry_tuple_getitem ?_ (args_tuple_getitem _ _)))
 show wpAny _ _ (Builtin.Tuple.tupleItemsOf (.ref t) >>= _) _ _ s;refine Y6 (tupleItemsOf_ ht ?_);refine Y6 (Me hTs ?_)
 rw[Y9 (by decide)]
 refine Y6 (iH hs pl pu ?_)
 have aaK:(((QH items.size 0 lo:Nat):Int) == 0&&(1:Int) == 1&&(QH items.size items.size hi-QH items.size 0 lo) == items.size)=true:=by rw[hw.1,hw.2];simp
 show wpAny _ _ (if (((QH items.size 0 lo:Nat):Int) == 0&&(1:Int) == 1&&(QH items.size items.size hi-QH items.size 0 lo) == items.size)=true then _ else _) _ _ s
 rw[Y9 aaK];obtain⟨ob,hob,hcl,_⟩:=id ht
 have hex:∀{Q':Bool->Shared->Prop},Q' true s->wpAny (model prog w) A.in1 (Builtin.Tuple.tupleIsExact (.ref t)) Q' E s:=λq=>by unfold Builtin.Tuple.tupleIsExact;refine Y6 (Me ht.typeIs (Yg ?_));exact q
 refine Y6 (hex ?_);rw[Y9 rfl]
 first
  |exact Y6 (Wh (Yg ⟨_,rfl,Yg h⟩))
  |exact Y6 (Wh (Y6 (Yg ⟨_,rfl,Yg h⟩)))
  |exact Y6 (Wh (Y6 (Yg (Yg ⟨_,rfl,Yg h⟩))))
  |exact Y6 (Y6 (Wh (Yg (Yg ⟨_,rfl,Yg h⟩))))
end
section
variable{X:Cx}{E:XK}
def lQ{K:Frag}{vs:List V}{ds:List D}(z:At w H p (.tup vs)\/uc K p vs)(r:PJ K w H ds vs):RD K w H (.tup ds) (.ref p):=by unfold RD;exact⟨p,vs,rfl,z,r⟩
def bo:QS X (binaryOp .Add) (xO X.K E aY):=by
 rintro pins s σ H x y v u Q I rx ry ⟨w,S,d,e,hS,qd,qe,p⟩;obtain⟨z,hz,p'⟩:=p.of;clear p;unfold aY at hz;split at hz
 .cases hz;cases qd.int;cases qe.int;exact HS pins s σ H _ _ v u Q I rx ry ⟨_,_,rfl,rfl,p'.ret RD.Sh hS⟩
 .split at hz
  .cases hz;cases qd.str;cases qe.str
   exact yn pins s σ H _ _ v u Q I rx ry ⟨_,_,rfl,rfl,by assumption,p'.ret RD.Xx hS⟩
  .cases hz
 .split at hz
  .rename_i S' a b hl;cases hz;obtain⟨pa,xs,rfl,za,ra⟩:=qd.tupI;obtain⟨pb,ys,rfl,zb,rb⟩:=qe.tupI;by_cases ha:a=[]
   .subst ha;have hxs:=ra.nil_inv;subst hxs;cases rx;cases ry;obtain⟨its,r1,p1,_⟩:=I.tuple (dm za);obtain⟨its2,r2,p2,_⟩:=I.tuple (dm zb);have:its=[]:=r1.Sw.mpr rfl;subst this;exact Dk p1 p2 ⟨.ref pb,H,I,rfl,p'.ret (lQ zb rb) hS⟩
   .refine Fu pins s σ H _ _ v u Q I rx ry ⟨pa,pb,xs,ys,rfl,rfl,dm za,dm zb,λz=>ha ?_,by rw[ra.length,rb.length];exact hl,λz=>?_,λz q hq=>?_⟩
    .have:=ra.length;rw[z]at this;exact Wf.mp this.symm
    .have hb:b=[]:=by have:=rb.length;rw[z]at this;exact Wf.mp this.symm
     subst hb;rw[Qi]at p';exact p'.ret (lQ za ra) hS
    .exact p'.at (Ext.new hq) (RD.Td hS hq (ra.append rb)) (hS.new hq)
  .cases hz
 .split at hz
  .rename_i S' a b hl;cases hz;obtain⟨pa,xs,rfl,za,ra⟩:=qd.R6;obtain⟨pb,ys,rfl,zb,rb⟩:=qe.R6
   exact Io pins s σ H _ _ v u Q I rx ry ⟨pa,pb,xs,ys,rfl,rfl,za.1,zb.1,by rw[ra.length,rb.length];exact hl,λq hq=>p'.at (Ext.new hq) (RD.Te hS hq (ra.append rb)) (hS.new hq)⟩
  .cases hz
 .cases hz
theorem PJ.rep{K:Frag}{ds:List D}{vs:List V}(r:PJ K w H ds vs):∀k:Nat,PJ K w H (List.replicate k ds).flatten (List.replicate k vs).flatten
 |0=>by simp;exact .nil
 |k+1=>by rw[Qh,Qh,Wq,Wq];exact r.append (PJ.rep r k)
def eK:QS X (binaryOp .Mult) (xO X.K E dn):=by
 rintro pins s σ H x y v u Q I rx ry ⟨w,S,d,e,hS,qd,qe,p⟩;obtain⟨z,hz,p'⟩:=p.of;clear p;unfold dn at hz;split at hz
 .split at hz
  .cases hz;cases qd.int;cases qe.int
   exact HV pins s σ H _ _ v u Q I rx ry ⟨_,_,rfl,rfl,by assumption,p'.ret RD.Sh hS⟩
  .cases hz
 .split at hz
  .rename_i S' a k hl;cases hz;obtain⟨pa,xs,rfl,za,ra⟩:=qd.tupI;cases qe.int;cases rx;obtain⟨t,rfl⟩:=ry;obtain⟨its,r1,p1,_⟩:=I.tuple (dm za)
   have e1:its.length=a.length:=by rw[<- r1.length,ra.length]
   refine FE p1 hl.1 hl.2.1 (by rw[e1];exact hl.2.2) (λc=>?_) λc=>?_
   .refine⟨.ref pa,H,I,rfl,?_⟩
    have:(List.replicate k.toNat a).flatten=a:=by
     rcases c with c|c
     .have:a=[]:=by rw[c]at e1;exact Wf.mp e1.symm
      subst this;simp
     .subst c;simp
    rw[this]at p';exact p'.ret (lQ za ra) hS
   .have hn:H s.heap.objs.size=none:=I.hok.fresh (Yh _);refine⟨.ref s.heap.objs.size,_,I.laid (t':=s.toks) (o:=.tup (List.replicate k.toNat xs).flatten) (λb ob q=>Y7 _ q) (Yh _) ?_,rfl,p'.at (Ext.new hn) (RD.Td hS hn (ra.rep _)) (hS.new hn)⟩
    exact⟨by rw[len_rep,Vq,ra.length];exact hl.2.2,_,r1.rep _,IsTup.new _ _⟩
  .cases hz
 .split at hz
  .rename_i S' a k hl;cases hz;obtain⟨pa,xs,rfl,za,ra⟩:=qd.R6;cases qe.int
   exact Ip pins s σ H _ _ v u Q I rx ry ⟨pa,k,xs,rfl,rfl,za.1,hl.1,hl.2.1,by rw[ra.length];exact hl.2.2,λq hq=>p'.at (Ext.new hq) (RD.Te hS hq (ra.rep _)) (hS.new hq)⟩
  .cases hz
 .cases hz
def bU{a b:Expr}{mb:EM}{pos:Pos}{f:Pz->D->D->Option D}(hr:UL X (xO X.K E f))(ha:SE X E a ma)(hb:SE X E b mb)(hs:lK b:=by intro _ _;kernel_rfl):SE X E (.Subscript a b pos) (Px f ma mb):=⟨
 bj (Kn hr ha.out hb.out hs) λs H Q zq=>QR zq λw r S hr hS hp=>⟨w,r,S,hr,hS,hp.bind hS λd S1 w1 H1 v x1 q1 s1 p1=>
  ⟨w1,r,S1,hr.ext x1,s1,p1.bind s1 λe S2 w2 H2 u x2 q2 s2 p2=>⟨w2,S2,d,e,s2,RD.ext x2 d v q1,q2,p2⟩⟩⟩⟩
abbrev OM:=Rp->Pz->R (Option Int)
def ROp(w:Wd)(H:Hp)(a b:Option Int):Prop:=b=a
def uO(K:Frag)(E:XK)(m:OM):TO:=λs H Q=>∃w r S,Rq K w H r s/\RS K w H S/\aF K E ROp w H (m r S) Q
def Xp:OM:=λ_ S=>.ok none S
def fc(a:EM):OM:=λr S=>(a r S).bind λx S1=>match x with
 |.int i=>.ok (some i) S1
 |_=>.bad
abbrev SO'(X:Cx)(E:XK)(e:Option Expr)(m:OM):Prop:=Bx (PO X e (uO X.K E m))
def kn:SO' X E none Xp:=⟨λpins s σ H Q I zq=>QR zq λw r S hr hS hp=>Fs pins s σ H Q I (hp.ret rfl hS)⟩
def gY{a:Expr}(ha:SE X E a ma):SO' X E (some a) (fc ma):=⟨λpins s σ H Q I zq=>QR zq λw r S hr hS hp=>Ft ha.out pins s σ H Q I
 ⟨w,r,S,hr,hS,hp.bind hS λd S1 w1 H1 v x1 q1 s1 p1=>by
  cases d with
  |int i=>cases q1.int;exact⟨i,rfl,p1.ret rfl s1⟩
  |_=>exact p1.elim⟩⟩
def xL(K:Frag)(E:XK)(f:Pz->D->Option Int->Option Int->Option D):V->Option Int->Option Int->Hp->VK->Prop:=λx lo hi H Q=>∃w S d,RS K w H S/\RD K w H d x/\aF K E (RD K) w H (R.of S (f S d lo hi)) Q
def UG(f:Pz->D->Option Int->Option Int->Option D)(a:EM)(lo hi:OM):EM:=λr S=>(a r S).bind λx S1=>(lo r S1).bind λl S2=>(hi r S2).bind λu S3=>R.of S3 (f S3 x l u)
def pK{a:Expr}{lo hi:Option Expr}{ml mh:OM}{p2 pos:Pos}{f:Pz->D->Option Int->Option Int->Option D}(hf:SlR X (xL X.K E f))(ha:SE X E a ma)(hl:SO' X E lo ml)(hh:SO' X E hi mh):
  SE X E (.Subscript a (.Slice lo hi none p2) pos) (UG f ma ml mh):=⟨
 bj (CU hf ha.out hl.out hh.out) λs H Q zq=>QR zq λw r S hr hS hp=>⟨w,r,S,hr,hS,hp.bind hS λd S1 w1 H1 v x1 q1 s1 p1=>
  ⟨w1,r,S1,hr.ext x1,s1,p1.bind s1 λl S2 w2 H2 l' x2 q2 s2 p2=>⟨w2,r,S2,(hr.ext x1).ext x2,s2,p2.bind s2 λu S3 w3 H3 u' x3 q3 s3 p3=>by
   have e1:l'=l:=q2;have e2:u'=u:=q3;subst e1 e2
   exact⟨w3,S3,d,s3,RD.ext x3 _ _ (RD.ext x2 _ _ q1),p3⟩⟩⟩⟩⟩
def lR:Pz->D->Option Int->Option Int->Option D
 |_,.tup a,lo,hi=>some (.tup (cutD a lo hi))
 |_,.lst a,lo,hi=>some (.lst (cutD a lo hi))
 |_,_,_,_=>none
def PJ.cut{K:Frag}{ds:List D}{vs:List V}(r:PJ K w H ds vs)(lo hi:Option Int):PJ K w H (cutD ds lo hi) (vZ vs lo hi):=by unfold cutD vZ;rw[r.length];exact(r.drop _).take _
def ux:SlR X (xL X.K E lR):=by
 rintro pins s σ H x v vl vu lo hi sl Q I rx hs pl pu ⟨w,S,d,hS,qd,p⟩;obtain⟨z,hz,p'⟩:=p.of;clear p;unfold lR at hz;split at hz
 .rename_i a;cases hz;obtain⟨pa,xs,rfl,za,ra⟩:=qd.tupI;by_cases hw:HT.QH xs.length 0 lo=0/\HT.QH xs.length xs.length hi=xs.length
  .cases rx;obtain⟨its,r,ht,hz⟩:=I.tuple (dm za)
   have hlen:its.toArray.size=xs.length:=by rw[Yu];exact r.length.symm
   refine⟨"tuple",_,PyProof.Rows.slot_tuple_getitem.lookup,ht.typeIs,?_⟩
   refine kG ht hs pl pu (by rw[hlen];exact hw) ⟨.ref pa,H,I,rfl,?_⟩
   have e:cutD a lo hi=a:=by unfold cutD;rw[<- ra.length,hw.1,hw.2];rw[Uo,Nat.sub_zero,ra.length,Wv]
   rw[e]at p';exact p'.ret (lQ za ra) hS
  .exact Ij pins s σ H _ v vl vu lo hi sl Q I rx hs pl pu ⟨pa,xs,rfl,dm za,hw,λq hq=>p'.at (Ext.new hq) (RD.Td hS hq (ra.cut lo hi)) (hS.new hq)⟩
 .rename_i a;cases hz;obtain⟨pa,xs,rfl,za,ra⟩:=qd.R6;exact Fw pins s σ H _ v vl vu lo hi sl Q I rx hs pl pu ⟨pa,xs,rfl,Rm.of za.1,λq hq=>p'.at (Ext.new hq) (RD.Te hS hq (ra.cut lo hi)) (hS.new hq)⟩
 .cases hz
def cy:Pz->List D->Option D
 |_,[.str x]=>if x.length<=sizeLine then some (.int x.length) else none
 |_,[.PN x]=>some (.int x.length)
 |S,[d]=>match cc S d with
  |some a=>some (.int a.length)
  |none=>match d with
   |.ref n=>match S[n]? with
    |some (.PN kvs)=>some (.int kvs.length)
    |_=>none
   |_=>none
 |_,_=>none
theorem QC.length{K:Frag}:∀{ds:List (Sum Int Str×D)}{vs:List (Key×V)},QC K w H ds vs->vs.length=ds.length
 |[],_,h=>by unfold QC at h;rw[h];rfl
 |(k,d)::ds,_,h=>by unfold QC at h;obtain⟨v,r,rfl,_,q⟩:=h;simp[QC.length q]
def cT:bT X (.builtin "len") (xC X.K E cy):=by
 rintro pins s σ H xs us Q I r ⟨w,S,ds,hS,qs,p⟩;obtain⟨z,hz,p'⟩:=p.of;clear p;unfold cy at hz;split at hz
 .split at hz
  .cases hz;obtain⟨v,rfl,q⟩:=qs.PK;cases q.str
   exact t9 pins s σ H _ us Q I r ⟨_,rfl,by assumption,p'.ret RD.Sh hS⟩
  .cases hz
 .cases hz;obtain⟨v,rfl,q⟩:=qs.PK;unfold RD at q;obtain⟨a,uu,rfl,z,rk⟩:=q
  exact rX pins s σ H _ us Q I r ⟨_,_,rfl,z.1,by rw[rk.length];exact p'.ret RD.Sh hS⟩
 .obtain⟨v,rfl,q⟩:=qs.PK;split at hz
  .rename_i a ha;cases hz;obtain⟨pp,vs,rfl,sq,ra⟩:=pJ hS q ha
   exact t8 pins s σ H _ us Q I r ⟨pp,vs,rfl,sq,by rw[ra.length];exact p'.ret RD.Sh hS⟩
  .split at hz
   .split at hz
    .rename_i n kvs hn;cases hz;obtain⟨pp,rfl,hp⟩:=q.Rz;obtain⟨p2,hp2,vs,hv,rk⟩:=hS.obj _ _ hn;rw[hp]at hp2;cases hp2
     exact rX pins s σ H _ us Q I r ⟨_,_,rfl,hv,by rw[rk.length];exact p'.ret RD.Sh hS⟩
    .cases hz
   .cases hz
 .cases hz
def yB:Pz->List D->Option D
 |_,[.int i]=>some (.int (if i<0 then -i else i))
 |_,_=>none
def Dl:bT X (.builtin "abs") (xC X.K E yB):=by
 rintro pins s σ H xs us Q I r ⟨w,S,ds,hS,qs,p⟩;obtain⟨z,hz,p'⟩:=p.of;clear p;unfold yB at hz;split at hz
 .cases hz;obtain⟨v,rfl,q⟩:=qs.PK;cases q.int;exact CK pins s σ H _ us Q I r ⟨_,rfl,p'.ret RD.Sh hS⟩
 .cases hz
def wm:Pz->List D->Option D
 |_,[.int i,.int j]=>some (.int (if j>i then j else i))
 |_,_=>none
def Dm(hc:X.calm=true):bT X (.builtin "max") (xC X.K E wm):=by
 rintro pins s σ H xs us Q I r ⟨w,S,ds,hS,qs,p⟩;obtain⟨z,hz,p'⟩:=p.of;clear p;unfold wm at hz;split at hz
 .cases hz;obtain⟨v,u,rfl,q,q'⟩:=qs.RW;cases q.int;cases q'.int;exact Bo hc pins s σ H _ us Q I r ⟨_,_,rfl,p'.ret RD.Sh hS⟩
 .cases hz
def uy:Pz->List D->Option D
 |_,[.int i,.int j]=>some (.int (if j<i then j else i))
 |_,_=>none
def yC(hc:X.calm=true):bT X (.builtin "min") (xC X.K E uy):=by
 rintro pins s σ H xs us Q I r ⟨w,S,ds,hS,qs,p⟩;obtain⟨z,hz,p'⟩:=p.of;clear p;unfold uy at hz;split at hz
 .cases hz;obtain⟨v,u,rfl,q,q'⟩:=qs.RW;cases q.int;cases q'.int;exact Bp hc pins s σ H _ us Q I r ⟨_,_,rfl,p'.ret RD.Sh hS⟩
 .cases hz
def oU:Pz->List D->Option D
 |_,[.int i,.int j]=>if 0<j/\j<1073741824 then some (.tup [.int (i/j),.int (i%j)]) else none
 |_,_=>none
def BE:bT X (.builtin "divmod") (xC X.K E oU):=by
 rintro pins s σ H xs us Q I r ⟨w,S,ds,hS,qs,p⟩;obtain⟨z,hz,p'⟩:=p.of;clear p;unfold oU at hz;split at hz
 .split at hz
  .cases hz;obtain⟨v,u,rfl,q,q'⟩:=qs.RW;cases q.int;cases q'.int
   exact vW pins s σ H _ us Q I r ⟨_,_,rfl,by assumption,λt ht=>p'.at (Ext.new ht) (RD.Td hS ht (.cons RD.Sh (.cons RD.Sh .nil))) (hS.new ht)⟩
  .cases hz
 .cases hz
def FF:Pz->List D->Option D
 |_,[.int i]=>some (.int i)
 |_,[.bl b]=>some (.int (if b then 1 else 0))
 |_,_=>none
def IC:bT X (.type "int") (xC X.K E FF):=by
 rintro pins s σ H xs us Q I r ⟨w,S,ds,hS,qs,p⟩;obtain⟨z,hz,p'⟩:=p.of;clear p;unfold FF at hz;split at hz
 .cases hz;obtain⟨v,rfl,q⟩:=qs.PK;cases q.int;exact rN pins s σ H _ us Q I r (.inl ⟨_,rfl,p'.ret RD.Sh hS⟩)
 .cases hz;obtain⟨v,rfl,q⟩:=qs.PK;cases q.bl;exact rN pins s σ H _ us Q I r (.inr ⟨_,rfl,p'.ret RD.Sh hS⟩)
 .cases hz
def fh:Pz->List D->Option D
 |_,[.tup a]=>some (.tup a)
 |S,[d]=>(cc S d).map .tup
 |_,_=>none
def jP:bT X (.type "tuple") (xC X.K E fh):=by
 rintro pins s σ H xs us Q I r ⟨w,S,ds,hS,qs,p⟩;obtain⟨z,hz,p'⟩:=p.of;clear p;unfold fh at hz;split at hz
 .cases hz;obtain⟨v,rfl,q⟩:=qs.PK;obtain⟨pa,vs,rfl,za,ra⟩:=q.tupI;exact kN pins s σ H _ us Q I r ⟨pa,vs,rfl,.inr ⟨dm za,p'.ret (lQ za ra) hS⟩⟩
 .rename_i d hd;obtain⟨v,rfl,q⟩:=qs.PK;cases ha:cc S d with
  |none=>rw[ha]at hz;cases hz
  |some a=>
   rw[ha]at hz;cases hz
   have hq:∃pa vs,v=.ref pa/\Rm X.K H pa vs/\PJ X.K w H a vs:=by
    unfold cc at ha;split at ha
    .exact(hd _ rfl).elim
    .cases ha;obtain⟨p,vs,e,z,r⟩:=q.R6;exact⟨p,vs,e,Rm.of z.1,r⟩
    .cases ha;obtain⟨p,vs,e,z,r⟩:=q.fzI;exact⟨p,vs,e,z.sq,r⟩
    .split at ha
     .rename_i n b hn;cases ha;obtain⟨p,e,hp⟩:=q.Rz;obtain⟨p2,hp2,vs,hv,rk⟩:=hS.obj _ _ hn;rw[hp]at hp2;cases hp2;exact⟨p,vs,e,Rm.of hv,rk⟩
     .rename_i n b hn;cases ha;obtain⟨p,e,hp⟩:=q.Rz;obtain⟨p2,hp2,o,vs,hv,rk⟩:=hS.obj _ _ hn;rw[hp]at hp2;cases hp2;exact⟨p,vs,e,.inl (.inr ⟨o,hv⟩),rk⟩
     .cases ha
    .cases ha
   obtain⟨pa,vs,rfl,sq,ra⟩:=hq;exact kN pins s σ H _ us Q I r ⟨pa,vs,rfl,.inl ⟨sq,λt ht=>p'.at (Ext.new ht) (RD.Td hS ht ra) (hS.new ht)⟩⟩
 .cases hz
end
section
variable{X:Cx}{E:XK}
def boolsOf:List D->Option (List Bool)
 |[]=>some []
 |.bl b::r=>(boolsOf r).map (b :: ·)
 |_::_=>none
def k8:Pz->List D->Option D
 |_,[.lst a]=>(boolsOf a).map λbs=>.bl (bs.all id)
 |_,_=>none
theorem wq{K:Frag}:∀{ds:List D}{vs:List V}{us:List Value}{bs:List Bool},PJ K w H ds vs->Vals vs us->boolsOf ds=some bs->LSm.BoolsAre us bs
 |[],_,_,_,q,r,h=>by rw[q.nil_inv]at r;cases r;unfold boolsOf at h;cases h;exact .nil
 |d::ds,_,_,bs,q,r,h=>by
  obtain⟨v,vs,rfl,p,t⟩:=q.cons_inv;cases d with
  |bl b=>
   unfold boolsOf at h;cases e:boolsOf ds with
   |none=>rw[e]at h;cases h
   |some cs=>
    rw[e]at h;cases h;cases p.bl;cases r with
    |cons r1 r2=>
     cases r1;exact .cons b (wq t r2 e)
  |_=>unfold boolsOf at h;cases h
def mR(hc:X.calm=true):bT X (.builtin "all") (xC X.K E k8):=by
 rintro pins s σ H xs us Q I r ⟨w,S,ds,hS,qs,p⟩;obtain⟨z,hz,p'⟩:=p.of;clear p;unfold k8 at hz;split at hz
 .rename_i a;cases e:boolsOf a with
  |none=>rw[e]at hz;cases hz
  |some bs=>
   rw[e]at hz;cases hz;obtain⟨v,rfl,q⟩:=qs.PK;obtain⟨pa,vs,rfl,za,ra⟩:=q.R6;obtain⟨u,rfl,ru⟩:=Wi r;cases ru;obtain⟨its,r1,⟨o,n,ho,hcl,hdn,hd⟩,_⟩:=I.list (Rm.of za.1);have hb:=wq ra r1 e;have hlt:pa<s.heap.objs.size:=Yl ho;have hl:s.heap.IsList pa its.toArray:=⟨o,ho,hcl,n,hd⟩;refine call_all_walk (Qf hl ?_)
   refine⟨s.heap.objs.size,[s.heap.objs.size,pa],[s.heap.objs.size],its.toArray.size,_,_,λi=>(bs[i]?).getD true,rfl,Ud (A:=X.A.in1) (I.ok.hd hc) _ pa (Yv hlt) its.toArray,
    ⟨⟨_,Ye _ rfl,rfl,rfl⟩,hl.push _⟩,λi v s' Q' E' hP hQ=>?_,λh' tk hk=>?_⟩
   .obtain⟨b,e,rfl⟩:=hb.get i v (by simpa using hP)
    simp only[e,Option.getD_some]at hQ;exact Qe hQ
   .have e:((List.range its.toArray.size).all λi=>(bs[i]?).getD true)=bs.all id:=by rw[Yu,hb.length];exact LSm.range_all bs
    rw[e];exact⟨.bl _,H,I.kept (LSm.kept_iter hk),rfl,p'.ret RD.Tv hS⟩
 .cases hz
def Xy(S:Pz):D->Option String
 |.non=>some "NoneType"
 |.bl _=>some "bool"
 |.int _=>some "int"
 |.str _=>some "str"
 |.tup _=>some "tuple"
 |.lst _=>some "list"
 |.fz _=>none
 |.PN _=>some "dict"
 |.ref n=>match S[n]? with
  |some (.lst _)=>some "list"
  |some (.PN _)=>some "dict"
  |_=>none
 |.ty _=>none
 |.exc _ _=>none
 |.cls _=>none
def gD:List String:=["int","bool","tuple","str","list","dict"]
def jC:Pz->List D->Option D
 |S,[d,.ty T]=>match Xy S d with
  |some t=>if T∈gD then some (.bl (t == T||(t == "bool" && T == "int"))) else none
  |none=>none
 |_,_=>none
def ID(K:Frag){t:String}(ht:t∈["NoneType","bool","int","str","tuple","list","dict"])(hT:T∈gD):kitOne K (.type t) (.type T)=some (t == T||(t == "bool" && T == "int")):=by unfold gD at hT;simp only[Yb,Yy,Zn]at ht hT;rcases ht with rfl|rfl|rfl|rfl|rfl|rfl|rfl<;>rcases hT with rfl|rfl|rfl|rfl|rfl|rfl<;>first|rfl|(with_unfolding_all rfl)|(unfold kitOne kitCls;with_unfolding_all decide)
theorem FG{K:Frag}{d:D}{v:V}{t:String}(hS:RS K w H S)(q:RD K w H d v)(h:Xy S d=some t)(hk:∀a vs,¬uc K a vs\/True):
  (L2.R3 K H v (.type t) \/ ∃a vs,v=.ref a/\t = "tuple"/\uc K a vs)/\t∈["NoneType","bool","int","str","tuple","list","dict"]:=by
 cases d with
 |non=>cases q.non;cases h;exact⟨.inl .non,by simp⟩
 |bl b=>cases q.bl;cases h;exact⟨.inl (.bl b),by simp⟩
 |int i=>cases q.int;cases h;exact⟨.inl (.int i),by simp⟩
 |str x=>cases q.str;cases h;exact⟨.inl (.str x),by simp⟩
 |tup ds=>
  obtain⟨p,vs,rfl,z,_⟩:=q.tupI;cases h
  refine⟨?_,by simp⟩
  rcases z with z|z
  .exact .inl (.tup z.1)
  .exact .inr ⟨p,vs,rfl,rfl,z⟩
 |lst ds=>obtain⟨p,vs,rfl,z,_⟩:=q.R6;cases h;exact⟨.inl (.lst z.1),by simp⟩
 |fz ds=>cases h
 |PN kvs=>unfold RD at q;obtain⟨p,us,rfl,z,_⟩:=q;cases h;exact⟨.inl (.dK z.1),by simp⟩
 |ref n=>
  obtain⟨p,rfl,hp⟩:=q.Rz;unfold Xy at h;simp only at h;cases e:S[n]? with
  |none=>rw[e]at h;cases h
  |some o=>
   rw[e]at h;obtain⟨p',hp',r⟩:=hS.obj n o e;rw[hp]at hp';cases hp';cases o with
   |lst a=>cases h;obtain⟨vs,hv,_⟩:=r;exact⟨.inl (.lst hv),by simp⟩
   |PN a=>cases h;obtain⟨vs,hv,_⟩:=r;exact⟨.inl (.dK hv),by simp⟩
   |P0 a=>cases h
   |ins c fs=>cases h
   |RP a=>cases h
 |ty n=>cases h
 |exc c=>cases h
 |cls c=>cases h
def mS:bT X (.builtin "isinstance") (xC X.K E jC):=by
 rintro pins s σ H xs us Q I r ⟨w,S,ds,hS,qs,p⟩;obtain⟨z,hz,p'⟩:=p.of;clear p;unfold jC at hz;split at hz
 .rename_i d T;split at hz
  .rename_i t ht;split at hz
   .rename_i hT;cases hz;obtain⟨v,u,rfl,q,q'⟩:=qs.RW;unfold RD at q';subst q';obtain⟨v1,v2,rfl,rv,rt⟩:=vals2 r
    cases (show v2=Value.type T from rt)
    obtain⟨ty,hm⟩:=FG hS q ht λ_ _=>.inr trivial;have kk:=ID X.K hm hT;rcases ty with ty|⟨a,vs,rfl,rfl,kt⟩
    .exact Bs I rv ty kk λtk=>⟨.bl _,H,I.tok tk,rfl,p'.ret RD.Tv hS⟩
    .cases (show v1=Value.ref a from rv)
     obtain⟨o,its,n,e,hcl,_⟩:=kt
     exact Q0 kitx_tuple I.RK ⟨o,I.RK _ _ e,hcl⟩ kk (λz=>nomatch z) λtk=>⟨.bl _,H,I.tok tk,rfl,p'.ret RD.Tv hS⟩
   .cases hz
  .cases hz
 .cases hz
def Dn:Pz->D->D->D->Option Pz
 |S,.ref n,.int i,v=>match S[n]? with
  |some (.lst a)=>(Xn a.length i).map λj=>S.set n (.lst (a.set j v))
  |_=>none
 |_,_,_,_=>none
def Dp:tU X (xS X.K Dn):=by
 rintro pins s σ H o i v ov iv u Q I ro ri ru ⟨w,S,x,y,z,S',hS,qx,qy,qz,hf,k⟩;unfold Dn at hf;split at hf
 .rename_i n j;split at hf
  .rename_i a hn;cases e:Xn a.length j with
   |none=>rw[e]at hf;cases hf
   |some m=>
    rw[e]at hf;cases hf;obtain⟨p,rfl,hp⟩:=qx.Rz;cases qy.int;obtain⟨p',hp',vs,hv,ra⟩:=hS.obj _ _ hn;rw[hp]at hp';cases hp';have hm:p∈w.st:=Zr hp
    refine set_list pins s σ H _ _ _ ov iv u Q I ro ri ru ⟨p,vs,j,m,rfl,rfl,hv,by rw[ra.length];exact e,k w _ (Ext.mut hm hv) ?_⟩
    exact hS.mut hp hv ⟨_,aU,PJ.ext (Ext.mut hm hv) _ _ (PJ.set qz m ra)⟩
  .cases hf
 .cases hf
def xM(K:Frag)(E:XK)(f:Pz->D->List D->R D):V->List V->Hp->VK->Prop:=λx xs H Q=>∃w S d ds,RS K w H S/\RD K w H d x/\PJ K w H ds xs/\aF K E (RD K) w H (f S d ds) Q
def ZD(S:Pz):D->Bool
 |.lst _=>true
 |.fz _=>true
 |.ref n=>match S[n]? with
  |some (.lst _)=>true
  |_=>false
 |_=>false
def IE{K:Frag}{d:D}{v:V}(hS:RS K w H S)(q:RD K w H d v)(h:ZD S d=true):tyV K "list" v H:=by
 cases d with
 |lst ds=>obtain⟨p,vs,rfl,z,_⟩:=q.R6;exact .inl ⟨rfl,vs,Rm.of z.1⟩
 |fz ds=>obtain⟨p,vs,rfl,z,_⟩:=q.fzI;exact .inl ⟨rfl,vs,z.sq⟩
 |ref n=>
  obtain⟨p,rfl,hp⟩:=q.Rz;unfold ZD at h;simp only at h;cases e:S[n]? with
  |none=>rw[e]at h;cases h
  |some o=>
   rw[e]at h;cases o with
   |lst a=>
    obtain⟨p',hp',vs,hv,_⟩:=hS.obj n _ e;rw[hp]at hp';cases hp';exact .inl ⟨rfl,vs,Rm.of hv⟩
   |_=>cases h
 |_=>cases h
def pL(f:Pz->D->List D->R D)(o:EM)(t:AM):EM:=λr S=>(o r S).bind λx S1=>if ZD S1 x=true then (t r S1).bind λys S2=>f S2 x ys else .bad
def uz{o e:Expr}{es:List Expr}{mo:EM}{ms:AM}{name:Str}{apos cpos:Pos}{id:String}{f:Pz->D->List D->R D}(pa:PlainAttrs "list")(slot:Slot "list" name id)(hty:typeOf (.builtin id)=pure (.type "method_descriptor"))(hm:MtR X id (xM X.K E f))
  (ho:SE X E o mo) (ha:SA X E (e::es) ms) (hbase:attributeBase o name X.env (eval o X.env)=eval o X.env:=by kernel_rfl)
  (hfew:((backTo cpos (starEach (e::es) X.env)).all (λx=>!x.1)&&(backToKw cpos (keywordEach [] X.env)).all (λx=>x.1.isSome)
   && decide ((e::es).length+([]:List Keyword).length+(if ([]:List Keyword).isEmpty then 0 else 1)<30))=true:=by kernel_rfl)
  (hline:(apos.endLine == cpos.line)=true:=by kernel_rfl) (hs:starEach (e::es) X.env=(false,eval e X.env)::starEach es X.env:=by kernel_rfl) (hplain:(backTo cpos (starEach es X.env)).any (·.1)=false:=by kernel_rfl):
  SE X E (.Call (.Attribute o name apos) (e::es) [] cpos) (pL f mo ms):=⟨
 bj (G9 pa slot hty hm ho.out ha.out hbase hfew hline hs hplain) λs H Q zq=>QR zq λw r S hr hS hp=>⟨w,r,S,hr,hS,hp.bind hS λd S1 w1 H1 v x1 q1 s1 p1=>by
  by_cases hl:ZD S1 d=true
  .rw[Y9 hl]at p1;exact⟨IE s1 q1 hl,w1,r,S1,hr.ext x1,s1,p1.bind s1 λds S2 w2 H2 us x2 q2 s2 p2=>⟨w2,S2,d,ds,s2,RD.ext x2 _ _ q1,q2,p2⟩⟩
  .rw[Yj hl]at p1
   exact p1.elim⟩⟩
def dv:Pz->D->List D->R D
 |S,.ref n,[v]=>match S[n]? with
  |some (.lst a)=>if a.length<sizeLine then .ok .non (S.set n (.lst (a++[v]))) else .bad
  |_=>.bad
 |_,_,_=>.bad
def ko:MtR X "list.append" (xM X.K E dv):=by
 rintro pins s σ H x xs v us Q I rx rs ⟨w,S,d,ds,hS,qd,qs,p⟩;unfold dv at p;split at p
 .rename_i n y;split at p
  .rename_i a hn;split at p
   .rename_i hl;obtain⟨pp,rfl,hp⟩:=qd.Rz;obtain⟨yv,rfl,qy⟩:=qs.PK;obtain⟨p',hp',vs,hv,ra⟩:=hS.obj _ _ hn;rw[hp]at hp';cases hp';have hm:pp∈w.st:=Zr hp
    refine mL pins s σ H _ _ v us Q I rx rs ⟨pp,vs,yv,rfl,rfl,hv,by rw[ra.length];exact hl,p.at (Ext.mut hm hv) (by unfold RD;rfl) ?_⟩
    exact hS.mut hp hv ⟨_,aU,PJ.ext (Ext.mut hm hv) _ _ (ra.append (.cons qy .nil))⟩
   .exact p.elim
  .exact p.elim
 .exact p.elim
end
def He:Sum Int Str->PyData
 |.inl i=>.int i
 |.inr x=>.str x
mutual
def toPy:D->Option PyData
 |.non=>some .none
 |.bl b=>some (.bool b)
 |.int i=>some (.int i)
 |.str x=>some (.str x)
 |.tup ds=>(jQ ds).map .tuple
 |.lst ds=>(jQ ds).map .list
 |.PN kvs=>(pN kvs).map .dict
 |.fz _=>none
 |.ref _=>none
 |.ty _=>none
 |.exc _ _=>none
 |.cls _=>none
def jQ:List D->Option (List PyData)
 |[]=>some []
 |d::ds=>match toPy d,jQ ds with
  |some p,some q=>some (p::q)
  |_,_=>none
def pN:List (Sum Int Str×D)->Option (List (PyData×PyData))
 |[]=>some []
 |(k,d)::r=>match toPy d,pN r with
  |some p,some q=>some ((He k,p)::q)
  |_,_=>none
end
mutual
def noL:D->Bool
 |.tup ds=>FH ds
 |.lst _=>false
 |.PN kvs=>FI kvs
 |_=>true
def FH:List D->Bool
 |[]=>true
 |d::ds=>noL d&&FH ds
def FI:List (Sum Int Str×D)->Bool
 |[]=>true
 |(_,d)::r=>noL d&&FI r
end
section
variable{X:Cx}{E:XK}
mutual
theorem iJ{σ:L2.St}(I:Inv X pins σ H s):∀(d:D)(v:V)(u:Value)(p:PyData),RD X.K w H d v->RelV v u->toPy d=some p->∃as,Reads s.heap u p as/\(noL d=true->sysModules∉as)
 |.non,v,u,p,q,r,h=>by cases q.non;cases (show u=Value.none from r);unfold toPy at h;cases h;exact⟨_,.none,λ_ z=>nomatch z⟩
 |.bl b,v,u,p,q,r,h=>by cases q.bl;cases (show u=Value.bool b from r);unfold toPy at h;cases h;exact⟨_,.bool b,λ_ z=>nomatch z⟩
 |.int i,v,u,p,q,r,h=>by cases q.int;obtain⟨t,rfl⟩:=(show ∃t,u=Value.int i t from r);unfold toPy at h;cases h;exact⟨_,.int i t,λ_ z=>nomatch z⟩
 |.str x,v,u,p,q,r,h=>by cases q.str;obtain⟨t,rfl⟩:=(show ∃t,u=Value.str x t from r);unfold toPy at h;cases h;exact⟨_,.str x t,λ_ z=>nomatch z⟩
 |.tup ds,v,u,p,q,r,h=>by
  obtain⟨a,vs,rfl,z,rs⟩:=q.tupI
  cases (show u=Value.ref a from r)
  unfold toPy at h;cases e:jQ ds with
  |none=>rw[e]at h;cases h
  |some ps=>
   rw[e]at h;cases h;obtain⟨its,r1,⟨o,ho,hc,n,hd⟩,_⟩:=I.tuple (dm z);obtain⟨as,ra,hn⟩:=mT I ds vs its ps rs r1 e
   exact⟨as,.tuple ho hc hd ra,λz=>hn (by unfold noL at z;exact z)⟩
 |.lst ds,v,u,p,q,r,h=>by
  obtain⟨a,vs,rfl,z,rs⟩:=q.R6
  cases (show u=Value.ref a from r)
  unfold toPy at h;cases e:jQ ds with
  |none=>rw[e]at h;cases h
  |some ps=>
   rw[e]at h;cases h;obtain⟨its,r1,⟨o,n,ho,hc,_,hd⟩,_⟩:=I.list (Rm.of z.1);obtain⟨as,ra,hn⟩:=mT I ds vs its ps rs r1 e
   exact⟨a::as,.list ho hc hd ra,λz=>by unfold noL at z;cases z⟩
 |.PN kvs,v,u,p,q,r,h=>by
  unfold RD at q;obtain⟨a,us,rfl,z,rk⟩:=q
  cases (show u=Value.ref a from r)
  unfold toPy at h;cases e:pN kvs with
  |none=>rw[e]at h;cases h
  |some ps=>
   rw[e]at h;cases h
   obtain⟨_,hsys,vs,kv,o,es,ep,ho,hex,hd,_,hp,_⟩:=(show ck X.prog X.w H s.heap a (.dK us) from I.hok a _ z.1)
   obtain⟨as,bs,ra,rb,hn⟩:=sd I kvs us vs es.toList ps rk kv hp e;refine⟨a::as++bs,.dict ho hex.1 hd ra rb,λz=>?_⟩;unfold noL at z;intro hm;rcases Yx.mp hm with hm|hm
   .rcases Yb.mp hm with hm|hm
    .rw[<- hm]at hsys;simp at hsys
    .exact(hn z).1 hm
   .exact(hn z).2 hm
 |.fz _,_,_,_,_,_,h=>by unfold toPy at h;cases h
 |.ref _,_,_,_,_,_,h=>by unfold toPy at h;cases h
 |.ty _,_,_,_,_,_,h=>by unfold toPy at h;cases h
 |.exc _ _,_,_,_,_,_,h=>by unfold toPy at h;cases h
 |.cls _,_,_,_,_,_,h=>by unfold toPy at h;cases h
theorem mT{σ:L2.St}(I:Inv X pins σ H s):∀(ds:List D)(vs:List V)(us:List Value)(ps:List PyData),PJ X.K w H ds vs->Vals vs us->jQ ds=some ps->∃as,ReadsAll s.heap us ps as/\(FH ds=true->sysModules∉as)
 |[],vs,us,ps,q,r,h=>by
  rw[q.nil_inv]at r;cases r;unfold jQ at h;cases h
  exact⟨_,.nil,λ_ z=>nomatch z⟩
 |d::ds,_,us,ps,q,r,h=>by
  obtain⟨v,vs,rfl,p,t⟩:=q.cons_inv;unfold jQ at h;cases e1:toPy d with
  |none=>rw[e1]at h;cases h
  |some p1=>
   cases e2:jQ ds with
   |none=>rw[e1,e2]at h;cases h
   |some p2=>
    rw[e1,e2]at h;cases h;cases r with
    |cons r1 r2=>
     obtain⟨as,ra,h1⟩:=iJ I d v _ p1 p r1 e1;obtain⟨bs,rb,h2⟩:=mT I ds vs _ p2 t r2 e2;refine⟨as++bs,.cons ra rb,λz=>?_⟩;unfold FH at z;rw[Z5]at z;intro hm;rcases Yx.mp hm with hm|hm
     .exact h1 z.1 hm
     .exact h2 z.2 hm
theorem sd{σ:L2.St}(I:Inv X pins σ H s):∀(ds:List (Sum Int Str×D))(us:List (Key×V))(vs:List (Key×Value))(es:List DictEntry)(ps:List (PyData×PyData)),QC X.K w H ds us->KV us vs->Pairs (bA X.prog X.w) es vs->pN ds=some ps->
  ∃as bs,ReadsAll s.heap (es.map (·.key)) (ps.map (·.1)) as/\ReadsAll s.heap (es.map (·.val)) (ps.map (·.2)) bs/\(FI ds=true->sysModules∉as/\sysModules∉bs)
 |[],us,vs,es,ps,q,r,hp,h=>by
  unfold QC at q;subst q;cases r;unfold pN at h;cases h;cases hp
  exact⟨_,_,.nil,.nil,λ_=>⟨(λz=>nomatch z),(λz=>nomatch z)⟩⟩
 |(k,d)::ds,us,vs,es,ps,q,r,hp,h=>by
  unfold QC at q;obtain⟨v,ur,rfl,p,t⟩:=q;unfold pN at h;cases e1:toPy d with
  |none=>rw[e1]at h;cases h
  |some p1=>
   cases e2:pN ds with
   |none=>rw[e1,e2]at h;cases h
   |some p2=>
    rw[e1,e2]at h;cases h;cases r with
    |cons r1 r2=>
     cases hp with
     |cons hk hv hr=>
      rename_i q0 vr e0 es0;obtain⟨k',v'⟩:=q0;obtain⟨ek,rv⟩:=r1;have ek':k=k':=ek;subst ek';obtain⟨as,ra,h1⟩:=iJ I d v _ p1 p rv e1;obtain⟨as2,bs2,ra2,rb2,h2⟩:=sd I ds ur vr es0 p2 t r2 hr e2
      have hkey:∃cs,Reads s.heap e0.key (He k) cs/\cs=[]:=by
       rcases cj hk with⟨i,tk,z1,z2⟩|⟨x,tk,z1,z2⟩
       .have z1':k=Sum.inl i:=z1;subst z1';rw[z2];exact⟨_,.int i tk,rfl⟩
       .have z1':k=Sum.inr x:=z1;subst z1';rw[z2];exact⟨_,.str x tk,rfl⟩
      obtain⟨cs,rc,ec⟩:=hkey;subst ec;have hv':e0.val=v':=hv
      refine⟨[]++as2,as++bs2,.cons rc ra2,.cons (by show Reads s.heap e0.val p1 as;rw[hv'];exact ra) rb2,λz=>?_⟩
      unfold FI at z;rw[Z5]at z
      refine⟨by rw[Qz];exact(h2 z.2).1,λhm=>?_⟩
      rcases Yx.mp hm with hm|hm
      .exact h1 z.1 hm
      .exact(h2 z.2).2 hm
end
end
section
variable{K:Frag}{w:Wd}{H:Hp}
structure Mv(w:Wd)(H:Hp)(w2:Wd)(H2:Hp):Prop where
 st:∀(n:Nat)(a:Addr),w.st[n]?=some a->w2.st[n]?=some a
 at_:∀a o,At w H a o->At w2 H2 a o
mutual
theorem RD.mv(x:Mv w H w2 H2):∀(d:D)(v:V),RD K w H d v->RD K w2 H2 d v
 |.non,_,h=>h
 |.bl _,_,h=>h
 |.int _,_,h=>h
 |.str _,_,h=>h
 |.tup ds,v,h=>by unfold RD at h ⊢;obtain⟨a,vs,e,p,r⟩:=h;exact⟨a,vs,e,p.imp (x.at_ _ _) id,PJ.mv x ds vs r⟩
 |.lst ds,v,h=>by unfold RD at h ⊢;obtain⟨a,vs,e,p,r⟩:=h;exact⟨a,vs,e,x.at_ _ _ p,PJ.mv x ds vs r⟩
 |.fz ds,v,h=>by unfold RD at h ⊢;obtain⟨a,vs,e,p,r⟩:=h;exact⟨a,vs,e,p.imp (λ⟨o,z⟩=>⟨o,x.at_ _ _ z⟩) id,PJ.mv x ds vs r⟩
 |.PN kvs,v,h=>by unfold RD at h ⊢;obtain⟨a,us,e,p,r⟩:=h;exact⟨a,us,e,x.at_ _ _ p,QC.mv x kvs us r⟩
 |.ref n,v,h=>by unfold RD at h ⊢;obtain⟨a,e,p⟩:=h;exact⟨a,e,x.st n a p⟩
 |.ty _,_,h=>h
 |.exc c f,v,h=>by unfold RD at h ⊢;obtain⟨a,C,o,e,q,p,z,y⟩:=h;exact⟨a,C,o,e,q,x.at_ _ _ p,z,y.imp x.at_⟩
 |.cls _,_,h=>h
theorem PJ.mv(x:Mv w H w2 H2):∀(ds:List D)(vs:List V),PJ K w H ds vs->PJ K w2 H2 ds vs
 |[],_,h=>h
 |d::ds,vs,h=>by unfold PJ at h ⊢;obtain⟨v,r,e,p,q⟩:=h;exact⟨v,r,e,RD.mv x d v p,PJ.mv x ds r q⟩
theorem QC.mv(x:Mv w H w2 H2):∀(ds:List (Sum Int Str×D))(vs:List (Key×V)),QC K w H ds vs->QC K w2 H2 ds vs
 |[],_,h=>h
 |(k,d)::ds,vs,h=>by unfold QC at h ⊢;obtain⟨v,r,e,p,q⟩:=h;exact⟨v,r,e,RD.mv x d v p,QC.mv x ds r q⟩
end
theorem RO.mv(x:Mv w H w2 H2){o:SO}(hk:∀u,H a=some u->H2 a=some u)(r:RO K w H a o):RO K w2 H2 a o:=by
 cases o with
 |lst ds=>obtain⟨vs,e,q⟩:=r;exact⟨vs,hk _ e,PJ.mv x _ _ q⟩
 |PN kvs=>obtain⟨vs,e,q⟩:=r;exact⟨vs,hk _ e,QC.mv x _ _ q⟩
 |P0 kvs=>obtain⟨o,vs,e,q⟩:=r;exact⟨o,vs,hk _ e,QC.mv x _ _ q⟩
 |ins c fs=>obtain⟨C,dx,us,n,e,q1,q2⟩:=r;exact⟨C,dx,us,n,hk _ e,q1,PJ.mv x _ _ q2⟩
 |RP ds=>obtain⟨o,vs,e,q⟩:=r;exact⟨o,vs,hk _ e,PJ.mv x _ _ q⟩
theorem Rq.mv{s:L2.St}(x:Mv w H w2 H2)(h:Rq K w H r s):Rq K w2 H2 r s:=
 ⟨h.1,λi d e=>let ⟨v,e1,q⟩:=h.2 i d e;⟨v,e1,RD.mv x d v q⟩⟩
theorem Ext.hide(hp:H p=none):Ext w H (w.hide p) (upd H p o):=
 ⟨λa u e _=>by rw[aQ (aW e hp)];exact e,⟨[],by simp[Wd.hide],λ_ z=>nomatch z⟩,λa h=>Z0 _ h,λa h=>(Yb.mp h).elim (λe=>.inr (e▸hp)) .inl,λa o u e=>by rw[aQ (aW e hp)];exact e⟩
def Wd.QK(w:Wd)(p:Addr):Wd:=⟨w.st,w.hid.filter λa=>decide (a≠p)⟩
def Wd.QD(h:a∈(w.QK p).hid):a∈w.hid/\a≠p:=⟨(Z6.mp h).1,Zl (Z6.mp h).2⟩
def Mv.write(hp:p∈w.hid):Mv w H w (upd H p o):=
 ⟨λ_ _ z=>z,λa u h=>⟨by rw[aQ (λz:a=p=>h.2.2 (z▸hp))];exact h.1,h.2⟩⟩
theorem Mv.QK:Mv w H (w.QK p) H:=
 ⟨λ_ _ z=>z,λa u h=>⟨h.1,h.2.1,λz=>h.2.2 (Wd.QD z).1⟩⟩
theorem RS.hide(s:RS K w H S)(hp:H p=none):RS K (w.hide p) (upd H p o) S:=by
 refine⟨s.nd,s.len,λn so e=>?_,λa ha=>?_⟩
 .obtain⟨a,ha,r⟩:=s.obj n so e
  exact⟨a,ha,r.ext (Ext.hide hp) λu z=>by rw[aQ (aW z hp)];exact z⟩
 .rcases Yb.mp ha with z|z
  .subst z;exact⟨s.VN hp,o,aU⟩
  .obtain⟨h1,u,e⟩:=s.hid a z
   exact⟨h1,u,by rw[aQ (aW e hp)];exact e⟩
theorem RS.write(s:RS K w H S)(hp:p∈w.hid):RS K w (upd H p o) S:=by
 have np:=(s.hid p hp).1;refine⟨s.nd,s.len,λn so e=>?_,λa ha=>?_⟩
 .obtain⟨a,ha,r⟩:=s.obj n so e;have:a≠p:=λz=>np (z▸Zr ha)
  exact⟨a,ha,r.mv (Mv.write hp) λu z=>by rw[aQ this];exact z⟩
 .obtain⟨h1,u,e⟩:=s.hid a ha;by_cases z:a=p
  .subst z;exact⟨h1,o,aU⟩
  .exact⟨h1,u,by rw[aQ z];exact e⟩
theorem RS.QK(s:RS K w H S):RS K (w.QK p) H S:=
 ⟨s.nd,s.len,λn so e=>by
  obtain⟨a,ha,r⟩:=s.obj n so e
  exact⟨a,ha,r.mv Mv.QK λu z=>z⟩,λa ha=>s.hid a (Wd.QD ha).1⟩
def zY{s:L2.St}(k:Nat)(PB:List Nat)(h:Rq K w H r s):Rq K w H (eZ k PB r) (nO k PB s):=by
 unfold eZ nO
 refine⟨by simp,λi d e=>?_⟩
 by_cases hi:i<k
 .rw[Z1 (by simpa using hi),V3]at e
  split at e<;>cases e
 .rw[W4 (by simpa using hi),Qx,Wn]at e
  rw[W4 (by simpa using hi),Qx,Wn]
  cases ec:PB[i-k]? with
  |none=>rw[ec]at e;cases e
  |some j=>
   rw[ec]at e;have e':(r[j]?).join=some d:=Z8 e
   have hj:r[j]?=some (some d):=by
    cases q:r[j]? with
    |none=>rw[q]at e';cases e'
    |some o=>rw[q]at e';rw[show o=some d from e']
   obtain⟨v,ev,rv⟩:=h.2 j d hj
   exact⟨v,by show some ((s[j]?).join)=some (some v);rw[ev];rfl,rv⟩
end
abbrev SIf(X:Cx)(E:XK)(ifs:List Expr)(m:TM):Prop:=Bx (Dc X ifs (uT X.K E m))
def cU{E:XK}:SIf X E [] bY:=⟨λpins s σ H Q I zq=>QR zq λw r S hr hS hp=>Dd pins s σ H Q I (hp.ret rfl hS)⟩
def oV{E:XK}{c:Expr}{m:TM}(h:ST X E c m):SIf X E [c] m:=⟨De h.out⟩
theorem Dr{E:XK}{elt tg iter:Expr}{ifs:List Expr}{pos:Pos}{k:Nat}{it:AM}{g:G}{mt:TM}{me:EM}(hX:Cd qb X)(Y4:∀e s,¬X.xe e s)(C:QW X N k PB scope)
  (hi:SIb qb X E tg iter it) (hg:∀cl s0 H0 ex,Cd qb (Ro X N scope cl s0 H0 ex)->SG (Ro X N scope cl s0 H0 ex) tg g) (ht:∀cl s0 H0 ex,Cd qb (Ro X N scope cl s0 H0 ex)->SIf (Ro X N scope cl s0 H0 ex) E ifs mt) (he:∀cl s0 H0 ex,Cd qb (Ro X N scope cl s0 H0 ex)->SE (Ro X N scope cl s0 H0 ex) E elt me)
  (hs:∀x,foldedSetIterable iter X.env x=pure x:=by intro _;kernel_rfl):SE X E (.ListComp elt [⟨tg,iter,ifs,0⟩] scope pos) (br it k PB g mt me):=⟨
 bj (Df hX Y4 C hi.out (g:=uG X.K g) (λcl s0 H0 ex z=>(hg cl s0 H0 ex z).out) (tt:=uT X.K E mt) (λcl s0 H0 ex z=>(ht cl s0 H0 ex z).out) (te:=uE X.K E me) (λcl s0 H0 ex z=>(he cl s0 H0 ex z).out) hs) λs H Q zq=>QR zq λw r S hr hS hp=>⟨w,r,S,hr,hS,hp.bind hS λds S1 w1 H1 J x1 q1 s1 p1=>by
  intro p hp;have hr1:=hr.ext x1;have pno:p∉w1.hid:=(s1.fresh hp).2
  have hz:ds.length<=sizeLine:=by
   rcases Nat.lt_or_ge sizeLine ds.length with z|z
   .rw[Yj (by omega)]at p1;exact p1.elim
   .exact z
  rw[Y9 hz]at p1
  -- the list is made at p,which is hidden
  refine⟨λi n s' H'=>n=ds.length-i/\i<=ds.length/\∃w' r' S' ys vs,Ext w1 H1 w' H'/\p∈w'.hid/\Rq X.K w' H' r' s'/\RS X.K w' H' S'/\H' p=some (.lst vs)/\PJ X.K w' H' ys vs/\ys.length<=i/\
    aF X.K E (RD X.K) w1 H1 ((cI g mt me (ds.drop i) r' S').bind λzs S2=>R.ok (.lst (ys++zs)) S2) Q,
   ⟨ds.length,by simp,Zs _,w1.hide p,eZ k PB r,S1,[],[],Ext.hide hp,Z4,(zY k PB hr1).ext (Ext.hide hp),s1.hide hp,aU,.nil,Yh _,p1⟩,?_⟩
  rintro i n s2 H2 ⟨rfl,hi.out,w2,r2,S2,ys,vs,x2,hph,hr2,hS2,hpv,ry,hyl,hp2⟩;have hpn:p∉w2.st:=(hS2.hid p hph).1;by_cases hlt:i<ds.length
  .obtain⟨go,X5⟩:=(q1 i w2 H2 x2).1 hlt
   refine .inr ⟨go,λs' H'=>∃w' r' S' ys vs,Ext w1 H1 w' H'/\p∈w'.hid/\Rq X.K w' H' r' s'/\RS X.K w' H' S'/\H' p=some (.lst vs)/\PJ X.K w' H' ys vs/\ys.length<=i+1/\
     aF X.K E (RD X.K) w1 H1 ((cI g mt me (ds.drop (i+1)) r' S').bind λzs S2=>R.ok (.lst (ys++zs)) S2) Q,
    λs' H' hN=>⟨ds.length-(i+1),by omega,rfl,hlt,hN⟩,λx H3 hy=>?_⟩
   obtain⟨gr,rd⟩:=X5 x H3 hy;obtain⟨d,ed,qd⟩:=rd S2 hS2;obtain⟨x3,s3⟩:=pE gr hS2
   have hdrop:ds.drop i=d::ds.drop (i+1):=by rw[Vm hlt];rw[Yk hlt]at ed;cases ed;rfl
   rw[hdrop]at hp2;have aag:H3 p=some (.lst vs):=x3.keep _ _ hpv hpn;have ry3:=PJ.ext x3 _ _ ry;have x13:Ext w1 H1 w2 H3:=x2.trans' x3 s1 hS2;unfold cI at hp2;cases e:g.put d r2 with
   |none=>rw[e]at hp2;exact hp2.elim
   |some r3=>
    rw[e]at hp2;refine⟨w2,r2,d,r3,hr2.ext x3,qd,e,λs4 Xw=>⟨w2,r3,S2,Xw,s3,?_⟩⟩
    -- hp2:(mt r3 S2).bind .. |>.bind ..
    have TQ:∀{A B C:Type}(r:R A)(f:A->Pz->R B)(h:B->Pz->R C),(r.bind f).bind h=r.bind λa S=>(f a S).bind h:=λr f h=>by cases r<;>rfl
    simp only[TQ]at hp2;refine aF.R5 (rel:=RB) hp2 x13 s1 s3 λc S5 w5 H5 c' x5 q5 s5 p5=>?_;have ec:c'=c:=q5;subst ec;have x15:Ext w1 H1 w5 H5:=x13.trans' x5 s1 s3;have WK:p∈w5.hid:=x5.hid p hph;have Xz:H5 p=some (.lst vs):=x5.keep _ _ aag hpn;cases c' with
    |false=>
     refine rg ⟨w5,r3,S5,ys,vs,x15,WK,Xw.ext x5,s5,Xz,PJ.ext x5 _ _ ry3,Mb hyl,p5⟩
    |true=>
     refine rh ⟨w5,r3,S5,Xw.ext x5,s5,?_⟩;have p5':aF X.K E (RD X.K) w1 H1 (((me r3 S5).bind λy S2=>(cI g mt me (ds.drop (i+1)) r3 S2).bind λys S3=>R.ok (y::ys) S3).bind λzs S2=>R.ok (D.lst (ys++zs)) S2) Q:=p5;simp only[TQ]at p5';refine aF.R5 (rel:=RD X.K) p5' x15 s1 s5 λy S6 w6 H6 yv x6 q6 s6 p6=>?_;have XC:Ext w1 H1 w6 H6:=x15.trans' x6 s1 s5;have R7:p∈w6.hid:=x6.hid p WK;have aah:p∉w5.st:=(s5.hid p WK).1;have aaL:p∉w6.st:=(s6.hid p R7).1;have XF:H6 p=some (.lst vs):=x6.keep _ _ Xz aah;have ry6:=PJ.ext x6 _ _ (PJ.ext x5 _ _ ry3)
     refine⟨vs,XF,by rw[ry6.length];omega,w6,r3,S6,ys++[y],vs++[yv],⟨λa o h n=>?_,XC.sub,XC.hid,XC.hnew,λa o u h=>by have z:=XC.QX a o u h;rw[aQ (λe:a=p=>by rw[e,XF]at z;cases z)];exact z⟩,R7,(Xw.ext x5).ext x6 |>.mv (Mv.write R7),s6.write R7,aU,(PJ.mv (Mv.write R7) _ _ ry6).append (.cons (RD.mv (Mv.write R7) _ _ q6) .nil),by simp;omega,?_⟩
     .have:a≠p:=aW h hp;rw[aQ this];exact XC.keep a o h n
     .have he2:∀zs:List D,(ys++[y])++zs=ys++y::zs:=λzs=>by simp
      simp only[he2];exact p6
  .have e:i=ds.length:=by omega
   subst e;rw[Mf]at hp2;refine .inl ⟨(q1 _ w2 H2 x2).2 (Yh _),?_⟩;have hp3:aF X.K E (RD X.K) w1 H1 (R.ok (D.lst (ys++[])) S2) Q:=hp2;rw[Qi]at hp3;refine aF.at hp3 (w1:=w2.QK p) ⟨x2.keep,x2.sub,λa h=>Z6.mpr ⟨x2.hid a h,Yr λz=>pno (z▸h)⟩,λa h=>x2.hnew a (Wd.QD h).1,x2.QX⟩ ?_ hS2.QK;unfold RD
   exact⟨p,vs,rfl,⟨hpv,hpn,λz=>(Wd.QD z).2 rfl⟩,PJ.mv Mv.QK _ _ ry⟩⟩⟩
def cC{E:XK}{elt tg iter:Expr}{ifs:List Expr}{pos:Pos}{k:Nat}{it:AM}{g:G}{mt:TM}{me:EM}(hX:X.calm=true)(Y4:∀e s,¬X.xe e s)(C:QW X N k PB scope)
  (hi:SI X E tg iter it) (hg:∀cl s0 H0 ex,SG (Ro X N scope cl s0 H0 ex) tg g) (ht:∀cl s0 H0 ex,SIf (Ro X N scope cl s0 H0 ex) E ifs mt) (he:∀cl s0 H0 ex,SE (Ro X N scope cl s0 H0 ex) E elt me)
  (hs:∀x,foldedSetIterable iter X.env x=pure x:=by intro _;kernel_rfl):SE X E (.ListComp elt [⟨tg,iter,ifs,0⟩] scope pos) (br it k PB g mt me):=Dr (qb:=false) (.inl hX) Y4 C hi (λa b c d _=>hg a b c d) (λa b c d _=>ht a b c d) (λa b c d _=>he a b c d) hs
abbrev KD:=Sum Int Str
def lS:D->Option KD
 |.int i=>some (.inl i)
 |.str x=>some (.inr x)
 |_=>none
def putD(kvs:List (KD×D))(k:KD)(d:D):List (KD×D):=
 if kvs.any (λkv=>decide (kv.1=k)) then kvs.map (λkv=>if kv.1=k then (kv.1,d) else kv) else kvs++[(k,d)]
def pO(kvs more:List (KD×D)):List (KD×D):=more.foldl (λacc kv=>putD acc kv.1 kv.2) kvs
def nQ:List (D×D)->Option (List (KD×D))
 |[]=>some []
 |(k,v)::r=>match lS k,nQ r with
  |some k',some r'=>some ((k',v)::r')
  |_,_=>none
def pM:List (EM×EM)->Rp->Pz->R (List (D×D))
 |[],_,S=>.ok [] S
 |(a,b)::t,r,S=>(a r S).bind λx S1=>(b r S1).bind λy S2=>(pM t r S2).bind λps S3=>.ok ((x,y)::ps) S3
def nR(ms:List (EM×EM)):EM:=λr S=>(pM ms r S).bind λps S1=>match nQ ps with
 |some kvs=>if kvs.length<=15 then .ok (.ref S1.length) (S1++[.PN (pO [] kvs)]) else .bad
 |none=>.bad
section
variable{K:Frag}{w:Wd}{H:Hp}
def QC.nil:QC K w H [] []:=by unfold QC;rfl
def QC.cons{k:KD}{d:D}{v:V}{ds:List (KD×D)}{vs:List (Key×V)}(r:RD K w H d v)(q:QC K w H ds vs):QC K w H ((k,d)::ds) ((k,v)::vs):=by unfold QC;exact⟨v,vs,rfl,r,q⟩
def QC.nil_inv{vs:List (Key×V)}(h:QC K w H [] vs):vs=[]:=by unfold QC at h;exact h
def QC.cons_inv{k:KD}{d:D}{ds:List (KD×D)}{vs:List (Key×V)}(h:QC K w H ((k,d)::ds) vs):∃v r,vs=(k,v)::r/\RD K w H d v/\QC K w H ds r:=by unfold QC at h;exact h
theorem QC.append:∀{ds es:List (KD×D)}{vs us:List (Key×V)},QC K w H ds vs->QC K w H es us->QC K w H (ds++es) (vs++us)
 |[],_,_,_,h,q=>by rw[h.nil_inv];exact q
 |(_,_)::_,_,_,_,h,q=>by obtain⟨v,r,rfl,p,t⟩:=h.cons_inv;exact .cons p (QC.append t q)
theorem QC.any:∀{ds:List (KD×D)}{vs:List (Key×V)}(k:KD),QC K w H ds vs->(ds.any λkv=>decide (kv.1=k))=(vs.any λkv=>decide (kv.1=k))
 |[],_,_,h=>by rw[h.nil_inv];rfl
 |(_,_)::_,_,k,h=>by obtain⟨v,r,rfl,p,t⟩:=h.cons_inv;rw[Qt,Qt,QC.any k t]
theorem QC.repl{d:D}{v:V}(r:RD K w H d v):∀{ds:List (KD×D)}{vs:List (Key×V)}(k:KD),QC K w H ds vs->QC K w H (ds.map λkv=>if kv.1=k then (kv.1,d) else kv) (vs.map λkv=>if kv.1=k then (kv.1,v) else kv)
 |[],_,_,h=>by rw[h.nil_inv];exact .nil
 |(j,_)::_,_,k,h=>by
  obtain⟨v',r',rfl,p,t⟩:=h.cons_inv;simp only[Y8];by_cases hj:j=k
  .rw[Y9 hj,Y9 hj];exact .cons r (QC.repl r k t)
  .rw[Yj hj,Yj hj];exact .cons p (QC.repl r k t)
def QC.put{ds:List (KD×D)}{vs:List (Key×V)}{d:D}{v:V}(q:QC K w H ds vs)(k:KD)(r:RD K w H d v):QC K w H (putD ds k d) (putK vs k v):=by
 unfold putD putK;rw[q.any k];split
 .exact q.repl r k
 .exact q.append (.cons r .nil)
theorem QC.merge:∀{more:List (KD×D)}{mvs:List (Key×V)}{ds:List (KD×D)}{vs:List (Key×V)},QC K w H more mvs->QC K w H ds vs->QC K w H (pO ds more) (i7 vs mvs)
 |[],_,_,_,h,q=>by rw[h.nil_inv];exact q
 |(k,d)::r,_,ds,vs,h,q=>by obtain⟨v',r',rfl,p,t⟩:=h.cons_inv;show QC K w H (pO (putD ds k d) r) (i7 (putK vs k v') r');exact QC.merge t (q.put k p)
def lT{d:D}{v:V}{k:KD}(q:RD K w H d v)(h:lS d=some k):v=kV k:=by
 cases d with
 |int i=>cases q.int;cases h;rfl
 |str x=>cases q.str;cases h;rfl
 |_=>cases h
def RPs(K:Frag)(w:Wd)(H:Hp):List (D×D)->List (V×V)->Prop
 |[],vs=>vs=[]
 |(a,b)::r,vs=>∃x y t,vs=(x,y)::t/\RD K w H a x/\RD K w H b y/\RPs K w H r t
theorem wt:∀{ps:List (D×D)}{vs:List (V×V)}{kvs:List (KD×D)},RPs K w H ps vs->nQ ps=some kvs->∃us:List (Key×V),vs=us.map (λkv=>(kV kv.1,kv.2))/\QC K w H kvs us
 |[],_,_,h,e=>by have h':_=[]:=h;subst h';unfold nQ at e;cases e;exact⟨[],rfl,.nil⟩
 |(a,b)::r,_,kvs,h,e=>by
  obtain⟨u,v,t,rfl,h1,h2,h3⟩:=h;unfold nQ at e;cases e1:lS a with
  |none=>rw[e1]at e;cases e
  |some k=>
   cases e2:nQ r with
   |none=>rw[e1,e2]at e;cases e
   |some r'=>
    rw[e1,e2]at e;cases e;obtain⟨us,rfl,q⟩:=wt h3 e2
    exact⟨(k,v)::us,by rw[lT h1 e1];rfl,.cons h2 q⟩
end
section
variable{X:Cx}{E:XK}{pos:Pos}
def uPs(K:Frag)(E:XK)(ms:List (EM×EM)):List (TE×TE):=ms.map λp=>(uE K E p.1,uE K E p.2)
theorem Hf{A2 B2:Type}{K:Frag}{VP:Wd->Hp->A2->B2->Prop}{w0:Wd}{H0:Hp}{S0:Pz}{Q:B2->Hp->Prop}(s0:RS K w0 H0 S0):∀(ms:List (EM×EM)){w:Wd}{H:Hp}{S:Pz}{r:Rp}{s:L2.St}{f:List (D×D)->Pz->R A2}{Q':List (V×V)->Hp->Prop},Rq K w H r s->RS K w H S->Ext w0 H0 w H->
  aF K E VP w0 H0 ((pM ms r S).bind f) Q->(∀ps S1 w1 H1 vs,Ext w H w1 H1->RPs K w1 H1 ps vs->RS K w1 H1 S1->aF K E VP w0 H0 (f ps S1) Q->Q' vs H1)->ub (uPs K E ms) s H Q'
 |[],w,H,S,r,s,f,Q',hr,hS,x,hp,k=>k [] S w H [] (Ext.refl _ _) rfl hS hp
 |(a,b)::t,w,H,S,r,s,f,Q',hr,hS,x,hp,k=>by
  have TQ:∀{A B C:Type}(r:R A)(f:A->Pz->R B)(h:B->Pz->R C),(r.bind f).bind h=r.bind λa S=>(f a S).bind h:=λr f h=>by cases r<;>rfl
  unfold pM at hp;rw[TQ]at hp;refine⟨w,r,S,hr,hS,aF.R5 (rel:=RD K) hp x s0 hS λd S1 w1 H1 u x1 q1 s1 p1=>?_⟩;rw[TQ]at p1;have x01:=x.trans' x1 s0 hS;refine⟨w1,r,S1,hr.ext x1,s1,aF.R5 (rel:=RD K) p1 x01 s0 s1 λe S2 w2 H2 v x2 q2 s2 p2=>?_⟩;rw[TQ]at p2;have x02:=x01.trans' x2 s0 s1
  exact Hf s0 t ((hr.ext x1).ext x2) s2 x02 p2 λps S3 w3 H3 vs x3 q3 s3 p3=>
   k ((d,e)::ps) S3 w3 H3 ((u,v)::vs) ((x1.trans' x2 hS s1).trans' x3 hS s2) ⟨u,v,vs,rfl,RD.ext x3 _ _ (RD.ext x2 _ _ q1),RD.ext x3 _ _ q2,q3⟩ s3 p3
abbrev SPs(X:Cx)(E:XK)(pos:Pos)(keys:List (Option Expr))(values:List Expr)(ms:List (EM×EM)):Prop:=Bx (PPs X pos keys values (uPs X.K E ms))
def uB:SPs X E pos [] [] []:=⟨Fz⟩
def pP{k v:Expr}{ks:List (Option Expr)}{vs:List Expr}{mk mv:EM}{ms:List (EM×EM)}(hk:SE X E k mk)(hv:SE X E v mv)(hr:SPs X E pos ks vs ms):SPs X E pos (some k::ks) (v::vs) ((mk,mv)::ms):=⟨C3 hk.out hv.out hr.out⟩
theorem BF{keys:List (Option Expr)}{values:List Expr}{ms:List (EM×EM)}{m:EM}{s:L2.St}{H:Hp}{Q:VK}{fin:List (KD×D)->Pz->R D}
  (hm:∀r S,m r S=(pM ms r S).bind λps S1=>match nQ ps with|some kvs=>if kvs.length<=15 then fin kvs S1 else .bad|none=>.bad)
  (hfin:∀(kvs:List (KD×D))(us:List (Key×V))(w0 w:Wd)(H0 H:Hp)(S0 S:Pz)(p:Addr),H0 p=none->RS X.K w0 H0 S0->RS X.K w H S->Ext w0 H0 w H->p∈w.hid->QC X.K w H (pO [] kvs) (i7 [] us)->aF X.K E (RD X.K) w0 H0 (fin kvs S) Q->Q (.ref p) (upd H p (.dK (i7 [] us))))
  (h:uE X.K E m s H Q):Hc (uPs X.K E ms) s H Q:=by
 obtain⟨w,r,S,hr,hS,hp⟩:=h;rw[hm]at hp;intro p hpn;refine Hf hS ms (hr.ext (Ext.hide hpn)) (hS.hide hpn) (Ext.hide hpn) hp λps S1 w1 H1 vs x1 q1 s1 p1=>?_;have hh:p∈w1.hid:=x1.hid p Z4;have hx:Ext w H w1 H1:=(Ext.hide hpn).trans' x1 hS (hS.hide hpn);refine⟨x1.keep p _ aU ((hS.hide (o:=HO.dK []) hpn).hid p Z4).1,?_⟩;cases e:nQ ps with
 |none=>rw[e]at p1;exact p1.elim
 |some kvs=>
  rw[e]at p1;obtain⟨us,rfl,rk⟩:=wt q1 e;have hl:=rk.length;by_cases hz:kvs.length<=15
  .have p2:aF X.K E (RD X.K) w H (if kvs.length<=15 then fin kvs S1 else R.bad) Q:=p1
   rw[Y9 hz]at p2
   exact⟨us,rfl,by rw[hl];exact hz,hfin kvs us w w1 H H1 S S1 p hpn hS s1 hx hh (rk.merge .nil) p2⟩
  .have p2:aF X.K E (RD X.K) w H (if kvs.length<=15 then fin kvs S1 else R.bad) Q:=p1
   rw[Yj hz]at p2;exact p2.elim
end
def wu(m:AM)(n:Nat):Prop:=∀r S ds S',m r S=.ok ds S'->ds.length=n
def av:wu ak 0:=λr S ds S' h=>by unfold ak at h;cases h;rfl
def ai{a:EM}{t:AM}{n:Nat}(h:wu t n):wu (ag a t) (n+1):=λr S ds S' e=>by
 unfold ag at e;cases e1:a r S with
 |bad=>rw[e1]at e;cases e
 |err x S1=>rw[e1]at e;cases e
 |ok d S1=>
  rw[e1]at e;cases e2:t r S1 with
  |bad=>simp only[R.Pq,e2,R.Xv]at e;cases e
  |err x S2=>simp only[R.Pq,e2,R.Xu]at e;cases e
  |ok es S2=>
   simp only[R.Pq,e2]at e;cases e;simp[h r S1 es _ e2]
section
variable{X:Cx}{E:XK}
def js{pos:Pos}(hm:∃t,X.mg x=some (.int i t))(hg:Gl X x)(hd:(x == ("__debug__":Str))=false:=by decide +kernel):SE X E (.Name x pos) (eC (.int i)):=by obtain⟨t,e⟩:=hm;exact FD hg e hd
end
def uC(N0 N:List Str)(k:Nat)(scope:Scope):List Nat->Nat->Bool
 |[],_=>true
 |i::r,t=>(match N0[i]?,N[k+t]? with
  |some x,some y=>x == y&&scope.names.lookup x == some .free
  |_,_=>false)&&uC N0 N k scope r (t+1)
theorem pQ{N0:List Str}{k:Nat}:∀{PB:List Nat}{t0:Nat},uC N0 N k scope PB t0=true->∀(t i:Nat),PB[t]?=some i->∃x,N0[i]?=some x/\N[k+(t0+t)]?=some x/\scope.names.lookup x=some .free
 |[],_,_,_,_,h=>by simp at h
 |j::r,t0,h,t,i,e=>by
  unfold uC at h;rw[Z5]at h;cases t with
  |zero=>
   simp at e;subst e;have h1:=h.1;cases e1:N0[j]? with
   |none=>rw[e1]at h1;cases h1
   |some x=>
    cases e2:N[k+t0]? with
    |none=>rw[e1,e2]at h1;cases h1
    |some y=>
     rw[e1,e2]at h1;simp only[Z5]at h1;have hxy:x=y:=Uw h1.1;subst hxy
     exact⟨x,rfl,by simpa using e2,Uw h1.2⟩
  |succ t=>
   obtain⟨x,a,b,c⟩:=pQ h.2 t i (by simpa using e)
   exact⟨x,a,by rw[show t0+(t+1)=t0+1+t by omega];exact b,c⟩
def eL{X:Cx}{N:List Str}{k:Nat}{PB:List Nat}(h1:scope.kind=.function)(h2:scope.names.all (λx=>x.2 != .cell)=true)(h3:scope.names.all (λx=>x.2 != .local||scope.names.lookup x.1 == some .local)=true)
  (h4:scope.names.all (λx=>x.2 != .free||X.env.kindOf x.1 == some .cell||X.env.kindOf x.1 == some .free)=true) (h5:N.length=k+PB.length) (h6:uC X.N N k scope PB 0=true):QW X N k PB scope:=by
 refine⟨h1,λx hx z=>?_,λx hx z=>?_,λx hx z=>?_,h5,λt i e=>?_⟩
 .have:=Zj.mp h2 x hx;rw[z]at this;simp at this
 .have:=Zj.mp h3 x hx;rw[z]at this;simpa using this
 .have:=Zj.mp h4 x hx;rw[z]at this;simpa using this
 .obtain⟨x,a,b,c⟩:=pQ h6 t i e
  exact⟨x,a,by simpa using b,c⟩
theorem IF{f:FM}(h:∀ns:List Int,ns.length<=63->∃S,f [.fz (ns.map .int)] []=.ok (.bl true) S)(K:Frag)(H:Hp)(a:Addr)(ns:List Int)(hn:ns.length<=63)(ho:C5 H)(hs:Rm K H a (ns.map V.int)):
  spM K 1 f [.ref a] H (λv _=>v=.bl true) λ_ _ _=>False:=by
 obtain⟨S,e⟩:=h ns hn
 have hfz:yz K ⟨[],[]⟩ H a (ns.map V.int):=by
  rcases hs with(hs|⟨o,hs⟩)|hs
  .rcases ho a with z|⟨o,xs,z⟩
   .rw[z]at hs;cases hs
   .rw[z]at hs;cases hs
  .exact .inl ⟨o,hs,(λz=>nomatch z),(λz=>nomatch z)⟩
  .exact .inr hs
 have hints:∀l:List Int,PJ K ⟨[],[]⟩ H (l.map D.int) (l.map V.int):=λl=>by
  induction l with
  |nil=>exact .nil
  |cons i l ih=>exact .cons RD.Sh ih
 refine⟨rfl,⟨[],[]⟩,[],[.fz (ns.map .int)],⟨List.nodup_nil,rfl,λn o z=>?_,(λa z=>nomatch z)⟩,.cons (by unfold RD;exact⟨a,_,rfl,hfz,hints ns⟩) .nil,?_⟩
 .simp at z
 .rw[e];intro w' H' b x q s;unfold RD at q;exact q
end PD
namespace PD
open PySem L2
variable{S:Pz}{i j:Int}
def dX(h:dH i\/dH j):dn S (.int i) (.int j)=some (.int (i*j)):=Y9 h
def Ds(h:0<j):oMod S (.int i) (.int j)=some (.int (i%j)):=Y9 h
def FJ(h:0<j/\j<1073741824):jr S (.int i) (.int j)=some (.int (i/j)):=Y9 h
def IG(h:0<=j/\j<=1000000/\i.natAbs<2^64):pH S (.int i) (.int j)=some (.int (i^j.toNat)):=Y9 h
def Dt{A:Type}{xs:List A}{i:Nat}(h:i<xs.length):Tt xs (i:Int)=some xs[i]:=zQ (Yk h)
end PD
namespace PySem
def Heap.aaM(h:Heap)(e:Addr)(dx:Option Addr):Prop:=∃o,h.get? e=some o/\ZO o/\o.dict=dx
end PySem
namespace L2
open PySem PySem.Spec PyProof.Rows
def Fly(l:List Env)(H':Hp)(h hs:Heap)(ea:Addr)(cls:Value)(da:Option Addr):Prop:=
 ∃(B:Heap)(a0:Value),Heap.FlyingW B l ea cls a0 hs/\(∀b o,h.get? b=some o->b∉frs l->∃o',B.get? b=some o')/\(∀b u,H' b=some u->∃o',B.get? b=some o')/\hs.aaM ea da
def UW(P:Program)(w:World):Xe:=λouter H s E e s'=>
 ∃ea cls da H',e=.ref ea/\s'.os=s.os/\AllBare s'.gens/\Un (frs outer) [] H H' s.heap s'.heap/\RN P w H' s'.heap/\Fly outer H' s.heap s'.heap ea cls da/\E cls da H'
end L2
namespace PD
open PySem PySem.Spec PyProof.Rows L2
section
variable{X:Cx}{E:XK}
theorem aF.nx{A B:Type}{K:Frag}{rel:Wd->Hp->A->B->Prop}{w:Wd}{H:Hp}{r:R A}{Q:B->Hp->Prop}(h:aF K E rel w H r.nx Q):aF K E0 rel w H r Q:=by
 cases r with
 |ok a S=>exact h
 |err x S=>exact h.elim
 |bad=>exact h
end
section
variable{P:Program}{w:World}{K:Frag}{mg:Str->Option Value}{base:Heap}{N:List Str}{qual:Str}{scope:Scope}{f:Addr}{cdv:Value}{A:Around}{outer:List Env}{s:Shared}{H:Hp}{E:XK}
def gy{X:Cx}:Passes (UW X.prog X.w) X E0:=λ_ _ _ _ _ _ _ ⟨_,_,_,_,_,_,_,_,_,_,z⟩=>z.elim
end
variable{x:Str}{st:Stmt}{f:Addr}{fd:FuncData}
def YB(K:Frag)(n:Nat)(f:FM):Sp:=λvs H Q _=>vs.length=n/\∃w S ds,RS K w H S/\PJ K w H ds vs/\aF K E0 (RD K) w H (f ds S) Q
structure Pu(P:Program)(w:World)(K:Frag)(mg:Str->Option Value)(base:Heap)(x:Str)(k n:Nat)(f:FM):Prop where
 ex:∃(fa:Addr)(fd:FuncData)(ps:List Str),mg x=some (.ref fa)/\keepIn K (.ref fa)=true/\Binds K fd ps []/\Rb P w K mg base (UW P w) k fa fd ps (YB K n f)
structure Xh(P:Program)(w:World)(K:Frag)(mg:Str->Option Value)(base:Heap)(x:Str)(k n:Nat)(f:FM):Prop where
 ex:∃(fa:Addr)(fd:FuncData)(ps:List Str),mg x=some (.ref fa)/\keepIn K (.ref fa)=true/\Binds K fd ps []/\Rb P w K mg base (UW P w) k fa fd ps (spM K n f)
section
variable{X:Cx}{E:XK}{x:Str}{k n:Nat}{f:FM}{a:Expr}{es:List Expr}{ms:AM}{p pos:Pos}
theorem IH(D:Pu X.prog X.w X.K X.mg X.base x k n f)(hr:PQ k X.A)(hg:Gl X x)(ha:SA X E0 (a::es) ms)(hn:wu ms n)(hdb:(x == ("__debug__":Str))=false:=by decide +kernel)
  (he:starEach (a::es) X.env=(false,eval a X.env)::starEach es X.env:=by kernel_rfl) (hpl:(backTo pos (starEach es X.env)).any (·.1)=false:=by kernel_rfl):
  SE X E0 (.Call (.Name x p) (a::es) [] pos) (az f ms):=by
 obtain⟨fa,fd,ps,hm,hk,hb,F⟩:=D.ex;refine⟨bj (Fn F hr hg hm hk hb (Su:=[]) .nil gy ha.out hdb he hpl) λs H Q zq=>?_⟩;obtain⟨w,r,S,hr,hS,hp⟩:=zq;refine⟨w,r,S,hr,hS,?_⟩;have hp':aF X.K E0 (RD X.K) w H ((ms r S).bind λxs S1=>f xs S1) Q:=hp;cases e:ms r S with
 |bad=>rw[e]at hp';exact hp'.elim
 |err y S'=>rw[e]at hp';exact hp'
 |ok ds S'=>
  rw[e]at hp';intro w1 H1 vs x1 q1 s1;rw[Qi]
  exact⟨by rw[q1.length];exact hn r S ds S' e,w1,S',ds,s1,q1,aF.ext (r:=f ds S') hp' x1 hS s1⟩
end
section
variable{P:Program}{w:World}{K:Frag}{mg:Str->Option Value}{base:Heap}
theorem uD{qual:Str}{N ps:List Str}{k:Nat}{m:SM}(F:QJ K x qual st f fd)(S:Py N ps (Pr st))
  (hbody:∀(cdv:Value)(A:Around)(outer:List Env)(s:Shared)(H:Hp)(E:XK),PQ k (A.deeper (envOfC qual (Pr st) s.heap.objs.size f cdv))->
   Xf (qY (UW P w) P w K mg base N qual (Pr st) f cdv A outer s H E).nox E0 (QL st) m):Rb P w K mg base (UW P w) (k+1) f fd ps (YB K ps.length (QB N.length m)):=by
 obtain⟨oc,od,kV,doc,pm,an,cdv,ct,osl,rfl,lk,hcd⟩:=F.ex;refine Kk lk hcd S (λvs H Q E h=>h.1) λA outer s H vs Q E hr h=>?_;obtain⟨hl,u,T,ds,hT,q,p⟩:=h;refine⟨_,(hbody cdv A outer s H E hr).out.nox,u,_,T,BD q,hT,?_⟩;refine aF.bind (rel:=RF K) p hT λg S1 w1 H1 fv x1 q1 s1 p1=>?_;cases g with
 |nx r=>obtain⟨s',rfl,_⟩:=q1;have z:=aF.ret (Q:=Q) (rel:=RD K) (a:=D.non) (b:=V.non) p1 (by unfold RD;rfl) s1;exact z
 |rt d=>obtain⟨v,rfl,q2⟩:=q1;have z:=aF.ret (Q:=Q) (rel:=RD K) (a:=d) (b:=v) p1 q2 s1;exact z
 |bk r=>exact p1.elim
 |ct r=>exact p1.elim
def aG{m:SM}(N ps:List Str)(k k1 n0 n1:Nat)(hk:k1=k+1)(h0:n0=ps.length)(h1:n1=N.length)(F:QJ K x x st f fd)(hm:mg x=some (.ref f))(hb:Binds K fd ps [])(S:Py N ps (Pr st))
  (hbody:∀(cdv:Value)(A:Around)(outer:List Env)(s:Shared)(H:Hp)(E:XK),PQ k (A.deeper (envOfC x (Pr st) s.heap.objs.size f cdv))->
   Xf (qY (UW P w) P w K mg base N x (Pr st) f cdv A outer s H E).nox E0 (QL st) m):Pu P w K mg base x k1 n0 (QB n1 m):=by
 subst hk h0 h1;exact⟨f,fd,ps,hm,F.kp,hb,uD F S hbody⟩
def FK{m:SM}(N ps:List Str)(k k1 n0 n1:Nat)(hk:k1=k+1)(h0:n0=ps.length)(h1:n1=N.length)(F:QJ K x x st f fd)(S:Py N ps (Pr st))
  (hbody:∀(cdv:Value)(A:Around)(outer:List Env)(s:Shared)(H:Hp)(E:XK),PQ k (A.deeper (envOfC x (Pr st) s.heap.objs.size f cdv))->
   Xf (qY (UW P w) P w K mg base N x (Pr st) f cdv A outer s H E).nox E0 (QL st) m):Rb P w K mg base (UW P w) k1 f fd ps (YB K n0 (QB n1 m)):=by
 subst hk h0 h1;exact uD F S hbody
end
end PD
namespace L2
open PySem PySem.Spec PyProof.Rows
section
variable{X:Cx}{pins:List (Addr×Obj)}{σ:St}{H:Hp}{s:Shared}
abbrev Cx.with(X:Cx)(p:List (Addr×Obj))(W:Value->Shared->Prop):Cx:={ X with pn:=p,xe:=W }
end
section
variable{prog:Program}{w:World}{A:Around}{E:Value->Shared->Prop}{s:Shared}{K:Frag}{ea C:Addr}{ox:Obj}{od:Option Obj}
structure ExK(K:Frag)(C:Addr):Prop where
 ga:findIn K (.ref C) "__getattribute__" = some (some (.builtin "BaseException.__getattribute__"))
 gh:findIn K (.ref C) "__getattr__" = some none
 cl:findIn K (.ref C) "__class__" = some (some (.builtin "object.__class__"))
 bs:mroIn K C (.type "BaseException")=some true
 ob:mroIn K C (.type "object")=some true
 is:(clsIn K C).isSome=true
end
end L2
namespace PD
open PySem PySem.Spec PyProof.Rows L2
structure Tr(K:Frag)(cs ks:List Str)(isa:Str->Str->Bool):Prop where
 gt:specialIn K (.builtin "object.__class__") "__get__" = some (some (.builtin "getset_descriptor.__get__"))
 tk:takesIn K (.builtin "object.__class__")=some true
 ex:∀c∈cs,∃C,nsIn K mainGlobals c=some (some (.ref C))/\ExK K C/\kitOne K (.ref C) (.type "ValueError")=some true
 isa:∀c∈cs,∀k∈ks,∃C D,nsIn K mainGlobals c=some (some C)/\nsIn K mainGlobals k=some (some D)/\kitOne K C D=some (isa c k)
section
variable{X:Cx}{E:XK}
def intsOf:List D->Option (List Int)
 |[]=>some []
 |.int b::r=>(intsOf r).map (b :: ·)
 |_::_=>none
def oy:Pz->List D->Option D
 |S,[d]=>match cc S d with
  |some a=>(intsOf a).map λns=>.int ns.sum
  |none=>none
 |_,_=>none
theorem wx:∀{ds:List D}{ns:List Int},intsOf ds=some ns->ns.length=ds.length
 |[],_,h=>by unfold intsOf at h;cases h;rfl
 |d::ds,ns,h=>by
  cases d with
  |int i=>
   unfold intsOf at h;cases e:intsOf ds with
   |none=>rw[e]at h;cases h
   |some cs=>rw[e]at h;cases h;simp[wx e]
  |_=>unfold intsOf at h;cases h
theorem uF{K:Frag}{w:Wd}{H:Hp}:∀{ds:List D}{vs:List V}{us:List Value}{ns:List Int},PJ K w H ds vs->Vals vs us->intsOf ds=some ns->∀(i:Nat)(v:Value),us[i]?=some v->∃t,v=.int ((ns[i]?).getD 0) t
 |[],_,_,_,q,r,h,i,v,e=>by rw[q.nil_inv]at r;cases r;simp at e
 |d::ds,_,_,ns,q,r,h,i,v,e=>by
  obtain⟨y,vs,rfl,p,t⟩:=q.cons_inv;cases d with
  |int b=>
   unfold intsOf at h;cases e':intsOf ds with
   |none=>rw[e']at h;cases h
   |some cs=>
    rw[e']at h;cases h;cases p.int;cases r with
    |cons r1 r2=>
     cases i with
     |zero=>
      obtain⟨t,rfl⟩:=r1;simp at e
      exact⟨t,by simp[e]⟩
     |succ i=>
      have z:=uF t r2 e' i v (by simpa using e)
      simpa using z
  |_=>unfold intsOf at h;cases h
theorem nT(ns:List Int):∀k,k<=ns.length->preSum (λi=>(ns[i]?).getD 0) k=(ns.take k).sum
 |0,_=>by simp[preSum]
 |k+1,h=>by have hk:k<ns.length:=h;show preSum _ k+(ns[k]?).getD 0=_;rw[nT ns k (Mc hk),Up,List.sum_append,Yk hk];simp
def yD(hc:X.calm=true):bT X (.builtin "sum") (xC X.K E oy):=by
 rintro pins s σ H xs us Q I r ⟨w,S,ds,hS,qs,p⟩;obtain⟨z,hz,p'⟩:=p.of;clear p;unfold oy at hz;split at hz
 .rename_i d;cases ea:cc S d with
  |none=>rw[ea]at hz;cases hz
  |some a=>
   rw[ea]at hz;simp only at hz;cases e:intsOf a with
   |none=>rw[e]at hz;cases hz
   |some ns=>
    rw[e]at hz;cases hz;obtain⟨v,rfl,q⟩:=qs.PK;obtain⟨pa,vs,rfl,sq,ra⟩:=pJ hS q ea;obtain⟨u,rfl,ru⟩:=Wi r;cases ru;have hlen:=wx e
    have fin:∀n,n=ns.length->preSum (λi=>(ns[i]?).getD 0) n=ns.sum:=λn hn=>by rw[hn,nT ns _ (Yh _),Wv]
    rcases sq with sq|sq
    .obtain⟨its,r1,⟨o,n,ho,hcl,hdn,hd⟩,_⟩:=I.list sq;have hlt:pa<s.heap.objs.size:=Yl ho;have hl:s.heap.IsList pa its.toArray:=⟨o,ho,hcl,n,hd⟩;refine call_sum_walkG (Qf hl ?_)
     refine⟨s.heap.objs.size,[s.heap.objs.size,pa],[s.heap.objs.size],its.toArray.size,_,_,λi=>(ns[i]?).getD 0,rfl,Ud (A:=X.A.in1) (I.ok.hd hc) _ pa (Yv hlt) its.toArray,
      ⟨⟨_,Ye _ rfl,rfl,rfl⟩,hl.push _⟩,λb hb=>?_,λi v hP=>uF ra r1 e i v (by simpa using hP),λh' tk t' hk=>?_⟩
     .simp only[Yb,Yy,Zn]at hb;rw[Z2];rcases hb with rfl|rfl
      .exact Q2 _
      .exact We hlt
     .rw[fin _ (by rw[hlen,<- ra.length,r1.length];simp)]
      exact⟨.int _,H,I.kept (LSm.kept_iter hk),⟨t',rfl⟩,p'.ret RD.Sh hS⟩
    .obtain⟨its,r1,⟨o,ho,hcl,n,hd⟩,_⟩:=I.tuple sq;have hlt:pa<s.heap.objs.size:=Yl ho;have hl:s.heap.IsTuple pa its.toArray:=⟨o,ho,hcl,n,hd⟩;refine call_sum_walkG (Vn hl ?_)
     refine⟨s.heap.objs.size,[s.heap.objs.size,pa],[s.heap.objs.size],its.toArray.size,_,_,λi=>(ns[i]?).getD 0,rfl,Walks.tuple (A:=X.A.in1) (I.ok.hd hc) _ pa (Yv hlt) its.toArray,
      ⟨⟨_,Ye _ rfl,rfl,rfl⟩,hl.push _⟩,λb hb=>?_,λi v hP=>uF ra r1 e i v (by simpa using hP),λh' tk t' hk=>?_⟩
     .simp only[Yb,Yy,Zn]at hb;rw[Z2];rcases hb with rfl|rfl
      .exact Q2 _
      .exact We hlt
     .rw[fin _ (by rw[hlen,<- ra.length,r1.length];simp)]
      exact⟨.int _,H,I.kept (LSm.kept_iter hk),⟨t',rfl⟩,p'.ret RD.Sh hS⟩
 .cases hz
end
theorem gZ(t:TM)(b:SM):∀(n k:Nat)(r:Rp)(S:Pz),cH t b n r S≠.bad->cH t b (n+k) r S=cH t b n r S
 |0,k,r,S,h=>absurd rfl h
 |n+1,k,r,S,h=>by
  rw[show n+1+k=(n+k)+1 by omega]
  unfold cH at h ⊢;cases e:t r S with
  |bad=>rfl
  |err x S1=>rfl
  |ok c S1=>
   rw[e]at h;simp only[R.Pq]at h ⊢;cases c with
   |false=>rfl
   |true=>
    simp only[Zi]at h ⊢;cases e2:b r S1 with
    |bad=>rfl
    |err x S2=>rfl
    |ok f S2=>
     rw[e2]at h;simp only[R.Pq]at h ⊢;cases f with
     |nx r2=>exact gZ t b n k r2 S2 h
     |ct r2=>exact gZ t b n k r2 S2 h
     |bk r2=>rfl
     |rt d=>rfl
open Classical in
def YC(t:TM)(b:SM):SM:=λr S=>if h:∃n,cH t b n r S≠.bad then cH t b h.choose r S else .bad
def Du{t:TM}{b:SM}{r:Rp}{S:Pz}(n:Nat)(h:cH t b n r S≠.bad):YC t b r S=cH t b n r S:=by
 have hx:∃n,cH t b n r S≠.bad:=⟨n,h⟩;unfold YC;rw[dif_pos hx];have hc:=hx.choose_spec;rcases Nat.le_total n hx.choose with z|z
 .obtain⟨k,e⟩:=Nat.exists_eq_add_of_le z;rw[e];exact gZ t b n k r S h
 .obtain⟨k,e⟩:=Nat.exists_eq_add_of_le z;have:=gZ t b hx.choose k r S hc;rw[<- e]at this;exact this.symm
section
variable{X:Cx}{E:XK}{c:Expr}{body:List Stmt}{mt:TM}{m:SM}{pos:Pos}
def wy(hp:PassesOwn (model X.prog X.w) X.A X.env X.xe)(hc:ST X E c mt)(hb:Xf X E body m):SS X E (.While c body [] pos) (YC mt m):=⟨
 eE (CH hp hc.out hb.out) λD s H zq=>QR zq λw r S hr hS hp=>by
  have h0:∃n,aF X.K E (RF X.K) w H (cH mt m n r S) (FV.to D):=by
   have hp':aF X.K E (RF X.K) w H (YC mt m r S) (FV.to D):=hp;unfold YC at hp';split at hp'
   .exact⟨_,hp'⟩
   .exact hp'.elim
  obtain⟨n0,hp0⟩:=h0;refine⟨λn s' H'=>∃w' r' S',Rq X.K w' H' r' s'/\RS X.K w' H' S'/\aF X.K E (RF X.K) w' H' (cH mt m n r' S') (FV.to D),⟨n0,w,r,S,hr,hS,hp0⟩,?_⟩;rintro n s1 H1 ⟨w1,r1,S1,hr1,hS1,hp1⟩;cases n with
  |zero=>exact hp1.elim
  |succ n=>
   unfold cH at hp1;refine⟨w1,r1,S1,hr1,hS1,hp1.bind hS1 λk S2 w2 H2 v x2 q2 s2 p2=>?_⟩;have e:v=k:=q2;subst e;cases v with
   |false=>exact rg (aF.ret (b:=FV.nx s1) p2 ⟨s1,rfl,hr1.ext x2⟩ s2)
   |true=>
    refine rh ⟨λs' H'=>∃w' r' S',Rq X.K w' H' r' s'/\RS X.K w' H' S'/\aF X.K E (RF X.K) w' H' (cH mt m n r' S') (FV.to D),λs' H' hN=>⟨n,Q2 n,hN⟩,?_⟩;simp only[Zi]at p2;refine⟨w2,r1,S2,hr1.ext x2,s2,aF.bind (rel:=RF X.K) p2 s2 λf S5 w5 H5 fv x5 q5 s5 p5=>?_⟩;cases f with
    |nx r6=>obtain⟨s6,rfl,q6⟩:=q5;exact⟨w5,r6,S5,q6,s5,p5⟩
    |ct r6=>obtain⟨s6,rfl,q6⟩:=q5;exact⟨w5,r6,S5,q6,s5,p5⟩
    |bk r6=>obtain⟨s6,rfl,q6⟩:=q5;have z:=aF.ret (Q:=FV.to D) (rel:=RF X.K) (a:=F.nx r6) (b:=FV.nx s6) p5 ⟨s6,rfl,q6⟩ s5;exact z
    |rt d6=>obtain⟨v6,rfl,q6⟩:=q5;have z:=aF.ret (Q:=FV.to D) (rel:=RF X.K) (a:=F.rt d6) (b:=FV.rt v6) p5 ⟨v6,rfl,q6⟩ s5;exact z⟩
end
section
variable{X:Cx}{E:XK}
def eqP(a b:D):Option Bool:=match Xg a b with
 |some c=>some c
 |none=>match toPy a,toPy b with
  |some p,some q=>if SeqAt.shaped p=true/\SeqAt.shaped q=true then some (PyData.eqv p q) else none
  |_,_=>none
def bR:Pz->D->D->Option D:=λ_ a b=>(eqP a b).map .bl
def eY:Pz->D->D->Option D:=λ_ a b=>(eqP a b).map λc=>.bl (!c)
def se{a b:D}{c:Bool}(h:eqP a b=some c):Xg a b=some c \/ ∃p q,toPy a=some p/\toPy b=some q/\SeqAt.shaped p=true/\SeqAt.shaped q=true/\c=PyData.eqv p q:=by
 unfold eqP at h;split at h
 .rename_i c' e;cases h;exact .inl e
 .split at h
  .rename_i p q e1 e2;split at h
   .rename_i hs;cases h;exact .inr ⟨p,q,e1,e2,hs.1,hs.2,rfl⟩
   .cases h
  .cases h
def cz{k:Nat}(hr:PQ k X.A):QS X (compareOp .Eq) (xO X.K E bR):=by
 rintro pins s σ H x y v u Q I rx ry ⟨w,S,d,e,hS,qd,qe,p⟩;obtain⟨z,hz,p⟩:=p.of;unfold bR at hz;cases h:eqP d e with
 |none=>rw[h]at hz;cases hz
 |some c=>
  rw[h]at hz;cases hz;rcases se h with h|⟨a,b,e1,e2,s1,s2,rfl⟩
  .exact Ky pins s σ H x y v u Q I rx ry ⟨w,S,d,e,hS,qd,qe,by unfold oEq;rw[h];exact p⟩
  .obtain⟨as,r1,_⟩:=iJ I d x v a qd rx e1;obtain⟨bs,r2,_⟩:=iJ I e y u b qe ry e2;exact eq_dataH r1 r2 s1 s2 hr.units ⟨.bl _,H,I,rfl,p.ret RD.Tv hS⟩
def i9{k:Nat}(hr:PQ k X.A):QS X (compareOp .NotEq) (xO X.K E eY):=by
 rintro pins s σ H x y v u Q I rx ry ⟨w,S,d,e,hS,qd,qe,p⟩;obtain⟨z,hz,p⟩:=p.of;unfold eY at hz;cases h:eqP d e with
 |none=>rw[h]at hz;cases hz
 |some c=>
  rw[h]at hz;cases hz;rcases se h with h|⟨a,b,e1,e2,s1,s2,rfl⟩
  .exact Kz pins s σ H x y v u Q I rx ry ⟨w,S,d,e,hS,qd,qe,by unfold oNe;rw[h];exact p⟩
  .obtain⟨as,r1,_⟩:=iJ I d x v a qd rx e1;obtain⟨bs,r2,_⟩:=iJ I e y u b qe ry e2;exact ne_dataH r1 r2 s1 s2 hr.units ⟨.bl _,H,I,rfl,p.ret RD.Tv hS⟩
end
def FL{f:FM}(h:∀ns:List Int,ns.length<=63->∃S,f [.fz (ns.map .int)] []=.ok (.bl true) S)(K:Frag)(H:Hp)(a:Addr)(ns:List Int)(hn:ns.length<=63)(ho:C5 H)(hs:Rm K H a (ns.map V.int)):
  YB K 1 f [.ref a] H (λv _=>v=.bl true) λ_ _ _=>False:=IF h K H a ns hn ho hs
def II{P:Program}{w:World}{l:List Env}{H:Hp}{s s':Shared}{e:Value}(h:UW P w l H s (λ_ _ _=>False) e s'):False:=by obtain⟨_,_,_,_,_,_,_,_,_,_,z⟩:=h;exact z
end PD
namespace SQ
open PySem PySem.Spec PyProof.Rows
open Sem (wp)
variable{h h':Heap}{it a l z i1 i2 l1 l2:Addr}{i:Nat}{xs:Array Value}
def nm:Bool->String
 |true=>"tuple_iterator"
 |false=>"list_iterator"
def Is:Bool->Heap->Addr->Array Value->Prop
 |true,h,a,xs=>h.IsTuple a xs
 |false,h,a,xs=>h.IsList a xs
def It(k:Bool)(h:Heap)(it a:Addr)(i:Nat):Prop:=∃o,h.get? it=some o/\o.cls=.type (nm k)/\o.data=.fields #[.ref a,.int i 0]
def It.move{k:Bool}(x:It k h it a i)(q:∀o,h.get? it=some o->h'.get? it=some o):It k h' it a i:=let ⟨o,e,r⟩:=x;⟨o,q o e,r⟩
def Is.move{k:Bool}(x:Is k h a xs)(q:∀o,h.get? a=some o->h'.get? a=some o):Is k h' a xs:=by
 cases k with
 |true=>obtain⟨o,e,r⟩:=x;exact⟨o,q o e,r⟩
 |false=>obtain⟨o,e,r⟩:=x;exact⟨o,q o e,r⟩
def Is.obj{k:Bool}(x:Is k h a xs):∃o,h.get? a=some o/\(o.cls=.type "tuple" \/ o.cls=.type "list")/\∃n,o.data=.seq xs n:=by
 cases k with
 |true=>obtain⟨o,e,c,n,d⟩:=x;exact⟨o,e,.inl c,n,d⟩
 |false=>obtain⟨o,e,c,n,d⟩:=x;exact⟨o,e,.inr c,n,d⟩
section
variable{prog:Program}{w:World}{A:Around}{E:Value->Shared->Prop}{s:Shared}
theorem iter{k:Bool}{t:Addr}{items}{Q:Value->Shared->Prop}(ht:Is k s.heap t items)
  (hQ:Q (.ref s.heap.objs.size) { s with heap:=s.heap.push { cls:=.type (nm k),data:=.fields #[.ref t,.int 0 0] } }):wpAny (model prog w) A (pyIter (.ref t)) Q E s:=by
 cases k with
 |true=>exact Vn ht hQ
 |false=>exact Qf ht hQ
def Dv{items}{x:Value}{Q:Value->Shared->Prop}(hit:s.heap.IsTupleIter it l i)(hl:s.heap.IsTuple l items)(hx:items[i]?=some x)
  (hQ:∀h',h'.IsTupleIter it l (i+1)->Heap.SameBut it s.heap h'->Q x { s with heap:=h' }):wpAny (model prog w) A (Builtin.SmallTypes.nextOf (.ref it)) Q E s:=by
 obtain⟨o,ho,hc,hd⟩:=id hit;obtain⟨ol,hol,_,nl,hdl⟩:=hl;unfold Builtin.SmallTypes.nextOf;refine Y6 (Zw (name:=Str.ofString "__next__") hit.typeIs Wp (Qa Wp hit.typeIs F.entry_tuple_iterator_next ?_ (F.args_tuple_iterator_next_1 _)))
 show wpAny _ _ (field (.ref it) 0 >>= _) _ _ s;refine Y6 (Zm ho hd (x:=.ref l) rfl ?_);show wpAny _ _ (if (Value.ref l == Value.none)=true then _ else _) _ _ s
 rw[Yj (show ¬((Value.ref l == Value.none)=true) from Ym)];show wpAny _ _ (field (.ref it) 1 >>= _) _ _ s;refine Y6 (Zm ho hd (x:=.int i 0) rfl ?_)
 show wpAny _ _ (seqItems? (.ref l) >>= _) _ _ s;refine Y6 (Zk hol hdl ?_);simp only[M8,hx]
 refine Y6 (wpAny_setField ho hd (by simp) (Yg ⟨x,rfl,Yg (hQ _ ?_ (V2 ..))⟩));exact⟨_,Qj _ ho (U3 (Ut hd _)),(Obj.cls_mapFields ..).trans hc,by rw[Ut hd];simp[rawInt]⟩
def FN{items}{Q:Value->Shared->Prop}(hh:A.handled=none)(hit:s.heap.IsTupleIter it l i)(hl:s.heap.IsTuple l items)(hx:items[i]?=none)
  (hE:∀h' e,Heap.ExtBut it s.heap h'->(∃o,h'.get? e=some o/\o.cls=.type "StopIteration")->E (.ref e) { s with heap:=h' }):wpAny (model prog w) A (Builtin.SmallTypes.nextOf (.ref it)) Q E s:=by
 obtain⟨o,ho,hc,hd⟩:=id hit;obtain⟨ol,hol,_,nl,hdl⟩:=hl;unfold Builtin.SmallTypes.nextOf;refine Y6 (Zw (name:=Str.ofString "__next__") hit.typeIs Wp (Qa Wp hit.typeIs F.entry_tuple_iterator_next ?_ (F.args_tuple_iterator_next_1 _)))
 show wpAny _ _ (field (.ref it) 0 >>= _) _ _ s;refine Y6 (Zm ho hd (x:=.ref l) rfl ?_);show wpAny _ _ (if (Value.ref l == Value.none)=true then _ else _) _ _ s
 rw[Yj (show ¬((Value.ref l == Value.none)=true) from Ym)];show wpAny _ _ (field (.ref it) 1 >>= _) _ _ s;refine Y6 (Zm ho hd (x:=.int i 0) rfl ?_)
 show wpAny _ _ (seqItems? (.ref l) >>= _) _ _ s;refine Y6 (Zk hol hdl ?_);simp only[M8,hx]
 refine Y6 (Wh (Y6 (wpAny_setField ho hd (by simp) ?_)));show wpAny _ _ (newExc (.type "StopIteration") [] >>= _) _ _ _;refine Y6 ?_
 simp only[newExc,newTuple];refine Y6 (Zh ?_ (by size_fits));refine Y6 (m:=firstArgMember _ _) (Vk (a:=Value.none) (by first|rfl|(simp only[firstArgMember];rfl)) ?_)
 refine Zh ?_ (by size_fits);simp only[raiseNew];refine Y6 (wpAny_handled ?_);first|rw[show A.in1.handled=none from hh]|rw[hh]
 refine Y6 (Yg (wpAny_throw ?_));exact hE _ _ (((V2 ..).extBut.push _).push _) ⟨_,Ye _ rfl,rfl⟩
theorem next{k:Bool}{items}{x:Value}{Q:Value->Shared->Prop}(hit:It k s.heap it l i)(hl:Is k s.heap l items)(hx:items[i]?=some x)
  (hQ:∀h',It k h' it l (i+1)->Heap.SameBut it s.heap h'->Q x { s with heap:=h' }):wpAny (model prog w) A (Builtin.SmallTypes.nextOf (.ref it)) Q E s:=by
 cases k with
 |true=>exact Dv hit hl hx hQ
 |false=>exact wpAny_nextOf_list_item hit hl hx hQ
theorem ends{k:Bool}{items}{Q:Value->Shared->Prop}(hh:A.handled=none)(hit:It k s.heap it l i)(hl:Is k s.heap l items)(hx:items[i]?=none)
  (hE:∀h' e,Heap.ExtBut it s.heap h'->(∃o,h'.get? e=some o/\o.cls=.type "StopIteration")->E (.ref e) { s with heap:=h' }):wpAny (model prog w) A (Builtin.SmallTypes.nextOf (.ref it)) Q E s:=by
 cases k with
 |true=>exact FN hh hit hl hx hE
 |false=>exact wpAny_nextOf_list_end hh hit hl hx hE
structure Apart(z TI TO i1 i2 l1 l2:Addr):Prop where
 a:TI≠z/\TO≠z/\i1≠z/\i2≠z/\TI≠TO/\TI≠i1/\TI≠i2
 b:TO≠i1/\TO≠i2/\i1≠i2
 c:l1≠z/\l1≠TO/\l1≠i1/\l1≠i2
 d:l2≠z/\l2≠TO/\l2≠i1/\l2≠i2
def sb{t b:Addr}{o:Obj}(hs:Heap.SameBut t h h')(n:b≠t)(e:h.get? b=some o):h'.get? b=some o:=(hs.2 b n).trans e
def Dw{k m:Bool}{TI TO:Addr}{k1 k2:Nat}{xs ys:Array Value}{x y a b:Value}{Q:Value->Shared->Prop}(D:Apart z TI TO i1 i2 l1 l2)
  (hz:IsZip s.heap z TI TO .none) (hTI:IsPair s.heap TI (.ref i1) (.ref i2)) (hTO:IsPair s.heap TO a b)
  (h1:It k s.heap i1 l1 k1) (h2:It m s.heap i2 l2 k2) (hl1:Is k s.heap l1 xs) (hl2:Is m s.heap l2 ys) (hx:xs[k1]?=some x) (hy:ys[k2]?=some y)
  (hQ:∀h',IsZip h' z TI TO (rawInt s.heap.objs.size)->IsPair h' TO x y->It k h' i1 l1 (k1+1)->It m h' i2 l2 (k2+1)->IsPair h' s.heap.objs.size x y->h'.objs.size=s.heap.objs.size+1->
   (∀c o,c∉[z,TI,TO,i1,i2]->s.heap.get? c=some o->h'.get? c=some o)->IsPair h' TI (.ref i1) (.ref i2)->Q (.ref s.heap.objs.size) { s with heap:=h' }):
  wpAny (model prog w) A (Builtin.«zip.__next__» ⟨[.ref z],[]⟩) (λfin s'=>∃v,fin=.done (.ret v)/\Q v s') E s:=by
 obtain⟨⟨XH,TV,YD,n2z,aac,aaq,aar⟩,⟨XJ,XM,n12⟩,⟨p1,p2,p3,p4⟩,⟨q1,q2,q3,q4⟩⟩:=D;show wpAny _ _ (field (.ref z) 2 >>= _) _ _ _;refine Y6 (Zm hz rfl (x:=.bool false) rfl ?_);show wpAny _ _ (field (.ref z) 3 >>= _) _ _ _;refine Y6 (Zm hz rfl (x:=.ref TI) rfl ?_);refine Y6 (Zk hTI rfl ?_);show wpAny _ _ (Builtin.SmallTypes.ownedTupleIsFree (.ref z) >>= _) _ _ _;refine Y6 ?_;unfold Builtin.SmallTypes.ownedTupleIsFree;refine Y6 (Zm hz rfl (x:=.none) rfl (Yg ?_));simp only[Zi]
 refine Y6 (Wh ?_);refine Y6 (Zm hz rfl (x:=.ref TO) rfl ?_);refine Y6 (Wl hz (by simp) λh₁ hz₁ s1=>?_)
 replace hz₁:IsZip h₁ z TI TO .ellipsis:=hz₁;refine Y6 ?_;simp only[List.zipIdx_cons,List.zipIdx_nil,Ub,List.forIn_nil];refine Y6 (Y6 (M6 ?_));show wpAny _ _ (Builtin.SmallTypes.nextOf (.ref i1) >>= _) _ _ _
 refine Y6 (next (h1.move λo=>sb s1 YD) (hl1.move λo=>sb s1 p1) hx λh₂ h1₂ s2=>Yg ?_)
 have hTO₂:IsPair h₂ TO a b:=sb s2 XJ (sb s1 TV hTO);refine Y6 (Zk hTO₂ rfl ?_);refine Y6 (Ue hTO₂ λh₃ hTO₃ s3=>?_);replace hTO₃:IsPair h₃ TO x b:=hTO₃;refine Y6 (W9 (Yg ?_));refine Y6 (Y6 (M6 ?_));show wpAny _ _ (Builtin.SmallTypes.nextOf (.ref i2) >>= _) _ _ _
 refine Y6 (next (h2.move λo e=>sb s3 XM.symm (sb s2 n12.symm (sb s1 n2z e))) (hl2.move λo e=>sb s3 q2 (sb s2 q3 (sb s1 q1 e))) hy λh₄ h2₄ s4=>Yg ?_)
 have hTO₄:IsPair h₄ TO x b:=sb s4 XM hTO₃;refine Y6 (Zk hTO₄ rfl ?_);refine Y6 (Ue hTO₄ λh₅ hTO₅ s5=>?_);replace hTO₅:IsPair h₅ TO x y:=hTO₅;refine Y6 (W9 (Yg (Yg ?_)));refine Y6 (Zk hTO₅ rfl ?_);refine Y6 (wpAny_newTuple ?_)
 have hsz:h₅.objs.size=s.heap.objs.size:=by rw[s5.1,s4.1,s3.1,s2.1,s1.1]
 have k5:∀c o,c≠z->c≠TO->c≠i1->c≠i2->s.heap.get? c=some o->h₅.get? c=some o:=λc o c1 c2 c3 c4 e=>sb s5 c2 (sb s4 c4 (sb s3 c2 (sb s2 c3 (sb s1 c1 e))));have hz₅:IsZip h₅ z TI TO .ellipsis:=sb s5 TV.symm (sb s4 n2z.symm (sb s3 TV.symm (sb s2 YD.symm hz₁)));have h1₅:It k h₅ i1 l1 (k1+1):=h1₂.move λo e=>sb s5 XJ.symm (sb s4 n12 (sb s3 XJ.symm e));have h2₅:It m h₅ i2 l2 (k2+1):=h2₄.move λo e=>sb s5 XM.symm e;have zlt:z<h₅.objs.size:=Yl hz₅;show wpAny _ _ (Builtin.SmallTypes.ownedTupleHandOut (.ref z) (.ref h₅.objs.size) >>= _) _ _ _;refine Y6 ?_;unfold Builtin.SmallTypes.ownedTupleHandOut;have hz₆:IsZip (h₅.push { cls:=.type "tuple",data:=.seq #[x,y] }) z TI TO .ellipsis:=Y7 _ hz₅
 refine Y6 (Wl hz₆ (by simp) λh₇ hz₇ s7=>?_);replace hz₇:IsZip h₇ z TI TO (rawInt h₅.objs.size):=hz₇
 refine Wl hz₇ (by simp) λh₈ hz₈ s8=>?_;replace hz₈:IsZip h₈ z TI TO (rawInt h₅.objs.size):=hz₈
 have up:∀c o,c≠z->h₅.get? c=some o->h₈.get? c=some o:=λc o c1 e=>sb s8 c1 (sb s7 c1 (Y7 _ e));have hT₈:IsPair h₈ h₅.objs.size x y:=sb s8 (Wu zlt) (sb s7 (Wu zlt) (Ye _ rfl))
 have hz8:h₈.objs.size=h₅.objs.size+1:=by rw[s8.1,s7.1,Z2]
 rw[hsz]at hz₈ hT₈ hz8;refine Yg ⟨_,rfl,?_⟩;show Q (.ref h₅.objs.size) _;rw[hsz];refine hQ h₈ hz₈ (up _ _ TV hTO₅) (h1₅.move λo e=>up _ o YD e) (h2₅.move λo e=>up _ o n2z e) hT₈ hz8 (λc o hc e=>?_) (up _ _ XH (k5 _ _ XH aac aaq aar hTI));simp only[Yb,Yy,Zn,not_or]at hc;exact up c o hc.1 (k5 c o hc.1 hc.2.2.1 hc.2.2.2.1 hc.2.2.2.2 e)
theorem FO{k m:Bool}{TI TO:Addr}{k1 k2:Nat}{xs ys:Array Value}{a b:Value}{Q:Fin->Shared->Prop}(hh:A.handled=none)(D:Apart z TI TO i1 i2 l1 l2)
  (hz:IsZip s.heap z TI TO .none) (hTI:IsPair s.heap TI (.ref i1) (.ref i2)) (hTO:IsPair s.heap TO a b)
  (h1:It k s.heap i1 l1 k1) (h2:It m s.heap i2 l2 k2) (hl1:Is k s.heap l1 xs) (hl2:Is m s.heap l2 ys) (hend:xs[k1]?=none\/ys[k2]?=none)
  (hE:∀h' e,(∀c o,c∉[z,TI,TO,i1,i2]->s.heap.get? c=some o->h'.get? c=some o)->(∃o,h'.get? e=some o/\o.cls=.type "StopIteration")->E (.ref e) { s with heap:=h' }):
  wpAny (model prog w) A (Builtin.«zip.__next__» ⟨[.ref z],[]⟩) Q E s:=by
 obtain⟨⟨XH,TV,YD,n2z,aac,aaq,aar⟩,⟨XJ,XM,n12⟩,⟨p1,p2,p3,p4⟩,⟨q1,q2,q3,q4⟩⟩:=D;show wpAny _ _ (field (.ref z) 2 >>= _) _ _ _;refine Y6 (Zm hz rfl (x:=.bool false) rfl ?_);show wpAny _ _ (field (.ref z) 3 >>= _) _ _ _;refine Y6 (Zm hz rfl (x:=.ref TI) rfl ?_);refine Y6 (Zk hTI rfl ?_);show wpAny _ _ (Builtin.SmallTypes.ownedTupleIsFree (.ref z) >>= _) _ _ _;refine Y6 ?_;unfold Builtin.SmallTypes.ownedTupleIsFree;refine Y6 (Zm hz rfl (x:=.none) rfl (Yg ?_));simp only[Zi]
 refine Y6 (Wh ?_);refine Y6 (Zm hz rfl (x:=.ref TO) rfl ?_);refine Y6 (Wl hz (by simp) λh₁ hz₁ s1=>?_)
 replace hz₁:IsZip h₁ z TI TO .ellipsis:=hz₁;refine Y6 ?_;simp only[List.zipIdx_cons,List.zipIdx_nil,Ub,List.forIn_nil];refine Y6 (Y6 (M6 ?_));show wpAny _ _ (Builtin.SmallTypes.nextOf (.ref i1) >>= _) _ _ _;cases hx:xs[k1]? with
 |none=>
  refine Y6 (ends hh (h1.move λo=>sb s1 YD) (hl1.move λo=>sb s1 p1) hx λh₂ e s2 he=>?_);obtain⟨oe,hoe,hce⟩:=he;have hz₂:IsZip h₂ z TI TO .ellipsis:=s2 _ _ YD.symm hz₁
  have hez:e≠z:=λx=>by subst x;rw[hz₂]at hoe;cases hoe;simp at hce
  refine Wl hz₂ (by simp) λh₃ _ s3=>hE h₃ e (λc o hc x=>?_) ⟨oe,sb s3 hez hoe,hce⟩
  simp only[Yb,Yy,Zn,not_or]at hc;exact sb s3 hc.1 (s2 _ _ hc.2.2.2.1 (sb s1 hc.1 x))
 |some x=>
  have hy:ys[k2]?=none:=hend.resolve_left λh=>by rw[hx]at h;cases h
  refine Y6 (next (h1.move λo=>sb s1 YD) (hl1.move λo=>sb s1 p1) hx λh₂ h1₂ s2=>Yg ?_)
  have hTO₂:IsPair h₂ TO a b:=sb s2 XJ (sb s1 TV hTO);refine Y6 (Zk hTO₂ rfl ?_);refine Y6 (Ue hTO₂ λh₃ hTO₃ s3=>?_);refine Y6 (W9 (Yg ?_));refine Y6 (Y6 (M6 ?_));show wpAny _ _ (Builtin.SmallTypes.nextOf (.ref i2) >>= _) _ _ _;refine Y6 (ends hh (h2.move λo e=>sb s3 XM.symm (sb s2 n12.symm (sb s1 n2z e))) (hl2.move λo e=>sb s3 q2 (sb s2 q3 (sb s1 q1 e))) hy λh₄ e s4 he=>?_);obtain⟨oe,hoe,hce⟩:=he;have hz₄:IsZip h₄ z TI TO .ellipsis:=s4 _ _ n2z.symm (sb s3 TV.symm (sb s2 YD.symm hz₁))
  have hez:e≠z:=λx=>by subst x;rw[hz₄]at hoe;cases hoe;simp at hce
  refine Wl hz₄ (by simp) λh₅ _ s5=>hE h₅ e (λc o hc x=>?_) ⟨oe,sb s5 hez hoe,hce⟩
  simp only[Yb,Yy,Zn,not_or]at hc;exact sb s5 hc.1 (s4 _ _ hc.2.2.2.2 (sb s3 hc.2.2.1 (sb s2 hc.2.2.2.1 (sb s1 hc.1 x))))
def XN{k m:Bool}{TI TO:Addr}{k1 k2:Nat}{xs ys:Array Value}{x y a b:Value}{Q:Option Value->Shared->Prop}(D:Apart z TI TO i1 i2 l1 l2)
  (hz:IsZip s.heap z TI TO .none) (hTI:IsPair s.heap TI (.ref i1) (.ref i2)) (hTO:IsPair s.heap TO a b)
  (h1:It k s.heap i1 l1 k1) (h2:It m s.heap i2 l2 k2) (hl1:Is k s.heap l1 xs) (hl2:Is m s.heap l2 ys) (hx:xs[k1]?=some x) (hy:ys[k2]?=some y)
  (hQ:∀h',IsZip h' z TI TO (rawInt s.heap.objs.size)->IsPair h' TO x y->It k h' i1 l1 (k1+1)->It m h' i2 l2 (k2+1)->IsPair h' s.heap.objs.size x y->h'.objs.size=s.heap.objs.size+1->
   (∀c o,c∉[z,TI,TO,i1,i2]->s.heap.get? c=some o->h'.get? c=some o)->IsPair h' TI (.ref i1) (.ref i2)->Q (some (.ref s.heap.objs.size)) { s with heap:=h' }):wpAny (model prog w) A (pyNext (.ref z)) Q E s:=by
 have hT:s.TypeIs (.ref z) "zip":=⟨_,hz,rfl⟩;unfold pyNext
 exact Y6 (M1 (Zw (name:=Str.ofString "__next__") hT Uf (Qa Uf hT F.entry_zip_next (Dw D hz hTI hTO h1 h2 hl1 hl2 hx hy λh' a1 a2 a3 a4 a5 a6 a7 a8=>Yg (hQ h' a1 a2 a3 a4 a5 a6 a7 a8)) (F.args_zip_next_1 _))))
def XQ{k m:Bool}{TI TO:Addr}{k1 k2:Nat}{xs ys:Array Value}{a b:Value}{Q:Option Value->Shared->Prop}(hh:A.handled=none)(D:Apart z TI TO i1 i2 l1 l2)
  (hz:IsZip s.heap z TI TO .none) (hTI:IsPair s.heap TI (.ref i1) (.ref i2)) (hTO:IsPair s.heap TO a b)
  (h1:It k s.heap i1 l1 k1) (h2:It m s.heap i2 l2 k2) (hl1:Is k s.heap l1 xs) (hl2:Is m s.heap l2 ys) (hend:xs[k1]?=none\/ys[k2]?=none)
  (hQ:∀h',(∀c o,c∉[z,TI,TO,i1,i2]->s.heap.get? c=some o->h'.get? c=some o)->Q none { s with heap:=h' }):wpAny (model prog w) A (pyNext (.ref z)) Q E s:=by
 have hT:s.TypeIs (.ref z) "zip":=⟨_,hz,rfl⟩;unfold pyNext
 refine Y6 (M1 (Zw (name:=Str.ofString "__next__") hT Uf (Qa Uf hT F.entry_zip_next (FO hh D hz hTI hTO h1 h2 hl1 hl2 hend λh' e hk he=>?_) (F.args_zip_next_1 _))))
 obtain⟨o,ho,hc⟩:=he;refine Y6 (wpAny_isInstance (T:="StopIteration") (b:=true) ⟨o,ho,hc⟩ isSubtype_stop ?_);exact Yg (hQ _ hk)
end
abbrev z1(k:Bool)(h:Heap)(l1:Addr):Heap:=h.push { cls:=.type (nm k),data:=.fields #[.ref l1,.int 0 0] }
abbrev z2(k m:Bool)(h:Heap)(l1 l2:Addr):Heap:=(z1 k h l1).push { cls:=.type (nm m),data:=.fields #[.ref l2,.int 0 0] }
abbrev z3(k m:Bool)(h:Heap)(l1 l2:Addr):Heap:=(z2 k m h l1 l2).push { cls:=.type "tuple",data:=.seq #[.ref h.objs.size,.ref (z1 k h l1).objs.size] }
abbrev z4(k m:Bool)(h:Heap)(l1 l2:Addr):Heap:=(z3 k m h l1 l2).push { cls:=.type "tuple",data:=.seq #[.none,.none] }
abbrev z5(k m:Bool)(h:Heap)(l1 l2:Addr):Heap:=(z4 k m h l1 l2).push { cls:=.type "zip",data:=.fields #[.none,.bool false,.bool false,.ref (z2 k m h l1 l2).objs.size,.ref (z3 k m h l1 l2).objs.size] }
def BG(k m:Bool)(l1 l2:Addr)(xs ys:Array Value):
  Meets (Builtin.«zip.__new__» ⟨[.type "zip",.ref l1,.ref l2],[]⟩) (λ_ R s=>Is k s.heap l1 xs/\Is m s.heap l2 ys/\R (.ok (.ret (.ref (z4 k m s.heap l1 l2).objs.size))) { s with heap:=z5 k m s.heap l1 l2 }):=
 .of_wp λprog w A R s h=>by
  obtain⟨hp,g,d,tk,os⟩:=s;obtain⟨hl1,hl2,h⟩:=h;have hsub:=sub_zip;have hL1:Is k (Shared.heap ⟨hp,g,d,tk,os⟩) l1 xs:=hl1;have hL2:Is m (Shared.heap ⟨hp.push { cls:=.type (nm k),data:=.fields #[.ref l1,.int 0 0] },g,d,tk,os⟩) l2 ys:=hl2.move λo e=>Y7 _ e
  wp_walk using iter hL1,iter hL2
  exact⟨_,rfl,h⟩
section
variable{prog:Program}{w:World}{A:Around}{E:Value->Shared->Prop}{s:Shared}
def XR{k m:Bool}{ys:Array Value}{Q:Value->Shared->Prop}(hl1:Is k s.heap l1 xs)(hl2:Is m s.heap l2 ys)
  (h:∀h',IsZip h' (s.heap.objs.size+4) (s.heap.objs.size+2) (s.heap.objs.size+3) .none->IsPair h' (s.heap.objs.size+2) (.ref s.heap.objs.size) (.ref (s.heap.objs.size+1))->
   IsPair h' (s.heap.objs.size+3) .none .none->It k h' s.heap.objs.size l1 0->It m h' (s.heap.objs.size+1) l2 0->h'.objs.size=s.heap.objs.size+5->
   (∀c o,s.heap.get? c=some o->h'.get? c=some o)->Q (.ref (s.heap.objs.size+4)) { s with heap:=h' }):wpAny (model prog w) A (call (.type "zip") [.ref l1,.ref l2]) Q E s:=by
 refine callType_new F.called_zip (by decide) (F.typeCall_zip_2 _ _) (F.newCall_zip_2 _ _) (λobj=>F.args_object_init_3 obj _ _) F.entry_zip_new (BG k m l1 l2 xs ys) ⟨hl1,hl2,?_⟩
 have e1:(z1 k s.heap l1).objs.size=s.heap.objs.size+1:=Z2 ..
 have e2:(z2 k m s.heap l1 l2).objs.size=s.heap.objs.size+2:=by rw[Z2,e1]
 have e3:(z3 k m s.heap l1 l2).objs.size=s.heap.objs.size+3:=by rw[Z2,e2]
 have e4:(z4 k m s.heap l1 l2).objs.size=s.heap.objs.size+4:=by rw[Z2,e3]
 have e5:(z5 k m s.heap l1 l2).objs.size=s.heap.objs.size+5:=by rw[Z2,e4]
 have g5:(z5 k m s.heap l1 l2).get? (z4 k m s.heap l1 l2).objs.size=some _:=Ye _ rfl;have g4:(z5 k m s.heap l1 l2).get? (z3 k m s.heap l1 l2).objs.size=some _:=Y7 _ (Ye _ rfl);have g3:(z5 k m s.heap l1 l2).get? (z2 k m s.heap l1 l2).objs.size=some _:=Y7 _ (Y7 _ (Ye _ rfl));have g2:(z5 k m s.heap l1 l2).get? (z1 k s.heap l1).objs.size=some _:=Y7 _ (Y7 _ (Y7 _ (Ye _ rfl)));have g1:(z5 k m s.heap l1 l2).get? s.heap.objs.size=some _:=Y7 _ (Y7 _ (Y7 _ (Y7 _ (Ye _ rfl))));show _/\_;rw[e2,e3,e4]at g5;rw[e1,e2]at g3;rw[e3]at g4;rw[e1]at g2;rw[e4];exact⟨⟨_,g5,rfl⟩,h _ g5 g3 g4 ⟨_,g1,rfl,rfl⟩ ⟨_,g2,rfl,rfl⟩ e5 λc o x=>Y7 _ (Y7 _ (Y7 _ (Y7 _ (Y7 _ x))))⟩
end
def yE(k:Bool)(l:Addr)(items:Array Value)(ob:Obj):
  Meets (Builtin.«enumerate.__new__» ⟨[.type "enumerate",.ref l],[]⟩) (λ_ R s=>Is k s.heap l items/\s.heap.get? l=some ob/\
   R (.ok (.ret (.ref (s.heap.push { cls:=.type (nm k),data:=.fields #[.ref l,.int 0 0] }).objs.size)))
    { s with heap:=(s.heap.push { cls:=.type (nm k),data:=.fields #[.ref l,.int 0 0] }).push { cls:=.type "enumerate",data:=.fields #[.none,.bool false,.ref s.heap.objs.size,rawInt 0,.none,.none] } }):=
 .of_wp λprog w A R s h=>by
  obtain⟨hp,g,d,tk,os⟩:=s;obtain⟨hl,ho,h⟩:=h;have hsub:=sub_enumerate;have hL:Is k (Shared.heap ⟨hp,g,d,tk,os⟩) l items:=hl
  wp_walk using Ww ho
  refine wpAny_stack_any λst=>Yg ?_;split
  .rename_i c _ _ _ _ _;cases (c == Value.type "enumerate")
   .wp_walk using Ww ho,iter hL
    exact⟨_,rfl,h⟩
   .wp_walk using Ww ho,iter hL
    exact⟨_,rfl,h⟩
  .wp_walk using Ww ho,iter hL
   exact⟨_,rfl,h⟩
section
variable{prog:Program}{w:World}{A:Around}{E:Value->Shared->Prop}{s:Shared}
def Xi{k:Bool}{items:Array Value}{Q:Value->Shared->Prop}(hL:Is k s.heap l items)
  (h:∀h',IsEnum h' (s.heap.objs.size+1) s.heap.objs.size 0 .none->It k h' s.heap.objs.size l 0->h'.objs.size=s.heap.objs.size+2->
   (∀b o,s.heap.get? b=some o->h'.get? b=some o)->Q (.ref (s.heap.objs.size+1)) { s with heap:=h' }):wpAny (model prog w) A (call (.type "enumerate") [.ref l]) Q E s:=by
 obtain⟨ob,ho,_,_,_⟩:=hL.obj
 refine callType_new F.called_enumerate (by decide) (F.typeCall_enumerate_1 _) (F.newCall_enumerate_1 _) (λobj=>F.args_object_init_2 obj _) F.entry_enumerate_new (yE k l items ob) ⟨hL,ho,?_⟩
 have hz:(s.heap.push { cls:=.type (nm k),data:=.fields #[.ref l,.int 0 0] }).objs.size=s.heap.objs.size+1:=Z2 ..;show _/\_;rw[hz]
 have he:IsEnum ((s.heap.push { cls:=.type (nm k),data:=.fields #[.ref l,.int 0 0] }).push { cls:=.type "enumerate",data:=.fields #[.none,.bool false,.ref s.heap.objs.size,rawInt 0,.none,.none] }) (s.heap.objs.size+1) s.heap.objs.size 0 .none:=by
  have:=Ye (s.heap.push { cls:=.type (nm k),data:=.fields #[.ref l,.int 0 0] }) (o:={ cls:=.type "enumerate",data:=.fields #[.none,.bool false,.ref s.heap.objs.size,rawInt 0,.none,.none] }) rfl
  rw[hz]at this;exact this
 exact⟨⟨_,he,rfl⟩,h _ he ⟨_,Y7 _ (Ye _ rfl),rfl,rfl⟩ (by rw[Z2,hz]) λb o x=>Y7 _ (Y7 _ x)⟩
end
def draws{prog:Program}{w:World}{A:Around}(k:Bool)(hh:A.handled=none)(it l:Addr)(hne:l≠it)(items:Array Value):
  Draws prog w A it [it,l] items.size (λi v=>items[i]?=some v) (λi h=>It k h it l i/\Is k h l items) where
 live:=λ_ _ st=>let ⟨o,ho,_⟩:=st.1;⟨o,ho⟩
 frame:=λ_ _ _ st hk=>⟨st.1.move λo e=>hk it (by simp) o e,st.2.move λo e=>hk l (by simp) o e⟩
 item:=λi s Q E hi st hQ=>next st.1 st.2 (x:=items[i]) (by simp[hi]) λh' hit' hs'=>hQ _ h' s.toks (by simp[hi]) ⟨hit',st.2.move λo=>sb hs' hne⟩ hs'
 done:=λs Q E st hE=>ends hh st.1 st.2 (by simp) hE
end SQ
namespace L2
open PySem PySem.Spec PyProof.Rows
section
variable{X:Cx}{pins:List (Addr×Obj)}{σ:St}{H:Hp}{s:Shared}{h':Heap}
def Inv.SJ{t':Nat}{fp:List Addr}(I:Inv X pins σ H s)(k:∀b o,b∉fp->s.heap.get? b=some o->h'.get? b=some o)(hf:∀b∈fp,RT X pins H b):Inv X pins σ H { s with heap:=h',toks:=t' }:=by
 refine I.step (g':=s.gens) (d':=s.drawn) (ch:=fp) (λb hb=>?_) (λb o _ _ hc e _=>k b o hc e) (λb o _ _ hc e _=>⟨o.slots,k b o hc e⟩) (λ_ _ _ _ n=>n)
  (λb o hc e=>⟨o,k b o hc e⟩) (λ_ _ e=>e) (λ_ _ _ e=>e) (λb ps e=>⟨#[],by rw[e];simp⟩) (λm hm=>?_) (λb u e=>?_) I.bare
 .obtain⟨f0,f1,f2,f3,f4,f5⟩:=hf b hb;exact⟨f3,f1,f4,f5⟩
 .obtain⟨o,es,ep,ho,r⟩:=hm;exact⟨o,es,ep,k _ o (λz=>(hf _ z).2.1 rfl) ho,r⟩
 .refine(I.hok b u e).stay (λc v hc q=>k c v (λz=>?_) q) (λ_ q=>q) λ_ _ q=>q;have hn:=(hf c z).1;rcases hc with y|y
  .rw[y,e]at hn;cases hn
  .rw[y]at hn;cases hn
def Inv.TX{t':Nat}{fp:List Addr}{x y:V}{u v:Value}(I:Inv X pins σ H s)(hf:∀b∈fp,RT X pins H b)(hlt:∀b∈fp,b<s.heap.objs.size)(rx:RelV x u)(ry:RelV y v)
  (k:∀b o,b∉fp->s.heap.get? b=some o->h'.get? b=some o) (hp:IsPair h' s.heap.objs.size u v):Inv X pins σ (upd H s.heap.objs.size (.tup [x,y])) { s with heap:=h',toks:=t' }:=by
 have I1:Inv X pins σ (upd H s.heap.objs.size (.tup [x,y])) { s with heap:=s.heap.push { cls:=.type "tuple",data:=.seq #[u,v] },toks:=t' }:=
  I.laid (t':=t') (λb u e=>Y7 _ e) (Yh _) ⟨by show 2<=sizeLine;decide,[u,v],.cons rx (.cons ry .nil),⟨_,Ye _ rfl,rfl,_,rfl⟩⟩
 refine Inv.SJ (s:={ s with heap:=s.heap.push { cls:=.type "tuple",data:=.seq #[u,v] },toks:=t' }) (fp:=fp) (t':=t') (h':=h') I1 (λb o hb e=>?_) λb hb=>?_
 .rcases Heap.get?_push_cases e with⟨rfl,rfl⟩|e
  .exact hp
  .exact k b o hb e
 .obtain⟨f0,f1⟩:=hf b hb
  exact⟨by rw[aQ (Yv (hlt b hb))];exact f0,f1⟩
def uH{fp:List Addr}(hf:∀b∈fp,RT X pins H b)(hlt:∀b∈fp,b<s.heap.objs.size){o:HO}:∀b∈fp,upd H s.heap.objs.size o b=none:=λb hb=>by rw[aQ (Yv (hlt b hb))];exact(hf b hb).1
end
def VG(K:Frag):Bool->Hp->Addr->List V->Prop
 |true,H,a,xs=>Tp K H a xs
 |false,H,a,xs=>Rm K H a xs
def Inv.ZF{X:Cx}{pins:List (Addr×Obj)}{σ:St}{H:Hp}{s:Shared}{k:Bool}{a:Addr}{xs:List V}(I:Inv X pins σ H s)(h:VG X.K k H a xs):∃its:List Value,Vals xs its/\SQ.Is k s.heap a its.toArray/\xs.length<=sizeLine:=by
 cases k with
 |true=>obtain⟨its,r,p,z⟩:=I.tuple h;exact⟨its,r,show s.heap.IsTuple a its.toArray from p,z⟩
 |false=>obtain⟨its,r,p,z⟩:=I.list h;exact⟨its,r,p.isList,z⟩
def Inv.TY{X:Cx}{pins:List (Addr×Obj)}{σ:St}{H:Hp}{s:Shared}{k:Bool}{a:Addr}{xs ys:List V}(I:Inv X pins σ H s)(h:VG X.K k H a xs)(h2:VG X.K k H a ys):xs=ys:=by
 cases k with
 |true=>exact I.Tu h h2
 |false=>exact I.UJ h h2
def Itz(K:Frag)(k m:Bool)(a b:Addr):It:=
  ⟨λi H=>∃xs ys x y,VG K k H a xs/\VG K m H b ys/\xs[i]?=some x/\ys[i]?=some y,
   λi H v H'=>∃p x y,v=.ref p/\H p=none/\H'=upd H p (.tup [x,y])/\∀xs ys,VG K k H a xs->VG K m H b ys->xs[i]?=some x/\ys[i]?=some y,
   λi H=>∃xs ys,VG K k H a xs/\VG K m H b ys/\(xs.length<=i\/ys.length<=i)⟩
def Ite(K:Frag)(k:Bool)(a:Addr):It:=
  ⟨λi H=>∃xs x,VG K k H a xs/\xs[i]?=some x,
   λi H v H'=>∃p x,v=.ref p/\H p=none/\H'=upd H p (.tup [.int i,x])/\∀xs,VG K k H a xs->xs[i]?=some x,
   λi H=>∃xs,VG K k H a xs/\xs.length<=i⟩
structure Zst(k m:Bool)(z TI TO i1 i2 a b:Addr)(i:Nat)(h:Heap):Prop where
 hz:IsZip h z TI TO .none
 hTI:IsPair h TI (.ref i1) (.ref i2)
 hTO:∃u v,IsPair h TO u v
 h1:SQ.It k h i1 a i
 h2:SQ.It m h i2 b i
structure Znd(z TI TO i1 i2:Addr):Prop where
 a:TI≠z/\TO≠z/\i1≠z/\i2≠z/\TI≠TO/\TI≠i1/\TI≠i2
 b:TO≠i1/\TO≠i2/\i1≠i2
def Dx{P:Program}{w:World}{K:Frag}{es:List Expr}{n:Nat}{pos:Pos}{k m:Bool}(z TI TO i1 i2 a b:Addr)(N:Znd z TI TO i1 i2)(na:a∉[z,TI,TO,i1,i2])(nb:b∉[z,TI,TO,i1,i2]):
  Turn false P w K (.Tuple es n pos) (Itz K k m a b) [z,TI,TO,i1,i2] z (Zst k m z TI TO i1 i2 a b) where
 mem:=by simp
 obj:=λi h st c hc=>by
  obtain⟨hz,hTI,⟨u,v,hTO⟩,⟨o1,e1,c1,d1⟩,⟨o2,e2,c2,d2⟩⟩:=st;simp only[Yb,Yy,Zn]at hc;rcases hc with rfl|rfl|rfl|rfl|rfl
  .exact⟨_,hz,λv z=>by cases z⟩
  .exact⟨_,hTI,λv z=>by cases z⟩
  .exact⟨_,hTO,λv z=>by cases z⟩
  .exact⟨_,e1,λv z=>by rw[d1]at z;cases z⟩
  .exact⟨_,e2,λv z=>by rw[d2]at z;cases z⟩
 keep:=λi h h' ⟨hz,hTI,⟨u,v,hTO⟩,h1,h2⟩ q=>⟨q z (by simp) _ hz,q TI (by simp) _ hTI,⟨u,v,q TO (by simp) _ hTO⟩,h1.move λo e=>q i1 (by simp) o e,h2.move λo e=>q i2 (by simp) o e⟩
 item:=by
  intro X hP hw hK hc i pins s σ H E I hf st hg;subst hP hw hK;obtain⟨xs,ys,x,y,hq,hr,hx,hy⟩:=hg;obtain⟨us,ru,pu,_⟩:=I.ZF hq;obtain⟨vs,rv,pv,_⟩:=I.ZF hr;obtain⟨u,hu,rxu⟩:=ru.get hx;obtain⟨v,hv,ryv⟩:=rv.get hy;obtain⟨hz,hTI,⟨u0,v0,hTO⟩,h1,h2⟩:=st;simp only[Yb,Yy,Zn,not_or]at na nb;have D:SQ.Apart z TI TO i1 i2 a b:=⟨N.a,N.b,⟨na.1,na.2.2.1,na.2.2.2.1,na.2.2.2.2⟩,⟨nb.1,nb.2.2.1,nb.2.2.2.1,nb.2.2.2.2⟩⟩
  have hlt:∀c∈[z,TI,TO,i1,i2],c<s.heap.objs.size:=λc hc=>by
   simp only[Yb,Yy,Zn]at hc;rcases hc with rfl|rfl|rfl|rfl|rfl
   .exact Yl hz
   .exact Yl hTI
   .exact Yl hTO
   .obtain⟨_,e,_⟩:=h1;exact Yl e
   .obtain⟨_,e,_⟩:=h2;exact Yl e
  refine SQ.XN D hz hTI hTO h1 h2 pu pv (x:=u) (y:=v) (by simpa using hu) (by simpa using hv) λh' a1 a2 a3 a4 a5 a6 a7 a8=>⟨_,rfl,?_⟩
  refine wpAny_letOwnedTupleGo_zip (s:={ s with heap:=h' }) a1 λh2' hz' hs'=>?_
  have up:∀c o,c≠z->h'.get? c=some o->h2'.get? c=some o:=λc o n e=>SQ.sb hs' n e;obtain⟨⟨XH,TV,YD,n2z,_⟩,_⟩:=id N
  refine⟨.ref s.heap.objs.size,_,I.TX (t':=s.toks) (h':=h2') hf hlt rxu ryv (λc o hc e=>up c o (λq=>hc (by simp[q])) (a7 c o hc e)) (up _ _ (Wu (Yl hz)) a5),rfl,
   ⟨_,x,y,rfl,I.fresh,rfl,λxs' ys' q1 q2=>⟨by rw[I.TY q1 hq];exact hx,by rw[I.TY q2 hr];exact hy⟩⟩,
   ⟨hz',up _ _ XH a8,⟨_,_,up _ _ TV a2⟩,a3.move λo e=>up _ o YD e,a4.move λo e=>up _ o n2z e⟩,uH hf hlt⟩
 done:=by
  intro X hP hw hK hc i pins s σ H E I hf st hg;subst hP hw hK;obtain⟨xs,ys,hq,hr,hx⟩:=hg;obtain⟨us,ru,pu,_⟩:=I.ZF hq;obtain⟨vs,rv,pv,_⟩:=I.ZF hr;obtain⟨hz,hTI,⟨u0,v0,hTO⟩,h1,h2⟩:=st;simp only[Yb,Yy,Zn,not_or]at na nb;have D:SQ.Apart z TI TO i1 i2 a b:=⟨N.a,N.b,⟨na.1,na.2.2.1,na.2.2.2.1,na.2.2.2.2⟩,⟨nb.1,nb.2.2.1,nb.2.2.2.1,nb.2.2.2.2⟩⟩;have l1:=ru.length;have l2:=rv.length
  refine SQ.XQ (I.ok.hd hc.cm) D hz hTI hTO h1 h2 pu pv (hx.imp (λq=>by simp;omega) λq=>by simp;omega) λh' kk=>⟨rfl,I.SJ (t':=s.toks) kk hf⟩
 self:=λ_ _ _ _ _ st h=>wpAny_pyIter_zip st.hz h
structure Est(k:Bool)(e it a:Addr)(i:Nat)(h:Heap):Prop where
 he:∃old,IsEnum h e it i old
 h1:SQ.It k h it a i
def BH{P:Program}{w:World}{K:Frag}{es:List Expr}{n:Nat}{pos:Pos}{k:Bool}(e it a:Addr)(ne:e≠it)(na:a≠e/\a≠it):
  Turn false P w K (.Tuple es n pos) (Ite K k a) [e,it] e (Est k e it a) where
 mem:=by simp
 obj:=λi h st c hc=>by
  obtain⟨⟨old,he⟩,⟨o1,e1,c1,d1⟩⟩:=st;simp only[Yb,Yy,Zn]at hc;rcases hc with rfl|rfl
  .exact⟨_,he,λv z=>by cases z⟩
  .exact⟨_,e1,λv z=>by rw[d1]at z;cases z⟩
 keep:=λi h h' ⟨⟨old,he⟩,h1⟩ q=>⟨⟨old,q e (by simp) _ he⟩,h1.move λo x=>q it (by simp) o x⟩
 item:=by
  intro X hP hw hK hc i pins s σ H E I hf st hg;subst hP hw hK;obtain⟨xs,x,hq,hx⟩:=hg;obtain⟨us,ru,pu,_⟩:=I.ZF hq;obtain⟨u,hu,rxu⟩:=ru.get hx;obtain⟨⟨old,he⟩,h1⟩:=st
  have hlt:∀c∈[e,it],c<s.heap.objs.size:=λc hc=>by
   simp only[Yb,Yy,Zn]at hc;rcases hc with rfl|rfl
   .exact Yl he
   .obtain⟨_,e,_⟩:=h1;exact Yl e
  have hi:i<us.toArray.size:=by have:=(Yc.mp hu).1;simpa using this
  have D:=SQ.draws (prog:=X.prog) (w:=X.w) (A:=X.A.in1) k (I.ok.hd hc.cm) it a na.2 us.toArray
  refine wpAny_pyNext_enum_itemD D he ⟨h1,pu⟩ hi ne (by simp[ne,Ne.symm na.1]) λy h' tk hy a1 a2 a3 a4 a5=>⟨_,rfl,?_⟩
  have ey:y=u:=by simpa[hu] using hy.symm
  subst ey
  refine wpAny_letOwnedTupleGo_enum (s:={ s with heap:=h',toks:=tk+1 }) a1 λh2' hz' hs'=>?_
  have up:∀c o,c≠e->h'.get? c=some o->h2'.get? c=some o:=λc o n q=>SQ.sb hs' n q
  refine⟨.ref s.heap.objs.size,_,Inv.TX (s:=s) (t':=tk+1) (h':=h2') (x:=.int i) (u:=.int i tk) I hf hlt ⟨tk,rfl⟩ rxu (λc o hc q=>up c o (λr=>hc (by simp[r])) (a5 c o (λr=>hc (by simp[r])) (λr=>hc (by simp[r])) q)) (up _ _ (Wu (Yl he)) a3),rfl,
   ⟨_,x,rfl,I.fresh,rfl,λxs' q1=>by rw[I.TY q1 hq];exact hx⟩,
   ⟨⟨y,by simpa using hz'⟩,a2.1.move λo q=>up _ o (Ne.symm ne) q⟩,uH hf hlt⟩
 done:=by
  intro X hP hw hK hc i pins s σ H E I hf st hg;subst hP hw hK;obtain⟨xs,hq,hx⟩:=hg;obtain⟨us,ru,pu,_⟩:=I.ZF hq;obtain⟨⟨old,he⟩,h1⟩:=st;have l1:=ru.length;have hT:s.TypeIs (.ref e) "enumerate":=⟨_,he,rfl⟩
  unfold pyNext;refine Y6 (M1 (Zw (name:=Str.ofString "__next__") hT F.slot_enumerate_next (Qa F.slot_enumerate_next hT F.entry_enumerate_next ?_ (F.args_enumerate_next_1 _))))
  show wpAny _ _ (field (.ref e) 2 >>= _) _ _ _;refine Y6 (Zm he rfl (x:=.ref it) rfl ?_)
  refine Y6 (SQ.ends (I.ok.hd hc.cm) h1 pu (by simp;omega) λh' x he' hx'=>?_)
  obtain⟨o,ho,hcl⟩:=hx';refine Y6 (wpAny_isInstance (T:="StopIteration") (b:=true) ⟨o,ho,hcl⟩ isSubtype_stop ?_)
  exact Yg ⟨rfl,I.SJ (t':=s.toks) (λb o hb q=>he' b o (λr=>hb (by simp[r])) q) hf⟩
 self:=λ_ _ _ _ _ st h=>let ⟨⟨_,he⟩,_⟩:=st;wpAny_pyIter_enum he h
section
variable{X:Cx}{es:List Expr}{n:Nat}{tp:Pos}
def boot_zip:bootBuiltins "zip" = some (.type "zip"):=by decide +kernel
def boot_enumerate:bootBuiltins "enumerate" = some (.type "enumerate"):=by decide +kernel
def IJ(n:Nat):Znd (n+4) (n+2) (n+3) n (n+1):=by
 have h:((n+2≠n+4/\n+3≠n+4/\n≠n+4/\n+1≠n+4/\n+2≠n+3/\n+2≠n/\n+2≠n+1)/\(n+3≠n/\n+3≠n+1/\n≠n+1)):=by omega
 exact⟨h.1,h.2⟩
def sf(n a:Nat)(h:a<n):a∉[n+4,n+2,n+3,n,n+1]:=by intro hc;simp only[Yb,Yy,Zn]at hc;omega
def sg(n c:Nat)(hc:c∈[n+4,n+2,n+3,n,n+1]):n<=c:=by simp only[Yb,Yy,Zn]at hc;omega
def zZ(n a:Nat)(h:a<n):(n+1≠n)/\a≠n+1/\a≠n:=by omega
def pR(n c:Nat)(hc:c∈[n+1,n]):n<=c:=by simp only[Yb,Yy,Zn]at hc;omega
def LJ(K:Frag)(ta:TA):TI:=λσ H R=>ta σ H λvs H1=>∃a b k m,vs=[.ref a,.ref b]/\(∃xs,VG K k H1 a xs)/\(∃ys,VG K m H1 b ys)/\R (Itz K k m a b) H1
def KA(K:Frag)(ta:TA):TI:=λσ H R=>ta σ H λvs H1=>∃a k,vs=[.ref a]/\(∃xs,VG K k H1 a xs)/\R (Ite K k a) H1
theorem IK{a b:Expr}{ta:TA}{p pos:Pos}(hg:Gl X "zip")(hm:X.mg "zip" = none)(ha:PA X [a,b] ta)(hs:starEach [a,b] X.env=[(false,eval a X.env),(false,eval b X.env)]:=by kernel_rfl)(hs2:starEach [b] X.env=[(false,eval b X.env)]:=by kernel_rfl):
  PI X (.Tuple es n tp) (.Call (.Name "zip" p) [a,b] [] pos) (LJ X.K ta):=by
 intro pins s σ H R I h
 refine Call_ (i4 I hg hm boot_zip (Q8 (PX (ha pos pins s σ H _ I h) λus s1 zq=>?_) (by rw[hs,hs2]) (by rw[hs2];rfl)))
 obtain⟨vs,H1,I1,r1,q1⟩:=zq;obtain⟨a,b,k,m,e,⟨xs,hx⟩,⟨ys,hy⟩,q⟩:=q1;subst e;cases r1 with
 |cons r rr=>
  cases rr with
  |cons r' rr=>
   cases rr;cases r;cases r';obtain⟨us,ru,pu,_⟩:=I1.ZF hx;obtain⟨vs,rv,pv,_⟩:=I1.ZF hy;refine SQ.XR pu pv λh' a1 a2 a3 a4 a5 a6 a7=>?_
   have I2:Inv X pins σ H1 { s1 with heap:=h' }:=I1.kept (t':=s1.toks) a7
   obtain⟨oa,ea,_⟩:=pu.obj;obtain⟨ob,eb,_⟩:=pv.obj;have la:=Yl ea;have lb:=Yl eb
   refine wpAny_pyIter_zip (s:={ s1 with heap:=h' }) a1 ⟨_,[s1.heap.objs.size+4,s1.heap.objs.size+2,s1.heap.objs.size+3,s1.heap.objs.size,s1.heap.objs.size+1],_,_,H1,rfl,I2,
    Dx (k:=k) (m:=m) _ _ _ _ _ a b (IJ _) (sf _ a la) (sf _ b lb),⟨a1,a2,⟨_,_,a3⟩,a4,a5⟩,λc hc=>?_,q⟩
   exact I1.Tq (sg _ c hc) (I1.hok.fresh (sg _ c hc))
theorem FP{a:Expr}{ta:TA}{p pos:Pos}(hg:Gl X "enumerate")(hm:X.mg "enumerate" = none)(ha:PA X [a] ta)(hs:starEach [a] X.env=[(false,eval a X.env)]:=by kernel_rfl):
  PI X (.Tuple es n tp) (.Call (.Name "enumerate" p) [a] [] pos) (KA X.K ta):=by
 intro pins s σ H R I h;refine Call_ (i4 I hg hm boot_enumerate (Q8 (PX (ha pos pins s σ H _ I h) λus s1 zq=>?_) hs rfl));obtain⟨vs,H1,I1,r1,q1⟩:=zq;obtain⟨a,k,e,⟨xs,hx⟩,q⟩:=q1;subst e;cases r1 with
 |cons r rr=>
  cases rr;cases r;obtain⟨us,ru,pu,_⟩:=I1.ZF hx;refine SQ.Xi pu λh' a1 a2 a3 a4=>?_
  have I2:Inv X pins σ H1 { s1 with heap:=h' }:=I1.kept (t':=s1.toks) a4
  obtain⟨oa,ea,_⟩:=pu.obj;have la:=Yl ea
  refine wpAny_pyIter_enum (s:={ s1 with heap:=h' }) a1 ⟨_,[s1.heap.objs.size+1,s1.heap.objs.size],_,_,H1,rfl,I2,BH (k:=k) _ _ a (zZ _ a la).1 (zZ _ a la).2,⟨⟨_,a1⟩,a2⟩,λc hc=>?_,q⟩
  exact I1.Tq (pR _ c hc) (I1.hok.fresh (pR _ c hc))
end
end L2
namespace PD
open PySem PySem.Spec PyProof.Rows L2
def rj:D->Option (List D)
 |.tup ds=>some ds
 |.lst ds=>some ds
 |.fz ds=>some ds
 |_=>none
def mU:List D->List D->List D
 |x::xs,y::ys=>.tup [x,y]::mU xs ys
 |_,_=>[]
def numbered:Nat->List D->List D
 |_,[]=>[]
 |i,x::xs=>.tup [.int i,x]::numbered (i+1) xs
def yF(t:AM):AM:=λr S=>(t r S).bind λxs S1=>match xs with
 |[a,b]=>match rj a,rj b with
  |some us,some vs=>.ok (mU us vs) S1
  |_,_=>.bad
 |_=>.bad
def z6(t:AM):AM:=λr S=>(t r S).bind λxs S1=>match xs with
 |[a]=>match rj a with
  |some us=>.ok (numbered 0 us) S1
  |_=>.bad
 |_=>.bad
theorem lU:∀(us vs:List D)(i:Nat),(i<(mU us vs).length↔i<us.length/\i<vs.length)/\∀x y,us[i]?=some x->vs[i]?=some y->(mU us vs)[i]?=some (.tup [x,y])
 |[],vs,i=>by simp[mU]
 |_::_,[],i=>by simp[mU]
 |u::us,v::vs,0=>by simp[mU]
 |u::us,v::vs,i+1=>by have ih:=lU us vs i;simp only[mU,Yn,Zx,Nat.add_lt_add_iff_right];exact ih
theorem gp:∀(us:List D)(j i:Nat),(numbered j us).length=us.length/\∀x,us[i]?=some x->(numbered j us)[i]?=some (.tup [.int ((j+i:Nat):Int),x])
 |[],j,i=>by simp[numbered]
 |u::us,j,0=>by simp[numbered,(gp us (j+1) 0).1]
 |u::us,j,i+1=>by have ih:=gp us (j+1) i;simp only[numbered,Yn,Zx,ih.1,true_and];intro x hx;rw[ih.2 x hx];congr 4;omega
def yG{K:Frag}{w:Wd}{H:Hp}{d:D}{ds:List D}{v:V}(e:rj d=some ds)(q:RD K w H d v):∃p k vs,v=.ref p/\PJ K w H ds vs/\∀w' H',Ext w H w' H'->VG K k H' p vs:=by
 cases d with
 |tup us=>
  cases e;unfold RD at q;obtain⟨p,vs,rfl,h1,q⟩:=q;exact⟨p,true,vs,rfl,q,λw' H' x'=>dm (h1.imp x'.at id)⟩
 |lst us=>
  cases e;unfold RD at q;obtain⟨p,vs,rfl,h1,q⟩:=q;exact⟨p,false,vs,rfl,q,λw' H' x'=>Rm.of (x'.at h1).1⟩
 |fz us=>
  cases e;unfold RD at q;obtain⟨p,vs,rfl,h1,q⟩:=q;exact⟨p,false,vs,rfl,q,λw' H' x'=>yz.sq (w:=w') (h1.imp (λ⟨o,z⟩=>⟨o,x'.at z⟩) id)⟩
 |_=>cases e
section
variable{X:Cx}{E:XK}{a b:Expr}{pos:Pos}
theorem Dy{es:List Expr}{n:Nat}{tp:Pos}{ms:AM}{p:Pos}(hg:Gl X "zip")(hm:X.mg "zip" = none)(ha:SA X E [a,b] ms)(hs:starEach [a,b] X.env=[(false,eval a X.env),(false,eval b X.env)]:=by kernel_rfl)(hs2:starEach [b] X.env=[(false,eval b X.env)]:=by kernel_rfl):
  SI X E (.Tuple es n tp) (.Call (.Name "zip" p) [a,b] [] pos) (yF ms):=⟨
 eI (IK hg hm ha.out hs hs2) λs H Q zq=>QR zq λw r S hr hS hp=>⟨w,r,S,hr,hS,hp.bind hS λds S1 w1 H1 vs x1 q1 s1 p1=>by
  match ds,q1,p1 with
  |[d,e],q1,p1=>
   obtain⟨v,u,rfl,q2,q3⟩:=q1.RW
   change aF X.K E (RI X.K) w1 H1 (match rj d,rj e with|some us,some vs=>R.ok (mU us vs) S1|_,_=>R.bad) Q at p1
   cases e1:rj d with
   |none=>rw[e1]at p1;exact p1.elim
   |some us=>
    cases e2:rj e with
    |none=>rw[e1,e2]at p1;exact p1.elim
    |some vs=>
     rw[e1,e2]at p1;obtain⟨pa,k,xs,rfl,ra,sa⟩:=yG e1 q2;obtain⟨pb,m,ys,rfl,rb,sbb⟩:=yG e2 q3;refine⟨pa,pb,k,m,rfl,⟨xs,sa _ _ (Ext.refl _ _)⟩,⟨ys,sbb _ _ (Ext.refl _ _)⟩,aF.ret p1 ?_ s1⟩;intro i w' H' x';have ra':=PJ.ext x' _ _ ra;have rb':=PJ.ext x' _ _ rb;have la:=ra.length;have lb:=rb.length;refine⟨λhi=>?_,λhi=>⟨xs,ys,sa _ _ x',sbb _ _ x',?_⟩⟩
     .obtain⟨h1,h2⟩:=(lU us vs i).1.mp hi
      refine⟨⟨xs,ys,xs[i]'(by omega),ys[i]'(by omega),sa _ _ x',sbb _ _ x',Yk _,Yk _⟩,λv Xb y=>?_⟩
      obtain⟨p,x,y,rfl,hp,rfl,q⟩:=y;obtain⟨qx,qy⟩:=q xs ys (sa _ _ x') (sbb _ _ x');obtain⟨x0,ex,rx⟩:=ra'.get (Yk h1);obtain⟨y0,ey,ry⟩:=rb'.get (Yk h2);rw[qx]at ex;cases ex;rw[qy]at ey;cases ey;refine⟨.inr ⟨p,_,hp,rfl⟩,λS hS=>⟨_,(lU us vs i).2 _ _ (Yk h1) (Yk h2),?_⟩⟩;unfold RD;refine⟨p,[x,y],rfl,.inl ⟨aU,hS.fresh hp⟩,?_⟩;unfold PJ PJ PJ;exact⟨x,[y],rfl,RD.ext (Ext.new hp) _ _ rx,y,[],rfl,RD.ext (Ext.new hp) _ _ ry,rfl⟩
     .have:=(lU us vs i).1;omega
  |[],_,p1=>exact p1.elim
  |[_],_,p1=>exact p1.elim
  |_::_::_::_,_,p1=>exact p1.elim⟩⟩
theorem FQ{es:List Expr}{n:Nat}{tp:Pos}{ms:AM}{p:Pos}(hg:Gl X "enumerate")(hm:X.mg "enumerate" = none)(ha:SA X E [a] ms)(hs:starEach [a] X.env=[(false,eval a X.env)]:=by kernel_rfl):
  SI X E (.Tuple es n tp) (.Call (.Name "enumerate" p) [a] [] pos) (z6 ms):=⟨
 eI (FP hg hm ha.out hs) λs H Q zq=>QR zq λw r S hr hS hp=>⟨w,r,S,hr,hS,hp.bind hS λds S1 w1 H1 vs x1 q1 s1 p1=>by
  match ds,q1,p1 with
  |[d],q1,p1=>
   obtain⟨v,rfl,q2⟩:=q1.PK
   change aF X.K E (RI X.K) w1 H1 (match rj d with|some us=>R.ok (numbered 0 us) S1|_=>R.bad) Q at p1
   cases e1:rj d with
   |none=>rw[e1]at p1;exact p1.elim
   |some us=>
    rw[e1]at p1;obtain⟨pa,k,xs,rfl,ra,sa⟩:=yG e1 q2;refine⟨pa,k,rfl,⟨xs,sa _ _ (Ext.refl _ _)⟩,aF.ret p1 ?_ s1⟩;intro i w' H' x';have ra':=PJ.ext x' _ _ ra;have la:=ra.length;have ln:=(gp us 0 i).1
    refine⟨λhi=>?_,λhi=>⟨xs,sa _ _ x',by omega⟩⟩
    have h1:i<us.length:=by omega
    refine⟨⟨xs,xs[i]'(by omega),sa _ _ x',Yk _⟩,λv Xb y=>?_⟩
    obtain⟨p,x,rfl,hp,rfl,q⟩:=y;have qx:=q xs (sa _ _ x');obtain⟨x0,ex,rx⟩:=ra'.get (Yk h1);rw[qx]at ex;cases ex;refine⟨.inr ⟨p,_,hp,rfl⟩,λS hS=>⟨_,(gp us 0 i).2 _ (Yk h1),?_⟩⟩;unfold RD;refine⟨p,[.int i,x],rfl,.inl ⟨aU,hS.fresh hp⟩,?_⟩;unfold PJ PJ PJ
    exact⟨.int i,[x],rfl,by unfold RD;simp,x,[],rfl,RD.ext (Ext.new hp) _ _ rx,rfl⟩
  |[],_,p1=>exact p1.elim
  |_::_::_,_,p1=>exact p1.elim⟩⟩
end
def BI(x:Int):List Int->List Int
 |[]=>[x]
 |y::r=>if x<=y then x::y::r else y::BI x r
def gE:List Int->List Int
 |[]=>[]
 |x::r=>BI x (gE r)
theorem mV(x:Int):∀l:List Int,(BI x l).Perm (x::l)
 |[]=>.refl _
 |y::r=>by
  unfold BI;split
  .exact .refl _
  .exact((mV x r).cons y).trans (.swap x y r)
theorem fi:∀l:List Int,(gE l).Perm l
 |[]=>.refl _
 |x::r=>(mV x _).trans ((fi r).cons x)
theorem nU(x:Int):∀l:List Int,l.Pairwise (· <= ·)->(BI x l).Pairwise (· <= ·)
 |[],_=>Wg _ _
 |y::r,h=>by
  obtain⟨h1,h2⟩:=Qp.mp h;unfold BI;split
  .rename_i hxy
   exact Qp.mpr ⟨λz hz=>by
    rcases Yb.mp hz with rfl|hz
    .exact hxy
    .exact Int.le_trans hxy (h1 z hz),h⟩
  .rename_i hxy
   exact Qp.mpr ⟨λz hz=>by
    rcases Yb.mp ((mV x r).mem_iff.mp hz) with rfl|hz
    .omega
    .exact h1 z hz,nU x r h2⟩
theorem dw:∀l:List Int,(gE l).Pairwise (· <= ·)
 |[]=>.nil
 |x::r=>nU x _ (dw r)
theorem nV:∀{a b:List Int},a.Perm b->a.Pairwise (· <= ·)->b.Pairwise (· <= ·)->a=b
 |[],b,p,_,_=>p.nil_eq
 |x::r,[],p,_,_=>absurd p.length_eq (by simp)
 |x::r,y::t,p,h1,h2=>by
  obtain⟨a1,a2⟩:=Qp.mp h1;obtain⟨b1,b2⟩:=Qp.mp h2
  have e:x=y:=by
   have hx:x∈y::t:=p.mem_iff.mp (.head _);have hy:y∈x::r:=p.mem_iff.mpr (.head _);rcases Yb.mp hx with h|h
   .exact h
   .rcases Yb.mp hy with h'|h'
    .exact h'.symm
    .exact Int.le_antisymm (a1 y h') (b1 x h)
  subst e;rw[nV (List.Perm.cons_inv p) a2 b2]
end PD
namespace SQ
open PySem PySem.Spec PyProof.Rows
section
variable{prog:Program}{w:World}{A:Around}{E:Value->Shared->Prop}{s:Shared}
theorem wz{l:Addr}{vs:List Value}{Q:List Value->Shared->Prop}(hl:s.heap.IsTuple l vs.toArray)
  (h:Q vs { s with heap:=(s.heap.push (seqObj "list" #[] 0)).update s.heap.objs.size (Obj.mapSeq (· ++ vs.toArray)) }) (hsz:vs.length<=sizeLine):wpAny (model prog w) A (collect (.ref l)) Q E s:=by
 obtain⟨o,ho,hc,n,hd⟩:=id hl;unfold collect;refine Y6 (wpAny_runValue (Q5 entry_proto_collect' ?_))
 show wpAny _ _ (do again (.builtin "list.__iadd__" ⟨[<- newList [],.ref l],[]⟩)) _ _ s;refine Y6 (M5 (Yg ⟨Code.quiet_builtin _ (by decide +kernel),Q5 entry_list_iadd' ?_⟩))
 show wpAny _ _ (Builtin.List.listExtendWith (.ref s.heap.objs.size) (.ref l) (.ref s.heap.objs.size)) _ _ { s with heap:=s.heap.push (seqObj "list" #[] 0) };unfold Builtin.List.listExtendWith
 have ho':(s.heap.push (seqObj "list" #[] 0)).get? l=some o:=Y7 _ ho
 refine Y6 (Me (T:="tuple") ⟨o,ho',hc⟩ ?_)
 have ht:(Value.type "tuple" == Value.type "tuple")=true:=by rfl
 rw[Y9 (by rw[ht];simp)];refine Y6 (listItems_at ho' hd ?_);refine Y6 (listItems_at (xs:=#[]) (n:=0) (Ye _ rfl) rfl ?_);rw[Yj (by simp)]
 refine Y6 (listUpdate_at (xs:=#[]) (n:=0) (Ye _ rfl) rfl ?_ (Zs _) (by show(#[]++vs.toArray).size<=sizeLine+1;simp only[Array.size_append,Yu,Zu];omega));refine Yg ?_
 show wpAny (model prog w) A (do
   let o <- load s.heap.objs.size
   match o.data with
   |.seq xs _=>pure xs.toList
   |_=>unsupported "internal:collect") Q E { s with heap:=(s.heap.push (seqObj "list" #[] 0)).update s.heap.objs.size (Obj.mapSeq (· ++ vs.toArray)) }
 refine Y6 (wpAny_load (get?_update_seq (Ye _ rfl) _) ?_);show wpAny _ _ (pure ((#[]:Array Value)++vs.toArray).toList) Q E _
 rw[show((#[]:Array Value)++vs.toArray).toList=vs by simp];exact Yg h
theorem collects{k:Bool}{l:Addr}{vs:List Value}{Q:List Value->Shared->Prop}(hl:Is k s.heap l vs.toArray)
  (h:Q vs { s with heap:=(s.heap.push (seqObj "list" #[] 0)).update s.heap.objs.size (Obj.mapSeq (· ++ vs.toArray)) }) (hsz:vs.length<=sizeLine):wpAny (model prog w) A (collect (.ref l)) Q E s:=by
 cases k with
 |true=>exact wz hl h hsz
 |false=>exact collect_list hl h hsz
end
end SQ
namespace PD
open PySem PySem.Spec PyProof.Rows L2
section
variable{X:Cx}{E:XK}
theorem iK{K:Frag}{w:Wd}{H:Hp}:∀{ds:List D}{vs:List V}{us:List Value}{ns:List Int},PJ K w H ds vs->Vals vs us->intsOf ds=some ns->IntsAre us ns
 |[],_,_,_,q,r,h=>by rw[q.nil_inv]at r;cases r;unfold intsOf at h;cases h;exact .nil
 |d::ds,_,_,ns,q,r,h=>by
  obtain⟨y,vs,rfl,p,t⟩:=q.cons_inv;cases d with
  |int b=>
   unfold intsOf at h;cases e':intsOf ds with
   |none=>rw[e']at h;cases h
   |some cs=>
    rw[e']at h;cases h;cases p.int;cases r with
    |cons r1 r2=>
     obtain⟨t',rfl⟩:=r1;exact .cons _ _ (iK t r2 e')
  |_=>unfold intsOf at h;cases h
theorem z7:∀{us:List Value}{ns:List Int},IntsAre us ns->Vals (ns.map .int) us
 |_,_,.nil=>.nil
 |_,_,.cons _ _ h=>.cons ⟨_,rfl⟩ (z7 h)
theorem wA{K:Frag}{w:Wd}{H:Hp}:∀ns:List Int,PJ K w H (ns.map .int) (ns.map .int)
 |[]=>.nil
 |n::ns=>.cons (by unfold RD;rfl) (wA ns)
def rl(neg:Bool):Pz->D->D->Option D:=λ_ a b=>match b with
 |.non=>match a with
  |.non=>some (.bl (!neg))
  |.int _=>some (.bl neg)
  |.bl _=>some (.bl neg)
  |.str _=>some (.bl neg)
  |.tup _=>some (.bl neg)
  |.lst _=>some (.bl neg)
  |.ref _=>some (.bl neg)
  |.PN _=>some (.bl neg)
  |_=>none
 |_=>none
def yH{neg:Bool}{S:Pz}{a b z:D}(h:rl neg S a b=some z):b=.non/\((a=.non/\z=.bl (!neg))\/(z=.bl neg/\∀(K:Frag)(w:Wd)(H:Hp)(v:V),RD K w H a v->v≠.non)):=by
 cases b<;>first|(cases h;done)|skip
 refine⟨rfl,?_⟩;cases a with
 |non=>cases h;exact .inl ⟨rfl,rfl⟩
 |int i=>cases h;exact .inr ⟨rfl,λK w H v q z=>by cases q.int;cases z⟩
 |bl i=>cases h;exact .inr ⟨rfl,λK w H v q z=>by cases q.bl;cases z⟩
 |str i=>cases h;exact .inr ⟨rfl,λK w H v q z=>by cases q.str;cases z⟩
 |tup i=>cases h;exact .inr ⟨rfl,λK w H v q z=>by obtain⟨p,vs,e,_⟩:=q.tupI;rw[e]at z;cases z⟩
 |lst i=>cases h;exact .inr ⟨rfl,λK w H v q z=>by obtain⟨p,vs,e,_⟩:=q.R6;rw[e]at z;cases z⟩
 |ref i=>cases h;exact .inr ⟨rfl,λK w H v q z=>by obtain⟨p,e,_⟩:=q.Rz;rw[e]at z;cases z⟩
 |PN i=>cases h;exact .inr ⟨rfl,λK w H v q z=>by unfold RD at q;obtain⟨p,vs,e,_⟩:=q;rw[e]at z;cases z⟩
 |_=>cases h
def BJ{v:Value}(hb:∀id,v≠.builtin id):plainIs v .none=true:=by cases v<;>first|rfl|(exact absurd rfl (hb _))
def FR{x:V}{v:Value}(r:RelV x v):∀id,v≠.builtin id:=by
 intro id e;subst e
 cases x<;>first|(cases r;done)|(obtain⟨_,e⟩:=r;cases e;done)|skip
def BK{x:V}{v:Value}(r:RelV x v)(h:x≠.non):v≠.none:=by
 intro e;subst e
 cases x<;>first|(exact h rfl)|(cases r;done)|(obtain⟨_,e⟩:=r;cases e;done)|skip
def z8:QS X (compareOp .Is) (xO X.K E (rl false)):=by
 rintro pins s σ H x y v u Q I rx ry ⟨w,S,d,e,hS,qd,qe,p⟩;obtain⟨z,hz,p⟩:=p.of;obtain⟨rfl,h⟩:=yH hz
 have ey:y=.non:=by unfold RD at qe;exact qe
 subst ey;cases ry;rcases h with⟨rfl,rfl⟩|⟨rfl,h⟩
 .have ex:x=.non:=by unfold RD at qd;exact qd
  subst ex;cases rx;exact wpAny_is_self rfl ⟨.bl true,H,I,rfl,p.ret RD.Tv hS⟩
 .have hx:=h _ _ _ _ qd;exact wpAny_is_other (BJ (FR rx)) (BK rx hx) ⟨.bl false,H,I,rfl,p.ret RD.Tv hS⟩
end
variable{X:Cx}{PB:List Nat}
def BL{E:XK}{k:Nat}{it:AM}{g:G}{mt:TM}{me:EM}:∀s H Q,uE X.K E (br it k PB g mt me) s H Q->zU (uI X.K E it) k PB (uG X.K g) (uT X.K E mt) (uE X.K E me) s H Q:=
 λs H Q zq=>QR zq λw r S hr hS hp=>⟨w,r,S,hr,hS,hp.bind hS λds S1 w1 H1 J x1 q1 s1 p1=>by
  intro p hp;have hr1:=hr.ext x1;have pno:p∉w1.hid:=(s1.fresh hp).2
  have hz:ds.length<=sizeLine:=by
   rcases Nat.lt_or_ge sizeLine ds.length with z|z
   .rw[Yj (by omega)]at p1;exact p1.elim
   .exact z
  rw[Y9 hz]at p1
  -- the list is made at p,which is hidden
  refine⟨λi n s' H'=>n=ds.length-i/\i<=ds.length/\∃w' r' S' ys vs,Ext w1 H1 w' H'/\p∈w'.hid/\Rq X.K w' H' r' s'/\RS X.K w' H' S'/\H' p=some (.lst vs)/\PJ X.K w' H' ys vs/\ys.length<=i/\
    aF X.K E (RD X.K) w1 H1 ((cI g mt me (ds.drop i) r' S').bind λzs S2=>R.ok (.lst (ys++zs)) S2) Q,
   ⟨ds.length,by simp,Zs _,w1.hide p,eZ k PB r,S1,[],[],Ext.hide hp,Z4,(zY k PB hr1).ext (Ext.hide hp),s1.hide hp,aU,.nil,Yh _,p1⟩,?_⟩
  rintro i n s2 H2 ⟨rfl,hi.out,w2,r2,S2,ys,vs,x2,hph,hr2,hS2,hpv,ry,hyl,hp2⟩;have hpn:p∉w2.st:=(hS2.hid p hph).1;by_cases hlt:i<ds.length
  .obtain⟨go,X5⟩:=(q1 i w2 H2 x2).1 hlt
   refine .inr ⟨go,λs' H'=>∃w' r' S' ys vs,Ext w1 H1 w' H'/\p∈w'.hid/\Rq X.K w' H' r' s'/\RS X.K w' H' S'/\H' p=some (.lst vs)/\PJ X.K w' H' ys vs/\ys.length<=i+1/\
     aF X.K E (RD X.K) w1 H1 ((cI g mt me (ds.drop (i+1)) r' S').bind λzs S2=>R.ok (.lst (ys++zs)) S2) Q,
    λs' H' hN=>⟨ds.length-(i+1),by omega,rfl,hlt,hN⟩,λx H3 hy=>?_⟩
   obtain⟨gr,rd⟩:=X5 x H3 hy;obtain⟨d,ed,qd⟩:=rd S2 hS2;obtain⟨x3,s3⟩:=pE gr hS2
   have hdrop:ds.drop i=d::ds.drop (i+1):=by rw[Vm hlt];rw[Yk hlt]at ed;cases ed;rfl
   rw[hdrop]at hp2;have aag:H3 p=some (.lst vs):=x3.keep _ _ hpv hpn;have ry3:=PJ.ext x3 _ _ ry;have x13:Ext w1 H1 w2 H3:=x2.trans' x3 s1 hS2;unfold cI at hp2;cases e:g.put d r2 with
   |none=>rw[e]at hp2;exact hp2.elim
   |some r3=>
    rw[e]at hp2;refine⟨w2,r2,d,r3,hr2.ext x3,qd,e,λs4 Xw=>⟨w2,r3,S2,Xw,s3,?_⟩⟩
    -- hp2:(mt r3 S2).bind .. |>.bind ..
    have TQ:∀{A B C:Type}(r:R A)(f:A->Pz->R B)(h:B->Pz->R C),(r.bind f).bind h=r.bind λa S=>(f a S).bind h:=λr f h=>by cases r<;>rfl
    simp only[TQ]at hp2;refine aF.R5 (rel:=RB) hp2 x13 s1 s3 λc S5 w5 H5 c' x5 q5 s5 p5=>?_;have ec:c'=c:=q5;subst ec;have x15:Ext w1 H1 w5 H5:=x13.trans' x5 s1 s3;have WK:p∈w5.hid:=x5.hid p hph;have Xz:H5 p=some (.lst vs):=x5.keep _ _ aag hpn;cases c' with
    |false=>
     refine rg ⟨w5,r3,S5,ys,vs,x15,WK,Xw.ext x5,s5,Xz,PJ.ext x5 _ _ ry3,Mb hyl,p5⟩
    |true=>
     refine rh ⟨w5,r3,S5,Xw.ext x5,s5,?_⟩;have p5':aF X.K E (RD X.K) w1 H1 (((me r3 S5).bind λy S2=>(cI g mt me (ds.drop (i+1)) r3 S2).bind λys S3=>R.ok (y::ys) S3).bind λzs S2=>R.ok (D.lst (ys++zs)) S2) Q:=p5;simp only[TQ]at p5';refine aF.R5 (rel:=RD X.K) p5' x15 s1 s5 λy S6 w6 H6 yv x6 q6 s6 p6=>?_;have XC:Ext w1 H1 w6 H6:=x15.trans' x6 s1 s5;have R7:p∈w6.hid:=x6.hid p WK;have aah:p∉w5.st:=(s5.hid p WK).1;have aaL:p∉w6.st:=(s6.hid p R7).1;have XF:H6 p=some (.lst vs):=x6.keep _ _ Xz aah;have ry6:=PJ.ext x6 _ _ (PJ.ext x5 _ _ ry3)
     refine⟨vs,XF,by rw[ry6.length];omega,w6,r3,S6,ys++[y],vs++[yv],⟨λa o h n=>?_,XC.sub,XC.hid,XC.hnew,λa o u h=>by have z:=XC.QX a o u h;rw[aQ (λe:a=p=>by rw[e,XF]at z;cases z)];exact z⟩,R7,(Xw.ext x5).ext x6 |>.mv (Mv.write R7),s6.write R7,aU,(PJ.mv (Mv.write R7) _ _ ry6).append (.cons (RD.mv (Mv.write R7) _ _ q6) .nil),by simp;omega,?_⟩
     .have:a≠p:=aW h hp;rw[aQ this];exact XC.keep a o h n
     .have he2:∀zs:List D,(ys++[y])++zs=ys++y::zs:=λzs=>by simp
      simp only[he2];exact p6
  .have e:i=ds.length:=by omega
   subst e;rw[Mf]at hp2;refine .inl ⟨(q1 _ w2 H2 x2).2 (Yh _),?_⟩;have hp3:aF X.K E (RD X.K) w1 H1 (R.ok (D.lst (ys++[])) S2) Q:=hp2;rw[Qi]at hp3;refine aF.at hp3 (w1:=w2.QK p) ⟨x2.keep,x2.sub,λa h=>Z6.mpr ⟨x2.hid a h,Yr λz=>pno (z▸h)⟩,λa h=>x2.hnew a (Wd.QD h).1,x2.QX⟩ ?_ hS2.QK;unfold RD
   exact⟨p,vs,rfl,⟨hpv,hpn,λz=>(Wd.QD z).2 rfl⟩,PJ.mv Mv.QK _ _ ry⟩⟩
theorem FU{elt tg iter:Expr}{ifs:List Expr}{scope:Scope}{pos pos' spos:Pos}{N:List Str}{i0:Nat}{x0:Str}{k:Nat}{wi:TI}{g:TG}{tt:TT}{te:TE}(hN:X.N.Nodup)(hi0:X.N[i0]?=some x0)(hx0:Loc X.env.scope x0)(hX:X.calm=true)(Y4:∀e s,¬X.xe e s)(C:QW X N k PB scope)
  (hi:PI X tg iter wi) (hg:∀cl s0 H0 ex,PG (Ro X N scope cl s0 H0 ex) tg g) (ht:∀cl s0 H0 ex,Dc (Ro X N scope cl s0 H0 ex) ifs tt) (he:∀cl s0 H0 ex,PE (Ro X N scope cl s0 H0 ex) elt te)
  (hs:∀x,foldedSetIterable iter X.env x=pure x:=by intro _;kernel_rfl) (hsw:swapsWith (.ListComp elt [⟨tg,iter,ifs,0⟩] scope pos) (some (.Name x0 pos')) spos.line X.env=pure true:=by kernel_rfl) (hf0:autoParam (X.fn x0=true\/X.env.scope.names.lookup x0=some .local) zz7._auto_1):PS X (.Assign [.Name x0 pos'] (.ListComp elt [⟨tg,iter,ifs,0⟩] scope pos) spos) (HJ (zU wi k PB g tt te) (CD i0)):=by
 intro pins s σ H D I h;have h:zU wi k PB g tt te σ H (λv H1=>D.nx (σ.set i0 (some v)) H1):=h;have ZC:∀{α:Type}{t:Sem α}{Q':α->Shared->Prop}{s':Shared},wpAny (model X.prog X.w) X.A t Q' X.xe s'->wpAny (model X.prog X.w) X.A t Q' (λ_ _=>False) s':=λh=>W3 h (λ_ _ x=>x) λe s z=>Y4 e s z;obtain⟨cl,hclos,hcl,hcf⟩:=nP (scope:=scope) (env:=X.env) λx hx hf=>I.ok.has _ (C.free x hx hf);rw[exec_Assign_Name_used _ _ _ _ hsw];refine Y6 (wpAny_standAt (Y6 ?_))
 show wpAny _ X.A (do let _ <- comprehension (.ListComp elt [⟨tg,iter,ifs,0⟩] scope pos) scope X.env _ (newList []) false (eval iter X.env) (some (assign (.Name x0 pos') X.env))) _ _ s
 refine Y6 (W3 (wpAny_comprehension_free (use:=some (assign (.Name x0 pos') X.env)) (Q:=λ_ s'=>∃σ' H',Inv X pins σ' H' s'/\D.nx σ' H') (cl:=cl) rfl hs hclos C.kind C.names ?_) (λ_ s' hq=>Yg (Yg hq)) λ_ _ e=>e);refine PX (hi pins s σ H _ I h) λv s1 h1=>PX h1 λitv s2 h2=>?_;obtain⟨it,fp,tn,J,H2,e,I2,T,st2,f2,q⟩:=h2;subst e
 refine M5 (items:=[]) ?_ (by show 0<=sizeLine;exact Zs _)
 have hp:H2 s2.heap.objs.size=none:=I2.hok.fresh (Yh _);obtain⟨W,⟨m0,w0⟩,turn⟩:=q _ hp
 have I3:Inv X pins σ (upd H2 s2.heap.objs.size (.lst [])) { s2 with heap:=s2.heap.push { cls:=.type "list",data:=.seq ([]:List Value).toArray } }:=
  I2.laid (t':=s2.toks) (λb u e=>Y7 _ e) (Yh _) ⟨Zs _,[],0,.nil,Ye _ rfl⟩
 refine wpAny_newFunctionEnv C.VR (λx hx=>nomatch hx) (λh4 hn4 hs4=>?_) C.kind
 have WD:∀b∈fp,b<s2.heap.objs.size:=λb hb=>by obtain⟨o,ho,_⟩:=T.obj _ _ st2 b hb;exact Yl ho
 have hk4:∀b o,(s2.heap.push { cls:=.type "list",data:=.seq ([]:List Value).toArray }).get? b=some o->h4.get? b=some o:=λb o e=>by
  have ne:b≠(s2.heap.push { cls:=.type "list",data:=.seq ([]:List Value).toArray }).objs.size:=Yv (Yl e)
  rw[hs4.2 b ne];exact Y7 _ e
 have f3:∀b∈fp,RT X pins (upd H2 s2.heap.objs.size (.lst [])) b:=λb hb=>by
  obtain⟨a1,a2⟩:=f2 b hb
  exact⟨by rw[aQ (Yv (WD b hb))];exact a1,a2⟩
 have I4:=pG (N:=N) (k:=k) (PB:=PB) (scope:=scope) (cl:=cl) (fp:=fp) (t:=s2.toks+0) I3 C hcl hcf (λb hb=>⟨f3 b hb,by rw[show({ s2 with heap:=s2.heap.push { cls:=.type "list",data:=.seq ([]:List Value).toArray } }:Shared).heap.objs.size=s2.heap.objs.size+1 from Z2 ..];exact We (WD b hb)⟩) hn4 hk4
 have tn4:tn 0 h4:=T.keep _ _ _ st2 λb hb o e=>hk4 b o (Y7 _ e)
 have loop:codeAny (model X.prog X.w) X.A (.compLoop (.ListComp elt [⟨tg,iter,ifs,0⟩] scope pos) 0 (.ref it) (.ref s2.heap.objs.size) (compEnvC scope cl ({ s2 with heap:=s2.heap.push { cls:=.type "list",data:=.seq ([]:List Value).toArray } }:Shared).heap.objs.size X.env))
   (compPost (model X.prog X.w) X.A X.xe (some (assign (.Name x0 pos') X.env)) (λ_ s'=>∃σ' H',Inv X pins σ' H' s'/\D.nx σ' H') (.ref s2.heap.objs.size) ({ s2 with heap:=s2.heap.push { cls:=.type "list",data:=.seq ([]:List Value).toArray } }:Shared).heap.objs.size) { s2 with heap:=h4,toks:=s2.toks+0 }:=by
  generalize hs3:({ s2 with heap:=s2.heap.push { cls:=.type "list",data:=.seq ([]:List Value).toArray } }:Shared)=s3 at *
  have sz3:s2.heap.objs.size<=s3.heap.objs.size:=by rw[<- hs3];show _<=(s2.heap.push _).objs.size;rw[Z2];exact Ws _
  have k23:∀b o,s2.heap.get? b=some o->s3.heap.get? b=some o:=λb o e=>by rw[<- hs3];exact Y7 _ e
  have hos:s3.os=s2.os:=by rw[<- hs3]
  have stat:∀{H':Hp},(∀b∈fp,H' b=none)->∀b∈fp,RT (Ro X N scope cl s3 (upd H2 s2.heap.objs.size (.lst [])) fp) pins H' b:=λ{H'} hn b hb=>by
   obtain⟨a1,a2,a3,a4,a5,a6⟩:=f3 b hb;refine⟨hn b hb,Yv (Ys (WD b hb) sz3),λz=>?_,.inl hb,λx c e=>a5 x c (hcl x c e),a6⟩;rcases Yb.mp (I2.R1 b z) with q|q
   .exact a2 q
   .exact a3 q
  have I4':Inv (Ro X N scope cl s3 (upd H2 s2.heap.objs.size (.lst [])) fp) pins (nO k PB σ) (upd H2 s2.heap.objs.size (.lst [])) { s2 with heap:=h4,toks:=s2.toks+0 }:=by subst hs3;exact I4
  refine lN (λn s'=>∃i σ' H',Inv (Ro X N scope cl s3 (upd H2 s2.heap.objs.size (.lst [])) fp) pins σ' H' s'/\tn i s'.heap/\(∀b∈fp,H' b=none)/\W i n σ' H') ?_ m0 ⟨0,_,_,I4',tn4,λb hb=>(f3 b hb).1,w0⟩;rintro n s5 ⟨i,σ5,H5,I5,YM,fr5,w5⟩;rcases turn i n σ5 H5 w5 with⟨stop,qn⟩|⟨go,Nn,hN,step⟩
  .refine PX (T.done (Ro X N scope cl s3 (upd H2 s2.heap.objs.size (.lst [])) fp) rfl rfl rfl (.inl hX) i pins s5 σ5 H5 _ I5 (stat fr5) YM stop) λr s6 zq=>?_;obtain⟨hr,I6⟩:=zq;subst hr;obtain⟨m6,hn6,_⟩:=I6.loc;have u1:Un (frs X.stack) fp H2 (upd H2 s2.heap.objs.size (.lst [])) s2.heap s3.heap:=Un.laid k23 (Yh _) hp;have u2:Un (frs X.stack) fp H2 H5 s2.heap s6.heap:=u1.trans I6.base;have Xm:∀b o,s2.heap.get? b=some o->b≠s3.heap.objs.size:=λb o e=>Yv (Ys (Yl e) sz3);have hfree:H5 s3.heap.objs.size=none:=I6.free
   have IX:Inv X pins σ H5 s6:=by
    refine I2.call' (s':=s6) (ch:=fp) (by rw[<- hos];exact I6.os) ⟨λb o e n hb hx=>?_,λb o e n hb hx=>?_,u2.free,λb o e hx=>?_,u2.tups,u2.Ry,u2.R0⟩ (λb ob e=>?_) I6.bare λb hb=>?_
    .exact u2.keep b o e n hb hx
    .obtain⟨sl,e1⟩:=u2.slot b o e n hb hx;exact⟨sl,e1⟩
    .obtain⟨o',e1⟩:=u2.there b o e hx;exact⟨o',e1⟩
    .exact I6.hok b ob e
    .obtain⟨a1,a2,a3,a4,a5,a6⟩:=f2 b hb;exact⟨a4,a2,a5,a6⟩
   have lC:∀b o,s2.heap.get? b=some o->b≠s3.heap.objs.size:=Xm;have nL:X.env.locals≠s3.heap.objs.size:=Yv (Ys I2.lt sz3)
   have nc:∀x c,X.env.cells.lookup x=some c->c≠s3.heap.objs.size:=λx c e=>by obtain⟨v,o,ho,_⟩:=I2.cell x c e;exact Xm c o ho
   show wpAny _ X.A (assign (.Name x0 pos') X.env (.ref s2.heap.objs.size)) _ _ _;refine wpAny_assign_Name (rK IX hN hi0 hx0 (v:=.ref s2.heap.objs.size) rfl (λs8 I8 ⟨a,sa,ha⟩=>⟨m6,hn6.sameBut sa ?_,λh9 hs9=>⟨_,H5,?_,qn⟩⟩) hf0)
   .rcases ha with ha|ha
    .rw[ha];exact Ne.symm nL
    .exact Ne.symm (nc _ _ ha)
   .exact I8.turned (t':=s8.toks) (it:=s3.heap.objs.size) (λb o n e=>(hs9.2 b n).trans e) hfree (Ne.symm nL) (.inr (Yw I2.sz sz3)) nc λp hp=>Xm p.1 p.2 (I2.pin p hp).1
  .refine PX (T.item (Ro X N scope cl s3 (upd H2 s2.heap.objs.size (.lst [])) fp) rfl rfl rfl (.inl hX) i pins s5 σ5 H5 _ I5 (stat fr5) YM go) λr s6 zq=>?_;obtain⟨u,hr,h6⟩:=zq;subst hr;refine PX h6 λ_ s7 zq=>?_;obtain⟨x,H7,I7,r7,y7,st7,fr7⟩:=zq;have I7':=I7.pinned (stat fr7) (T.obj _ _ st7);refine ZC (PX (hg cl s3 _ fp _ s7 σ5 H7 x u _ I7' r7 (step x H7 y7)) λ_ s8 zq=>?_);obtain⟨σ8,H8,I8,q8⟩:=zq;refine ZC (PX (ht cl s3 _ fp _ s8 σ8 H8 _ I8 q8) λok s9 zq=>?_);obtain⟨H9,I9,q9⟩:=zq
   have again:∀{s':Shared}{σ':L2.St}{H':Hp},Inv (Ro X N scope cl s3 (upd H2 s2.heap.objs.size (.lst [])) fp) (pins++mI fp s7.heap) σ' H' s'->Nn σ' H'->
     ∃m,m<n/\∃i σ' H',Inv (Ro X N scope cl s3 (upd H2 s2.heap.objs.size (.lst [])) fp) pins σ' H' s'/\tn i s'.heap/\(∀b∈fp,H' b=none)/\W i m σ' H':=λ{s' σ' H'} I' n'=>by
    obtain⟨m',hm,w'⟩:=hN σ' H' n';refine⟨m',hm,i+1,σ',H',I'.Rt,T.keep _ _ _ st7 λb hb o e=>(I'.pin (b,o) (Yz _ (Yz _ (ff hb e)))).1,λb hb=>?_,w'⟩;obtain⟨o,e,d⟩:=T.obj _ _ st7 b hb;exact(I'.pin (b,o) (Yz _ (Yz _ (ff hb e)))).2.1
   cases ok with
   |false=>exact again I9 q9
   |true=>
    refine ZC (PX (he cl s3 _ fp _ s9 σ8 H9 _ I9 q9) λy s10 zq=>?_);obtain⟨yv,H10,I10,r10,ys,hys,hlt,q10⟩:=zq;refine ZC (PX (mL (X:=Ro X N scope cl s3 (upd H2 s2.heap.objs.size (.lst [])) fp) _ s10 σ8 H10 (.ref s2.heap.objs.size) [yv] _ [y] (λ_ H'=>Nn σ8 H') I10 rfl (.cons r10 .nil) ⟨_,ys,yv,rfl,rfl,hys,hlt,q10⟩) λ_ s11 zq=>?_);obtain⟨_,H11,I11,_,q11⟩:=zq;exact again I11 q11
 exact codeAny_compStart_list loop (T.self X.A 0 _ _ _ tn4 loop)
def z9{E:XK}{elt tg iter:Expr}{ifs:List Expr}{scope:Scope}{pos pos' spos:Pos}{N:List Str}{k i0:Nat}{x0:Str}{it:AM}{g:G}{mt:TM}{me:EM}(hN:X.N.Nodup)(hi0:X.N[i0]?=some x0)(hx0:Loc X.env.scope x0)(hX:X.calm=true)(Y4:∀e s,¬X.xe e s)(C:QW X N k PB scope)
  (hi:SI X E tg iter it) (hg:∀cl s0 H0 ex,SG (Ro X N scope cl s0 H0 ex) tg g) (ht:∀cl s0 H0 ex,SIf (Ro X N scope cl s0 H0 ex) E ifs mt) (he:∀cl s0 H0 ex,SE (Ro X N scope cl s0 H0 ex) E elt me)
  (hs:∀x,foldedSetIterable iter X.env x=pure x:=by intro _;kernel_rfl) (hsw:swapsWith (.ListComp elt [⟨tg,iter,ifs,0⟩] scope pos) (some (.Name x0 pos')) spos.line X.env=pure true:=by kernel_rfl) (hf0:autoParam (X.fn x0=true\/X.env.scope.names.lookup x0=some .local) zz7._auto_1):
  SS X E (.Assign [.Name x0 pos'] (.ListComp elt [⟨tg,iter,ifs,0⟩] scope pos) spos) (aN i0 (br it k PB g mt me)):=⟨
 eE (FU hN hi0 hx0 hX Y4 C hi.out (g:=uG X.K g) (λcl s0 H0 ex=>(hg cl s0 H0 ex).out) (tt:=uT X.K E mt) (λcl s0 H0 ex=>(ht cl s0 H0 ex).out) (te:=uE X.K E me) (λcl s0 H0 ex=>(he cl s0 H0 ex).out) hs hsw hf0) λD s H zq=>QR zq λw r S hr hS hp=>
  BL s H _ ⟨w,r,S,hr,hS,hp.bind hS λd S1 w1 H1 v x1 q1 s1 p1=>aF.ret (b:=FV.nx (s.set i0 (some v))) p1 ⟨_,rfl,(hr.ext x1).set i0 q1⟩ s1⟩⟩
def cR(S:Pz):D->Option (List (KD×D))
 |.PN kvs=>some kvs
 |.ref n=>match S[n]? with
  |some (.PN kvs)=>some kvs
  |some (.P0 kvs)=>some kvs
  |_=>none
 |_=>none
def gq(kvs:List (KD×D))(k:KD):Option D:=(kvs.find? λkv=>decide (kv.1=k)).map (·.2)
section
variable{K:Frag}{w:Wd}{H:Hp}{S:Pz}
def mW{d:D}{v:V}{kvs:List (KD×D)}(hS:RS K w H S)(q:RD K w H d v)(h:cR S d=some kvs):∃p us,v=.ref p/\Rd H p (.dK us)/\QC K w H kvs us:=by
 unfold cR at h;split at h
 .cases h;unfold RD at q;obtain⟨p,us,rfl,z,r⟩:=q;exact⟨p,us,rfl,.inl z.1,r⟩
 .rename_i n;obtain⟨p,rfl,hp⟩:=q.Rz;split at h
  .rename_i e;cases h;obtain⟨p',hp',us,hv,r⟩:=hS.obj _ _ e;rw[hp]at hp';cases hp';exact⟨p,us,rfl,.inl hv,r⟩
  .rename_i e;cases h;obtain⟨p',hp',o,us,hv,r⟩:=hS.obj _ _ e;rw[hp]at hp';cases hp';exact⟨p,us,rfl,.inr ⟨o,hv⟩,r⟩
  .cases h
 .cases h
theorem QC.get(k:KD):∀{ds:List (KD×D)}{us:List (Key×V)},QC K w H ds us->(∀d,gq ds k=some d->∃v,i6 us k=some v/\RD K w H d v)/\(gq ds k=none->i6 us k=none)
 |[],us,q=>by
  rw[q.nil_inv]
  exact⟨λd h=>(by cases h),λ_=>rfl⟩
 |(j,d)::ds,_,q=>by
  obtain⟨v,r,rfl,p,t⟩:=q.cons_inv;by_cases hj:j=k
  .have e1:gq ((j,d)::ds) k=some d:=by unfold gq;rw[Q6];simp[hj]
   have e2:i6 ((j,v)::r) k=some v:=by unfold i6;rw[Q6];simp[hj]
   rw[e1,e2]
   exact⟨λd' h=>by cases h;exact⟨v,rfl,p⟩,λh=>by cases h⟩
  .have e1:gq ((j,d)::ds) k=gq ds k:=by unfold gq;rw[Q6];simp[hj]
   have e2:i6 ((j,v)::r) k=i6 r k:=by unfold i6;rw[Q6];simp[hj]
   rw[e1,e2];exact QC.get k t
def QC.aaN{ds:List (KD×D)}{us:List (Key×V)}(q:QC K w H ds us)(k:KD):(i6 us k).isSome=(gq ds k).isSome:=by
 obtain⟨h1,h2⟩:=q.get k;cases e:gq ds k with
 |none=>rw[h2 e];rfl
 |some d=>obtain⟨v,hv,_⟩:=h1 d e;rw[hv];rfl
end
section
variable{X:Cx}{E:XK}
def KC{f:Value->Value->Sem Value}{o o1 o2:Pz->D->D->Option D}(h1:QS X f (xO X.K E o1))(h2:QS X f (xO X.K E o2))(h:∀S x y,o S x y=o1 S x y\/o S x y=o2 S x y):QS X f (xO X.K E o):=by
 rintro pins s σ H x y v u Q I rx ry ⟨w,S,d,e,hS,qd,qe,p⟩;rcases h S d e with z|z
 .exact h1 pins s σ H x y v u Q I rx ry ⟨w,S,d,e,hS,qd,qe,z▸p⟩
 .exact h2 pins s σ H x y v u Q I rx ry ⟨w,S,d,e,hS,qd,qe,z▸p⟩
def KG{o o1 o2:Pz->D->D->Option D}(h1:UL X (xO X.K E o1))(h2:UL X (xO X.K E o2))(h:∀S x y,o S x y=o1 S x y\/o S x y=o2 S x y):UL X (xO X.K E o):=by
 rintro va sl pins s σ H x y v u Q I rx ry ⟨w,S,d,e,hS,qd,qe,p⟩ hsub;rcases h S d e with z|z
 .exact h1 va sl pins s σ H x y v u Q I rx ry ⟨w,S,d,e,hS,qd,qe,z▸p⟩ hsub
 .exact h2 va sl pins s σ H x y v u Q I rx ry ⟨w,S,d,e,hS,qd,qe,z▸p⟩ hsub
def PQ.hu{k:Nat}{A:Around}(r:PQ k A):A.units+1<cLine:=by have:=r.un;omega
def FW(neg:Bool):Pz->D->D->Option D:=λS x y=>match cR S y,lS x with
 |some kvs,some k=>some (.bl (if neg then !(gq kvs k).isSome else (gq kvs k).isSome))
 |_,_=>none
def yI(neg:Bool):Pz->D->D->Option D:=λS x y=>if (cc S y).isSome then oIn neg S x y else FW neg S x y
def IL{k:Nat}(hr:PQ k X.A):QS X (compareOp .In) (xO X.K E (FW false)):=by
 rintro pins s σ H x y v u Q I rx ry ⟨w,S,d,e,hS,qd,qe,p⟩;obtain⟨z,hz,p⟩:=p.of;unfold FW at hz;split at hz
 .rename_i kvs k e1 e2;cases hz;obtain⟨pp,us,rfl,rd,rk⟩:=mW hS qe e1;cases ry;have ex:=lT qd e2;subst ex;refine LF (PQ.hu hr) I (.inl ⟨us,k,rd,rfl,rfl⟩) rx λs' I'=>⟨.bl _,H,I',rfl,?_⟩;rw[rk.aaN k];exact p.ret RD.Tv hS
 .cases hz
def IM{k:Nat}(hr:PQ k X.A):QS X (compareOp .In) (xO X.K E (yI false)):=KC Di (IL hr) λS x y=>by
 unfold yI;cases (cc S y).isSome with
 |true=>exact .inl rfl
 |false=>exact .inr rfl
def FX:Pz->D->D->Option D:=λS x y=>match cR S x,lS y with
 |some kvs,some k=>gq kvs k
 |_,_=>none
def gW:Pz->D->D->Option D:=λS x y=>if (cc S x).isSome then QV S x y else FX S x y
def IP{k:Nat}(hr:PQ k X.A):UL X (xO X.K E FX):=by
 rintro va sl pins s σ H x y v u Q I rx ry ⟨w,S,d,e,hS,qd,qe,p⟩ hsub;obtain⟨z,hz,p⟩:=p.of;unfold FX at hz;split at hz
 .rename_i kvs k e1 e2;obtain⟨pp,us,rfl,rd,rk⟩:=mW hS qd e1;cases rx;have ey:=lT qe e2;subst ey;obtain⟨vv,hv,rv⟩:=(rk.get k).1 z hz;have g:Bw H pp (kV k) (some vv):=.inl ⟨us,k,rd,rfl,hv.symm⟩;have hT:=v7 I g;have h2:wpAny (model X.prog X.w) X.A (getItem (.ref pp) u) (EP X pins σ Q) X.xe s:=By (PQ.hu hr) I g ry λw' s' I' r'=>⟨vv,H,I',r',p.ret rv hS⟩;unfold subscriptTail;refine Y6 ?_;rw[getitemInPython_of_ne hT.not_modules];refine Y6 (wpAny_specialOf hT PySem.F.slot_dict_getitem.lookup ?_)
  have fin:wpAny (model X.prog X.w) X.A (subscripted sl false (.ref pp) u) (λr s₃=>wpAny (model X.prog X.w) X.A (letTemporaryGo va (.ref pp) r >>= λ_=>pure r) (EP X pins σ Q) X.xe s₃) X.xe s:=by rw[hsub];exact wpAny_operating (W3 h2 (λr s₃ h₃=>Y6 (wpAny_letTemporaryGo (Yg h₃))) λ_ _ x=>x)
  first|exact Yg (Y6 fin)|exact Y6 (Yg (Y6 fin))|exact Y6 fin
 .cases hz
def mX{k:Nat}(hr:PQ k X.A):UL X (xO X.K E gW):=KG cG (IP hr) λS x y=>by
 unfold gW;cases (cc S x).isSome with
 |true=>exact .inl rfl
 |false=>exact .inr rfl
def sh:Pz->D->D->D->Option Pz
 |S,.ref n,y,v=>match S[n]? with
  |some (.PN kvs)=>match lS y with
   |some k=>if kvs.length<sizeLine then some (S.set n (.PN (putD kvs k v))) else none
   |none=>none
  |_=>none
 |_,_,_,_=>none
def nW(S:Pz):D->Bool
 |.ref n=>match S[n]? with
  |some (.PN _)=>true
  |_=>false
 |_=>false
def g0:Pz->D->D->D->Option Pz:=λS x y v=>if nW S x then sh S x y v else Dn S x y v
def FY{k:Nat}(hr:PQ k X.A):tU X (xS X.K sh):=by
 rintro pins s σ H o i v ov iv u Q I ro ri ru ⟨w,S,x,y,z,S',hS,qx,qy,qz,hf,kk⟩;unfold sh at hf;split at hf
 .rename_i n;split at hf
  .rename_i kvs hn;split at hf
   .rename_i ky hk;split at hf
    .rename_i hl;cases hf;obtain⟨pp,rfl,hp⟩:=qx.Rz;cases ro;obtain⟨p',hp',us,hv,rk⟩:=hS.obj _ _ hn;rw[hp]at hp';cases hp';have ey:=lT qy hk;subst ey;have hm:pp∈w.st:=Zr hp
     have hul:us.length<sizeLine:=by rw[rk.length];exact hl
     refine Bz (PQ.hu hr) I (Fy.k hv hul) ri ru λs' I'=>⟨_,I',kk w _ (Ext.mut hm hv) (hS.mut hp hv ⟨_,aU,?_⟩)⟩;exact QC.ext (Ext.mut hm hv) _ _ (rk.put ky qz)
    .cases hf
   .cases hf
  .cases hf
 .cases hf
def KH{f f1 f2:Pz->D->D->D->Option Pz}(h1:tU X (xS X.K f1))(h2:tU X (xS X.K f2))(h:∀S x y v,f S x y v=f1 S x y v\/f S x y v=f2 S x y v):tU X (xS X.K f):=by
 rintro pins s σ H o i v ov iv u Q I ro ri ru ⟨w,S,x,y,z,S',hS,qx,qy,qz,hf,kk⟩;rcases h S x y z with e|e
 .exact h1 pins s σ H o i v ov iv u Q I ro ri ru ⟨w,S,x,y,z,S',hS,qx,qy,qz,e▸hf,kk⟩
 .exact h2 pins s σ H o i v ov iv u Q I ro ri ru ⟨w,S,x,y,z,S',hS,qx,qy,qz,e▸hf,kk⟩
def uJ{k:Nat}(hr:PQ k X.A):tU X (xS X.K g0):=KH (FY hr) Dp λS x y v=>by
 unfold g0;cases nW S x with
 |true=>exact .inl rfl
 |false=>exact .inr rfl
def fe(o a b:EM):EM:=λr S=>(o r S).bind λd S1=>if (cR S1 d).isSome=true then (a r S1).bind λy S2=>(b r S2).bind λz S3=>(match cR S3 d,lS y with
  |some kvs,some k=>R.ok ((gq kvs k).getD z) S3
  |_,_=>R.bad) else R.bad
def Aa{o e f:Expr}{m:Str}{apos cpos:Pos}(h1:attributeBase o m X.env (eval o X.env)=eval o X.env)(h2:((backTo cpos (starEach [e,f] X.env)).all (λx=>!x.1)&&(backToKw cpos (keywordEach [] X.env)).all (λx=>x.1.isSome)
  && decide (([e,f]:List Expr).length+([]:List Keyword).length+(if ([]:List Keyword).isEmpty then 0 else 1)<30))=true) (h3:(apos.endLine == cpos.line)=true) (h4:backTo cpos (starEach [e,f] X.env)=[(false,eval e X.env),(false,eval f X.env)]):M2 X o m apos e f cpos:=⟨h1,h2,h3,h4⟩
def oW{o e f:Expr}{mo ma mb:EM}{apos cpos:Pos}{k:Nat}(hr:PQ k X.A)(ho:SE X E o mo)(ha:SE X E e ma)(hb:SE X E f mb)(m:M2 X o "get" apos e f cpos):SE X E (.Call (.Attribute o "get" apos) [e,f] [] cpos) (fe mo ma mb):=⟨
 bj (C4 (PQ.hu hr) ho.out ha.out hb.out m) λs H Q zq=>QR zq λw r S hrr hS hp=>⟨w,r,S,hrr,hS,hp.bind hS λd S1 w1 H1 v x1 q1 s1 p1=>by
  cases hd:cR S1 d with
  |none=>rw[hd]at p1;exact p1.elim
  |some kvs=>
   rw[hd]at p1;obtain⟨pp,us,rfl,rd,rk⟩:=mW s1 q1 hd;refine⟨pp,rfl,.inl ⟨us,rd⟩,w1,r,S1,hrr.ext x1,s1,aF.bind (rel:=RD X.K) p1 s1 λy S2 w2 H2 vy x2 q2 s2 p2=>⟨w2,r,S2,(hrr.ext x1).ext x2,s2,aF.bind (rel:=RD X.K) p2 s2 λz S3 w3 H3 vz x3 q3 s3 p3=>?_⟩⟩;have q1':=RD.ext x3 _ _ (RD.ext x2 _ _ q1);have q2':=RD.ext x3 _ _ q2;cases hd3:cR S3 d with
   |none=>rw[hd3]at p3;exact p3.elim
   |some aas=>
    cases hk:lS y with
    |none=>rw[hd3,hk]at p3;exact p3.elim
    |some ky=>
     rw[hd3,hk]at p3;obtain⟨pp3,us3,e3,rd3,rk3⟩:=mW s3 q1' hd3;cases e3;have ey:=lT q2' hk;subst ey;refine⟨i6 us3 ky,.inl ⟨us3,ky,rd3,rfl,rfl⟩,?_⟩;obtain⟨g1,g2⟩:=rk3.get ky;have p4:aF X.K E (RD X.K) w3 H3 (R.ok ((gq aas ky).getD z) S3) Q:=p3;cases hg:gq aas ky with
     |none=>rw[hg]at p4;rw[g2 hg];exact aF.ret p4 q3 s3
     |some dd=>rw[hg]at p4;obtain⟨vd,hv,rv⟩:=g1 dd hg;rw[hv];exact aF.ret p4 rv s3⟩⟩
end
end PD
namespace L2
open PySem PySem.Spec PyProof.Rows
variable{X:Cx}{s:Shared}
def wB{P:Program}{w:World}{k:Key}{u:Value}(h:(bA P w).is k u=true):RelV (kV k) u:=by
 rw[yk]at h;cases k with
 |inl i=>obtain⟨t,e⟩:=Value.isInt_shape (k:=i) (v:=u) h;exact⟨t,e⟩
 |inr x=>obtain⟨t,e⟩:=Value.isStrOf_shape (x:=x) (v:=u) h;exact⟨t,e⟩
def KV.ZG{kvs:List (Key×V)}{vs:List (Key×Value)}(r:KV kvs vs){i:Nat}{k:Key}{x:V}(h:kvs[i]?=some (k,x)):∃v,vs[i]?=some (k,v)/\RelV x v:=by
 unfold KV at r
 induction r generalizing i with
 |nil=>simp at h
 |cons hd tl ih=>
  cases i with
  |zero=>
   simp at h;rename_i p q _ _;obtain⟨e,rv⟩:=hd;subst h
   exact⟨q.2,by simp;exact Mq e.symm rfl,rv⟩
  |succ i=>simpa using ih (by simpa using h)
def Iti(a:Addr)(o:Obj)(us:List (Key×V)):It:=
  ⟨λi H=>H a=some (.QX o (.dK us))/\∃kv,us[i]?=some kv,
   λi H v H'=>∃p k x,v=.ref p/\H p=none/\H'=upd H p (.tup [kV k,x])/\us[i]?=some (k,x),
   λi H=>H a=some (.QX o (.dK us))/\us.length<=i⟩
def Dz{pins:List (Addr×Obj)}{σ:St}{H:Hp}{a:Addr}{o:Obj}{us:List (Key×V)}{es:Array DictEntry}{ep:Nat}(I:Inv X pins σ H s)(h:H a=some (.QX o (.dK us)))(ed:o.data=.dict es ep):
  ∃vs,KV us vs/\s.heap.DictAt (bA X.prog X.w) a vs ep/\(a == sysModules)=false:=by
 obtain⟨e,z,hd,vs,rel,⟨o',es',ep',ho,hx,hdat,k1,k2,k3⟩⟩:s.heap.get? a=some o/\ck X.prog X.w H s.heap a (.dK us):=I.hok a _ h;rw[e]at ho;cases ho;rw[ed]at hdat;cases hdat;exact⟨vs,rel,⟨o,es,e,hx,ed,k1,k2,k3⟩,hd⟩
def uK:entryFor table "dict_itemiterator.__iter__" = some Builtin.«dict_keyiterator.__iter__»:=
 entryFor_alias (id':="dict_keyiterator.__iter__") (by kernel_rfl) (by first|rfl|decide +kernel|(unfold String.splitOn;simp +decide [String.splitOnAux])) (by decide +kernel) (by kernel_rfl)
def wC{prog:Program}{w:World}{A:Around}{E:Value->Shared->Prop}{it d:Addr}{i n ep:Nat}{ok ov:Value}{Q:Value->Shared->Prop}(hz:IsItemIter s.heap it d i n ep ok ov)(h:Q (.ref it) s):wpAny (model prog w) A (pyIter (.ref it)) Q E s:=by
 have hT:s.TypeIs (.ref it) "dict_itemiterator":=⟨_,hz,rfl⟩
 refine wpAny_pyIter_slot hT F.slot_dict_itemiterator_iter (Qa F.slot_dict_itemiterator_iter hT uK ?_ (F.args_dict_itemiterator_iter_1 _));show wpAny _ _ (ret (.ref it)) _ _ s;exact Yg ⟨_,rfl,"dict_itemiterator",_,hT,F.slot_dict_itemiterator_next.lookup,h⟩
def yJ{P:Program}{w:World}{K:Frag}{es:List Expr}{n:Nat}{pos:Pos}(it a:Addr)(o:Obj)(us:List (Key×V))(ee:Array DictEntry)(ep:Nat)(ed:o.data=.dict ee ep)(na:a≠it):
  Turn false P w K (.Tuple es n pos) (Iti a o us) [it] it (λi h=>∃ok ov,IsItemIter h it a i us.length ep ok ov) where
 mem:=by simp
 obj:=λi h ⟨ok,ov,st⟩ c hc=>by
  simp only[Yb,Yy,Zn]at hc;subst hc
  exact⟨_,st,λv z=>by cases z⟩
 keep:=λi h h' ⟨ok,ov,st⟩ q=>⟨ok,ov,q it (by simp) _ st⟩
 item:=by
  intro X hP hw hK hc i pins s σ H E I hf ⟨ok,ov,st⟩ hg;subst hP hw hK;obtain⟨ha,⟨k,x⟩,hx⟩:=hg;obtain⟨vs,rel,dd,_⟩:=Dz I ha ed;obtain⟨v,hv,rv⟩:=rel.ZG hx;have hl:=rel.length;rw[hl]at st
  have hlt:∀c∈[it],c<s.heap.objs.size:=λc hc=>by simp only[Yb,Yy,Zn]at hc;subst hc;exact Yl st
  refine wpAny_pyNext_items_item st dd hv λkey h' hk a1 a2 a3 a4=>⟨_,rfl,?_⟩
  refine wpAny_letOwnedTupleGo_items (s:={ s with heap:=h' }) a1 λh2' hz' hs'=>?_
  have up:∀c ob,c≠it->h'.get? c=some ob->h2'.get? c=some ob:=λc ob n q=>SQ.sb hs' n q
  refine⟨.ref s.heap.objs.size,_,I.TX (t':=s.toks) (h':=h2') hf hlt (wB hk) rv (λc ob hc q=>up c ob (λr=>hc (by simp[r])) (a4 c ob (λr=>hc (by simp[r])) q)) (up _ _ (Wu (Yl st)) a2),rfl,
   ⟨_,k,x,rfl,I.fresh,rfl,hx⟩,⟨_,_,by rw[hl];exact hz'⟩,uH hf hlt⟩
 done:=by
  intro X hP hw hK hc i pins s σ H E I hf ⟨ok,ov,st⟩ hg;subst hP hw hK;obtain⟨ha,hx⟩:=hg;obtain⟨vs,rel,dd,_⟩:=Dz I ha ed;have hl:=rel.length;rw[hl]at st
  exact wpAny_pyNext_items_end (I.ok.hd hc.cm) st dd (by simp;omega) λh' eb=>⟨rfl,I.SJ (t':=s.toks) (λb ob hb q=>eb b ob (λr=>hb (by simp[r])) q) hf⟩
 self:=λ_ _ _ _ _ ⟨_,_,st⟩ h=>wC st h
def Inv.freeze{pins:List (Addr×Obj)}{σ:St}{H:Hp}{a:Addr}{us:List (Key×V)}(I:Inv X pins σ H s)(h:H a=some (.dK us)):∃o,Inv X pins σ (upd H a (.QX o (.dK us))) s:=by
 obtain⟨z,hd,vs,rel,⟨o,es,ep,ho,r⟩⟩:ck X.prog X.w H s.heap a (.dK us):=I.hok a _ h
 have I2:Inv X pins σ (upd H a (.QX o (.dK us))) { s with heap:=s.heap,toks:=s.toks }:=I.write (x:=a) (e:=a) (by rw[h];exact True.intro) (.inl rfl) (λb u _ q=>q) ⟨o,ho⟩ ⟨ho,z,hd,vs,rel,⟨o,es,ep,ho,r⟩⟩
 exact⟨o,I2⟩
def IQ(td:TE):TI:=λσ H R=>td σ H λx H1=>∃a us,x=.ref a/\((H1 a=some (.dK us)/\∀o,R (Iti a o us) (upd H1 a (.QX o (.dK us)))) \/ ∃o,H1 a=some (.QX o (.dK us))/\R (Iti a o us) H1)
def DA{es:List Expr}{n:Nat}{tp:Pos}{d:Expr}{td:TE}{apos pos:Pos}(hd:PE X d td)(hbase:attributeBase d "items" X.env (eval d X.env)=eval d X.env:=by kernel_rfl)(hline:(apos.endLine == pos.line)=true:=by kernel_rfl)
  (hfew:((backTo pos (starEach [] X.env)).all (λx=>!x.1)&&(backToKw pos (keywordEach [] X.env)).all (λx=>x.1.isSome)&&decide (([]:List Expr).length+([]:List Keyword).length+(if ([]:List Keyword).isEmpty then 0 else 1)<30))=true:=by kernel_rfl):
  PI X (.Tuple es n tp) (.Call (.Attribute d "items" apos) [] [] pos) (IQ td):=by
 intro pins s σ H R I h;refine M9 (T:="dict") (id:="dict.items") hbase hfew hline F.plainAttrs_dict F.slot_dict_items F.type_dict_items (PX (hd pins s σ H _ I h) λu s1 zq=>?_)
 obtain⟨x,H1,I1,rx,a,us,ex,q1⟩:=zq;subst ex;obtain rfl:u=Value.ref a:=rx
 have main:∀(H2:Hp)(o:Obj),Inv X pins σ H2 s1->H2 a=some (.QX o (.dK us))->R (Iti a o us) H2->s1.TypeIs (.ref a) "dict"/\(∀b,Value.ref a=.ref b->∃ob,s1.heap.get? b=some ob/\ob.dict=none)/\
   wpAny (model X.prog X.w) X.A (callWith pos (.builtin "dict.items") [.ref a] (backTo pos (starEach [] X.env)) []) (λv s2=>wpAny (model X.prog X.w) X.A (pyIter v) (PIE X pins σ (.Tuple es n tp) R) X.xe s2) X.xe s1:=λH2 o I2 hH2 q=>by
  obtain⟨t1,t2,t3⟩:=yx I2 (a:=a) (.inl ⟨us,.inr ⟨o,hH2⟩⟩);refine⟨t1,t2,?_⟩;obtain⟨eo,z,hdd,vs,rel,⟨o',ee,ep,ho,hx,hdat,k1,k2,k3⟩⟩:s1.heap.get? a=some o/\ck X.prog X.w H2 s1.heap a (.dK us):=I2.hok a _ hH2;rw[eo]at ho;cases ho;have dat:s1.heap.DictAt (bA X.prog X.w) a vs ep:=⟨o,ee,eo,hx,hdat,k1,k2,k3⟩;show wpAny _ _ (callWith pos (.builtin "dict.items") [.ref a] [] []) _ _ s1
  refine method_meetsIn F.slot_dict_items F.entry_dict_items rfl (PySem.evalArgs_none ⟨rfl,t1,F.args_dict_items_1 _,_,meets_dict_items (bA X.prog X.w) a t3,⟨vs,dat.dictOf⟩,?_⟩)
  have I3:Inv X pins σ H2 { s1 with heap:=s1.heap.push { cls:=.type "dict_items",data:=.fields #[.ref a] } }:=I2.kept (t':=s1.toks) λb u e=>Y7 _ e
  refine wpAny_pyIter_items (s:={ s1 with heap:=s1.heap.push { cls:=.type "dict_items",data:=.fields #[.ref a] } }) ⟨_,Ye _ rfl,rfl,rfl⟩ (dat.push _) ?_
  have hl:=rel.length;have la:a<s1.heap.objs.size:=Yl eo
  have sz:({ s1 with heap:=s1.heap.push { cls:=.type "dict_items",data:=.fields #[.ref a] } }:Shared).heap.objs.size=s1.heap.objs.size+1:=Z2 ..
  refine⟨_,[_],_,_,H2,rfl,I3.kept (t':=s1.toks) λb u e=>Y7 _ e,yJ _ a o us ee ep hdat (by rw[sz];exact Yv (We la)),⟨.none,.none,by rw[hl];exact Ye _ rfl⟩,λc hc=>?_,q⟩
  have ec:c=({ s1 with heap:=s1.heap.push { cls:=.type "dict_items",data:=.fields #[.ref a] } }:Shared).heap.objs.size:=by simpa using hc
  subst ec;exact I3.Tq (Yh _) (I3.hok.fresh (Yh _))
 rcases q1 with⟨hH,q⟩|⟨o,hH,q⟩
 .obtain⟨o,I2⟩:=I1.freeze hH;exact main _ o I2 aU (q o)
 .exact main _ o I1 hH q
end L2
namespace PD
open PySem PySem.Spec PyProof.Rows L2
variable{w:Wd}{H:Hp}
def kD:KD->D
 |.inl i=>.int i
 |.inr x=>.str x
def pairD(kv:KD×D):D:=.tup [kD kv.1,kv.2]
def dY(m:EM):AM:=λr S=>(m r S).bind λd S1=>match d with
 |.ref n=>match S1[n]? with
  |some (.PN kvs)=>.ok (kvs.map pairD) (S1.set n (.P0 kvs))
  |some (.P0 kvs)=>.ok (kvs.map pairD) S1
  |_=>.bad
 |_=>.bad
theorem QC.ZG{K:Frag}:∀{ds:List (KD×D)}{us:List (Key×V)}{i:Nat}{k:KD}{d:D},QC K w H ds us->ds[i]?=some (k,d)->∃v,us[i]?=some (k,v)/\RD K w H d v
 |[],_,_,_,_,_,h=>by simp at h
 |(j,e)::ds,_,i,k,d,q,h=>by
  obtain⟨v,r,rfl,p,t⟩:=q.cons_inv;cases i with
  |zero=>simp at h;obtain⟨rfl,rfl⟩:=h;exact⟨v,by simp,p⟩
  |succ i=>simpa using QC.ZG t (by simpa using h)
def IS{K:Frag}(k:KD):RD K w H (kD k) (kV k):=by
 cases k with
 |inl i=>unfold kD RD;rfl
 |inr x=>unfold kD RD;rfl
def wD{K:Frag}{a:Addr}{o:Obj}{kvs:List (KD×D)}{us:List (Key×V)}(hst:∀w' H',Ext w H w' H'->H' a=some (.QX o (.dK us)))(rk:QC K w H kvs us):RI K w H (kvs.map pairD) (Iti a o us):=by
 intro i w' H' x';have rk':=QC.ext x' _ _ rk;have hl:=rk.length;have ha:=hst w' H' x'
 refine⟨λhi=>?_,λhi=>⟨ha,by rw[Yi]at hi;omega⟩⟩
 rw[Yi]at hi
 refine⟨⟨ha,us[i]'(by omega),Yk _⟩,λv Xb y=>?_⟩
 obtain⟨p,k,x,rfl,hp,rfl,hx⟩:=y
 obtain⟨v2,e2,r2⟩:=rk'.ZG (i:=i) (k:=kvs[i].1) (d:=kvs[i].2) (by rw[Yk hi])
 rw[hx]at e2;cases e2
 refine⟨.inr ⟨p,_,hp,rfl⟩,λS hS=>⟨pairD kvs[i],by simp[hi],?_⟩⟩
 unfold pairD RD;refine⟨p,[kV kvs[i].1,x],rfl,.inl ⟨aU,hS.fresh hp⟩,?_⟩;unfold PJ PJ PJ;exact⟨_,_,rfl,IS _,_,_,rfl,RD.ext (Ext.new hp) _ _ r2,rfl⟩
section
variable{X:Cx}{E:XK}
theorem jR{es:List Expr}{n:Nat}{tp:Pos}{d:Expr}{md:EM}{apos pos:Pos}(ha:SE X E d md)(hbase:attributeBase d "items" X.env (eval d X.env)=eval d X.env:=by kernel_rfl)(hline:(apos.endLine == pos.line)=true:=by kernel_rfl)
  (hfew:((backTo pos (starEach [] X.env)).all (λx=>!x.1)&&(backToKw pos (keywordEach [] X.env)).all (λx=>x.1.isSome)&&decide (([]:List Expr).length+([]:List Keyword).length+(if ([]:List Keyword).isEmpty then 0 else 1)<30))=true:=by kernel_rfl):
  SI X E (.Tuple es n tp) (.Call (.Attribute d "items" apos) [] [] pos) (dY md):=⟨
 eI (DA ha.out hbase hline hfew) λs H Q zq=>QR zq λw r S hr hS hp=>⟨w,r,S,hr,hS,hp.bind hS λd S1 w1 H1 v x1 q1 s1 p1=>by
  cases d with
  |ref m=>
   obtain⟨pp,rfl,hp⟩:=q1.Rz;have hm:pp∈w1.st:=Zr hp;cases e:S1[m]? with
   |none=>simp only[e]at p1;exact p1.elim
   |some ob=>
    obtain⟨p',hp',ro⟩:=s1.obj _ _ e;rw[hp]at hp';cases hp';cases ob with
    |PN kvs=>
     simp only[e]at p1;obtain⟨us,hv,rk⟩:=ro;refine⟨pp,us,rfl,.inl ⟨hv,λo=>?_⟩⟩;have rk':=QC.ext (Ext.mut hm hv (o:=.QX o (.dK us))) _ _ rk;exact aF.at p1 (Ext.mut hm hv) (wD (λw' H' x'=>x'.QX _ _ _ aU) rk') (s1.mut hp hv ⟨o,us,aU,rk'⟩)
    |P0 kvs=>
     simp only[e]at p1;obtain⟨o,us,hv,rk⟩:=ro;exact⟨pp,us,rfl,.inr ⟨o,hv,aF.ret p1 (wD (λw' H' x'=>x'.QX _ _ _ hv) rk) s1⟩⟩
    |lst xs=>simp only[e]at p1;exact p1.elim
    |ins c fs=>simp only[e]at p1;exact p1.elim
    |RP xs=>simp only[e]at p1;exact p1.elim
  |_=>exact p1.elim⟩⟩
end
def TupAt(K:Frag)(mg:Str->Option Value)(x:Str)(is:List Int):Prop:=∃a,mg x=some (.ref a)/\uc K a (is.map .int)
section
variable{X:Cx}{E:XK}
theorem rdi{K:Frag}:∀is:List Int,PJ K w H (is.map .int) (is.map .int)
 |[]=>.nil
 |i::is=>.cons (by unfold RD;rfl) (rdi is)
def Ab{x:Str}{is:List Int}{pos:Pos}(h:TupAt X.K X.mg x is)(hg:Gl X x)(hd:(x == ("__debug__":Str))=false:=by decide +kernel):SE X E (.Name x pos) (eC (.tup (is.map .int))):=by
 obtain⟨a,hm,k⟩:=h
 exact ud (gn hg hm (v:=.ref a) rfl hd) λ_ _=>by unfold RD;exact⟨a,_,rfl,.inr k,rdi is⟩
end
def FZ{K:Frag}{h:Heap}{mg:Str->Option Value}(X:K.In h)(G:h.Ns mainGlobals mg){x:Str}{a:Addr}{od:Option Addr}{n:Nat}{sl:Array (Option Value)}{i j:Int}{t1 t2:Tok}(hn:nsIn K mainGlobals x=some (some (.ref a)))(hl:K.lookup a=some ⟨.type "tuple",od,.seq #[.int i t1,.int j t2] n,sl⟩):TupAt K mg x [i,j]:=
 ⟨a,Yd X G hn,_,_,n,hl,rfl,rfl,by show 2<=sizeLine;decide,.cons ⟨t1,rfl⟩ (.cons ⟨t2,rfl⟩ .nil)⟩
section
variable{K:Frag}{w:Wd}{H:Hp}
def Mv.adopt{p:Addr}{o:HO}(hh:p∈w.hid):Mv w H ((w.QK p).add p) (upd H p o):=
  ⟨λn a h=>by
      show(w.st++[p])[n]?=some a
      rw[Z1 (Yc.mp h).1];exact h,
   λa u h=>⟨by rw[aQ (λz:a=p=>h.2.2 (z▸hh))];exact h.1,λz=>by
      rcases Yx.mp z with z|z
      · exact h.2.1 z
      · exact h.2.2 (by rw[Yq.mp z];exact hh),λz=>h.2.2 (Wd.QD z).1⟩⟩
theorem RS.adopt{p:Addr}{o:HO}{so:SO}{S:Pz}(s:RS K w H S)(hh:p∈w.hid)(r:RO K ((w.QK p).add p) (upd H p o) p so):RS K ((w.QK p).add p) (upd H p o) (S++[so]):=by
 have np:=(s.hid p hh).1
 refine⟨?_,by simp[Wd.add,Wd.QK,s.len],λn so' e=>?_,λa ha=>?_⟩
 .show(w.st++[p]).Nodup;rw[List.nodup_append]
  exact⟨s.nd,by simp,λa ha b hb=>by
   have:b=p:=by simpa using hb
   subst this;rintro rfl
   exact np ha⟩
 .by_cases hn:n<S.length
  .rw[Z1 hn]at e;obtain⟨a,ha,q⟩:=s.obj n so' e;have ne:a≠p:=λz=>np (z▸Zr ha)
   exact⟨a,(Mv.adopt (H:=H) (o:=o) hh).st n a ha,q.mv (Mv.adopt hh) λu z=>by rw[aQ ne];exact z⟩
  .have hn':n=S.length:=by have:=(Yc.mp e).1;simp at this;omega
   subst hn';simp at e;subst e
   exact⟨p,by show(w.st++[p])[S.length]?=some p;rw[<- s.len];simp,r⟩
 .obtain⟨h1,h2⟩:=Wd.QD ha;obtain⟨h3,u,e⟩:=s.hid a h1
  refine⟨?_,u,by rw[aQ h2];exact e⟩
  show a∉w.st++[p];intro z;rcases Yx.mp z with z|z
  .exact h3 z
  .exact h2 (by simpa using z)
end
section
variable{X:Cx}{E:XK}{pos:Pos}
def uL{keys:List (Option Expr)}{values:List Expr}{ms:List (EM×EM)}(h:SPs X E pos keys values ms)(hall:keys.all (·.isSome)=true:=by kernel_rfl)(hl:keys.length=values.length:=by kernel_rfl)(h0:keys≠[]:=by intro z;cases z)(h15:keys.length<=15:=by decide +kernel):
  SE X E (.Dict keys values pos) (nR ms):=⟨
 bj (FA h.out hall hl h0 h15) λs H Q q=>BF (keys:=keys) (values:=values) (m:=nR ms) (fin:=λkvs S1=>R.ok (D.ref S1.length) (S1++[SO.PN (pO [] kvs)])) (λr S=>rfl) (λkvs us w0 w H0 H S0 S p hp s0 s x hh rk p1=>by
  have hpn:=(s.hid p hh).1
  refine aF.at p1 (w1:=(w.QK p).add p) ⟨λa o h n=>by rw[aQ (aW h hp)];exact x.keep a o h n,?_,λa h=>Z6.mpr ⟨x.hid a h,Yr λz=>(s0.fresh hp).2 (z▸h)⟩,λa h=>x.hnew a (Wd.QD h).1,λa o u h=>by rw[aQ (aW h hp)];exact x.QX a o u h⟩ ?_ (s.adopt hh ⟨_,aU,QC.mv (Mv.adopt hh) _ _ rk⟩)
  .obtain⟨l,e,f⟩:=x.sub
   exact⟨l++[p],by show w.st++[p]=_;rw[e,Zv],λa ha=>(Yx.mp ha).elim (f a) λz=>by rw[Yq.mp z];exact hp⟩
  .unfold RD
   exact⟨p,rfl,by show(w.st++[p])[S.length]?=some p;rw[<- s.len];simp⟩) q⟩
def Ac:EM:=λ_ S=>.ok (.ref S.length) (S++[.PN []])
def uM:SE X E (.Dict [] [] pos) Ac:=⟨
 bj C0 λs H Q zq=>QR zq λw r S hr hS hp=>λp hpn=>aF.at hp (Ext.alloc hpn) hS.Sx (hS.alloc hpn ⟨[],aU,QC.nil⟩)⟩
end
def cX:Int->List Int->Int
 |m,[]=>m
 |m,x::r=>cX (if x<m then x else m) r
theorem lV:∀(l:List Int)(m:Int),(cX m l<=m/\∀x∈l,cX m l<=x)/\(cX m l=m\/cX m l∈l)
 |[],m=>⟨⟨Us _,λx h=>nomatch h⟩,.inl rfl⟩
 |x::r,m=>by
  obtain⟨⟨h1,h2⟩,h3⟩:=lV r (if x<m then x else m)
  show(cX (if x<m then x else m) r<=m/\∀y∈x::r,cX (if x<m then x else m) r<=y)/\(cX (if x<m then x else m) r=m\/cX (if x<m then x else m) r∈x::r)
  generalize cX (if x<m then x else m) r=z at *
  by_cases hx:x<m
  .rw[Y9 hx]at h1 h3
   refine⟨⟨by omega,λy hy=>?_⟩,.inr ?_⟩
   .rcases Yb.mp hy with e|hy
    .rw[e];exact h1
    .exact h2 y hy
   .rcases h3 with e|h3
    .rw[e];exact .head _
    .exact .tail _ h3
  .rw[Yj hx]at h1 h3;refine⟨⟨h1,λy hy=>?_⟩,?_⟩
   .rcases Yb.mp hy with e|hy
    .rw[e];omega
    .exact h2 y hy
   .rcases h3 with e|h3
    .exact .inl e
    .exact .inr (.tail _ h3)
def nX(S:Pz):D->Option (List D)
 |.lst a=>some a
 |.ref n=>match S[n]? with
  |some (.lst a)=>some a
  |_=>none
 |_=>none
def DB:Pz->List D->Option D
 |S,[d]=>match nX S d with
  |some a=>match intsOf a with
   |some (n::ns)=>some (.int (cX n ns))
   |_=>none
  |none=>none
 |_,_=>none
def DC:Pz->List D->Option D:=λS ds=>if ds.length=1 then DB S ds else uy S ds
section
variable{X:Cx}{E:XK}
def rm{prog:Program}{w:World}{A:Around}{Ex:Value->Shared->Prop}{s:Shared}{l:Addr}{vs:List Value}{ns:List Int}{Q:Value->Shared->Prop}(hh:A.handled=none)(hl:s.heap.IsList l vs.toArray)(hi:IntsAre vs ns)(hne:0<ns.length)
  (h:∀h' M (t:Tok) tk,(∀b o,s.heap.get? b=some o->h'.get? b=some o)->M∈ns->(∀a,a∈ns->M<=a)->Q (.int M t) { s with heap:=h',toks:=tk }):wpAny (model prog w) A (call (.builtin "min") [.ref l]) Q Ex s:=by
 obtain⟨xs,e⟩:=hi.allInts.items
 have hns:ns=xs.toList.map (·.1):=(by rw[<- hi.numsOf,<- nums_intItems,<- e])
 have hsz:0<xs.size:=(by have h3:=hne;rw[hns,Yi,W0]at h3;exact h3)
 rw[e]at hl;refine min_intList hh hl hsz λv h' tk hv hk=>?_;obtain⟨t,rfl⟩:=intItems_at hv;obtain⟨h1,h2⟩:=argBest_lt (numAt xs) (xs.size-1);refine h _ _ t tk hk ?_ λa ha=>?_
 .rw[hns,numAt_eq];exact getD_mem (by rw[Yi,W0];omega)
 .rw[hns]at ha;obtain⟨j,hj,rfl⟩:=mem_getD ha;rw[Yi,W0]at hj;rw[<- numAt_eq];exact h2 j (by omega)
def pS{K:Frag}{S:Pz}{d:D}{v:V}{a:List D}(s:RS K w H S)(q:RD K w H d v)(h:nX S d=some a):∃p vs,v=.ref p/\Rm K H p vs/\PJ K w H a vs:=by
 unfold nX at h;split at h
 .cases h;obtain⟨p,vs,e,z,r⟩:=q.R6;exact⟨p,vs,e,Rm.of z.1,r⟩
 .rename_i n;split at h
  .rename_i e;cases h;obtain⟨p,rfl,hp⟩:=q.Rz;obtain⟨p',hp',vs,hv,r⟩:=s.obj _ _ e;rw[hp]at hp';cases hp';exact⟨p,vs,rfl,Rm.of hv,r⟩
  .cases h
 .cases h
def F0(hc:X.calm=true):bT X (.builtin "min") (xC X.K E DB):=by
 rintro pins s σ H xs us Q I r ⟨w,S,ds,hS,qs,p⟩;obtain⟨z,hz,p'⟩:=p.of;clear p;unfold DB at hz;split at hz
 .rename_i d;obtain⟨v,rfl,q⟩:=qs.PK;split at hz
  .rename_i a ha;split at hz
   .rename_i n ns hns;cases hz;obtain⟨pa,vs,rfl,sq,ra⟩:=pS hS q ha;obtain⟨u,rfl,rx⟩:=Wi r;cases rx;obtain⟨its,r',pl,hz⟩:=I.list sq
    refine rm (I.ok.hd hc) pl.isList (iK ra r' hns) (by simp) λh' M t tk hk h1 h2=>?_
    have eM:M=cX n ns:=by
     obtain⟨⟨a1,a2⟩,a3⟩:=lV ns n
     have b1:=h2 (cX n ns) (by rcases a3 with e|h;rw[e];exact .head _;exact .tail _ h)
     have b2:cX n ns<=M:=by
      rcases Yb.mp h1 with e|h
      .rw[e];exact a1
      .exact a2 M h
     omega
    subst eM
    exact⟨.int _,H,I.kept (t':=tk) hk,⟨t,rfl⟩,p'.ret (by unfold RD;rfl) hS⟩
   .cases hz
  .cases hz
 .cases hz
def Hg{f:Value}{g g1 g2:Pz->List D->Option D}(h1:bT X f (xC X.K E g1))(h2:bT X f (xC X.K E g2))(h:∀S ds,g S ds=g1 S ds\/g S ds=g2 S ds):bT X f (xC X.K E g):=by
 rintro pins s σ H xs us Q I r ⟨w,S,ds,hS,qs,p⟩;rcases h S ds with z|z
 .exact h1 pins s σ H xs us Q I r ⟨w,S,ds,hS,qs,z▸p⟩
 .exact h2 pins s σ H xs us Q I r ⟨w,S,ds,hS,qs,z▸p⟩
def F1(hc:X.calm=true):bT X (.builtin "min") (xC X.K E DC):=Hg (F0 hc) (yC hc) λS ds=>by
 unfold DC;split
 .exact .inl rfl
 .exact .inr rfl
end
end PD
namespace L2
open PySem PySem.Spec PyProof.Rows
variable{c:Int}
def IT(lo c:Int)(n:Nat):It:=⟨λi _=>i<n,λi H x H'=>H'=H/\x=.int (lo+i*c),λi _=>n<=i⟩
def wF{P:Program}{w:World}{K:Frag}{tg:Expr}(it:Addr)(lo c:Int)(n:Nat):Turn false P w K tg (IT lo c n) [it] it (λi h=>IsRangeIter h it (lo+(i:Nat)*c) ((n:Int)-(i:Nat)) c) where
 mem:=by simp
 obj:=λi h st b hb=>by
  have e:b=it:=by simpa using hb
  subst e
  exact⟨_,st,λv z=>by
   have z':Data.fields _=Data.cell v:=z
   cases z'⟩
 keep:=λi h h' st k=>k it (by simp) _ st
 item:=by
  intro X hP hw hK hc i pins s σ H E I hf st hg;subst hP hw hK
  obtain⟨f0,f1,f2,f3,f4,f5⟩:=hf it (by simp)
  have W:=Walks.range (prog:=X.prog) (w:=X.w) (I.ok.hd hc.cm) it lo c n;refine W.item i s _ _ hg st λv h' tk hv st' kk=>?_;obtain⟨t,rfl⟩:=hv
  have I1:Inv X pins σ H { s with heap:=h',toks:=tk }:=I.turned (λb o hb e=>kk b o (by simpa using hb) e) f0 f1 f3 f4 f5
  exact⟨_,rfl,rL (s:={ s with heap:=h',toks:=tk }) (n:="range_iterator") st' rfl rfl (by decide) ⟨.int (lo+i*c),H,I1,⟨t,rfl⟩,⟨rfl,rfl⟩,st',λb hb=>(hf b hb).1⟩⟩
 done:=by
  intro X hP hw hK hc i pins s σ H E I hf st hg;subst hP hw hK
  obtain⟨f0,f1,f2,f3,f4,f5⟩:=hf it (by simp)
  exact wpAny_pyNext_range_end (I.ok.hd hc.cm) st (by have:n<=i:=hg;omega) λh' eb=>⟨rfl,I.turned (t':=s.toks) (λb o hb e=>eb b o hb e) f0 f1 f3 f4 f5⟩
 self:=λ_ _ _ _ _ st h=>wpAny_pyIter_rangeiter st h
def lW{a b:Int}(hc:c≠0)(h1:-(2^61)<=a)(h2:a<2^61)(h3:-(2^61)<=b)(h4:b<2^61):0<=Builtin.Range.rangeSize a b c/\Builtin.Range.rangeSize a b c<=2^62:=by
 unfold Builtin.Range.rangeSize;split
 .rename_i hp;split
  .have e1:=Int.ediv_le_self (a:=b-a-1) c (by omega)
   have e2:=Int.ediv_nonneg (a:=b-a-1) (b:=c) (by omega) (by omega)
   omega
  .omega
 .split
  .have e1:=Int.ediv_le_self (a:=a-b-1) (-c) (by omega)
   have e2:=Int.ediv_nonneg (a:=a-b-1) (b:=-c) (by omega) (by omega)
   omega
  .omega
def wG{a b:Int}(hc:c≠0)(hc':c.natAbs<1073741824)(h1:-(2^61)<=a)(h2:a<2^61)(h3:-(2^61)<=b)(h4:b<2^61):Builtin.Range.small a b c=true:=by
 have hb:=lW (b:=b) hc h1 h2 h3 h4;unfold Builtin.Range.small;generalize Builtin.Range.rangeSize a b c=z at hb ⊢;simp only[Builtin.Range.rangeFitsLong,Z5,Uc,Q4,Vc]
 refine⟨⟨⟨⟨⟨by omega,by omega⟩,by omega,by omega⟩,by omega,by omega⟩,by omega,by omega⟩,.inr ?_⟩
 split<;>simp only[Z5,Q4]<;>omega
section
variable{X:Cx}{tg:Expr}
def BM{pins:List (Addr×Obj)}{σ:St}{H:Hp}{s:Shared}{R:It->Hp->Prop}{E:Value->Shared->Prop}{lo hi:Int}{t u v:Tok}{tk:Nat}(I:Inv X pins σ H s)(hc:c≠0)(hc':c.natAbs<1073741824)(h1:-(2^61)<=lo)(h2:lo<2^61)(h3:-(2^61)<=hi)(h4:hi<2^61)
  (q:R (IT lo c (Builtin.Range.rangeSize lo hi c).toNat) H):wpAny (model X.prog X.w) X.A (pyIter (.ref s.heap.objs.size)) (PIE X pins σ tg R) E { s with heap:=s.heap.push { cls:=.type "range",data:=.fields #[.int lo t,.int hi u,.int c v] },toks:=tk }:=by
 refine wpAny_pyIter_range (IsRange.new ..) (wG hc hc' h1 h2 h3 h4) ?_
 have I1:Inv X pins σ H { s with heap:=s.heap.push { cls:=.type "range",data:=.fields #[.int lo t,.int hi u,.int c v] },toks:=tk }:=I.kept λb o e=>Y7 _ e
 refine⟨(s.heap.push { cls:=.type "range",data:=.fields #[.int lo t,.int hi u,.int c v] }).objs.size,[(s.heap.push { cls:=.type "range",data:=.fields #[.int lo t,.int hi u,.int c v] }).objs.size],_,_,H,rfl,
  I1.kept (t':=tk) λb o e=>Y7 _ e,wF _ lo c (Builtin.Range.rangeSize lo hi c).toNat,?_,λb hb=>?_,q⟩
 .have hb:=lW (b:=hi) hc h1 h2 h3 h4
  have e1:lo+((0:Nat):Int)*c=lo:=by simp
  have e2:(((Builtin.Range.rangeSize lo hi c).toNat:Nat):Int)-((0:Nat):Int)=Builtin.Range.rangeSize lo hi c:=by omega
  show IsRangeIter _ _ (lo+((0:Nat):Int)*c) ((((Builtin.Range.rangeSize lo hi c).toNat:Nat):Int)-((0:Nat):Int)) c;rw[e1,e2];exact Ye _ rfl
 .have e:b=(s.heap.push { cls:=.type "range",data:=.fields #[.int lo t,.int hi u,.int c v] }).objs.size:=by simpa using hb
  subst e;exact I1.Tq (Yh _) (I1.hok.fresh (Yh _))
def KI(ta:TA):TI:=λσ H R=>ta σ H λvs H1=>∃i j c:Int,vs=[.int i,.int j,.int c]/\(-(2^61)<=i/\i<2^61/\-(2^61)<=j/\j<2^61/\c≠0/\c.natAbs<1073741824)/\R (IT i c (Builtin.Range.rangeSize i j c).toNat) H1
theorem BN{a b c:Expr}{ta:TA}{p pos:Pos}(hg:Gl X "range")(hm:X.mg "range" = none)(ha:PA X [a,b,c] ta)(hs:starEach [a,b,c] X.env=[(false,eval a X.env),(false,eval b X.env),(false,eval c X.env)]:=by rfl)(hs2:starEach [b,c] X.env=[(false,eval b X.env),(false,eval c X.env)]:=by rfl):
  PI X tg (.Call (.Name "range" p) [a,b,c] [] pos) (KI ta):=by
 intro pins s σ H R I h
 refine Call_ (i4 I hg hm boot_range (Q8 (PX (ha pos pins s σ H _ I h) λus s1 zq=>?_) (by rw[hs,hs2]) (by rw[hs2];rfl)))
 obtain⟨vs,H1,I1,r1,q1⟩:=zq;obtain⟨i,j,k,e,⟨q1,q2,q3,q4,q5,q6⟩,q⟩:=q1;subst e;cases r1 with
 |cons r rr=>
  cases rr with
  |cons r' rr=>
   cases rr with
   |cons r'' rr=>
    cases rr;obtain⟨t,rfl⟩:=r;obtain⟨t',rfl⟩:=r';obtain⟨t'',rfl⟩:=r'';exact call_range_3 q5 (BM I1 q5 q6 q1 q2 q3 q4 q) (.inl (Vw q6))
end
end L2
namespace PD
open PySem PySem.Spec PyProof.Rows L2
section
variable{X:Cx}{E:XK}{a b c:Expr}{pos:Pos}
def DD:List D->Option (Int×Int×Int)
 |[.int i,.int j,.int k]=>if -(2^61)<=i/\i<2^61/\-(2^61)<=j/\j<2^61/\k≠0/\k.natAbs<1073741824 then some (i,j,k) else none
 |_=>none
def DE{xs:List D}{i j k:Int}(h:DD xs=some (i,j,k)):xs=[.int i,.int j,.int k]/\(-(2^61)<=i/\i<2^61/\-(2^61)<=j/\j<2^61/\k≠0/\k.natAbs<1073741824):=by
 unfold DD at h;split at h
 .split at h
  .rename_i hb;cases h;exact⟨rfl,hb⟩
  .cases h
 .cases h
def oX(t:AM):AM:=λr S=>(t r S).bind λxs S1=>match DD xs with
 |some (i,j,k)=>.ok ((List.range (Builtin.Range.rangeSize i j k).toNat).map λ(m:Nat)=>D.int (i+m*k)) S1
 |none=>.bad
def BO{tg:Expr}{ms:AM}{p:Pos}(hg:Gl X "range")(hm:X.mg "range" = none)(ha:SA X E [a,b,c] ms)(hs:starEach [a,b,c] X.env=[(false,eval a X.env),(false,eval b X.env),(false,eval c X.env)]:=by kernel_rfl)(hs2:starEach [b,c] X.env=[(false,eval b X.env),(false,eval c X.env)]:=by kernel_rfl):SI X E tg (.Call (.Name "range" p) [a,b,c] [] pos) (oX ms):=⟨
 eI (BN hg hm ha.out hs hs2) λs H Q zq=>QR zq λw r S hr hS hp=>⟨w,r,S,hr,hS,hp.bind hS λds S1 w1 H1 vs x1 q1 s1 p1=>by
  cases hq:DD ds with
  |none=>rw[hq]at p1;exact p1.elim
  |some ijk=>
   obtain⟨i,j,k⟩:=ijk;rw[hq]at p1;obtain⟨rfl,hb⟩:=DE hq;obtain⟨v1,rest,rfl,a1,q1⟩:=q1.cons_inv;obtain⟨v2,rest,rfl,a2,q1⟩:=q1.cons_inv;obtain⟨v3,rfl,a3⟩:=q1.PK;unfold RD at a1 a2 a3;subst a1 a2 a3;refine⟨i,j,k,rfl,hb,aF.ret p1 ?_ s1⟩;intro m w' H' x'
   refine⟨λhi=>⟨show m<(Builtin.Range.rangeSize i j k).toNat by simpa using hi,λx Xb y=>?_⟩,λhi=>show(Builtin.Range.rangeSize i j k).toNat<=m by simpa using hi⟩
   obtain⟨rfl,rfl⟩:=y;refine⟨.inl rfl,λS _=>⟨.int (i+m*k),?_,?_⟩⟩
   .have:m<(Builtin.Range.rangeSize i j k).toNat:=by simpa using hi
    simp[this]
   .unfold RD;rfl⟩⟩
end
end PD
namespace PD
open PySem PySem.Spec PyProof.Rows L2
open AutoSeq1 (wpAny_loadPart')
open MeetsSeq MeetsSeq2 MeetsSeq3 SeqRoads2 PySem.SeqAt
variable{xs ys:List Int}
def ltZ:List Int->List Int->Bool
 |[],[]=>false
 |[],_::_=>true
 |_::_,[]=>false
 |x::xs,y::ys=>if x=y then ltZ xs ys else decide (x<y)
def ltZ_eq{x y:Int}(h:x=y):ltZ (x::xs) (y::ys)=ltZ xs ys:=Y9 h
def fj{x y:Int}(h:¬x=y):ltZ (x::xs) (y::ys)=decide (x<y):=Yj h
def Ad{A:Around}{s:Shared}{a b:Int}{t u:Tok}(prog:Program)(w:World){E:Value->Shared->Prop}{Q:Value->Shared->Prop}(h:Q (.bool (decide (a<b))) s):wpAny (model prog w) A (richCompare .Lt (.int a t) (.int b u)) Q E s:=
 richCompare_gives (op:=.Lt) (V6 s _ t) (V6 s _ u) F.slot_int_lt F.entry_int_lt (F.args_int_lt_2 _ _) (gives_int_lt _ _ t u) (λx=>nomatch x) h
theorem uN(l b:Addr)(items items2:Array Value)(n n2:Nat)(dd dd2:Option Addr)(sl sl2:Array (Option Value))(hx:IntsAre items.toList xs)(hy:IntsAre items2.toList ys):
  Meets (Builtin.«tuple.__lt__» ⟨[.ref l,.ref b],[]⟩)
   (λA R s=>s.heap.get? l=some { cls:=.type "tuple",dict:=dd,data:=.seq items n,slots:=sl }/\s.heap.get? b=some { cls:=.type "tuple",dict:=dd2,data:=.seq items2 n2,slots:=sl2 }/\
    R (.ok (.ret (.bool (ltZ xs ys)))) s):=
 .of_wp λprog w A R s h=>by
  obtain⟨hp,g,d,tk,os⟩:=s;obtain⟨hl,hb,h⟩:=h;have f2:=AutoSeq1.sub_tuple_tuple
  wp_walk using wpAny_loadPart' hl,wpAny_loadPart' hb,wpAny_forIn_list _ (λrest b s'=>b.1=none/\s'=⟨hp,g,d,tk,os⟩/\∃(as bs:List Value)(xs ys:List Int),rest=as.zip bs/\IntsAre as xs/\IntsAre bs ys/\as.length+items2.size=bs.length+items.size/\
   R (.ok (.ret (.bool (ltZ xs ys)))) ⟨hp,g,d,tk,os⟩) _
  case turn=>
   rintro⟨y,x⟩ rest b s' ⟨hb',rfl,as,bs,xs,ys,hz,h1,h2,hlen,hR⟩;cases h1 with
   |nil=>cases hz
   |cons a t h1=>
    cases h2 with
    |nil=>cases hz
    |cons c u h2=>
     cases hz;refine Y6 (EqAt.int_int a t c u prog w _ _ ?_);by_cases hac:a=c
     .have e:(a == c)=true:=by simp[hac]
      rw[e]
      wp_walk
      refine⟨rfl,rfl,_,_,_,_,rfl,h1,h2,by simp only[Yn]at hlen;omega,?_⟩
      rw[ltZ_eq hac]at hR;exact hR
     .have e:(a == c)=false:=by simp[hac]
      rw[fj hac]at hR;rw[e];simp only[Bool.not_false,Zi];refine Y6 (Wh ?_);refine Y6 (Ad prog w ?_)
      wp_walk
      exact⟨_,rfl,hR⟩
  case fin=>
   rintro⟨b1,b2⟩ s' ⟨hb',rfl,as,bs,xs,ys,hz,h1,h2,hlen,hR⟩;simp only at hb';subst hb'
   have e:ltZ xs ys=decide (items.size<items2.size):=by
    cases h1 with
    |nil=>
     cases h2 with
     |nil=>simp only[Zu]at hlen;unfold ltZ;exact(Yo (by omega)).symm
     |cons c u h2=>simp only[Zu,Yn]at hlen;unfold ltZ;exact(Yr (by omega)).symm
    |cons a t h1=>
     cases h2 with
     |nil=>simp only[Zu,Yn]at hlen;unfold ltZ;exact(Yo (by omega)).symm
     |cons c u h2=>cases hz
   rw[e]at hR
   wp_walk
   exact⟨_,rfl,by simpa[Builtin.Tuple.tupleCompareSizes] using hR⟩
  case h=>
   exact⟨rfl,rfl,_,_,_,_,rfl,hx,hy,by simp[U9],h⟩
def F2{A:Around}{s:Shared}{l b:Addr}{items items2:Array Value}(hl:s.heap.IsTuple l items)(hb:s.heap.IsTuple b items2)(hx:IntsAre items.toList xs)(hy:IntsAre items2.toList ys)(hu:A.units<cLine)(prog:Program)(w:World){E:Value->Shared->Prop}{Q:Value->Shared->Prop}
  (h:Q (.bool (ltZ xs ys)) s):wpAny (model prog w) A (richCompare .Lt (.ref l) (.ref b)) Q E s:=by
 obtain⟨⟨cls,dd,data,sl⟩,ho,hc,n,hd⟩:=id hl;obtain⟨⟨cls2,dd2,data2,sl2⟩,ho2,hc2,n2,hd2⟩:=id hb;simp only at hc hd hc2 hd2;subst hc hd hc2 hd2;exact richCompare_meets_room (op:=.Lt) ⟨_,ho,rfl⟩ ⟨_,ho2,rfl⟩ F.slot_tuple_lt F.entry_tuple_lt (F.args_tuple_lt_2 _ _) (uN l b items items2 n n2 dd dd2 sl sl2 hx hy)
  ⟨ho,ho2,show Value.bool (ltZ xs ys)≠Value.notImplemented/\Q (.bool (ltZ xs ys)) s from ⟨(λx=>nomatch x),h⟩⟩ hu
end PD
namespace PD
open PySem PySem.Spec PyProof.Rows L2
def BP(prog:Program)(w:World)(A:Around)(h0:Heap)(P:Nat->Value->Prop)(bt:Nat->Nat->Bool):Prop:=
 ∀(i j:Nat)(vi vj:Value)(s:Shared)(Q:Value->Shared->Prop)(E:Value->Shared->Prop),(∀b o,h0.get? b=some o->s.heap.get? b=some o)->P i vi->P j vj->Q (.bool (bt i j)) s->wpAny (model prog w) A (richCompare .Lt vi vj) Q E s
abbrev si(vs:Array Value)(c:Nat):Obj:={ cls:=.type "list",dict:=none,data:=.seq vs c,slots:=#[] }
section
variable{prog:Program}{w:World}{A:Around}{R:Result->Shared->Prop}{I:Addr}{fp wr:List Addr}{n:Nat}{P:Nat->Value->Prop}{St:Nat->Heap->Prop}{h0:Heap}{bt:Nat->Nat->Bool}{S:Addr}{kw:List (Str×Value)}
theorem BQ(W:Walks prog w A.in1 I fp wr n P St)(hcmp:BP prog w A.in1 h0 P bt)(hSf:S∉fp)(hw:∀b∈wr,h0.get? b=none)(hS0:h0.get? S=none):
  ∀(k j:Nat)(s:Shared)(vb:Value)(c:Nat),n-(j+1)=k->j+1<=n->St (j+1) s.heap->P (argBest bt j) vb->s.heap.get? S=some (si #[vb,vb] c)->(∀b o,h0.get? b=some o->s.heap.get? b=some o)->
  (∀v h' tk,P (argBest bt (n-1)) v->(∀b o,h0.get? b=some o->h'.get? b=some o)->R (.ok (.ret v)) { s with heap:=h',toks:=tk })->
  codeAny (model prog w) A (.builtin "min.loop" ⟨[.ref I,.none,.ref S],kw⟩) R s:=by
 have hSw:S∉wr:=λh=>hSf (W.sub _ h)
 have nw:∀{b:Addr}{o:Obj},h0.get? b=some o->b∉wr:=λe h=>by rw[hw _ h]at e;cases e
 have nS:∀{b:Addr}{o:Obj},h0.get? b=some o->S≠b:=λe h=>by rw[<- h,hS0]at e;cases e
 have hname:(toString "min" ++ toString ".loop":String) = "min.loop":=by decide
 intro k
 induction k with
 |zero=>
  intro j s vb c hk hj hst hPb hS hkp hR
  have hin:j+1=n:=by omega
  refine Q5 U0 ?_;rw[Zy Qb _];show wpAny _ A.in1 (seqItems? (.ref S) >>= _) _ _ s;refine Y6 (Zk hS rfl ?_);show wpAny _ A.in1 (tryCatch (pyNext (.ref I)) _ >>= _) _ _ s;refine Y6 (Qw (W.done s _ _ (hin▸hst) λh' tk hk'=>?_));show wpAny _ A.in1 (updateSeq S (λ_=>#[]) >>= _) _ _ _;refine Y6 ?_;refine V7 (hk' S _ hSw hS) rfl (Y6 (W9 (Yg ?_)))
  exact hR vb _ tk (by rw[<- hin];exact hPb) λb o e=>(Zc _ _ (nS e)).trans (hk' b o (nw e) (hkp b o e))
 |succ k ih=>
  intro j s vb c hk hj hst hPb hS hkp hR
  have hlt:j+1<n:=by omega
  refine Q5 U0 ?_;rw[Zy Qb _];show wpAny _ A.in1 (seqItems? (.ref S) >>= _) _ _ s;refine Y6 (Zk hS rfl ?_);show wpAny _ A.in1 (tryCatch (pyNext (.ref I)) _ >>= _) _ _ s;refine Y6 (Qw (W.item (j+1) s _ _ hlt hst λv h' tk hP hst' hk'=>?_));have hS':=hk' S _ hSw hS;have Tf:∀b o,h0.get? b=some o->h'.get? b=some o:=λb o e=>hk' b o (nw e) (hkp b o e);show wpAny _ A.in1 (tryCatch (holding [v,v] (richCompare .Lt v vb >>= _)) _ >>= _) _ _ _;refine Y6 (Qw (Qs (Y6 (hcmp (j+1) (argBest bt j) v vb _ _ _ Tf hP hPb ?_))));refine Y6 (Qs (Qe ?_));refine Y6 (W9 (Yg ?_));cases hb:bt (j+1) (argBest bt j) with
  |true=>
   simp only[Zi];refine Y6 ?_;refine V7 hS' rfl (Y6 (W9 ?_));rw[hname]
   refine Yg ⟨Qu Qb _,ih (j+1) _ v _ (by omega) hlt (W.frame _ _ _ hst' λb hbf o e=>(Zc _ _ (λh:S=b=>hSf (by rw[h];exact hbf))).trans e) (by simp only[argBest,hb,Zi];exact hP) (Qj _ hS' rfl)
    (λb o e=>(Zc _ _ (nS e)).trans (Tf b o e)) λv' h'' tk'' hP' hk''=>hR v' h'' tk'' hP' hk''⟩
  |false=>
   simp only[Ze,Qm];refine Y6 (W9 ?_);rw[hname]
   exact Yg ⟨Qu Qb _,ih (j+1) _ vb c (by omega) hlt hst' (by simp only[argBest,hb,Ze,Qm];exact hPb) hS' Tf λv' h'' tk'' hP' hk''=>hR v' h'' tk'' hP' hk''⟩
def pU(W:Walks prog w A.in1 I fp wr n P St)(hcmp:BP prog w A.in1 h0 P bt)(hSf:S∉fp)(hw:∀b∈wr,h0.get? b=none)(hS0:h0.get? S=none)(hn:0<n){s:Shared}{c:Nat}(hst:St 0 s.heap)
  (hS:s.heap.get? S=some (si #[] c)) (hkp:∀b o,h0.get? b=some o->s.heap.get? b=some o)
  (hR:∀v h' tk,P (argBest bt (n-1)) v->(∀b o,h0.get? b=some o->h'.get? b=some o)->R (.ok (.ret v)) { s with heap:=h',toks:=tk }):
  codeAny (model prog w) A (.builtin "min.loop" ⟨[.ref I,.none,.ref S],kw⟩) R s:=by
 have hSw:S∉wr:=λh=>hSf (W.sub _ h)
 have nw:∀{b:Addr}{o:Obj},h0.get? b=some o->b∉wr:=λe h=>by rw[hw _ h]at e;cases e
 have nS:∀{b:Addr}{o:Obj},h0.get? b=some o->S≠b:=λe h=>by rw[<- h,hS0]at e;cases e
 have hname:(toString "min" ++ toString ".loop":String) = "min.loop":=by decide
 refine Q5 U0 ?_;rw[Zy Qb _];show wpAny _ A.in1 (seqItems? (.ref S) >>= _) _ _ s;refine Y6 (Zk hS rfl ?_);show wpAny _ A.in1 (tryCatch (pyNext (.ref I)) _ >>= _) _ _ s;refine Y6 (Qw (W.item 0 s _ _ hn hst λv h' tk hP hst' hk'=>?_));have hS':=hk' S _ hSw hS;have Tf:∀b o,h0.get? b=some o->h'.get? b=some o:=λb o e=>hk' b o (nw e) (hkp b o e);show wpAny _ A.in1 (updateSeq S (λ_=>#[v,v]) >>= _) _ _ _;refine Y6 ?_;refine V7 hS' rfl ?_;rw[hname]
 exact Yg ⟨Qu Qb _,BQ W hcmp hSf hw hS0 _ 0 _ v _ rfl hn (W.frame _ _ _ hst' λb hbf o e=>(Zc _ _ (λh:S=b=>hSf (by rw[h];exact hbf))).trans e) hP (Qj _ hS' rfl)
  (λb o e=>(Zc _ _ (nS e)).trans (Tf b o e)) λv' h'' tk'' hP' hk''=>hR v' h'' tk'' hP' hk''⟩
def BR{d:Value}{nm:Str}(W:Walks prog w A.in1 I fp wr 0 P St)(hSf:S∉fp){s:Shared}{c:Nat}(hst:St 0 s.heap)(hS:s.heap.get? S=some (si #[] c))
  (hR:∀h' tk,(∀b o,b∉wr->s.heap.get? b=some o->h'.get? b=some o)->R (.ok (.ret d)) { s with heap:=h',toks:=tk }):
  codeAny (model prog w) A (.builtin "min.loop" ⟨[.ref I,.none,.ref S],[(nm,d)]⟩) R s:=by
 refine Q5 U0 ?_;rw[Zy Qb _];show wpAny _ A.in1 (seqItems? (.ref S) >>= _) _ _ s;refine Y6 (Zk hS rfl ?_);show wpAny _ A.in1 (tryCatch (pyNext (.ref I)) _ >>= _) _ _ s;refine Y6 (Qw (W.done s _ _ hst λh' tk hk'=>?_));show wpAny _ A.in1 (rule _ >>= _) _ _ _;refine Y6 (Wh (Yg ?_));exact hR h' tk hk'
theorem lX{id:String}{b:Builtin}{args:List Value}{Q:Value->Shared->Prop}{E:Value->Shared->Prop}{s:Shared}(hk:builtinKind id=none)(hp:plainId id=true)
  (hb:entryFor table id=some b) (ha:argsOk id ⟨args,kw⟩)
  (hc:wpAny (model prog w) A.in1 (b ⟨args,kw⟩) (λfin s'=>match fin with
   |.done f=>(match (Except.ok f:Result) with | .ok (.ret v)=>Q v s' | .ok _=>False | .error e=>E e s')
   |.again c'=>c'.quiet=true/\codeAny (model prog w) A c' (λr s'=>match r with | .ok (.ret v)=>Q v s' | .ok _=>False | .error e=>E e s') s') E s):
  wpAny (model prog w) A (call (.builtin id) args kw) Q E s:=by
 refine wpAny_call (codeAny_call_builtin hp hb ?_);simp only[checkBuiltinCall,hk];cases hsig:Manifest.signature? id with
 |none=>exact Yg hc
 |some sig=>
  have h2:Bind.checkArgs id sig ⟨args,kw⟩=pure ():=by simpa only[argsOk,hsig] using ha
  simp only[h2];exact Yg hc
def mY(a d:Value):argsOk "min" ⟨[a],[("default",d)]⟩:=by unfold argsOk;kernel_rfl
end
def jS(m:List Int)(l:List (List Int)):List Int:=l.foldl (λm x=>if ltZ x m=true then x else m) m
def ip:List D->Option (List (List Int))
 |[]=>some []
 |.tup a::r=>match intsOf a,ip r with
  |some n,some ns=>some (n::ns)
  |_,_=>none
 |_::_=>none
def Ae(h:Heap)(us:List Value)(ns:List (List Int)):Prop:=us.length=ns.length/\∀(i:Nat)(v:Value),us[i]?=some v->∃a items,v=.ref a/\h.IsTuple a items/\IntsAre items.toList (ns.getD i [])
theorem sj(ns:List (List Int)):∀k:Nat,k<ns.length->argBest (λi j=>ltZ (ns.getD i []) (ns.getD j [])) k<=k/\ns.getD (argBest (λi j=>ltZ (ns.getD i []) (ns.getD j [])) k) []=jS (ns.getD 0 []) ((ns.drop 1).take k)
 |0,h=>⟨Yh _,rfl⟩
 |k+1,h=>by
  obtain⟨h1,h2⟩:=sj ns k (by omega)
  have hd:(ns.drop 1)[k]?=some (ns.getD (k+1) []):=by rw[Uy,U9 1 k,Zq,Yk h];rfl
  have ht:(ns.drop 1).take (k+1)=(ns.drop 1).take k++[ns.getD (k+1) []]:=by rw[Up,hd];rfl
  rw[ht];unfold jS at h2 ⊢;rw[List.foldl_append,<- h2];simp only[argBest,Mj,List.foldl_nil];by_cases hb:ltZ (ns.getD (k+1) []) (ns.getD (argBest (λi j=>ltZ (ns.getD i []) (ns.getD j [])) k) [])=true
  .rw[Y9 hb,Y9 hb];exact⟨Yh _,rfl⟩
  .rw[Yj hb,Yj hb];exact⟨by omega,rfl⟩
theorem sk:∀{ds:List D}{ns:List Int},intsOf ds=some ns->ds=ns.map .int
 |[],ns,h=>by unfold intsOf at h;cases h;rfl
 |d::r,ns,h=>by
  unfold intsOf at h;split at h
  .rename_i e;cases e
  .rename_i b r' e;cases e;cases e:intsOf r with
   |none=>rw[e]at h;cases h
   |some cs=>rw[e]at h;cases h;rw[sk e];rfl
  .cases h
section
variable{X:Cx}{E:XK}{pins:List (Addr×Obj)}{σ:L2.St}{H:Hp}{s:Shared}
theorem pV{w:Wd}(I:Inv X pins σ H s):∀{ds:List D}{vs:List V}{us:List Value}{ns:List (List Int)},PJ X.K w H ds vs->Vals vs us->ip ds=some ns->Ae s.heap us ns/\∀(i:Nat)(v:Value),us[i]?=some v->∃y,RelV y v/\RD X.K w H (.tup ((ns.getD i []).map .int)) y
 |[],_,_,_,q,r,h=>by
  rw[q.nil_inv]at r;cases r;unfold ip at h;cases h
  exact⟨⟨rfl,λi v h=>by simp at h⟩,λi v h=>by simp at h⟩
 |d::ds,_,_,ns,q,r,h=>by
  obtain⟨y,vs,rfl,p,t⟩:=q.cons_inv;unfold ip at h;split at h
  .rename_i e;cases e
  .rename_i a r' eq;cases eq;split at h
   .rename_i n ns' e1 e2;cases h;cases r with
    |cons rv rr=>
     obtain⟨⟨l,g⟩,g2⟩:=pV I t rr e2;obtain⟨pa,xs,rfl,za,ra⟩:=p.tupI;obtain⟨its,r1,p1,_⟩:=I.tuple (dm za);cases rv
     refine⟨⟨by simp[l],λi v hv=>?_⟩,λi v hv=>?_⟩
     .cases i with
      |zero=>cases hv;exact⟨pa,its.toArray,rfl,p1,by simpa using iK ra r1 e1⟩
      |succ i=>exact g i v (by simpa using hv)
     .cases i with
      |zero=>cases hv;exact⟨.ref pa,rfl,by have:=sk e1;subst this;exact p⟩
      |succ i=>exact g2 i v (by simpa using hv)
   .cases h
  .cases h
end
section
variable{prog:Program}{w:World}{A:Around}{E:Value->Shared->Prop}{s:Shared}
def sm{h0:Heap}{us:List Value}{ns:List (List Int)}(t:Ae h0 us ns)(hu:A.units<cLine):BP prog w A h0 (λi v=>us.toArray[i]?=some v) λi j=>ltZ (ns.getD i []) (ns.getD j []):=by
 intro i j vi vj s Q E hk hi hj h
 obtain⟨a,xs,rfl,ta,ia⟩:=t.2 i vi (by simpa using hi)
 obtain⟨b,ys,rfl,tb,ib⟩:=t.2 j vj (by simpa using hj)
 exact F2 (ta.at λo e=>hk _ o e) (tb.at λo e=>hk _ o e) ia ib hu prog w h
def sr{l:Addr}{us:List Value}{bt:Nat->Nat->Bool}{kw:List (Str×Value)}{df:Option Value}{Q:Value->Shared->Prop}(hh:A.handled=none)(hl:s.heap.IsList l us.toArray)(hne:0<us.length)
  (ha:argsOk "min" ⟨[.ref l],kw⟩) (hb:Builtin.Builtins.bindParams "min" ["key","default"] 0 ⟨[],kw⟩=pure [none,df])
  (hcmp:BP prog w A.in1 s.heap (λi v=>us.toArray[i]?=some v) bt)
  (h:∀v h' tk,us[argBest bt (us.length-1)]?=some v->(∀b o,s.heap.get? b=some o->h'.get? b=some o)->Q v { s with heap:=h',toks:=tk }):
  wpAny (model prog w) A (call (.builtin "min") [.ref l] kw) Q E s:=by
 have hname:(toString "min" ++ toString ".loop":String) = "min.loop":=by decide
 have hlt:l<s.heap.objs.size:=by obtain⟨_,e,_⟩:=hl;exact Yl e
 refine lX F.kind_min F.plain_min F.entry_min ha ?_;show wpAny _ A.in1 (Builtin.Builtins.bindParams "min" ["key","default"] 0 ⟨[],kw⟩ >>= _) _ _ s
 refine Y6 (Vk hb ?_);refine Y6 (Yg ?_);refine Y6 (Qf hl ?_);refine Y6 (Zh ?_);have hsz:(s.heap.push { cls:=.type "list_iterator",data:=.fields #[.ref l,.int 0 0] }).objs.size=s.heap.objs.size+1:=Z2 ..
 have W:=Ud (prog:=prog) (w:=w) (A:=A.in1) hh s.heap.objs.size l (Yv hlt) us.toArray
 have hSf:s.heap.objs.size+1∉[s.heap.objs.size,l]:=λhm=>by
  rcases Yb.mp hm with e|hm
  .exact absurd e (Ve _)
  .rcases Yb.mp hm with e|hm
   .exact Qd _ (Vv (e▸hlt:s.heap.objs.size+1<s.heap.objs.size))
   .cases hm
 rw[hname];refine Yg ⟨Qu Qb _,?_⟩;show codeAny _ A (.builtin "min.loop" ⟨[.ref s.heap.objs.size,.none,.ref (s.heap.push _).objs.size],_⟩) _ _
 rw[hsz]
 refine pU (h0:=s.heap) W hcmp hSf (λb hb=>?_) (Qv (Ws _)) (by simpa using hne) (W.frame _ _ _ ⟨⟨_,Ye _ rfl,rfl,rfl⟩,hl.push _⟩ λb _ o e=>Y7 _ e) (by rw[<- hsz];exact Ye _ rfl)
  (λb o e=>Y7 _ (Y7 _ e)) λv h' tk hP hk=>h v h' tk (by simpa using hP) hk
 .simp at hb;rw[hb];exact Qv (Yh _)
def yK{l:Addr}{d:Value}{Q:Value->Shared->Prop}(hh:A.handled=none)(hl:s.heap.IsList l #[])
  (h:∀h' tk,(∀b o,s.heap.get? b=some o->h'.get? b=some o)->Q d { s with heap:=h',toks:=tk }):
  wpAny (model prog w) A (call (.builtin "min") [.ref l] [("default",d)]) Q E s:=by
 have hname:(toString "min" ++ toString ".loop":String) = "min.loop":=by decide
 have hlt:l<s.heap.objs.size:=by obtain⟨_,e,_⟩:=hl;exact Yl e
 refine lX F.kind_min F.plain_min F.entry_min (mY _ _) ?_;show wpAny _ A.in1 (Builtin.Builtins.bindParams "min" ["key","default"] 0 ⟨[],[("default",d)]⟩ >>= _) _ _ s
 refine Y6 (Vk (show Builtin.Builtins.bindParams "min" ["key","default"] 0 ⟨[],[("default",d)]⟩=pure [none,some d] from rfl) ?_)
 refine Y6 (Yg ?_);refine Y6 (Qf hl ?_);refine Y6 (Zh ?_);have hsz:(s.heap.push { cls:=.type "list_iterator",data:=.fields #[.ref l,.int 0 0] }).objs.size=s.heap.objs.size+1:=Z2 ..
 have W:=Ud (prog:=prog) (w:=w) (A:=A.in1) hh s.heap.objs.size l (Yv hlt) #[]
 have hSf:s.heap.objs.size+1∉[s.heap.objs.size,l]:=λhm=>by
  rcases Yb.mp hm with e|hm
  .exact absurd e (Ve _)
  .rcases Yb.mp hm with e|hm
   .exact Qd _ (Vv (e▸hlt:s.heap.objs.size+1<s.heap.objs.size))
   .cases hm
 rw[hname];refine Yg ⟨Qu Qb _,?_⟩;show codeAny _ A (.builtin "min.loop" ⟨[.ref s.heap.objs.size,.none,.ref (s.heap.push _).objs.size],[("default",d)]⟩) _ _
 rw[hsz]
 refine BR W hSf (W.frame _ _ _ ⟨⟨_,Ye _ rfl,rfl,rfl⟩,hl.push _⟩ λb _ o e=>Y7 _ e) (by rw[<- hsz];exact Ye _ rfl) λh' tk hk=>h h' tk λb o e=>hk b o (λhm=>?_) (Y7 _ (Y7 _ e))
 simp at hm;exact absurd (hm▸Yl e) (Qd _)
end
section
variable{prog:Program}{w:World}{A:Around}{E:Value->Shared->Prop}{s:Shared}
def DF{x y:Value}{bt:Nat->Nat->Bool}{Q:Value->Shared->Prop}(hh:A.handled=none)
  (hcmp:BP prog w A.in1 s.heap (λi v=>([x,y]:List Value).toArray[i]?=some v) bt)
  (h:∀h' tk,(∀b o,s.heap.get? b=some o->h'.get? b=some o)->Q (if bt 1 0=true then y else x) { s with heap:=h',toks:=tk }):
  wpAny (model prog w) A (call (.builtin "min") [x,y]) Q E s:=by
 have hname:(toString "min" ++ toString ".loop":String) = "min.loop":=by decide
 refine lX F.kind_min F.plain_min F.entry_min (F.args_min2 _ _) ?_;show wpAny _ A.in1 (Builtin.Builtins.bindParams "min" ["key","default"] 0 ⟨[],[]⟩ >>= _) _ _ s
 refine Y6 (Vk (show Builtin.Builtins.bindParams "min" ["key","default"] 0 ⟨[],[]⟩=pure [none,none] from rfl) ?_)
 show wpAny _ A.in1 (newTuple [x,y] >>= _) _ _ s;refine Y6 (Zh ?_);have hT:(s.heap.push { cls:=.type "tuple",data:=.seq ([x,y]:List Value).toArray }).IsTuple s.heap.objs.size ([x,y]:List Value).toArray:=⟨_,Ye _ rfl,rfl,0,rfl⟩
 refine Y6 (Vn hT ?_);refine Y6 (Zh ?_);have hsz:(s.heap.push { cls:=.type "tuple",data:=.seq ([x,y]:List Value).toArray }).objs.size=s.heap.objs.size+1:=Z2 ..
 have W:=Walks.tuple (prog:=prog) (w:=w) (A:=A.in1) hh (s.heap.objs.size+1) s.heap.objs.size (Yv (Q2 _)) ([x,y]:List Value).toArray
 have hSf:s.heap.objs.size+2∉[s.heap.objs.size+1,s.heap.objs.size]:=λhm=>by
  rcases Yb.mp hm with e|hm
  .exact absurd e (Ve _)
  .rcases Yb.mp hm with e|hm
   .exact absurd e (Wu (We (Q2 _)))
   .cases hm
 rw[hname];refine Yg ⟨Qu Qb _,?_⟩
 have hsz2:∀o:Obj,((s.heap.push { cls:=.type "tuple",data:=.seq ([x,y]:List Value).toArray }).push o).objs.size=s.heap.objs.size+2:=λo=>by rw[Z2,hsz]
 show codeAny _ A (.builtin "min.loop" ⟨[.ref (s.heap.push { cls:=.type "tuple",data:=.seq ([x,y]:List Value).toArray }).objs.size,.none,.ref ((s.heap.push { cls:=.type "tuple",data:=.seq ([x,y]:List Value).toArray }).push _).objs.size],[]⟩) _ _
 rw[hsz2,hsz]
 refine pU (h0:=s.heap) W hcmp hSf (λb hb=>?_) (Qv (Mb (Ws _))) (Ug _) (W.frame _ _ _ ⟨⟨_,by rw[<- hsz];exact Ye _ rfl,rfl,rfl⟩,hT.push _⟩ λb _ o e=>Y7 _ e) (by rw[<- hsz2];exact Ye _ rfl)
  (λb o e=>Y7 _ (Y7 _ (Y7 _ e))) λv h' tk hP hk=>?_
 .rcases Yb.mp hb with e|hb
  .rw[e];exact Qv (Ws _)
  .cases hb
 .have hv:v=if bt 1 0=true then y else x:=by
   have hP':([x,y]:List Value).toArray[argBest bt 1]?=some v:=hP;by_cases hb:bt 1 0=true
   .have e:argBest bt 1=1:=by simp[argBest,hb]
    rw[e]at hP';rw[Y9 hb];cases hP';rfl
   .have e:argBest bt 1=0:=by simp[argBest,hb]
    rw[e]at hP';rw[Yj hb];cases hP';rfl
  rw[hv];exact h h' tk hk
end
theorem wH:∀(l:List Int)(m x:Int),cX m (l++[x])=if x<cX m l then x else cX m l
 |[],m,x=>rfl
 |y::l,m,x=>wH l (if y<m then y else m) x
theorem su(ns:List Int):∀k:Nat,k<ns.length->ns.getD (argBest (λi j=>decide (ns.getD i 0<ns.getD j 0)) k) 0=cX (ns.getD 0 0) ((ns.drop 1).take k)
 |0,h=>rfl
 |k+1,h=>by
  have h2:=su ns k (by omega)
  have hd:(ns.drop 1)[k]?=some (ns.getD (k+1) 0):=by rw[Uy,U9 1 k,Zq,Yk h];rfl
  have ht:(ns.drop 1).take (k+1)=(ns.drop 1).take k++[ns.getD (k+1) 0]:=by rw[Up,hd];rfl
  rw[ht,wH,<- h2];simp only[argBest];by_cases hb:ns.getD (k+1) 0<ns.getD (argBest (λi j=>decide (ns.getD i 0<ns.getD j 0)) k) 0
  .rw[Y9 (Yr hb),Y9 hb]
  .rw[Yj (by simpa using hb),Yj hb]
theorem k9:∀{vs:List Value}{ns:List Int},IntsAre vs ns->∀(i:Nat)(v:Value),vs[i]?=some v->∃t,v=.int (ns.getD i 0) t
 |_,_,.nil,i,v,h=>by simp at h
 |_,_,.cons n t r,0,v,h=>by cases h;exact⟨t,rfl⟩
 |_,_,.cons n t r,i+1,v,h=>k9 r i v (by simpa using h)
def wI:Pz->List D->Option D
 |_,[.tup a,.tup b]=>match intsOf a,intsOf b with
  |some n,some m=>some (if ltZ m n=true then .tup (m.map .int) else .tup (n.map .int))
  |_,_=>none
 |_,_=>none
def sv:Pz->List D->Option D
 |S,[.tup a,.tup b]=>wI S [.tup a,.tup b]
 |S,ds=>DC S ds
def nY:Pz->List D->Option D
 |S,[d]=>match nX S d with
  |some []=>some .non
  |some (x::a)=>match ip (x::a),intsOf (x::a) with
   |some (n::ns),_=>some (.tup ((jS n ns).map .int))
   |none,some (n::ns)=>some (.int (cX n ns))
   |_,_=>none
  |none=>none
 |_,_=>none
def Af(X:Cx)(f:Value)(kw:List (Str×Value))(r:List V->Hp->VK->Prop):Prop:=
 ∀(pins:List (Addr×Obj))(s:Shared)(σ:L2.St)(H:Hp)(xs:List V)(us:List Value)(Q:VK),Inv X pins σ H s->Vals xs us->r xs H Q->
  wpAny (model X.prog X.w) X.A (call f us kw) (EP X pins σ Q) X.xe s
def F3{α:Type}{us:List α}(h:us.length=2):∃x y,us=[x,y]:=by
 rcases us with _|⟨x,_|⟨y,_|⟨z,r⟩⟩⟩
 .simp at h
 .simp at h
 .exact⟨x,y,rfl⟩
 .simp at h
section
variable{X:Cx}{E:XK}
def F4{k:Nat}(hc:X.calm=true)(hr:PQ k X.A):bT X (.builtin "min") (xC X.K E wI):=by
 rintro pins s σ H xs us Q I r ⟨w,S,ds,hS,qs,p⟩;obtain⟨z,hz,p'⟩:=p.of;clear p;unfold wI at hz;split at hz
 .rename_i a b;split at hz
  .rename_i n m e1 e2;cases hz
   have e:ip [.tup a,.tup b]=some [n,m]:=by simp only[ip,e1,e2]
   obtain⟨t,g⟩:=pV I qs r e;obtain⟨x,y,rfl⟩:∃x y,us=[x,y]:=F3 t.1
   refine DF (I.ok.hd hc) (sm t (by have:=hr.un;show X.A.units+1<cLine;omega)) λh' tk hk=>?_
   have e0:ltZ (([n,m]:List (List Int)).getD 1 []) (([n,m]:List (List Int)).getD 0 [])=ltZ m n:=rfl;rw[e0];by_cases hb:ltZ m n=true
   .rw[Y9 hb]at p' ⊢;obtain⟨v,rv,rd⟩:=g 1 y rfl;exact⟨v,H,I.kept (t':=tk) hk,rv,p'.ret rd hS⟩
   .rw[Yj hb]at p' ⊢;obtain⟨v,rv,rd⟩:=g 0 x rfl;exact⟨v,H,I.kept (t':=tk) hk,rv,p'.ret rd hS⟩
  .cases hz
 .cases hz
def F5{k:Nat}(hc:X.calm=true)(hr:PQ k X.A):bT X (.builtin "min") (xC X.K E sv):=Hg (F4 hc hr) (F1 hc) λS ds=>by
 unfold sv;split
 .exact .inl rfl
 .exact .inr rfl
def Ag{k:Nat}(hc:X.calm=true)(hr:PQ k X.A):Af X (.builtin "min") [("default",.none)] (xC X.K E nY):=by
 rintro pins s σ H xs us Q I r ⟨w,S,ds,hS,qs,p⟩;obtain⟨z,hz,p'⟩:=p.of;clear p;unfold nY at hz;split at hz
 .rename_i d;obtain⟨v,rfl,q⟩:=qs.PK;obtain⟨u,rfl,rx⟩:=Wi r;split at hz
  .rename_i ha;cases hz;obtain⟨pa,vs,rfl,sq,ra⟩:=pS hS q ha;cases rx;obtain⟨its,r',pl,_⟩:=I.list sq;rw[ra.nil_inv]at r';cases r'
   exact yK (I.ok.hd hc) pl.isList λh' tk hk=>⟨.non,H,I.kept (t':=tk) hk,rfl,p'.ret (by unfold RD;rfl) hS⟩
  .rename_i x a ha;obtain⟨pa,vs,rfl,sq,ra⟩:=pS hS q ha;cases rx;obtain⟨its,r',pl,_⟩:=I.list sq;split at hz
   .rename_i n ns e;cases hz;obtain⟨t,g⟩:=pV I ra r' e
    have hl:its.length=ns.length+1:=by rw[t.1];rfl
    refine sr (df:=some .none) (I.ok.hd hc) pl.isList (by omega) (mY _ _) rfl (sm t (by have:=hr.un;show X.A.units+1<cLine;omega)) λv h' tk hv hk=>?_
    obtain⟨y,ry,rd⟩:=g _ v hv
    obtain⟨_,b2⟩:=sj (n::ns) (its.length-1) (by rw[hl];exact Q2 _)
    have b3:jS ((n::ns).getD 0 []) (((n::ns).drop 1).take (its.length-1))=jS n ns:=by rw[hl];show jS n (ns.take ns.length)=jS n ns;rw[Wv]
    rw[b2,b3]at rd;exact⟨y,H,I.kept (t':=tk) hk,ry,p'.ret rd hS⟩
   .rename_i n ns _ e;cases hz;have ia:=iK ra r' e;have hl:its.length=(n::ns).length:=ia.length
    have hcmp:BP X.prog X.w X.A.in1 s.heap (λi v=>its.toArray[i]?=some v) (λi j=>decide ((n::ns).getD i 0<(n::ns).getD j 0)):=by
     intro i j vi vj s1 Q1 E1 hk hi hj h
     obtain⟨t1,rfl⟩:=k9 ia i vi (by simpa using hi)
     obtain⟨t2,rfl⟩:=k9 ia j vj (by simpa using hj)
     exact Ad X.prog X.w h
    refine sr (df:=some .none) (I.ok.hd hc) pl.isList (by rw[hl];exact Ug _) (mY _ _) rfl hcmp λv h' tk hv hk=>?_
    obtain⟨t1,rfl⟩:=k9 ia _ v hv
    have b:=su (n::ns) (its.length-1) (by rw[hl];exact Q2 _)
    have b3:cX ((n::ns).getD 0 0) (((n::ns).drop 1).take (its.length-1))=cX n ns:=by rw[hl];show cX n (ns.take ns.length)=cX n ns;rw[Wv]
    rw[b3]at b;refine⟨.int (cX n ns),H,I.kept (t':=tk) hk,⟨t1,?_⟩,p'.ret RD.Sh hS⟩;rw[b]
   .cases hz
  .cases hz
 .cases hz
variable{a:Expr}{ms:AM}{x:Str}{p pos kp:Pos}{id:String}{nm:Str}
def BS{r:List V->Hp->VK->Prop}{t:TA}{j:Nat}{cp:Pos}(hc:Af X (.builtin id) [(nm,.none)] r)(hg:Gl X x)(hm:X.mg x=none)(hv:bootBuiltins x=some (.builtin id))(ha:PA X [a] t)(hn:x ≠ "__name__":=by decide)(hdb:(x == ("__debug__":Str))=false:=by decide)
  (he:backTo pos (starEach [a] X.env)=(false,eval a X.env)::backTo pos (starEach [] X.env):=by rfl) (hpl:(backTo pos (starEach [a] X.env)).any (·.1)=false:=by rfl):PE X (.Call (.Name x p) [a] [⟨some nm,.Constant .none j cp,kp⟩] pos) (tCB r t):=by
 intro pins s σ H Q I h;refine V5 (i4 I hg hm hv ?_ hn hdb);refine callWith_kw (PX (ha pos pins s σ H _ I h) λus s1 zq=>Tn zq λvs H1 I1 r1 q1=>kws_cons ?_) he hpl;exact Constant_none (kws_nil (hc pins s1 σ H1 vs us Q I1 r1 q1))
def mZ{f:Pz->List D->Option D}{j:Nat}{cp:Pos}(hc:Af X (.builtin id) [(nm,.none)] (xC X.K E f))(hg:Gl X x)(hm:X.mg x=none)(hv:bootBuiltins x=some (.builtin id))(ha:SA X E [a] ms)(hn:x ≠ "__name__":=by decide +kernel)(hdb:(x == ("__debug__":Str))=false:=by decide +kernel)
  (he:backTo pos (starEach [a] X.env)=(false,eval a X.env)::backTo pos (starEach [] X.env):=by kernel_rfl) (hpl:(backTo pos (starEach [a] X.env)).any (·.1)=false:=by kernel_rfl):SE X E (.Call (.Name x p) [a] [⟨some nm,.Constant .none j cp,kp⟩] pos) (eB f ms):=⟨
 bj (BS hc hg hm hv ha.out hn hdb he hpl) λs H Q zq=>QR zq λw r S hr hS hp=>⟨w,r,S,hr,hS,hp.bind hS λds S1 w1 H1 vs x1 q1 s1 p1=>⟨w1,S1,ds,s1,q1,p1⟩⟩⟩
end
end PD
namespace SQ
open PySem PySem.Spec PyProof.Rows
section
variable{prog:Program}{w:World}{A:Around}{E:Value->Shared->Prop}{s:Shared}
def rn{h:Heap}{a:Addr}{vs:List Value}{n:Nat}{out:Array Value}(ho:h.get? a=some (seqObj "list" vs.toArray n)):(∃n',(sortedHeap h a vs out).get? a=some (seqObj "list" out n'))/\∀b o,b≠a->h.get? b=some o->(sortedHeap h a vs out).get? b=some o:=by
 unfold sortedHeap;obtain⟨k,g⟩:∃k,(h.update a (Obj.mapSeq λ_=>#[])).get? a=some (seqObj "list" #[] k):=⟨_,get?_update_seq ho _⟩
 refine⟨⟨_,get?_update_seq (Y7 _ (Y7 _ g)) _⟩,λb o hb e=>?_⟩;exact((V2 ..).2 b hb).trans (Y7 _ (Y7 _ (((V2 ..).2 b hb).trans e)))
def nZ{s:Shared}{vs:List Value}{ns:List Int}{Q:Value->Shared->Prop}(hI:IntsAre vs ns)(hz:vs.length<64)
  (h:∀(h':Heap)(out:Array Value)(ns':List Int)(n:Nat),(∀b o,s.heap.get? b=some o->h'.get? b=some o)->h'.get? s.heap.objs.size=some (seqObj "list" out n)->IntsAre out.toList ns'->ns'.Perm ns->ns'.Pairwise (· <= ·)->Q (.ref s.heap.objs.size) { s with heap:=h' }):
  wpAny (model prog w) A (do
   let l <- newList vs
   let _ <- holding [l] (call (.builtin "list.sort") [l] [])
   ret l) (λfin s'=>∃v,fin=.done (.ret v)/\Q v s') E s:=by
 refine Y6 (M5 ?_ (by rw[Wt];omega))
 have g:(s.heap.push (seqObj "list" vs.toArray 0)).get? s.heap.objs.size=some (seqObj "list" vs.toArray 0):=Ye _ rfl
 refine Y6 (Qs (Qa slot_list_sort ⟨_,g,rfl⟩ entry_list_sort (list_sort_tree g hI hz λout ns' a1 a2 a3=>⟨_,rfl,?_⟩) (args_list_sort _)));obtain⟨⟨n,g1⟩,g2⟩:=rn (out:=out) g;exact Yg ⟨_,rfl,h _ out ns' n (λb o e=>g2 b o (Yv (Yl e)) (Y7 _ e)) g1 a1 a2 a3⟩
def WL{k:Bool}{l:Addr}{vs:List Value}{ns:List Int}{Q:Value->Shared->Prop}(hl:Is k s.heap l vs.toArray)(hI:IntsAre vs ns)(hz:vs.length<64)
  (h:∀(a:Addr)(h':Heap)(out:Array Value)(ns':List Int)(n:Nat),s.heap.objs.size<=a->(∀b o,s.heap.get? b=some o->h'.get? b=some o)->h'.get? a=some (seqObj "list" out n)->IntsAre out.toList ns'->ns'.Perm ns->ns'.Pairwise (· <= ·)->Q (.ref a) { s with heap:=h' }):
  wpAny (model prog w) A (call (.builtin "sorted") [.ref l]) Q E s:=by
 refine Calls.call_function_entry kind_sorted plain_sorted entry_sorted (args_sorted1 _) ?_;unfold Builtin.«sorted»;refine Y6 (m:=checkCount "sorted" 1 1 _) (Yg ?_)
 refine Y6 (collects hl ?_ (by rw[Wt];omega))
 have kp:∀b o,s.heap.get? b=some o->((s.heap.push (seqObj "list" #[] 0)).update s.heap.objs.size (Obj.mapSeq (· ++ vs.toArray))).get? b=some o:=λb o e=>
  ((V2 ..).2 b (Yv (Yl e))).trans (Y7 _ e)
 refine nZ (s:={ s with heap:=(s.heap.push (seqObj "list" #[] 0)).update s.heap.objs.size (Obj.mapSeq (· ++ vs.toArray)) }) hI hz λh' out ns' n k1 k2 a1 a2 a3=>h _ h' out ns' n ?_ (λb o e=>k1 b o (kp b o e)) k2 a1 a2 a3
 show s.heap.objs.size<=((s.heap.push (seqObj "list" #[] 0)).update s.heap.objs.size (Obj.mapSeq (· ++ vs.toArray))).objs.size
 rw[Heap.size_update,size_push'];exact Ws _
def WM{T:String}{r d:Addr}{n:Nat}{P:Nat->Value->Prop}{OK:Heap->Prop}{ns:List Int}{Q:Value->Shared->Prop}(K:KdlSrc prog w T r d n P OK)(hh:A.handled=none)(hok:OK s.heap)(hn:n<64)
  (hI:∀vs:List Value,vs.length=n->(∀j v,vs[j]?=some v->P j v)->IntsAre vs ns)
  (h:∀(h1:Heap)(tk:Nat),(∀b o,s.heap.get? b=some o->h1.get? b=some o)->∀(h2:Heap)(out:Array Value)(ns':List Int)(n:Nat),(∀b o,h1.get? b=some o->h2.get? b=some o)->h2.get? h1.objs.size=some (seqObj "list" out n)->IntsAre out.toList ns'->ns'.Perm ns->ns'.Pairwise (· <= ·)->Q (.ref h1.objs.size) { s with heap:=h2,toks:=tk }):
  wpAny (model prog w) A (call (.builtin "sorted") [.ref r]) Q E s:=by
 refine Calls.call_function_entry kind_sorted plain_sorted entry_sorted (args_sorted1 _) ?_;unfold Builtin.«sorted»;refine Y6 (m:=checkCount "sorted" 1 1 _) (Yg ?_)
 refine Y6 (kdu_collect (A:=A.in1) K hh hok (by rw[Wt];omega) λh' tk acc hk hacc=>?_)
 have hl:acc.toList.length=n:=by rw[W0];exact hacc.1
 have hi:=hI acc.toList hl λj v e=>hacc.2 j v (by rw[<- U5];exact e)
 refine nZ (s:={ s with heap:=h',toks:=tk }) hi (by omega) λh2 out ns' n k1 k2 a1 a2 a3=>h h' tk hk h2 out ns' n k1 k2 a1 a2 a3
end
end SQ
namespace PD
open PySem PySem.Spec PyProof.Rows L2
variable{s:Shared}
def iL:List (KD×D)->Option (List Int)
 |[]=>some []
 |(.inl i,_)::r=>(iL r).map (i :: ·)
 |_=>none
def n8(S:Pz)(d:D):Option (List Int):=match cc S d with
 |some a=>intsOf a
 |none=>match cR S d with
  |some kvs=>iL kvs
  |none=>none
def wJ:Pz->List D->Option D
 |S,[d]=>match n8 S d with
  |some ns=>if ns.length<64 then some (.lst ((gE ns).map .int)) else none
  |none=>none
 |_,_=>none
section
variable{X:Cx}{E:XK}
theorem sx:∀{kvs:List (KD×D)}{ns:List Int},iL kvs=some ns->ns.length=kvs.length
 |[],_,h=>by unfold iL at h;cases h;rfl
 |(.inl i,_)::r,ns,h=>by
  unfold iL at h;cases e:iL r with
  |none=>rw[e]at h;cases h
  |some m=>rw[e]at h;cases h;simp[sx e]
 |(.inr i,_)::r,ns,h=>by unfold iL at h;cases h
theorem wK:∀{kvs:List (KD×D)}{ns:List Int},iL kvs=some ns->∀(j:Nat)(k:KD)(d:D),kvs[j]?=some (k,d)->∃i,ns[j]?=some i/\k=.inl i
 |[],_,h,j,k,d,e=>by simp at e
 |(.inl i,x)::r,ns,h,j,k,d,e=>by
  unfold iL at h;cases e':iL r with
  |none=>rw[e']at h;cases h
  |some m=>
   rw[e']at h;cases h;cases j with
   |zero=>simp at e;exact⟨i,rfl,e.1.symm⟩
   |succ j=>exact wK e' j k d (by simpa using e)
 |(.inr i,_)::r,ns,h,j,k,d,e=>by unfold iL at h;cases h
theorem pW:∀(vs:List Value)(ns:List Int),vs.length=ns.length->(∀(j:Nat)(v:Value),vs[j]?=some v->∃i t,ns[j]?=some i/\v=.int i t)->IntsAre vs ns
 |[],[],_,_=>.nil
 |v::vs,n::ns,hl,h=>by
  obtain⟨i,t,e,rfl⟩:=h 0 v rfl;cases e
  exact .cons _ _ (pW vs ns (by simpa using hl) λj v e=>h (j+1) v (by simpa using e))
 |[],_::_,hl,_=>by simp at hl
 |_::_,[],hl,_=>by simp at hl
theorem QC.at{K:Frag}{w:Wd}{H:Hp}:∀{ds:List (KD×D)}{us:List (Key×V)},QC K w H ds us->∀(j:Nat)(k:Key)(v:V),us[j]?=some (k,v)->∃d,ds[j]?=some (k,d)
 |[],_,h,j,k,v,e=>by rw[h.nil_inv]at e;simp at e
 |(k0,d)::ds,_,h,j,k,v,e=>by
  obtain⟨v0,r,rfl,_,t⟩:=h.cons_inv;cases j with
  |zero=>simp at e;exact⟨d,by simp[e.1]⟩
  |succ j=>exact t.at j k v (by simpa using e)
def DG(hc:X.calm=true):bT X (.builtin "sorted") (xC X.K E wJ):=by
 rintro pins s σ H xs us Q I r ⟨w,S,ds,hS,qs,p⟩;obtain⟨z,hz,p'⟩:=p.of;clear p;unfold wJ at hz;split at hz
 .rename_i d;obtain⟨v,rfl,q⟩:=qs.PK;split at hz
  .rename_i ns hns;split at hz
   .rename_i hlt;cases hz
    -- the list that comes
    have last:∀(s1:Shared)(a:Addr)(h2:Heap)(tk:Nat)(out:Array Value)(ns':List Int)(n:Nat),Inv X pins σ H s1->s1.heap.objs.size<=a->(∀b o,s1.heap.get? b=some o->h2.get? b=some o)->h2.get? a=some (seqObj "list" out n)->IntsAre out.toList ns'->ns'.Perm ns->ns'.Pairwise (· <= ·)->EP X pins σ Q (.ref a) { s1 with heap:=h2,toks:=tk }:=λs1 a h2 tk out ns' n I1 la k1 k2 a1 a2 a3=>by
     have en:ns'=gE ns:=nV (a2.trans (fi ns).symm) a3 (dw ns);subst en;have hf:H a=none:=I1.hok.fresh la
     have hz:((gE ns).map V.int).length<=sizeLine:=by rw[Yi,(fi ns).length_eq,Wt];omega
     refine⟨.ref a,_,I1.laid (t':=tk) (a:=a) (o:=.lst ((gE ns).map V.int)) k1 la ⟨hz,out.toList,n,z7 a1,by rw[Array.toArray_toList];exact k2⟩,rfl,?_⟩
     exact p'.at (Ext.new hf) (RD.Te hS hf (wA _)) (hS.new hf)
    unfold n8 at hns;split at hns
    .rename_i a ha;obtain⟨pa,vs,rfl,sq,ra⟩:=pJ hS q ha;obtain⟨u,rfl,rx⟩:=Wi r;cases rx
     have main:∀(k:Bool)(its:List Value),Vals vs its->SQ.Is k s.heap pa its.toArray->wpAny (model X.prog X.w) X.A (call (.builtin "sorted") [.ref pa]) (EP X pins σ Q) X.xe s:=λk its rv pl=>by
      have hI:=iK ra rv hns;have hl:its.length=ns.length:=hI.length
      exact SQ.WL pl hI (by omega) λa h' out ns' n la k1 k2 a1 a2 a3=>last s a h' s.toks out ns' n I la k1 k2 a1 a2 a3
     rcases sq with hq|hq
     .obtain⟨its,r',pl,hz⟩:=I.list hq;exact main false its r' pl.isList
     .obtain⟨its,r',pl,hz⟩:=I.tuple hq;exact main true its r' pl
    .split at hns
     .rename_i kvs hd;obtain⟨pp,us',rfl,rd,rk⟩:=mW hS q hd;obtain⟨u,rfl,rx⟩:=Wi r;cases rx;obtain⟨hl,hm,vs,rel,dd⟩:=kO I.hok rd;obtain⟨ep,hat⟩:=dd.dictAt;have e1:=rel.length;have e2:=rk.length;have e3:=sx hns
      refine SQ.WM (ns:=ns) (kdl_dict (knd:=bA X.prog X.w) (kvs:=vs) (ep:=ep) hm) (I.ok.hd hc) hat (by omega) (λws hw hv=>?_) λh1 tk hk h2 out ns' n k1 k2 a1 a2 a3=>?_
      .refine pW ws ns (by omega) λj u hu=>?_
       obtain⟨k,x,hx,hkey⟩:=hv j u hu
       obtain⟨y,hy⟩:∃y,us'[j]?=some (k,y):=by
        have e:=Ql (λl:List Key=>l[j]?) rel.keys;simp only[Qx,hx,Q7]at e;cases hu':us'[j]? with
        |none=>rw[hu']at e;cases e
        |some q=>rw[hu']at e;cases e;exact⟨q.2,rfl⟩
       obtain⟨d',hd'⟩:=rk.at j k y hy;obtain⟨i,hi,rfl⟩:=wK hns j k d' hd';have:=wB hkey;obtain⟨t,rfl⟩:∃t,u=.int i t:=this;exact⟨i,t,hi,rfl⟩
      .exact last { s with heap:=h1,toks:=tk } _ h2 tk out ns' n (I.kept (t':=tk) hk) (Yh _) k1 k2 a1 a2 a3
     .cases hns
   .cases hz
  .cases hz
 .cases hz
end
def Ah(prog:Program)(w:World)(A:Around)(h0:Heap)(P:Nat->Value->Prop)(bt:Nat->Nat->Bool):Prop:=
 ∀(i j:Nat)(vi vj:Value)(s:Shared)(Q:Value->Shared->Prop)(E:Value->Shared->Prop),(∀b o,h0.get? b=some o->s.heap.get? b=some o)->P i vi->P j vj->Q (.bool (bt i j)) s->wpAny (model prog w) A (richCompare .Gt vi vj) Q E s
section
variable{prog:Program}{w:World}{A:Around}{R:Result->Shared->Prop}{I:Addr}{fp wr:List Addr}{n:Nat}{P:Nat->Value->Prop}{St:Nat->Heap->Prop}{h0:Heap}{bt:Nat->Nat->Bool}{S:Addr}{kw:List (Str×Value)}
theorem BU(W:Walks prog w A.in1 I fp wr n P St)(hcmp:Ah prog w A.in1 h0 P bt)(hSf:S∉fp)(hw:∀b∈wr,h0.get? b=none)(hS0:h0.get? S=none):
  ∀(k j:Nat)(s:Shared)(vb:Value)(c:Nat),n-(j+1)=k->j+1<=n->St (j+1) s.heap->P (argBest bt j) vb->s.heap.get? S=some (si #[vb,vb] c)->(∀b o,h0.get? b=some o->s.heap.get? b=some o)->
  (∀v h' tk,P (argBest bt (n-1)) v->(∀b o,h0.get? b=some o->h'.get? b=some o)->R (.ok (.ret v)) { s with heap:=h',toks:=tk })->
  codeAny (model prog w) A (.builtin "max.loop" ⟨[.ref I,.none,.ref S],kw⟩) R s:=by
 have hSw:S∉wr:=λh=>hSf (W.sub _ h)
 have nw:∀{b:Addr}{o:Obj},h0.get? b=some o->b∉wr:=λe h=>by rw[hw _ h]at e;cases e
 have nS:∀{b:Addr}{o:Obj},h0.get? b=some o->S≠b:=λe h=>by rw[<- h,hS0]at e;cases e
 have hname:(toString "max" ++ toString ".loop":String) = "max.loop":=by decide
 intro k
 induction k with
 |zero=>
  intro j s vb c hk hj hst hPb hS hkp hR
  have hin:j+1=n:=by omega
  refine Q5 U1 ?_;rw[Zy Qq _];show wpAny _ A.in1 (seqItems? (.ref S) >>= _) _ _ s;refine Y6 (Zk hS rfl ?_);show wpAny _ A.in1 (tryCatch (pyNext (.ref I)) _ >>= _) _ _ s;refine Y6 (Qw (W.done s _ _ (hin▸hst) λh' tk hk'=>?_));show wpAny _ A.in1 (updateSeq S (λ_=>#[]) >>= _) _ _ _;refine Y6 ?_;refine V7 (hk' S _ hSw hS) rfl (Y6 (W9 (Yg ?_)))
  exact hR vb _ tk (by rw[<- hin];exact hPb) λb o e=>(Zc _ _ (nS e)).trans (hk' b o (nw e) (hkp b o e))
 |succ k ih=>
  intro j s vb c hk hj hst hPb hS hkp hR
  have hlt:j+1<n:=by omega
  refine Q5 U1 ?_;rw[Zy Qq _];show wpAny _ A.in1 (seqItems? (.ref S) >>= _) _ _ s;refine Y6 (Zk hS rfl ?_);show wpAny _ A.in1 (tryCatch (pyNext (.ref I)) _ >>= _) _ _ s;refine Y6 (Qw (W.item (j+1) s _ _ hlt hst λv h' tk hP hst' hk'=>?_));have hS':=hk' S _ hSw hS;have Tf:∀b o,h0.get? b=some o->h'.get? b=some o:=λb o e=>hk' b o (nw e) (hkp b o e);show wpAny _ A.in1 (tryCatch (holding [v,v] (richCompare .Gt v vb >>= _)) _ >>= _) _ _ _;refine Y6 (Qw (Qs (Y6 (hcmp (j+1) (argBest bt j) v vb _ _ _ Tf hP hPb ?_))));refine Y6 (Qs (Qe ?_));refine Y6 (W9 (Yg ?_));cases hb:bt (j+1) (argBest bt j) with
  |true=>
   simp only[Zi];refine Y6 ?_;refine V7 hS' rfl (Y6 (W9 ?_));rw[hname]
   refine Yg ⟨Qu Qq _,ih (j+1) _ v _ (by omega) hlt (W.frame _ _ _ hst' λb hbf o e=>(Zc _ _ (λh:S=b=>hSf (by rw[h];exact hbf))).trans e) (by simp only[argBest,hb,Zi];exact hP) (Qj _ hS' rfl)
    (λb o e=>(Zc _ _ (nS e)).trans (Tf b o e)) λv' h'' tk'' hP' hk''=>hR v' h'' tk'' hP' hk''⟩
  |false=>
   simp only[Ze,Qm];refine Y6 (W9 ?_);rw[hname]
   exact Yg ⟨Qu Qq _,ih (j+1) _ vb c (by omega) hlt hst' (by simp only[argBest,hb,Ze,Qm];exact hPb) hS' Tf λv' h'' tk'' hP' hk''=>hR v' h'' tk'' hP' hk''⟩
def yL(W:Walks prog w A.in1 I fp wr n P St)(hcmp:Ah prog w A.in1 h0 P bt)(hSf:S∉fp)(hw:∀b∈wr,h0.get? b=none)(hS0:h0.get? S=none)(hn:0<n){c:Nat}(hst:St 0 s.heap)
  (hS:s.heap.get? S=some (si #[] c)) (hkp:∀b o,h0.get? b=some o->s.heap.get? b=some o)
  (hR:∀v h' tk,P (argBest bt (n-1)) v->(∀b o,h0.get? b=some o->h'.get? b=some o)->R (.ok (.ret v)) { s with heap:=h',toks:=tk }):
  codeAny (model prog w) A (.builtin "max.loop" ⟨[.ref I,.none,.ref S],kw⟩) R s:=by
 have hSw:S∉wr:=λh=>hSf (W.sub _ h)
 have nw:∀{b:Addr}{o:Obj},h0.get? b=some o->b∉wr:=λe h=>by rw[hw _ h]at e;cases e
 have nS:∀{b:Addr}{o:Obj},h0.get? b=some o->S≠b:=λe h=>by rw[<- h,hS0]at e;cases e
 have hname:(toString "max" ++ toString ".loop":String) = "max.loop":=by decide
 refine Q5 U1 ?_;rw[Zy Qq _];show wpAny _ A.in1 (seqItems? (.ref S) >>= _) _ _ s;refine Y6 (Zk hS rfl ?_);show wpAny _ A.in1 (tryCatch (pyNext (.ref I)) _ >>= _) _ _ s;refine Y6 (Qw (W.item 0 s _ _ hn hst λv h' tk hP hst' hk'=>?_));have hS':=hk' S _ hSw hS;have Tf:∀b o,h0.get? b=some o->h'.get? b=some o:=λb o e=>hk' b o (nw e) (hkp b o e);show wpAny _ A.in1 (updateSeq S (λ_=>#[v,v]) >>= _) _ _ _;refine Y6 ?_;refine V7 hS' rfl ?_;rw[hname]
 exact Yg ⟨Qu Qq _,BU W hcmp hSf hw hS0 _ 0 _ v _ rfl hn (W.frame _ _ _ hst' λb hbf o e=>(Zc _ _ (λh:S=b=>hSf (by rw[h];exact hbf))).trans e) hP (Qj _ hS' rfl)
  (λb o e=>(Zc _ _ (nS e)).trans (Tf b o e)) λv' h'' tk'' hP' hk''=>hR v' h'' tk'' hP' hk''⟩
def BV{d:Value}{nm:Str}(W:Walks prog w A.in1 I fp wr 0 P St)(hSf:S∉fp){c:Nat}(hst:St 0 s.heap)(hS:s.heap.get? S=some (si #[] c))
  (hR:∀h' tk,(∀b o,b∉wr->s.heap.get? b=some o->h'.get? b=some o)->R (.ok (.ret d)) { s with heap:=h',toks:=tk }):
  codeAny (model prog w) A (.builtin "max.loop" ⟨[.ref I,.none,.ref S],[(nm,d)]⟩) R s:=by
 refine Q5 U1 ?_;rw[Zy Qq _];show wpAny _ A.in1 (seqItems? (.ref S) >>= _) _ _ s;refine Y6 (Zk hS rfl ?_);show wpAny _ A.in1 (tryCatch (pyNext (.ref I)) _ >>= _) _ _ s;refine Y6 (Qw (W.done s _ _ hst λh' tk hk'=>?_));show wpAny _ A.in1 (rule _ >>= _) _ _ _;refine Y6 (Wh (Yg ?_));exact hR h' tk hk'
def sy(a d:Value):argsOk "max" ⟨[a],[("default",d)]⟩:=by unfold argsOk;kernel_rfl
end
section
variable{prog:Program}{w:World}{A:Around}{E:Value->Shared->Prop}{s:Shared}
def BW{l:Addr}{us:List Value}{bt:Nat->Nat->Bool}{kw:List (Str×Value)}{df:Option Value}{Q:Value->Shared->Prop}(hh:A.handled=none)(hl:s.heap.IsList l us.toArray)(hne:0<us.length)
  (ha:argsOk "max" ⟨[.ref l],kw⟩) (hb:Builtin.Builtins.bindParams "max" ["key","default"] 0 ⟨[],kw⟩=pure [none,df])
  (hcmp:Ah prog w A.in1 s.heap (λi v=>us.toArray[i]?=some v) bt)
  (h:∀v h' tk,us[argBest bt (us.length-1)]?=some v->(∀b o,s.heap.get? b=some o->h'.get? b=some o)->Q v { s with heap:=h',toks:=tk }):
  wpAny (model prog w) A (call (.builtin "max") [.ref l] kw) Q E s:=by
 have hname:(toString "max" ++ toString ".loop":String) = "max.loop":=by decide
 have hlt:l<s.heap.objs.size:=by obtain⟨_,e,_⟩:=hl;exact Yl e
 refine lX F.kind_max F.plain_max F.entry_max ha ?_;show wpAny _ A.in1 (Builtin.Builtins.bindParams "max" ["key","default"] 0 ⟨[],kw⟩ >>= _) _ _ s
 refine Y6 (Vk hb ?_);refine Y6 (Yg ?_);refine Y6 (Qf hl ?_);refine Y6 (Zh ?_);have hsz:(s.heap.push { cls:=.type "list_iterator",data:=.fields #[.ref l,.int 0 0] }).objs.size=s.heap.objs.size+1:=Z2 ..
 have W:=Ud (prog:=prog) (w:=w) (A:=A.in1) hh s.heap.objs.size l (Yv hlt) us.toArray
 have hSf:s.heap.objs.size+1∉[s.heap.objs.size,l]:=λhm=>by
  rcases Yb.mp hm with e|hm
  .exact absurd e (Ve _)
  .rcases Yb.mp hm with e|hm
   .exact Qd _ (Vv (e▸hlt:s.heap.objs.size+1<s.heap.objs.size))
   .cases hm
 rw[hname];refine Yg ⟨Qu Qq _,?_⟩;show codeAny _ A (.builtin "max.loop" ⟨[.ref s.heap.objs.size,.none,.ref (s.heap.push _).objs.size],_⟩) _ _
 rw[hsz]
 refine yL (h0:=s.heap) W hcmp hSf (λb hb=>?_) (Qv (Ws _)) (by simpa using hne) (W.frame _ _ _ ⟨⟨_,Ye _ rfl,rfl,rfl⟩,hl.push _⟩ λb _ o e=>Y7 _ e) (by rw[<- hsz];exact Ye _ rfl)
  (λb o e=>Y7 _ (Y7 _ e)) λv h' tk hP hk=>h v h' tk (by simpa using hP) hk
 .simp at hb;rw[hb];exact Qv (Yh _)
def yM{l:Addr}{d:Value}{Q:Value->Shared->Prop}(hh:A.handled=none)(hl:s.heap.IsList l #[])
  (h:∀h' tk,(∀b o,s.heap.get? b=some o->h'.get? b=some o)->Q d { s with heap:=h',toks:=tk }):
  wpAny (model prog w) A (call (.builtin "max") [.ref l] [("default",d)]) Q E s:=by
 have hname:(toString "max" ++ toString ".loop":String) = "max.loop":=by decide
 have hlt:l<s.heap.objs.size:=by obtain⟨_,e,_⟩:=hl;exact Yl e
 refine lX F.kind_max F.plain_max F.entry_max (sy _ _) ?_;show wpAny _ A.in1 (Builtin.Builtins.bindParams "max" ["key","default"] 0 ⟨[],[("default",d)]⟩ >>= _) _ _ s
 refine Y6 (Vk (show Builtin.Builtins.bindParams "max" ["key","default"] 0 ⟨[],[("default",d)]⟩=pure [none,some d] from rfl) ?_)
 refine Y6 (Yg ?_);refine Y6 (Qf hl ?_);refine Y6 (Zh ?_);have hsz:(s.heap.push { cls:=.type "list_iterator",data:=.fields #[.ref l,.int 0 0] }).objs.size=s.heap.objs.size+1:=Z2 ..
 have W:=Ud (prog:=prog) (w:=w) (A:=A.in1) hh s.heap.objs.size l (Yv hlt) #[]
 have hSf:s.heap.objs.size+1∉[s.heap.objs.size,l]:=λhm=>by
  rcases Yb.mp hm with e|hm
  .exact absurd e (Ve _)
  .rcases Yb.mp hm with e|hm
   .exact Qd _ (Vv (e▸hlt:s.heap.objs.size+1<s.heap.objs.size))
   .cases hm
 rw[hname];refine Yg ⟨Qu Qq _,?_⟩;show codeAny _ A (.builtin "max.loop" ⟨[.ref s.heap.objs.size,.none,.ref (s.heap.push _).objs.size],[("default",d)]⟩) _ _
 rw[hsz]
 refine BV W hSf (W.frame _ _ _ ⟨⟨_,Ye _ rfl,rfl,rfl⟩,hl.push _⟩ λb _ o e=>Y7 _ e) (by rw[<- hsz];exact Ye _ rfl) λh' tk hk=>h h' tk λb o e=>hk b o (λhm=>?_) (Y7 _ (Y7 _ e))
 simp at hm;exact absurd (hm▸Yl e) (Qd _)
end
def F6{A:Around}{a b:Int}{t u:Tok}(prog:Program)(w:World){E:Value->Shared->Prop}{Q:Value->Shared->Prop}(h:Q (.bool (decide (b<a))) s):wpAny (model prog w) A (richCompare .Gt (.int a t) (.int b u)) Q E s:=
 richCompare_gives (op:=.Gt) (V6 s _ t) (V6 s _ u) F.slot_int_gt F.entry_int_gt (F.args_int_gt_2 _ _) (gives_int_gt _ _ t u) (λx=>nomatch x) h
def gX:Int->List Int->Int
 |m,[]=>m
 |m,x::r=>gX (if m<x then x else m) r
theorem uP:∀(l:List Int)(m:Int),(m<=gX m l/\∀x∈l,x<=gX m l)/\(gX m l=m\/gX m l∈l)
 |[],m=>⟨⟨Us _,λx h=>nomatch h⟩,.inl rfl⟩
 |x::r,m=>by
  obtain⟨⟨h1,h2⟩,h3⟩:=uP r (if m<x then x else m)
  show(m<=gX (if m<x then x else m) r/\∀y∈x::r,y<=gX (if m<x then x else m) r)/\(gX (if m<x then x else m) r=m\/gX (if m<x then x else m) r∈x::r)
  generalize gX (if m<x then x else m) r=z at *
  by_cases hx:m<x
  .rw[Y9 hx]at h1 h3
   refine⟨⟨by omega,λy hy=>?_⟩,.inr ?_⟩
   .rcases Yb.mp hy with e|hy
    .rw[e];exact h1
    .exact h2 y hy
   .rcases h3 with e|h3
    .rw[e];exact .head _
    .exact .tail _ h3
  .rw[Yj hx]at h1 h3;refine⟨⟨h1,λy hy=>?_⟩,?_⟩
   .rcases Yb.mp hy with e|hy
    .rw[e];omega
    .exact h2 y hy
   .rcases h3 with e|h3
    .exact .inl e
    .exact .inr (.tail _ h3)
theorem wL:∀(l:List Int)(m x:Int),gX m (l++[x])=if gX m l<x then x else gX m l
 |[],m,x=>rfl
 |y::l,m,x=>wL l (if m<y then y else m) x
theorem sC(ns:List Int):∀k:Nat,k<ns.length->ns.getD (argBest (λi j=>decide (ns.getD j 0<ns.getD i 0)) k) 0=gX (ns.getD 0 0) ((ns.drop 1).take k)
 |0,h=>rfl
 |k+1,h=>by
  have h2:=sC ns k (by omega)
  have hd:(ns.drop 1)[k]?=some (ns.getD (k+1) 0):=by rw[Uy,U9 1 k,Zq,Yk h];rfl
  have ht:(ns.drop 1).take (k+1)=(ns.drop 1).take k++[ns.getD (k+1) 0]:=by rw[Up,hd];rfl
  rw[ht,wL,<- h2];simp only[argBest];by_cases hb:ns.getD (argBest (λi j=>decide (ns.getD j 0<ns.getD i 0)) k) 0<ns.getD (k+1) 0
  .rw[Y9 (Yr hb),Y9 hb]
  .rw[Yj (by simpa using hb),Yj hb]
def wM:Pz->List D->Option D
 |S,[d]=>match nX S d with
  |some []=>some .non
  |some (x::a)=>match intsOf (x::a) with
   |some (n::ns)=>some (.int (gX n ns))
   |_=>none
  |none=>none
 |_,_=>none
section
variable{X:Cx}{E:XK}
def F7{k:Nat}(hc:X.calm=true)(hr:PQ k X.A):Af X (.builtin "max") [("default",.none)] (xC X.K E wM):=by
 rintro pins s σ H xs us Q I r ⟨w,S,ds,hS,qs,p⟩;obtain⟨z,hz,p'⟩:=p.of;clear p;unfold wM at hz;split at hz
 .rename_i d;obtain⟨v,rfl,q⟩:=qs.PK;obtain⟨u,rfl,rx⟩:=Wi r;split at hz
  .rename_i ha;cases hz;obtain⟨pa,vs,rfl,sq,ra⟩:=pS hS q ha;cases rx;obtain⟨its,r',pl,_⟩:=I.list sq;rw[ra.nil_inv]at r';cases r'
   exact yM (I.ok.hd hc) pl.isList λh' tk hk=>⟨.non,H,I.kept (t':=tk) hk,rfl,p'.ret (by unfold RD;rfl) hS⟩
  .rename_i x a ha;obtain⟨pa,vs,rfl,sq,ra⟩:=pS hS q ha;cases rx;obtain⟨its,r',pl,_⟩:=I.list sq;split at hz
   .rename_i n ns e;cases hz;have ia:=iK ra r' e;have hl:its.length=(n::ns).length:=ia.length
    have hcmp:Ah X.prog X.w X.A.in1 s.heap (λi v=>its.toArray[i]?=some v) (λi j=>decide ((n::ns).getD j 0<(n::ns).getD i 0)):=by
     intro i j vi vj s1 Q1 E1 hk hi hj h
     obtain⟨t1,rfl⟩:=k9 ia i vi (by simpa using hi)
     obtain⟨t2,rfl⟩:=k9 ia j vj (by simpa using hj)
     exact F6 X.prog X.w h
    refine BW (df:=some .none) (I.ok.hd hc) pl.isList (by rw[hl];exact Ug _) (sy _ _) rfl hcmp λv h' tk hv hk=>?_
    obtain⟨t1,rfl⟩:=k9 ia _ v hv
    have b:=sC (n::ns) (its.length-1) (by rw[hl];exact Q2 _)
    have b3:gX ((n::ns).getD 0 0) (((n::ns).drop 1).take (its.length-1))=gX n ns:=by rw[hl];show gX n (ns.take ns.length)=gX n ns;rw[Wv]
    rw[b3]at b;refine⟨.int (gX n ns),H,I.kept (t':=tk) hk,⟨t1,?_⟩,p'.ret RD.Sh hS⟩;rw[b]
   .cases hz
  .cases hz
 .cases hz
end
end PD
namespace L2
open PySem PySem.Spec PyProof.Rows
def Inv.ZJ{X:Cx}{pins:List (Addr×Obj)}{σ:St}{H:Hp}{s:Shared}{a:Addr}{vs:List V}(I:Inv X pins σ H s)(h:H a=some (.lst vs)):∃o,Inv X pins σ (upd H a (.QX o (.lst vs))) s:=by
 obtain⟨z,its,n,r,e⟩:ck X.prog X.w H s.heap a (.lst vs):=I.hok a _ h
 have I2:Inv X pins σ (upd H a (.QX _ (.lst vs))) { s with heap:=s.heap,toks:=s.toks }:=I.write (x:=a) (e:=a) (by rw[h];exact True.intro) (.inl rfl) (λb u _ q=>q) ⟨_,e⟩ ⟨e,z,its,n,r,e⟩
 exact⟨_,I2⟩
section
variable{X:Cx}{tg:Expr}
def LK(K:Frag)(td:TE):TI:=λσ H R=>td σ H λx H1=>∃a vs,x=.ref a/\((H1 a=some (.lst vs)/\∀o,R (Itl K a) (upd H1 a (.QX o (.lst vs)))) \/ ∃o,H1 a=some (.QX o (.lst vs))/\R (Itl K a) H1)
def IU{d:Expr}{td:TE}(hd:PE X d td):PI X tg d (LK X.K td):=by
 intro pins s σ H R I h;refine PX (hd pins s σ H _ I h) λu s1 zq=>?_;obtain⟨x,H1,I1,rx,a,vs,ex,q1⟩:=zq;subst ex;obtain rfl:u=Value.ref a:=rx
 have main:∀(H2:Hp)(o:Obj),Inv X pins σ H2 s1->H2 a=some (.QX o (.lst vs))->R (Itl X.K a) H2->wpAny (model X.prog X.w) X.A (pyIter (.ref a)) (PIE X pins σ tg R) X.xe s1:=λH2 o I2 hH2 q=>by
  obtain⟨its,rv,p,hz⟩:=I2.list (xs:=vs) (.inl (.inr ⟨o,hH2⟩));refine Qf p.isList ?_;refine⟨s1.heap.objs.size,[s1.heap.objs.size],_,_,H2,rfl,I2.kept (t':=s1.toks) λb o e=>Y7 _ e,rM a _,⟨_,Ye _ rfl,rfl,rfl⟩,λb hb=>?_,q⟩
  have e:b=s1.heap.objs.size:=by simpa using hb
  subst e;exact I2.Tq (Yh _) (I2.hok.fresh (Yh _))
 rcases q1 with⟨hH,q⟩|⟨o,hH,q⟩
 .obtain⟨o,I2⟩:=I1.ZJ hH;exact main _ o I2 aU (q o)
 .exact main _ o I1 hH q
end
end L2
namespace PD
open PySem PySem.Spec PyProof.Rows L2
def yN(m:EM):AM:=λr S=>(m r S).bind λd S1=>match d with
 |.ref n=>match S1[n]? with
  |some (.lst xs)=>.ok xs (S1.set n (.RP xs))
  |some (.RP xs)=>.ok xs S1
  |_=>.bad
 |_=>.bad
def DH{K:Frag}{w:Wd}{H:Hp}{a:Addr}{o:Obj}{ds:List D}{vs:List V}(hst:∀w' H',Ext w H w' H'->H' a=some (.QX o (.lst vs)))(q:PJ K w H ds vs):RI K w H ds (Itl K a):=by
 intro i w' H' x';have q':=PJ.ext x' _ _ q;have sq:Rm K H' a vs:=.inl (.inr ⟨o,hst w' H' x'⟩)
 refine⟨λhi=>⟨⟨vs,vs[i]'(by rw[q.length];exact hi),sq,Yk _⟩,λx Xb y=>?_⟩,λhi=>⟨vs,sq,by rw[q.length];exact hi⟩⟩
 obtain⟨rfl,y⟩:=y;refine⟨.inl rfl,λS _=>⟨ds[i],Yk hi,?_⟩⟩;obtain⟨v,e,rv⟩:=q'.get (Yk hi);rw[y vs sq]at e;cases e;exact rv
section
variable{X:Cx}{E:XK}
def DI{tg:Expr}{d:Expr}{md:EM}(ha:SE X E d md):SI X E tg d (yN md):=⟨
 eI (IU ha.out) λs H Q zq=>QR zq λw r S hr hS hp=>⟨w,r,S,hr,hS,hp.bind hS λd S1 w1 H1 v x1 q1 s1 p1=>by
  cases d with
  |ref m=>
   obtain⟨pp,rfl,hp⟩:=q1.Rz;have hm:pp∈w1.st:=Zr hp;cases e:S1[m]? with
   |none=>simp only[e]at p1;exact p1.elim
   |some ob=>
    obtain⟨p',hp',ro⟩:=s1.obj _ _ e;rw[hp]at hp';cases hp';cases ob with
    |lst xs=>
     simp only[e]at p1;obtain⟨vs,hv,rk⟩:=ro;refine⟨pp,vs,rfl,.inl ⟨hv,λo=>?_⟩⟩;have rk':=PJ.ext (Ext.mut hm hv (o:=.QX o (.lst vs))) _ _ rk;exact aF.at p1 (Ext.mut hm hv) (DH (λw' H' x'=>x'.QX _ _ _ aU) rk') (s1.mut hp hv ⟨o,vs,aU,rk'⟩)
    |RP xs=>
     simp only[e]at p1;obtain⟨o,vs,hv,rk⟩:=ro;exact⟨pp,vs,rfl,.inr ⟨o,hv,aF.ret p1 (DH (λw' H' x'=>x'.QX _ _ _ hv) rk) s1⟩⟩
    |PN xs=>simp only[e]at p1;exact p1.elim
    |P0 xs=>simp only[e]at p1;exact p1.elim
    |ins c fs=>simp only[e]at p1;exact p1.elim
  |_=>exact p1.elim⟩⟩
end
end PD
namespace L2
open PySem PySem.Spec PyProof.Rows
def DJ(v a:Addr):Heap->Prop:=λh=>h.get? v=some { cls:=.type "dict_values",data:=.fields #[.ref a] }
section
variable{X:Cx}
def KJ(td:TE):TE:=λσ H Q=>td σ H λx H1=>∃a us,x=.ref a/\Rd H1 a (.dK us)/\∀v,H1 v=none->Q (.ref v) (upd H1 v (.ext (DJ v a)))
def F8{d:Expr}{td:TE}{apos pos:Pos}(hd:PE X d td)(hbase:attributeBase d "values" X.env (eval d X.env)=eval d X.env:=by kernel_rfl)(hline:(apos.endLine == pos.line)=true:=by kernel_rfl)
  (hfew:((backTo pos (starEach [] X.env)).all (λx=>!x.1)&&(backToKw pos (keywordEach [] X.env)).all (λx=>x.1.isSome)&&decide (([]:List Expr).length+([]:List Keyword).length+(if ([]:List Keyword).isEmpty then 0 else 1)<30))=true:=by kernel_rfl):
  PE X (.Call (.Attribute d "values" apos) [] [] pos) (KJ td):=by
 intro pins s σ H Q I h;refine M9 (T:="dict") (id:="dict.values") hbase hfew hline F.plainAttrs_dict F.slot_dict_values F.type_dict_values (PX (hd pins s σ H _ I h) λu s1 zq=>?_)
 obtain⟨x,H1,I1,rx,a,us,ex,rd,q⟩:=zq;subst ex;obtain rfl:u=Value.ref a:=rx;obtain⟨t1,t2,t3⟩:=yx I1 (a:=a) (.inl ⟨us,rd⟩);obtain⟨z,hdd,vs,rel,dd⟩:=kO I1.hok rd;refine⟨t1,t2,?_⟩;show wpAny _ _ (callWith pos (.builtin "dict.values") [.ref a] [] []) _ _ s1
 refine method_meetsIn F.slot_dict_values F.entry_dict_values rfl (PySem.evalArgs_none ⟨rfl,t1,F.args_dict_values_1 _,_,meets_dict_values (bA X.prog X.w) a t3,⟨vs,dd⟩,?_⟩);refine⟨.ref s1.heap.objs.size,_,I1.laid (t':=s1.toks) (a:=s1.heap.objs.size) (o:=.ext (DJ s1.heap.objs.size a)) (λb u e=>Y7 _ e) (Yh _) ⟨Ye _ rfl,⟨_,Ye _ rfl⟩,λh1 h2 e1 k=>k _ e1⟩,rfl,q _ (I1.hok.fresh (Yh _))⟩
def Ai{us:List (Key×V)}{vs:List (Key×Value)}{ns:List Int}(r:KV us vs)(h:us.map (·.2)=ns.map V.int)(i:Nat)(k:Key)(v:Value)(e:vs[i]?=some (k,v)):∃t,v=.int ((ns[i]?).getD 0) t:=by
 unfold KV at r
 induction r generalizing i ns with
 |nil=>simp at e
 | @cons p q ps qs hd tl ih=>
  cases ns with
  |nil=>simp at h
  |cons n ns=>
   rw[Y8,Y8]at h;injection h with h1 h2;cases i with
   |zero=>
    simp at e;obtain⟨_,rv⟩:=hd;rw[h1]at rv;obtain⟨t,z⟩:=rv;rw[e]at z
    exact⟨t,by simpa using z⟩
   |succ i=>simpa using ih h2 i (by simpa using e)
def IV{H:Hp}{a t:Addr}{u o:HO}(r:Rd H a u)(ht:H t=none):Rd (upd H t o) a u:=by
 rcases r with e|⟨x,e⟩
 .exact .inl (by rw[aQ (aW e ht)];exact e)
 .exact .inr ⟨x,by rw[aQ (aW e ht)];exact e⟩
def F9{pins:List (Addr×Obj)}{σ:St}{H:Hp}{s:Shared}{v a:Addr}(I:Inv X pins σ H s)(h:H v=some (.ext (DJ v a))):s.heap.get? v=some { cls:=.type "dict_values",data:=.fields #[.ref a] }:=(show ck X.prog X.w H s.heap v (.ext (DJ v a)) from I.hok v _ h).1
def BX(hc:X.calm=true):bT X (.builtin "min") (λxs H Q=>∃v a us,∃(n:Int)(ns:List Int),xs=[.ref v]/\H v=some (.ext (DJ v a))/\Rd H a (.dK us)/\us.map (·.2)=(n::ns).map V.int/\Q (.int (PD.cX n ns)) H):=by
 intro pins s σ H xs us Q I r h;obtain⟨v,a,ku,n,ns,rfl,hv,rd,hn,q⟩:=h;obtain⟨u,rfl,rx⟩:=Wi r;cases rx;obtain⟨z,hdd,vs,rel,dd⟩:=kO I.hok rd;obtain⟨ep,dat⟩:=dd.dictAt;have vw:=F9 I hv
 have la:a<s.heap.objs.size:=by obtain⟨o,es,ho,_⟩:=dat;exact Yl ho
 have hl:vs.length=(n::ns).length:=by rw[<- rel.length,<- Yi (f:=(·.2)),hn,Yi]
 refine call_min_walk (wpAny_pyIter_values (knd:=bA X.prog X.w) (d:=a) ⟨_,vw,rfl,rfl⟩ dat ?_)
 refine⟨s.heap.objs.size,[s.heap.objs.size,a],[s.heap.objs.size],vs.length,_,_,_,rfl,Walks.dictValues (knd:=bA X.prog X.w) (A:=X.A.in1) (I.ok.hd hc) _ a (Yv la) vs ep,⟨⟨_,Ye _ rfl,rfl,rfl⟩,dat.push _⟩,λb hb=>?_,by rw[hl];exact Ug _,CmpOf.ints_lt (λi=>((n::ns)[i]?).getD 0) (λi w' hP=>?_),λw' h' tk hP hk=>?_⟩
 .simp only[Yb,Yy,Zn]at hb;rw[Z2];rcases hb with rfl|rfl
  .exact Q2 _
  .exact We la
 .obtain⟨k,e⟩:=hP;exact Ai rel hn i k w' e
 .obtain⟨k,e⟩:=hP;obtain⟨t,rfl⟩:=Ai rel hn _ k w' e;obtain⟨b1,b2⟩:=argBest_lt (λi=>((n::ns)[i]?).getD 0) (vs.length-1);generalize argBest (λi j=>decide (((n::ns)[i]?).getD 0<((n::ns)[j]?).getD 0)) (vs.length-1)=m at *
  have hm:m<(n::ns).length:=by rw[hl]at b1;have:0<(n::ns).length:=Ug _;omega
  have e1:((n::ns)[m]?).getD 0∈n::ns:=by rw[Yk hm];exact List.getElem_mem hm
  have e2:∀x∈n::ns,((n::ns)[m]?).getD 0<=x:=λx hx=>by
   obtain⟨j,hj,rfl⟩:=List.mem_iff_getElem.mp hx
   have:=b2 j (by rw[hl];omega)
   rw[Yk hj]at this;exact this
  have eM:((n::ns)[m]?).getD 0=PD.cX n ns:=by
   obtain⟨⟨a1,a2⟩,a3⟩:=PD.lV ns n
   have c1:=e2 (PD.cX n ns) (by rcases a3 with e|h;rw[e];exact .head _;exact .tail _ h)
   have c2:PD.cX n ns<=((n::ns)[m]?).getD 0:=by
    rcases Yb.mp e1 with e|h
    .rw[e];exact a1
    .exact a2 _ h
   omega
  rw[eM];exact⟨.int _,H,I.kept (LSm.kept_iter hk),⟨t,rfl⟩,q⟩
end
end L2
namespace PD
open PySem PySem.Spec PyProof.Rows L2
variable{w:Wd}{H:Hp}{c:Str}{C:Addr}
def n9:List (KD×D)->Option (List Int)
 |[]=>some []
 |(_,.int i)::r=>(n9 r).map (i :: ·)
 |_=>none
def wN:Pz->D->Option D:=λS d=>match cR S d with
 |some kvs=>match n9 kvs with
  |some (n::ns)=>some (.int (cX n ns))
  |_=>none
 |none=>none
section
variable{X:Cx}{E:XK}
theorem Aj:∀{kvs:List (KD×D)}{us:List (Key×V)}{ns:List Int},QC X.K w H kvs us->n9 kvs=some ns->us.map (·.2)=ns.map V.int
 |[],us,ns,q,h=>by cases h;rw[q.nil_inv];rfl
 |(k,d)::r,us,ns,q,h=>by
  obtain⟨v,r',rfl,q1,q2⟩:=q.cons_inv;cases d with
  |int i=>
   unfold n9 at h;cases e:n9 r with
   |none=>rw[e]at h;cases h
   |some ms=>
    rw[e]at h;cases h;cases q1.int;rw[Y8,Y8,Aj q2 e]
  |_=>cases h
variable{d:Expr}{md:EM}{x:Str}{p aaO apos pos:Pos}
def Ga(hc:X.calm=true)(hg:Gl X "min")(hm:X.mg "min" = none)(ha:SE X E d md)(hbase:attributeBase d "values" X.env (eval d X.env)=eval d X.env:=by kernel_rfl)(hline:(apos.endLine == pos.line)=true:=by kernel_rfl)
  (hfew:((backTo pos (starEach [] X.env)).all (λx=>!x.1)&&(backToKw pos (keywordEach [] X.env)).all (λx=>x.1.isSome)&&decide (([]:List Expr).length+([]:List Keyword).length+(if ([]:List Keyword).isEmpty then 0 else 1)<30))=true:=by kernel_rfl)
  (he:starEach [.Call (.Attribute d "values" apos) [] [] pos] X.env=[(false,eval (.Call (.Attribute d "values" apos) [] [] pos) X.env)]:=by kernel_rfl):
  SE X E (.Call (.Name "min" p) [.Call (.Attribute d "values" apos) [] [] pos] [] aaO) (X7 wN md):=⟨
 bj (vY (BX hc) hg hm boot_min (zN (F8 ha.out hbase hline hfew) CN he) (by decide +kernel) (by decide +kernel) he rfl) λs H Q zq=>QR zq λw r S hr hS hp=>⟨w,r,S,hr,hS,hp.bind hS λdd S1 w1 H1 v x1 q1 s1 p1=>by
  obtain⟨z,hz,p⟩:=p1.of;unfold wN at hz;split at hz
  .rename_i kvs ed;split at hz
   .rename_i n ns ev;cases hz;obtain⟨pp,us,rfl,rd,rk⟩:=mW s1 q1 ed;exact⟨pp,us,rfl,rd,λt ht=>⟨t,pp,us,n,ns,rfl,aU,IV rd ht,Aj rk ev,p.at (Ext.new ht) RD.Sh (s1.new ht)⟩⟩
   .cases hz
  .cases hz⟩⟩
end
def kQ(f:Str)(v:D):List (Str×D)->List (Str×D)
 |[]=>[(f,v)]
 |(g,x)::r=>if g=f then (g,v)::r else (g,x)::kQ f v r
section
variable{K:Frag}{w w':Wd}{H H':Hp}
theorem T9.nil:T9 K w H [] []:=⟨rfl,.nil⟩
theorem T9.ext{fs:List (Str×D)}{us:List (Str×V)}(x:Ext w H w' H')(q:T9 K w H fs us):T9 K w' H' fs us:=⟨q.1,PJ.ext x _ _ q.2⟩
theorem T9.get(f:Str):∀{fs:List (Str×D)}{us:List (Str×V)},T9 K w H fs us->(∀d,fs.lookup f=some d->∃v,us.lookup f=some v/\RD K w H d v)/\(fs.lookup f=none->us.lookup f=none)
 |[],us,q=>by
  have:us=[]:=by have:=Ql List.length q.1;simpa using this.symm
  rw[this]
  exact⟨λd h=>(by cases h),λ_=>rfl⟩
 |(g,d)::fs,us,q=>by
  obtain⟨q1,q2⟩:=q;cases us with
  |nil=>cases q1
  |cons u us=>
   rw[Y8,Y8]at q1 q2;injection q1 with e1 e2;obtain⟨v,r,e,p,t⟩:=q2.cons_inv
   injection e with e3 e4;subst e4;obtain⟨h1,h2⟩:=T9.get f (fs:=fs) (us:=us) ⟨e2,t⟩
   have eg:u.1=g:=e1.symm;rw[<- e3]at p;obtain⟨ug,uv⟩:=u
   cases (show ug=g from eg)
   rw[Qo,Qo];cases hg:f == g with
   |true=>exact⟨λd' h=>by cases h;exact⟨uv,rfl,p⟩,λh=>by cases h⟩
   |false=>exact⟨h1,h2⟩
theorem T9.put(f:Str){d:D}{v:V}(hd:RD K w H d v):∀{fs:List (Str×D)}{us:List (Str×V)},T9 K w H fs us->T9 K w H (kQ f d fs) (iG f v us)
 |[],us,q=>by
  have:us=[]:=by have:=Ql List.length q.1;simpa using this.symm
  rw[this];exact⟨rfl,.cons hd .nil⟩
 |(g,e)::fs,us,q=>by
  obtain⟨q1,q2⟩:=q;cases us with
  |nil=>cases q1
  |cons u us=>
   rw[Y8,Y8]at q1 q2;injection q1 with e1 e2;obtain⟨v',r,e',p,t⟩:=q2.cons_inv
   injection e' with e3 e4;subst e4;rw[<- e3]at p;obtain⟨ug,uv⟩:=u
   cases (show ug=g from e1.symm)
   unfold kQ iG;by_cases hg:g=f
   .rw[Y9 hg,Y9 hg]
    exact⟨by rw[Y8,Y8,e2],.cons hd t⟩
   .rw[Yj hg,Yj hg];obtain⟨a,b⟩:=T9.put f hd (fs:=fs) (us:=us) ⟨e2,t⟩
    exact⟨by rw[Y8,Y8,a],.cons p b⟩
def T9.len{fs:List (Str×D)}{us:List (Str×V)}(q:T9 K w H fs us):us.length=fs.length:=by have:=Ql List.length q.1;simpa using this.symm
end
def ZK(K:Frag)(c:Str):Prop:=∃C,nsIn K mainGlobals c=some (some (.ref C))/\L2.Tr K C
def NoA(K:Frag)(c f:Str):Prop:=∃C,nsIn K mainGlobals c=some (some (.ref C))/\k6 K C f
structure Rh(P:Program)(w:World)(K:Frag)(mg:Str->Option Value)(base:Heap)(c m:Str)(k n:Nat)(f:FM):Prop where
 ex:∃(C fa:Addr)(fd:FuncData)(ps:List Str),nsIn K mainGlobals c=some (some (.ref C))/\L2.Tr K C/\Meth K C m fa/\Binds K fd ps []/\Rb P w K mg base (UW P w) k fa fd ps (YB K n f)
structure WN(P:Program)(w:World)(K:Frag)(mg:Str->Option Value)(base:Heap)(c:Str)(k:Nat)(f:FM):Prop where
 ex:∃(C fa:Addr)(fd:FuncData)(ps:List Str),nsIn K mainGlobals c=some (some (.ref C))/\mg c=some (.ref C)/\Mk K C fa/\Binds K fd ps []/\Rb P w K mg base (UW P w) k fa fd ps (YB K 1 f)
def iM(c:Str)(S:Pz):D->Option (Nat×List (Str×D))
 |.ref n=>match S[n]? with
  |some (.ins c' fs)=>if c'=c then some (n,fs) else none
  |_=>none
 |_=>none
def jD(c f:Str)(a:EM):EM:=λr S=>(a r S).bind λx S1=>match iM c S1 x with
 |some (_,fs)=>R.of S1 (fs.lookup f)
 |none=>.bad
def lY(c f:Str)(o v:EM):SM:=λr S=>(v r S).bind λy S1=>(o r S1).bind λx S2=>match iM c S2 x with
 |some (n,fs)=>if fs.length<1000 then .ok (.nx r) (S2.set n (.ins c (kQ f y fs))) else .bad
 |none=>.bad
def dy(c m:Str)(f:FM)(o:EM)(t:AM):EM:=λr S=>(o r S).bind λx S1=>match iM c S1 x with
 |some (_,fs)=>if fs.lookup m=none then (t r S1).bind λds S2=>f (x::ds) S2 else .bad
 |none=>.bad
def rp(c:Str)(f:FM):EM:=λ_ S=>(f [.ref S.length] (S++[.ins c []])).bind λd S1=>match d with
 |.non=>.ok (.ref S.length) S1
 |_=>.bad
def yO{K:Frag}{S:Pz}{d:D}{v:V}{n:Nat}{fs:List (Str×D)}(hS:RS K w H S)(q:RD K w H d v)(h:iM c S d=some (n,fs)):∃p C dx us,v=.ref p/\w.st[n]?=some p/\d=.ref n/\S[n]?=some (.ins c fs)/\nsIn K mainGlobals c=some (some (.ref C))/\H p=some (.ins C dx us)/\T9 K w H fs us:=by
 unfold iM at h;split at h
 .rename_i m;split at h
  .rename_i c' fs' e;split at h
   .rename_i hc;subst hc;cases h;obtain⟨p,rfl,hp⟩:=q.Rz;obtain⟨p',hp',C,dx,us,ns,hv,r⟩:=hS.obj _ _ e;rw[hp]at hp';cases hp';exact⟨p,C,dx,us,rfl,hp,rfl,e,ns,hv,r⟩
   .cases h
  .cases h
 .cases h
section
variable{X:Cx}{E:XK}{c f m x:Str}{a b o v:Expr}{ma mo mv:EM}{es:List Expr}{ms:AM}{k n:Nat}{F:FM}{p pos apos tpos:Pos}
def iq(hc:ZK X.K c)(hn:NoA X.K c f)(ha:SE X E a ma)(hb:attributeBase a f X.env (eval a X.env)=eval a X.env:=by kernel_rfl):SE X E (.Attribute a f pos) (jD c f ma):=⟨
 bj (Ic ha.out hb) λs H Q zq=>QR zq λw r S hr hS hp=>⟨w,r,S,hr,hS,hp.bind hS λd S1 w1 H1 u x1 q1 s1 p1=>by
  cases e:iM c S1 d with
  |none=>simp only[e]at p1;exact p1.elim
  |some z=>
   obtain⟨n,fs⟩:=z;simp only[e]at p1;obtain⟨y,hy,p⟩:=p1.of;obtain⟨pp,C,dx,us,rfl,hpp,rfl,hs,ns,hv,rf⟩:=yO s1 q1 e;obtain⟨C1,n1,c1⟩:=hc;obtain⟨C2,n2,c2⟩:=hn;rw[ns]at n1 n2;cases n1;cases n2;obtain⟨vv,h1,h2⟩:=(rf.get f).1 y hy
   exact⟨pp,C,dx,us,vv,rfl,hv,c1,c2,h1,p.ret h2 s1⟩⟩⟩
def uQ(hc:ZK X.K c)(hn:NoA X.K c f)(ho:SE X E o mo)(hv:SE X E v mv)(hs:swapsWith v (some (.Attribute o f tpos)) pos.line X.env=pure false:=by kernel_rfl):SS X E (.Assign [.Attribute o f tpos] v pos) (lY c f mo mv):=⟨
 eE (Ie ho.out hv.out hs) λD s H zq=>QR zq λw r S hr hS hp=>⟨w,r,S,hr,hS,hp.bind hS λy S1 w1 H1 vy x1 q1 s1 p1=>⟨w1,r,S1,hr.ext x1,s1,p1.bind s1 λd S2 w2 H2 u x2 q2 s2 p2=>by
  cases e:iM c S2 d with
  |none=>simp only[e]at p2;exact p2.elim
  |some z=>
   obtain⟨n,fs⟩:=z;simp only[e]at p2;by_cases hl:fs.length<1000
   .rw[Y9 hl]at p2;obtain⟨pp,C,dx,us,rfl,hpp,rfl,hs,ns,hv,rf⟩:=yO s2 q2 e;obtain⟨C1,n1,c1⟩:=hc;obtain⟨C2,n2,c2⟩:=hn;have n1':=n1;rw[ns]at n1 n2;cases n1;cases n2;have hm:pp∈w2.st:=Zr hpp
    refine⟨pp,C,dx,us,rfl,hv,c1,c2,by rw[rf.len];exact hl,?_⟩
    have rf':T9 X.K w2 (upd H2 pp (.ins C dx (iG f vy us))) (kQ f y fs) (iG f vy us):=T9.ext (Ext.mut hm hv) (rf.put f (RD.ext x2 _ _ q1));exact aF.at (b:=FV.nx s) p2 (Ext.mut hm hv) ⟨s,rfl,((hr.ext x1).ext x2).ext (Ext.mut hm hv)⟩ (s2.mut hpp hv ⟨C,dx,_,n1',aU,rf'⟩)
   .rw[Yj hl]at p2;exact p2.elim⟩⟩⟩
theorem wO{sp:Sp}{r:Rp}{S:Pz}{Q:VK}{s:L2.St}(ns:nsIn X.K mainGlobals c=some (some (.ref C)))(hn:wu ms n)(hr:Rq X.K w H r s)(hS:RS X.K w H S)(hp:aF X.K E (RD X.K) w H (dy c m F mo ms r S) Q)
  (hsp:∀(vs:List V)(H2:Hp),vs.length=n+1->(∃w2 S2 ds,RS X.K w2 H2 S2/\PJ X.K w2 H2 ds vs/\aF X.K E (RD X.K) w2 H2 (F ds S2) Q)->sp vs H2 Q E):
  aF X.K E (RD X.K) w H (mo r S) λx H1=>∃a dx fs,x=.ref a/\H1 a=some (.ins C dx fs)/\fs.lookup m=none/\uA X.K E ms s H1 λvs H2=>sp (x::(vs++[])) H2 Q E:=by
 refine aF.bind (r:=mo r S) hp hS λd S1 w1 H1 u x1 q1 s1 p1=>?_;cases e:iM c S1 d with
 |none=>simp only[e]at p1;exact p1.elim
 |some z=>
  obtain⟨i,fs⟩:=z;simp only[e]at p1;by_cases hl:fs.lookup m=none
  .rw[Y9 hl]at p1;obtain⟨pp,C',dx,us,rfl,hpp,rfl,hs,ns',hv,rf⟩:=yO s1 q1 e;rw[ns]at ns';cases ns';refine⟨pp,dx,us,rfl,hv,(rf.get m).2 hl,w1,r,S1,hr.ext x1,s1,?_⟩;cases ea:ms r S1 with
   |bad=>rw[ea]at p1;exact p1.elim
   |err y S'=>rw[ea]at p1;exact p1
   |ok ds S'=>
    rw[ea]at p1;intro w2 H2 vs x2 q2 s2;rw[Qi]
    exact hsp _ _ (by rw[Yn,q2.length,hn r S1 ds S' ea]) ⟨w2,S',.ref i::ds,s2,.cons (RD.ext x2 _ _ q1) q2,aF.ext (r:=F (.ref i::ds) S') p1 x2 s1 s2⟩
  .rw[Yj hl]at p1;exact p1.elim
def dh{pl:Sem Bool}(M:Rh X.prog X.w X.K X.mg X.base c m k (n+1) F)(hr:PQ k X.A)(ho:SE X E0 o mo)(ha:SA X E0 (a::es) ms)(hn:wu ms n)
  (hst:starEach (a::es) X.env=(false,eval a X.env)::starEach es X.env:=by kernel_rfl) (hpl:(backTo pos (starEach es X.env)).any (·.1)=false:=by kernel_rfl)
  (ht:eval (.Call (.Attribute o m apos) (a::es) [] pos) X.env=(do
   let ov <- eval o X.env
   standAt apos.atName
   let (g,first) <- holding [ov] (getMethod ov m pl)
   callWith pos g first (backTo pos (starEach (a::es) X.env)) (backToKw pos (keywordEach [] X.env))):=by rfl):SE X E0 (.Call (.Attribute o m apos) (a::es) [] pos) (dy c m F mo ms):=by
 obtain⟨C,fa,fd,ps,ns,hc,hm,hb,Fo⟩:=M.ex;exact⟨bj (Fp ho.out hc hm Fo hr hb (Su:=[]) .nil gy ha.out hst hpl ht) λs H Q zq=>QR zq λw r S hr hS hp=>⟨w,r,S,hr,hS,wO ns hn hr hS hp λvs H2 hl h=>⟨hl,h⟩⟩⟩
theorem wQ{pl:Sem Bool}(M:Rh X.prog X.w X.K X.mg X.base c m k 1 F)(hr:PQ k X.A)(ho:SE X E0 o mo)
  (ht:eval (.Call (.Attribute o m apos) [] [] pos) X.env=(do
   let ov <- eval o X.env
   standAt apos.atName
   let (g,first) <- holding [ov] (getMethod ov m pl)
   callWith pos g first (backTo pos (starEach [] X.env)) (backToKw pos (keywordEach [] X.env))):=by rfl):SE X E0 (.Call (.Attribute o m apos) [] [] pos) (dy c m F mo ak):=by
 obtain⟨C,fa,fd,ps,ns,hc,hm,hb,Fo⟩:=M.ex;refine⟨bj (CP ho.out hc hm Fo hr hb (Su:=[]) .nil gy ht) λs H Q zq=>QR zq λw r S hr hS hp=>⟨w,r,S,hr,hS,?_⟩⟩;have z:=wO (n:=0) (sp:=YB X.K 1 F) (E:=E0) ns av hr hS hp λvs H2 hl h=>⟨hl,h⟩;cases e:mo r S with
 |bad=>rw[e]at z;exact z
 |err y S'=>rw[e]at z;exact z
 |ok d S'=>
  rw[e]at z;intro w1 H1 u x1 q1 s1;obtain⟨a,dx,fs,e1,e2,e3,w2,r2,S2,_,s2,pp⟩:=z w1 H1 u x1 q1 s1;exact⟨a,dx,fs,e1,e2,e3,aF.ret (a:=([]:List D)) (b:=([]:List V)) pp .nil s2⟩
def uR(M:WN X.prog X.w X.K X.mg X.base c k F)(hr:PQ (k+1) X.A)(hg:Gl X c)(hdb:(c == ("__debug__":Str))=false:=by decide +kernel):SE X E0 (.Call (.Name c p) [] [] pos) (rp c F):=by
 obtain⟨C,fa,fd,ps,ns,hmg,hm,hb,Fo⟩:=M.ex;refine⟨bj (CS hm Fo hr hg hmg hb (Su:=[]) .nil gy hdb) λs H Q zq=>?_⟩;obtain⟨w,r,S,hr,hS,hp⟩:=zq;intro y dx hy hdx hne
 have hy':(upd H dx (.own y)) y=none:=by rw[aQ (Ne.symm hne)];exact hy
 have s0:RS X.K w (upd H dx (.own y)) S:=hS.new hdx;have s1:RS X.K (w.add y) (upd (upd H dx (.own y)) y (.ins C dx [])) (S++[.ins c []]):=s0.alloc hy' ⟨C,dx,[],ns,aU,.nil⟩;have x1:Ext w H (w.add y) (upd (upd H dx (.own y)) y (.ins C dx [])):=(Ext.new hdx).trans' (Ext.alloc hy') hS s0
 have hp1:aF X.K E0 (RD X.K) (w.add y) (upd (upd H dx (.own y)) y (.ins C dx [])) ((F [.ref S.length] (S++[.ins c []])).bind λd S1=>match d with
  |.non=>.ok (.ref S.length) S1
  |_=>.bad) Q:=aF.ext hp x1 hS s1
 refine⟨rfl,w.add y,S++[.ins c []],[.ref S.length],s1,.cons s0.Sx .nil,?_⟩;refine aF.bind (r:=F [.ref S.length] (S++[.ins c []])) hp1 s1 λd S2 w2 H2 u x2 q2 s2 p2=>?_;cases d with
 |non=>
  refine⟨?_,aF.ret p2 (RD.ext x2 _ _ s0.Sx) s2⟩;unfold RD at q2;exact q2
 |_=>exact p2.elim
end
section
variable{P:Program}{w:World}{K:Frag}{mg:Str->Option Value}{base:Heap}
def lZ{x q:Str}{st:Stmt}{f:Addr}{fd:FuncData}{m:SM}(N ps:List Str)(k k1 n0 n1:Nat)(hk:k1=k+1)(h0:n0=ps.length)(h1:n1=N.length)(F:QJ K x q st f fd)(ns:nsIn K mainGlobals c=some (some (.ref C)))(hc:L2.Tr K C)(hm:Meth K C x f)(hb:Binds K fd ps [])(S:Py N ps (Pr st))
  (hbody:∀(cdv:Value)(A:Around)(outer:List Env)(s:Shared)(H:Hp)(E:XK),PQ k (A.deeper (envOfC q (Pr st) s.heap.objs.size f cdv))->
   Xf (qY (UW P w) P w K mg base N q (Pr st) f cdv A outer s H E).nox E0 (QL st) m):Rh P w K mg base c x k1 n0 (QB n1 m):=by
 subst hk h0 h1;exact⟨C,f,fd,ps,ns,hc,hm,hb,uD F S hbody⟩
def DK{q:Str}{st:Stmt}{f:Addr}{fd:FuncData}{m:SM}(N ps:List Str)(k k1 n1:Nat)(hk:k1=k+1)(h0:1=ps.length)(h1:n1=N.length)(F:QJ K "__init__" q st f fd)(ns:nsIn K mainGlobals c=some (some (.ref C)))(hmg:mg c=some (.ref C))(hm:Mk K C f)(hb:Binds K fd ps [])(S:Py N ps (Pr st))
  (hbody:∀(cdv:Value)(A:Around)(outer:List Env)(s:Shared)(H:Hp)(E:XK),PQ k (A.deeper (envOfC q (Pr st) s.heap.objs.size f cdv))->
   Xf (qY (UW P w) P w K mg base N q (Pr st) f cdv A outer s H E).nox E0 (QL st) m):WN P w K mg base c k1 (QB n1 m):=by
 subst hk h1;have z:=uD F S hbody;rw[<- h0]at z;exact⟨C,f,fd,ps,ns,hmg,hm,hb,z⟩
end
def BY:List D->Option (Int×Int)
 |[.int i,.int j]=>if -(2^62)<=i/\i<2^62/\-(2^62)<=j/\j<2^62 then some (i,j) else none
 |_=>none
def DL{xs:List D}{i j:Int}(h:BY xs=some (i,j)):xs=[.int i,.int j]/\(-(2^62)<=i/\i<2^62/\-(2^62)<=j/\j<2^62):=by
 unfold BY at h;split at h
 .split at h
  .rename_i hb;cases h;exact⟨rfl,hb⟩
  .cases h
 .cases h
def kq(t:AM):AM:=λr S=>(t r S).bind λxs S1=>match BY xs with
 |some (i,j)=>.ok ((List.range (j-i).toNat).map λ(m:Nat)=>D.int (i+m)) S1
 |none=>.bad
section
variable{X:Cx}{E:XK}{a b:Expr}{pos:Pos}
def BZ{tg:Expr}{ms:AM}{p:Pos}(hg:Gl X "range")(hm:X.mg "range" = none)(ha:SA X E [a,b] ms)(hs:starEach [a,b] X.env=[(false,eval a X.env),(false,eval b X.env)]:=by kernel_rfl)(hs2:starEach [b] X.env=[(false,eval b X.env)]:=by kernel_rfl):SI X E tg (.Call (.Name "range" p) [a,b] [] pos) (kq ms):=⟨
 eI (Bl hg hm ha.out hs hs2) λs H Q zq=>QR zq λw r S hr hS hp=>⟨w,r,S,hr,hS,hp.bind hS λds S1 w1 H1 vs x1 q1 s1 p1=>by
  cases hq:BY ds with
  |none=>rw[hq]at p1;exact p1.elim
  |some ij=>
   obtain⟨i,j⟩:=ij;rw[hq]at p1;obtain⟨rfl,hb⟩:=DL hq;obtain⟨v1,rest,rfl,a1,q1⟩:=q1.cons_inv;obtain⟨v2,rfl,a2⟩:=q1.PK;unfold RD at a1 a2;subst a1 a2;refine⟨i,j,rfl,hb,aF.ret p1 ?_ s1⟩;intro m w' H' x'
   refine⟨λhi=>⟨show m<(j-i).toNat by simpa using hi,λx Xb y=>?_⟩,λhi=>show(j-i).toNat<=m by simpa using hi⟩
   obtain⟨rfl,rfl⟩:=y;refine⟨.inl rfl,λS _=>⟨.int (i+m),?_,?_⟩⟩
   .have:m<(j-i).toNat:=by simpa using hi
    simp[this]
   .unfold RD;rfl⟩⟩
end
def cY:Pz->List D->Option D
 |_,[.int i]=>if i.natAbs.log2<1920 then some (.str (toString i)) else none
 |_,_=>none
def uU:Pz->D->D->Option D
 |_,.str z,.int i=>if z.length<=sizeLine then (Tt z.cps.toList i).map λc=>.str ⟨#[c]⟩ else none
 |S,x,y=>QV S x y
def uV(neg:Bool):Pz->D->D->Option D
 |_,.str i,.str j=>some (.bl (if neg then !(!(Builtin.Str.occurrences j i 0 j.length 1).isEmpty) else !(Builtin.Str.occurrences j i 0 j.length 1).isEmpty))
 |S,x,y=>oIn neg S x y
def strsOf:List D->Option (List Str)
 |[]=>some []
 |.str x::r=>(strsOf r).map (x :: ·)
 |_=>none
def og:Pz->D->List D->R D
 |S,.str x,[.lst a]=>match strsOf a with
  |some ys=>if (ys.map (·.length)).sum+ys.length*x.length<=16777216 then .ok (.str (Txt.join x ys)) S else .bad
  |none=>.bad
 |_,_,_=>.bad
def pX:Pz->D->List D->R D
 |S,.str x,[.int i]=>if PadOk i=true then .ok (.str (Txt.zfill x i)) S else .bad
 |_,_,_=>.bad
def di:Pz->D->List D->R D
 |S,.str x,[.str y]=>.ok (.bl (Txt.startswith x y)) S
 |_,_,_=>.bad
section
variable{X:Cx}{E:XK}
def cV:bT X (.type "str") (xC X.K E cY):=by
 rintro pins s σ H xs us Q I r ⟨w,S,ds,hS,qs,p⟩;obtain⟨z,hz,p'⟩:=p.of;clear p;unfold cY at hz;split at hz
 .split at hz
  .rename_i hl;cases hz;obtain⟨v,rfl,q⟩:=qs.PK;cases q.int;exact tW pins s σ H _ us Q I r ⟨_,rfl,hl,p'.ret RD.Xx hS⟩
  .cases hz
 .cases hz
def yP:UL X (xO X.K E uU):=by
 rintro va sl pins s σ H x y v u Q I rx ry ⟨w,S,d,e,hS,qd,qe,p⟩ hsub;unfold uU at p;split at p
 .rename_i z i;split at p
  .rename_i hl;obtain⟨c0,hc,p'⟩:=p.of;cases ha:Tt z.cps.toList i with
   |none=>rw[ha]at hc;cases hc
   |some c=>
    rw[ha]at hc;cases hc;cases qd.str;cases qe.int;exact CV va sl pins s σ H _ _ v u Q I rx ry (.inr (.inr ⟨z,i,c,rfl,rfl,hl,ha,p'.ret RD.Xx hS⟩)) hsub
  .obtain⟨_,hc,_⟩:=p.of;cases hc
 .exact cG va sl pins s σ H x y v u Q I rx ry ⟨w,S,_,_,hS,qd,qe,p⟩ hsub
def DM:QS X (compareOp .In) (xO X.K E (uV false)):=by
 rintro pins s σ H x y v u Q I rx ry ⟨w,S,d,e,hS,qd,qe,p⟩;unfold uV at p;split at p
 .rename_i i j;cases qd.str;cases qe.str;exact Bn pins s σ H _ _ v u Q I rx ry ⟨i,j,rfl,rfl,p.ret RD.Tv hS⟩
 .exact Di pins s σ H x y v u Q I rx ry ⟨w,S,_,_,hS,qd,qe,p⟩
theorem Ak{K:Frag}:∀{ds:List D}{vs:List V}{its:List Value}{ys:List Str},PJ K w H ds vs->Vals vs its->strsOf ds=some ys->StrsAre its ys
 |[],vs,its,ys,q,r,e=>by cases q.nil_inv;cases r;cases e;exact .nil
 |d::ds,vs,its,ys,q,r,e=>by
  obtain⟨v,vs',rfl,q1,q2⟩:=q.cons_inv;cases r with
  |cons r1 r2=>
   cases d with
   |str x=>
    cases e2:strsOf ds with
    |none=>unfold strsOf at e;rw[e2]at e;cases e
    |some zs=>
     unfold strsOf at e;rw[e2]at e;cases e;cases q1.str;obtain⟨t,rfl⟩:=r1;exact .cons _ _ (Ak q2 r2 e2)
   |_=>unfold strsOf at e;cases e
def Al:MtR X "str.join" (xM X.K E og):=by
 rintro pins s σ H x xs v us Q I rx rs ⟨w,S,d,ds,hS,qd,qs,p⟩;unfold og at p;split at p
 .rename_i x0 a;split at p
  .rename_i ys hy;split at p
   .rename_i hl;cases qd.str;obtain⟨yv,rfl,qy⟩:=qs.PK;obtain⟨pa,vs,rfl,za,ra⟩:=qy.R6;obtain⟨t,rfl⟩:=rx;obtain⟨u,rfl,ru⟩:=Wi rs;cases ru;obtain⟨its,r1,⟨o,n,ho,hcl,hdn,hd⟩,_⟩:=I.list (Rm.of za.1);have hli:s.heap.IsList pa its.toArray:=⟨o,ho,hcl,n,hd⟩;exact join_list hli (Ak ra r1 hy) hl λt' k=>⟨.str _,H,I.tok _,⟨_,rfl⟩,p.ret RD.Xx hS⟩
   .exact p.elim
  .exact p.elim
 .exact p.elim
def wR:MtR X "str.zfill" (xM X.K E pX):=by
 rintro pins s σ H x xs v us Q I rx rs ⟨w,S,d,ds,hS,qd,qs,p⟩;unfold pX at p;split at p
 .rename_i x0 i;split at p
  .rename_i hl;cases qd.str;obtain⟨yv,rfl,qy⟩:=qs.PK;cases qy.int;obtain⟨t,rfl⟩:=rx;obtain⟨u,rfl,ru⟩:=Wi rs;obtain⟨t2,rfl⟩:=ru;exact SC.zfill hl λt' k=>⟨.str _,H,I.tok _,⟨_,rfl⟩,p.ret RD.Xx hS⟩
  .exact p.elim
 .exact p.elim
def sD:MtR X "str.startswith" (xM X.K E di):=by
 rintro pins s σ H x xs v us Q I rx rs ⟨w,S,d,ds,hS,qd,qs,p⟩;unfold di at p;split at p
 .rename_i x0 y0;cases qd.str;obtain⟨yv,rfl,qy⟩:=qs.PK;cases qy.str;obtain⟨t,rfl⟩:=rx;obtain⟨u,rfl,ru⟩:=Wi rs;obtain⟨t2,rfl⟩:=ru;exact SC.startswith ⟨.bl _,H,I,rfl,p.ret RD.Tv hS⟩
 .exact p.elim
def fk(f:Pz->D->List D->R D)(o:EM)(t:AM):EM:=λr S=>(o r S).bind λx S1=>match x with
 |.str _=>(t r S1).bind λys S2=>f S2 x ys
 |_=>.bad
theorem gG{o e:Expr}{es:List Expr}{mo:EM}{ms:AM}{name:Str}{apos cpos:Pos}{id:String}{f:Pz->D->List D->R D}(pa:PlainAttrs "str")(slot:Slot "str" name id)(hty:typeOf (.builtin id)=pure (.type "method_descriptor"))(hm:MtR X id (xM X.K E f))
  (ho:SE X E o mo) (ha:SA X E (e::es) ms) (hbase:attributeBase o name X.env (eval o X.env)=eval o X.env:=by kernel_rfl)
  (hfew:((backTo cpos (starEach (e::es) X.env)).all (λx=>!x.1)&&(backToKw cpos (keywordEach [] X.env)).all (λx=>x.1.isSome)
   && decide ((e::es).length+([]:List Keyword).length+(if ([]:List Keyword).isEmpty then 0 else 1)<30))=true:=by kernel_rfl)
  (hline:(apos.endLine == cpos.line)=true:=by kernel_rfl) (hs:starEach (e::es) X.env=(false,eval e X.env)::starEach es X.env:=by kernel_rfl) (hplain:(backTo cpos (starEach es X.env)).any (·.1)=false:=by kernel_rfl):
  SE X E (.Call (.Attribute o name apos) (e::es) [] cpos) (fk f mo ms):=⟨
 bj (G9 pa slot hty hm ho.out ha.out hbase hfew hline hs hplain) λs H Q zq=>QR zq λw r S hr hS hp=>⟨w,r,S,hr,hS,hp.bind hS λd S1 w1 H1 v x1 q1 s1 p1=>by
  cases d with
  |str z=>
   cases q1.str;exact⟨rfl,w1,r,S1,hr.ext x1,s1,aF.bind (f:=λys S2=>f S2 (.str z) ys) p1 s1 λds S2 w2 H2 us x2 q2 s2 p2=>⟨w2,S2,.str z,ds,s2,RD.Xx,q2,p2⟩⟩
  |_=>exact p1.elim⟩⟩
end
end PD
namespace L2
open PySem PySem.Spec PyProof.Rows
section
open Builtin Builtin.Str
theorem DN{prog:Program}{w:World}{A:Around}{E:Value->Shared->Prop}{s:Shared}{x y:Str}{t u:Tok}{Q:Value->Shared->Prop}(hy:(y.length == 0)=false)(hsz:x.length<=sizeLine)(hsz2:(partsBetween x (occurrences x y 0 x.length (x.length+1)) y.length).length<=sizeLine)
  (hq:∀(l:List (Str×Tok))(k:Nat),l.map (·.1)=Txt.split x y->Q (.ref s.heap.objs.size) { s with heap:=s.heap.push { cls:=.type "list",data:=.seq (strValues l).toArray },toks:=k }):
  wpAny (model prog w) A (call (.builtin "str.split") [.str x t,.str y u]) Q E s:=by
 have go {C:PySem.Spec} (m:Meets («str.split» ⟨[.str x t,.str y u],[]⟩) C):=Vd (prog:=prog) (w:=w) (A:=A) (E:=E) (s:=s) (Q:=Q) (rest:=[.str y u]) F.slot_str_split (typeIs_str s x t) F.entry_str_split (F.args_str_split_2 _ _) m;cases c1:(decide (x.length<y.length)||decide (strKind x<strKind y)) with
 |true=>exact go (meets_str_split_cannot_occur x y t u c1) (hq [(x,t)] s.toks (Y9 c1).symm)
 |false=>
  cases c2:(occurrences x y 0 x.length (x.length+1)).isEmpty with
  |true=>exact go (meets_str_split_not_found x y t u c1 hy c2) (hq [(x,t)] s.toks ((Yj (Ul c1)).trans (Y9 c2)).symm)
  |false=>
   refine go (meets_str_split_sep x y t u c1 hy c2 hsz hsz2) ?_;have e:=strsFrom_eq s.toks (partsBetween x (occurrences x y 0 x.length (x.length+1)) y.length);have k:=hq (numbered s.toks (partsBetween x (occurrences x y 0 x.length (x.length+1)) y.length)) (s.toks+(partsBetween x (occurrences x y 0 x.length (x.length+1)) y.length).length) ((numbered_texts _ _).trans ((Yj (Ul c1)).trans (Yj (Ul c2))).symm);rw[<- e]at k;exact k
end
def Its(x:Str):It:=⟨λi _=>i<x.cps.size,λi H v H'=>H'=H/\∃c,x.cps[i]?=some c/\v=.str ⟨#[c]⟩,λi _=>x.cps.size<=i⟩
def yQ{P:Program}{w:World}{K:Frag}{tg:Expr}(it:Addr)(x:Str)(t:Tok):Turn false P w K tg (Its x) [it] it (λi h=>h.IsStrIter it "str_ascii_iterator" x t i) where
 mem:=by simp
 obj:=λi h st b hb=>by
  have e:b=it:=by simpa using hb
  subst e;obtain⟨o,ho,_,hd⟩:=st
  exact⟨o,ho,λv z=>by rw[hd]at z;cases z⟩
 keep:=λi h h' ⟨o,ho,r⟩ k=>⟨o,k it (by simp) _ ho,r⟩
 item:=by
  intro X hP hw hK hc i pins s σ H E I hf st hg;subst hP hw hK
  obtain⟨f0,f1,f2,f3,f4,f5⟩:=hf it (by simp)
  have hg':i<x.cps.size:=hg;refine wpAny_pyNext_ascii_item st (Wr hg') λh' st' kk=>?_
  have I1:Inv X pins σ H { s with heap:=h',toks:=s.toks+1 }:=I.turned (λb o hb e=>(kk.2 b hb).trans e) f0 f1 f3 f4 f5
  obtain⟨o,ho,hcl,hd⟩:=id st'
  exact⟨_,rfl,rL (s:={ s with heap:=h',toks:=s.toks+1 }) (n:="str_ascii_iterator") ho hcl hd (by decide) ⟨.str ⟨#[x.cps[i]]⟩,H,I1,⟨s.toks,rfl⟩,⟨rfl,_,Wr hg',rfl⟩,st',λb hb=>(hf b hb).1⟩⟩
 done:=by
  intro X hP hw hK hc i pins s σ H E I hf st hg;subst hP hw hK
  obtain⟨f0,f1,f2,f3,f4,f5⟩:=hf it (by simp)
  have hg':x.cps.size<=i:=hg;exact wpAny_pyNext_ascii_end (I.ok.hd hc.cm) st (Array.getElem?_eq_none hg') λh' eb=>⟨rfl,I.turned (t':=s.toks) (λb o hb e=>eb b o hb e) f0 f1 f3 f4 f5⟩
 self:=λ_ _ _ _ _ st h=>wpAny_pyIter_striter_ascii st h
def B0{P:Program}{w:World}{K:Frag}{tg:Expr}(it:Addr)(x:Str)(t:Tok):Turn false P w K tg (Its x) [it] it (λi h=>h.IsStrIter it "str_iterator" x t i) where
 mem:=by simp
 obj:=λi h st b hb=>by
  have e:b=it:=by simpa using hb
  subst e;obtain⟨o,ho,_,hd⟩:=st
  exact⟨o,ho,λv z=>by rw[hd]at z;cases z⟩
 keep:=λi h h' ⟨o,ho,r⟩ k=>⟨o,k it (by simp) _ ho,r⟩
 item:=by
  intro X hP hw hK hc i pins s σ H E I hf st hg;subst hP hw hK
  obtain⟨f0,f1,f2,f3,f4,f5⟩:=hf it (by simp)
  have hg':i<x.cps.size:=hg;refine wpAny_pyNext_wide_item st (Wr hg') λh' st' kk=>?_
  have I1:Inv X pins σ H { s with heap:=h',toks:=s.toks+1 }:=I.turned (λb o hb e=>(kk.2 b hb).trans e) f0 f1 f3 f4 f5
  obtain⟨o,ho,hcl,hd⟩:=id st'
  exact⟨_,rfl,rL (s:={ s with heap:=h',toks:=s.toks+1 }) (n:="str_iterator") ho hcl hd (by decide) ⟨.str ⟨#[x.cps[i]]⟩,H,I1,⟨s.toks,rfl⟩,⟨rfl,_,Wr hg',rfl⟩,st',λb hb=>(hf b hb).1⟩⟩
 done:=by
  intro X hP hw hK hc i pins s σ H E I hf st hg;subst hP hw hK
  obtain⟨f0,f1,f2,f3,f4,f5⟩:=hf it (by simp)
  have hg':x.cps.size<=i:=hg;exact wpAny_pyNext_wide_end (I.ok.hd hc.cm) st (Array.getElem?_eq_none hg') λh' eb=>⟨rfl,I.turned (t':=s.toks) (λb o hb e=>eb b o hb e) f0 f1 f3 f4 f5⟩
 self:=λ_ _ _ _ _ st h=>wpAny_pyIter_striter_wide st h
section
variable{X:Cx}{tg:Expr}
def LL(tl:TE):TI:=λσ H R=>tl σ H λv H1=>∃x,v=.str x/\R (Its x) H1
def IW{l:Expr}{tl:TE}(hl:PE X l tl):PI X tg l (LL tl):=by
 intro pins s σ H R I h;refine PX (hl pins s σ H _ I h) λv s1 zq=>?_;obtain⟨y,H1,I1,r1,q1⟩:=zq;obtain⟨x,e,q⟩:=q1;subst e;obtain⟨t,rfl⟩:=r1;cases ha:x.cps.all (· < 128) with
 |true=>
  refine wpAny_pyIter_ascii ha ?_;refine⟨s1.heap.objs.size,[s1.heap.objs.size],_,_,H1,rfl,I1.kept (t':=s1.toks) λb o e=>Y7 _ e,yQ _ x t,⟨_,Ye _ rfl,rfl,rfl⟩,λb hb=>?_,q⟩
  have e:b=s1.heap.objs.size:=by simpa using hb
  subst e;exact I1.Tq (Yh _) (I1.hok.fresh (Yh _))
 |false=>
  refine wpAny_pyIter_wide ha ?_;refine⟨s1.heap.objs.size,[s1.heap.objs.size],_,_,H1,rfl,I1.kept (t':=s1.toks) λb o e=>Y7 _ e,B0 _ x t,⟨_,Ye _ rfl,rfl,rfl⟩,λb hb=>?_,q⟩
  have e:b=s1.heap.objs.size:=by simpa using hb
  subst e;exact I1.Tq (Yh _) (I1.hok.fresh (Yh _))
end
end L2
namespace PD
open PySem PySem.Spec PyProof.Rows L2
variable{H:Hp}{a:Addr}{x:Str}{pos:Pos}{h base:Heap}{mg:Str→Option Value}{T:List (Str×PyData)}{P:Program}{w:World}{f:FM}{X:Cx}
def ei:Pz->List D->Option D
 |_,[.str x]=>if x.length<=640 then (intText? x).map .int else none
 |S,ds=>FF S ds
def dZ:Pz->D->List D->R D
 |S,.str x,[.str y]=>if (y.length == 0)=false/\x.length<=sizeLine/\(Builtin.Str.partsBetween x (Builtin.Str.occurrences x y 0 x.length (x.length+1)) y.length).length<=sizeLine/\(Txt.split x y).length<=sizeLine then .ok (.lst ((Txt.split x y).map .str)) S else .bad
 |_,_,_=>.bad
def lg:Pz->D->Option Int->Option Int->Option D
 |_,.str x,lo,hi=>if x.length<=sizeLine then some (.str (Txt.slice x lo hi)) else none
 |S,d,lo,hi=>lR S d lo hi
def chs(x:Str):List D:=x.cps.toList.map λc=>.str ⟨#[c]⟩
def sG:Pz->D->Option (List D)
 |_,.str x=>some (chs x)
 |_,_=>none
section
variable{X:Cx}{E:XK}
def ja:bT X (.type "int") (xC X.K E ei):=by
 rintro pins s σ H xs us Q I r ⟨w,S,ds,hS,qs,p⟩;by_cases hd:∃x,ds=[.str x]
 .obtain⟨x,rfl⟩:=hd;obtain⟨z,hz,p'⟩:=p.of;clear p;unfold ei at hz;simp only at hz;split at hz
  .rename_i hl;cases hn:intText? x with
   |none=>rw[hn]at hz;cases hz
   |some n=>
    rw[hn]at hz;cases hz;obtain⟨v,rfl,q⟩:=qs.PK;cases q.str;obtain⟨u,rfl,ru⟩:=Wi r;obtain⟨t,rfl⟩:=ru;exact PySem.W.KIN.call_text hn hl ⟨.int n,H,I.tok _,⟨_,rfl⟩,p'.ret RD.Sh hS⟩
  .cases hz
 .have e:ei S ds=FF S ds:=by
   unfold ei;split
   .exact(hd ⟨_,rfl⟩).elim
   .rfl
  rw[e]at p;exact IC pins s σ H xs us Q I r ⟨w,S,ds,hS,qs,p⟩
theorem pY{K:Frag}{w:Wd}:∀ys:List Str,PJ K w H (ys.map .str) (ys.map V.str)
 |[]=>by unfold PJ;trivial
 |y::ys=>PJ.cons RD.Xx (pY ys)
theorem sH:∀l:List (Str×Tok),Vals ((l.map (·.1)).map V.str) (strValues l)
 |[]=>.nil
 |p::l=>.cons ⟨p.2,rfl⟩ (sH l)
def jT:MtR X "str.split" (xM X.K E dZ):=by
 rintro pins s σ H x xs v us Q I rx rs ⟨w,S,d,ds,hS,qd,qs,p⟩;unfold dZ at p;split at p
 .rename_i x0 y0;split at p
  .rename_i hl;cases qd.str;obtain⟨yv,rfl,qy⟩:=qs.PK;cases qy.str;obtain⟨t,rfl⟩:=rx;obtain⟨u,rfl,ru⟩:=Wi rs;obtain⟨t2,rfl⟩:=ru;refine DN hl.1 hl.2.1 hl.2.2.1 λl k e=>?_;have hf:H s.heap.objs.size=none:=I.hok.fresh (Yh _);refine⟨.ref s.heap.objs.size,_,I.laid (t':=k) (o:=.lst ((Txt.split x0 y0).map V.str)) (λb ob q=>Y7 _ q) (Yh _) ?_,rfl,p.at (Ext.new hf) (RD.Te hS hf (pY _)) (hS.new hf)⟩
   exact⟨by rw[Yi];exact hl.2.2.2,_,0,by rw[<- e];exact sH l,Ye _ rfl⟩
  .exact p.elim
 .exact p.elim
def uW:SlR X (xL X.K E lg):=by
 rintro pins s σ H x v vl vu lo hi sl Q I rx hs pl pu ⟨w,S,d,hS,qd,p⟩;by_cases hd:∃z,d=.str z
 .obtain⟨z,rfl⟩:=hd;obtain⟨y,hy,p'⟩:=p.of;clear p;unfold lg at hy;simp only at hy;split at hy
  .rename_i hl;cases hy;cases qd.str;obtain⟨t,rfl⟩:=rx;refine⟨"str",_,F.slot_str_getitem.lookup,typeIs_str _ _ _,?_⟩
   have done:∀{l u:Option (Int×Tok)},s.heap.IsSlice sl l u none->l.map (·.1)=lo->u.map (·.1)=hi->wpAny (model X.prog X.w) X.A (getItem (.str z t) (.ref sl)) (EP X pins σ Q) X.xe s:=λ{l u} h1 h2 h3=>by subst h2;subst h3;exact wpAny_getItem_str_slice (l:=l) (u:=u) (st:=none) h1 rfl (post_val_or_str ⟨Yw (Txt.slice_le z _ _) hl,λt' k=>⟨.str _,H,I.tok _,⟨_,rfl⟩,p'.ret RD.Xx hS⟩⟩)
   obtain⟨o,h1,h2,h3⟩:=hs;cases pl with
   |none=>
    cases pu with
    |none=>exact done (l:=none) (u:=none) ⟨o,h1,h2,h3⟩ rfl rfl
    |int j uj=>exact done (l:=none) (u:=some (j,uj)) ⟨o,h1,h2,h3⟩ rfl rfl
   |int i ui=>
    cases pu with
    |none=>exact done (l:=some (i,ui)) (u:=none) ⟨o,h1,h2,h3⟩ rfl rfl
    |int j uj=>exact done (l:=some (i,ui)) (u:=some (j,uj)) ⟨o,h1,h2,h3⟩ rfl rfl
  .cases hy
 .have e:lg S d lo hi=lR S d lo hi:=by
   unfold lg;split
   .exact(hd ⟨_,rfl⟩).elim
   .rfl
  rw[e]at p;exact ux pins s σ H x v vl vu lo hi sl Q I rx hs pl pu ⟨w,S,d,hS,qd,p⟩
def DO{a:Expr}{ma:EM}{tg:Expr}(ha:SE X E a ma):SI X E tg a (bJ ma sG):=⟨
 eI (IW ha.out) λs H Q zq=>QR zq λw r S hr hS hp=>⟨w,r,S,hr,hS,hp.bind hS λd S1 w1 H1 v x1 q1 s1 p1=>by
  cases d with
  |str x=>
   cases q1.str;refine⟨x,rfl,aF.ret p1 ?_ s1⟩;intro i w' H' x'
   refine⟨λhi=>⟨by unfold chs at hi;rw[Yi]at hi;exact hi,λy Xb h=>?_⟩,λhi=>by unfold chs at hi;rw[Yi]at hi;exact hi⟩
   obtain⟨rfl,c,hc,rfl⟩:=h;refine⟨.inl rfl,λS _=>⟨.str ⟨#[c]⟩,?_,RD.Xx⟩⟩;unfold chs;rw[Qx,U5,hc];rfl
  |_=>exact p1.elim⟩⟩
end
section
variable{X:Cx}{E:XK}
def Hh{y:Str}(hm:∃t,X.mg x=some (.str y t))(hg:Gl X x)(hd:(x == ("__debug__":Str))=false:=by decide +kernel):SE X E (.Name x pos) (eC (.str y)):=by obtain⟨t,hm⟩:=hm;exact ud (gn hg hm (v:=.str y) ⟨t,rfl⟩ hd) λ_ _=>RD.Xx
end
def dP:PyData->Option D
 |.int i=>some (.int i)
 |.str x=>some (.str x)
 |.bool b=>some (.bl b)
 |.none=>some .non
 |_=>none
def ZL(K:Frag)(mg:Str->Option Value)(x:Str)(T:List (Str×PyData)):Prop:=∃a,mg x=some (.ref a)/\KTD.tabLook KTD.flatLooks (λb=>K.lookup b) a T=true
def aai(K:Frag)(mg:Str->Option Value)(x:Str)(T:List (Int×PyData)):Prop:=∃a,mg x=some (.ref a)/\KTD.keyedLook (λb=>K.lookup b) a T=true
def Gb{K:Frag}(X:K.In h)(G:h.Ns mainGlobals mg)(hn:nsIn K mainGlobals x=some (some (.ref a)))(hl:KTD.tabLook KTD.flatLooks (λb=>K.lookup b) a T=true):ZL K mg x T:=⟨a,Yd X G hn,hl⟩
def Gd{K:Frag}(X:K.In h)(G:h.Ns mainGlobals mg){T:List (Int×PyData)}(hn:nsIn K mainGlobals x=some (some (.ref a)))(hl:KTD.keyedLook (λb=>K.lookup b) a T=true):aai K mg x T:=⟨a,Yd X G hn,hl⟩
def wU(T:List (Str×PyData))(mb:EM):EM:=λr S=>(mb r S).bind λy S1=>match y with
 |.str k=>R.of S1 ((KTD.datumAt k T).bind dP)
 |_=>.bad
def wV(T:List (Int×PyData))(mb:EM):EM:=λr S=>(mb r S).bind λy S1=>match y with
 |.int k=>R.of S1 ((KTD.datumAt k T).bind dP)
 |_=>.bad
def m3(neg:Bool)(T:List (Str×PyData))(ma:EM):EM:=λr S=>(ma r S).bind λy S1=>match y with
 |.str k=>.ok (.bl (if neg then !KTD.inKeys k T else KTD.inKeys k T)) S1
 |_=>.bad
theorem pZ{κ:Type}[DecidableEq κ]{h₀:Heap}{k:κ}{P:Value->Prop}:∀{T:List (κ×KTD.Dat)},(∀d,KTD.datumAt k T=some d->KTD.Opened h₀ P d)->KTD.EachL h₀ k P T
 |[],_=>trivial
 |[(x,d)],h=>λe=>h d (by show(if decide (k=x)=true then some d else _)=_;rw[Y9 (by simp[e])])
 |(x,d)::p::T,h=>by
  show if decide (k=x)=true then KTD.Opened h₀ P d else KTD.EachL h₀ k P (p::T)
  by_cases e:k=x
  .rw[Y9 (by simp[e])]
   exact h d (by show(if decide (k=x)=true then some d else _)=_;rw[Y9 (by simp[e])])
  .rw[Yj (by simp[e])]
   exact pZ λd' hd=>h d' (by show(if decide (k=x)=true then some d else _)=_;rw[Yj (by simp[e])];exact hd)
theorem jU{κ:Type}[DecidableEq κ]{k:κ}:∀{T:List (κ×PyData)},KTD.datumAt k (T.map λp=>(p.1,KTD.Dat.flat p.2))=(KTD.datumAt k T).map KTD.Dat.flat
 |[]=>rfl
 |(x,d)::T=>by
  show(if decide (k=x)=true then some (KTD.Dat.flat d) else KTD.datumAt k (T.map λp=>(p.1,KTD.Dat.flat p.2)))=(if decide (k=x)=true then some d else KTD.datumAt k T).map KTD.Dat.flat
  rw[jU];split<;>rfl
def qa{κ:Type}[DecidableEq κ]{k:κ}{T:List (κ×PyData)}:KTD.inKeys k (T.map λp=>(p.1,KTD.Dat.flat p.2))=KTD.inKeys k T:=by rw[<- Zt,<- Zt,jU];cases KTD.datumAt k T<;>rfl
def DP{d:PyData}(h:(dP d).isSome=true):KTD.plain (.flat d)=true:=by
 unfold dP at h;split at h
 .rfl
 .rfl
 .rfl
 .rfl
 .cases h
theorem sJ{κ:Type}:∀{T:List (κ×PyData)},(T.all λp=>(dP p.2).isSome)=true->((T.map λp=>(p.1,KTD.Dat.flat p.2)).all λp=>KTD.plain p.2)=true
 |[],_=>rfl
 |p::T,h=>by rw[Vi,Z5]at h;rw[Y8,Vi,sJ h.2,Bool.and_true];exact DP h.1
def sL{h₀:Heap}{P:Value->Prop}{d:PyData}{z:D}(e:dP d=some z)(h:∀v u,(∀K w H,RD K w H z v)->RelV v u->P u):KTD.Opened h₀ P (.flat d):=by
 unfold dP at e;split at e
 .cases e;exact KTD.opened_int λt=>h (.int _) _ (λ_ _ _=>RD.Sh) ⟨t,rfl⟩
 .cases e;exact KTD.opened_str λt=>h (.str _) _ (λ_ _ _=>RD.Xx) ⟨t,rfl⟩
 .cases e;exact KTD.opened_bool (h (.bl _) _ (λ_ _ _=>RD.Tv) rfl)
 .cases e;exact KTD.opened_none (h .non _ (λ_ _ _=>by unfold RD;rfl) rfl)
 .cases e
section
variable{X:Cx}{E:XK}{b:Expr}{mb:EM}{pos p1:Pos}{x:Str}
def Am{pins:List (Addr×Obj)}{s:Shared}{σ:L2.St}(I:Inv X pins σ H s)(h:KTD.tabLook KTD.flatLooks (λb=>X.K.lookup b) a T=true):KTD.Here s.heap s.heap a (T.map λp=>(p.1,KTD.Dat.flat p.2)):=
 ⟨KTD.TabOf.text (KTD.tab_of_look (λ_ _ q=>KTD.flat_of_looks q) (λb o e=>I.RK b o e) h),λ_ _ e=>e⟩
def Ge(h:ZL X.K X.mg x T)(hg:Gl X x)(hb:SE X E b mb)(hT:(T.all λp=>(dP p.2).isSome)=true:=by kernel_rfl)(hs:lK b:=by intro _ _;kernel_rfl)(hd:(x == ("__debug__":Str))=false:=by decide +kernel):SE X E (.Subscript (.Name x p1) b pos) (wU T mb):=by
 obtain⟨a,hm,hl⟩:=h;refine⟨λpins s σ H Q I zq=>QR zq λw r S hr hS hp=>Subscript_ (PX (gn (pos:=p1) hg hm (v:=.ref a) rfl hd pins s σ H (λv H1=>v=.ref a/\H1=H) I ⟨rfl,rfl⟩) λv s1 zq=>?_)⟩;obtain⟨v',H1,I1,r1,e1,e2⟩:=zq;subst e1 e2;cases r1
 refine PX (hb.out pins s1 σ H1 (λy H2=>∃w S d,RS X.K w H2 S/\RD X.K w H2 d y/\aF X.K E (RD X.K) w H2 (match d with | .str k=>R.of S ((KTD.datumAt k T).bind dP)|_=>.bad) Q) I1 ⟨w,r,S,hr,hS,hp.bind hS λd S1 w1 H2 v x1 q1 s1 p1=>⟨w1,S1,d,s1,q1,p1⟩⟩) λu s2 zq=>?_
 obtain⟨y,H2,I2,r2,w2,S2,d,hS2,qd,p⟩:=zq;cases d with
 |str k=>
  simp only at p;obtain⟨z,hz,p'⟩:=p.of;cases hdat:KTD.datumAt k T with
  |none=>rw[hdat]at hz;cases hz
  |some c=>
   rw[hdat]at hz;cases qd.str;obtain⟨t,rfl⟩:=r2
   refine KTD.item_textA (Am I2 hl) (sJ hT) (by rw[qa,<- Zt,hdat];rfl) (pZ λd' hd'=>?_) (hs _ _)
   rw[jU,hdat]at hd';cases hd';exact sL hz λv u q rv=>⟨v,H2,I2.tok _,rv,p'.ret (q _ _ _) hS2⟩
 |_=>exact p.elim
def Gf{T:List (Int×PyData)}(h:aai X.K X.mg x T)(hg:Gl X x)(hb:SE X E b mb)(hs:lK b:=by intro _ _;kernel_rfl)(hd:(x == ("__debug__":Str))=false:=by decide +kernel):SE X E (.Subscript (.Name x p1) b pos) (wV T mb):=by
 obtain⟨a,hm,hl⟩:=h;refine⟨λpins s σ H Q I zq=>QR zq λw r S hr hS hp=>Subscript_ (PX (gn (pos:=p1) hg hm (v:=.ref a) rfl hd pins s σ H (λv H1=>v=.ref a/\H1=H) I ⟨rfl,rfl⟩) λv s1 zq=>?_)⟩;obtain⟨v',H1,I1,r1,e1,e2⟩:=zq;subst e1 e2;cases r1
 refine PX (hb.out pins s1 σ H1 (λy H2=>∃w S d,RS X.K w H2 S/\RD X.K w H2 d y/\aF X.K E (RD X.K) w H2 (match d with | .int k=>R.of S ((KTD.datumAt k T).bind dP)|_=>.bad) Q) I1 ⟨w,r,S,hr,hS,hp.bind hS λd S1 w1 H2 v x1 q1 s1 p1=>⟨w1,S1,d,s1,q1,p1⟩⟩) λu s2 zq=>?_
 obtain⟨y,H2,I2,r2,w2,S2,d,hS2,qd,p⟩:=zq;cases d with
 |int k=>
  simp only at p;obtain⟨z,hz,p'⟩:=p.of;cases hdat:KTD.datumAt k T with
  |none=>rw[hdat]at hz;cases hz
  |some c=>
   rw[hdat]at hz;cases qd.int;obtain⟨t,rfl⟩:=r2
   refine KTD.item_keyed (KTD.keyed_of_look (h:=s2.heap) (λb o e=>I2.RK b o e) hl) (λ_ _ e=>e) (by rw[<- Zt,hdat];rfl) (pZ λd' hd'=>?_) (hs _ _) (by intro _;with_unfolding_all rfl)
   rw[KTD.datumAt_asDat,hdat]at hd';cases hd';exact sL hz λv u q rv=>⟨v,H2,I2.tok _,rv,p'.ret (q _ _ _) hS2⟩
 |_=>exact p.elim
def DQ(neg:Bool)(a:Addr)(T:List (Str×PyData)):R2:=λx y H Q=>y=.ref a/\∃k,x=.str k/\Q (.bl (if neg then !KTD.inKeys k T else KTD.inKeys k T)) H
def B1(hl:KTD.tabLook KTD.flatLooks (λb=>X.K.lookup b) a T=true):QS X (compareOp .NotIn) (DQ true a T):=by
 rintro pins s σ H x y v u Q I rx ry ⟨rfl,k,rfl,q⟩;cases ry;obtain⟨t,rfl⟩:=rx
 exact KTD.notin_text (Am I hl) (by rw[qa];exact⟨.bl _,H,I.tok _,rfl,q⟩)
section
variable{a:Expr}{ma:EM}{T:List (Str×PyData)}{s:L2.St}{H:Hp}{q:Addr}
def yR{neg:Bool}{Q:VK}(h:uE X.K E (m3 neg T ma) s H Q):tOp (DQ neg q T) (uE X.K E ma) (tC (.ref q)) s H Q:=by
 obtain⟨w,r,S,hr,hS,hp⟩:=h
 exact⟨w,r,S,hr,hS,hp.bind hS λd S1 w1 H1 v x1 q1 s1 p1=>⟨rfl,by
  cases d with
  |str k=>cases q1.str;exact⟨k,rfl,aF.ret p1 RD.Tv s1⟩
  |_=>exact p1.elim⟩⟩
def B3(h:ZL X.K X.mg x T)(hg:Gl X x)(ha:SE X E a ma)(hm:behindInMarks .NotIn (.Name x p1)=false:=by kernel_rfl)(hd:(x == ("__debug__":Str))=false:=by decide +kernel):ST X E (.Compare a [.NotIn] [.Name x p1] pos) (tV (m3 true T ma)):=by obtain⟨q,hmg,hl⟩:=h;exact⟨oR (zM (B1 hl) ha.out (gn hg hmg (v:=.ref q) rfl hd) hm) λs H Q z=>yR (C8 z)⟩
end
end
def lkF:Option Addr->Value->Bool
 |none,_=>true
 |some a,.ref b=>b == a
 |some _,_=>false
def IY{d:Option Addr}{v:Value}(h:lkF d v=true):∀a,d=some a->v=.ref a:=by
 intro a e;subst e;cases v with
 |ref b=>rw[Uw (show(b == a)=true from h)]
 |_=>cases h
theorem DR(prog:Program)(w:World){δ:Type}{R:δ->Value->Prop}{es:List DictEntry}{D:List (Str×δ)}(h:KTD.Rows R es D):es.map (·.hash)=D.map (λp=>hashStr w p.1)->
  (∀e∈es,∃k,(PySem.strKind prog w).is k e.key=true/\e.hash=(PySem.strKind prog w).hash k)/\∃kvs:List (Str×Value),Pairs (PySem.strKind prog w) es kvs/\kvs.map (·.1)=D.map (·.1)/\∀k,(∀d,KTD.datumAt k D=some d->∃v,valueAt kvs k=some v/\R d v)/\(KTD.datumAt k D=none->valueAt kvs k=none):=by
 induction h with
 |nil=>exact λ_=>⟨(λ_ h=>(nomatch h)),[],.nil,rfl,λk=>⟨λd h=>(by cases h),λ_=>rfl⟩⟩
 | @cons e x t d es D hkey hv _ ih=>
  intro hh;rw[Y8,Y8]at hh;injection hh with h1 h2;obtain⟨hk,kvs,hp,hm,hf⟩:=ih h2
  have hi:(PySem.strKind prog w).is x e.key=true:=by rw[hkey];exact strKind_is prog w x t
  refine⟨λe' he'=>?_,(x,e.val)::kvs,.cons hi rfl hp,by rw[Y8,Y8,hm],λk=>?_⟩
  .cases he' with
   |head=>exact⟨x,hi,h1⟩
   |tail _ he'=>exact hk e' he'
  .by_cases hx:k=x
   .subst hx
    have e1:KTD.datumAt k ((k,d)::D)=some d:=by show(if decide (k=k)=true then some d else _)=_;rw[Y9 (by simp)]
    have e2:valueAt ((k,e.val)::kvs) k=some e.val:=by simp[valueAt]
    rw[e1,e2]
    exact⟨λd' h'=>by cases h';exact⟨_,rfl,hv⟩,λh'=>by cases h'⟩
   .have e1:KTD.datumAt k ((x,d)::D)=KTD.datumAt k D:=by show(if decide (k=x)=true then some d else _)=_;rw[Yj (by simp[hx])]
    have e2:valueAt ((x,e.val)::kvs) k=valueAt kvs k:=by have:¬x=k:=λz=>hx z.symm;simp[valueAt,this]
    rw[e1,e2];exact hf k
structure XS(K:Frag)(mg:Str->Option Value)(w:World)(x:Str)(L:List (Str×Option Str)):Prop where
 ex:∃(a:Addr)(D:List (Str×Option Addr)),mg x=some (.ref a)/\KTD.tabLook lkF (λb=>K.lookup b) a D=true/\KTD.hashesOf (λb=>K.lookup b) a=D.map (λp=>hashStr w p.1)/\(D.map (·.1)).Nodup/\
  D.map (λp=>(p.1,p.2.map λq=>some (Value.ref q)))=L.map λp=>(p.1,p.2.map mg)
def An{K:Frag}(X:K.In h)(G:h.Ns mainGlobals mg){w:World}{D:List (Str×Option Addr)}{L:List (Str×Option Str)}(hn:nsIn K mainGlobals x=some (some (.ref a)))
  (hl:KTD.tabLook lkF (λb=>K.lookup b) a D=true) (hh:KTD.hashesOf (λb=>K.lookup b) a=D.map (λp=>hashStr w p.1)) (hd:(D.map (·.1)).Nodup) (hL:D.map (λp=>(p.1,p.2.map λq=>some (Value.ref q)))=L.map λp=>(p.1,p.2.map mg)):XS K mg w x L:=
 ⟨a,D,Yd X G hn,hl,hh,hd,hL⟩
theorem qc:∀{D:List (Str×Option Addr)}{L:List (Str×Option Str)},D.map (λp=>(p.1,p.2.map λq=>some (Value.ref q)))=L.map (λp=>(p.1,p.2.map mg))->∀k:Str,
  (KTD.inKeys k D=KTD.inKeys k L)/\∀n,KTD.datumAt k L=some (some n)->∃a,KTD.datumAt k D=some (some a)/\mg n=some (.ref a)
 |[],[],_,k=>⟨rfl,λn h=>by cases h⟩
 |[],_::_,h,_=>by cases h
 |_::_,[],h,_=>by cases h
 |(x,d)::D,(y,o)::L,h,k=>by
  rw[Y8,Y8]at h;injection h with h1 h2;injection h1 with h3 h4;obtain rfl:x=y:=h3
  obtain⟨i1,i2⟩:=qc h2 k;by_cases hx:k=x
  .subst hx
   have e1:KTD.datumAt k ((k,d)::D)=some d:=by show(if decide (k=k)=true then some d else _)=_;rw[Y9 (by simp)]
   have e2:KTD.datumAt k ((k,o)::L)=some o:=by show(if decide (k=k)=true then some o else _)=_;rw[Y9 (by simp)]
   rw[<- Zt,<- Zt,e1,e2];refine⟨rfl,λn hn=>?_⟩;cases hn;cases d with
   |none=>cases h4
   |some q=>
    have h5:some (some (Value.ref q))=some (mg n):=h4;injection h5 with h6;exact⟨q,rfl,h6.symm⟩
  .have e1:KTD.datumAt k ((x,d)::D)=KTD.datumAt k D:=by show(if decide (k=x)=true then some d else _)=_;rw[Yj (by simp[hx])]
   have e2:KTD.datumAt k ((x,o)::L)=KTD.datumAt k L:=by show(if decide (k=x)=true then some o else _)=_;rw[Yj (by simp[hx])]
   rw[<- Zt,<- Zt,e1,e2,Zt,Zt];exact⟨i1,i2⟩
section
variable{X:Cx}{E:XK}{pos p1:Pos}{x:Str}
theorem Ao{pins:List (Addr×Obj)}{s:Shared}{σ:L2.St}{D:List (Str×Option Addr)}(I:Inv X pins σ H s)(hl:KTD.tabLook lkF (λb=>X.K.lookup b) a D=true)(hh:KTD.hashesOf (λb=>X.K.lookup b) a=D.map (λp=>hashStr X.w p.1))(hn:(D.map (·.1)).Nodup):
  (a == sysModules)=false/\∃kvs:List (Str×Value),s.heap.DictOf (PySem.strKind X.prog X.w) a kvs/\∀k,(∀q,KTD.datumAt k D=some (some q)->valueAt kvs k=some (.ref q))/\(valueAt kvs k).isSome=KTD.inKeys k D:=by
 obtain⟨h0,o,es,ep,ho,hc,hd,hr⟩:=KTD.tab_of_look (R:=λ(d:Option Addr)(v:Value)=>∀q,d=some q->v=.ref q) (λd v q=>IY q) (h:=s.heap) (λb o e=>I.RK b o e) hl
 have hh':es.toList.map (·.hash)=D.map (λp=>hashStr X.w p.1):=by
  rw[<- hh];unfold KTD.hashesOf;unfold KTD.tabLook at hl;split at hl
  .rename_i o' ho'
   have:o'=o:=by have h1:=I.RK a o' ho';rw[h1]at ho;cases ho;rfl
   subst this;simp only[ho',hd]
  .simp at hl
 obtain⟨hk,kvs,hp,hm,hf⟩:=DR X.prog X.w hr hh'
 refine⟨h0,kvs,⟨o,es,ep,ho,hc,hd,λe he=>hk e (by simpa using he),hp,by rw[hm];exact hn⟩,λk=>⟨λq hq=>?_,?_⟩⟩
 .obtain⟨v,hv,hr⟩:=(hf k).1 _ hq;rw[hv,hr q rfl]
 .rw[<- Zt];cases hd:KTD.datumAt k D with
  |none=>rw[(hf k).2 hd];rfl
  |some d=>
   obtain⟨v,hv,_⟩:=(hf k).1 d hd;rw[hv];rfl
def B4(L:List (Str×Option Str))(ma:EM):EM:=λr S=>(ma r S).bind λy S1=>match y with
 |.str k=>.ok (.bl (KTD.inKeys k L)) S1
 |_=>.bad
def LM(a:Addr)(L:List (Str×Option Str)):R2:=λx y H Q=>y=.ref a/\∃k,x=.str k/\Q (.bl (KTD.inKeys k L)) H
def DS{a:Expr}{ma:EM}{L:List (Str×Option Str)}(h:XS X.K X.mg X.w x L)(hg:Gl X x)(ha:SE X E a ma)(hm:behindInMarks .In (.Name x p1)=false:=by kernel_rfl)(hd:(x == ("__debug__":Str))=false:=by decide +kernel):SE X E (.Compare a [.In] [.Name x p1] pos) (B4 L ma):=by
 obtain⟨q,D,hmg,hl,hh,hn,hL⟩:=h.ex
 have ho:QS X (compareOp .In) (LM q L):=by
  rintro pins s σ H x y v u Q I rx ry ⟨rfl,k,rfl,z⟩;cases ry;obtain⟨t,rfl⟩:=rx;obtain⟨h0,kvs,hD,hk⟩:=Ao I hl hh hn
  exact wpAny_in_of (strKind_is X.prog X.w k t) h0 hD.mapOf (by rw[(hk k).2,(qc hL k).1];exact⟨.bl _,H,I.tok _,rfl,z⟩)
 refine⟨bj (zL ho ha.out (gn hg hmg (v:=.ref q) rfl hd) hm) λs H Q zq=>?_⟩;obtain⟨w,r,S,hr,hS,hp⟩:=zq
 exact⟨w,r,S,hr,hS,hp.bind hS λd S1 w1 H1 v x1 q1 s1 p1=>⟨rfl,by
  cases d with
  |str k=>cases q1.str;exact⟨k,rfl,aF.ret p1 RD.Tv s1⟩
  |_=>exact p1.elim⟩⟩
abbrev XX:=List (Str×Option (Str×FM))
def XX.nm(T:XX):List (Str×Option Str):=T.map λp=>(p.1,p.2.map (·.1))
def wW(T:XX)(mb:EM)(ms:AM):EM:=λr S=>(mb r S).bind λy S1=>match y with
 |.str key=>match KTD.datumAt key T with
  |some (some nf)=>(ms r S1).bind λxs S2=>nf.2 xs S2
  |_=>.bad
 |_=>.bad
structure ZM(P:Program)(w:World)(K:Frag)(mg:Str->Option Value)(base:Heap)(k n:Nat)(T:XX):Prop where
 all:∀key nf,KTD.datumAt key T=some (some nf)->Xh P w K mg base nf.1 k n nf.2
def Ap{K:Frag}{k n:Nat}:ZM P w K mg base k n []:=⟨λ_ _ h=>by cases h⟩
def gu{K:Frag}{k n:Nat}{T:XX}{x nm:Str}(d:Xh P w K mg base nm k n f)(h:ZM P w K mg base k n T):ZM P w K mg base k n ((x,some (nm,f))::T):=⟨λkey nf e=>by
 have e':(if decide (key=x)=true then some (some (nm,f)) else KTD.datumAt key T)=some (some nf):=e
 split at e'
 .cases e';exact d
 .exact h.all key nf e'⟩
def Xh.up{K:Frag}{nm:Str}{k k' n:Nat}(d:Xh P w K mg base nm k n f)(h:k<=k'):Xh P w K mg base nm k' n f:=by obtain⟨fa,fd,ps,hm,hk,hb,F⟩:=d.ex;exact⟨fa,fd,ps,hm,hk,hb,F.mono h⟩
theorem Hi{key:Str}{nf:Str×FM}:∀{T:XX},KTD.datumAt key T=some (some nf)->KTD.datumAt key T.nm=some (some nf.1)
 |[],h=>by cases h
 |(x,o)::T,h=>by
  have h':(if decide (key=x)=true then some o else KTD.datumAt key T)=some (some nf):=h
  show(if decide (key=x)=true then some (o.map (·.1)) else KTD.datumAt key (XX.nm T))=_
  split at h'
  .rename_i c;cases h';rw[Y9 c];rfl
  .rename_i c;rw[Yj c];exact Hi h'
theorem Aq{a b:Expr}{es:List Expr}{mb:EM}{ms:AM}{T:XX}{k n:Nat}{p2:Pos}(D:ZM X.prog X.w X.K X.mg X.base k n T)(h:XS X.K X.mg X.w x T.nm)(hx:Passes (UW X.prog X.w) X E)(hr:PQ k X.A)(hg:Gl X x)(hb:SE X E b mb)(ha:SA X E (a::es) ms)(hn:wu ms n)
  (hs:lK b:=by intro _ _;kernel_rfl) (hdb:(x == ("__debug__":Str))=false:=by decide +kernel)
  (hc:eval (.Call (.Subscript (.Name x p1) b p2) (a::es) [] pos) X.env=(do callWith pos (<- eval (.Subscript (.Name x p1) b p2) X.env) [] (backTo pos (starEach (a::es) X.env)) (backToKw pos (keywordEach [] X.env))):=by kernel_rfl)
  (he:starEach (a::es) X.env=(false,eval a X.env)::starEach es X.env:=by kernel_rfl) (hpl:(backTo pos (starEach es X.env)).any (·.1)=false:=by kernel_rfl):
  SE X E (.Call (.Subscript (.Name x p1) b p2) (a::es) [] pos) (wW T mb ms):=by
 obtain⟨q0,L,hmg,hl,hh,hnd,hL⟩:=h.ex;refine⟨λpins s σ H Q I ⟨w,r,S,hrr,hS,hp⟩=>Call_ (Subscript_ (PX (gn (pos:=p1) hg hmg (v:=.ref q0) rfl hdb pins s σ H (λv H1=>v=.ref q0/\H1=H) I ⟨rfl,rfl⟩) λv s1 zq=>?_)) hc⟩;obtain⟨v',H1,I1,r1,e1,e2⟩:=zq;subst e1 e2;cases r1
 refine PX (hb.out pins s1 σ H1 (λy H2=>∃w S d,Rq X.K w H2 r σ/\RS X.K w H2 S/\RD X.K w H2 d y/\aF X.K E (RD X.K) w H2 (match d with
  |.str key=>match KTD.datumAt key T with
   |some (some nf)=>(ms r S).bind λxs S2=>nf.2 xs S2
   |_=>.bad
  |_=>.bad) Q) I1 ⟨w,r,S,hrr,hS,hp.bind hS λd S1 w1 H2 v x1 q1 s1 p1=>⟨w1,S1,d,hrr.ext x1,s1,q1,p1⟩⟩) λu s2 ⟨y,H2,I2,r2,w2,S2,d,hr2,hS2,qd,p⟩=>?_
 cases d with
 |str key=>
  simp only at p;cases hdat:KTD.datumAt key T with
  |none=>rw[hdat]at p;exact p.elim
  |some o=>
   cases o with
   |none=>rw[hdat]at p;exact p.elim
   |some nf=>
    rw[hdat]at p;simp only at p;obtain⟨fa,fd,ps,hm,hk,hbd,F⟩:=(D.all key nf hdat).ex;obtain⟨q,hq,hmq⟩:=(qc hL key).2 _ (Hi hdat);rw[hm]at hmq;cases hmq;obtain⟨h0,kvs,hD,hkv⟩:=Ao I2 hl hh hnd;cases qd.str;obtain⟨t,rfl⟩:=r2
    refine subscriptTail_builtin hD.typeIs slot_dict_getitem.lookup (wpAny_getItem_of (strKind_is X.prog X.w key t) hD.mapOf ((hkv key).1 _ hq) ?_) (hs _ _) (by intro _;with_unfolding_all rfl)
    have I3:Inv X pins σ H2 { s2 with toks:=s2.toks+1 }:=I2.tok _
    refine Uv (first:=[]) (h₀:=X.base) I.ok.mod.kin hk (PX (ha.out pos pins _ σ H2 _ I3 (show uA X.K E ms σ H2 (λvs H1=>spM X.K n nf.2 (vs++[]) H1 Q E) from ⟨w2,r,S2,hr2,hS2,?_⟩)) λus s4 zq=>Tn zq λvs H4 I4 r4 q4=>⟨I4.RK,tX F hr hbd .nil hx I4 r4 q4⟩) he hpl
    cases e:ms r S2 with
    |bad=>rw[e]at p;exact p.elim
    |err y S'=>rw[e]at p;exact p
    |ok ds S'=>
     rw[e]at p;intro w1 H1 vs x1 q1 s1;rw[Qi]
     exact⟨by rw[q1.length];exact hn r S2 ds S' e,w1,S',ds,s1,q1,aF.ext (r:=nf.2 ds S') p x1 hS2 s1⟩
 |_=>exact p.elim
def aaj(K:Frag)(mg:Str->Option Value)(x:Str)(ss:List Str):Prop:=∃a,mg x=some (.ref a)/\uc K a (ss.map .str)
def IZ{ss:List Str}(h:aaj X.K X.mg x ss)(hg:Gl X x)(hd:(x == ("__debug__":Str))=false:=by decide +kernel):SE X E (.Name x pos) (eC (.tup (ss.map .str))):=by
 obtain⟨a,hm,k⟩:=h
 exact ud (gn hg hm (v:=.ref a) rfl hd) λ_ _=>by unfold RD;exact⟨a,_,rfl,.inr k,pY ss⟩
def DT{K:Frag}(X:K.In h)(G:h.Ns mainGlobals mg){x:Str}{od:Option Addr}{n:Nat}{sl:Array (Option Value)}{i j:Str}{t1 t2:Tok}(hn:nsIn K mainGlobals x=some (some (.ref a)))(hl:K.lookup a=some ⟨.type "tuple",od,.seq #[.str i t1,.str j t2] n,sl⟩):aaj K mg x [i,j]:=
 ⟨a,Yd X G hn,_,_,n,hl,rfl,rfl,by show 2<=sizeLine;decide,.cons ⟨t1,rfl⟩ (.cons ⟨t2,rfl⟩ .nil)⟩
end
def Xc(f:FM):FM:=λds S=>(f ds S).nx
theorem Pu.nx{K:Frag}{k n:Nat}(D:Pu P w K mg base x k n f):Xh P w K mg base x k n (Xc f):=by obtain⟨fa,fd,ps,a,b,c,F⟩:=D.ex;exact⟨fa,fd,ps,a,b,c,F.imp λvs H Q E ⟨l,w,S,ds,hS,q,p⟩=>⟨l,w,S,ds,hS,q,aF.nx p⟩⟩
def vL{E:XK}(i:Nat)(hN:X.N[i]?=some x:=by kernel_rfl)(hv:X.env.scope.names.lookup x=some .local:=by kernel_rfl)(hd:(x == ("__debug__":Str))=false:=by decide +kernel)(hcd:(x == ("__classdict__":Str))=false:=by decide +kernel):SE X E (.Name x pos) (af i):=C7 i hN (Or.inl hv) hd hcd
def vC{E:XK}(i:Nat)(hN:X.N[i]?=some x:=by kernel_rfl)(hv:X.env.scope.names.lookup x=some .cell:=by kernel_rfl)(hd:(x == ("__debug__":Str))=false:=by decide +kernel)(hcd:(x == ("__classdict__":Str))=false:=by decide +kernel):SE X E (.Name x pos) (af i):=C7 i hN (Or.inr (Or.inl hv)) hd hcd
def QM{N P:List Str}{sc:Scope}(a:sc.kind=.function:=by kernel_rfl)(b:sc.isCoroutine=false:=by kernel_rfl)(c:sc.isGenerator=false:=by kernel_rfl)(d:N.Nodup:=by decide +kernel)(e:N.take P.length=P:=by rfl)(f:∀x∈P,sc.names.lookup x=some .local\/sc.names.lookup x=some .cell:=by decide +kernel)(g:∀y∈sc.names,y.2≠.free:=by decide +kernel):Py N P sc:=⟨a,b,c,d,e,f,g⟩
def cN{k k' n:Nat}{a:Expr}{es:List Expr}{ms:AM}{p:Pos}(D:Pu X.prog X.w X.K X.mg X.base x k n f)(hr:PQ k' X.A)(ha:SA X E0 (a::es) ms)(hn:wu ms n)(hk:k<=k':=by decide)(hg:Gl X x:=by unfold Gl;kernel_rfl)(hdb:(x == ("__debug__":Str))=false:=by decide +kernel)(he:starEach (a::es) X.env=(false,eval a X.env)::starEach es X.env:=by kernel_rfl)(hpl:(backTo pos (starEach es X.env)).any (·.1)=false:=by kernel_rfl):SE X E0 (.Call (.Name x p) (a::es) [] pos) (az f ms):=IH D (hr.mono hk) hg ha hn hdb he hpl
end PD
def Y0{α:Sort _}{a b:α}(h:a=b:=by kernel_rfl):a=b:=h
def Y2{α:Sort _}{a b:α}{p:Prop}(h:a=b:=by kernel_rfl):a=b\/p:=Or.inl h
def Y3{α:Sort _}{a b:α}{p q:Prop}(h:a=b:=by kernel_rfl):p\/a=b\/q:=Or.inr (Or.inl h)
def Y5{p:Prop}[Decidable p](h:p:=by decide +kernel):p:=h
open L2 in
def Y1{X:Cx}{x:PySem.Str}(h:Gl X x:=by unfold Gl;kernel_rfl):Gl X x:=h
namespace Lw
open PySem PySem.Spec PyProof.Rows L2 PD
variable{b e i m c κ δ κ' e' δ':Nat}{S S1 S2 S3 S0:Pz}{tl r r1 ρ:Rp}{j y v q s:Int}{a o:EM}{xs K u p ys A B:List Int}{it t:AM}{PB:List Nat}{x w:Str}{ws:List Str}{T W:List (Int×Int)}{f C:Addr}{nf:Str×FM}{ps:List (Nat×Int)}{fd:FuncData}
def L6:List (Str×Option Str):=[("comes",some "comes_text"),("ways",some "ways_text"),("signs",some "signs_text"),("near",some "near_text")]
def Mr:List (Str×Option Str):=[("row",some "row_text"),("total",some "total_text"),("even",some "even_text"),("swing",some "swing_text"),("every",some "every_text")]
def MB:List (Str×PyData):=[("+",.int (1)),(".",.int (0)),("-",.int (-1))]
def MX:List (Int×PyData):=[((1:Int),.str "+"),((0:Int),.str "."),((-1:Int),.str "-")]
def SN:List Str:=[]
def WQ:List Str:=[]
def aat(c k:Str):Bool:=c == k||k == "PlusError"
abbrev d5:Stmt:=inClass (top 51) 0
def g6:SM:=(aA (lY "Keeper" "numbers" (af 0) (gU ak)) (lY "Keeper" "earlier" (af 0) (eNew ak)))
def cD:FM:=QB 1 g6
abbrev fm:Stmt:=inClass (top 81) 0
def jt:SM:=(lY "Desk" "keeper" (af 0) (rp "Keeper" cD))
def bF:FM:=QB 1 jt
abbrev fq:Stmt:=inClass (top 51) 1
def ju:SM:=(aA (bN (pL dv (jD "Keeper" "earlier" (af 0)) (ag (jD "Keeper" "numbers" (af 0)) ak))) (aA (lY "Keeper" "numbers" (af 0) (af 1)) (aT (eB cy (ag (af 1) ak)))))
def cb:FM:=QB 2 ju
abbrev jV:Stmt:=top 12
def lh:SM:=(aT (jK (eB jC (ag (af 0) (ag (eC (.ty "int")) ak))) (Iv (eB jC (ag (af 0) (ag (eC (.ty "bool")) ak))))))
def bO:FM:=QB 1 lh
abbrev ft:Stmt:=top 16
def fW:SM:=(QQ (PD.fM (tV (az bO (ag (af 0) ak)))) mM bc)
def bG:FM:=QB 1 fW
abbrev c9:Stmt:=top 17
def fN:SM:=(aA (bN (az bG (ag (af 1) ak))) (QQ (tV (Px oLt (af 1) (af 0))) mM bc))
def bV:FM:=QB 2 fN
abbrev fX:Stmt:=inClass (top 51) 2
def jW:SM:=(aA (bN (az bV (ag (eC (.int 1)) (ag (af 1) ak)))) (aA (QQ (tV (Px bR (eB cy (ag (jD "Keeper" "numbers" (af 0)) ak)) (eC (.int (16))))) mM bc) (aT (dy "Keeper" "change" cb (af 0) (ag (Px aY (jD "Keeper" "numbers" (af 0)) (gU (ag (af 1) ak))) ak)))))
def cK:FM:=QB 2 jW
abbrev ir:Stmt:=inClass (top 51) 5
def l0:SM:=(aT (jD "Keeper" "numbers" (af 0)))
def eN:FM:=QB 1 l0
abbrev fw:Stmt:=inClass (top 51) 3
def jv:SM:=(aA (QQ (tV (Px bR (jD "Keeper" "numbers" (af 0)) (gU ak))) mM bc) (aT (dy "Keeper" "change" cb (af 0) (ag (UG lR (jD "Keeper" "numbers" (af 0)) Xp (fc (X7 yA (eC (.int 1))))) ak))))
def cA:FM:=QB 1 jv
abbrev jb:Stmt:=top 30
def oh:SM:=(aA (aN 1 (Px jr (eB cy (ag (af 0) ak)) (eC (.int 2)))) (aT (gU (ag (UG lR (af 0) Xp (fc (af 1))) (ag (UG lR (af 0) (fc (af 1)) Xp) ak)))))
def bC:FM:=QB 2 oh
abbrev m4:Stmt:=top 14
def jX:SM:=(aA (QQ (PD.T8 (PD.fM (tV (eB jC (ag (af 0) (ag (eC (.ty "tuple")) ak))))) (tV (Px X8 (eB cy (ag (af 0) ak)) (eC (.int (16)))))) (aT (eC (.bl false))) bc) (aT (eB k8 (ag (br (bJ (af 0) bH) 1 [] (.nm 0) bY (jK (az bO (ag (af 0) ak)) (Px Xo (af 0) (eC (.int 1))))) ak))))
def fO:FM:=QB 1 jX
abbrev iu:Stmt:=top 15
def jc:SM:=(QQ (PD.fM (tV (az fO (ag (af 0) ak)))) mM bc)
def aP:FM:=QB 1 jc
abbrev cF:Stmt:=top 18
def ej:SM:=(aA (bN (az aP (ag (af 0) ak))) (bN (az bG (ag (af 1) ak))))
def aJ:FM:=QB 2 ej
abbrev lj:Stmt:=top 27
def sM:SM:=(aA (aN 3 Ac) (aA (dU (dY (af 0)) (.tp [(.nm 4),(.nm 5)]) (dU (bJ (af 2) bH) (.nm 6) (aA (aN 7 (Px aY (af 4) (Px dn (af 6) (af 1)))) (lL g0 (Px aY (fe (af 3) (af 7) (eC (.int 0))) (af 5)) (af 3) (af 7))))) (aT (af 3))))
def gz:FM:=QB 8 sM
abbrev jY:Stmt:=top 28
def qf:SM:=(aA (aN 2 (nR [((eC (.int 0)),(eC (.int 1)))])) (aA (dU (bJ (af 0) bH) (.nm 3) (aN 2 (az gz (ag (af 2) (ag (af 3) (ag (af 1) ak)))))) (aT (af 2))))
def cW:FM:=QB 4 qf
abbrev iw:Stmt:=top 32
def l5:SM:=(aA (bN (az aJ (ag (af 0) (ag (af 1) ak)))) (aA (aN 2 (br (bJ (az bC (ag (af 0) ak)) bH) 1 [] (.nm 0) bY (az cW (ag (af 0) (ag (eC (.tup (([(-1),(1)]:List Int).map .int))) ak))))) (aT (eB oy (ag (br (dY (Px gW (af 2) (eC (.int 0)))) 2 [2,1] (.tp [(.nm 0),(.nm 1)]) bY (Px dn (af 1) (fe (Px gW (af 2) (eC (.int 1))) (Px gC (af 3) (af 0)) (eC (.int 0))))) ak)))))
def L9:FM:=QB 3 l5
abbrev fY:Stmt:=top 70
def jZ:SM:=(aT (VM (tV (Px X8 (az L9 (ag (af 0) (ag (af 1) ak))) (eC (.int 0)))) (eC (.str "yes")) (eC (.str "no"))))
def cL:FM:=QB 2 jZ
abbrev fA:Stmt:=top 31
def jw:SM:=(aA (bN (az aP (ag (af 0) ak))) (aT (eB fh (ag (br (bJ (az bC (ag (af 0) ak)) bH) 1 [] (.nm 0) bY (eB fh (ag (eB wJ (ag (az cW (ag (af 0) (ag (eC (.tup (([(-1),(1)]:List Int).map .int))) ak))) ak)) ak))) ak))))
def cZ:FM:=QB 1 jw
abbrev m5:Stmt:=top 36
def wX:SM:=(aA (aN 2 (az cZ (ag (af 0) ak))) (aA (aN 3 (eNew ak)) (aA (aN 4 (eC (.int 0))) (aA (aN 5 (Px gC (eB cy (ag (Px QV (af 2) (eC (.int 1))) ak)) (eC (.int 1)))) (aA (YC (PD.i5 (tV (Px oLt (af 4) (eB cy (ag (Px QV (af 2) (eC (.int 0))) ak)))) (tV (Px Xo (af 5) (eC (.int 0))))) (aA (aN 6 (Px aY (Px QV (Px QV (af 2) (eC (.int 0))) (af 4)) (Px QV (Px QV (af 2) (eC (.int 1))) (af 5)))) (aA (bN (pL dv (af 3) (ag (gU (ag (af 4) (ag (af 5) (ag (af 6) ak)))) ak))) (QQ (tV (Px oLt (af 6) (af 1))) (aN 4 (Px aY (af 4) (eC (.int 1)))) (aN 5 (Px gC (af 5) (eC (.int 1)))))))) (aT (af 3)))))))
def eO:FM:=QB 7 wX
abbrev ll:Stmt:=top 38
def sN:SM:=(aA (bN (az aJ (ag (af 0) (ag (af 1) ak)))) (aT (eB nY (ag (br (yN (az eO (ag (af 0) (ag (af 1) ak)))) 3 [1] (.tp [(.nm 0),(.nm 1),(.nm 2)]) (tV (Px Xo (af 2) (af 3))) (af 2)) ak))))
def ME:FM:=QB 2 sN
abbrev fZ:Stmt:=top 40
def j0:SM:=(aT (az ME (ag (af 0) (ag (eC (.int 0)) ak))))
def Mz:FM:=QB 1 j0
abbrev gH:Stmt:=top 67
def kR:SM:=(aT (eB cY (ag (az Mz (ag (af 0) ak)) ak)))
def c5:FM:=QB 1 kR
abbrev de:Stmt:=top 44
def fP:SM:=(aA (aN 2 (eC (.int 0))) (aA (dU (bJ (eB wJ (ag (af 0) ak)) bH) (.nm 3) (aA (QQ (tV (Px X8 (af 3) (Px aY (Px dn (af 1) (af 2)) (eC (.int 1))))) (aT (af 2)) bc) (aN 2 (Px aY (af 2) (af 3))))) (aT (eC .non))))
def bw:FM:=QB 4 fP
abbrev dI:Stmt:=top 45
def gI:SM:=(aA (bN (az aP (ag (af 0) ak))) (aT (Px (rl false) (az bw (ag (af 0) (ag (eC (.int (2))) ak))) (eC .non))))
def L7:FM:=QB 1 gI
abbrev dJ:Stmt:=top 46
def gJ:SM:=(aA (bN (az aP (ag (af 0) ak))) (aT (Px (rl false) (az bw (ag (af 0) (ag (eC (.int (1))) ak))) (eC .non))))
def L8:FM:=QB 1 gJ
abbrev gb:Stmt:=top 69
def j5:SM:=(aA (QQ (tV (az L8 (ag (af 0) ak))) (aT (eC (.str "signs"))) bc) (aT (VM (tV (az L7 (ag (af 0) ak))) (eC (.str "parts")) (eC (.str "no")))))
def cM:FM:=QB 1 j5
abbrev lp:Stmt:=top 37
def sO:SM:=(aA (bN (az aJ (ag (af 0) (ag (af 1) ak)))) (aT (eB wM (ag (br (yN (az eO (ag (af 0) (ag (af 1) ak)))) 3 [1] (.tp [(.nm 0),(.nm 1),(.nm 2)]) (tV (Px oLe (af 2) (af 3))) (af 2)) ak))))
def MS:FM:=QB 2 sO
abbrev eP:Stmt:=top 73
def iN:SM:=(aT (VM (tV (Px (rl false) (af 0) (eC .non))) (eC (.str "none")) (eB cY (ag (af 0) ak))))
def cn:FM:=QB 1 iN
abbrev gK:Stmt:=top 74
def kS:SM:=(aT (Px aY (Px aY (az cn (ag (az MS (ag (af 0) (ag (af 1) ak))) ak)) (eC (.str " "))) (az cn (ag (az ME (ag (af 0) (ag (af 1) ak))) ak))))
def c6:FM:=QB 2 kS
abbrev j6:Stmt:=top 65
def qg:SM:=(aT (VM (tV (Px eY (af 0) (gU ak))) (fk og (eC (.str " ")) (ag (br (bJ (af 0) bH) 1 [] (.nm 0) bY (eB cY (ag (af 0) ak))) ak)) (eC (.str "none"))))
def fB:FM:=QB 1 qg
abbrev eQ:Stmt:=top 33
def iO:SM:=(aA (aN 2 Ac) (aA (dU (dY (af 0)) (.tp [(.nm 3),(.nm 4)]) (dU (bJ (eC (.tup (([(-1),(1)]:List Int).map .int))) bH) (.nm 5) (aA (aN 6 (Px aY (af 3) (Px dn (af 5) (af 1)))) (aA (aN 7 (Px aY (af 4) (gU (ag (af 5) ak)))) (lL g0 (eB sv (ag (af 7) (ag (fe (af 2) (af 6) (af 7)) ak))) (af 2) (af 6)))))) (aT (af 2))))
def cq:FM:=QB 8 iO
abbrev jd:Stmt:=top 34
def oi:SM:=(aA (aN 1 (nR [((eC (.int 0)),(gU ak))])) (aA (dU (bJ (af 0) bH) (.nm 2) (aN 1 (az cq (ag (af 1) (ag (af 2) ak))))) (aT (af 1))))
def et:FM:=QB 3 oi
abbrev gL:Stmt:=top 35
def kT:SM:=(aA (bN (az aJ (ag (af 0) (ag (af 1) ak)))) (aA (aN 2 (br (bJ (az bC (ag (af 0) ak)) bH) 1 [] (.nm 0) bY (az et (ag (af 0) ak)))) (aA (aN 3 (br (dY (Px gW (af 2) (eC (.int 0)))) 2 [2,1] (.tp [(.nm 0),(.nm 1)]) (tV (Px (yI false) (Px gC (af 3) (af 0)) (Px gW (af 2) (eC (.int 1))))) (Px aY (af 1) (Px gW (Px gW (af 2) (eC (.int 1))) (Px gC (af 3) (af 0)))))) (aT (eB nY (ag (af 3) ak))))))
def My:FM:=QB 4 kT
abbrev ix:Stmt:=top 57
def l6:SM:=(aA (aN 1 (eC (.str ""))) (aA (aN 2 (af 0)) (aA (YC (tV (Px Xo (af 2) (Px pH (eC (.int 10)) (eC (.int 60))))) (aA (aN 1 (Px aY (fk pX (eB cY (ag (Px oMod (af 2) (Px pH (eC (.int 10)) (eC (.int 60)))) ak)) (ag (eC (.int (60))) ak)) (af 1))) (aN 2 (Px jr (af 2) (Px pH (eC (.int 10)) (eC (.int 60))))))) (aT (Px aY (eB cY (ag (af 2) ak)) (af 1))))))
def dz:FM:=QB 3 l6
abbrev je:Stmt:=top 13
def oj:SM:=(aT (jK (eB jC (ag (af 0) (ag (eC (.ty "tuple")) ak))) (jK (Px bR (eB cy (ag (af 0) ak)) (af 1)) (eB k8 (ag (br (bJ (af 0) bH) 1 [] (.nm 0) bY (az bO (ag (af 0) ak))) ak)))))
def dq:FM:=QB 2 oj
abbrev gM:Stmt:=top 19
def kU:SM:=(aA (bN (az aP (ag (af 1) ak))) (aT (jK (az dq (ag (af 0) (ag (eB cy (ag (af 1) ak)) ak))) (eB k8 (ag (br (bJ (af 0) bH) 1 [] (.nm 0) bY (ig oLe oLe (X7 yA (eC (.int 1))) (af 0) (eC (.int 1)))) ak)))))
def dM:FM:=QB 2 kU
abbrev gc:Stmt:=top 22
def j7:SM:=(QQ (PD.fM (tV (az dM (ag (af 1) (ag (af 0) ak))))) mM bc)
def bW:FM:=QB 2 j7
abbrev m7:Stmt:=top 60
def wY:SM:=(aA (bN (az bW (ag (af 0) (ag (af 1) ak)))) (aT (fk og (eC (.str " ")) (ag (br (yF (ag (af 0) (ag (af 1) ak))) 2 [] (.tp [(.nm 0),(.nm 1)]) bY (Px aY (wV MX (af 1)) (az dz (ag (af 0) ak)))) ak))))
def iP:FM:=QB 2 wY
abbrev gf:Stmt:=top 72
def j8:SM:=(aA (aN 2 (az My (ag (af 0) (ag (af 1) ak)))) (aT (VM (tV (Px (rl false) (af 2) (eC .non))) (eC (.str "none")) (az iP (ag (af 0) (ag (af 2) ak))))))
def cO:FM:=QB 3 j8
abbrev eR:Stmt:=top 48
def iQ:SM:=(aA (aN 2 Ac) (aA (dU (dY (af 0)) (.tp [(.nm 3),(.nm 4)]) (dU (bJ (eC (.tup (([(-1),(1)]:List Int).map .int))) bH) (.nm 5) (aA (aN 6 (Px aY (af 3) (Px dn (af 5) (af 1)))) (aA (aN 7 (eB wm (ag (af 4) (ag (eB yB (ag (af 6) ak)) ak)))) (lL g0 (eB uy (ag (af 7) (ag (fe (af 2) (af 6) (af 7)) ak))) (af 2) (af 6)))))) (aT (af 2))))
def cu:FM:=QB 8 iQ
abbrev fC:Stmt:=top 49
def jx:SM:=(aA (bN (az aP (ag (af 0) ak))) (aA (aN 1 (nR [((eC (.int 0)),(eC (.int 0)))])) (aA (dU (bJ (af 0) bH) (.nm 2) (aN 1 (az cu (ag (af 1) (ag (af 2) ak))))) (aT (X7 wN (af 1))))))
def Ms:FM:=QB 3 jx
abbrev gg:Stmt:=top 68
def j9:SM:=(aT (eB cY (ag (az Ms (ag (af 0) ak)) ak)))
def cP:FM:=QB 1 j9
abbrev lq:Stmt:=top 23
def sP:SM:=(aA (bN (az aP (ag (af 0) ak))) (aT (eB oy (ag (af 0) ak))))
def iR:FM:=QB 1 sP
abbrev gi:Stmt:=top 66
def ka:SM:=(aT (eB cY (ag (az iR (ag (af 0) ak)) ak)))
def dr:FM:=QB 1 ka
abbrev gN:Stmt:=top 71
def kW:SM:=(aT (eB cY (ag (az L9 (ag (af 0) (ag (af 1) ak))) ak)))
def c7:FM:=QB 2 kW
abbrev eS:Stmt:=top 78
def iS:SM:=(aA (aN 1 (VM (tV (fk di (af 0) (ag (eC (.str "-")) ak))) (UG lg (af 0) (fc (eC (.int 1))) Xp) (af 0))) (aA (QQ (tV (fk di (af 1) (ag (eC (.str "0")) ak))) (aT (Px bR (af 0) (eC (.str "0")))) bc) (aT (jK (ig oLe oLe (eC (.int 1)) (eB cy (ag (af 1) ak)) (eC (.int (30)))) (eB k8 (ag (br (bJ (af 1) sG) 1 [] (.nm 0) bY (Px (uV false) (af 0) (eC (.str "0123456789")))) ak))))))
def bP:FM:=QB 2 iS
abbrev lr:Stmt:=top 79
def sQ:SM:=(aA (QQ (tV (Px bR (eB cy (ag (af 0) ak)) (eC (.int 1)))) (aT (eOr (Px (oIn false) (Px QV (af 0) (eC (.int 0))) (eC (.tup ((["take","back"]:List Str).map .str)))) (B4 Mr (Px QV (af 0) (eC (.int 0)))))) bc) (aA (QQ (PD.T8 (tV (Px eY (eB cy (ag (af 0) ak)) (eC (.int 2)))) (PD.fM (tV (az bP (ag (Px QV (af 0) (eC (.int 1))) ak))))) (aT (eC (.bl false))) bc) (aA (QQ (tV (Px bR (Px QV (af 0) (eC (.int 0))) (eC (.str "put")))) (aT (Px Xo (eB ei (ag (Px QV (af 0) (eC (.int 1))) ak)) (eC (.int 1)))) bc) (aT (B4 L6 (Px QV (af 0) (eC (.int 0))))))))
def iT:FM:=QB 1 sQ
abbrev d9:Stmt:=top 80
def g7:SM:=(aA (QQ (PD.fM (tV (eB jC (ag (af 0) (ag (eC (.ty "str")) ak))))) mM bc) (aA (aN 1 (fk dZ (af 0) (ag (eC (.str " ")) ak))) (aA (QQ (PD.fM (tV (az iT (ag (af 1) ak)))) mM bc) (aT (af 1)))))
def bp:FM:=QB 2 g7
abbrev iy:Stmt:=inClass (top 81) 1
def dR:XX:=[("row",some ("row_text",Xc fB)),("total",some ("total_text",Xc dr)),("even",some ("even_text",Xc c5)),("swing",some ("swing_text",Xc cP)),("every",some ("every_text",Xc cM))]
def cv:XX:=[("comes",some ("comes_text",Xc cL)),("ways",some ("ways_text",Xc c7)),("signs",some ("signs_text",Xc cO)),("near",some ("near_text",Xc c6))]
def l7:SM:=(aA (aN 2 (az bp (ag (af 1) ak))) (aA (QQ (tV (Px bR (Px QV (af 2) (eC (.int 0))) (eC (.str "put")))) (aT (eB cY (ag (dy "Keeper" "put" cK (jD "Desk" "keeper" (af 0)) (ag (eB ei (ag (Px QV (af 2) (eC (.int 1))) ak)) ak)) ak))) bc) (aA (QQ (tV (Px bR (Px QV (af 2) (eC (.int 0))) (eC (.str "take")))) (aT (eB cY (ag (dy "Keeper" "take" cA (jD "Desk" "keeper" (af 0)) ak) ak))) bc) (aA (QQ (tV (Px bR (Px QV (af 2) (eC (.int 0))) (eC (.str "back")))) mM bc) (aA (aN 3 (dy "Keeper" "row" eN (jD "Desk" "keeper" (af 0)) ak)) (aA (QQ (tV (Px bR (eB cy (ag (af 2) ak)) (eC (.int 1)))) (aT (wW dR (Px QV (af 2) (eC (.int 0))) (ag (af 3) ak))) bc) (aT (wW cv (Px QV (af 2) (eC (.int 0))) (ag (af 3) (ag (eB ei (ag (Px QV (af 2) (eC (.int 1))) ak)) ak))))))))))
def aB:FM:=QB 4 l7
abbrev iz:Stmt:=top 85
def l8:SM:=(aA (aN 2 (Px aY (eC (.str " ")) (eB cY (ag (af 1) ak)))) (aA (aN 3 (ow (ag (eC (.str "row")) (ag (eC (.str "total")) (ag (eC (.str "even")) (ag (eC (.str "swing")) (ag (eC (.str "every")) (ag (Px aY (eC (.str "comes")) (af 2)) (ag (Px aY (eC (.str "ways")) (af 2)) (ag (Px aY (eC (.str "signs")) (af 2)) (ag (Px aY (eC (.str "near")) (af 2)) ak))))))))))) (aT (br (bJ (af 3) bH) 1 [0] (.nm 0) bY (dy "Desk" "say" aB (af 1) (ag (af 0) ak))))))
def bB:FM:=QB 4 l8
abbrev kc:Stmt:=top 83
def jf:SM:=(aA (aN 2 (Px aY (Px dn (eC (.int 7919)) (af 1)) (eC (.int 13)))) (aA (QQ (tV (Px oLt (af 1) (eB cy (ag (af 0) ak)))) (aN 2 (Px QV (af 0) (af 1))) bc) (aA (QQ (tV (Px bR (Px oMod (af 2) (eC (.int 2))) (eC (.int 0)))) (aT (eNew (ag (Px jr (af 2) (eC (.int 2))) ak))) bc) (aA (aN 3 (eC (.int 0))) (aA (dU (eG (ag (eC (.int 16)) ak)) (.nm 4) (aA (aN 5 (Px oMod (Px aY (Px aY (Px dn (Px oMod (af 2) (eC (.int 2147483647))) (eC (.int 48271))) (Px dn (eC (.int 7919)) (af 4))) (eC (.int 1))) (eC (.int 2147483647)))) (aA (aN 5 (Px oMod (Px dn (af 5) (af 5)) (eC (.int 2147483629)))) (aN 3 (Px aY (Px dn (af 3) (eC (.int 2147483647))) (Px oMod (Px dn (af 5) (Px aY (af 5) (eC (.int 13)))) (eC (.int 2147483647)))))))) (aT (eNew (ag (af 3) ak))))))))
def ef:FM:=QB 6 jf
abbrev iA:Stmt:=top 86
def l9:SM:=(aA (aN 1 (dy "Desk" "say" aB (af 0) (ag (eC (.str "row")) ak))) (aT (VM (tV (Px bR (af 1) (eC (.str "none")))) (gU ak) (eB fh (ag (br (bJ (fk dZ (af 1) (ag (eC (.str " ")) ak)) bH) 1 [] (.nm 0) bY (eB ei (ag (af 0) ak))) ak)))))
def cE:FM:=QB 2 l9
abbrev dt:Stmt:=top 20
def gm:SM:=(aT (jK (az dq (ag (af 0) (ag (af 1) ak))) (eB k8 (ag (br (bJ (af 0) bH) 1 [] (.nm 0) bY (Px bR (eB yB (ag (af 0) ak)) (eC (.int 1)))) ak))))
def cf:FM:=QB 2 gm
abbrev gP:Stmt:=top 21
def kX:SM:=(aA (bN (az aP (ag (af 1) ak))) (aT (az cf (ag (af 0) (ag (eB cy (ag (af 1) ak)) ak)))))
def dN:FM:=QB 2 kX
abbrev lu:Stmt:=top 59
def sR:SM:=(aA (QQ (PD.T8 (tV (Px oLt (eB cy (ag (af 0) ak)) (eC (.int 2)))) (PD.T8 (tV (m3 true MB (Px uU (af 0) (eC (.int 0))))) (tV (Px bR (Px uU (af 0) (eC (.int 1))) (eC (.str "0")))))) (aT (eC (.bl false))) bc) (aT (eB k8 (ag (br (bJ (UG lg (af 0) (fc (eC (.int 1))) Xp) sG) 1 [] (.nm 0) bY (Px (uV false) (af 0) (eC (.str "0123456789")))) ak))))
def gA:FM:=QB 1 sR
abbrev jg:Stmt:=top 58
def om:SM:=(aA (aN 1 (Px jr (Px gC (Px aY (eB cy (ag (af 0) ak)) (eC (.int (60)))) (eC (.int 1))) (eC (.int (60))))) (aA (aN 2 (fk pX (af 0) (ag (Px dn (af 1) (eC (.int (60)))) ak))) (aA (aN 3 (eC (.int 0))) (aA (dU (oX (ag (eC (.int 0)) (ag (eB cy (ag (af 2) ak)) (ag (eC (.int (60))) ak)))) (.nm 4) (aN 3 (Px aY (Px dn (af 3) (Px pH (eC (.int 10)) (eC (.int 60)))) (eB ei (ag (UG lg (af 2) (fc (af 4)) (fc (Px aY (af 4) (eC (.int (60)))))) ak))))) (aT (af 3))))))
def eu:FM:=QB 5 om
abbrev kd:Stmt:=top 61
def qh:SM:=(aT (VM (tV (Px eY (af 0) (eC (.str "")))) (fk dZ (af 0) (ag (eC (.str " ")) ak)) (ow ak)))
def fD:FM:=QB 1 qh
abbrev m9:Stmt:=top 62
def wZ:SM:=(aA (QQ (PD.fM (tV (eB jC (ag (af 0) (ag (eC (.ty "str")) ak))))) mM bc) (aA (aN 1 (eNew ak)) (aA (aN 2 (eNew ak)) (aA (dU (z6 (ag (az fD (ag (af 0) ak)) ak)) (.tp [(.nm 3),(.nm 4)]) (aA (QQ (PD.T8 (tV (Px bR (af 3) (eC (.int (16))))) (PD.fM (tV (az gA (ag (af 4) ak))))) mM bc) (aA (bN (pL dv (af 1) (ag (az eu (ag (UG lg (af 4) (fc (eC (.int 1))) Xp) ak)) ak))) (bN (pL dv (af 2) (ag (wU MB (Px uU (af 4) (eC (.int 0)))) ak)))))) (aT (gU (ag (eB fh (ag (af 1) ak)) (ag (eB fh (ag (af 2) ak)) ak))))))))
def iU:FM:=QB 5 wZ
abbrev lx:Stmt:=top 24
def sS:SM:=(aA (bN (az bW (ag (af 0) (ag (af 1) ak)))) (aT (eB oy (ag (br (yF (ag (af 0) (ag (af 1) ak))) 2 [] (.tp [(.nm 0),(.nm 1)]) bY (Px dn (af 0) (af 1))) ak))))
def iV:FM:=QB 2 sS
abbrev dg:Stmt:=top 88
def fQ:SM:=(aA (aN 3 (dy "Desk" "say" aB (af 0) (ag (Px aY (eC (.str "signs ")) (eB cY (ag (af 2) ak))) ak))) (aA (QQ (tV (Px eY (Px bR (af 3) (eC (.str "none"))) (Px bR (dy "Desk" "say" aB (af 0) (ag (Px aY (eC (.str "comes ")) (eB cY (ag (af 2) ak))) ak)) (eC (.str "no"))))) (aT (eC (.bl false))) bc) (aA (QQ (tV (Px bR (af 3) (eC (.str "none")))) (aT (eC (.bl true))) bc) (aA (BC (.tp [(.nm 4),(.nm 5)]) (az iU (ag (af 3) ak))) (aT (jK (Px bR (af 4) (af 1)) (jK (az dN (ag (af 5) (ag (af 1) ak))) (Px bR (az iV (ag (af 1) (ag (af 5) ak))) (af 2)))))))))
def bg:FM:=QB 6 fQ
abbrev jh:Stmt:=top 84
def ke:SM:=(aA (BC (.tp [(.nm 2),(.nm 3)]) (eB oU (ag (Px QV (af 0) (eC (.int 0))) (ag (af 1) ak)))) (aA (lL Dn (af 2) (af 0) (eC (.int 0))) (aT (af 3))))
def bX:FM:=QB 4 ke
abbrev fE:Stmt:=top 87
def jy:SM:=(aA (aN 2 (eB cy (ag (az cE (ag (af 1) ak)) ak))) (aA (aN 3 (az bX (ag (af 0) (ag (eC (.int 6)) ak)))) (QQ (PD.i5 (tV (Px oLt (af 3) (eC (.int 4)))) (tV (Px oLt (af 2) (eC (.int 9))))) (bN (dy "Desk" "say" aB (af 1) (ag (Px aY (eC (.str "put ")) (eB cY (ag (Px aY (eC (.int 1)) (az bX (ag (af 0) (ag (Px QV (ow (ag (eC (.int 6)) (ag (eC (.int 50)) ak))) (Px oMod (af 3) (eC (.int 2)))) ak)))) ak))) ak))) (QQ (PD.i5 (tV (Px bR (af 3) (eC (.int 4)))) (tV (Px X8 (af 2) (eC (.int 0))))) (bN (dy "Desk" "say" aB (af 1) (ag (eC (.str "take")) ak))) bc))))
def cB:FM:=QB 4 jy
abbrev kf:Stmt:=top 89
def Hj:SM:=(aA (dU (eG (ag (eB wm (ag (eC (.int 1)) (ag (eB uy (ag (eB cy (ag (af 0) ak)) (ag (eC (.int 2)) ak))) ak))) ak)) (.nm 1) (aA (aN 2 (az ef (ag (af 0) (ag (af 1) ak)))) (aA (aN 3 (ow (ag (rp "Desk" bF) (ag (rp "Desk" bF) ak)))) (aA (dU (eG (ag (eC (.int 12)) ak)) (.nm 4) (aA (aN 6 (Px oMod (af 4) (eC (.int 2)))) (aA (aN 7 (az bB (ag (Px QV (af 3) (Px gC (eC (.int 1)) (af 6))) (ag (af 4) ak)))) (aA (bN (az cB (ag (af 2) (ag (Px QV (af 3) (af 6)) ak)))) (QQ (tV (Px eY (az bB (ag (Px QV (af 3) (Px gC (eC (.int 1)) (af 6))) (ag (af 4) ak))) (af 7))) (aT (eC (.bl false))) bc))))) (dU (bJ (af 3) bH) (.nm 5) (aA (aN 8 (az cE (ag (af 5) ak))) (aA (aN 9 (Px gC (az bX (ag (af 2) (ag (eC (.int 41)) ak))) (eC (.int 20)))) (aA (aN 10 (rp "Desk" bF)) (aA (dU (bJ (af 8) bH) (.nm 11) (bN (dy "Desk" "say" aB (af 10) (ag (Px aY (eC (.str "put ")) (eB cY (ag (af 11) ak))) ak)))) (aA (QQ (PD.T8 (tV (Px eY (az bB (ag (af 10) (ag (af 9) ak))) (az bB (ag (af 5) (ag (af 9) ak))))) (PD.fM (tV (az bg (ag (af 5) (ag (af 8) (ag (af 9) ak))))))) (aT (eC (.bl false))) bc) (aA (dU (bJ (fk dZ (dy "Desk" "say" aB (af 5) (ag (Px aY (eC (.str "near ")) (eB cY (ag (af 9) ak))) ak)) (ag (eC (.str " ")) ak)) bH) (.nm 12) (QQ (PD.i5 (tV (Px eY (af 12) (eC (.str "none")))) (PD.fM (tV (az bg (ag (af 5) (ag (af 8) (ag (eB ei (ag (af 12) ak)) ak))))))) (aT (eC (.bl false))) bc)) (aA (aN 13 (eB ei (ag (dy "Desk" "say" aB (af 5) (ag (eC (.str "even")) ak)) ak))) (aA (QQ (tV (Px eY (Px QV (fk dZ (dy "Desk" "say" aB (af 5) (ag (Px aY (eC (.str "near ")) (eB cY (ag (af 13) ak))) ak)) (ag (eC (.str " ")) ak)) (eC (.int 0))) (eB cY (ag (af 13) ak)))) (aT (eC (.bl false))) bc) (aA (aN 14 (br (kq (ag (Px gC (eC (.int 1)) (af 13)) (ag (af 13) ak))) 1 [5] (.nm 0) (tV (Px bR (dy "Desk" "say" aB (af 1) (ag (Px aY (eC (.str "comes ")) (eB cY (ag (af 0) ak))) ak)) (eC (.str "yes")))) (af 0))) (QQ (tV (Px eY (af 14) (ow ak))) (aT (eC (.bl false))) bc))))))))))))))) (aT (eC (.bl true))))
def Ar:FM:=QB 15 Hj
structure Gr(b:Nat)(S S':Pz):Prop where
 bx:∃n,S'[b]?=some (.lst [.int n])
 oth:∀i,i≠b->i<S.length->S'[i]?=S[i]?
 len:S.length<=S'.length
theorem Gr.trans(x:Gr b S S1)(y:Gr b S1 S2):Gr b S S2:=
 ⟨y.bx,λi h l=>(y.oth i h (Ys l x.len)).trans (x.oth i h l),Yw x.len y.len⟩
def Gg{n many:Int}(h:S[b]?=some (.lst [.int n]))(h0:0<many)(h1:many<1073741824):bX [.ref b,.int many] S=.ok (.int (n%many)) (S.set b (.lst [.int (n/many)])):=by simp[bX,QB,ke,aA,BC,lL,aT,eB,Px,af,eC,ag,ak,R.bind,R.of,QV,cc,h,Tt,Xn,oU,h0,h1,G.put,G.Ru,Dn]
def uX(h:Gr b S S){many:Int}(h0:0<many)(h1:many<1073741824):∃q S',bX [.ref b,.int many] S=.ok (.int q) S'/\0<=q/\q<many/\Gr b S S':=by
 obtain⟨n,hn⟩:=h.bx;have hb:b<S.length:=(Yc.mp hn).1
 refine⟨_,_,Gg hn h0 h1,Ml _ (by omega),Uz _ h0,⟨n/many,by simp[hb]⟩,λi hi _=>?_,by simp⟩
 rw[Z3 (Ne.symm hi)]
abbrev oY:SM:=(aA (aN 5 (Px oMod (Px aY (Px aY (Px dn (Px oMod (af 2) (eC (.int 2147483647))) (eC (.int 48271))) (Px dn (eC (.int 7919)) (af 4))) (eC (.int 1))) (eC (.int 2147483647)))) (aA (aN 5 (Px oMod (Px dn (af 5) (af 5)) (eC (.int 2147483629)))) (aN 3 (Px aY (Px dn (af 3) (eC (.int 2147483647))) (Px oMod (Px dn (af 5) (Px aY (af 5) (eC (.int 13)))) (eC (.int 2147483647)))))))
def DU(S:Pz)(a b:Option D)(h n j:Int)(r5:Option D):∃(n':Int)(x:Int),oY [a,b,some (.int h),some (.int n),some (.int j),r5] S=.ok (.nx [a,b,some (.int h),some (.int n'),some (.int j),some (.int x)]) S:=by
 have s1:dH 48271:=by decide
 have s2:dH 7919:=by decide
 have s3:dH 2147483647:=by decide
 have h1:∀y:Int,dH (y%2147483647):=λy=>by
  have:=Ml y (show(2147483647:Int)≠0 by decide)
  have:=Uz y (show(0:Int)<2147483647 by decide)
  exact⟨by omega,by omega⟩
 have h2:∀y:Int,dH (y%2147483629):=λy=>by
  have:=Ml y (show(2147483629:Int)≠0 by decide)
  have:=Uz y (show(0:Int)<2147483629 by decide)
  exact⟨by omega,by omega⟩
 refine⟨n*2147483647+((h%2147483647*48271+7919*j+1)%2147483647*((h%2147483647*48271+7919*j+1)%2147483647)%2147483629)*((h%2147483647*48271+7919*j+1)%2147483647*((h%2147483647*48271+7919*j+1)%2147483647)%2147483629+13)%2147483647,(h%2147483647*48271+7919*j+1)%2147483647*((h%2147483647*48271+7919*j+1)%2147483647)%2147483629,?_⟩;simp only[oY,aA,aN,Px,af,eC,R.bind,R.of,oMod,aY,Q9,Zx,Zd,Zo,dX (.inr s1),dX (.inl s2),dX (.inr s3),dX (.inl (h1 _)),dX (.inl (h2 _)),Int.reduceLT,Zi]
theorem w8(h:Int):∀(l:List Nat)(S:Pz)(a b:Option D)(n:Int)(j r5:Option D),∃(n':Int)(j' Xq:Option D),
  forL (.nm 4) oY (l.map λ(i:Nat)=>D.int i) [a,b,some (.int h),some (.int n),j,r5] S=.ok (.nx [a,b,some (.int h),some (.int n'),j',Xq]) S
 |[],S,a,b,n,j,r5=>⟨n,j,r5,rfl⟩
 |i::l,S,a,b,n,j,r5=>by obtain⟨n1,x,e1⟩:=DU S a b h n i r5;obtain⟨n',j',Xq,e⟩:=w8 h l S a b n1 (some (.int i)) (some (.int x));refine⟨n',j',Xq,?_⟩;rw[Y8,forL];simp only[G.put,Zd,Zo,e1,R.Pq];exact e
def I0(ns:List Int)(k:Nat)(S:Pz):∃v:Int,ef [.fz (ns.map .int),.int k] S=.ok (.ref S.length) (S++[.lst [.int v]]):=by
 have hz:(1:Nat)<=sizeLine:=by decide
 have s2:dH 7919:=by decide
 have rest:∀c:Int,∃v:Int,(aA (QQ (tV (Px bR (Px oMod (af 2) (eC (.int 2))) (eC (.int 0)))) (aT (eNew (ag (Px jr (af 2) (eC (.int 2))) ak))) bc) (aA (aN 3 (eC (.int 0))) (aA (dU (eG (ag (eC (.int 16)) ak)) (.nm 4) oY) (aT (eNew (ag (af 3) ak)))))) [some (.fz (ns.map .int)),some (.int k),some (.int c),none,none,none] S=.ok (.rt (.ref S.length)) (S++[.lst [.int v]]):=λc=>by
  by_cases hc:c%2=0
  .refine⟨c/2,?_⟩;simp[aA,aN,QQ,aT,bc,tV,eNew,eB,az,Px,af,eC,ag,ak,R.bind,R.of,oMod,bR,eqP,Xg,hc,jr,hz]
  .obtain⟨n',j',Xq,e⟩:=w8 c (List.range 16) S (some (.fz (ns.map .int))) (some (.int k)) 0 none none;refine⟨n',?_⟩;have hr:(16:Int).toNat=16:=rfl;simp only[aA,aN,QQ,aT,bc,tV,eNew,eB,az,Px,af,eC,ag,ak,R.bind,R.of,oMod,bR,eqP,Xg,hc,dU,eG,hz,Q9,Zx,Zd,Zo,Int.reduceLT,Zi,Mg,Q7,Ze,Qm,Int.reduceLE,and_self,Int.reducePow,Int.reduceNeg,hr,e,Yn,Zu,Nat.reduceAdd]
 by_cases hk:k<ns.length
 .obtain⟨v,e⟩:=rest (ns.getD k 0);refine⟨v,?_⟩
  have hi:Tt (ns.map D.int) (k:Int)=some (.int (ns.getD k 0)):=by simp[Tt,Xn,hk]
  have hk':(k:Int)<(ns.length:Int):=by omega
  unfold ef QB jf;simp only[Y8,Wb,Yn,Zu,Nat.reduceAdd,Nat.reduceSub,List.replicate,W6,Qz];rw[aA];simp only[aN,Px,af,eC,R.bind,R.of,aY,dX (.inl s2),Q9,Zx,Zd,Zo];rw[aA];simp only[QQ,aN,bc,tV,eB,Px,af,eC,ag,ak,R.bind,R.of,QV,cc,mP,cy,Yi,hk',decide_true,Zi,hi,Q9,Zx,Zd,Zo,Q7];rw[e]
 .obtain⟨v,e⟩:=rest (7919*(k:Int)+13);refine⟨v,?_⟩
  have hk':¬(k:Int)<(ns.length:Int):=by omega
  unfold ef QB jf;simp only[Y8,Wb,Yn,Zu,Nat.reduceAdd,Nat.reduceSub,List.replicate,W6,Qz];rw[aA];simp only[aN,Px,af,eC,R.bind,R.of,aY,dX (.inl s2),Q9,Zx,Zd,Zo];rw[aA];simp only[QQ,aN,bc,tV,eB,Px,af,eC,ag,ak,R.bind,R.of,QV,cc,mP,cy,Yi,hk',Mg,Ze,Qm,Q9,Zx,Zd,Zo,Q7];rw[e]
def Gh:D->Bool
 |.fz _=>false
 |.ref _=>false
 |.ty _=>false
 |.exc _ _=>false
 |.cls _=>false
 |_=>true
def isI:D->Bool
 |.int _=>true
 |_=>false
def qi{d:D}(h:Gh d=true):bO [d] S=.ok (.bl (isI d)) S:=by cases d<;>first|(cases h;done)|(simp[bO,QB,lh,aT,jK,Iv,eB,af,eC,ag,ak,R.bind,R.of,jC,Xy,gD,isI])
def As:D->Bool
 |.int i=>decide (1<=i)
 |_=>false
theorem g8{A:Type}(f:A->Bool):∀xs:List A,boolsOf (xs.map λx=>D.bl (f x))=some (xs.map f)
 |[]=>rfl
 |x::xs=>by rw[Y8,boolsOf,g8 f xs];rfl
theorem sV{e:EM}{f:D->Bool}:∀(xs:List D)(r0:Option D)(S:Pz),(∀x∈xs,e (some x::tl) S=.ok (.bl (f x)) S)->cI (.nm 0) bY e xs (r0::tl) S=.ok (xs.map λx=>D.bl (f x)) S
 |[],_,_,_=>rfl
 |x::xs,r0,S,h=>by have h1:=h x Z4;have h2:=sV xs (some x) S λy hy=>h y (Z0 _ hy);rw[cI];simp only[G.put,Zd,bY,R.Pq,Zi,h1,h2,Y8]
def sX:D->Bool
 |.tup xs=>decide (xs.length<=16)&&xs.all As
 |_=>false
def Ja(d:D):Prop:=Gh d=true/\∀xs,d=.tup xs->(∀x∈xs,Gh x=true)/\xs.length<=1000
def Jb{x:D}(h:Gh x=true):(jK (az bO (ag (af 0) ak)) (Px Xo (af 0) (eC (.int 1)))) [some x] S=.ok (.bl (As x)) S:=by
 have:=qi (S:=S) h
 cases x<;>first|(cases h;done)|(simp[jK,az,Px,af,eC,ag,ak,R.bind,R.of,this,isI,As,mP])
def w9{d:D}(h:Ja d):fO [d] S=.ok (.bl (sX d)) S:=by
 cases d with
 |tup xs=>
  obtain⟨hs,hl⟩:=h.2 xs rfl;have hc:=sV (tl:=[]) (f:=As) xs none S λx hx=>Jb (hs x hx)
  have z:xs.length<=sizeLine:=Yw hl (by decide)
  by_cases ZP:xs.length<=16
  .have aak:¬(16:Int)<(xs.length:Int):=by omega
   simp only[fO,QB,jX,aA,QQ,aT,bc,PD.T8,PD.fM,tV,eB,br,bJ,bH,eZ,Px,af,eC,ag,ak,R.bind,R.of,jC,Xy,cy,cc,mP,k8,Y8,Wb,Yn,Zu,List.replicate,W6,Qz,Qi,Nat.reduceAdd,Nat.reduceSub,Q9,aak,Mg,Ze,Qm,z,Zi,hc,g8,Q7,sX,ZP,decide_true,Vj];simp[gD];simp[z,hc,g8,k8,R.of,R.bind,aT,eB,ag]
  .have aak:(16:Int)<(xs.length:Int):=by omega
   simp[fO,QB,jX,aA,QQ,aT,bc,PD.T8,PD.fM,tV,eB,Px,af,eC,ag,ak,R.bind,R.of,jC,Xy,cy,cc,mP,gD,sX,ZP,aak]
 |_=>first|(cases h.1;done)|(simp[fO,QB,jX,aA,QQ,aT,bc,PD.T8,PD.fM,tV,eB,Px,af,eC,ag,ak,R.bind,R.of,jC,Xy,gD,sX])
def Jc{i:Int}:eY S (.int i) (.int j)=some (.bl (!decide (i=j))):=rfl
def ng{i:Int}:bR S (.int i) (.int j)=some (.bl (decide (i=j))):=rfl
def ao{a b:SM}(h:a r S=.ok (.nx r1) S1):aA a b r S=b r1 S1:=by unfold aA;rw[h];rfl
def Row(xs:List Int):Prop:=(∀x∈xs,1<=x)/\xs.length<=16
def B5(h:xs.length<=1000):Ja (.tup (xs.map .int)):=⟨rfl,λys e=>by
 cases e
 refine⟨λx hx=>?_,by rw[Yi];exact h⟩
 obtain⟨i,_,rfl⟩:=Yt.mp hx
 rfl⟩
def Row.aau(h:Row xs):Ja (.tup (xs.map .int)):=B5 (by have:=h.2;omega)
def Row.is(h:Row xs):sX (.tup (xs.map .int))=true:=by
 unfold sX;rw[Z5]
 refine⟨by rw[Yi];exact Yr h.2,Zj.mpr λx hx=>?_⟩
 obtain⟨i,hi,rfl⟩:=Yt.mp hx;exact Yr (h.1 i hi)
def g9{g:PD.G}{b:SM}{xs:List D}(h:it r S=.ok xs S1):dU it g b r S=forL g b xs r S1:=by unfold dU;rw[h,R.Pq]
def aL{n:Nat}{b:SM}{ds:List D}{d:D}(hρ:ds.map some++List.replicate (n-ds.length) none = ρ)(h:b ρ S=.ok (.rt d) S1):QB n b ds S=.ok d S1:=by unfold QB;rw[hρ,h,R.Pq]
def gQ{n:Nat}{b:SM}{ds:List D}{ρ':Rp}(hρ:ds.map some++List.replicate (n-ds.length) none = ρ)(h:b ρ S=.ok (.nx ρ') S1):QB n b ds S=.ok .non S1:=by unfold QB;rw[hρ,h,R.Pq]
def dS{a b:SM}{d:D}(h:a r S=.ok (.rt d) S1):aA a b r S=.ok (.rt d) S1:=by unfold aA;rw[h,R.Pq]
def aC{d:D}(h:a r S=.ok d S1):aN i a r S=.ok (.nx (r.set i (some d))) S1:=by unfold aN;rw[h,R.Pq]
def aD{d:D}(h:a r S=.ok d S1):aT a r S=.ok (.rt d) S1:=by unfold aT;rw[h,R.Pq]
def hJ{t:TM}{a b:SM}(h:t r S=.ok true S1):QQ t a b r S=a r S1:=by unfold QQ;rw[h,R.Pq];exact Y9 rfl
def bz{t:TM}{a b:SM}(h:t r S=.ok false S1):QQ t a b r S=b r S1:=by unfold QQ;rw[h,R.Pq];exact Yj Ym
def bq{d:D}(h:a r S=.ok d S1):bN a r S=.ok (.nx r) S1:=by unfold bN;rw[h,R.Pq]
def bu{g:PD.G}{b:SM}{x:D}{xs:List D}{r2:Rp}(hp:g.put x r=some r1)(h:b r1 S=.ok (.nx r2) S1):forL g b (x::xs) r S=forL g b xs r2 S1:=by rw[forL];simp only[hp,h,R.Pq]
def aw{f:FM}{xs:List D}(h:t r S=.ok xs S1):az f t r S=f xs S1:=by unfold az;rw[h,R.Pq]
def du{g:PD.G}{b:SM}{d:D}{xs:List D}(h:a r S=.ok d S1)(hi:bH S1 d=some xs):dU (bJ a bH) g b r S=forL g b xs r S1:=g9 (by unfold bJ;rw[h,R.Pq,hi];rfl)
def Gi{g:PD.G}{b:SM}{x:D}{xs:List D}{d:D}(hp:g.put x r=some r1)(h:b r1 S=.ok (.rt d) S1):forL g b (x::xs) r S=.ok (.rt d) S1:=by rw[forL];simp only[hp,h,R.Pq]
def au{f:Pz->D->D->Option D}{b:EM}{x y z:D}(h1:a r S=.ok x S1)(h2:b r S1=.ok y S2)(h3:f S2 x y=some z):Px f a b r S=.ok z S2:=by unfold Px;rw[h1,R.Pq,h2,R.Pq,h3];rfl
def aR{f:Pz->List D->Option D}{xs:List D}{z:D}(h1:t r S=.ok xs S1)(h3:f S1 xs=some z):eB f t r S=.ok z S1:=by unfold eB;rw[h1,R.Pq,h3];rfl
def ae{x:D}{xs:List D}(h1:a r S=.ok x S1)(h2:t r S1=.ok xs S2):ag a t r S=.ok (x::xs) S2:=by unfold ag;rw[h1,R.Pq,h2,R.Pq]
def aV{b:Bool}(h:a r S=.ok (.bl b) S1):tV a r S=.ok b S1:=by unfold tV;rw[h,R.Pq]
def dC{a:TM}{b:Bool}(h:a r S=.ok b S1):PD.fM a r S=.ok (!b) S1:=by unfold PD.fM;rw[h,R.Pq]
def oZ{f:Pz->D->List D->R D}{x:D}{ys:List D}(h1:o r S=.ok x S1)(hl:ZD S1 x=true)(h2:t r S1=.ok ys S2):pL f o t r S=f S2 x ys:=by unfold pL;rw[h1,R.Pq,Y9 hl,h2,R.Pq]
def oo{t:TM}{b:EM}(h:t r S=.ok true S1):VM t a b r S=a r S1:=by unfold VM;rw[h,R.Pq];exact Y9 rfl
def mf{t:TM}{b:EM}(h:t r S=.ok false S1):VM t a b r S=b r S1:=by unfold VM;rw[h,R.Pq];exact Yj Ym
def KL{n:Int}(h0:0<=n)(h:n<=100000):n<2^62/\-(2^62)<=n:=⟨by omega,by omega⟩
def xa{m:Int}(h:t r S=.ok [.int m] S1)(h0:0<=m)(h1:m<=100000):eG t r S=.ok ((List.range m.toNat).map λ(i:Nat)=>D.int i) S1:=by have hr:=KL h0 h1;simp only[eG,h,R.bind,Y9 hr]
def qj{n:Nat}(h:t r S=.ok [.int (n:Int)] S1)(hn:n<=100000):eG t r S=.ok ((List.range n).map λ(i:Nat)=>D.int i) S1:=
 xa h (Int.natCast_nonneg n) (Int.ofNat_le.mpr hn)
theorem ji:∀xs:List Int,intsOf (xs.map .int)=some xs
 |[]=>rfl
 |x::xs=>by rw[Y8,intsOf,ji xs];rfl
def Jd:oy S [.tup (xs.map .int)]=some (.int xs.sum):=by simp only[oy,cc,ji,Q7]
def Je:oy S [.lst (xs.map .int)]=some (.int xs.sum):=by simp only[oy,cc,ji,Q7]
theorem comp_map{A:Type}{enc out:A->D}{e:EM}:∀(xs:List A)(r0:Option D),(∀x∈xs,e (some (enc x)::tl) S=.ok (out x) S)->cI (.nm 0) bY e (xs.map enc) (r0::tl) S=.ok (xs.map out) S
 |[],_,_=>rfl
 |x::xs,r0,h=>by have h1:=h x Z4;have h2:=comp_map (out:=out) xs (some (enc x)) λy hy=>h y (Z0 _ hy);rw[Y8,cI];simp only[G.put,Zd,bY,R.Pq,Zi,h1,h2,Y8]
def ez{A:Type}{enc out:A->D}{e:EM}(xs:List A)(hi:it r S=.ok (xs.map enc) S)(hl:xs.length<=sizeLine)(hc:PB.map (λi=>(r[i]?).join)=tl)(h:∀x∈xs,e (some (enc x)::tl) S=.ok (out x) S):br it 1 PB (.nm 0) bY e r S=.ok (.lst (xs.map out)) S:=by
 unfold br
 rw[hi,R.Pq,Y9 (by rw[Yi];exact hl)]
 have:eZ 1 PB r=none::tl:=by unfold eZ;rw[hc];rfl
 rw[this,comp_map (out:=out) xs none h,R.Pq]
theorem qk{A:Type}{x1 x2:A->D}{out:A->D}{e:EM}:∀(xs:List A)(r0 r1:Option D),(∀x∈xs,e (some (x1 x)::some (x2 x)::tl) S=.ok (out x) S)->cI (.tp [.nm 0,.nm 1]) bY e (xs.map λx=>.tup [x1 x,x2 x]) (r0::r1::tl) S=.ok (xs.map out) S
 |[],_,_,_=>rfl
 |x::xs,r0,r1,h=>by have h1:=h x Z4;have h2:=qk (out:=out) xs (some (x1 x)) (some (x2 x)) λy hy=>h y (Z0 _ hy);rw[Y8,cI];simp only[G.put,G.Ru,Zd,Zo,bY,R.Pq,Zi,h1,h2,Y8]
def sY{A:Type}{x1 x2:A->D}{out:A->D}{e:EM}(xs:List A)(hi:it r S=.ok (xs.map λx=>.tup [x1 x,x2 x]) S)(hl:xs.length<=sizeLine)(hc:PB.map (λi=>(r[i]?).join)=tl)(h:∀x∈xs,e (some (x1 x)::some (x2 x)::tl) S=.ok (out x) S):br it 2 PB (.tp [.nm 0,.nm 1]) bY e r S=.ok (.lst (xs.map out)) S:=by
 unfold br
 rw[hi,R.Pq,Y9 (by rw[Yi];exact hl)]
 have:eZ 2 PB r=none::none::tl:=by unfold eZ;rw[hc];rfl
 rw[this,qk (out:=out) xs none none h,R.Pq]
def ql{d:D}{xs:List D}(h:r[i]?=some (some d))(hx:bH S d=some xs):bJ (af i) bH r S=.ok xs S:=by unfold bJ af;rw[h];show R.bind (.ok d S) _=_;rw[R.Pq,hx];rfl
def aa{d:D}(h:r[i]?=some (some d)):af i r S=.ok d S:=by unfold af;rw[h]
def hU{xs:List D}(h:t r S=.ok xs S1)(hl:xs.length<=sizeLine):gU t r S=.ok (.tup xs) S1:=by unfold gU;rw[h,R.Pq,Y9 hl]
def uY{xs:List D}(h:t r S=.ok xs S1)(hl:xs.length<=sizeLine):ow t r S=.ok (.lst xs) S1:=by unfold ow;rw[h,R.Pq,Y9 hl]
def kg{b:EM}(h:a r S=.ok (.bl true) S1):jK a b r S=b r S1:=by unfold jK;rw[h,R.Pq]
def DV{b:EM}(h:a r S=.ok (.bl false) S1):jK a b r S=.ok (.bl false) S1:=by unfold jK;rw[h,R.Pq]
def KN{b:EM}(h:a r S=.ok (.bl true) S1):eOr a b r S=.ok (.bl true) S1:=by unfold eOr;rw[h,R.Pq]
def KO{b:EM}(h:a r S=.ok (.bl false) S1):eOr a b r S=b r S1:=by unfold eOr;rw[h,R.Pq]
def Hk{a b:TM}(h:a r S=.ok true S1):PD.T8 a b r S=.ok true S1:=by unfold PD.T8;rw[h,R.Pq];exact Y9 rfl
def sZ{a b:TM}(h:a r S=.ok false S1):PD.T8 a b r S=b r S1:=by unfold PD.T8;rw[h,R.Pq];exact Yj Ym
def iW{A:Type}{f:A->Bool}{xs:List A}:k8 S [.lst (xs.map λx=>D.bl (f x))]=some (.bl (xs.all f)):=by show Option.map (λbs=>D.bl (bs.all id)) (boolsOf (xs.map λx=>D.bl (f x)))=_;rw[g8,Q7,List.all_map];rfl
theorem xb{A:Type}(f:A->Int):∀xs:List A,intsOf (xs.map λx=>D.int (f x))=some (xs.map f)
 |[]=>rfl
 |x::xs=>by rw[Y8,intsOf,xb f xs];rfl
def Jf{A:Type}{f:A->Int}{xs:List A}:oy S [.lst (xs.map λx=>D.int (f x))]=some (.int (xs.map f).sum):=by simp only[oy,cc,xb,Q7]
def z1:(1:Nat)<=sizeLine:=by decide
def yS{a b:List D}(h:a.length+b.length<=sizeLine):aY S (.tup a) (.tup b)=some (.tup (a++b)):=Y9 h
def KP{lo hi:OM}{x d:D}{l u:Option Int}(h1:a r S=.ok x S1)(h2:lo r S1=.ok l S2)(h3:hi r S2=.ok u S3)(h4:lR S3 x l u=some d):UG lR a lo hi r S=.ok d S3:=by unfold UG;rw[h1,R.Pq,h2,R.Pq,h3,R.Pq,h4];rfl
def fR{i:Int}(h:a r S=.ok (.int i) S1):fc a r S=.ok (some i) S1:=by unfold fc;rw[h,R.Pq]
def Gj{g:PD.G}{d:D}(h:a r S=.ok d S1)(hp:g.put d r=some r1):BC g a r S=.ok (.nx r1) S1:=by unfold BC;rw[h,R.Pq,hp]
section
open PySem.NumText
def nm(n:Nat):Str:=Str.ofString (toString (n:Int))
def xc(h:¬m<10):Nat.toDigits 10 m=Nat.toDigits 10 (m/10)++[Nat.digitChar (m%10)]:=by
 have hm:m%10<10:=Nat.mod_lt m (by decide)
 have t:Nat.toDigits 10 (m/10)++Nat.toDigits 10 (m%10)=Nat.toDigits 10 (10*(m/10)+m%10):=Nat.toDigits_append_toDigits (by decide) (by omega) hm
 rw[Vu hm]at t
 rw[t,show 10*(m/10)+m%10=m by omega]
def dch:∀d:Nat,d<10->48<=(Nat.digitChar d).toNat/\(Nat.digitChar d).toNat<=57/\(1<=d->49<=(Nat.digitChar d).toNat):=by decide
def uZ(m:Nat):(∀c∈Nat.toDigits 10 m,48<=c.toNat/\c.toNat<=57)/\(∃c r,Nat.toDigits 10 m=c::r/\(1<=m->49<=c.toNat)):=by
 induction m using Nat.strongRecOn with
 |_ m ih=>
  by_cases h:m<10
  .rw[Vu h];have:=dch m h
   exact⟨λc hc=>by rw[Yq.mp hc];exact⟨this.1,this.2.1⟩,_,_,rfl,this.2.2⟩
  .rw[xc h]
   obtain⟨h1,c,r,e,h2⟩:=ih (m/10) (by omega)
   have:=dch (m%10) (Nat.mod_lt m (by decide))
   refine⟨λd hd=>?_,c,r++[Nat.digitChar (m%10)],by rw[e];rfl,λ_=>h2 (by omega)⟩
   rcases Yx.mp hd with z|z
   .exact h1 d z
   .rw[Yq.mp z];exact⟨this.1,this.2.1⟩
theorem Av:∀(k m:Nat),m<10^(k+1)->(Nat.toDigits 10 m).length<=k+1
 |k,m,hm=>by
  by_cases h:m<10
  .rw[Vu h];simp
  .cases k with
   |zero=>exact absurd hm (by simpa using h)
   |succ k=>
    rw[xc h,Yp,W7]
    have:=Av k (m/10) (by rw[Uh]at hm;omega)
    omega
def qm(n:Nat):(nm n).cps.toList=(Nat.toDigits 10 n).map Char.toNat:=PySem.W.KIN.signs_num n
def fF(n:Nat):AllDigits (nm n).cps.toList:=λc hc=>by rw[qm]at hc;obtain⟨d,hd,rfl⟩:=Yt.mp hc;exact(uZ n).1 d hd
def o5{n:Nat}(h:1<=n):∃c r,(nm n).cps.toList=c::r/\49<=c/\c<=57:=by
 obtain⟨h1,c,r,e,h2⟩:=uZ n
 exact⟨c.toNat,r.map Char.toNat,by rw[qm,e];rfl,h2 h,(h1 c (by rw[e];exact .head _)).2⟩
def yT(n:Nat):digitsVal (nm n).cps.toList=n:=by rw[qm];exact PySem.W.KIN.val_back n
def eT{n k:Nat}(h:n<10^(k+1)):(nm n).length<=k+1:=by
 have e:(nm n).length=(nm n).cps.toList.length:=by simp[Str.length]
 rw[e,qm,Yi];exact Av k n h
def u3(n:Nat):1<=(nm n).length:=by
 have e:(nm n).length=(nm n).cps.toList.length:=by simp[Str.length]
 obtain⟨_,c,r,h,_⟩:=uZ n;rw[e,qm,h];simp
def Gk(k:Nat)(cs:List Nat):digitsVal (List.replicate k 48++cs)=digitsVal cs:=by
 induction k with
 |zero=>rfl
 |succ k ih=>rw[Qh,W6,digitsVal_zero,ih]
def B6{r:List Nat}{w:Nat}(h:x.cps.toList=c::r)(h1:c≠43)(h2:c≠45)(hw:x.length<=w):(Txt.zfill x (w:Int)).cps.toList=List.replicate (w-x.length) 48++x.cps.toList:=by
 unfold Txt.zfill;by_cases he:(w:Int)<=(x.length:Int)
 .rw[Y9 he,show w-x.length=0 by omega];rfl
 .rw[Yj he]
  have h0:x.cps[0]?=some c:=by rw[<- U5,h];rfl
  unfold zfilled;rw[h0];split
  .rename_i z;cases z;exact absurd rfl h1
  .rename_i z;cases z;exact absurd rfl h2
  .simp[Builtin.Str.padded]
def xf{n w:Nat}(hw:(nm n).length<=w)(h1:w<=640)(hn:1<=n):(Txt.zfill (nm n) (w:Int)).length=w/\intText? (Txt.zfill (nm n) (w:Int))=some (n:Int):=by
 obtain⟨c,r,e,c1,c2⟩:=o5 hn
 have z:=B6 e (by omega) (by omega) hw
 have hl:(Txt.zfill (nm n) (w:Int)).length=w:=by
  have e1:(Txt.zfill (nm n) (w:Int)).length=(Txt.zfill (nm n) (w:Int)).cps.toList.length:=by simp[Str.length]
  have e2:(nm n).length=(nm n).cps.toList.length:=by simp[Str.length]
  rw[e1,z,Yp,Wn,<- e2];omega
 refine⟨hl,?_⟩
 rw[Uq (by
  rw[z];intro d hd;rcases Yx.mp hd with q|q
  .rw[List.eq_of_mem_replicate q];decide
  .exact fF n d q) (by rw[z,e];simp) (by rw[hl];omega),z,Gk,yT]
def B7{w:Nat}(h:x.length=w):Txt.slice x (some 0) (some (w:Int))=x:=by
 have e:=Vc.mp (slice_closes (x:=x) (i:=0) (j:=(w:Int)) ⟨by omega,by omega,by simp[Str.length]at h;simp[h]⟩)
 rw[e]
 have e2:x.cps.toList.length=w:=by simp[Str.length]at h;simp[h]
 have:((x.cps.toList.drop (0:Int).toNat).take ((w:Int)-0).toNat)=x.cps.toList:=by
  rw[show((0:Int).toNat)=0 from rfl,Uo,show((w:Int)-0).toNat=w by omega]
  exact Vy (by omega)
 rw[this]
def B8{t:Str}:Txt.slice ((⟨#[m]⟩:Str)++t) (some 1) none=t:=by
 have hl:((⟨#[m]⟩:Str)++t).cps.toList=m::t.cps.toList:=by show((#[m]:Array Nat)++t.cps).toList=_;simp
 have hn:((⟨#[m]⟩:Str)++t).length=t.cps.toList.length+1:=by
  have:((⟨#[m]⟩:Str)++t).length=((⟨#[m]⟩:Str)++t).cps.toList.length:=by simp[Str.length]
  rw[this,hl];rfl
 rw[slice_from_eq (x:=(⟨#[m]⟩:Str)++t) (i:=1) (b:=((t.cps.toList.length+1:Nat):Int)) (by omega) (by omega) (by rw[hn])]
 rw[hl]
 have:((m::t.cps.toList).drop (1:Int).toNat).take (((t.cps.toList.length+1:Nat):Int)-1).toNat=t.cps.toList:=by
  rw[show((1:Int).toNat)=1 from rfl,List.drop_succ_cons,Uo,show(((t.cps.toList.length+1:Nat):Int)-1).toNat=t.cps.toList.length by omega]
  exact Wv
 rw[this]
def jl:List (List Nat)->List Nat
 |[]=>[]
 |[x]=>x
 |x::y::r=>x++32::jl (y::r)
theorem tj:∀(x x' a b:List Nat),32∉x->32∉x'->x++32::a=x'++32::b->x=x'/\a=b
 |[],[],a,b,_,_,e=>⟨rfl,by injection e⟩
 |[],c::q,a,b,_,h,e=>by
  injection e with e1 e2
  exact absurd (show 32∈c::q by rw[<- e1];exact .head _) h
 |c::p,[],a,b,h,_,e=>by
  injection e with e1 e2
  exact absurd (show 32∈c::p by rw[e1];exact .head _) h
 |c::p,d::q,a,b,h,h',e=>by
  injection e with e1 e2;obtain⟨h1,h2⟩:=tj p q a b (λz=>h (.tail _ z)) (λz=>h' (.tail _ z)) e2
  exact⟨by rw[e1,h1],h2⟩
theorem Aw:∀(A B:List (List Nat)),A≠[]->B≠[]->(∀x∈A,32∉x)->(∀x∈B,32∉x)->jl A=jl B->A=B
 |[],_,h,_,_,_,_=>absurd rfl h
 |_::_,[],_,h,_,_,_=>absurd rfl h
 |[x],[y],_,_,_,_,e=>by have e':x=y:=e;rw[e']
 |[x],y::z::r,_,_,hA,hB,e=>by
  have e':x=y++32::jl (z::r):=e
  exact absurd (show 32∈x by rw[e'];simp) (hA x (.head _))
 |x::y::r,[z],_,_,hA,hB,e=>by
  have e':x++32::jl (y::r)=z:=e
  exact absurd (show 32∈z by rw[<- e'];simp) (hB z (.head _))
 |x::y::r,x'::y'::r',_,_,hA,hB,e=>by
  have e':x++32::jl (y::r)=x'++32::jl (y'::r'):=e;have hx:=hA x (.head _);have hx':=hB x' (.head _);have hd:=tj x x' _ _ hx hx' e'
  rw[hd.1,Aw (y::r) (y'::r') (by simp) (by simp) (λz hz=>hA z (.tail _ hz)) (λz hz=>hB z (.tail _ hz)) hd.2]
def kh:(" ":Str)=⟨#[32]⟩:=by decide
theorem eU:∀ws:List Str,(Str.join (" ":Str) ws).cps.toList=jl (ws.map λw=>w.cps.toList)
 |[]=>rfl
 |[x]=>rfl
 |x::y::r=>by
  have ih:=eU (y::r);show((x.cps++(" ":Str).cps)++(Str.join (" ":Str) (y::r)).cps).toList=_
  rw[kh];simp only[Vl,Y8,jl];rw[<- kh,ih];simp
def mi(ws:List Str):Txt.join (" ":Str) ws=Str.join (" ":Str) ws:=StrLaws.glued_eq_join _ _
def fL{y:Str}(h:x.cps.toList=y.cps.toList):x=y:=by obtain⟨⟨a⟩⟩:=x;obtain⟨⟨b⟩⟩:=y;cases h;rfl
def fG(h0:ws≠[])(hf:∀w∈ws,32∉w.cps.toList):Txt.split (Txt.join (" ":Str) ws) (" ":Str)=ws:=by
 have e1:=StrLaws.join_split (Txt.join (" ":Str) ws) (" ":Str)
 have e2:∀p∈Txt.split (Txt.join (" ":Str) ws) (" ":Str),32∉p.cps.toList:=by rw[kh];exact StrLaws.split_free _ 32
 have e3:=split_pos (Txt.join (" ":Str) ws) (" ":Str)
 generalize Txt.split (Txt.join (" ":Str) ws) (" ":Str)=vs at e1 e2 e3
 rw[mi]at e1;have e4:=Ql (λz:Str=>z.cps.toList) e1;simp only[eU]at e4
 have e5:=Aw _ _ (by intro z;rw[Um]at z;rw[z]at e3;cases e3) (by intro z;rw[Um]at z;exact h0 z) (λx hx=>by
  obtain⟨p,hp,rfl⟩:=Yt.mp hx;exact e2 p hp) (λx hx=>by
  obtain⟨p,hp,rfl⟩:=Yt.mp hx;exact hf p hp) e4
 clear e1 e2 e3 e4 h0 hf
 induction vs generalizing ws with
 |nil=>cases ws with
  |nil=>rfl
  |cons _ _=>cases e5
 |cons v vs ih=>cases ws with
  |nil=>cases e5
  |cons w ws=>
   rw[Y8,Y8]at e5;injection e5 with h1 h2;rw[fL h1,ih h2]
theorem u4:∀A:List (List Nat),(jl A).length=(A.map List.length).sum+(A.length-1)
 |[]=>rfl
 |[x]=>by simp[jl]
 |x::y::r=>by have:=u4 (y::r);simp only[jl,Yp,Yn,this,Y8,Zf];omega
end
def dD{f:Pz->D->List D->R D}{ys:List D}(h1:o r S=.ok (.str x) S1)(h2:t r S1=.ok ys S2):fk f o t r S=f S2 (.str x) ys:=by unfold fk;rw[h1,R.Pq];show(t r S1).bind _=_;rw[h2,R.Pq]
def nh{f:Pz->D->Option Int->Option Int->Option D}{lo hi:OM}{x z:D}{l u:Option Int}(h1:a r S=.ok x S1)(h2:lo r S1=.ok l S2)(h3:hi r S2=.ok u S3)(h4:f S3 x l u=some z):UG f a lo hi r S=.ok z S3:=by unfold UG;rw[h1,R.Pq,h2,R.Pq,h3,R.Pq,h4];rfl
def Ax:pH S (.int 10) (.int 60)=some (.int 1000000000000000000000000000000000000000000000000000000000000):=by
 rw[IG ⟨by decide,by decide,by decide⟩]
 have e:(10:Int)^(60:Int).toNat=1000000000000000000000000000000000000000000000000000000000000:=by decide
 rw[e]
def ni{n:Nat}(h:n<1000000000000000000000000000000000000000000000000000000000000):cY S [.int (n:Int)]=some (.str (nm n)):=by
 have hl:(n:Int).natAbs.log2<1920:=by
  rw[Gc];by_cases h0:n=0
  .subst h0;decide
  .rw[Nat.log2_lt h0];exact Nat.lt_trans h Y5
 exact Y9 hl
def qo(h:x.length<=sizeLine):cy S [.str x]=some (.int (x.length:Int)):=Y9 h
def yU{lo hi:Option Int}(h:x.length<=sizeLine):lg S (.str x) lo hi=some (.str (Txt.slice x lo hi)):=Y9 h
def kr{n:Int}(h:x.length<=640)(hn:intText? x=some n):ei S [.str x]=some (.int n):=by
 show(if x.length<=640 then (intText? x).map D.int else none)=_
 rw[Y9 h,hn];rfl
def u5(h:x.length<=sizeLine)(hc:x.cps.toList[i]?=some c):uU S (.str x) (.int (i:Int))=some (.str ⟨#[c]⟩):=by
 show(if x.length<=sizeLine then (Tt x.cps.toList (i:Int)).map (λc=>D.str ⟨#[c]⟩) else none)=_
 rw[Y9 h,zQ hc];rfl
def DW(h:48<=c/\c<=57)(S:Pz):uV false S (.str ⟨#[c]⟩) (.str "0123456789")=some (.bl true):=by
 show some (D.bl (!(Builtin.Str.occurrences ("0123456789":Str) ⟨#[c]⟩ 0 ("0123456789":Str).length 1).isEmpty))=_
 rw[StrLaws.found_one]
 have:c=48\/c=49\/c=50\/c=51\/c=52\/c=53\/c=54\/c=55\/c=56\/c=57:=by omega
 rcases this with rfl|rfl|rfl|rfl|rfl|rfl|rfl|rfl|rfl|rfl<;>kernel_rfl
theorem ly{A:Type}(f:A->Str):∀ws:List A,strsOf (ws.map λa=>D.str (f a))=some (ws.map f)
 |[]=>rfl
 |w::ws=>by rw[Y8,strsOf,ly f ws];rfl
def Wo(K:List Int):List Int->Int->Prop
 |[],v=>v=0
 |x::xs,v=>∃q∈K,Wo K xs (v-x*q)
def Kd(K:List Int):Prop:=∀q∈K,q = -1\/q=0\/q=1
theorem DX(hK:Kd K):∀{xs:List Int}{v:Int},(∀x∈xs,1<=x)->Wo K xs v->-xs.sum<=v/\v<=xs.sum
 |[],v,_,h=>by have:v=0:=h;simp[this]
 |x::xs,v,hx,⟨q,hq,h⟩=>by have h1:=DX hK (λy hy=>hx y (.tail _ hy)) h;have h2:=hx x (.head _);rw[Zf];rcases hK q hq with rfl|rfl|rfl<;>omega
abbrev KS:List Int:=[-1,1]
def kdS:Kd KS:=λq hq=>by simp only[KS,Yb,Yy,Zn]at hq;omega
def RC:List Int->List Int->Int
 |x::xs,q::p=>x*q+RC xs p
 |_,_=>0
def ext(K:List Int)(f:List (List Int)):List (List Int):=f.flatMap λp=>K.map λk=>p++[k]
def Rc(K:List Int):Nat->List (List Int)
 |0=>[[]]
 |n+1=>ext K (Rc K n)
theorem aX:∀(n:Nat)(p:List Int),p∈Rc K n↔p.length=n/\∀q∈p,q∈K
 |0,p=>by
  simp only[Rc,Yq];constructor
  .rintro rfl;exact⟨rfl,λq h=>nomatch h⟩
  .rintro⟨h,_⟩;exact Wf.mp h
 |n+1,p=>by
  simp only[Rc,ext,U2,Yt];constructor
  .rintro⟨p',h',k,hk,rfl⟩;obtain⟨h1,h2⟩:=(aX n p').mp h'
   refine⟨by simp[h1],λq hq=>?_⟩
   rcases Yx.mp hq with hq|hq
   .exact h2 q hq
   .rw[Yq.mp hq];exact hk
  .rintro⟨h1,h2⟩
   have hne:p≠[]:=λh=>by rw[h]at h1;cases h1
   refine⟨p.dropLast,(aX n _).mpr ⟨by rw[Vf,h1];rfl,λq hq=>h2 q ((List.dropLast_sublist p).subset hq)⟩,p.getLast hne,h2 _ (List.getLast_mem hne),Ur hne⟩
theorem yV:∀(xs:List Int)(v:Int),Wo K xs v↔∃p,(p.length=xs.length/\∀q∈p,q∈K)/\RC xs p=v
 |[],v=>by
  constructor
  .intro h;exact⟨[],⟨rfl,λq h=>nomatch h⟩,(show v=0 from h).symm⟩
  .rintro⟨p,⟨h,_⟩,e⟩;cases Wf.mp h;exact e.symm
 |x::xs,v=>by
  constructor
  .rintro⟨q,hq,h⟩;obtain⟨p,⟨h1,h2⟩,e⟩:=(yV xs _).mp h
   refine⟨q::p,⟨by simp[h1],λr hr=>?_⟩,by show x*q+RC xs p=v;omega⟩
   rcases Yb.mp hr with rfl|hr
   .exact hq
   .exact h2 r hr
  .rintro⟨p,⟨h1,h2⟩,e⟩;cases p with
   |nil=>cases h1
   |cons q p=>
    refine⟨q,h2 q (.head _),(yV xs _).mpr ⟨p,⟨by simpa using h1,λr hr=>h2 r (.tail _ hr)⟩,?_⟩⟩
    have e':x*q+RC xs p=v:=e;omega
def qp:Wo K xs v↔∃p∈Rc K xs.length,RC xs p=v:=by
 rw[yV];constructor
 .rintro⟨p,h,e⟩;exact⟨p,(aX _ _).mpr h,e⟩
 .rintro⟨p,h,e⟩;exact⟨p,(aX _ _).mp h,e⟩
theorem Ay(K:List Int):∀f:List (List Int),(ext K f).length=f.length*K.length
 |[]=>by simp[ext]
 |p::f=>by have:=Ay K f;simp only[ext,Qg,Yp,Yi,Yn]at this ⊢;rw[this,Vp];omega
theorem xg(K:List Int):∀n,(Rc K n).length=K.length^n
 |0=>rfl
 |n+1=>by rw[Rc,Ay,xg K n,Uh]
abbrev tupI(xs:List Int):D:=.tup (xs.map .int)
def mj{b:EM}{d y z:D}{kvs kvs':List (KD×D)}{k:KD}(ho:o r S=.ok d S1)(hd:cR S1 d=some kvs)(ha:a r S1=.ok y S2)(hb:b r S2=.ok z S3)(hd3:cR S3 d=some kvs')(hk:lS y=some k):fe o a b r S=.ok ((gq kvs' k).getD z) S3:=by unfold fe;rw[ho,R.Pq];simp only[hd,Option.isSome_some,Zi,ha,R.Pq,hb,hd3,hk]
def u6{f:Pz->D->D->D->Option Pz}{e i:EM}{S4:Pz}{v x y:D}(he:e r S=.ok v S1)(ho:o r S1=.ok x S2)(hi:i r S2=.ok y S3)(hf:f S3 x y v=some S4):lL f e o i r S=.ok (.nx r) S4:=by unfold lL;rw[he,R.Pq,ho,R.Pq,hi,R.Pq,hf]
def fS(K:List Int)(x:Int)(f:List Int):List Int:=f.flatMap λw=>K.map λq=>w+q*x
def pT(T:List (Int×Int))(k c:Int):List (Int×Int):=if T.any (λe=>decide (e.1=k)) then T.map (λe=>if e.1=k then (e.1,c) else e) else T++[(k,c)]
def gT(T:List (Int×Int))(k:Int):Int:=((T.find? λe=>decide (e.1=k)).map (·.2)).getD 0
def QZ(h:Int->Int)(T:List (Int×Int)):Int:=(T.map λe=>h e.1*e.2).sum
def T4(T:List (Int×Int)):Prop:=T.Pairwise λa b=>a.1≠b.1
def dE(h:Int->Int)(e:Int×Int)(T:List (Int×Int)):QZ h (e::T)=h e.1*e.2+QZ h T:=by simp[QZ]
theorem mm(h:Int->Int):∀(A B:List (Int×Int)),QZ h (A++B)=QZ h A+QZ h B
 |[],B=>by simp[QZ]
 |e::A,B=>by rw[W6,dE,dE,mm h A B];omega
def DY{k:Int}(h:T.any (λe=>decide (e.1=k))=false):gT T k=0:=by
 unfold gT
 have:(T.find? λe=>decide (e.1=k))=none:=by rw[List.find?_eq_none];intro e he hd;rw[Wc]at h;exact h e he hd
 rw[this];rfl
def DZ{k c:Int}(h:∀e∈T,e.1≠k):T.map (λe=>if e.1=k then (e.1,c) else e)=T:=by
 induction T with
 |nil=>rfl
 |cons e T ih=>
  rw[Y8,Yj (h e (.head _)),ih λe he=>h e (.tail _ he)]
def u7(e:Int×Int)(T:List (Int×Int))(k:Int):gT (e::T) k=if e.1=k then e.2 else gT T k:=by
 unfold gT;rw[Q6];by_cases h:e.1=k
 .simp[h]
 .simp[h]
theorem xh(h:Int->Int){k c:Int}:∀{T:List (Int×Int)},T4 T->T.any (λe=>decide (e.1=k))=true->QZ h (T.map λe=>if e.1=k then (e.1,c) else e)=QZ h T+h k*(c-gT T k)
 |[],_,ha=>by simp at ha
 |e::T,hk,ha=>by
  have hk':=Qp.mp hk;rw[Y8,dE,dE,u7];by_cases he:e.1=k
  .rw[Y9 he,Y9 he,DZ λe' he' h=>hk'.1 e' he' (by rw[he,h])]
   simp only;rw[he,Int.mul_sub];omega
  .have ha':T.any (λe=>decide (e.1=k))=true:=by simp only[Qt,he,Mg,Bool.false_or]at ha;exact ha
   rw[Yj he,Yj he,xh h hk'.2 ha'];omega
def Gm(h:Int->Int)(hk:T4 T)(k c:Int):QZ h (pT T k (gT T k+c))=QZ h T+h k*c:=by
 unfold pT;cases ha:T.any (λe=>decide (e.1=k)) with
 |true=>
  rw[Y9 rfl,xh h hk ha,show gT T k+c-gT T k=c by omega]
 |false=>
  rw[Yj Ym,mm,DY ha,dE];simp[QZ]
def Gn(hk:T4 T)(k c:Int):T4 (pT T k c):=by
 unfold pT;cases ha:T.any (λe=>decide (e.1=k)) with
 |true=>
  rw[Y9 rfl];unfold T4;rw[List.pairwise_map];refine List.Pairwise.imp (λ{a b} h=>?_) hk;split<;>split<;>exact h
 |false=>
  rw[Yj Ym];refine List.pairwise_append.mpr ⟨hk,Wg _ _,λa ha' b hb=>?_⟩;rw[Yq.mp hb];rw[Wc]at ha;have:=ha a ha';simpa using this
def D0(T:List (Int×Int))(k c v:Int):(∃e∈pT T k c,e.1=v)↔(∃e∈T,e.1=v)\/v=k:=by
 unfold pT;cases ha:T.any (λe=>decide (e.1=k)) with
 |true=>
  rw[Y9 rfl];constructor
  .rintro⟨e,he,rfl⟩;obtain⟨e',he',rfl⟩:=Yt.mp he;refine .inl ⟨e',he',?_⟩;split<;>rfl
  .rintro(⟨e,he,rfl⟩|rfl)
   .exact⟨_,Yt.mpr ⟨e,he,rfl⟩,by split<;>rfl⟩
   .rw[Mh]at ha;obtain⟨e,he,hd⟩:=ha
    exact⟨_,Yt.mpr ⟨e,he,rfl⟩,by split<;>exact Zl hd⟩
 |false=>
  rw[Yj Ym];constructor
  .rintro⟨e,he,rfl⟩;rcases Yx.mp he with he|he
   .exact .inl ⟨e,he,rfl⟩
   .rw[Yq.mp he];exact .inr rfl
  .rintro(⟨e,he,rfl⟩|rfl)
   .exact⟨e,Zz _ he,rfl⟩
   .exact⟨(v,c),Yz _ (Yq.mpr rfl),rfl⟩
def u9(T:List (Int×Int))(k c:Int):(pT T k c).length<=T.length+1:=by unfold pT;split<;>simp
structure Rf(T:List (Int×Int))(f:List Int):Prop where
 keys:T4 T
 mem:∀v,(∃e∈T,e.1=v)↔v∈f
 sum:∀h:Int->Int,QZ h T=(f.map h).sum
 len:T.length<=f.length
def Rf.zero:Rf [(0,1)] [0]:=⟨Wg _ _,λv=>by simp[eq_comm],λh=>by simp[QZ],Yh _⟩
theorem xi:∀(a b:List Int),(a++b).sum=a.sum+b.sum
 |[],b=>by simp
 |x::a,b=>by rw[W6,Zf,Zf,xi a b];omega
structure Rv(T:List (Int×Int))(L:List (Int×Int)):Prop where
 keys:T4 T
 mem:∀v,(∃e∈T,e.1=v)↔∃e∈L,e.1=v
 sum:∀h:Int->Int,QZ h T=QZ h L
 len:T.length<=L.length
theorem Rv.nil:Rv [] []:=⟨List.Pairwise.nil,λv=>by simp,λh=>rfl,Yh _⟩
def Rv.put{L:List (Int×Int)}(h:Rv T L)(k c:Int):Rv (pT T k (gT T k+c)) (L++[(k,c)]):=by
 refine⟨Gn h.keys _ _,λv=>?_,λf=>?_,Yw (u9 _ _ _) (by have:=h.len;simp;omega)⟩
 .rw[D0,h.mem v];constructor
  .rintro(⟨e,he,e1⟩|rfl)
   .exact⟨e,Zz _ he,e1⟩
   .exact⟨(v,c),Yz _ (Yq.mpr rfl),rfl⟩
  .rintro⟨e,he,rfl⟩;rcases Yx.mp he with he|he
   .exact .inl ⟨e,he,rfl⟩
   .rw[Yq.mp he];exact .inr rfl
 .rw[Gm f h.keys,h.sum f,mm,dE];simp[QZ]
def gj(K:List Int)(x:Int)(T:List (Int×Int)):List (Int×Int):=T.flatMap λe=>K.map λq=>(e.1+q*x,e.2)
theorem tm(K:List Int)(x:Int)(h:Int->Int):∀T:List (Int×Int),QZ h (gj K x T)=QZ (λy=>(K.map λq=>h (y+q*x)).sum) T
 |[]=>rfl
 |e::T=>by
  have ih:=tm K x h T;unfold gj at ih ⊢;rw[Qg,mm,dE,ih];congr 1
  have:∀l:List Int,QZ h (l.map λq=>(e.1+q*x,e.2))=(l.map λq=>h (e.1+q*x)).sum*e.2:=λl=>by
   induction l with
   |nil=>simp[QZ]
   |cons q l ih=>rw[Y8,dE,Y8,Zf,ih,Int.add_mul]
  exact this K
theorem D3(K:List Int)(x:Int)(h:Int->Int):∀f:List Int,((fS K x f).map h).sum=(f.map λy=>(K.map λq=>h (y+q*x)).sum).sum
 |[]=>rfl
 |w::f=>by have ih:=D3 K x h f;unfold fS at ih ⊢;rw[Qg,Mm,xi,ih,Y8,Zf,Za];rfl
def Jg{x:Int}{f:List Int}:v∈fS K x f↔∃w∈f,∃q∈K,w+q*x=v:=by simp only[fS,U2,Yt]
theorem yW(K:List Int)(x:Int):∀f:List Int,(fS K x f).length=f.length*K.length
 |[]=>by simp[fS]
 |w::f=>by have:=yW K x f;simp only[fS,Qg,Yp,Yi,Yn]at this ⊢;rw[this,Vp];omega
theorem jN(K:List Int)(x:Int):∀T:List (Int×Int),(gj K x T).length=T.length*K.length
 |[]=>by simp[gj]
 |w::f=>by have:=jN K x f;simp only[gj,Qg,Yp,Yi,Yn]at this ⊢;rw[this,Vp];omega
def Rf.step{x:Int}{T':List (Int×Int)}{f:List Int}(h:Rf T f)(h':Rv T' (gj K x T)):Rf T' (fS K x f):=by
 refine⟨h'.keys,λv=>?_,λg=>?_,?_⟩
 .rw[h'.mem v,Jg];simp only[gj,U2,Yt];constructor
  .rintro⟨e,⟨e0,he0,q,hq,rfl⟩,rfl⟩;exact⟨e0.1,(h.mem _).mp ⟨e0,he0,rfl⟩,q,hq,rfl⟩
  .rintro⟨w,hw,q,hq,rfl⟩;obtain⟨e0,he0,rfl⟩:=(h.mem w).mpr hw;exact⟨_,⟨e0,he0,q,hq,rfl⟩,rfl⟩
 .rw[h'.sum g,tm,h.sum,D3]
 .have:=h'.len;rw[jN]at this;rw[yW];exact Yw this (Vg _ h.len)
theorem yX{k:Int}:∀{T:List (Int×Int)},T4 T->QZ (λy=>if y=k then 1 else 0) T=gT T k
 |[],_=>rfl
 |e::T,hk=>by
  have hk':=Qp.mp hk;rw[dE,u7];by_cases he:e.1=k
  .rw[Y9 he,Y9 he,yX hk'.2,DY (by
    rw[Wc];intro e' he' hd
    exact hk'.1 e' he' (by rw[he,Zl hd]))]
   omega
  .rw[Yj he,Yj he,yX hk'.2];omega
theorem Az(k:Int):∀f:List Int,(f.map λy=>if y=k then (1:Int) else 0).sum=(f.filter λy=>decide (y=k)).length
 |[]=>rfl
 |w::f=>by
  rw[Y8,Zf,Az k f,Vh];by_cases h:w=k
  .simp[h];omega
  .simp[h]
def Rf.get{f:List Int}(h:Rf T f)(k:Int):gT T k=((f.filter λy=>decide (y=k)).length:Int):=by rw[<- yX h.keys,h.sum,Az]
theorem iX:∀(xs p:List Int)(x q:Int),p.length=xs.length->RC (xs++[x]) (p++[q])=RC xs p+q*x
 |[],[],x,q,_=>by show x*q+0=0+q*x;rw[Int.mul_comm];omega
 |y::xs,r::p,x,q,h=>by
  show y*r+RC (xs++[x]) (p++[q])=y*r+RC xs p+q*x
  rw[iX xs p x q (by simpa using h)];omega
 |[],_::_,_,_,h=>by cases h
 |_::_,[],_,_,h=>by cases h
def RG(K:List Int)(xs:List Int):List Int:=(Rc K xs.length).map (RC xs)
def D4(K xs:List Int)(x:Int):RG K (xs++[x])=fS K x (RG K xs):=by
 unfold RG fS;rw[Yp,Yn,Zu];show(ext K (Rc K xs.length)).map _=_;unfold ext;rw[List.map_flatMap,List.flatMap_map]
 have:∀l:List (List Int),(∀p∈l,p.length=xs.length)->(l.flatMap λp=>(K.map λk=>p++[k]).map (RC (xs++[x])))=l.flatMap λp=>K.map λq=>RC xs p+q*x:=λl=>by
  induction l with
  |nil=>intro _;rfl
  |cons p l ih=>
   intro h;rw[Qg,Qg,ih λp hp=>h p (.tail _ hp),Za];congr 1;refine Q3 λk _=>?_;exact iX xs p x k (h p (.head _))
 exact this _ λp hp=>((aX _ p).mp hp).1
def leZ(x y:List Int):Prop:=ltZ y x=false
theorem vc:∀x:List Int,ltZ x x=false
 |[]=>rfl
 |a::x=>(ltZ_eq rfl).trans (vc x)
def ki(x:List Int):leZ x x:=vc x
theorem xj:∀{x y:List Int},ltZ x y=true->ltZ y x=false
 |[],[],h=>rfl
 |[],_::_,_=>rfl
 |_::_,[],h=>by cases h
 |a::x,b::y,h=>by
  by_cases e:a=b
  .rw[ltZ_eq e]at h;rw[ltZ_eq e.symm];exact xj h
  .rw[fj e]at h;have h:=Zl h;rw[fj (λz=>e z.symm)]
   exact Yo (by omega)
theorem xk:∀{x y:List Int},leZ x y->leZ y x->x=y
 |[],[],_,_=>rfl
 |[],_::_,_,h=>by cases h
 |_::_,[],h,_=>by cases h
 |a::x,b::y,h1,h2=>by
  unfold leZ at h1 h2;by_cases e:a=b
  .rw[ltZ_eq e.symm]at h1;rw[ltZ_eq e]at h2;rw[e,xk h1 h2]
  .rw[fj (λz=>e z.symm)]at h1;rw[fj e]at h2;have h1:=V8 h1;have h2:=V8 h2;omega
theorem fH:∀{x y z:List Int},leZ x y->leZ y z->leZ x z
 |[],y,[],_,_=>rfl
 |[],y,_::_,_,_=>rfl
 |_::_,[],_,h,_=>by cases h
 |_::_,_::_,[],_,h=>by cases h
 |a::x,b::y,c::z,h1,h2=>by
  unfold leZ at h1 h2 ⊢;by_cases e1:b=a
  .rw[ltZ_eq e1]at h1;by_cases e2:c=b
   .rw[ltZ_eq e2]at h2;rw[ltZ_eq (e2.trans e1)];exact fH (x:=x) (y:=y) h1 h2
   .rw[fj e2]at h2
    rw[fj (λe=>e2 (by rw[e,e1]))]
    rw[<- e1];exact h2
  .rw[fj e1]at h1;have h1:=V8 h1;by_cases e2:c=b
   .rw[fj (λe=>e1 (by rw[<- e2,e]))]
    exact Yo (by omega)
   .rw[fj e2]at h2;have h2:=V8 h2
    rw[fj (by omega)]
    exact Yo (by omega)
def tq{x y:List Int}(h:ltZ x y=true):leZ x y:=xj h
theorem AA:∀{x y:List Int}(u v:List Int),x.length=y.length->ltZ (x++u) (y++v)=if x=y then ltZ u v else ltZ x y
 |[],[],u,v,_=>by simp
 |[],_::_,_,_,h=>by cases h
 |_::_,[],_,_,h=>by cases h
 |a::x,b::y,u,v,h=>by
  have ih:=AA u v (show x.length=y.length by simpa using h)
  rw[W6,W6];by_cases e:a=b
  .subst e;rw[ltZ_eq rfl,ltZ_eq rfl,ih];by_cases e2:x=y
   .rw[Y9 e2,Y9 (by rw[e2])]
   .rw[Yj e2,Yj (λz=>e2 (List.cons.inj z).2)]
  .rw[fj e,fj e,Yj (λz=>e (List.cons.inj z).1)]
def AB{x y v:List Int}(hl:x.length=y.length)(h1:leZ x y)(h2:leZ u v):leZ (x++u) (y++v):=by
 unfold leZ at *;rw[AA v u hl.symm];by_cases e:y=x
 .rw[Y9 e];exact h2
 .rw[Yj e];exact h1
theorem AD:∀(l:List (List Int))(m:List Int),(jS m l=m\/jS m l∈l)/\leZ (jS m l) m/\∀y∈l,leZ (jS m l) y
 |[],m=>⟨.inl rfl,ki _,λy h=>nomatch h⟩
 |x::l,m=>by
  obtain⟨h1,h2,h3⟩:=AD l (if ltZ x m=true then x else m)
  have e:jS m (x::l)=jS (if ltZ x m=true then x else m) l:=rfl
  rw[e];by_cases hx:ltZ x m=true
  .rw[Y9 hx]at h1 h2 h3 ⊢;refine⟨.inr ?_,fH h2 (tq hx),λy hy=>?_⟩
   .rcases h1 with h1|h1
    .rw[h1];exact .head _
    .exact .tail _ h1
   .rcases Yb.mp hy with rfl|hy
    .exact h2
    .exact h3 y hy
  .rw[Yj hx]at h1 h2 h3 ⊢
   have hx':leZ m x:=by unfold leZ;simpa using hx
   refine⟨?_,h2,λy hy=>?_⟩
   .rcases h1 with h1|h1
    .exact .inl h1
    .exact .inr (.tail _ h1)
   .rcases Yb.mp hy with rfl|hy
    .exact fH h2 hx'
    .exact h3 y hy
abbrev TF:=List (Int×List Int)
def pF(T:TF)(k:Int)(c:List Int):TF:=if T.any (λe=>decide (e.1=k)) then T.map (λe=>if e.1=k then (e.1,c) else e) else T++[(k,c)]
def gF(T:TF)(k:Int):Option (List Int):=(T.find? λe=>decide (e.1=k)).map (·.2)
def VB(T:TF):Prop:=T.Pairwise λa b=>a.1≠b.1
def ve{T:TF}{k:Int}{c:List Int}{e:Int×List Int}:e∈pF T k c↔e=(k,c)\/(e∈T/\e.1≠k):=by
 unfold pF;cases ha:T.any (λe=>decide (e.1=k)) with
 |true=>
  rw[Y9 rfl,Yt];constructor
  .rintro⟨d,hd,rfl⟩;by_cases h:d.1=k
   .rw[Y9 h,h];exact .inl rfl
   .rw[Yj h];exact .inr ⟨hd,h⟩
  .rintro(rfl|⟨he,h⟩)
   .rw[Mh]at ha;obtain⟨d,hd,z⟩:=ha;have z:=Zl z
    exact⟨d,hd,by rw[Y9 z,z]⟩
   .exact⟨e,he,by rw[Yj h]⟩
 |false=>
  rw[Yj Ym,Yx,Yq];rw[Wc]at ha;constructor
  .rintro(h|h)
   .exact .inr ⟨h,λz=>ha e h (Yr z)⟩
   .exact .inl h
  .rintro(h|⟨h,_⟩)
   .exact .inr h
   .exact .inl h
def Gp{T:TF}(hk:VB T)(k:Int)(c:List Int):VB (pF T k c):=by
 unfold pF;cases ha:T.any (λe=>decide (e.1=k)) with
 |true=>
  rw[Y9 rfl];unfold VB;rw[List.pairwise_map];refine List.Pairwise.imp (λ{a b} h=>?_) hk;split<;>split<;>exact h
 |false=>
  rw[Yj Ym];refine List.pairwise_append.mpr ⟨hk,Wg _ _,λa ha' b hb=>?_⟩;rw[Yq.mp hb];rw[Wc]at ha;have:=ha a ha';simpa using this
def Jh(T:TF)(k:Int)(c:List Int):(pF T k c).length<=T.length+1:=by unfold pF;split<;>simp
def o6{T:TF}{k:Int}(h:gF T k=some u):(k,u)∈T:=by
 unfold gF at h;cases hf:T.find? λe=>decide (e.1=k) with
 |none=>rw[hf]at h;cases h
 |some d=>
  rw[hf]at h;have h1:=List.find?_some hf
  have h1:d.1=k:=by simpa using h1
  have h2:=List.mem_of_find?_eq_some hf;cases h;rw[<- h1];exact h2
def AE{T:TF}{k:Int}(h:gF T k=none):∀e∈T,e.1≠k:=by
 unfold gF at h;cases hf:T.find? λe=>decide (e.1=k) with
 |some d=>rw[hf]at h;cases h
 |none=>
  rw[List.find?_eq_none]at hf;exact λe he z=>hf e he (Yr z)
def min2(a b:List Int):List Int:=if ltZ b a=true then b else a
structure FT(T L:TF):Prop where
 keys:VB T
 mem:∀v,(∃e∈T,e.1=v)↔∃e∈L,e.1=v
 least:∀e∈T,e∈L/\∀d∈L,d.1=e.1->leZ e.2 d.2
 len:T.length<=L.length
theorem FT.nil:FT [] []:=⟨List.Pairwise.nil,λv=>by simp,(λe h=>nomatch h),Yh _⟩
def FT.put{T L:TF}(h:FT T L)(k:Int)(v:List Int):FT (pF T k (min2 v ((gF T k).getD v))) (L++[(k,v)]):=by
 refine⟨Gp h.keys _ _,λx=>?_,λe he=>?_,Yw (Jh _ _ _) (by have:=h.len;simp;omega)⟩
 .constructor
  .rintro⟨e,he,rfl⟩;rcases ve.mp he with rfl|⟨he,_⟩
   .exact⟨(k,v),Yz _ (Yq.mpr rfl),rfl⟩
   .obtain⟨d,hd,z⟩:=(h.mem _).mp ⟨e,he,rfl⟩;exact⟨d,Zz _ hd,z⟩
  .rintro⟨d,hd,rfl⟩;by_cases hk:d.1=k
   .exact⟨_,ve.mpr (.inl rfl),hk.symm⟩
   .rcases Yx.mp hd with hd|hd
    .obtain⟨e,he,z⟩:=(h.mem _).mpr ⟨d,hd,rfl⟩
     exact⟨e,ve.mpr (.inr ⟨he,by rw[z];exact hk⟩),z⟩
    .rw[Yq.mp hd]at hk;exact absurd rfl hk
 .rcases ve.mp he with rfl|⟨he,hk⟩
  .cases hg:gF T k with
   |none=>
    have e0:min2 v ((none:Option (List Int)).getD v)=v:=Yj (by rw[Vz,vc];decide)
    rw[e0];refine⟨Yz _ (Yq.mpr rfl),λd hd hz=>?_⟩;rcases Yx.mp hd with hd|hd
    .obtain⟨e,he,z⟩:=(h.mem _).mpr ⟨d,hd,rfl⟩;exact absurd (z.trans hz) (AE hg e he)
    .rw[Yq.mp hd];exact ki _
   |some u=>
    have hu:=o6 hg;obtain⟨l1,l2⟩:=h.least _ hu
    rw[show min2 v ((some u).getD v)=min2 v u from rfl]
    unfold min2;by_cases hx:ltZ u v=true
    .rw[Y9 hx];refine⟨Zz _ l1,λd hd hz=>?_⟩;rcases Yx.mp hd with hd|hd
     .exact l2 d hd hz
     .rw[Yq.mp hd];exact tq hx
    .rw[Yj hx]
     have hx':leZ v u:=by unfold leZ;simpa using hx
     refine⟨Yz _ (Yq.mpr rfl),λd hd hz=>?_⟩;rcases Yx.mp hd with hd|hd
     .exact fH hx' (l2 d hd hz)
     .rw[Yq.mp hd];exact ki _
  .obtain⟨l1,l2⟩:=h.least e he;refine⟨Zz _ l1,λd hd hz=>?_⟩;rcases Yx.mp hd with hd|hd
   .exact l2 d hd hz
   .rw[Yq.mp hd]at hz;exact absurd hz.symm hk
structure QF(T:TF)(xs:List Int):Prop where
 keys:VB T
 mem:∀v,(∃e∈T,e.1=v)↔∃p∈Rc KS xs.length,RC xs p=v
 least:∀e∈T,(e.2∈Rc KS xs.length/\RC xs e.2=e.1)/\∀p∈Rc KS xs.length,RC xs p=e.1->leZ e.2 p
 len:T.length<=2^xs.length
def QF.zero:QF [(0,[])] []:=by
 refine⟨Wg _ _,λv=>?_,λe he=>?_,Yh _⟩
 .constructor
  .rintro⟨e,he,rfl⟩;rw[Yq.mp he];exact⟨[],Yq.mpr rfl,rfl⟩
  .rintro⟨p,hp,rfl⟩;have hp:p=[]:=Yq.mp hp;rw[hp];exact⟨_,Yq.mpr rfl,rfl⟩
 .rw[Yq.mp he];refine⟨⟨Yq.mpr rfl,rfl⟩,λp hp _=>?_⟩;have hp:p=[]:=Yq.mp hp;rw[hp];exact ki _
def kY(x:Int)(T:TF):TF:=T.flatMap λe=>KS.map λq=>(e.1+q*x,e.2++[q])
def kx{x:Int}{T:TF}{d:Int×List Int}:d∈kY x T↔∃e∈T,∃q∈KS,(e.1+q*x,e.2++[q])=d:=by simp only[kY,U2,Yt]
theorem tu(x:Int):∀T:TF,(kY x T).length=T.length*2
 |[]=>rfl
 |e::T=>by have:=tu x T;simp only[kY,Qg,Yp,Yi,Yn,Zu]at this ⊢;rw[this];omega
def xl{n:Nat}(h:p∈Rc KS (n+1)):∃p0 q,p=p0++[q]/\p0∈Rc KS n/\q∈KS:=by
 obtain⟨h1,h2⟩:=(aX _ p).mp h
 have hne:p≠[]:=λe=>by rw[e]at h1;cases h1
 refine⟨p.dropLast,p.getLast hne,(Ur hne).symm,(aX _ _).mpr ⟨by rw[Vf,h1];rfl,λy hy=>h2 y (List.dropLast_subset _ hy)⟩,h2 _ (List.getLast_mem hne)⟩
def xm{n:Nat}(h:p∈Rc KS n)(hq:q∈KS):p++[q]∈Rc KS (n+1):=by
 obtain⟨h1,h2⟩:=(aX _ p).mp h
 refine(aX _ _).mpr ⟨by rw[Yp,h1];rfl,λy hy=>?_⟩
 rcases Yx.mp hy with hy|hy
 .exact h2 y hy
 .rw[Yq.mp hy];exact hq
def QF.step{T T':TF}{x:Int}(h:QF T xs)(h':FT T' (kY x T)):QF T' (xs++[x]):=by
 have hn:(xs++[x]).length=xs.length+1:=by simp
 refine⟨h'.keys,λv=>?_,λe he=>?_,?_⟩
 .rw[h'.mem v,hn];constructor
  .rintro⟨d,hd,rfl⟩;obtain⟨e,he,q,hq,rfl⟩:=kx.mp hd;obtain⟨⟨a1,a2⟩,_⟩:=h.least e he
   exact⟨e.2++[q],xm a1 hq,by rw[iX _ _ _ _ ((aX _ _).mp a1).1,a2]⟩
  .rintro⟨p,hp,rfl⟩;obtain⟨p0,q,rfl,hp0,hq⟩:=xl hp;obtain⟨e,he,z⟩:=(h.mem _).mpr ⟨p0,hp0,rfl⟩
   exact⟨_,kx.mpr ⟨e,he,q,hq,rfl⟩,by rw[iX _ _ _ _ ((aX _ _).mp hp0).1,z]⟩
 .rw[hn];obtain⟨l1,l2⟩:=h'.least e he;obtain⟨d,hd,q,hq,rfl⟩:=kx.mp l1;obtain⟨⟨a1,a2⟩,_⟩:=h.least d hd
  refine⟨⟨xm a1 hq,by rw[iX _ _ _ _ ((aX _ _).mp a1).1,a2]⟩,λp hp hw=>?_⟩
  obtain⟨p0,r,rfl,hp0,hr⟩:=xl hp;rw[iX _ _ _ _ ((aX _ _).mp hp0).1]at hw;obtain⟨c,hc,z⟩:=(h.mem _).mpr ⟨p0,hp0,rfl⟩;obtain⟨⟨c1,c2⟩,c3⟩:=h.least c hc
  have i1:=l2 (c.1+r*x,c.2++[r]) (kx.mpr ⟨c,hc,r,hr,rfl⟩) (by rw[z];exact hw)
  exact fH i1 (AB (((aX _ _).mp c1).1.trans ((aX _ _).mp hp0).1.symm) (c3 p0 hp0 z.symm) (ki _))
 .have:=h'.len;rw[tu]at this;rw[hn,Uh];have:=h.len;omega
def aZ(T:List (Int×Int)):List (KD×D):=T.map λe=>(.inl e.1,.int e.2)
def D5(T:List (Int×Int))(k:Int):(aZ T).any (λkv=>decide (kv.1=.inl k))=T.any λe=>decide (e.1=k):=by
 unfold aZ;rw[List.any_map];congr 1;funext e;show decide ((Sum.inl e.1:KD)=.inl k)=decide (e.1=k);rw[Qr]
 exact⟨V9,λh=>by rw[h]⟩
def xn(T:List (Int×Int))(k c:Int):putD (aZ T) (.inl k) (.int c)=aZ (pT T k c):=by
 unfold putD pT;rw[D5];cases T.any λe=>decide (e.1=k) with
 |true=>
  rw[Y9 rfl,Y9 rfl];unfold aZ;rw[Za,Za];refine Q3 λe _=>?_;simp only[Function.comp];by_cases h:e.1=k
  .rw[Y9 (by rw[h]),Y9 h]
  .rw[Yj (λz=>h (V9 z)),Yj h]
 |false=>
  rw[Yj Ym,Yj Ym];simp[aZ]
def xo(T:List (Int×Int))(k:Int):(gq (aZ T) (.inl k)).getD (.int 0)=.int (gT T k):=by
 unfold gq gT aZ;rw[Mp]
 have e:((λkv:KD×D=>decide (kv.1=.inl k))∘λe:Int×Int=>((.inl e.1:KD),D.int e.2))=λe=>decide (e.1=k):=by
  funext e;show decide ((Sum.inl e.1:KD)=.inl k)=decide (e.1=k);rw[Qr]
  exact⟨V9,λh=>by rw[h]⟩
 rw[e];cases T.find? λe=>decide (e.1=k)<;>rfl
def T5(S:Pz)(n:Nat)(T:List (Int×Int)):Prop:=S[n]?=some (.PN (aZ T))\/S[n]?=some (.P0 (aZ T))
def T5.PN{n:Nat}(h:T5 S n T):cR S (.ref n)=some (aZ T):=by rcases h with h|h<;>simp[cR,h]
def T5.seq{n:Nat}(h:T5 S n T):cc S (.ref n)=none:=by rcases h with h|h<;>simp[cc,h]
def T5.lt{n:Nat}(h:T5 S n T):n<S.length:=by rcases h with h|h<;>exact(Yc.mp h).1
abbrev stI:SM:=(aA (aN 7 (Px aY (af 4) (Px dn (af 6) (af 1)))) (lL g0 (Px aY (fe (af 3) (af 7) (eC (.int 0))) (af 5)) (af 3) (af 7)))
abbrev stO:SM:=(dU (bJ (af 2) bH) (.nm 6) (aA (aN 7 (Px aY (af 4) (Px dn (af 6) (af 1)))) (lL g0 (Px aY (fe (af 3) (af 7) (eC (.int 0))) (af 5)) (af 3) (af 7))))
abbrev LN:SM:=(aN 2 (az gz (ag (af 2) (ag (af 3) (ag (af 1) ak)))))
def sml(h:-1<=q/\q<=1):dH q:=⟨by omega,by omega⟩
def Ji{x w c:Int}(hq:-1<=q/\q<=1)(hm:S[m]?=some (.PN (aZ W)))(hz:W.length<1000)(r0 r2 r7:Option D):
  stI [r0,some (.int x),r2,some (.ref m),some (.int w),some (.int c),some (.int q),r7] S=.ok (.nx [r0,some (.int x),r2,some (.ref m),some (.int w),some (.int c),some (.int q),some (.int (w+q*x))]) (S.set m (.PN (aZ (pT W (w+q*x) (gT W (w+q*x)+c))))):=by
 have hd:cR S (.ref m)=some (aZ W):=by simp[cR,hm]
 have z:(1000:Nat)<=sizeLine:=by decide
 refine(ao (aC (au (aa rfl) (au (aa rfl) (aa rfl) (dX (.inl (sml hq)))) rfl))).trans ?_
 have hg:fe (af 3) (af 7) (eC (.int 0)) [r0,some (.int x),r2,some (.ref m),some (.int w),some (.int c),some (.int q),some (.int (w+q*x))] S=.ok (.int (gT W (w+q*x))) S:=by rw[<- xo];exact mj (aa rfl) hd (aa rfl) rfl hd rfl
 refine u6 (au hg (aa rfl) rfl) (aa rfl) (aa rfl) ?_
 have h1:nW S (.ref m)=true:=by simp[nW,hm]
 unfold g0;rw[Y9 h1];unfold sh;simp only[hm,lS]
 rw[Y9 (by simp[aZ];omega),xn]
theorem xp{x w c:Int}(r0 r2:Option D):∀(K:List Int)(S:Pz)(W L:List (Int×Int))(r6 r7:Option D),(∀q∈K,-1<=q/\q<=1)->S[m]?=some (.PN (aZ W))->Rv W L->L.length+K.length<=1000->
  ∃(W':List (Int×Int))(WR ZQ:Option D),forL (.nm 6) stI (K.map .int) [r0,some (.int x),r2,some (.ref m),some (.int w),some (.int c),r6,r7] S=.ok (.nx [r0,some (.int x),r2,some (.ref m),some (.int w),some (.int c),WR,ZQ]) (S.set m (.PN (aZ W')))/\Rv W' (L++K.map λq=>(w+q*x,c))
 |[],S,W,L,r6,r7,_,hm,h,_=>⟨W,r6,r7,by
  have RZ:m<S.length:=(Yc.mp hm).1
  have:S.set m (.PN (aZ W))=S:=by have e:=(Yc.mp hm).2;rw[<- e];exact Qk RZ
  rw[this];rfl,by simpa using h⟩
 |q::K,S,W,L,r6,r7,hK,hm,h,hz=>by
  rw[Yn]at hz;have RZ:m<S.length:=(Yc.mp hm).1
  have e1:=Ji (S:=S) (x:=x) (w:=w) (c:=c) (hK q (.head _)) hm (by have:=h.len;omega) r0 r2 r7
  obtain⟨W',a6,a7,e2,h2⟩:=xp r0 r2 K (S.set m (.PN (aZ (pT W (w+q*x) (gT W (w+q*x)+c))))) (pT W (w+q*x) (gT W (w+q*x)+c)) (L++[(w+q*x,c)]) (some (.int q)) (some (.int (w+q*x))) (λq hq=>hK q (.tail _ hq)) (Z7 RZ) (h.put (w+q*x) c) (by simp;omega)
  rw[Wx]at e2;refine⟨W',a6,a7,(bu (r1:=[r0,some (.int x),r2,some (.ref m),some (.int w),some (.int c),some (.int q),r7]) rfl e1).trans e2,?_⟩;rw[Y8];simpa using h2
theorem xq{x:Int}(hK:∀q∈K,-1<=q/\q<=1)(r0:Option D):∀(T:List (Int×Int))(S:Pz)(W L:List (Int×Int))(r4 r5 r6 r7:Option D),S[m]?=some (.PN (aZ W))->Rv W L->L.length+T.length*K.length<=1000->
  ∃(W':List (Int×Int))(r4' Xq WR ZQ:Option D),forL (.tp [.nm 4,.nm 5]) stO ((aZ T).map pairD) [r0,some (.int x),some (tupI K),some (.ref m),r4,r5,r6,r7] S=.ok (.nx [r0,some (.int x),some (tupI K),some (.ref m),r4',Xq,WR,ZQ]) (S.set m (.PN (aZ W')))/\Rv W' (L++gj K x T)
 |[],S,W,L,r4,r5,r6,r7,hm,h,_=>⟨W,r4,r5,r6,r7,by
  have RZ:m<S.length:=(Yc.mp hm).1
  have:S.set m (.PN (aZ W))=S:=by have e:=(Yc.mp hm).2;rw[<- e];exact Qk RZ
  rw[this];rfl,by simpa[gj] using h⟩
 |e::T,S,W,L,r4,r5,r6,r7,hm,h,hz=>by
  have hm2:(e::T).length*K.length=T.length*K.length+K.length:=by rw[Yn,Vp]
  have RZ:m<S.length:=(Yc.mp hm).1
  obtain⟨W1,a6,a7,e1,h1⟩:=xp (x:=x) (w:=e.1) (c:=e.2) r0 (some (tupI K)) K S W L r6 r7 hK hm h (by omega)
  obtain⟨W2,b4,b5,b6,b7,e2,h2⟩:=xq hK r0 T (S.set m (.PN (aZ W1))) W1 (L++K.map λq=>(e.1+q*x,e.2)) (some (.int e.1)) (some (.int e.2)) a6 a7 (Z7 RZ) h1 (by rw[Yp,Yi];omega)
  rw[Wx]at e2;refine⟨W2,b4,b5,b6,b7,?_,?_⟩
  .show forL _ _ (pairD (.inl e.1,.int e.2)::(aZ T).map pairD) _ _=_;exact(bu (r1:=[r0,some (.int x),some (tupI K),some (.ref m),some (.int e.1),some (.int e.2),r6,r7]) rfl ((du (aa rfl) rfl).trans e1)).trans e2
  .have:gj K x (e::T)=(K.map λq=>(e.1+q*x,e.2))++gj K x T:=by simp[gj]
   rw[this,<- Zv];exact h2
def xr{n:Nat}(hi:ρ[i]?=some (some (.ref n)))(h:T5 S n T):dY (af i) ρ S=.ok ((aZ T).map pairD) (S.set n (.P0 (aZ T))):=by
 unfold dY;rw[aa hi,R.Pq];rcases h with h|h
 .simp only[h]
 .simp only[h];have hnl:n<S.length:=(Yc.mp h).1
  have:S.set n (.P0 (aZ T))=S:=by have e:=(Yc.mp h).2;rw[<- e];exact Qk hnl
  rw[this]
def yY{x:Int}{n:Nat}{f:List Int}(hK:∀q∈K,-1<=q/\q<=1)(hd:T5 S n T)(h:Rf T f)(hz:f.length*K.length<=1000):
  ∃T':List (Int×Int),gz [.ref n,.int x,tupI K] S=.ok (.ref S.length) (S.set n (.P0 (aZ T))++[.PN (aZ T')])/\Rf T' (fS K x f):=by
 have hnl:=hd.lt
 have hd':T5 (S++[.PN []]) n T:=by unfold T5;rw[Z1 hnl];exact hd
 have hle:T.length*K.length<=f.length*K.length:=Vg _ h.len;have e0:(S++[SO.PN []]).set n (.P0 (aZ T))=S.set n (.P0 (aZ T))++[.PN []]:=Ui _ _ hnl
 obtain⟨T',a4,a5,a6,a7,e1,h1⟩:=xq (x:=x) hK (some (.ref n)) (m:=S.length) T (S.set n (.P0 (aZ T))++[.PN []]) [] [] none none none none (by simp[aZ]) Rv.nil (by simp;omega)
 have e2:(S.set n (.P0 (aZ T))++[SO.PN []]).set S.length (.PN (aZ T'))=S.set n (.P0 (aZ T))++[.PN (aZ T')]:=by rw[U6 _ _ (by simp)];simp
 rw[e2]at e1
 refine⟨T',?_,h.step (by simpa using h1)⟩
 exact aL (ρ:=[some (.ref n),some (.int x),some (tupI K),none,none,none,none,none]) rfl ((ao (S1:=S++[.PN []]) (aC rfl)).trans ((ao (r1:=[some (.ref n),some (.int x),some (tupI K),some (.ref S.length),a4,a5,a6,a7]) ((g9 (xr rfl hd')).trans (by rw[e0];exact e1))).trans (aD (aa rfl))))
def bM(T:TF):List (KD×D):=T.map λe=>(.inl e.1,tupI e.2)
def D6(T:TF)(k:Int):(bM T).any (λkv=>decide (kv.1=.inl k))=T.any λe=>decide (e.1=k):=by
 unfold bM;rw[List.any_map];congr 1;funext e;show decide ((Sum.inl e.1:KD)=.inl k)=decide (e.1=k);rw[Qr]
 exact⟨V9,λh=>by rw[h]⟩
def D7(T:TF)(k:Int)(c:List Int):putD (bM T) (.inl k) (tupI c)=bM (pF T k c):=by
 unfold putD pF;rw[D6];cases T.any λe=>decide (e.1=k) with
 |true=>
  rw[Y9 rfl,Y9 rfl];unfold bM;rw[Za,Za];refine Q3 λe _=>?_;simp only[Function.comp];by_cases h:e.1=k
  .rw[Y9 (by rw[h]),Y9 h]
  .rw[Yj (λz=>h (V9 z)),Yj h]
 |false=>
  rw[Yj Ym,Yj Ym];simp[bM]
def qq(T:TF)(k:Int):gq (bM T) (.inl k)=(gF T k).map tupI:=by
 unfold gq gF bM;rw[Mp]
 have e:((λkv:KD×D=>decide (kv.1=.inl k))∘λe:Int×List Int=>((.inl e.1:KD),tupI e.2))=λe=>decide (e.1=k):=by
  funext e;show decide ((Sum.inl e.1:KD)=.inl k)=decide (e.1=k);rw[Qr]
  exact⟨V9,λh=>by rw[h]⟩
 rw[e];cases T.find? λe=>decide (e.1=k)<;>rfl
abbrev fsI:SM:=(aA (aN 6 (Px aY (af 3) (Px dn (af 5) (af 1)))) (aA (aN 7 (Px aY (af 4) (gU (ag (af 5) ak)))) (lL g0 (eB sv (ag (af 7) (ag (fe (af 2) (af 6) (af 7)) ak))) (af 2) (af 6))))
def D8(S:Pz)(p:List Int)(q:Int)(h:p.length<=100):aY S (tupI p) (.tup [.int q])=some (tupI (p++[q])):=by
 have z:(1000:Nat)<=sizeLine:=by decide
 refine(yS (by simp;omega)).trans ?_
 simp[tupI]
theorem fT:∀xs:List Int,intsOf (xs.map .int)=some xs
 |[]=>rfl
 |x::xs=>by rw[Y8,intsOf,fT xs];rfl
def B9(S:Pz)(a b:List Int):sv S [tupI a,tupI b]=some (tupI (min2 a b)):=by
 show wI S [.tup (a.map .int),.tup (b.map .int)]=_;unfold wI min2;simp only[fT];by_cases h:ltZ b a=true
 .rw[Y9 h,Y9 h]
 .rw[Yj h,Yj h]
def Jj{W:TF}{x w:Int}(hq:-1<=q/\q<=1)(hp:p.length<=100)(hm:S[m]?=some (.PN (bM W)))(hz:W.length<1000)(r0 r6 r7:Option D):
  fsI [r0,some (.int x),some (.ref m),some (.int w),some (tupI p),some (.int q),r6,r7] S=.ok (.nx [r0,some (.int x),some (.ref m),some (.int w),some (tupI p),some (.int q),some (.int (w+q*x)),some (tupI (p++[q]))]) (S.set m (.PN (bM (pF W (w+q*x) (min2 (p++[q]) ((gF W (w+q*x)).getD (p++[q]))))))):=by
 have hd:cR S (.ref m)=some (bM W):=by simp[cR,hm]
 have z:(1000:Nat)<=sizeLine:=by decide
 have z1:(1:Nat)<=sizeLine:=by decide
 refine(ao (aC (au (aa rfl) (au (aa rfl) (aa rfl) (dX (.inl ⟨by omega,by omega⟩))) rfl))).trans ?_
 refine(ao (aC (au (aa rfl) (hU (xs:=[.int q]) rfl z1) (D8 S p q hp)))).trans ?_
 have hg:fe (af 2) (af 6) (af 7) [r0,some (.int x),some (.ref m),some (.int w),some (tupI p),some (.int q),some (.int (w+q*x)),some (tupI (p++[q]))] S=.ok (tupI ((gF W (w+q*x)).getD (p++[q]))) S:=by
  have e:(gq (bM W) (.inl (w+q*x))).getD (tupI (p++[q]))=tupI ((gF W (w+q*x)).getD (p++[q])):=by rw[qq];cases gF W (w+q*x)<;>rfl
  rw[<- e];exact mj (aa rfl) hd (aa rfl) (aa rfl) hd rfl
 refine u6 (aR (ae (aa rfl) (ae hg rfl)) (B9 _ _ _)) (aa rfl) (aa rfl) ?_
 have h1:nW S (.ref m)=true:=by simp[nW,hm]
 unfold g0;rw[Y9 h1];unfold sh;simp only[hm,lS]
 rw[Y9 (by simp[bM];omega),D7]
abbrev fsO:SM:=(dU (bJ (eC (.tup (([(-1),(1)]:List Int).map .int))) bH) (.nm 5) (aA (aN 6 (Px aY (af 3) (Px dn (af 5) (af 1)))) (aA (aN 7 (Px aY (af 4) (gU (ag (af 5) ak)))) (lL g0 (eB sv (ag (af 7) (ag (fe (af 2) (af 6) (af 7)) ak))) (af 2) (af 6)))))
theorem xt{x w:Int}(hp:p.length<=100)(r0:Option D):∀(K:List Int)(S:Pz)(W L:TF)(r5 r6 r7:Option D),(∀q∈K,-1<=q/\q<=1)->S[m]?=some (.PN (bM W))->FT W L->L.length+K.length<=1000->
  ∃(W':TF)(Xq WR ZQ:Option D),forL (.nm 5) fsI (K.map .int) [r0,some (.int x),some (.ref m),some (.int w),some (tupI p),r5,r6,r7] S=.ok (.nx [r0,some (.int x),some (.ref m),some (.int w),some (tupI p),Xq,WR,ZQ]) (S.set m (.PN (bM W')))/\FT W' (L++K.map λq=>(w+q*x,p++[q]))
 |[],S,W,L,r5,r6,r7,_,hm,h,_=>⟨W,r5,r6,r7,by
  have RZ:m<S.length:=(Yc.mp hm).1
  have:S.set m (.PN (bM W))=S:=by have e:=(Yc.mp hm).2;rw[<- e];exact Qk RZ
  rw[this];rfl,by simpa using h⟩
 |q::K,S,W,L,r5,r6,r7,hK,hm,h,hz=>by
  rw[Yn]at hz;have RZ:m<S.length:=(Yc.mp hm).1
  have e1:=Jj (S:=S) (x:=x) (w:=w) (p:=p) (hK q (.head _)) hp hm (by have:=h.len;omega) r0 r6 r7
  obtain⟨W',a5,a6,a7,e2,h2⟩:=xt hp r0 K (S.set m (.PN (bM (pF W (w+q*x) (min2 (p++[q]) ((gF W (w+q*x)).getD (p++[q]))))))) (pF W (w+q*x) (min2 (p++[q]) ((gF W (w+q*x)).getD (p++[q])))) (L++[(w+q*x,p++[q])]) (some (.int q)) (some (.int (w+q*x))) (some (tupI (p++[q]))) (λq hq=>hK q (.tail _ hq)) (Z7 RZ) (h.put (w+q*x) (p++[q])) (by simp;omega)
  rw[Wx]at e2;refine⟨W',a5,a6,a7,(bu (r1:=[r0,some (.int x),some (.ref m),some (.int w),some (tupI p),some (.int q),r6,r7]) rfl e1).trans e2,?_⟩;rw[Y8];simpa using h2
theorem xu{x:Int}(r0:Option D):∀(T:TF)(S:Pz)(W L:TF)(r3 r4 r5 r6 r7:Option D),(∀e∈T,e.2.length<=100)->S[m]?=some (.PN (bM W))->FT W L->L.length+T.length*2<=1000->
  ∃(W':TF)(r3' r4' Xq WR ZQ:Option D),forL (.tp [.nm 3,.nm 4]) fsO ((bM T).map pairD) [r0,some (.int x),some (.ref m),r3,r4,r5,r6,r7] S=.ok (.nx [r0,some (.int x),some (.ref m),r3',r4',Xq,WR,ZQ]) (S.set m (.PN (bM W')))/\FT W' (L++kY x T)
 |[],S,W,L,r3,r4,r5,r6,r7,_,hm,h,_=>⟨W,r3,r4,r5,r6,r7,by
  have RZ:m<S.length:=(Yc.mp hm).1
  have:S.set m (.PN (bM W))=S:=by have e:=(Yc.mp hm).2;rw[<- e];exact Qk RZ
  rw[this];rfl,by simpa[kY] using h⟩
 |e::T,S,W,L,r3,r4,r5,r6,r7,hp,hm,h,hz=>by
  rw[Yn]at hz;have RZ:m<S.length:=(Yc.mp hm).1
  obtain⟨W1,a5,a6,a7,e1,h1⟩:=xt (x:=x) (w:=e.1) (hp e (.head _)) r0 KS S W L r5 r6 r7 (by decide) hm h (by show L.length+2<=1000;omega)
  obtain⟨W2,b3,b4,b5,b6,b7,e2,h2⟩:=xu r0 T (S.set m (.PN (bM W1))) W1 (L++KS.map λq=>(e.1+q*x,e.2++[q])) (some (.int e.1)) (some (tupI e.2)) a5 a6 a7 (λd hd=>hp d (.tail _ hd)) (Z7 RZ) h1 (by rw[Yp,Yi];show L.length+2+T.length*2<=1000;omega)
  rw[Wx]at e2;refine⟨W2,b3,b4,b5,b6,b7,?_,?_⟩
  .show forL _ _ (pairD (.inl e.1,tupI e.2)::(bM T).map pairD) _ _=_;exact(bu (r1:=[r0,some (.int x),some (.ref m),some (.int e.1),some (tupI e.2),r5,r6,r7]) rfl ((du (d:=tupI KS) rfl rfl).trans e1)).trans e2
  .have:kY x (e::T)=(KS.map λq=>(e.1+q*x,e.2++[q]))++kY x T:=by simp only[kY,Qg]
   rw[this,<- Zv];exact h2
structure Pre(S0 S:Pz):Prop where
 old:∀i,i<S0.length->S[i]?=S0[i]?
 len:S0.length<=S.length
def Pre.refl(S:Pz):Pre S S:=⟨λ_ _=>rfl,Yh _⟩
theorem Pre.trans(a:Pre S0 S1)(b:Pre S1 S2):Pre S0 S2:=⟨λi h=>(b.old i (Ys h a.len)).trans (a.old i h),Yw a.len b.len⟩
def Pre.app(S l:Pz):Pre S (S++l):=⟨λi h=>Z1 h,by simp⟩
theorem Pre.set(p:Pre S0 S){n:Nat}(h:S0.length<=n)(o:SO):Pre S0 (S.set n o):=⟨λi hi=>by rw[Z3 (by omega)];exact p.old i hi,by rw[Mi];exact p.len⟩
def Pre.gr(g:Gr b S0 S0)(p:Pre S0 S):Gr b S0 S:=by
 obtain⟨n,hn⟩:=g.bx;have hb:b<S0.length:=(Yc.mp hn).1
 exact⟨⟨n,by rw[p.old b hb];exact hn⟩,λi _ hl=>p.old i hl,p.len⟩
theorem T5.set{r n:Nat}{o:SO}(h:T5 S r T)(hn:n≠r):T5 (S.set n o) r T:=by unfold T5;rw[Z3 hn];exact h
def fold(K:List Int)(xs:List Int)(f:List Int):List Int:=xs.foldl (λf x=>fS K x f) f
theorem AF(K:List Int):∀(xs pre:List Int),fold K xs (RG K pre)=RG K (pre++xs)
 |[],pre=>by simp[fold]
 |x::xs,pre=>by have:=AF K xs (pre++[x]);rw[D4,Zv]at this;exact this
def Gq(hK:K.length<=2){n r:Nat}(h:n*2^(r+1)<=256):n*K.length<=1000/\n*K.length*2^r<=256:=by
 have h1:n*K.length<=n*2:=Nat.mul_le_mul_left _ hK
 have h2:1<=2^r:=Nat.one_le_pow _ _ (by decide)
 have h3:n*K.length*2^r<=n*2*2^r:=Vg _ h1
 have h4:n*2*2^r=n*2^(r+1):=by rw[Uh,Nat.mul_assoc,Vq 2]
 have h5:n*2*1<=n*2*2^r:=Nat.mul_le_mul_left _ h2;omega
theorem xv(hK:K.length<=2)(hk:∀q∈K,-1<=q/\q<=1)(r0:Option D):∀(xs:List Int)(S:Pz)(n:Nat)(T:List (Int×Int))(f:List Int)(r3:Option D),S[n]?=some (.PN (aZ T))->Rf T f->f.length*2^xs.length<=256->S0.length<=n->Pre S0 S->
  ∃(S':Pz)(n':Nat)(T':List (Int×Int))(r3':Option D),forL (.nm 3) LN (xs.map .int) [r0,some (tupI K),some (.ref n),r3] S=.ok (.nx [r0,some (tupI K),some (.ref n'),r3']) S'/\S'[n']?=some (.PN (aZ T'))/\S0.length<=n'/\Rf T' (fold K xs f)/\Pre S0 S'
 |[],S,n,T,f,r3,hd,h,_,hn,p=>⟨S,n,T,r3,rfl,hd,hn,h,p⟩
 |x::xs,S,n,T,f,r3,hd,h,hz,hn,p=>by
  rw[Yn]at hz;obtain⟨z1,z2⟩:=Gq hK hz;obtain⟨T1,e1,h1⟩:=yY (x:=x) hk (.inl hd) h z1;have p1:Pre S0 (S.set n (.P0 (aZ T))++[SO.PN (aZ T1)]):=(p.set hn _).trans (Pre.app _ _)
  obtain⟨S2,n2,T2,a3,e2,d2,dl2,h2,p2⟩:=xv hK hk r0 xs (S.set n (.P0 (aZ T))++[SO.PN (aZ T1)]) S.length T1 (fS K x f) (some (.int x)) (by simp) h1 (by rw[yW];exact z2) p.len p1
  exact⟨S2,n2,T2,a3,(bu (r1:=[r0,some (tupI K),some (.ref n),some (.int x)]) rfl (aC ((aw (ae (aa rfl) (ae (aa rfl) (ae (aa rfl) rfl)))).trans e1))).trans e2,d2,dl2,h2,p2⟩
def Gs:nR [((eC (.int 0)),(eC (.int 1)))] ρ S=.ok (.ref S.length) (S++[.PN (aZ [(0,1)])]):=rfl
def jj(hK:K.length<=2)(hk:∀q∈K,-1<=q/\q<=1)(h6:xs.length<=8)(S:Pz):∃(S':Pz)(n:Nat)(T:List (Int×Int)),cW [tupI xs,tupI K] S=.ok (.ref n) S'/\S'[n]?=some (.PN (aZ T))/\S.length<=n/\Rf T (RG K xs)/\Pre S S':=by
 obtain⟨S',n,T,a3,e,hd,hdl,h,p⟩:=xv hK hk (S0:=S) (some (tupI xs)) xs (S++[.PN (aZ [(0,1)])]) S.length [(0,1)] [0] none (by simp) Rf.zero (by
  rw[W7,Nat.one_mul]
  exact Yw (Qc (by decide) h6) (by decide)) (Yh _) (Pre.app _ _)
 have hf:=AF K xs [];rw[Qz]at hf;have h0:RG K []=[0]:=rfl;rw[h0]at hf;rw[hf]at h;exact⟨S',n,T,aL (ρ:=[some (tupI xs),some (tupI K),none,none]) rfl ((ao (aC Gs)).trans ((ao ((du (aa rfl) rfl).trans e)).trans (aD (aa rfl)))),hd,hdl,h,p⟩
def fU(h:Row xs)(S:Pz):aP [.tup (xs.map .int)] S=.ok .non S:=by have e:=w9 (S:=S) h.aau;rw[h.is]at e;simp[aP,QB,jc,QQ,bc,tNx,R.nx,PD.fM,tV,az,af,ag,ak,R.bind,e]
abbrev foB:SM:=(aN 1 (az cq (ag (af 1) (ag (af 2) ak))))
def Ca{n:Nat}{T:TF}(hi:ρ[i]?=some (some (.ref n)))(h:S[n]?=some (.PN (bM T))):dY (af i) ρ S=.ok ((bM T).map pairD) (S.set n (.P0 (bM T))):=by unfold dY;rw[aa hi,R.Pq];simp only[h]
def xw{x:Int}{n:Nat}{T:TF}(hd:S[n]?=some (.PN (bM T)))(h:QF T xs)(hx:xs.length<=6):
  ∃T':TF,cq [.ref n,.int x] S=.ok (.ref S.length) (S.set n (.P0 (bM T))++[.PN (bM T')])/\QF T' (xs++[x]):=by
 have hnl:n<S.length:=(Yc.mp hd).1
 have hd':(S++[SO.PN []])[n]?=some (.PN (bM T)):=by rw[Z1 hnl];exact hd
 have hlen:T.length<=64:=Yw h.len (Yw (Qc (by decide) hx) (by decide))
 have e0:(S++[SO.PN []]).set n (.P0 (bM T))=S.set n (.P0 (bM T))++[.PN []]:=Ui _ _ hnl
 obtain⟨T',a3,a4,a5,a6,a7,e1,h1⟩:=xu (x:=x) (some (.ref n)) (m:=S.length) T (S.set n (.P0 (bM T))++[.PN []]) [] [] none none none none none (λe he=>by
  have:=((aX _ _).mp (h.least e he).1.1).1
  omega) (by simp[bM]) FT.nil (by simp;omega)
 have e2:(S.set n (.P0 (bM T))++[SO.PN []]).set S.length (.PN (bM T'))=S.set n (.P0 (bM T))++[.PN (bM T')]:=by rw[U6 _ _ (by simp)];simp
 rw[e2]at e1
 refine⟨T',?_,h.step (by simpa using h1)⟩
 exact aL (ρ:=[some (.ref n),some (.int x),none,none,none,none,none,none]) rfl ((ao (S1:=S++[.PN []]) (aC rfl)).trans ((ao (r1:=[some (.ref n),some (.int x),some (.ref S.length),a3,a4,a5,a6,a7]) ((g9 (Ca rfl hd')).trans (by rw[e0];exact e1))).trans (aD (aa rfl))))
theorem AG(r0:Option D):∀(xs ys:List Int)(S:Pz)(n:Nat)(T:TF)(r2:Option D),S[n]?=some (.PN (bM T))->QF T ys->ys.length+xs.length<=6->S0.length<=n->Pre S0 S->
  ∃(S':Pz)(n':Nat)(T':TF)(r2':Option D),forL (.nm 2) foB (xs.map .int) [r0,some (.ref n),r2] S=.ok (.nx [r0,some (.ref n'),r2']) S'/\S'[n']?=some (.PN (bM T'))/\S0.length<=n'/\QF T' (ys++xs)/\Pre S0 S'
 |[],ys,S,n,T,r2,hd,h,_,hn,p=>⟨S,n,T,r2,rfl,hd,hn,by simpa using h,p⟩
 |x::xs,ys,S,n,T,r2,hd,h,hz,hn,p=>by
  rw[Yn]at hz
  obtain⟨T1,e1,h1⟩:=xw (x:=x) hd h (by omega)
  have p1:Pre S0 (S.set n (.P0 (bM T))++[SO.PN (bM T1)]):=(p.set hn _).trans (Pre.app _ _)
  obtain⟨S2,n2,T2,a2,e2,d2,dl2,h2,p2⟩:=AG r0 xs (ys++[x]) (S.set n (.P0 (bM T))++[SO.PN (bM T1)]) S.length T1 (some (.int x)) (by simp) h1 (by simp;omega) p.len p1
  refine⟨S2,n2,T2,a2,(bu (r1:=[r0,some (.ref n),some (.int x)]) rfl (aC ((aw (ae (aa rfl) (ae (aa rfl) rfl))).trans e1))).trans e2,d2,dl2,?_,p2⟩;rw[Zv]at h2;exact h2
def oq(h6:xs.length<=6)(S:Pz):∃(S':Pz)(n:Nat)(T:TF),et [tupI xs] S=.ok (.ref n) S'/\S'[n]?=some (.PN (bM T))/\S.length<=n/\QF T xs/\Pre S S':=by
 obtain⟨S',n,T,a2,e,hd,hdl,h,p⟩:=AG (S0:=S) (some (tupI xs)) xs [] (S++[.PN (bM [(0,[])])]) S.length [(0,[])] none (by simp) QF.zero (by simpa using h6) (Yh _) (Pre.app _ _)
 have e0:nR [((eC (.int 0)),(gU ak))] [some (tupI xs),none,none] S=.ok (.ref S.length) (S++[.PN (bM [(0,[])])]):=rfl;exact⟨S',n,T,aL (ρ:=[some (tupI xs),none,none]) rfl ((ao (aC e0)).trans ((ao ((du (aa rfl) rfl).trans e)).trans (aD (aa rfl)))),hd,hdl,h,p⟩
theorem mq:∀(xs ys p q:List Int),p.length=xs.length->RC (xs++ys) (p++q)=RC xs p+RC ys q
 |[],ys,[],q,_=>by show RC ys q=0+RC ys q;omega
 |x::xs,ys,r::p,q,h=>by
  show x*r+RC (xs++ys) (p++q)=x*r+RC xs p+RC ys q
  rw[mq xs ys p q (by simpa using h)];omega
 |[],_,_::_,_,h=>by cases h
 |_::_,_,[],_,h=>by cases h
def kz{a:Nat}:p∈Rc K (a+b)↔∃q r,p=q++r/\q∈Rc K a/\r∈Rc K b:=by
 constructor
 .intro h;obtain⟨h1,h2⟩:=(aX _ p).mp h
  exact⟨p.take a,p.drop a,(Va a p).symm,(aX _ _).mpr ⟨by rw[W5,h1];omega,λy hy=>h2 y (List.mem_of_mem_take hy)⟩,(aX _ _).mpr ⟨by rw[Qn,h1];omega,λy hy=>h2 y (List.mem_of_mem_drop hy)⟩⟩
 .rintro⟨q,r,rfl,hq,hr⟩;obtain⟨q1,q2⟩:=(aX _ q).mp hq;obtain⟨r1,r2⟩:=(aX _ r).mp hr
  refine(aX _ _).mpr ⟨by rw[Yp,q1,r1],λy hy=>?_⟩
  rcases Yx.mp hy with hy|hy
  .exact q2 y hy
  .exact r2 y hy
def D9:(∃x∈RG K xs,∃y∈RG K ys,x+y=v)↔Wo K (xs++ys) v:=by
 rw[qp,Yp];constructor
 .rintro⟨x,hx,y,hy,rfl⟩;obtain⟨p,hp,rfl⟩:=Yt.mp hx;obtain⟨q,hq,rfl⟩:=Yt.mp hy;exact⟨p++q,kz.mpr ⟨p,q,rfl,hp,hq⟩,mq xs ys p q ((aX _ _).mp hp).1⟩
 .rintro⟨p,hp,rfl⟩;obtain⟨q,r,rfl,hq,hr⟩:=kz.mp hp;exact⟨_,Yt.mpr ⟨q,hq,rfl⟩,_,Yt.mpr ⟨r,hr,rfl⟩,(mq xs ys q r ((aX _ _).mp hq).1).symm⟩
structure Lst(xs:List Int)(v:Int)(p:List Int):Prop where
 all:p∈Rc KS xs.length
 wo:RC xs p=v
 le:∀q∈Rc KS xs.length,RC xs q=v->leZ p q
def Lst.uniq{q:List Int}(a:Lst xs v p)(b:Lst xs v q):p=q:=xk (a.le q b.all b.wo) (b.le p a.all a.wo)
def qr{k:Int}(h:k∈KS):k = -1\/k=1:=by simp only[KS,Yb,Yy,Zn]at h;exact h
def vf(A B:TF)(v:Int):List (List Int):=(A.filter λe=>(gF B (v-e.1)).isSome).map λe=>e.2++(gF B (v-e.1)).getD []
def Jk{T:TF}{k:Int}(h:∃e∈T,e.1=k):∃u,gF T k=some u:=by
 cases hg:gF T k with
 |some u=>exact⟨u,rfl⟩
 |none=>
  obtain⟨e,he,z⟩:=h;exact absurd z (AE hg e he)
def Jl{A B:TF}(hA:QF A xs)(hB:QF B ys){m:List Int}(h:m∈vf A B v):m∈Rc KS (xs++ys).length/\RC (xs++ys) m=v:=by
 obtain⟨e,he,rfl⟩:=Yt.mp h;obtain⟨he,hs⟩:=Z6.mp he;cases hg:gF B (v-e.1) with
 |none=>rw[hg]at hs;cases hs
 |some u=>
  obtain⟨⟨a1,a2⟩,_⟩:=hA.least e he;obtain⟨⟨b1,b2⟩,_⟩:=hB.least _ (o6 hg);show e.2++u∈_/\RC _ (e.2++u)=v;have b2:RC ys u=v-e.1:=b2
  refine⟨by rw[Yp];exact kz.mpr ⟨_,_,rfl,a1,b1⟩,?_⟩
  rw[mq _ _ _ _ ((aX _ _).mp a1).1,a2,b2];omega
def Ea{A B:TF}(hA:QF A xs)(hB:QF B ys)(hp:p∈Rc KS (xs++ys).length)(hw:RC (xs++ys) p=v):∃m∈vf A B v,leZ m p:=by
 rw[Yp]at hp;obtain⟨q,r,rfl,hq,hr⟩:=kz.mp hp;have hql:=((aX _ _).mp hq).1;rw[mq _ _ _ _ hql]at hw;obtain⟨e,he,z⟩:=(hA.mem _).mpr ⟨q,hq,rfl⟩
 have hv:RC ys r=v-e.1:=by omega
 obtain⟨u,hu⟩:=Jk ((hB.mem (v-e.1)).mpr ⟨r,hr,hv⟩);obtain⟨⟨a1,a2⟩,a3⟩:=hA.least e he;obtain⟨_,b3⟩:=hB.least _ (o6 hu)
 refine⟨e.2++u,Yt.mpr ⟨e,Z6.mpr ⟨he,by rw[hu];rfl⟩,by rw[hu];rfl⟩,?_⟩
 exact AB (((aX _ _).mp a1).1.trans hql.symm) (a3 q hq z.symm) (b3 r hr hv)
def Gu{A B:TF}(hA:QF A xs)(hB:QF B ys)(h:vf A B v=[]):¬Wo KS (xs++ys) v:=λhw=>by obtain⟨p,hp,e⟩:=qp.mp hw;obtain⟨m,hm,_⟩:=Ea hA hB hp e;rw[h]at hm;cases hm
def Gv{A B:TF}(hA:QF A xs)(hB:QF B ys){m:List Int}{l:List (List Int)}(h:vf A B v=m::l):Lst (xs++ys) v (jS m l):=by
 obtain⟨h1,h2,h3⟩:=AD l m
 have hin:jS m l∈vf A B v:=by
  rw[h];rcases h1 with e|e
  .rw[e];exact .head _
  .exact .tail _ e
 obtain⟨a1,a2⟩:=Jl hA hB hin;refine⟨a1,a2,λq hq hw=>?_⟩;obtain⟨n,hn,hl⟩:=Ea hA hB hq hw;rw[h]at hn;rcases Yb.mp hn with rfl|hn
 .exact fH h2 hl
 .exact fH (h3 n hn) hl
def Eb(xs:List D)(m:Nat)(h:m<=xs.length):PD.cutD xs none (some (m:Int))=xs.take m:=by
 unfold PD.cutD;have e1:HT.QH xs.length 0 none=0:=rfl
 have e2:HT.QH xs.length xs.length (some (m:Int))=m:=by rw[HT.WX];exact Nat.min_eq_left h
 rw[e1,e2];simp
def Ec(xs:List D)(m:Nat)(h:m<=xs.length):PD.cutD xs (some (m:Int)) none=xs.drop m:=by
 unfold PD.cutD;have e1:HT.QH xs.length xs.length none=xs.length:=rfl
 have e2:HT.QH xs.length 0 (some (m:Int))=m:=by rw[HT.WX];exact Nat.min_eq_left h
 rw[e1,e2,Vy (by rw[Qn];omega)]
abbrev Gw:FM:=QB 2 (aA (aN 1 (Px jr (eB cy (ag (af 0) ak)) (eC (.int 2)))) (aT (gU (ag (UG lR (af 0) Xp (fc (af 1))) (ag (UG lR (af 0) (fc (af 1)) Xp) ak)))))
def nj(xs:List Int)(S:Pz):Gw [tupI xs] S=.ok (.tup [tupI (xs.take (xs.length/2)),tupI (xs.drop (xs.length/2))]) S:=by
 have z2:(2:Nat)<=sizeLine:=by decide
 have hm:xs.length/2<=(xs.map D.int).length:=by rw[Yi];omega
 have hl:cy S [tupI xs]=some (.int xs.length):=by show some (D.int ((xs.map D.int).length:Int))=_;rw[Yi]
 have hd:jr S (.int xs.length) (.int 2)=some (.int ((xs.length/2:Nat):Int)):=by
  show(if (0:Int)<2/\(2:Int)<1073741824 then some (D.int ((xs.length:Int)/2)) else none)=_
  rw[Y9 (by decide)]
  rfl
 have h1:lR S (tupI xs) none (some ((xs.length/2:Nat):Int))=some (tupI (xs.take (xs.length/2))):=by show some (D.tup (PD.cutD (xs.map .int) _ _))=_;rw[Eb _ _ hm,<- List.map_take]
 have h2:lR S (tupI xs) (some ((xs.length/2:Nat):Int)) none=some (tupI (xs.drop (xs.length/2))):=by show some (D.tup (PD.cutD (xs.map .int) _ _))=_;rw[Ec _ _ hm,<- List.map_drop]
 exact aL (ρ:=[some (tupI xs),none]) rfl ((ao (aC (au (aR (ae (aa rfl) rfl) hl) rfl hd))).trans (aD (hU (ae (nh (aa rfl) rfl (fR (aa rfl)) h1) (ae (nh (aa rfl) (fR (aa rfl)) rfl h2) rfl)) z2)))
def Jm(h:T4 T){e:Int×Int}(he:e∈T):gT T e.1=e.2:=by
 induction T with
 |nil=>cases he
 |cons d T ih=>
  obtain⟨h1,h2⟩:=Qp.mp h;rw[u7];rcases Yb.mp he with rfl|he
  .rw[Y9 rfl]
  .rw[Yj (h1 e he)];exact ih h2 he
def vg(K xs:List Int):(RG K xs).length=K.length^xs.length:=by unfold RG;rw[Yi,xg]
def yZ{f:List Int}(h:Rf T f)(hf:f.length<=1000):∀e∈T,dH e.2:=λe he=>by
 have e1:=Jm h.keys he;rw[h.get]at e1;have:=List.length_filter_le (λy=>decide (y=e.1)) f;rw[<- e1]
 exact⟨by omega,by omega⟩
def eV{a:SM}{f:F}(h:a r S=.ok f S1):a r S=.ok f S1:=h
def Ed{e:EM}{x y u v:D}(hi:it ρ S=.ok [x,y] S1)(h1:e [some x] S1=.ok u S2)(h2:e [some y] S2=.ok v S3):br it 1 [] (.nm 0) bY e ρ S=.ok (.lst [u,v]) S3:=by
 have z2:(2:Nat)<=sizeLine:=by decide
 unfold br
 rw[hi,R.Pq,Y9 (show[x,y].length<=sizeLine from z2)]
 have:eZ 1 [] ρ = [none]:=rfl;rw[this];simp only[cI,G.put,Zd,bY,R.Pq,Zi,h1,h2]
def y3{A:Type}{x1 x2:A->D}{out:A->D}{e:EM}(xs:List A)(hi:it r S=.ok (xs.map λx=>.tup [x1 x,x2 x]) S1)(hl:xs.length<=sizeLine)(hc:PB.map (λi=>(r[i]?).join)=tl)(h:∀x∈xs,e (some (x1 x)::some (x2 x)::tl) S1=.ok (out x) S1):br it 2 PB (.tp [.nm 0,.nm 1]) bY e r S=.ok (.lst (xs.map out)) S1:=by
 unfold br
 rw[hi,R.Pq,Y9 (by rw[Yi];exact hl)]
 have:eZ 2 PB r=none::none::tl:=by unfold eZ;rw[hc];rfl
 rw[this,qk (out:=out) xs none none h,R.Pq]
theorem tw{A:Type}{x1 x2:A->D}{out:A->D}{p:A->Bool}{t:TM}{e:EM}:∀(xs:List A)(r0 r1:Option D),(∀x∈xs,t (some (x1 x)::some (x2 x)::tl) S=.ok (p x) S)->(∀x∈xs,p x=true->e (some (x1 x)::some (x2 x)::tl) S=.ok (out x) S)->cI (.tp [.nm 0,.nm 1]) t e (xs.map λx=>.tup [x1 x,x2 x]) (r0::r1::tl) S=.ok ((xs.filter p).map out) S
 |[],_,_,_,_=>rfl
 |x::xs,r0,r1,ht,h=>by
  have h0:=ht x Z4;have h2:=tw (out:=out) xs (some (x1 x)) (some (x2 x)) (λy hy=>ht y (Z0 _ hy)) λy hy=>h y (Z0 _ hy);rw[Y8,cI];cases hp:p x with
  |true=>
   have h1:=h x Z4 hp;rw[hp]at h0;simp only[G.put,G.Ru,Zd,Zo,R.Pq,Zi,h0,h1,h2,Y8,Vh,hp]
  |false=>
   rw[hp]at h0;simp only[G.put,G.Ru,Zd,Zo,R.Pq,h0,h2,Vh,hp,Ze,Qm]
def y4{A:Type}{x1 x2:A->D}{out:A->D}{p:A->Bool}{t:TM}{e:EM}(xs:List A)(hi:it r S=.ok (xs.map λx=>.tup [x1 x,x2 x]) S1)(hl:xs.length<=sizeLine)(hc:PB.map (λi=>(r[i]?).join)=tl)(ht:∀x∈xs,t (some (x1 x)::some (x2 x)::tl) S1=.ok (p x) S1)(h:∀x∈xs,p x=true->e (some (x1 x)::some (x2 x)::tl) S1=.ok (out x) S1):br it 2 PB (.tp [.nm 0,.nm 1]) t e r S=.ok (.lst ((xs.filter p).map out)) S1:=by
 unfold br
 rw[hi,R.Pq,Y9 (by rw[Yi];exact hl)]
 have:eZ 2 PB r=none::none::tl:=by unfold eZ;rw[hc];rfl
 rw[this,tw (out:=out) xs none none ht h,R.Pq]
def tD{m:EM}{n:Nat}{kvs:List (KD×D)}(hm:m ρ S=.ok (.ref n) S)(h:S[n]?=some (.PN kvs)):dY m ρ S=.ok (kvs.map pairD) (S.set n (.P0 kvs)):=by unfold dY;rw[hm,R.Pq];simp only[h]
theorem Ee{h:Int->Int}(hh:∀x,0<=h x/\h x<=c):∀f:List Int,0<=(f.map h).sum/\(f.map h).sum<=(f.length*c:Nat)
 |[]=>by simp
 |x::f=>by have:=Ee hh f;have h1:=hh x;rw[Y8,Zf,Yn,Vp];omega
def Tg:Option (List Int)->D
 |none=>.non
 |some p=>tupI p
def ZR(xs:List Int)(v:Int):Option (List Int)->Prop
 |none=>¬Wo KS xs v
 |some p=>Lst xs v p
theorem ZR.uniq:∀{a b:Option (List Int)},ZR xs v a->ZR xs v b->a=b
 |none,none,_,_=>rfl
 |some p,some q,ha,hb=>by rw[Lst.uniq ha hb]
 |none,some q,ha,hb=>absurd (qp.mpr ⟨q,Lst.all hb,Lst.wo hb⟩) ha
 |some p,none,ha,hb=>absurd (qp.mpr ⟨p,Lst.all ha,Lst.wo ha⟩) hb
def jk(h:Row xs)(v:Int)(S:Pz):aJ [tupI xs,.int v] S=.ok .non S:=by
 have e2:bG [.int v] S=.ok .non S:=by have e:=qi (d:=.int v) (S:=S) rfl;have e':isI (.int v)=true:=rfl;rw[e']at e;simp[bG,QB,fW,QQ,bc,tNx,R.nx,PD.fM,tV,az,af,ag,ak,R.bind,e]
 refine gQ (ρ:=[some (tupI xs),some (.int v)]) rfl ((ao (bq ((aw (ae (aa rfl) rfl)).trans (fU h S)))).trans (bq ((aw (ae (aa rfl) rfl)).trans e2)))
def qu{x y:D}:gW S (.lst [x,y]) (.int 0)=some x/\gW S (.lst [x,y]) (.int 1)=some y:=⟨rfl,rfl⟩
def KQ{n:Nat}{m k:EM}(hd:T5 S n T)(hm:m ρ S=.ok (.ref n) S)(hk:k ρ S=.ok (.int v) S):fe m k (eC (.int 0)) ρ S=.ok (.int (gT T v)) S:=by rw[<- xo];exact mj hm hd.PN hk rfl hd.PN rfl
def Gx(h10:xs.length<=10)(hr:Row xs)(v:Int)(S:Pz):∃(S':Pz)(A B:List (Int×Int)),L9 [tupI xs,.int v] S=.ok (.int (QZ (λx=>gT B (v-x)) A)) S'/\Pre S S'/\Rf A (RG KS (xs.take (xs.length/2)))/\Rf B (RG KS (xs.drop (xs.length/2))):=by
 have hk:∀q∈KS,-1<=q/\q<=1:=by decide
 have z:(1000:Nat)<=sizeLine:=by decide
 have hl1:(xs.take (xs.length/2)).length<=5:=by rw[W5];omega
 have hl2:(xs.drop (xs.length/2)).length<=5:=by rw[Qn];omega
 have bnd:∀ys:List Int,ys.length<=5->(RG KS ys).length<=32:=λys h=>by
  rw[vg]
  exact Yw (Qc (by decide) h) (by decide)
 obtain⟨S1,a,A,eA,dA,la,hA,pA⟩:=jj (K:=KS) (xs:=xs.take (xs.length/2)) (by decide) hk (by omega) S
 obtain⟨S2,b,B,eB,dB,lb,hB,pB⟩:=jj (K:=KS) (xs:=xs.drop (xs.length/2)) (by decide) hk (by omega) S1
 have hal:a<S1.length:=(Yc.mp dA).1
 have dA2:S2[a]?=some (.PN (aZ A)):=by rw[pB.old a hal];exact dA
 have hab:a≠b:=by omega
 have lA:A.length<=32:=Yw hA.len (bnd _ hl1);refine⟨S2.set a (.P0 (aZ A)),A,B,?_,(pA.trans pB).set la _,hA,hB⟩
 have hc:br (bJ (az bC (ag (af 0) ak)) bH) 1 [] (.nm 0) bY (az cW (ag (af 0) (ag (eC (.tup (([(-1),(1)]:List Int).map .int))) ak))) [some (tupI xs),some (.int v),none] S=.ok (.lst [.ref a,.ref b]) S2:=
  Ed (S1:=S) (by unfold bJ;rw[(aw (ae (aa rfl) rfl)).trans (show bC [tupI xs] S=_ from nj xs S),R.Pq];rfl) ((aw (ae (aa rfl) (ae rfl rfl))).trans eA) ((aw (ae (aa rfl) (ae rfl rfl))).trans eB)
 have hdB:T5 (S2.set a (.P0 (aZ A))) b B:=T5.set (.inl dB) hab
 have hsm:=yZ hA (by have:=bnd _ hl1;omega)
 have hs:br (dY (Px gW (af 2) (eC (.int 0)))) 2 [2,1] (.tp [(.nm 0),(.nm 1)]) bY (Px dn (af 1) (fe (Px gW (af 2) (eC (.int 1))) (Px gC (af 3) (af 0)) (eC (.int 0)))) [some (tupI xs),some (.int v),some (.lst [.ref a,.ref b])] S2=.ok (.lst (A.map λe=>D.int (e.2*gT B (v-e.1)))) (S2.set a (.P0 (aZ A))):=
  y3 (x1:=λe:Int×Int=>.int e.1) (x2:=λe=>.int e.2) (tl:=[some (.lst [.ref a,.ref b]),some (.int v)]) A ((tD (au (aa rfl) rfl qu.1) dA2).trans (by unfold aZ;rw[Za];rfl)) (by omega) rfl λe he=>
   au (aa rfl) (KQ hdB (au (aa rfl) rfl qu.2) (au (aa rfl) (aa rfl) rfl)) (dX (.inl (hsm e he)))
 have hsum:(A.map λe=>e.2*gT B (v-e.1)).sum=QZ (λx=>gT B (v-x)) A:=by unfold QZ;congr 1;exact Q3 λe _=>Int.mul_comm _ _
 rw[<- hsum];exact aL (ρ:=[some (tupI xs),some (.int v),none]) rfl ((ao (bq ((aw (ae (aa rfl) (ae (aa rfl) rfl))).trans (jk hr v S)))).trans ((ao (eV (aC hc))).trans (eV (aD (aR (ae hs rfl) Jf)))))
def inF{n:Nat}{T:TF}(h:S[n]?=some (.PN (bM T)))(k:Int):yI false S (.int k) (.ref n)=some (.bl (gF T k).isSome):=by
 have hd:cR S (.ref n)=some (bM T):=by simp[cR,h]
 have hs:cc S (.ref n)=none:=by simp[cc,h]
 unfold yI;rw[hs];simp only[Option.isSome_none,Ze,Qm];unfold FW;simp[hd,lS,qq]
def ixF{n:Nat}{T:TF}(h:S[n]?=some (.PN (bM T))){k:Int}(hu:gF T k=some u):gW S (.ref n) (.int k)=some (tupI u):=by
 have hd:cR S (.ref n)=some (bM T):=by simp[cR,h]
 have hs:cc S (.ref n)=none:=by simp[cc,h]
 unfold gW;rw[hs];simp only[Option.isSome_none,Ze,Qm];unfold FX;simp only[hd,lS];rw[qq,hu];rfl
theorem qv:∀ms:List (List Int),ip (ms.map tupI)=some ms
 |[]=>rfl
 |m::ms=>by
  have ih:=qv ms
  show(match intsOf (m.map .int),ip (ms.map tupI) with
   |some n,some ns=>some (n::ns)
   |_,_=>none)=_
  rw[ih,fT]
theorem Gy(S:Pz):∀ms:List (List Int),nY S [.lst (ms.map tupI)]=some (Tg (match ms with | []=>none|m::l=>some (jS m l)))
 |[]=>rfl
 |m::l=>by have e:=qv (m::l);rw[Y8]at e ⊢;unfold nY;simp only[nX,e];rfl
def Ef(h10:xs.length<=10)(hr:Row xs)(v:Int)(S:Pz):∃(S':Pz)(o:Option (List Int)),My [tupI xs,.int v] S=.ok (Tg o) S'/\Pre S S'/\ZR xs v o:=by
 have z:(1000:Nat)<=sizeLine:=by decide
 have hl1:(xs.take (xs.length/2)).length<=5:=by rw[W5];omega
 have hl2:(xs.drop (xs.length/2)).length<=5:=by rw[Qn];omega
 obtain⟨S1,a,A,eA,dA,la,hA,pA⟩:=oq (xs:=xs.take (xs.length/2)) (by omega) S
 obtain⟨S2,b,B,eB,dB,lb,hB,pB⟩:=oq (xs:=xs.drop (xs.length/2)) (by omega) S1
 have hal:a<S1.length:=(Yc.mp dA).1
 have dA2:S2[a]?=some (.PN (bM A)):=by rw[pB.old a hal];exact dA
 have hab:a≠b:=by omega
 have lA:A.length<=32:=Yw hA.len (Yw (Qc (by decide) hl1) (by decide))
 have dB2:(S2.set a (.P0 (bM A)))[b]?=some (.PN (bM B)):=by rw[Z3 hab];exact dB
 have hc:br (bJ (az bC (ag (af 0) ak)) bH) 1 [] (.nm 0) bY (az et (ag (af 0) ak)) [some (tupI xs),some (.int v),none,none] S=.ok (.lst [.ref a,.ref b]) S2:=
  Ed (S1:=S) (by unfold bJ;rw[(aw (ae (aa rfl) rfl)).trans (show bC [tupI xs] S=_ from nj xs S),R.Pq];rfl) ((aw (ae (aa rfl) rfl)).trans eA) ((aw (ae (aa rfl) rfl)).trans eB)
 have hs:br (dY (Px gW (af 2) (eC (.int 0)))) 2 [2,1] (.tp [(.nm 0),(.nm 1)]) (tV (Px (yI false) (Px gC (af 3) (af 0)) (Px gW (af 2) (eC (.int 1))))) (Px aY (af 1) (Px gW (Px gW (af 2) (eC (.int 1))) (Px gC (af 3) (af 0)))) [some (tupI xs),some (.int v),some (.lst [.ref a,.ref b]),none] S2=.ok (.lst ((vf A B v).map tupI)) (S2.set a (.P0 (bM A))):=by
  have:=y4 (x1:=λe:Int×List Int=>.int e.1) (x2:=λe=>tupI e.2) (out:=λe=>tupI (e.2++(gF B (v-e.1)).getD [])) (p:=λe=>(gF B (v-e.1)).isSome) (t:=tV (Px (yI false) (Px gC (af 3) (af 0)) (Px gW (af 2) (eC (.int 1))))) (e:=Px aY (af 1) (Px gW (Px gW (af 2) (eC (.int 1))) (Px gC (af 3) (af 0)))) (it:=dY (Px gW (af 2) (eC (.int 0)))) (PB:=[2,1]) (tl:=[some (.lst [.ref a,.ref b]),some (.int v)]) (r:=[some (tupI xs),some (.int v),some (.lst [.ref a,.ref b]),none]) (S:=S2) (S1:=S2.set a (.P0 (bM A))) A ((tD (au (aa rfl) rfl qu.1) dA2).trans (by unfold bM;rw[Za];rfl)) (by omega) rfl
   (λe he=>aV (au (au (aa rfl) (aa rfl) rfl) (au (aa rfl) rfl qu.2) (inF dB2 _)))
   (λe he hp=>by
    cases hg:gF B (v-e.1) with
    |none=>rw[hg]at hp;cases hp
    |some u=>
     have l1:=((aX _ _).mp (hA.least e he).1.1).1;have l2:=((aX _ _).mp (hB.least _ (o6 hg)).1.1).1;refine au (aa rfl) (au (au (aa rfl) rfl qu.2) (au (aa rfl) (aa rfl) rfl) (ixF dB2 hg)) ?_;have l2:u.length=(xs.drop (xs.length/2)).length:=l2
     refine(yS (by rw[Yi,Yi];omega)).trans ?_
     simp[tupI])
  unfold vf;rw[Za];exact this
 refine⟨S2.set a (.P0 (bM A)),(match vf A B v with | []=>none|m::l=>some (jS m l)),?_,(pA.trans pB).set la _,?_⟩
 .exact aL (ρ:=[some (tupI xs),some (.int v),none,none]) rfl ((ao (bq ((aw (ae (aa rfl) (ae (aa rfl) rfl))).trans (jk hr v S)))).trans ((ao (eV (aC hc))).trans ((ao (eV (aC hs))).trans (eV (aD (aR (ae (aa rfl) rfl) (Gy _ _)))))))
 .have hx:xs.take (xs.length/2)++xs.drop (xs.length/2)=xs:=Va _ _;cases hm:vf A B v with
  |nil=>
   have:=Gu hA hB hm;rw[hx]at this;exact this
  |cons m l=>
   have:=Gv hA hB hm;rw[hx]at this;exact this
def Tw(A B:List Int)(v:Int):Nat->Nat->Nat->List (Nat×Nat×Int)
 |0,_,_=>[]
 |n+1,i,j=>if i<A.length/\1<=j then (i,j-1,A.getD i 0+B.getD (j-1) 0)::(if A.getD i 0+B.getD (j-1) 0<v then Tw A B v n (i+1) j else Tw A B v n i (j-1)) else []
def rise(h:A.Pairwise (· <= ·)){j:Nat}(hij:i<=j)(hj:j<A.length):A.getD i 0<=A.getD j 0:=by
 have hi:i<A.length:=by omega
 rw[Zq,Zq,Yk hi,Yk hj];by_cases e:i=j
 .subst e;exact Us _
 .exact List.pairwise_iff_getElem.mp h i j hi hj (by omega)
theorem lz(hA:A.Pairwise (· <= ·))(hB:B.Pairwise (· <= ·)){p q:Nat}(hp:p<A.length)(hq:q<B.length)(hv:v<=A.getD p 0+B.getD q 0)
  (hm:∀x y,x<A.length->y<B.length->v<=A.getD x 0+B.getD y 0->A.getD p 0+B.getD q 0<=A.getD x 0+B.getD y 0):
  ∀(n i j:Nat),(A.length-i)+j<=n->i<=p->q<j->j<=B.length->∃e∈Tw A B v n i j,e.2.2=A.getD p 0+B.getD q 0
 |0,i,j,h,h1,h2,_=>by omega
 |n+1,i,j,h,h1,h2,h3=>by
  unfold Tw
  rw[Y9 ⟨by omega,by omega⟩]
  by_cases hlt:A.getD i 0+B.getD (j-1) 0<v
  .rw[Y9 hlt];by_cases e:i=p
   .subst e
    have:=rise hB (i:=q) (j:=j-1) (by omega) (by omega)
    omega
   .obtain⟨x,hx,e2⟩:=lz hA hB hp hq hv hm n (i+1) j (by omega) (by omega) h2 h3
    exact⟨x,.tail _ hx,e2⟩
  .rw[Yj hlt];by_cases e:j-1=q
   .rw[e]at hlt ⊢;refine⟨_,.head _,?_⟩;have a1:=rise hA h1 hp
    have a2:=hm i q (by omega) hq (by omega)
    show A.getD i 0+B.getD q 0=_;omega
   .obtain⟨x,hx,e2⟩:=lz hA hB hp hq hv hm n i (j-1) (by omega) h1 (by omega) (by omega)
    exact⟨x,.tail _ hx,e2⟩
theorem lD(hA:A.Pairwise (· <= ·))(hB:B.Pairwise (· <= ·)){p q:Nat}(hp:p<A.length)(hq:q<B.length)(hv:A.getD p 0+B.getD q 0<=v)
  (hm:∀x y,x<A.length->y<B.length->A.getD x 0+B.getD y 0<=v->A.getD x 0+B.getD y 0<=A.getD p 0+B.getD q 0):
  ∀(n i j:Nat),(A.length-i)+j<=n->i<=p->q<j->j<=B.length->∃e∈Tw A B v n i j,e.2.2=A.getD p 0+B.getD q 0
 |0,i,j,h,h1,h2,_=>by omega
 |n+1,i,j,h,h1,h2,h3=>by
  unfold Tw
  rw[Y9 ⟨by omega,by omega⟩]
  by_cases hlt:A.getD i 0+B.getD (j-1) 0<v
  .rw[Y9 hlt];by_cases e:i=p
   .subst e;refine⟨_,.head _,?_⟩
    have a1:=rise hB (i:=q) (j:=j-1) (by omega) (by omega)
    have a2:=hm i (j-1) (by omega) (by omega) (by omega)
    show A.getD i 0+B.getD (j-1) 0=_;omega
   .obtain⟨x,hx,e2⟩:=lD hA hB hp hq hv hm n (i+1) j (by omega) (by omega) h2 h3
    exact⟨x,.tail _ hx,e2⟩
  .rw[Yj hlt];by_cases e:j-1=q
   .rw[e]at hlt ⊢;refine⟨_,.head _,?_⟩;have a1:=rise hA h1 hp;show A.getD i 0+B.getD q 0=_;omega
   .obtain⟨x,hx,e2⟩:=lD hA hB hp hq hv hm n i (j-1) (by omega) h1 (by omega) (by omega)
    exact⟨x,.tail _ hx,e2⟩
theorem mr:∀(n i j:Nat),j<=B.length->∀e∈Tw A B v n i j,∃x y,x<A.length/\y<B.length/\e=(x,y,A.getD x 0+B.getD y 0)
 |0,_,_,_,e,he=>by cases he
 |n+1,i,j,hj,e,he=>by
  unfold Tw at he;by_cases h:i<A.length/\1<=j
  .rw[Y9 h]at he;rcases Yb.mp he with rfl|he
   .exact⟨i,j-1,h.1,by omega,rfl⟩
   .by_cases hlt:A.getD i 0+B.getD (j-1) 0<v
    .rw[Y9 hlt]at he;exact mr n (i+1) j hj e he
    .rw[Yj hlt]at he;exact mr n i (j-1) (by omega) e he
  .rw[Yj h]at he;cases he
theorem qw{A B:List Int}{v:Int}:∀(n i j:Nat),(Tw A B v n i j).length<=n
 |0,_,_=>Yh _
 |n+1,i,j=>by
  unfold Tw;split
  .rw[Yn];split
   .have:=qw (A:=A) (B:=B) (v:=v) n (i+1) j;omega
   .have:=qw (A:=A) (B:=B) (v:=v) n i (j-1);omega
  .simp
def vh{x:Int}(h:x∈A):∃p,p<A.length/\A.getD p 0=x:=by
 obtain⟨p,hp,e⟩:=List.mem_iff_getElem.mp h
 exact⟨p,hp,by rw[Zq,Yk hp];exact e⟩
def Vb{p:Nat}(h:p<A.length):A.getD p 0∈A:=by rw[Zq,Yk h];exact List.getElem_mem h
def AH(A B:List Int):List Int:=A.flatMap λx=>B.map λy=>x+y
def iY:s∈AH A B↔∃x∈A,∃y∈B,x+y=s:=by simp[AH]
def Eg{l:List Int}(h:s∈l):∃m∈l,∀x∈l,m<=x:=by
 match l,h with
 |a::r,_=>
  obtain⟨⟨h1,h2⟩,h3⟩:=lV r a;refine⟨cX a r,?_,λx hx=>?_⟩
  .rcases h3 with e|e
   .rw[e];exact .head _
   .exact .tail _ e
  .rcases Yb.mp hx with rfl|hx
   .exact h1
   .exact h2 x hx
def y6(hA:A.Pairwise (· <= ·))(hB:B.Pairwise (· <= ·)){x:Int}(hx:x∈A)(hy:y∈B)(h:v<=x+y):∃e∈Tw A B v (A.length+B.length) 0 B.length,v<=e.2.2/\e.2.2<=x+y:=by
 have hs:x+y∈(AH A B).filter λs=>decide (v<=s):=Z6.mpr ⟨iY.mpr ⟨x,hx,y,hy,rfl⟩,by simpa using h⟩
 obtain⟨m,hm,hle⟩:=Eg hs;obtain⟨hm1,hm2⟩:=Z6.mp hm;obtain⟨a,ha,b,hb,rfl⟩:=iY.mp hm1;obtain⟨p,hp,rfl⟩:=vh ha;obtain⟨q,hq,rfl⟩:=vh hb
 have hv:v<=A.getD p 0+B.getD q 0:=by simpa using hm2
 obtain⟨e,he,ee⟩:=lz hA hB hp hq hv (λi j hi hj hij=>hle _ (Z6.mpr ⟨iY.mpr ⟨_,Vb hi,_,Vb hj,rfl⟩,by simpa using hij⟩)) (A.length+B.length) 0 B.length (by omega) (Zs _) hq (Yh _)
 exact⟨e,he,by rw[ee];exact hv,by rw[ee];exact hle _ hs⟩
def eW(e:Nat×Nat×Int):D:=.tup [.int e.1,.int e.2.1,.int e.2.2]
def y8{a b:TM}(h:a r S=.ok true S1):PD.i5 a b r S=b r S1:=by unfold PD.i5;rw[h,R.Pq];exact Y9 rfl
def y9{a b:TM}(h:a r S=.ok false S1):PD.i5 a b r S=.ok false S1:=by unfold PD.i5;rw[h,R.Pq];exact Yj Ym
abbrev wkT:TM:=(PD.i5 (tV (Px oLt (af 4) (eB cy (ag (Px QV (af 2) (eC (.int 0))) ak)))) (tV (Px Xo (af 5) (eC (.int 0)))))
abbrev wkB:SM:=(aA (aN 6 (Px aY (Px QV (Px QV (af 2) (eC (.int 0))) (af 4)) (Px QV (Px QV (af 2) (eC (.int 1))) (af 5)))) (aA (bN (pL dv (af 3) (ag (gU (ag (af 4) (ag (af 5) (ag (af 6) ak)))) ak))) (QQ (tV (Px oLt (af 6) (af 1))) (aN 4 (Px aY (af 4) (eC (.int 1)))) (aN 5 (Px gC (af 5) (eC (.int 1)))))))
def t5(h:i<A.length):QV S (tupI A) (.int (i:Int))=some (.int (A.getD i 0)):=by
 show Tt (A.map D.int) (i:Int)=_
 rw[Dt (by rw[Yi];exact h),Zq,Yk h];simp
def mw:cy S [tupI A]=some (.int A.length):=by show some (D.int ((A.map D.int).length:Int))=_;rw[Yi]
def Gz(r0 r3 r6:Option D)(i j:Nat)(S:Pz):wkT [r0,some (.int v),some (.tup [tupI A,tupI B]),r3,some (.int i),some (.int ((j:Int)-1)),r6] S=.ok (decide (i<A.length/\1<=j)) S:=by
 have h1:tV (Px oLt (af 4) (eB cy (ag (Px QV (af 2) (eC (.int 0))) ak))) [r0,some (.int v),some (.tup [tupI A,tupI B]),r3,some (.int i),some (.int ((j:Int)-1)),r6] S=.ok (decide ((i:Int)<A.length)) S:=
  aV (au (aa rfl) (aR (ae (au (x:=.tup [tupI A,tupI B]) (aa rfl) rfl rfl) rfl) mw) rfl)
 have h2:tV (Px Xo (af 5) (eC (.int 0))) [r0,some (.int v),some (.tup [tupI A,tupI B]),r3,some (.int i),some (.int ((j:Int)-1)),r6] S=.ok (decide ((j:Int)-1 >= 0)) S:=aV (au (aa rfl) rfl rfl);by_cases g:i<A.length
 .rw[Yr (show(i:Int)<A.length by omega)]at h1
  rw[show wkT=PD.i5 _ _ from rfl,y8 h1,h2]
  congr 1;rw[Qr];omega
 .rw[Yo (show ¬(i:Int)<A.length by omega)]at h1
  rw[show wkT=PD.i5 _ _ from rfl,y9 h1,Yo (by omega)]
def WkC(A B:List Int)(v:Int)(r0:Option D)(m n:Nat):Prop:=∀(i j:Nat)(S:Pz)(w:List D)(r6:Option D),(A.length-i)+j<=n->j<=B.length->S[m]?=some (.lst w)->w.length+n<=1000->
  ∃r4 r5 WR:Option D,cH wkT wkB (n+1) [r0,some (.int v),some (.tup [tupI A,tupI B]),some (.ref m),some (.int i),some (.int ((j:Int)-1)),r6] S=.ok (.nx [r0,some (.int v),some (.tup [tupI A,tupI B]),some (.ref m),r4,r5,WR]) (S.set m (.lst (w++(Tw A B v n i j).map eW)))
def AI(r0:Option D){n:Nat}(ih:∀k,n=k+1->WkC A B v r0 m k):WkC A B v r0 m n:=λi j S w r6 h1 h2 hm hz=>by
  have RZ:m<S.length:=(Yc.mp hm).1
  have same:S.set m (.lst w)=S:=by have e:=(Yc.mp hm).2;rw[<- e];exact Qk RZ
  have ht:=Gz (A:=A) (B:=B) (v:=v) r0 (some (.ref m)) r6 i j S;by_cases g:i<A.length/\1<=j
  .rw[Yr g]at ht
   obtain⟨k,rfl⟩:∃k,n=k+1:=⟨n-1,by omega⟩
   have z3:(3:Nat)<=sizeLine:=by decide
   have z:(1000:Nat)<=sizeLine:=by decide
   have hj:((j:Int)-1)=((j-1:Nat):Int):=by omega
   have hL:ZD S (.ref m)=true:=by simp[ZD,hm]
   -- the body,up to its last choice
   have hb:∀(k1:SM),aA (aN 6 (Px aY (Px QV (Px QV (af 2) (eC (.int 0))) (af 4)) (Px QV (Px QV (af 2) (eC (.int 1))) (af 5)))) (aA (bN (pL dv (af 3) (ag (gU (ag (af 4) (ag (af 5) (ag (af 6) ak)))) ak))) k1) [r0,some (.int v),some (.tup [tupI A,tupI B]),some (.ref m),some (.int i),some (.int ((j-1:Nat):Int)),r6] S
     = k1 [r0,some (.int v),some (.tup [tupI A,tupI B]),some (.ref m),some (.int i),some (.int ((j-1:Nat):Int)),some (.int (A.getD i 0+B.getD (j-1) 0))] (S.set m (.lst (w++[eW (i,j-1,A.getD i 0+B.getD (j-1) 0)]))):=λk1=>by
    refine(ao (aC (au (au (au (x:=.tup [tupI A,tupI B]) (aa rfl) rfl rfl) (aa rfl) (t5 g.1)) (au (au (x:=.tup [tupI A,tupI B]) (aa rfl) rfl rfl) (aa rfl) (t5 (by omega))) rfl))).trans (ao (bq (d:=.non) ((oZ (ys:=[eW (i,j-1,A.getD i 0+B.getD (j-1) 0)]) (aa rfl) hL (ae (hU (xs:=[.int i,.int ((j-1:Nat):Int),.int (A.getD i 0+B.getD (j-1) 0)]) rfl z3) rfl)).trans ?_)))
    unfold dv;simp only[hm]
    rw[Y9 (by omega)]
   unfold cH
   rw[ht,R.Pq,Y9 rfl,hj,show wkB=aA _ (aA _ _) from rfl,hb]
   have hw:Tw A B v (k+1) i j=(i,j-1,A.getD i 0+B.getD (j-1) 0)::(if A.getD i 0+B.getD (j-1) 0<v then Tw A B v k (i+1) j else Tw A B v k i (j-1)):=by rw[Tw,Y9 g]
   rw[hw];have hm':(S.set m (.lst (w++[eW (i,j-1,A.getD i 0+B.getD (j-1) 0)])))[m]?=some (.lst (w++[eW (i,j-1,A.getD i 0+B.getD (j-1) 0)])):=Z7 RZ;by_cases hlt:A.getD i 0+B.getD (j-1) 0<v
   .obtain⟨r4,r5,WR,e⟩:=ih k rfl (i+1) j _ _ (some (.int (A.getD i 0+B.getD (j-1) 0))) (by omega) h2 hm' (by simp;omega)
    refine⟨r4,r5,WR,?_⟩;rw[Y9 hlt,(hJ (aV (au (aa rfl) (aa rfl) (Ql (λb=>some (D.bl b)) (Yr hlt))))).trans (aC (au (aa rfl) rfl rfl)),R.Pq];rw[hj,Wx,Zv]at e;exact e
   .obtain⟨r4,r5,WR,e⟩:=ih k rfl i (j-1) _ _ (some (.int (A.getD i 0+B.getD (j-1) 0))) (by omega) (by omega) hm' (by simp;omega)
    refine⟨r4,r5,WR,?_⟩;rw[Yj hlt,(bz (aV (au (aa rfl) (aa rfl) (Ql (λb=>some (D.bl b)) (Yo hlt))))).trans (aC (au (aa rfl) rfl rfl)),R.Pq];rw[Wx,Zv]at e;exact e
  .rw[Yo g]at ht
   have hw:Tw A B v n i j=[]:=by
    cases n with
    |zero=>rfl
    |succ n=>rw[Tw,Yj g]
   refine⟨some (.int i),some (.int ((j:Int)-1)),r6,?_⟩;unfold cH;rw[ht,R.Pq,Yj Ym,hw,Wb,Qi,same]
theorem AJ(r0:Option D):∀n:Nat,WkC A B v r0 m n
 |0=>AI r0 λ_ e=>Nat.noConfusion e
 |n+1=>AI r0 λk e=>(Nat.succ.inj e)▸AJ r0 n
def AK{a:TM}{b:Bool}(h:a r S=.ok b S1):a r S=.ok b S1:=h
theorem tE:∀T:List (Int×Int),iL (aZ T)=some (T.map (·.1))
 |[]=>rfl
 |e::T=>by show(iL (aZ T)).map (e.1 :: ·)=_;rw[tE T];rfl
def RQ(T:List (Int×Int)):List Int:=gE (T.map (·.1))
def Eh{n:Nat}(h:T5 S n T)(hz:T.length<=60):wJ S [.ref n]=some (.lst ((RQ T).map .int)):=by
 have z:(1000:Nat)<=sizeLine:=by decide
 show(match n8 S (.ref n) with|some ns=>if ns.length<64 then some (D.lst ((gE ns).map .int)) else none|none=>none)=_
 have e:n8 S (.ref n)=some (T.map (·.1)):=by unfold n8;rw[h.seq];simp only[h.PN,tE]
 rw[e];dsimp only
 rw[Y9 (by rw[Yi];omega)]
 rfl
def o7{f:List Int}(h:Rf T f)(w:Int):w∈RQ T↔w∈f:=by unfold RQ;rw[(fi _).mem_iff,Yt,<- h.mem w]
def AN(T:List (Int×Int)):(RQ T).length=T.length:=by unfold RQ;rw[(fi _).length_eq,Yi]
def vk{l:List D}:fh S [.lst l]=some (.tup l):=rfl
def KR(h12:xs.length<=10)(hr:Row xs)(S:Pz):∃(S':Pz)(A B:List (Int×Int)),cZ [tupI xs] S=.ok (.tup [tupI (RQ A),tupI (RQ B)]) S'/\Pre S S'/\Rf A (RG KS (xs.take (xs.length/2)))/\Rf B (RG KS (xs.drop (xs.length/2)))/\A.length<=32/\B.length<=32:=by
 have hk:∀q∈KS,-1<=q/\q<=1:=by decide
 have hl1:(xs.take (xs.length/2)).length<=5:=by rw[W5];omega
 have hl2:(xs.drop (xs.length/2)).length<=5:=by rw[Qn];omega
 have bnd:∀ys:List Int,ys.length<=5->(RG KS ys).length<=32:=λys h=>by
  rw[vg]
  exact Yw (Qc (by decide) h) (by decide)
 obtain⟨S1,a,A,tA,dA,la,hA,pA⟩:=jj (K:=KS) (xs:=xs.take (xs.length/2)) (by decide) hk (by omega) S
 obtain⟨S2,b,B,tB,dB,lb,hB,pB⟩:=jj (K:=KS) (xs:=xs.drop (xs.length/2)) (by decide) hk (by omega) S1
 have lA:A.length<=32:=Yw hA.len (bnd _ hl1);have lB:B.length<=32:=Yw hB.len (bnd _ hl2);refine⟨S2,A,B,?_,pA.trans pB,hA,hB,lA,lB⟩
 have hc:br (bJ (az bC (ag (af 0) ak)) bH) 1 [] (.nm 0) bY (eB fh (ag (eB wJ (ag (az cW (ag (af 0) (ag (eC (.tup (([(-1),(1)]:List Int).map .int))) ak))) ak)) ak)) [some (tupI xs)] S=.ok (.lst [tupI (RQ A),tupI (RQ B)]) S2:=
  Ed (S1:=S) (by unfold bJ;rw[(aw (ae (aa rfl) rfl)).trans (show bC [tupI xs] S=_ from nj xs S),R.Pq];rfl)
   (aR (ae (aR (ae ((aw (ae (aa rfl) (ae rfl rfl))).trans tA) rfl) (Eh (.inl dA) (by omega))) rfl) vk)
   (aR (ae (aR (ae ((aw (ae (aa rfl) (ae rfl rfl))).trans tB) rfl) (Eh (.inl dB) (by omega))) rfl) vk)
 exact aL (ρ:=[some (tupI xs)]) rfl ((ao (bq ((aw (ae (aa rfl) rfl)).trans (fU hr S)))).trans (eV (aD (aR (ae hc rfl) vk))))
abbrev Sq(A B:List (Int×Int))(v:Int):List (Nat×Nat×Int):=Tw (RQ A) (RQ B) v ((RQ A).length+(RQ B).length) 0 (RQ B).length
def AO(h12:xs.length<=10)(hr:Row xs)(v:Int)(S:Pz):∃(S':Pz)(m:Nat)(A B:List (Int×Int)),eO [tupI xs,.int v] S=.ok (.ref m) S'/\S'[m]?=some (.lst ((Sq A B v).map eW))/\Pre S S'/\Rf A (RG KS (xs.take (xs.length/2)))/\Rf B (RG KS (xs.drop (xs.length/2)))/\(Sq A B v).length<=128/\S.length<=m:=by
 obtain⟨S1,A,B,e1,p1,hA,hB,lA,lB⟩:=KR h12 hr S
 have hlen:(RQ A).length+(RQ B).length<=128:=by rw[AN,AN];omega
 obtain⟨r4,r5,r6,e2⟩:=AJ (A:=RQ A) (B:=RQ B) (v:=v) (some (tupI xs)) (m:=S1.length) ((RQ A).length+(RQ B).length) 0 (RQ B).length (S1++[.lst []]) [] none (by omega) (Yh _) (by simp) (by simp;omega)
 have aaP:(S1++[SO.lst []]).set S1.length (.lst ([]++(Sq A B v).map eW))=S1++[.lst ((Sq A B v).map eW)]:=by simp
 refine⟨S1++[.lst ((Sq A B v).map eW)],S1.length,A,B,?_,by simp,p1.trans (Pre.app _ _),hA,hB,Yw (qw _ _ _) hlen,p1.len⟩
 have e3:YC wkT wkB [some (tupI xs),some (.int v),some (.tup [tupI (RQ A),tupI (RQ B)]),some (.ref S1.length),some (.int ((0:Nat):Int)),some (.int (((RQ B).length:Int)-1)),none] (S1++[.lst []])=.ok (.nx [some (tupI xs),some (.int v),some (.tup [tupI (RQ A),tupI (RQ B)]),some (.ref S1.length),r4,r5,r6]) (S1++[.lst ((Sq A B v).map eW)]):=by rw[Du _ (by rw[e2];exact λz=>by cases z),e2,aaP]
 refine aL (ρ:=[some (tupI xs),some (.int v),none,none,none,none,none]) rfl ?_;refine(ao (aC ((aw (ae (aa rfl) rfl)).trans e1))).trans ?_;refine(ao (S1:=S1++[.lst []]) (eV (aC rfl))).trans ?_;refine(ao (eV (aC rfl))).trans ?_;refine(ao (eV (aC (au (aR (ae (au (x:=.tup [tupI (RQ A),tupI (RQ B)]) (aa rfl) rfl rfl) rfl) mw) rfl rfl)))).trans ?_;exact(ao (eV e3)).trans (eV (aD (aa rfl)))
def Ei{m:EM}{n:Nat}{xs:List D}(h:m r S=.ok (.ref n) S1)(hn:S1[n]?=some (.lst xs)):yN m r S=.ok xs (S1.set n (.RP xs)):=by unfold yN;rw[h,R.Pq];simp only[hn]
theorem tF{A:Type}{x1 x2 x3:A->D}{out:A->D}{p:A->Bool}{t:TM}{e:EM}:∀(xs:List A)(r0 r1 r2:Option D),(∀x∈xs,t (some (x1 x)::some (x2 x)::some (x3 x)::tl) S=.ok (p x) S)->(∀x∈xs,p x=true->e (some (x1 x)::some (x2 x)::some (x3 x)::tl) S=.ok (out x) S)->cI (.tp [.nm 0,.nm 1,.nm 2]) t e (xs.map λx=>.tup [x1 x,x2 x,x3 x]) (r0::r1::r2::tl) S=.ok ((xs.filter p).map out) S
 |[],_,_,_,_,_=>rfl
 |x::xs,r0,r1,r2,ht,h=>by
  have h0:=ht x Z4;have h2:=tF (out:=out) xs (some (x1 x)) (some (x2 x)) (some (x3 x)) (λy hy=>ht y (Z0 _ hy)) λy hy=>h y (Z0 _ hy);rw[Y8,cI];cases hp:p x with
  |true=>
   have h1:=h x Z4 hp;rw[hp]at h0;simp only[G.put,G.Ru,Zd,Zo,R.Pq,Zi,h0,h1,h2,Y8,Vh,hp]
  |false=>
   rw[hp]at h0;simp only[G.put,G.Ru,Zd,Zo,R.Pq,h0,h2,Vh,hp,Ze,Qm]
def qA{A:Type}{x1 x2 x3:A->D}{out:A->D}{p:A->Bool}{t:TM}{e:EM}(xs:List A)(hi:it r S=.ok (xs.map λx=>.tup [x1 x,x2 x,x3 x]) S1)(hl:xs.length<=sizeLine)(hc:PB.map (λi=>(r[i]?).join)=tl)(ht:∀x∈xs,t (some (x1 x)::some (x2 x)::some (x3 x)::tl) S1=.ok (p x) S1)(h:∀x∈xs,p x=true->e (some (x1 x)::some (x2 x)::some (x3 x)::tl) S1=.ok (out x) S1):br it 3 PB (.tp [.nm 0,.nm 1,.nm 2]) t e r S=.ok (.lst ((xs.filter p).map out)) S1:=by
 unfold br
 rw[hi,R.Pq,Y9 (by rw[Yi];exact hl)]
 have:eZ 3 PB r=none::none::none::tl:=by unfold eZ;rw[hc];rfl
 rw[this,tF (out:=out) xs none none none ht h,R.Pq]
def Th:Option Int->D
 |none=>.non
 |some i=>.int i
def GA:List Int->Option Int
 |[]=>none
 |n::ns=>some (cX n ns)
theorem KU(S:Pz):∀l:List Int,nY S [.lst (l.map .int)]=some (Th (GA l))
 |[]=>rfl
 |n::ns=>by have e:=fT (n::ns);rw[Y8]at e ⊢;unfold nY;have ht:ip (D.int n::ns.map D.int)=none:=rfl;simp only[nX,ht,e];rfl
theorem GB:∀{l:List Int}{u:Int},GA l=some u->u∈l/\∀x∈l,u<=x
 |n::ns,u,h=>by
  cases h;obtain⟨⟨h1,h2⟩,h3⟩:=lV ns n;refine⟨?_,λx hx=>?_⟩
  .rcases h3 with e|e
   .rw[e];exact .head _
   .exact .tail _ e
  .rcases Yb.mp hx with rfl|hx
   .exact h1
   .exact h2 x hx
def Xj(xs:List Int)(v:Int):Option Int->Prop
 |none=>∀u,Wo KS xs u->u<v
 |some u=>Wo KS xs u/\v<=u/\∀z,Wo KS xs z->v<=z->u<=z
def kA{A B:List (Int×Int)}(hA:Rf A (RG KS (xs.take (xs.length/2))))(hB:Rf B (RG KS (xs.drop (xs.length/2))))(u:Int):Wo KS xs u↔∃x∈RQ A,∃y∈RQ B,x+y=u:=by
 have:=D9 (K:=KS) (xs:=xs.take (xs.length/2)) (ys:=xs.drop (xs.length/2)) (v:=u);rw[Va]at this;rw[<- this];constructor
 .rintro⟨x,hx,y,hy,e⟩;exact⟨x,(o7 hA x).mpr hx,y,(o7 hB y).mpr hy,e⟩
 .rintro⟨x,hx,y,hy,e⟩;exact⟨x,(o7 hA x).mp hx,y,(o7 hB y).mp hy,e⟩
def Ej(h12:xs.length<=10)(hr:Row xs)(v:Int)(S:Pz):∃(S':Pz)(o:Option Int),ME [tupI xs,.int v] S=.ok (Th o) S'/\Pre S S'/\Xj xs v o:=by
 obtain⟨S1,m,A,B,e1,hm,p1,hA,hB,hlen,RZ⟩:=AO h12 hr v S
 have z:(1000:Nat)<=sizeLine:=by decide
 have hc:br (yN (az eO (ag (af 0) (ag (af 1) ak)))) 3 [1] (.tp [(.nm 0),(.nm 1),(.nm 2)]) (tV (Px Xo (af 2) (af 3))) (af 2) [some (tupI xs),some (.int v)] S=.ok (.lst (((Sq A B v).filter λe=>decide (v<=e.2.2)).map λe=>D.int e.2.2)) (S1.set m (.RP ((Sq A B v).map eW))):=
  qA (x1:=λe:Nat×Nat×Int=>.int e.1) (x2:=λe=>.int e.2.1) (x3:=λe=>.int e.2.2) (tl:=[some (.int v)]) (Sq A B v) (Ei ((aw (ae (aa rfl) (ae (aa rfl) rfl))).trans e1) hm) (by omega) rfl
   (λe he=>AK (aV (au (aa rfl) (aa rfl) rfl))) λe he _=>aa rfl
 have hl:((Sq A B v).filter λe=>decide (v<=e.2.2)).map (λe=>D.int e.2.2)=(((Sq A B v).filter λe=>decide (v<=e.2.2)).map λe=>e.2.2).map D.int:=by rw[Za];rfl
 rw[hl]at hc;refine⟨S1.set m (.RP ((Sq A B v).map eW)),GA (((Sq A B v).filter λe=>decide (v<=e.2.2)).map λe=>e.2.2),?_,p1.set RZ _,?_⟩
 .exact aL (ρ:=[some (tupI xs),some (.int v)]) rfl ((ao (bq ((aw (ae (aa rfl) (ae (aa rfl) rfl))).trans (jk hr v S)))).trans (aD (aR (ae hc rfl) (KU _ _))))
 .have hit:∀u,Wo KS xs u->v<=u->∃w∈((Sq A B v).filter λe=>decide (v<=e.2.2)).map λe=>e.2.2,w<=u:=λu hu hv=>by
   obtain⟨x,hx,y,hy,rfl⟩:=(kA hA hB u).mp hu;obtain⟨e,he,h1,h2⟩:=y6 (dw _) (dw _) hx hy hv
   exact⟨e.2.2,Yt.mpr ⟨e,Z6.mpr ⟨he,by simpa using h1⟩,rfl⟩,h2⟩
  cases ho:GA (((Sq A B v).filter λe=>decide (v<=e.2.2)).map λe=>e.2.2) with
  |none=>
   intro u hu;rcases Int.lt_or_le u v with h|h
   .exact h
   .obtain⟨w,hw,_⟩:=hit u hu h
    match hl:((Sq A B v).filter λe=>decide (v<=e.2.2)).map λe=>e.2.2 with
    |[]=>rw[hl]at hw;cases hw
    |n::ns=>rw[hl]at ho;cases ho
  |some u=>
   obtain⟨h1,h2⟩:=GB ho;obtain⟨e,he,rfl⟩:=Yt.mp h1;obtain⟨he,hv⟩:=Z6.mp he;obtain⟨x,y,hx,hy,rfl⟩:=mr _ _ _ (Yh _) e he
   refine⟨(kA hA hB _).mpr ⟨_,Vb hx,_,Vb hy,rfl⟩,by simpa using hv,λz hz hvz=>?_⟩
   obtain⟨w,hw,hwz⟩:=hit z hz hvz;exact Int.le_trans (h2 w hw) hwz
def Ek{l:List Int}(h:s∈l):∃m∈l,∀x∈l,x<=m:=by
 match l,h with
 |a::r,_=>
  obtain⟨⟨h1,h2⟩,h3⟩:=uP r a;refine⟨gX a r,?_,λx hx=>?_⟩
  .rcases h3 with e|e
   .rw[e];exact .head _
   .exact .tail _ e
  .rcases Yb.mp hx with rfl|hx
   .exact h1
   .exact h2 x hx
def zc(hA:A.Pairwise (· <= ·))(hB:B.Pairwise (· <= ·)){x:Int}(hx:x∈A)(hy:y∈B)(h:x+y<=v):∃e∈Tw A B v (A.length+B.length) 0 B.length,e.2.2<=v/\x+y<=e.2.2:=by
 have hs:x+y∈(AH A B).filter λs=>decide (s<=v):=Z6.mpr ⟨iY.mpr ⟨x,hx,y,hy,rfl⟩,by simpa using h⟩
 obtain⟨m,hm,hle⟩:=Ek hs;obtain⟨hm1,hm2⟩:=Z6.mp hm;obtain⟨a,ha,b,hb,rfl⟩:=iY.mp hm1;obtain⟨p,hp,rfl⟩:=vh ha;obtain⟨q,hq,rfl⟩:=vh hb
 have hv:A.getD p 0+B.getD q 0<=v:=by simpa using hm2
 obtain⟨e,he,ee⟩:=lD hA hB hp hq hv (λi j hi hj hij=>hle _ (Z6.mpr ⟨iY.mpr ⟨_,Vb hi,_,Vb hj,rfl⟩,by simpa using hij⟩)) (A.length+B.length) 0 B.length (by omega) (Zs _) hq (Yh _)
 exact⟨e,he,by rw[ee];exact hv,by rw[ee];exact hle _ hs⟩
def GC:List Int->Option Int
 |[]=>none
 |n::ns=>some (gX n ns)
theorem KW(S:Pz):∀l:List Int,wM S [.lst (l.map .int)]=some (Th (GC l))
 |[]=>rfl
 |n::ns=>by have e:=fT (n::ns);rw[Y8]at e ⊢;unfold wM;simp only[nX,e];rfl
theorem GD:∀{l:List Int}{u:Int},GC l=some u->u∈l/\∀x∈l,x<=u
 |n::ns,u,h=>by
  cases h;obtain⟨⟨h1,h2⟩,h3⟩:=uP ns n;refine⟨?_,λx hx=>?_⟩
  .rcases h3 with e|e
   .rw[e];exact .head _
   .exact .tail _ e
  .rcases Yb.mp hx with rfl|hx
   .exact h1
   .exact h2 x hx
def ZS(xs:List Int)(v:Int):Option Int->Prop
 |none=>∀u,Wo KS xs u->v<u
 |some u=>Wo KS xs u/\u<=v/\∀z,Wo KS xs z->z<=v->z<=u
def El(h12:xs.length<=10)(hr:Row xs)(v:Int)(S:Pz):∃(S':Pz)(o:Option Int),MS [tupI xs,.int v] S=.ok (Th o) S'/\Pre S S'/\ZS xs v o:=by
 obtain⟨S1,m,A,B,e1,hm,p1,hA,hB,hlen,RZ⟩:=AO h12 hr v S
 have z:(1000:Nat)<=sizeLine:=by decide
 have hc:br (yN (az eO (ag (af 0) (ag (af 1) ak)))) 3 [1] (.tp [(.nm 0),(.nm 1),(.nm 2)]) (tV (Px oLe (af 2) (af 3))) (af 2) [some (tupI xs),some (.int v)] S=.ok (.lst (((Sq A B v).filter λe=>decide (e.2.2<=v)).map λe=>D.int e.2.2)) (S1.set m (.RP ((Sq A B v).map eW))):=
  qA (x1:=λe:Nat×Nat×Int=>.int e.1) (x2:=λe=>.int e.2.1) (x3:=λe=>.int e.2.2) (tl:=[some (.int v)]) (Sq A B v) (Ei ((aw (ae (aa rfl) (ae (aa rfl) rfl))).trans e1) hm) (by omega) rfl
   (λe he=>AK (aV (au (aa rfl) (aa rfl) rfl))) λe he _=>aa rfl
 have hl:((Sq A B v).filter λe=>decide (e.2.2<=v)).map (λe=>D.int e.2.2)=(((Sq A B v).filter λe=>decide (e.2.2<=v)).map λe=>e.2.2).map D.int:=by rw[Za];rfl
 rw[hl]at hc;refine⟨S1.set m (.RP ((Sq A B v).map eW)),GC (((Sq A B v).filter λe=>decide (e.2.2<=v)).map λe=>e.2.2),?_,p1.set RZ _,?_⟩
 .exact aL (ρ:=[some (tupI xs),some (.int v)]) rfl ((ao (bq ((aw (ae (aa rfl) (ae (aa rfl) rfl))).trans (jk hr v S)))).trans (aD (aR (ae hc rfl) (KW _ _))))
 .have hit:∀u,Wo KS xs u->u<=v->∃w∈((Sq A B v).filter λe=>decide (e.2.2<=v)).map λe=>e.2.2,u<=w:=λu hu hv=>by
   obtain⟨x,hx,y,hy,rfl⟩:=(kA hA hB u).mp hu;obtain⟨e,he,h1,h2⟩:=zc (dw _) (dw _) hx hy hv
   exact⟨e.2.2,Yt.mpr ⟨e,Z6.mpr ⟨he,by simpa using h1⟩,rfl⟩,h2⟩
  cases ho:GC (((Sq A B v).filter λe=>decide (e.2.2<=v)).map λe=>e.2.2) with
  |none=>
   intro u hu;rcases Int.lt_or_le v u with h|h
   .exact h
   .obtain⟨w,hw,_⟩:=hit u hu h
    match hl:((Sq A B v).filter λe=>decide (e.2.2<=v)).map λe=>e.2.2 with
    |[]=>rw[hl]at hw;cases hw
    |n::ns=>rw[hl]at ho;cases ho
  |some u=>
   obtain⟨h1,h2⟩:=GD ho;obtain⟨e,he,rfl⟩:=Yt.mp h1;obtain⟨he,hv⟩:=Z6.mp he;obtain⟨x,y,hx,hy,rfl⟩:=mr _ _ _ (Yh _) e he
   refine⟨(kA hA hB _).mpr ⟨_,Vb hx,_,Vb hy,rfl⟩,by simpa using hv,λz hz hvz=>?_⟩
   obtain⟨w,hw,hwz⟩:=hit z hz hvz;exact Int.le_trans hwz (h2 w hw)
def okN(x:Int):Prop:=1<=x/\x<1000000000000000
def nk{f:Nat}{xs:List D}{v:D}(h:S[f]?=some (.lst xs))(hl:xs.length<sizeLine):dv S (.ref f) [v]=.ok .non (S.set f (.lst (xs++[v]))):=by unfold dv;simp only[h,Y9 hl]
def vm{f:Nat}{xs:List D}(h:S[f]?=some (.lst xs)):ZD S (.ref f)=true:=by unfold ZD;simp only[h]
def T6(xs:List Int)(v:Int):Int:=((RG KS (xs.take (xs.length/2))).map λx=>(((RG KS (xs.drop (xs.length/2))).filter λy=>decide (y=v-x)).length:Int)).sum
def Jn(h10:xs.length<=10)(hr:Row xs)(v:Int)(S:Pz):∃S',L9 [tupI xs,.int v] S=.ok (.int (T6 xs v)) S'/\Pre S S':=by
 obtain⟨S',A,B,e,p,hA,hB⟩:=Gx h10 hr v S
 have q:QZ (λx=>gT B (v-x)) A=T6 xs v:=by rw[hA.sum];unfold T6;congr 1;exact Q3 λx _=>hB.get _
 rw[q]at e;exact⟨S',e,p⟩
structure Sim(d:D)(p:PyData):Prop where
 py:toPy d=some p
 lay:p.canLay0=true
 dep:p.depth<=3
theorem Em:∀{ds:List D}{f:D->PyData},(∀d∈ds,Sim d (f d))->jQ ds=some (ds.map f)/\PyData.canLayAll0 (ds.map f)=true/\PyData.depthAll (ds.map f)<=3
 |[],f,_=>⟨rfl,rfl,by show 0<=3;omega⟩
 |d::ds,f,h=>by
  have h1:=h d Z4;obtain⟨a,b,c⟩:=Em (ds:=ds) (f:=f) λx hx=>h x (Z0 _ hx)
  refine⟨by unfold jQ;rw[h1.py,a];rfl,by unfold List.map PyData.canLayAll0;rw[h1.lay,b];rfl,?_⟩
  have:=h1.dep;unfold List.map PyData.depthAll;omega
def kB{p:PyData}(h:p.canLay0=true)(hd:p.depth<=64):SeqAt.shaped p=true:=by unfold SeqAt.shaped;rw[h,Yr hd];rfl
def GF{xs ys:List D}{f:D->PyData}(hx:∀d∈xs,Sim d (f d))(hy:∀d∈ys,Sim d (f d)):eqP (.lst xs) (.lst ys)=some (PyData.eqvAll (xs.map f) (ys.map f)):=by
 obtain⟨a,b,c⟩:=Em hx;obtain⟨a',b',c'⟩:=Em hy
 have e1:toPy (.lst xs)=some (.list (xs.map f)):=by unfold toPy;rw[a];rfl
 have e2:toPy (.lst ys)=some (.list (ys.map f)):=by unfold toPy;rw[a'];rfl
 have s1:SeqAt.shaped (.list (xs.map f))=true:=kB (by unfold PyData.canLay0;exact b) (by unfold PyData.depth;omega)
 have s2:SeqAt.shaped (.list (ys.map f))=true:=kB (by unfold PyData.canLay0;exact b') (by unfold PyData.depth;omega)
 unfold eqP;have e0:Xg (.lst xs) (.lst ys)=none:=rfl;rw[e0,e1,e2];simp only[s1,s2,and_self,Zi];rw[PyData.eqv]
def GG{xs ys:List D}{f:D->PyData}(hx:∀d∈xs,Sim d (f d))(hy:∀d∈ys,Sim d (f d)):eqP (.tup xs) (.tup ys)=some (PyData.eqvAll (xs.map f) (ys.map f)):=by
 obtain⟨a,b,c⟩:=Em hx;obtain⟨a',b',c'⟩:=Em hy
 have e1:toPy (.tup xs)=some (.tuple (xs.map f)):=by unfold toPy;rw[a];rfl
 have e2:toPy (.tup ys)=some (.tuple (ys.map f)):=by unfold toPy;rw[a'];rfl
 have s1:SeqAt.shaped (.tuple (xs.map f))=true:=kB (by unfold PyData.canLay0;exact b) (by unfold PyData.depth;omega)
 have s2:SeqAt.shaped (.tuple (ys.map f))=true:=kB (by unfold PyData.canLay0;exact b') (by unfold PyData.depth;omega)
 unfold eqP;have e0:Xg (.tup xs) (.tup ys)=none:=rfl;rw[e0,e1,e2];simp only[s1,s2,and_self,Zi];rw[PyData.eqv]
def pyI:D->PyData
 |.int i=>.int i
 |.tup [.int i,.int j]=>.tuple [.int i,.int j]
 |_=>.none
def KY(i:Int):pyI (.int i)=PyData.int i:=rfl
def GH(i:Int):Sim (.int i) (pyI (.int i)):=⟨rfl,rfl,by show 0<=3;omega⟩
def xx{is:List Int}:∀d∈is.map D.int,Sim d (pyI d):=λd hd=>by obtain⟨i,_,rfl⟩:=Yt.mp hd;exact GH i
theorem xy:∀(xs ys:List Int),PyData.eqvAll ((xs.map D.int).map pyI) ((ys.map D.int).map pyI)=decide (xs=ys)
 |[],[]=>by simp[PyData.eqvAll]
 |[],y::ys=>by simp[PyData.eqvAll]
 |x::xs,[]=>by simp[PyData.eqvAll]
 |x::xs,y::ys=>by simp only[Y8,PyData.eqvAll,xy xs ys,KY,PyData.eqv];rw[Qy];simp
def nq(xs ys:List Int):eqP (.tup (xs.map .int)) (.tup (ys.map .int))=some (decide (xs=ys)):=by rw[GG xx xx,xy]
def bh{n:Nat}{c:Str}{fs:List (Str×D)}(h:S[n]?=some (.ins c fs)):iM c S (.ref n)=some (n,fs):=by unfold iM;simp only[h,Zi]
def iB{c f:Str}{x d:D}{n:Nat}{fs:List (Str×D)}(h:a r S=.ok x S1)(hi:iM c S1 x=some (n,fs))(hl:fs.lookup f=some d):jD c f a r S=.ok d S1:=by unfold jD;rw[h,R.Pq];simp only[hi,hl];rfl
def o8{c f:Str}{v:EM}{x y:D}{n:Nat}{fs:List (Str×D)}(hv:v r S=.ok y S1)(ho:o r S1=.ok x S2)(hi:iM c S2 x=some (n,fs))(hl:fs.length<1000):lY c f o v r S=.ok (.nx r) (S2.set n (.ins c (kQ f y fs))):=by unfold lY;rw[hv,R.Pq,ho,R.Pq];simp only[hi,Y9 hl]
def gk{c m:Str}{F:FM}{x:D}{ds:List D}{n:Nat}{fs:List (Str×D)}(h:o r S=.ok x S1)(hi:iM c S1 x=some (n,fs))(hl:fs.lookup m=none)(ht:t r S1=.ok ds S2):dy c m F o t r S=F (x::ds) S2:=by unfold dy;rw[h,R.Pq];simp only[hi,hl,ht,R.Pq,Zi]
def vn{c:Str}{F:FM}(h:F [.ref S.length] (S++[.ins c []])=.ok .non S1):rp c F r S=.ok (.ref S.length) S1:=by unfold rp;rw[h,R.Pq]
abbrev tI(xs:List Int):D:=.tup (xs.map .int)
abbrev kF(a b:D):List (Str×D):=[("numbers",a),("earlier",b)]
def Cb(a b:D):(kF a b).lookup ("numbers":Str)=some a:=by kernel_rfl
def LO(a b:D):(kF a b).lookup ("earlier":Str)=some b:=by kernel_rfl
def KZ(a b:D):(kF a b).lookup ("change":Str)=none:=by kernel_rfl
def LP(a b:D):(kF a b).lookup ("put":Str)=none:=by kernel_rfl
def LQ(a b:D):(kF a b).lookup ("row":Str)=none:=by kernel_rfl
def LR(a b v:D):kQ "numbers" v (kF a b)=kF v b:=by kernel_rfl
def LS(v:D):kQ "numbers" v []=([("numbers",v)]:List (Str×D)):=by kernel_rfl
def LU(a v:D):kQ "earlier" v [("numbers",a)]=kF a v:=by kernel_rfl
def bQ{A:Type}{l:List A}{x:A}(h:l[i]?=some x):i<l.length:=(Yc.mp h).1
def GI(S:Pz):cD [.ref S.length] (S++[.ins "Keeper" []])=.ok .non (S++[.ins "Keeper" (kF (tI []) (.ref (S.length+1))),.lst []]):=by
 have z0:(0:Nat)<=sizeLine:=Zs _
 have h1:lY "Keeper" "numbers" (af 0) (gU ak) [some (.ref S.length)] (S++[.ins "Keeper" []])=.ok (.nx [some (.ref S.length)]) (S++[.ins "Keeper" [("numbers",tI [])]]):=by
  refine(o8 (hU (xs:=[]) rfl z0) (aa rfl) (bh (n:=S.length) (fs:=[]) (by simp)) (by decide)).trans ?_
  rw[LS];simp
 have hN:eNew ak [some (.ref S.length)] (S++[.ins "Keeper" [("numbers",tI [])]])=.ok (.ref (S.length+1)) (S++[.ins "Keeper" [("numbers",tI [])]]++[.lst []]):=by
  unfold eNew
  show(if 0<=sizeLine then R.ok (D.ref (S++[SO.ins "Keeper" [("numbers",tI [])]]).length) _ else R.bad)=_
  rw[Y9 z0,Yp];rfl
 have h2:lY "Keeper" "earlier" (af 0) (eNew ak) [some (.ref S.length)] (S++[.ins "Keeper" [("numbers",tI [])]])=.ok (.nx [some (.ref S.length)]) (S++[.ins "Keeper" (kF (tI []) (.ref (S.length+1))),.lst []]):=by
  refine(o8 hN (aa rfl) (bh (n:=S.length) (fs:=[("numbers",tI [])]) (by simp)) (by decide)).trans ?_
  rw[LU];simp
 exact gQ (ρ:=[some (.ref S.length)]) rfl ((ao h1).trans h2)
def En(xs:List Int):cy S [tI xs]=some (.int xs.length):=by show some (D.int ((xs.map D.int).length:Int))=_;rw[Yi]
def Jo(a:D):([("keeper",a)]:List (Str×D)).lookup ("keeper":Str)=some a:=by kernel_rfl
def zd(a:D):([("keeper",a)]:List (Str×D)).lookup ("say":Str)=none:=by kernel_rfl
def LV(v:D):kQ "keeper" v []=([("keeper",v)]:List (Str×D)):=by kernel_rfl
def vo(S:Pz):bF [.ref S.length] (S++[.ins "Desk" []])=.ok .non (S++[.ins "Desk" [("keeper",.ref (S.length+1))],.ins "Keeper" (kF (tI []) (.ref (S.length+2))),.lst []]):=by
 have e:=GI (S++[.ins "Desk" []])
 rw[Yp,W7]at e
 have h:=vn (c:="Keeper") (r:=[some (.ref S.length)]) (S:=S++[.ins "Desk" []]) (by rw[Yp,W7];exact e)
 rw[Yp,W7]at h
 have h2:=o8 (c:="Desk") (f:="keeper") (o:=af 0) h (aa rfl) (bh (n:=S.length) (fs:=[]) (by simp)) (by decide)
 rw[LV]at h2;refine gQ (ρ:=[some (.ref S.length)]) (ρ':=[some (.ref S.length)]) rfl (h2.trans ?_);simp
def lE{r:List Nat}(h:x.cps.toList=c::r):Txt.startswith x ⟨#[m]⟩=decide (c=m):=by
 obtain⟨⟨l⟩⟩:=x;obtain rfl:l=c::r:=h;unfold Txt.startswith Builtin.Str.subAt
 have e:(⟨⟨c::r⟩⟩:Str).cps.extract 0 (0+(⟨#[m]⟩:Str).length) = #[c]:=by show(⟨c::r⟩:Array Nat).extract 0 1 = #[c];apply Array.ext';simp
 rw[e]
 have e2:decide (0+(⟨#[m]⟩:Str).length<=(⟨⟨c::r⟩⟩:Str).length)=true:=by rw[Q4];show 1<=(c::r).length;simp
 rw[e2,Vj];rw[Qy];simp
def ba(x:Str):x.length=x.cps.toList.length:=by simp[Str.length]
def jm{y:Str}:di S (.str x) [.str y]=.ok (.bl (Txt.startswith x y)) S:=rfl
def xA:("-":Str)=⟨#[45]⟩:=by decide
def nr:("0":Str)=⟨#[48]⟩:=by decide
def Eo{n:Nat}(h0:1<=n)(h:n<1000000000000000000000000000000)(S:Pz):bP [.str (nm n)] S=.ok (.bl true) S:=by
 have z:(100:Nat)<=sizeLine:=by decide
 have hl:(nm n).length<=30:=eT (k:=29) (by omega)
 have h1:=u3 n;obtain⟨c,r,e,c1,c2⟩:=o5 h0
 have s1:tV (fk di (af 0) (ag (eC (.str "-")) ak)) [some (.str (nm n)),none] S=.ok false S:=by
  refine aV ((dD (aa rfl) (ae rfl rfl)).trans (jm.trans ?_))
  rw[xA,lE e,Yo (by omega)]
 have s2:tV (fk di (af 1) (ag (eC (.str "0")) ak)) [some (.str (nm n)),some (.str (nm n))] S=.ok false S:=by
  refine aV ((dD (aa rfl) (ae rfl rfl)).trans (jm.trans ?_))
  rw[nr,lE e,Yo (by omega)]
 have s3:ig oLe oLe (eC (.int 1)) (eB cy (ag (af 1) ak)) (eC (.int (30))) [some (.str (nm n)),some (.str (nm n))] S=.ok (.bl true) S:=by
  have e1:eB cy (ag (af 1) ak) [some (.str (nm n)),some (.str (nm n))] S=.ok (.int ((nm n).length:Int)) S:=aR (ae (aa rfl) rfl) (qo (by omega))
  have e2:oLe S (.int 1) (.int ((nm n).length:Int))=some (.bl true):=by show some (D.bl (decide ((1:Int)<=_)))=_;rw[Yr (by omega)]
  have e3:oLe S (.int ((nm n).length:Int)) (.int 30)=some (.bl true):=by show some (D.bl (decide (_<=(30:Int))))=_;rw[Yr (by omega)]
  unfold ig;show(R.ok (D.int 1) S).bind _=_;rw[R.Pq,e1,R.Pq];simp only[e2];show(R.ok (D.int 30) S).bind _=_;rw[R.Pq,e3];rfl
 have s4:=ez (enc:=λc:Nat=>D.str ⟨#[c]⟩) (out:=λ_=>D.bl true) (e:=Px (uV false) (af 0) (eC (.str "0123456789"))) (it:=bJ (af 1) sG) (PB:=[]) (tl:=[]) (r:=[some (.str (nm n)),some (.str (nm n))]) (S:=S) (nm n).cps.toList (by
   unfold bJ
   rw[aa (d:=.str (nm n)) rfl,R.Pq];rfl) (by rw[<- ba];omega) rfl (λc hc=>au (aa rfl) rfl (DW (fF n c hc) S))
 refine aL (ρ:=[some (.str (nm n)),none]) rfl ((ao (aC ((mf s1).trans (aa rfl)))).trans ((ao ((bz s2).trans rfl)).trans (aD ((kg s3).trans (aR (ae s4 rfl) ?_)))));rw[iW (f:=λ_=>true)];congr 2;rw[Zj];intros;rfl
def qB{n:Nat}(h:n<1000000000000000000000000000000)(S:Pz):ei S [.str (nm n)]=some (.int (n:Int)):=by
 have hl:(nm n).length<=30:=eT (k:=29) (by omega)
 have h1:=u3 n
 refine kr (by omega) ?_
 rw[Uq (fF n) (by intro z;rw[ba,z]at h1;cases h1) (by omega),yT]
def Ep(n:Nat):("put ":Str)++nm n=Txt.join (" ":Str) ["put",nm n]:=by
 refine fL ?_;rw[mi,eU]
 have e:("put ":Str).cps.toList=[112,117,116,32]:=by decide
 have e2:("put":Str).cps.toList=[112,117,116]:=by decide
 show(("put ":Str).cps++(nm n).cps).toList=_
 rw[Vl,e];simp only[Y8,Wb,jl,e2];rfl
def xB{T:XX}{mb:EM}{ms:AM}{key:Str}{xs:List D}(h1:mb r S=.ok (.str key) S1)(hd:KTD.datumAt key T=some (some nf))(h2:ms r S1=.ok xs S2):wW T mb ms r S=nf.2 xs S2:=by unfold wW;rw[h1,R.Pq];simp only[hd,h2,R.Pq]
structure ZV(row:List Int):Prop where
 bd:∀x∈row,1<=x/\x<1000000000000000000000000000000
 len:row.length<=16
def my(row:List Int):Str:=if row=[] then "none" else Txt.join (" ":Str) (row.map λx=>nm x.toNat)
def Jp{x:Int}(h0:0<=x)(h:x<1000000000000000000000000000000000000000000000000000000000000)(S:Pz):cY S [.int x]=some (.str (nm x.toNat)):=by
 have:=ni (S:=S) (n:=x.toNat) (by omega)
 rw[Int.toNat_of_nonneg h0]at this;exact this
theorem vp:∀row:List Int,(∀x∈row,1<=x/\x<1000000000000000000000000000000)->((row.map λx=>nm x.toNat).map (·.length)).sum<=30*row.length
 |[],_=>Zs _
 |x::row,h=>by
  have h1:=h x (.head _);have h2:=vp row λy hy=>h y (.tail _ hy)
  have h3:(nm x.toNat).length<=30:=eT (k:=29) (by have:=h1.2;omega)
  simp only[Y8,Zf,Yn]at h2 ⊢;omega
def ze{row:List Int}(h:ZV row):(Txt.join (" ":Str) (row.map λx=>nm x.toNat)).length<=1000:=by
 have h1:=vp row h.bd;have hl:=h.len;rw[ba,mi,eU,u4,Yi,Yi,Za]
 have e2:((row.map λx=>nm x.toNat).map (List.length∘λw:Str=>w.cps.toList))=(row.map λx=>nm x.toNat).map (·.length):=Q3 λp _=>by simp[Str.length]
 rw[e2];omega
def qC(x:Str)(m:Nat):Txt.startswith x ⟨#[m]⟩=(match x.cps.toList with | []=>false|c::_=>decide (c=m)):=by
 cases h:x.cps.toList with
 |nil=>
  have h0:x.length=0:=by rw[ba,h];rfl
  unfold Txt.startswith
  have e:decide (0+(⟨#[m]⟩:Str).length<=x.length)=false:=Yo (by rw[h0];show ¬(0+1<=0);omega)
  rw[e];rfl
 |cons c r=>exact lE h
def zf(h:1<=x.length):Txt.slice x (some 1) none=⟨(x.cps.toList.drop 1).toArray⟩:=by
 rw[slice_from_eq (x:=x) (i:=1) (b:=(x.length:Int)) (by omega) (by omega) rfl]
 have e:((x.cps.toList.drop (1:Int).toNat).take ((x.length:Int)-1).toNat)=x.cps.toList.drop 1:=by
  rw[show((1:Int).toNat)=1 from rfl]
  refine Vy ?_;rw[Qn,<- ba];omega
 rw[e]
def kH:List Nat->List Nat
 |[]=>[]
 |c::r=>if c=45 then r else c::r
def fg(w:Str):Str:=⟨(kH w.cps.toList).toArray⟩
def lF(w:Str):(fg w).cps.toList=kH w.cps.toList:=by simp[fg]
def Er(l:List Nat):(kH l).length<=l.length:=by
 cases l with
 |nil=>exact Yh _
 |cons c r=>
  show(if c=45 then r else c::r).length<=_
  split<;>simp
def Jq(w:Str):(fg w).length<=w.length:=by rw[ba,lF,ba w];exact Er _
def GJ{r:List Nat}(h:w.cps.toList=c::r):if c=45 then Txt.slice w (some 1) none=fg w else fg w=w:=by
 have h1:1<=w.length:=by rw[ba,h];simp
 split
 .rename_i hc;rw[zf h1];refine fL ?_;rw[lF,h];simp[kH,hc]
 .rename_i hc;refine fL ?_;rw[lF,h];simp[kH,hc]
def Jr(h:w.cps.toList=[]):fg w=w:=fL (by rw[lF,h];rfl)
section
variable{w:Str}(hl:w.length<=1000)(S:Pz)(r1:Option D)
include hl
def LW:VM (tV (fk di (af 0) (ag (eC (.str "-")) ak))) (UG lg (af 0) (fc (eC (.int 1))) Xp) (af 0) [some (.str w),r1] S=.ok (.str (fg w)) S:=by
 have z:(1000:Nat)<=sizeLine:=by decide
 have s1:tV (fk di (af 0) (ag (eC (.str "-")) ak)) [some (.str w),r1] S=.ok (match w.cps.toList with | []=>false|c::_=>decide (c=45)) S:=by refine aV ((dD (aa rfl) (ae rfl rfl)).trans (jm.trans ?_));rw[xA,qC]
 cases h:w.cps.toList with
 |nil=>
  rw[h]at s1;rw[Jr h];exact(mf s1).trans (aa rfl)
 |cons c r=>
  rw[h]at s1;have hf:=GJ h;by_cases hc:c=45
  .rw[Y9 hc]at hf
   have s1':tV (fk di (af 0) (ag (eC (.str "-")) ak)) [some (.str w),r1] S=.ok true S:=by rw[s1];show R.ok (decide (c=45)) S=_;rw[Yr hc]
   exact(oo s1').trans (nh (aa rfl) (fR rfl) rfl (by rw[yU (by omega),hf]))
  .rw[Yj hc]at hf
   have s1':tV (fk di (af 0) (ag (eC (.str "-")) ak)) [some (.str w),r1] S=.ok false S:=by rw[s1];show R.ok (decide (c=45)) S=_;rw[Yo hc]
   rw[hf];exact(mf s1').trans (aa rfl)
end
def ot(c:Nat):Bool:=decide (48<=c/\c<=57)
def Es:("0123456789":Str).cps.toList=[48,49,50,51,52,53,54,55,56,57]:=by decide
def Js(c:Nat):decide (c∈("0123456789":Str).cps.toList)=ot c:=by unfold ot;rw[Es,Qr];simp only[Yb,Yy,Zn];omega
def GK(c:Nat)(S:Pz):uV false S (.str ⟨#[c]⟩) (.str "0123456789")=some (.bl (ot c)):=by
 show some (D.bl (!(Builtin.Str.occurrences ("0123456789":Str) ⟨#[c]⟩ 0 ("0123456789":Str).length 1).isEmpty))=_
 rw[StrLaws.found_one,Js]
def Cc{f:Str}(hl:f.length<=1000)(a:Option D)(S:Pz):ig oLe oLe (eC (.int 1)) (eB cy (ag (af 1) ak)) (eC (.int 30)) [a,some (.str f)] S=.ok (.bl (decide (1<=f.length/\f.length<=30))) S:=by
 have z:(1000:Nat)<=sizeLine:=by decide
 have e1:eB cy (ag (af 1) ak) [a,some (.str f)] S=.ok (.int (f.length:Int)) S:=aR (ae (aa rfl) rfl) (qo (by omega))
 have e2:oLe S (.int 1) (.int (f.length:Int))=some (.bl (decide ((1:Int)<=f.length))):=rfl;have e3:oLe S (.int (f.length:Int)) (.int 30)=some (.bl (decide ((f.length:Int)<=30))):=rfl;unfold ig;show(R.ok (D.int 1) S).bind _=_;rw[R.Pq,e1,R.Pq];simp only[e2];by_cases h1:1<=f.length
 .rw[Yr (show(1:Int)<=f.length by omega)]
  show(R.ok (D.int 30) S).bind _=_;rw[R.Pq,e3];by_cases h2:f.length<=30
  .rw[Yr (by omega),Yr (by omega)];rfl
  .rw[Yo (by omega),Yo (by omega)];rfl
 .rw[Yo (show ¬(1:Int)<=f.length by omega),Yo (by omega)]
def jz(l:List Nat):Bool:=match kH l with
 |[]=>false
 |c::r=>if c=48 then decide (l=[48]) else decide ((c::r).length<=30)&&(c::r).all ot
def xD(hl:w.length<=1000)(S:Pz):bP [.str w] S=.ok (.bl (jz w.cps.toList)) S:=by
 have z:(1000:Nat)<=sizeLine:=by decide
 have hf:=Jq w;have s1:=LW hl S none
 have s2:tV (fk di (af 1) (ag (eC (.str "0")) ak)) [some (.str w),some (.str (fg w))] S=.ok (match kH w.cps.toList with | []=>false|c::_=>decide (c=48)) S:=by refine aV ((dD (aa rfl) (ae rfl rfl)).trans (jm.trans ?_));rw[nr,qC,lF]
 have s3:=Cc (f:=fg w) (by omega) (some (.str w)) S
 have s4:=ez (enc:=λc:Nat=>D.str ⟨#[c]⟩) (out:=λc=>D.bl (ot c)) (e:=Px (uV false) (af 0) (eC (.str "0123456789"))) (it:=bJ (af 1) sG) (PB:=[]) (tl:=[]) (r:=[some (.str w),some (.str (fg w))]) (S:=S) (fg w).cps.toList (by
   unfold bJ
   rw[aa (d:=.str (fg w)) rfl,R.Pq];rfl) (by rw[<- ba];omega) rfl (λc hc=>au (aa rfl) rfl (GK c S))
 have s5:k8 S [.lst ((fg w).cps.toList.map λc=>D.bl (ot c))]=some (.bl ((kH w.cps.toList).all ot)):=by rw[iW,lF]
 have hlen:(fg w).length=(kH w.cps.toList).length:=by rw[ba,lF]
 rw[hlen]at s3;refine aL (ρ:=[some (.str w),none]) rfl ((ao (aC s1)).trans ?_);unfold jz;cases h:kH w.cps.toList with
 |nil=>
  rw[h]at s2 s3;exact(ao ((bz s2).trans rfl)).trans (aD (DV s3))
 |cons c r=>
  rw[h]at s2 s3 s5;by_cases hc:c=48
  .simp only[hc,Zi]
   have s2':tV (fk di (af 1) (ag (eC (.str "0")) ak)) [some (.str w),some (.str (fg w))] S=.ok true S:=by rw[s2];show R.ok (decide (c=48)) S=_;rw[Yr hc]
   refine dS ((hJ s2').trans (aD (au (aa rfl) rfl ?_)));show some (D.bl (decide (w=("0":Str))))=_
   congr 2;rw[Qr,nr];constructor
   .intro q;rw[q]
   .intro q;exact fL q
  .simp only[hc,Qm]
   have s2':tV (fk di (af 1) (ag (eC (.str "0")) ak)) [some (.str w),some (.str (fg w))] S=.ok false S:=by rw[s2];show R.ok (decide (c=48)) S=_;rw[Yo hc]
   refine(ao ((bz s2').trans rfl)).trans (aD ?_);by_cases h30:(c::r).length<=30
   .rw[Yr ⟨by simp,h30⟩]at s3
    rw[Yr h30,Vj];exact(kg s3).trans (aR (ae s4 rfl) s5)
   .rw[Yo (λq=>h30 q.2)]at s3;rw[Yo h30,Mo];exact DV s3
def vq(w:Str):Int:=(intText? w).getD 0
def lG(h:jz w.cps.toList=true):intText? w=some (vq w)/\w.length<=31:=by
 have hs:∃n,intText? w=some n:=by
  unfold jz at h;cases hl:w.cps.toList with
  |nil=>rw[hl]at h;cases h
  |cons c r=>
   rw[hl]at h;by_cases hc:c=45
   .have hf:kH (c::r)=r:=by simp[kH,hc]
    rw[hf]at h;cases r with
    |nil=>cases h
    |cons c2 r2=>
     simp only at h;by_cases YF:c2=48
     .rw[Y9 YF]at h;have:=Zl h;injection this with q1 q2;omega
     .rw[Yj YF,Z5,Q4,Zj]at h
      refine⟨_,intText_neg (cs:=c2::r2) (by rw[hl,hc]) (λd hd=>Zl (h.2 d hd)) (by simp) (by rw[ba,hl];have:=h.1;simp at this ⊢;omega)⟩
   .have hf:kH (c::r)=c::r:=by simp[kH,hc]
    rw[hf]at h;simp only at h;by_cases YF:c=48
    .rw[Y9 YF]at h;have e:=Zl h
     refine⟨_,Uq (λd hd=>by rw[hl,e]at hd;rw[Yq.mp hd];decide) (by rw[hl];simp) (by rw[ba,hl,e];decide)⟩
    .rw[Yj YF,Z5,Q4,Zj]at h
     refine⟨_,Uq (λd hd=>by rw[hl]at hd;exact Zl (h.2 d hd)) (by rw[hl];simp) (by rw[ba,hl];have:=h.1;omega)⟩
 obtain⟨n,hn⟩:=hs
 refine⟨by unfold vq;rw[hn];rfl,?_⟩
 rw[ba];unfold jz at h;cases hl:w.cps.toList with
 |nil=>simp
 |cons c r=>
  rw[hl]at h
  have hle:(c::r).length<=(kH (c::r)).length+1:=by
   show _<=(if c=45 then r else c::r).length+1
   split<;>simp
  cases hf:kH (c::r) with
  |nil=>rw[hf]at hle;exact Yw hle (by decide)
  |cons c2 r2=>
   rw[hf]at h hle;simp only at h;by_cases YF:c2=48
   .rw[Y9 YF]at h;rw[Zl h];decide
   .rw[Yj YF,Z5,Q4]at h;have:=h.1;omega
def ones:List Str:=["take","back","row","total","even","swing","every"]
def zg:List Str:=["comes","ways","signs","near"]
def rq:List Str->Bool
 |[w]=>decide (w∈ones)
 |[a,n]=>jz n.cps.toList&&(if a=("put":Str) then decide (1<=vq n) else decide (a∈zg))
 |_=>false
theorem Et(w:Str):∀l:List Str,(l.map D.str).any (λz=>eqF z (.str w))=decide (w∈l)
 |[]=>by simp
 |a::l=>by
  rw[Y8,Qt,Et w l];have e:eqF (.str a) (.str w)=(a == w):=rfl;rw[e,Qy];simp only[Uc,Vc,Q4,Yb];constructor
  .rintro(h|h)
   .exact .inl h.symm
   .exact .inr h
  .rintro(h|h)
   .exact .inl h.symm
   .exact .inr h
def Ce(l:List Str):(l.map D.str).all iI=true:=by rw[Zj];intro d hd;obtain⟨x,_,rfl⟩:=Yt.mp hd;rfl
def Jt(w:Str)(l:List Str):oIn false S (.str w) (.tup (l.map .str))=some (.bl (decide (w∈l))):=by
 show(if iI (.str w)=true/\(l.map D.str).all iI=true then some (D.bl ((l.map D.str).any λz=>eqF z (.str w))) else none)=_
 rw[Y9 ⟨rfl,Ce l⟩,Et]
def Eu{L:List (Str×Option Str)}{k:Str}(h:a r S=.ok (.str k) S1):B4 L a r S=.ok (.bl (KTD.inKeys k L)) S1:=by unfold B4;rw[h,R.Pq]
def Ju(w:Str):KTD.inKeys w Mr=decide (w∈(["row","total","even","swing","every"]:List Str)):=by rw[Qy,Q4];simp[Mr,KTD.inKeys]
def Jv(w:Str):KTD.inKeys w L6=decide (w∈zg):=by rw[Qy,Q4];simp[L6,KTD.inKeys,zg]
def AQ(l:List D):cy S [.lst l]=some (.int (l.length:Int)):=rfl
def tG(ws:List Str)(hl:∀w∈ws,w.length<=1000)(S:Pz):iT [.lst (ws.map .str)] S=.ok (.bl (rq ws)) S:=by
 have t1:tV (Px bR (eB cy (ag (af 0) ak)) (eC (.int 1))) [some (.lst (ws.map .str))] S=.ok (decide (((ws.map D.str).length:Int)=1)) S:=aV (au (aR (ae (aa rfl) rfl) (AQ _)) rfl ng);have t2:tV (Px eY (eB cy (ag (af 0) ak)) (eC (.int 2))) [some (.lst (ws.map .str))] S=.ok (!decide (((ws.map D.str).length:Int)=2)) S:=aV (au (aR (ae (aa rfl) rfl) (AQ _)) rfl Jc);rw[Yi]at t1 t2;refine aL (ρ:=[some (.lst (ws.map .str))]) rfl ?_
 match ws,hl,t1,t2 with
 |[],_,t1,t2=>exact(ao ((bz t1).trans rfl)).trans (dS ((hJ (Hk t2)).trans rfl))
 |[w],_,t1,t2=>
  refine dS ((hJ t1).trans (aD ?_));have e1:Px (oIn false) (Px QV (af 0) (eC (.int 0))) (eC (.tup ((["take","back"]:List Str).map .str))) [some (.lst ([w].map .str))] S=.ok (.bl (decide (w∈(["take","back"]:List Str)))) S:=au (au (aa rfl) rfl rfl) rfl (Jt w _)
  have e2:B4 Mr (Px QV (af 0) (eC (.int 0))) [some (.lst ([w].map .str))] S=.ok (.bl (decide (w∈(["row","total","even","swing","every"]:List Str)))) S:=by rw[<- Ju];exact Eu (au (aa rfl) rfl rfl)
  by_cases h:w∈(["take","back"]:List Str)
  .rw[Yr h]at e1
   have ho:w∈ones:=(show w∈(["take","back"]:List Str)++(["row","total","even","swing","every"]:List Str) from Zz _ h)
   rw[rq,Yr ho];exact KN e1
  .rw[Yo h]at e1
   have e3:decide (w∈ones)=decide (w∈(["row","total","even","swing","every"]:List Str)):=by
    rw[Qr];show w∈(["take","back"]:List Str)++(["row","total","even","swing","every"]:List Str)↔_
    rw[Yx];exact⟨λq=>q.resolve_left h,.inr⟩
   rw[rq,e3];exact(KO e1).trans e2
 |[a,n],hl,t1,t2=>
  have hn:=xD (w:=n) (hl n (by simp)) S
  have t3:PD.fM (tV (az bP (ag (Px QV (af 0) (eC (.int 1))) ak))) [some (.lst ([a,n].map .str))] S=.ok (!jz n.cps.toList) S:=dC (aV ((aw (ae (au (aa rfl) rfl rfl) rfl)).trans hn));refine(ao ((bz t1).trans rfl)).trans ?_;by_cases hk:jz n.cps.toList=true
  .rw[hk]at t3;rw[rq,hk,Vj];refine(ao ((bz ((sZ t2).trans t3)).trans rfl)).trans ?_;have t4:tV (Px bR (Px QV (af 0) (eC (.int 0))) (eC (.str "put"))) [some (.lst ([a,n].map .str))] S=.ok (decide (a=("put":Str))) S:=aV (au (au (aa rfl) rfl rfl) rfl rfl)
   obtain⟨r1,r2⟩:=lG hk;by_cases hp:a=("put":Str)
   .rw[Yr hp]at t4;rw[Y9 hp]
    exact dS ((hJ t4).trans (aD (au (aR (ae (au (aa rfl) rfl rfl) rfl) (kr (by omega) r1)) rfl rfl)))
   .rw[Yo hp]at t4;rw[Yj hp,<- Jv];exact(ao ((bz t4).trans rfl)).trans (aD (Eu (au (aa rfl) rfl rfl)))
  .have hk':jz n.cps.toList=false:=by cases q:jz n.cps.toList;rfl;exact absurd q hk
   rw[hk']at t3;rw[rq,hk',Mo];exact dS ((hJ ((sZ t2).trans t3)).trans rfl)
 |a::b::c::r,_,t1,t2=>
  rw[Yo (by simp only[Yn];omega)]at t1 t2
  exact(ao ((bz t1).trans rfl)).trans (dS ((hJ (Hk t2)).trans rfl))
def jn(hl:x.length<=1000)(S:Pz):dZ S (.str x) [.str " "]=.ok (.lst ((Txt.split x " ").map .str)) S:=by
 have z:(2000:Nat)<=sizeLine:=by decide
 have h1:=split_le x (" ":Str)
 have c1:(Builtin.Str.partsBetween x (Builtin.Str.occurrences x " " 0 x.length (x.length+1)) (" ":Str).length).length<=sizeLine:=by
  rw[length_partsBetween];have:=StrLaws.occ_length_le x " " 0 x.length (x.length+1)
  omega
 unfold dZ;simp only
 rw[Y9 ⟨by decide,by omega,c1,by omega⟩]
def vt(h:32∉x.cps.toList):Txt.split x " " = [x]:=by
 have hj:Txt.join (" ":Str) [x]=x:=by rw[mi];rfl
 have:=fG (ws:=[x]) (by simp) (λw hw=>by rw[Yq.mp hw];exact h)
 rw[hj]at this;exact this
structure Dq(S:Pz)(b κ e δ:Nat)(hs:List (List Int))(row:List Int):Prop where
 bx:∃n,S[b]?=some (.lst [.int n])
 kp:S[κ]?=some (.ins "Keeper" (kF (tI row) (.ref e)))
 er:S[e]?=some (.lst (hs.map tI))
 dk:S[δ]?=some (.ins "Desk" [("keeper",.ref κ)])
 n1:b≠κ
 n2:b≠e
 n3:κ≠e
 n4:δ≠b
 n5:δ≠κ
 n6:δ≠e
def Dq.gr{hs:List (List Int)}{row:List Int}(d:Dq S b κ e δ hs row)(g:Gr b S S1):Dq S1 b κ e δ hs row:=
 ⟨g.bx,by rw[g.oth κ (Ne.symm d.n1) (bQ d.kp)];exact d.kp,by rw[g.oth e (Ne.symm d.n2) (bQ d.er)];exact d.er,by rw[g.oth δ d.n4 (bQ d.dk)];exact d.dk,d.n1,d.n2,d.n3,d.n4,d.n5,d.n6⟩
def Dq.self{hs:List (List Int)}{row:List Int}(d:Dq S b κ e δ hs row):Gr b S S:=⟨d.bx,λ_ _ _=>rfl,Yh _⟩
def Cf(n:Nat):Txt.split (("put ":Str)++nm n) " " = ([("put":Str),nm n]:List Str):=by
 rw[Ep]
 refine fG (by simp) λw hw=>?_
 simp only[Yb,Yy,Zn]at hw;rcases hw with rfl|rfl
 .decide
 .intro z;have:=fF n 32 z;omega
def Cg{n:Nat}(h:n<1000000000000000000000000000000):(("put ":Str)++nm n).length<=34:=by
 have hl:(nm n).length<=30:=eT (k:=29) (by omega)
 rw[ba];show((("put ":Str).cps++(nm n).cps).toList).length<=34
 have e:("put ":Str).cps.toList.length=4:=by decide
 rw[Vl,Yp,e,<- ba];omega
def vx{n:Nat}(h0:1<=n)(h:n<1000000000000000000000000000000):jz (nm n).cps.toList=true:=by
 have h1:=Eo h0 h []
 have h2:=xD (w:=nm n) (by have:=eT (n:=n) (k:=29) (by omega);omega) []
 rw[h1]at h2;injection h2 with q;injection q with q;exact q.symm
def Ew{n:Nat}(h0:1<=n)(h:n<1000000000000000000000000000000):vq (nm n)=n:=by
 have h1:=qB h [];obtain⟨r1,r2⟩:=lG (vx h0 h)
 rw[kr (by omega) r1]at h1
 injection h1 with q;injection q
def xE{n:Nat}(h0:1<=n)(h:n<1000000000000000000000000000000)(S:Pz):bp [.str (("put ":Str)++nm n)] S=.ok (.lst [.str "put",.str (nm n)]) S:=by
 have hs:=Cg h
 have hm:=jn (x:=("put ":Str)++nm n) (by omega) S
 rw[Cf]at hm
 have hi:=tG ["put",nm n] (λw hw=>by
  have:=eT (n:=n) (k:=29) (by omega)
  simp only[Yb,Yy,Zn]at hw;rcases hw with rfl|rfl
  .decide
  .omega) S
 have hk:rq ["put",nm n]=true:=by
  rw[rq,vx h0 h,Vj,Y9 rfl,Ew h0 h]
  exact Yr (by omega)
 rw[hk]at hi
 exact aL (ρ:=[some (.str (("put ":Str)++nm n)),none]) rfl ((ao ((bz (dC (b:=true) (aV (aR (ae (aa rfl) (ae rfl rfl)) (by simp[jC,Xy,gD]))))).trans rfl)).trans ((ao (aC ((dD (aa rfl) (ae rfl rfl)).trans hm))).trans ((ao ((bz (dC (b:=true) (aV ((aw (ae (aa rfl) rfl)).trans hi)))).trans rfl)).trans (aD (aa rfl)))))
def Ey{row:List Int}(h:ZV row)(hi:bJ a bH r S=.ok (row.map D.int) S):fk og (eC (.str " ")) (ag (br (bJ a bH) 1 [] (.nm 0) bY (eB cY (ag (af 0) ak))) ak) r S=.ok (.str (Txt.join " " (row.map λx=>nm x.toNat))) S:=by
 have z:(100:Nat)<=sizeLine:=by decide
 have hl:=h.len
 have hc:=ez (enc:=D.int) (out:=λx:Int=>D.str (nm x.toNat)) (e:=eB cY (ag (af 0) ak)) (it:=bJ a bH) (PB:=[]) (tl:=[]) (r:=r) (S:=S) row hi (by omega) rfl λx hx=>aR (ae (aa rfl) rfl) (Jp (by have:=(h.bd x hx).1;omega) (by have:=(h.bd x hx).2;omega) S)
 have h1:=vp row h.bd
 have h3:(" ":Str).length=1:=by decide
 refine(dD rfl (ae hc rfl)).trans ?_;unfold og;simp only[ly]
 rw[Y9 (by rw[Yi,h3];omega)]
def Jw{t:TM}{b:SM}{x:PD.F}{n:Nat}(h:cH t b n r S=.ok x S1):YC t b r S=.ok x S1:=(Du n (by rw[h];intro z;cases z)).trans h
def Ez{T:List (Str×PyData)}{b:EM}{k:Str}{d:D}(h1:b r S=.ok (.str k) S1)(h2:(KTD.datumAt k T).bind dP=some d):wU T b r S=.ok d S1:=by unfold wU;rw[h1,R.Pq];show R.of S1 _=_;rw[h2];rfl
def EA{T:List (Int×PyData)}{b:EM}{k:Int}{d:D}(h1:b r S=.ok (.int k) S1)(h2:(KTD.datumAt k T).bind dP=some d):wV T b r S=.ok d S1:=by unfold wV;rw[h1,R.Pq];show R.of S1 _=_;rw[h2];rfl
def Ci{neg:Bool}{T:List (Str×PyData)}{b:EM}{k:Str}(h1:b r S=.ok (.str k) S1):m3 neg T b r S=.ok (.bl (if neg then !KTD.inKeys k T else KTD.inKeys k T)) S1:=by unfold m3;rw[h1,R.Pq]
def zh{n:Nat}(h:n<1000000000000000000000000000000000000000000000000000000000000)(S:Pz):dz [.int (n:Int)] S=.ok (.str (nm n)) S:=by
 have hw:∀b:SM,YC (tV (Px Xo (af 2) (Px pH (eC (.int 10)) (eC (.int 60))))) b [some (.int (n:Int)),some (.str ""),some (.int (n:Int))] S=.ok (.nx [some (.int (n:Int)),some (.str ""),some (.int (n:Int))]) S:=λb=>by
  refine Jw (n:=1) ?_
  have ht:tV (Px Xo (af 2) (Px pH (eC (.int 10)) (eC (.int 60)))) [some (.int (n:Int)),some (.str ""),some (.int (n:Int))] S=.ok false S:=by
   refine aV (au (aa rfl) (au rfl rfl Ax) ?_);show some (D.bl (decide ((n:Int) >= 1000000000000000000000000000000000000000000000000000000000000)))=_
   rw[Yo (by omega)]
  unfold cH;rw[ht,R.Pq,Yj Ym]
 refine aL (ρ:=[some (.int (n:Int)),none,none]) rfl ((ao (aC (d:=.str "") rfl)).trans ((ao (aC (aa rfl))).trans ((ao (hw _)).trans (aD (au (aR (ae (aa rfl) rfl) (ni h)) (aa rfl) ?_)))))
 have hl:(nm n).length<=60:=eT (k:=59) (by omega)
 have z:(100:Nat)<=sizeLine:=by decide
 show(if _ then _ else _)=_
 rw[Y9 (by show(nm n).length+0<=sizeLine;omega)]
 have e:nm n++("":Str)=nm n:=fL (by show((nm n).cps ++ #[]).toList=_;simp)
 rw[e]
def K0:(List.range (Builtin.Range.rangeSize 0 60 60).toNat).map (λ(m:Nat)=>D.int (0+m*60))=[.int 0]:=by kernel_rfl
def GL:DD [.int 0,.int 60,.int 60]=some (0,60,60):=by kernel_rfl
def Cj{n:Nat}(h0:1<=n)(h:n<1000000000000000000000000000000000000000000000000000000000000)(S:Pz):eu [.str (nm n)] S=.ok (.int (n:Int)) S:=by
 have hl:(nm n).length<=60:=eT (k:=59) (by omega)
 have h1:=u3 n
 have z:(100:Nat)<=sizeLine:=by decide
 obtain⟨zl,zi⟩:=xf (w:=60) hl (by decide) h0
 have zi':intText? (Txt.zfill (nm n) 60)=some (n:Int):=zi;have zl':(Txt.zfill (nm n) 60).length=60:=zl
 have a1:jr S (.int (((nm n).length:Int)+60-1)) (.int 60)=some (.int 1):=by
  have e:(((nm n).length:Int)+60-1)/60=1:=by omega
  rw[FJ ⟨by decide,by decide⟩,e]
 have a2:pX S (.str (nm n)) [.int 60]=.ok (.str (Txt.zfill (nm n) 60)) S:=by
  show(if PadOk 60=true then R.ok (D.str (Txt.zfill (nm n) 60)) S else .bad)=_
  exact Y9 (by decide)
 have a3:∀r:Rp,r[2]?=some (some (.str (Txt.zfill (nm n) 60)))->oX (ag (eC (.int 0)) (ag (eB cy (ag (af 2) ak)) (ag (eC (.int 60)) ak))) r S=.ok [.int 0] S:=λr hr=>by
  have e:ag (eC (.int 0)) (ag (eB cy (ag (af 2) ak)) (ag (eC (.int 60)) ak)) r S=.ok [.int 0,.int 60,.int 60] S:=
   ae rfl (ae (aR (ae (aa hr) rfl) (by rw[qo (by omega),zl'];rfl)) (ae rfl rfl))
  unfold oX;rw[e,R.Pq];rw[GL];show R.ok ((List.range (Builtin.Range.rangeSize 0 60 60).toNat).map (λ(m:Nat)=>D.int (0+m*60))) S=_;rw[K0]
 have a4:lg S (.str (Txt.zfill (nm n) 60)) (some 0) (some (0+60))=some (.str (Txt.zfill (nm n) 60)):=by
  rw[yU (by omega)]
  have e:Txt.slice (Txt.zfill (nm n) 60) (some 0) (some (0+60))=Txt.zfill (nm n) 60:=B7 (w:=60) zl';rw[e]
 have a5:aN 3 (Px aY (Px dn (af 3) (Px pH (eC (.int 10)) (eC (.int 60)))) (eB ei (ag (UG lg (af 2) (fc (af 4)) (fc (Px aY (af 4) (eC (.int 60))))) ak))) [some (.str (nm n)),some (.int 1),some (.str (Txt.zfill (nm n) 60)),some (.int 0),some (.int 0)] S=.ok (.nx [some (.str (nm n)),some (.int 1),some (.str (Txt.zfill (nm n) 60)),some (.int n),some (.int 0)]) S:=by
  refine(aC (d:=.int (n:Int)) (au (au (aa rfl) (au rfl rfl Ax) (dX (.inl (by decide)))) (aR (ae (nh (aa rfl) (fR (aa rfl)) (fR (au (aa rfl) rfl rfl)) a4) rfl) (kr (by omega) zi')) ?_)).trans rfl
  show some (D.int (0*_+(n:Int)))=_;rw[Int.zero_mul,Int.zero_add]
 refine aL (ρ:=[some (.str (nm n)),none,none,none,none]) rfl ((ao (aC (au (au (au (aR (ae (aa rfl) rfl) (qo (by omega))) rfl rfl) rfl rfl) rfl a1))).trans ((ao (aC ((dD (aa rfl) (ae (au (aa rfl) rfl (dX (.inl (by decide)))) rfl)).trans a2))).trans ((ao (aC (d:=.int 0) rfl)).trans ((ao ((g9 (a3 _ rfl)).trans (bu rfl a5))).trans (aD (aa rfl))))))
def YG(y:Int):Nat:=if y=1 then 43 else if y=0 then 46 else 45
def word(p:Nat×Int):Str:=(⟨#[YG p.2]⟩:Str)++nm p.1
def iZ(p:Nat×Int):(word p).cps.toList=YG p.2::(nm p.1).cps.toList:=by show((#[YG p.2]:Array Nat)++(nm p.1).cps).toList=_;simp
def xF(p:Nat×Int):(word p).length=(nm p.1).length+1:=by
 have e:∀x:Str,x.length=x.cps.toList.length:=λx=>by simp[Str.length]
 rw[e,iZ,e (nm p.1)];rfl
def kC(h:-1<=y/\y<=1):(y=1/\YG y=43)\/(y=0/\YG y=46)\/(y = -1/\YG y=45):=by
 have:y=1\/y=0\/y = -1:=by omega
 rcases this with rfl|rfl|rfl
 .exact .inl ⟨rfl,rfl⟩
 .exact .inr (.inl ⟨rfl,rfl⟩)
 .exact .inr (.inr ⟨rfl,rfl⟩)
def GN(h:-1<=y/\y<=1):(KTD.datumAt y MX).bind dP=some (.str ⟨#[YG y]⟩):=by rcases kC h with⟨rfl,e⟩|⟨rfl,e⟩|⟨rfl,e⟩<;>(rw[e];kernel_rfl)
def GO(h:-1<=y/\y<=1):(KTD.datumAt (⟨#[YG y]⟩:Str) MB).bind dP=some (.int y):=by rcases kC h with⟨rfl,e⟩|⟨rfl,e⟩|⟨rfl,e⟩<;>(rw[e];kernel_rfl)
def GP(h:-1<=y/\y<=1):KTD.inKeys (⟨#[YG y]⟩:Str) MB=true:=by rcases kC h with⟨rfl,e⟩|⟨rfl,e⟩|⟨rfl,e⟩<;>(rw[e];kernel_rfl)
structure X3(p:Nat×Int):Prop where
 pos:1<=p.1
 low:p.1<1000000000000000000000000000000000000000000000000000000000000
 par:-1<=p.2/\p.2<=1
def X3.short{p:Nat×Int}(h:X3 p):2<=(word p).length/\(word p).length<=61:=by have:=u3 p.1;have:=eT (n:=p.1) (k:=59) h.low;rw[xF];omega
def X3.rest{p:Nat×Int}(h:X3 p)(S:Pz):lg S (.str (word p)) (some 1) none=some (.str (nm p.1)):=by
 have z:(100:Nat)<=sizeLine:=by decide
 have:=h.short
 rw[yU (by omega)]
 have e:Txt.slice (word p) (some 1) none=nm p.1:=B8;rw[e]
def X3.free{p:Nat×Int}(h:X3 p):32∉(word p).cps.toList:=λhm=>by
 rw[iZ]at hm;rcases Yb.mp hm with e|e
 .rcases kC h.par with⟨_,q⟩|⟨_,q⟩|⟨_,q⟩<;>rw[q]at e<;>cases e
 .have:=fF p.1 32 e;omega
def zj{p:Nat×Int}(h:X3 p)(S:Pz):gA [.str (word p)] S=.ok (.bl true) S:=by
 have z:(100:Nat)<=sizeLine:=by decide
 have hs:=h.short;obtain⟨c,r,e,c1,c2⟩:=o5 h.pos
 have b1:tV (Px oLt (eB cy (ag (af 0) ak)) (eC (.int 2))) [some (.str (word p))] S=.ok false S:=by
  refine aV (au (aR (ae (aa rfl) rfl) (qo (by omega))) rfl ?_)
  show some (D.bl (decide (((word p).length:Int)<2)))=_
  rw[Yo (by omega)]
 have b2:tV (m3 true MB (Px uU (af 0) (eC (.int 0)))) [some (.str (word p))] S=.ok false S:=by
  refine aV ((Ci (au (aa rfl) rfl (u5 (i:=0) (by omega) (by rw[iZ];rfl)))).trans ?_)
  rw[GP h.par];rfl
 have b3:tV (Px bR (Px uU (af 0) (eC (.int 1))) (eC (.str "0"))) [some (.str (word p))] S=.ok false S:=by
  refine aV (au (au (aa rfl) rfl (u5 (i:=1) (c:=c) (by omega) (by rw[iZ,e];rfl))) rfl ?_)
  show some (D.bl (decide ((⟨#[c]⟩:Str)=("0":Str))))=_
  rw[Yo (λq=>by
   have q2:(⟨#[c]⟩:Str).cps.toList=("0":Str).cps.toList:=by rw[q]
   have q3:("0":Str).cps.toList=[48]:=by decide +kernel
   rw[q3]at q2;injection q2 with q4 q5
   omega)]
 have b4:=ez (enc:=λc:Nat=>D.str ⟨#[c]⟩) (out:=λ_=>D.bl true) (e:=Px (uV false) (af 0) (eC (.str "0123456789"))) (it:=bJ (UG lg (af 0) (fc (eC (.int 1))) Xp) sG) (PB:=[]) (tl:=[]) (r:=[some (.str (word p))]) (S:=S) (nm p.1).cps.toList (by
   unfold bJ
   rw[nh (aa rfl) (fR rfl) rfl (h.rest S),R.Pq];rfl) (by
   have:=eT (n:=p.1) (k:=59) h.low
   have e:(nm p.1).length=(nm p.1).cps.toList.length:=by simp[Str.length]
   omega) rfl (λc hc=>au (aa rfl) rfl (DW (fF p.1 c hc) S))
 refine aL (ρ:=[some (.str (word p))]) rfl ((ao ((bz ((sZ b1).trans ((sZ b2).trans b3))).trans rfl)).trans (aD (aR (ae b4 rfl) ?_)));rw[iW (f:=λ_=>true)];congr 2;rw[Zj];intros;rfl
def GQ(i:Int)(S:Pz):bO [.int i] S=.ok (.bl true) S:=by kernel_rfl
def AR{n:Nat}(hp:p.length=n)(hn:n<=100)(S:Pz):dq [tupI p,.int n] S=.ok (.bl true) S:=by
 have z:(100:Nat)<=sizeLine:=by decide
 have hi:jC S [tupI p,.ty "tuple"]=some (.bl true):=by simp[jC,Xy,gD]
 have hl:bR S (.int p.length) (.int n)=some (.bl true):=by rw[ng,Yr (by omega)]
 have hc:=ez (enc:=D.int) (out:=λ_:Int=>D.bl true) (e:=az bO (ag (af 0) ak)) (it:=bJ (af 0) bH) (PB:=[]) (tl:=[]) (r:=[some (tupI p),some (.int n)]) (S:=S) p (ql rfl rfl) (by omega) rfl λx _=>(aw (ae (aa rfl) rfl)).trans (GQ x S)
 have ha:k8 S [.lst (p.map λ_:Int=>D.bl true)]=some (.bl true):=by rw[iW (f:=λ_=>true),Zj.mpr λ_ _=>rfl]
 exact aL (ρ:=[some (tupI p),some (.int n)]) rfl (aD ((kg (aR (ae (aa rfl) (ae rfl rfl)) hi)).trans ((kg (au (aR (ae (aa rfl) rfl) mw) (aa rfl) hl)).trans (aR (ae hc rfl) ha))))
def AS(h:Row xs)(hp:p.length=xs.length)(hq:∀q∈p,-1<=q/\q<=1)(S:Pz):dM [tupI p,tupI xs] S=.ok (.bl true) S:=by
 have z:(100:Nat)<=sizeLine:=by decide
 have hl:=h.2
 have hc:=ez (enc:=D.int) (out:=λ_:Int=>D.bl true) (e:=ig oLe oLe (X7 yA (eC (.int 1))) (af 0) (eC (.int 1))) (it:=bJ (af 0) bH) (PB:=[]) (tl:=[]) (r:=[some (tupI p),some (tupI xs)]) (S:=S) p (ql rfl rfl) (by omega) rfl λq hq'=>by
  obtain⟨q0,q1⟩:=hq q hq';have e1:X7 yA (eC (.int 1)) [some (.int q)] S=.ok (.int (-1)) S:=rfl
  have e2:oLe S (.int (-1)) (.int q)=some (.bl true):=by show some (D.bl (decide ((-1:Int)<=q)))=_;rw[Yr q0]
  have e3:oLe S (.int q) (.int 1)=some (.bl true):=by show some (D.bl (decide (q<=(1:Int))))=_;rw[Yr q1]
  have ev:af 0 [some (.int q)] S=.ok (.int q) S:=aa rfl;show ig oLe oLe (X7 yA (eC (.int 1))) (af 0) (eC (.int 1)) [some (.int q)] S=_;unfold ig;rw[e1,R.Pq,ev,R.Pq];simp only[e2];show(R.ok (D.int 1) S).bind _=_;rw[R.Pq,e3];rfl
 have ha:k8 S [.lst (p.map λ_:Int=>D.bl true)]=some (.bl true):=by rw[iW (f:=λ_=>true),Zj.mpr λ_ _=>rfl]
 exact aL (ρ:=[some (tupI p),some (tupI xs)]) rfl ((ao (bq ((aw (ae (aa rfl) rfl)).trans (fU h S)))).trans (aD ((kg ((aw (ae (aa rfl) (ae (aR (ae (aa rfl) rfl) mw) rfl))).trans (AR hp (by omega) S))).trans (aR (ae hc rfl) ha))))
theorem qD:∀(xs p:List Int),PD.mU (xs.map .int) (p.map .int)=(xs.zip p).map λe=>D.tup [.int e.1,.int e.2]
 |[],_=>rfl
 |_::_,[]=>rfl
 |x::xs,q::p=>by show D.tup [.int x,.int q]::PD.mU (xs.map .int) (p.map .int)=_;rw[qD xs p];rfl
def ne_self{t:Str}:eY S (.str t) (.str t)=some (.bl false):=by simp[eY,eqP,Xg]
abbrev VD(ps:List (Nat×Int)):List Int:=ps.map λp=>(p.1:Int)
abbrev VF(ps:List (Nat×Int)):List Int:=ps.map λp=>p.2
abbrev RL(ps:List (Nat×Int)):List Str:=ps.map word
structure R8(ps:List (Nat×Int)):Prop where
 all:∀p∈ps,X3 p
 len:ps.length<=16
def R8.row(h:R8 ps):Row (VD ps):=⟨λx hx=>by
 obtain⟨p,hp,rfl⟩:=Yt.mp hx;have:=(h.all p hp).pos
 omega,by rw[Yi];exact h.len⟩
theorem R8.par(h:R8 ps):∀q∈VF ps,-1<=q/\q<=1:=λq hq=>by obtain⟨p,hp,rfl⟩:=Yt.mp hq;exact(h.all p hp).par
theorem nt:∀ps:List (Nat×Int),(∀p∈ps,X3 p)->((RL ps).map (·.length)).sum<=61*ps.length
 |[],_=>Zs _
 |p::ps,h=>by have h1:=(h p (.head _)).short;have h2:=nt ps λq hq=>h q (.tail _ hq);simp only[RL,Y8,Zf,Yn]at h2 ⊢;omega
def GR(h:R8 ps)(S:Pz):og S (.str " ") [.lst (ps.map λp=>D.str (word p))]=.ok (.str (Txt.join " " (RL ps))) S:=by
 have h1:((ps.map word).map (·.length)).sum<=61*ps.length:=nt ps h.all;have h2:=h.len
 have h3:(" ":Str).length=1:=by decide
 unfold og;simp only[ly]
 rw[Y9 (by rw[Yi,h3];omega)]
def EB(h:R8 ps):(Txt.join (" ":Str) (RL ps)).length<=1000:=by
 have h1:=nt ps h.all;have h2:=h.len
 have e:(Txt.join (" ":Str) (RL ps)).length=(Txt.join (" ":Str) (RL ps)).cps.toList.length:=by simp[Str.length]
 rw[e,mi,eU,u4,Yi,Yi,Za,Za]
 have e2:(ps.map ((List.length∘λw:Str=>w.cps.toList)∘word))=(RL ps).map (·.length):=by rw[Za];refine Q3 λp _=>?_;simp[Str.length]
 rw[e2];omega
def GS(h:R8 ps)(S:Pz):iP [tupI (VD ps),tupI (VF ps)] S=.ok (.str (Txt.join " " (RL ps))) S:=by
 have z:(100:Nat)<=sizeLine:=by decide
 have hl:=h.len
 have hn:bW [tupI (VD ps),tupI (VF ps)] S=.ok .non S:=gQ (ρ:=[some (tupI (VD ps)),some (tupI (VF ps))]) rfl ((bz (dC (b:=true) (aV ((aw (ae (aa rfl) (ae (aa rfl) rfl))).trans (AS h.row (by rw[Yi,Yi]) h.par S))))).trans rfl)
 have hz:yF (ag (af 0) (ag (af 1) ak)) [some (tupI (VD ps)),some (tupI (VF ps))] S=.ok (ps.map λp=>D.tup [.int (p.1:Int),.int p.2]) S:=by unfold yF;rw[ae (aa rfl) (ae (aa rfl) rfl),R.Pq];show R.ok (PD.mU ((VD ps).map .int) ((VF ps).map .int)) S=_;rw[qD,List.zip_map',Za];rfl
 have hc:=sY (x1:=λp:Nat×Int=>D.int (p.1:Int)) (x2:=λp=>D.int p.2) (out:=λp=>D.str (word p)) (e:=Px aY (wV MX (af 1)) (az dz (ag (af 0) ak))) (PB:=[]) (tl:=[]) ps hz (by omega) rfl λp hp=>by
  have hw:=h.all p hp;have hs:=hw.short;refine au (EA (aa rfl) (GN hw.par)) ((aw (ae (aa rfl) rfl)).trans (zh hw.low S)) ?_
  show(if _ then _ else _)=_
  rw[Y9 (by rw[xF]at hs;show 1+(nm p.1).length<=sizeLine;omega)];rfl
 exact aL (ρ:=[some (tupI (VD ps)),some (tupI (VF ps))]) rfl ((ao (bq ((aw (ae (aa rfl) (ae (aa rfl) rfl))).trans hn))).trans (aD ((dD rfl (ae hc rfl)).trans (GR h S))))
def EC(h:R8 ps)(S:Pz):fD [.str (Txt.join " " (RL ps))] S=.ok (.lst (ps.map λp=>D.str (word p))) S:=by
 have z:(2000:Nat)<=sizeLine:=by decide
 have hj:=EB h;by_cases h0:ps=[]
 .subst h0;kernel_rfl
 .have hw0:RL ps≠[]:=λe=>h0 (Um.mp e)
  have hne:Txt.join (" ":Str) (RL ps)≠("":Str):=λe=>by
   have e2:=Ql (λx:Str=>x.cps.toList.length) e;simp only[mi,eU,u4]at e2;obtain⟨p,r,rfl⟩:=M7 h0;have hs:=(h.all p (.head _)).short
   have e3:(word p).length=(word p).cps.toList.length:=by simp[Str.length]
   have e4:("":Str).cps.toList.length=0:=by decide
   rw[e4]at e2;simp only[RL,Y8,Zf]at e2;omega
  have ht:tV (Px eY (af 0) (eC (.str ""))) [some (.str (Txt.join " " (RL ps)))] S=.ok true S:=by
   refine aV (au (aa rfl) rfl ?_);show some (D.bl (!decide (Txt.join (" ":Str) (RL ps)=("":Str))))=_
   rw[Yo hne];rfl
  have hs:dZ S (.str (Txt.join " " (RL ps))) [.str " "]=.ok (.lst (ps.map λp=>D.str (word p))) S:=by
   have e:=fG hw0 (λw hw=>by
    obtain⟨p,hp,rfl⟩:=Yt.mp hw
    exact(h.all p hp).free)
   have hl:=h.len
   have c1:(Builtin.Str.partsBetween (Txt.join " " (RL ps)) (Builtin.Str.occurrences (Txt.join " " (RL ps)) " " 0 (Txt.join (" ":Str) (RL ps)).length ((Txt.join (" ":Str) (RL ps)).length+1)) (" ":Str).length).length<=sizeLine:=by
    rw[length_partsBetween];have:=StrLaws.occ_length_le (Txt.join (" ":Str) (RL ps)) " " 0 (Txt.join (" ":Str) (RL ps)).length ((Txt.join (" ":Str) (RL ps)).length+1)
    omega
   unfold dZ;simp only
   rw[Y9 ⟨by decide,by omega,c1,by rw[e,Yi];omega⟩,e,Za];rfl
  exact aL (ρ:=[some (.str (Txt.join " " (RL ps)))]) rfl (aD ((oo ht).trans ((dD (aa rfl) (ae rfl rfl)).trans hs)))
abbrev rdB:SM:=(aA (QQ (PD.T8 (tV (Px bR (af 3) (eC (.int (16))))) (PD.fM (tV (az gA (ag (af 4) ak))))) mM bc) (aA (bN (pL dv (af 1) (ag (az eu (ag (UG lg (af 4) (fc (eC (.int 1))) Xp) ak)) ak))) (bN (pL dv (af 2) (ag (wU MB (Px uU (af 4) (eC (.int 0)))) ak)))))
def GU{p:Nat×Int}(hw:X3 p)(hi:i<16)(x:Option D){S0:Pz}{A B:List D}(hA:A.length<=16)(hB:B.length<=16):
  rdB [x,some (.ref S0.length),some (.ref (S0.length+1)),some (.int (i:Int)),some (.str (word p))] (S0++[.lst A,.lst B])=.ok (.nx [x,some (.ref S0.length),some (.ref (S0.length+1)),some (.int (i:Int)),some (.str (word p))]) (S0++[.lst (A++[.int (p.1:Int)]),.lst (B++[.int p.2])]):=by
 have z:(100:Nat)<=sizeLine:=by decide
 have hs:=hw.short
 have t1:∀S,tV (Px bR (af 3) (eC (.int (16)))) [x,some (.ref S0.length),some (.ref (S0.length+1)),some (.int (i:Int)),some (.str (word p))] S=.ok false S:=λS=>by
  refine aV (au (aa rfl) rfl ?_)
  rw[ng,Yo (by omega)]
 have g1:(S0++[SO.lst A,SO.lst B])[S0.length]?=some (.lst A):=by simp
 have s1:(S0++[SO.lst A,SO.lst B]).set S0.length (.lst (A++[.int (p.1:Int)]))=S0++[.lst (A++[.int (p.1:Int)]),.lst B]:=by simp
 have g2:(S0++[SO.lst (A++[.int (p.1:Int)]),SO.lst B])[S0.length+1]?=some (.lst B):=by simp
 have s2:(S0++[SO.lst (A++[.int (p.1:Int)]),SO.lst B]).set (S0.length+1) (.lst (B++[.int p.2]))=S0++[.lst (A++[.int (p.1:Int)]),.lst (B++[.int p.2])]:=by simp
 have a1:=nk (v:=.int (p.1:Int)) g1 (by omega)
 rw[s1]at a1
 have a2:=nk (v:=.int p.2) g2 (by omega)
 rw[s2]at a2;exact(ao ((bz ((sZ (t1 _)).trans (dC (b:=true) (aV ((aw (ae (aa rfl) rfl)).trans (zj hw _)))))).trans rfl)).trans
  ((ao (bq ((oZ (aa rfl) (vm g1) (ae ((aw (ae (nh (aa rfl) (fR rfl) rfl (hw.rest _)) rfl)).trans (Cj hw.pos hw.low _)) rfl)).trans a1))).trans
  (bq ((oZ (aa rfl) (vm g2) (ae (Ez (au (aa rfl) rfl (u5 (i:=0) (c:=YG p.2) (by omega) (by rw[iZ];rfl))) (GO hw.par)) rfl)).trans a2)))
theorem AU(x:Option D){S0:Pz}:∀(ps:List (Nat×Int))(i:Nat)(A B:List D)(r3 r4:Option D),(∀p∈ps,X3 p)->i+ps.length<=16->A.length=i->B.length=i->∃a3 a4,
  forL (.tp [.nm 3,.nm 4]) rdB (PD.numbered i (ps.map λp=>D.str (word p))) [x,some (.ref S0.length),some (.ref (S0.length+1)),r3,r4] (S0++[.lst A,.lst B])=.ok (.nx [x,some (.ref S0.length),some (.ref (S0.length+1)),a3,a4]) (S0++[.lst (A++(VD ps).map .int),.lst (B++(VF ps).map .int)])
 |[],i,A,B,r3,r4,_,_,_,_=>⟨r3,r4,by simp[PD.numbered,forL]⟩
 |p::ps,i,A,B,r3,r4,h,hi,hA,hB=>by
  simp only[Yn]at hi
  have t:=GU (h p (.head _)) (i:=i) (by omega) x (S0:=S0) (A:=A) (B:=B) (by omega) (by omega)
  obtain⟨a3,a4,e⟩:=AU x (S0:=S0) ps (i+1) (A++[.int (p.1:Int)]) (B++[.int p.2]) (some (.int (i:Int))) (some (.str (word p))) (λq hq=>h q (.tail _ hq)) (by omega) (by simp;omega) (by simp;omega)
  refine⟨a3,a4,?_⟩;rw[Y8,PD.numbered,bu (r1:=[x,some (.ref S0.length),some (.ref (S0.length+1)),some (.int (i:Int)),some (.str (word p))]) rfl t,e];simp
def AV(h:R8 ps)(S:Pz):∃S',iU [.str (Txt.join " " (RL ps))] S=.ok (.tup [tupI (VD ps),tupI (VF ps)]) (S++S'):=by
 have z:(100:Nat)<=sizeLine:=by decide
 obtain⟨a3,a4,e⟩:=AU (some (.str (Txt.join " " (RL ps)))) (S0:=S) ps 0 [] [] none none h.all (by have:=h.len;omega) rfl rfl
 simp only[Qz]at e;refine⟨[.lst ((VD ps).map .int),.lst ((VF ps).map .int)],?_⟩
 have hi:tV (eB jC (ag (af 0) (ag (eC (.ty "str")) ak))) [some (.str (Txt.join " " (RL ps))),none,none,none,none] S=.ok true S:=aV (aR (ae (aa rfl) (ae rfl rfl)) (by simp[jC,Xy,gD]))
 have hen:z6 (ag (az fD (ag (af 0) ak)) ak) [some (.str (Txt.join " " (RL ps))),some (.ref S.length),some (.ref (S.length+1)),none,none] (S++[.lst [],.lst []])=.ok (PD.numbered 0 (ps.map λp=>D.str (word p))) (S++[.lst [],.lst []]):=by unfold z6;rw[ae ((aw (ae (aa rfl) rfl)).trans (EC h _)) rfl,R.Pq];rfl
 have n1:eNew ak [some (.str (Txt.join " " (RL ps))),none,none,none,none] S=.ok (.ref S.length) (S++[.lst []]):=rfl
 have n2:eNew ak [some (.str (Txt.join " " (RL ps))),some (.ref S.length),none,none,none] (S++[.lst []])=.ok (.ref (S.length+1)) (S++[.lst [],.lst []]):=by show R.ok (D.ref (S++[SO.lst []]).length) ((S++[.lst []])++[.lst []])=_;rw[Yp,Zv];rfl
 have f1:fh (S++[.lst ((VD ps).map .int),.lst ((VF ps).map .int)]) [.ref S.length]=some (tupI (VD ps)):=by simp[fh,cc]
 have f2:fh (S++[.lst ((VD ps).map .int),.lst ((VF ps).map .int)]) [.ref (S.length+1)]=some (tupI (VF ps)):=by simp[fh,cc]
 exact aL (ρ:=[some (.str (Txt.join " " (RL ps))),none,none,none,none]) rfl ((ao ((bz (dC hi)).trans rfl)).trans ((ao (aC n1)).trans ((ao (aC n2)).trans ((ao ((g9 hen).trans e)).trans (aD (hU (ae (aR (ae (aa rfl) rfl) f1) (ae (aR (ae (aa rfl) rfl) f2) rfl)) (by show 2<=sizeLine;omega)))))))
def gw(t:Int):Int->List Int->Option Int
 |_,[]=>none
 |acc,x::r=>if x>t*acc+1 then some acc else gw t (acc+x) r
def GV:Option Int->D
 |none=>.non
 |some a=>.int a
theorem AW{t:Int}(ht:dH t)(S:Pz)(r0:Option D):∀(l:List Int)(acc:Int)(r3:Option D),
  (∀a,gw t acc l=some a->forL (.nm 3) (aA (QQ (tV (Px X8 (af 3) (Px aY (Px dn (af 1) (af 2)) (eC (.int 1))))) (aT (af 2)) bc) (aN 2 (Px aY (af 2) (af 3)))) (l.map .int) [r0,some (.int t),some (.int acc),r3] S=.ok (.rt (.int a)) S)/\
  (gw t acc l=none->∃ρ,forL (.nm 3) (aA (QQ (tV (Px X8 (af 3) (Px aY (Px dn (af 1) (af 2)) (eC (.int 1))))) (aT (af 2)) bc) (aN 2 (Px aY (af 2) (af 3)))) (l.map .int) [r0,some (.int t),some (.int acc),r3] S=.ok (.nx ρ) S)
 |[],acc,r3=>⟨λa h=>(by cases h),λ_=>⟨_,rfl⟩⟩
 |x::l,acc,r3=>by
  have hm:dn S (.int t) (.int acc)=some (.int (t*acc)):=dX (.inl ht);unfold gw;by_cases hx:x>t*acc+1
  .rw[Y9 hx]
   refine⟨λa h=>?_,λh=>by cases h⟩
   cases h;rw[Y8];refine Gi (r1:=[r0,some (.int t),some (.int acc),some (.int x)]) rfl ?_;have hx':t*acc+1<x:=hx;simp[aA,QQ,aT,tV,Px,af,eC,R.bind,R.of,hm,aY,mP,hx']
  .rw[Yj hx];have hx':¬(t*acc+1<x):=hx
   have st:(aA (QQ (tV (Px X8 (af 3) (Px aY (Px dn (af 1) (af 2)) (eC (.int 1))))) (aT (af 2)) bc) (aN 2 (Px aY (af 2) (af 3)))) [r0,some (.int t),some (.int acc),some (.int x)] S=.ok (.nx [r0,some (.int t),some (.int (acc+x)),some (.int x)]) S:=by simp[aA,QQ,bc,aN,tV,Px,af,eC,R.bind,R.of,hm,aY,mP,hx']
   obtain⟨h1,h2⟩:=AW ht S r0 l (acc+x) (some (.int x));rw[Y8,bu (r1:=[r0,some (.int t),some (.int acc),some (.int x)]) rfl st];exact⟨h1,h2⟩
def ED(h:xs.length<=16):wJ S [.tup (xs.map .int)]=some (.lst ((gE xs).map .int)):=by
 have e:n8 S (.tup (xs.map .int))=some xs:=by simp[n8,cc,ji]
 show(match n8 S (.tup (xs.map .int)) with
  |some ns=>if ns.length<64 then some (D.lst ((gE ns).map .int)) else none
  |none=>none)=_
 rw[e]
 exact Y9 (by omega)
def tH{t:Int}(ht:dH t)(hl:xs.length<=16)(S:Pz):bw [.tup (xs.map .int),.int t] S=.ok (GV (gw t 0 (gE xs))) S:=by
 obtain⟨h1,h2⟩:=AW ht S (some (.tup (xs.map .int))) (gE xs) 0 none;have hs:(eB wJ (ag (af 0) ak)) [some (.tup (xs.map .int)),some (.int t),some (.int 0),none] S=.ok (.lst ((gE xs).map .int)) S:=aR (xs:=[.tup (xs.map .int)]) rfl (ED hl);refine aL (ρ:=[some (.tup (xs.map .int)),some (.int t),none,none]) rfl ?_;cases ha:gw t 0 (gE xs) with
 |some a=>exact(ao (aC (d:=.int 0) rfl)).trans (dS ((du hs rfl).trans (h1 a ha)))
 |none=>
  obtain⟨ρ,e⟩:=h2 ha;exact(ao (aC (d:=.int 0) rfl)).trans ((ao ((du hs rfl).trans e)).trans (aD rfl))
def zk(hr:Row xs)(S:Pz):aP [.tup (xs.map .int)] S=.ok .non S:=by have e:=w9 (S:=S) hr.aau;rw[hr.is]at e;exact gQ (ρ:=[some (.tup (xs.map .int))]) rfl (bz (dC (aV ((aw (xs:=[.tup (xs.map .int)]) rfl).trans e))))
def qE{n f:FM}{x:D}{p:Option Int}{c:Int}(S:Pz)(h1:n [x] S=.ok .non S)(h2:f [x,.int c] S=.ok (GV p) S):QB 1 (aA (bN (az n (ag (af 0) ak))) (aT (Px (rl false) (az f (ag (af 0) (ag (eC (.int c)) ak))) (eC .non)))) [x] S=.ok (.bl p.isNone) S:=by
 cases p with
 |none=>simp[QB,aA,bN,aT,Px,az,eC,af,ag,ak,R.bind,R.of,h1,h2,GV,rl]
 |some a=>simp[QB,aA,bN,aT,Px,az,eC,af,ag,ak,R.bind,R.of,h1,h2,GV,rl]
def GW(h:Row xs)(hp:p.length=xs.length)(hq:∀q∈p,q = -1\/q=1)(S:Pz):dN [tupI p,tupI xs] S=.ok (.bl true) S:=by
 have z:(100:Nat)<=sizeLine:=by decide
 have hl:=h.2
 have hc:=ez (enc:=D.int) (out:=λ_:Int=>D.bl true) (e:=Px bR (eB yB (ag (af 0) ak)) (eC (.int 1))) (it:=bJ (af 0) bH) (PB:=[]) (tl:=[]) (r:=[some (tupI p),some (.int xs.length)]) (S:=S) p (ql rfl rfl) (by omega) rfl λq hq'=>by
  rcases hq q hq' with rfl|rfl
  .exact au (aR (ae (aa rfl) rfl) rfl) rfl rfl
  .exact au (aR (ae (aa rfl) rfl) rfl) rfl rfl
 have ha:k8 S [.lst (p.map λ_:Int=>D.bl true)]=some (.bl true):=by rw[iW (f:=λ_=>true),Zj.mpr λ_ _=>rfl]
 have es:cf [tupI p,.int xs.length] S=.ok (.bl true) S:=aL (ρ:=[some (tupI p),some (.int xs.length)]) rfl (aD ((kg ((aw (ae (aa rfl) (ae (aa rfl) rfl))).trans (AR hp (by omega) S))).trans (aR (ae hc rfl) ha)))
 exact aL (ρ:=[some (tupI p),some (tupI xs)]) rfl ((ao (bq ((aw (ae (aa rfl) rfl)).trans (fU h S)))).trans (aD ((aw (ae (aa rfl) (ae (aR (ae (aa rfl) rfl) mw) rfl))).trans es)))
theorem AX:∀(xs p:List Int),((xs.zip p).map λe=>e.1*e.2).sum=RC xs p
 |[],p=>by cases p<;>rfl
 |_::_,[]=>rfl
 |x::xs,q::p=>by rw[List.zip_cons_cons,Y8,Zf,AX xs p];rfl
def EE(h:Row xs)(hp:p.length=xs.length)(hq:∀q∈p,-1<=q/\q<=1)(S:Pz):iV [tupI xs,tupI p] S=.ok (.int (RC xs p)) S:=by
 have z:(100:Nat)<=sizeLine:=by decide
 have hl:=h.2;have hn:bW [tupI xs,tupI p] S=.ok .non S:=gQ (ρ:=[some (tupI xs),some (tupI p)]) rfl ((bz (dC (b:=true) (aV ((aw (ae (aa rfl) (ae (aa rfl) rfl))).trans (AS h hp hq S))))).trans rfl)
 have hz:yF (ag (af 0) (ag (af 1) ak)) [some (tupI xs),some (tupI p)] S=.ok ((xs.zip p).map λe=>D.tup [.int e.1,.int e.2]) S:=by unfold yF;rw[ae (aa rfl) (ae (aa rfl) rfl),R.Pq];show R.ok (PD.mU (xs.map .int) (p.map .int)) S=_;rw[qD]
 have hc:=sY (x1:=λe:Int×Int=>D.int e.1) (x2:=λe=>D.int e.2) (out:=λe=>D.int (e.1*e.2)) (e:=Px dn (af 0) (af 1)) (PB:=[]) (tl:=[]) (xs.zip p) hz (by rw[List.length_zip];omega) rfl λe he=>au (aa rfl) (aa rfl) (dX (.inr (sml (hq _ (Wa he).2))))
 have hs:oy S [.lst ((xs.zip p).map λe=>D.int (e.1*e.2))]=some (.int (RC xs p)):=by
  have e:((xs.zip p).map λe=>D.int (e.1*e.2))=((xs.zip p).map λe=>e.1*e.2).map .int:=by rw[Za];rfl
  rw[e,Je,AX]
 exact aL (ρ:=[some (tupI xs),some (tupI p)]) rfl ((ao (bq ((aw (ae (aa rfl) (ae (aa rfl) rfl))).trans hn))).trans (aD (aR (ae hc rfl) hs)))
def xG{k:Nat}{g:PD.G}{t:TM}{e:EM}{xs ys:List D}(h1:it r S=.ok xs S1)(hl:xs.length<=sizeLine)(h2:cI g t e xs (eZ k PB r) S1=.ok ys S2):br it k PB g t e r S=.ok (.lst ys) S2:=by unfold br;rw[h1,R.Pq,Y9 hl,h2,R.Pq]
def mx(g h:Int):Int:=if (if h<0 then -h else h)>g then (if h<0 then -h else h) else g
def gO(T:List (Int×Int))(k:Int):Option Int:=(T.find? λe=>decide (e.1=k)).map (·.2)
def Jx{k c:Int}{e:Int×Int}:e∈pT T k c↔e=(k,c)\/(e∈T/\e.1≠k):=by
 unfold pT;cases ha:T.any (λe=>decide (e.1=k)) with
 |true=>
  rw[Y9 rfl,Yt];constructor
  .rintro⟨d,hd,rfl⟩;by_cases h:d.1=k
   .rw[Y9 h,h];exact .inl rfl
   .rw[Yj h];exact .inr ⟨hd,h⟩
  .rintro(rfl|⟨he,h⟩)
   .rw[Mh]at ha;obtain⟨d,hd,z⟩:=ha;have z:=Zl z
    exact⟨d,hd,by rw[Y9 z,z]⟩
   .exact⟨e,he,by rw[Yj h]⟩
 |false=>
  rw[Yj Ym,Yx,Yq];rw[Wc]at ha;constructor
  .rintro(h|h)
   .exact .inr ⟨h,λz=>ha e h (Yr z)⟩
   .exact .inl h
  .rintro(h|⟨h,_⟩)
   .exact .inr h
   .exact .inl h
def GX{k u:Int}(h:gO T k=some u):(k,u)∈T:=by
 unfold gO at h;cases hf:T.find? λe=>decide (e.1=k) with
 |none=>rw[hf]at h;cases h
 |some d=>
  rw[hf]at h;have h1:=List.find?_some hf
  have h1:d.1=k:=by simpa using h1
  have h2:=List.mem_of_find?_eq_some hf;cases h;rw[<- h1];exact h2
def mn(a b:Int):Int:=if b<a then b else a
def GY(T:List (Int×Int))(k:Int):gq (aZ T) (.inl k)=(gO T k).map .int:=by
 unfold gq gO aZ;rw[Mp]
 have e:((λkv:KD×D=>decide (kv.1=.inl k))∘λe:Int×Int=>((.inl e.1:KD),D.int e.2))=λe=>decide (e.1=k):=by
  funext e;show decide ((Sum.inl e.1:KD)=.inl k)=decide (e.1=k);rw[Qr]
  exact⟨V9,λh=>by rw[h]⟩
 rw[e];cases T.find? λe=>decide (e.1=k)<;>rfl
def set_same{o:SO}(hm:S[m]?=some o):S.set m o=S:=by have RZ:m<S.length:=(Yc.mp hm).1;have e:=(Yc.mp hm).2;rw[<- e];exact Qk RZ
abbrev ssI:SM:=(aA (aN 6 (Px aY (af 3) (Px dn (af 5) (af 1)))) (aA (aN 7 (eB wm (ag (af 4) (ag (eB yB (ag (af 6) ak)) ak)))) (lL g0 (eB uy (ag (af 7) (ag (fe (af 2) (af 6) (af 7)) ak))) (af 2) (af 6))))
def EF{x w g:Int}(hq:-1<=q/\q<=1)(hm:S[m]?=some (.PN (aZ W)))(hz:W.length<3000)(r0 r6 r7:Option D):
  ssI [r0,some (.int x),some (.ref m),some (.int w),some (.int g),some (.int q),r6,r7] S=.ok (.nx [r0,some (.int x),some (.ref m),some (.int w),some (.int g),some (.int q),some (.int (w+q*x)),some (.int (mx g (w+q*x)))]) (S.set m (.PN (aZ (pT W (w+q*x) (mn (mx g (w+q*x)) ((gO W (w+q*x)).getD (mx g (w+q*x)))))))):=by
 have hd:cR S (.ref m)=some (aZ W):=by simp[cR,hm]
 have z:(3000:Nat)<=sizeLine:=by decide
 refine(ao (aC (au (aa rfl) (au (aa rfl) (aa rfl) (dX (.inl ⟨by omega,by omega⟩))) rfl))).trans ?_
 refine(ao (aC (aR (z:=.int (mx g (w+q*x))) (ae (aa rfl) (ae (aR (ae (aa rfl) rfl) rfl) rfl)) rfl))).trans ?_
 have hg:fe (af 2) (af 6) (af 7) [r0,some (.int x),some (.ref m),some (.int w),some (.int g),some (.int q),some (.int (w+q*x)),some (.int (mx g (w+q*x)))] S=.ok (.int ((gO W (w+q*x)).getD (mx g (w+q*x)))) S:=by
  have e:(gq (aZ W) (.inl (w+q*x))).getD (.int (mx g (w+q*x)))=.int ((gO W (w+q*x)).getD (mx g (w+q*x))):=by rw[GY];cases gO W (w+q*x)<;>rfl
  rw[<- e];exact mj (aa rfl) hd (aa rfl) (aa rfl) hd rfl
 refine u6 (aR (z:=.int (mn (mx g (w+q*x)) ((gO W (w+q*x)).getD (mx g (w+q*x))))) (ae (aa rfl) (ae hg rfl)) rfl) (aa rfl) (aa rfl) ?_
 have h1:nW S (.ref m)=true:=by simp[nW,hm]
 unfold g0;rw[Y9 h1];unfold sh;simp only[hm,lS]
 rw[Y9 (by simp[aZ];omega),xn]
abbrev ssO:SM:=(dU (bJ (eC (.tup (([(-1),(1)]:List Int).map .int))) bH) (.nm 5) (aA (aN 6 (Px aY (af 3) (Px dn (af 5) (af 1)))) (aA (aN 7 (eB wm (ag (af 4) (ag (eB yB (ag (af 6) ak)) ak)))) (lL g0 (eB uy (ag (af 7) (ag (fe (af 2) (af 6) (af 7)) ak))) (af 2) (af 6)))))
def EG(T:List (Int×Int)):(aZ T).map PD.pairD=T.map λe=>D.tup [.int e.1,.int e.2]:=by unfold aZ;rw[Za];rfl
theorem xH:∀T:List (Int×Int),n9 (aZ T)=some (T.map (·.2))
 |[]=>rfl
 |e::T=>by show n9 ((.inl e.1,.int e.2)::aZ T)=_;unfold n9;rw[xH T];rfl
def K1{f:Pz->D->Option D}{x z:D}(h:a r S=.ok x S1)(hz:f S1 x=some z):X7 f a r S=.ok z S1:=by unfold X7;rw[h,R.Pq,hz];rfl
abbrev lsB:SM:=(aN 1 (az cu (ag (af 1) (ag (af 2) ak))))
def sI(x w g q:Int)(W:List (Int×Int)):List (Int×Int):=pT W (w+q*x) (mn (mx g (w+q*x)) ((gO W (w+q*x)).getD (mx g (w+q*x))))
def sE(x:Int)(W:List (Int×Int))(e:Int×Int):List (Int×Int):=sI x e.1 e.2 1 (sI x e.1 e.2 (-1) W)
def sT(x:Int)(T:List (Int×Int)):List (Int×Int):=T.foldl (sE x) []
def sF(xs:List Int)(T:List (Int×Int)):List (Int×Int):=xs.foldl (λT x=>sT x T) T
def EH(x:Int)(W:List (Int×Int))(e:Int×Int):(sE x W e).length<=W.length+2:=by have h1:=u9 W (e.1 + -1*x) (mn (mx e.2 (e.1 + -1*x)) ((gO W (e.1 + -1*x)).getD (mx e.2 (e.1 + -1*x))));have h2:=u9 (sI x e.1 e.2 (-1) W) (e.1+1*x) (mn (mx e.2 (e.1+1*x)) ((gO (sI x e.1 e.2 (-1) W) (e.1+1*x)).getD (mx e.2 (e.1+1*x))));unfold sE sI at *;omega
theorem xI(x:Int):∀(T W:List (Int×Int)),(T.foldl (sE x) W).length<=W.length+2*T.length
 |[],W=>by simp
 |e::T,W=>by have h1:=EH x W e;have h2:=xI x T (sE x W e);rw[Mj,Yn];omega
def Jy(x:Int)(T:List (Int×Int)):(sT x T).length<=2*T.length:=by have:=xI x T [];simpa[sT] using this
def K2(T:List (Int×Int))(k c:Int):pT T k c≠[]:=λh=>by have:=(D0 T k c k).mpr (.inr rfl);rw[h]at this;obtain⟨e,he,_⟩:=this;cases he
def K3(x:Int)(h:T≠[]):sT x T≠[]:=by
 have:∀(T W:List (Int×Int)),(T≠[]\/W≠[])->T.foldl (sE x) W≠[]:=λT=>by
  induction T with
  |nil=>intro W h;exact h.resolve_left (λz=>z rfl)
  |cons e T ih=>intro W _;exact ih (sE x W e) (.inr (K2 _ _ _))
 exact this T [] (.inl h)
def BdT(B:Int)(T:List (Int×Int)):Prop:=∀e∈T,-B<=e.1/\e.1<=B/\0<=e.2/\e.2<=B
def K4{g h B:Int}(hg:0<=g/\g<=B)(hh:-B<=h/\h<=B):0<=mx g h/\mx g h<=B:=by unfold mx;split<;>split<;>omega
def Hl{B x w g:Int}(hW:BdT B W)(hk:-B<=w+q*x/\w+q*x<=B)(hg:0<=g/\g<=B):BdT B (sI x w g q W):=λe he=>by
 rcases Jx.mp he with h|⟨h,_⟩
 .have h1:=K4 hg hk;rw[h];refine⟨hk.1,hk.2,?_⟩;show 0<=mn _ _/\mn _ _<=B;cases ho:gO W (w+q*x) with
  |none=>
   show 0<=mn _ _/\mn _ _<=B;unfold mn;simp only[Vz];split<;>exact h1
  |some u=>
   have hu:=hW _ (GX ho);unfold mn;simp only[Option.getD_some];split
   .exact⟨hu.2.2.1,hu.2.2.2⟩
   .exact h1
 .exact hW e h
theorem AY{B x:Int}(hx:0<=x):∀(T W:List (Int×Int)),BdT B T->BdT (B+x) W->BdT (B+x) (T.foldl (sE x) W)
 |[],W,_,hW=>hW
 |e::T,W,hT,hW=>by
  have h:=hT e (.head _);refine AY hx T (sE x W e) (λd hd=>hT d (.tail _ hd)) ?_
  exact Hl (Hl hW (by omega) (by omega)) (by omega) (by omega)
theorem Hm:∀(xs:List Int)(B:Int)(T:List (Int×Int)),(∀x∈xs,1<=x)->BdT B T->T≠[]->BdT (B+xs.sum) (sF xs T)/\sF xs T≠[]
 |[],B,T,_,h,hn=>⟨by rw[List.sum_nil,Int.add_zero];exact h,hn⟩
 |x::xs,B,T,hx,h,hn=>by
  have h1:=hx x (.head _)
  have h2:=AY (x:=x) (by omega) T [] h (λ_ z=>nomatch z)
  have h3:=Hm xs (B+x) (sT x T) (λy hy=>hx y (.tail _ hy)) h2 (K3 x hn);rw[Zf,<- Int.add_assoc];exact h3
def Jz{x w g:Int}(r0:Option D)(r5 r6 r7:Option D)(hm:S[m]?=some (.PN (aZ W)))(hz:W.length+2<3000):∃a5 a6 a7,
  forL (.nm 5) ssI (KS.map .int) [r0,some (.int x),some (.ref m),some (.int w),some (.int g),r5,r6,r7] S=.ok (.nx [r0,some (.int x),some (.ref m),some (.int w),some (.int g),a5,a6,a7]) (S.set m (.PN (aZ (sE x W (w,g))))):=by
 have RZ:m<S.length:=(Yc.mp hm).1
 have e1:=EF (S:=S) (x:=x) (w:=w) (g:=g) (q:=-1) (by decide) hm (by omega) r0 r6 r7
 have l1:=u9 W (w + -1*x) (mn (mx g (w + -1*x)) ((gO W (w + -1*x)).getD (mx g (w + -1*x))))
 have e2:=EF (S:=S.set m (.PN (aZ (sI x w g (-1) W)))) (W:=sI x w g (-1) W) (x:=x) (w:=w) (g:=g) (q:=1) (by decide) (Z7 RZ) (by unfold sI;omega) r0 (some (.int (w + -1*x))) (some (.int (mx g (w + -1*x))))
 rw[Wx]at e2;exact⟨_,_,_,(bu (r1:=[r0,some (.int x),some (.ref m),some (.int w),some (.int g),some (.int (-1)),r6,r7]) rfl e1).trans ((bu (r1:=[r0,some (.int x),some (.ref m),some (.int w),some (.int g),some (.int 1),some (.int (w + -1*x)),some (.int (mx g (w + -1*x)))]) rfl e2).trans rfl)⟩
theorem AZ{x:Int}(r0:Option D):∀(T:List (Int×Int))(S:Pz)(W:List (Int×Int))(r3 r4 r5 r6 r7:Option D),S[m]?=some (.PN (aZ W))->W.length+2*T.length<3000->
  ∃r3' r4' Xq WR ZQ:Option D,forL (.tp [.nm 3,.nm 4]) ssO (T.map λe=>D.tup [.int e.1,.int e.2]) [r0,some (.int x),some (.ref m),r3,r4,r5,r6,r7] S=.ok (.nx [r0,some (.int x),some (.ref m),r3',r4',Xq,WR,ZQ]) (S.set m (.PN (aZ (T.foldl (sE x) W))))
 |[],S,W,r3,r4,r5,r6,r7,hm,_=>⟨r3,r4,r5,r6,r7,by rw[List.foldl_nil,set_same hm];rfl⟩
 |e::T,S,W,r3,r4,r5,r6,r7,hm,hz=>by
  rw[Yn]at hz;have RZ:m<S.length:=(Yc.mp hm).1;have l1:=EH x W e
  obtain⟨a5,a6,a7,e1⟩:=Jz (x:=x) (w:=e.1) (g:=e.2) r0 r5 r6 r7 hm (by omega)
  obtain⟨b3,b4,b5,b6,b7,e2⟩:=AZ (x:=x) r0 T (S.set m (.PN (aZ (sE x W e)))) (sE x W e) (some (.int e.1)) (some (.int e.2)) a5 a6 a7 (Z7 RZ) (by omega)
  rw[Wx]at e2;refine⟨b3,b4,b5,b6,b7,?_⟩;rw[Y8];exact(bu (r1:=[r0,some (.int x),some (.ref m),some (.int e.1),some (.int e.2),r5,r6,r7]) rfl ((du (d:=tupI KS) rfl rfl).trans e1)).trans e2
def Ck{x:Int}{n:Nat}(hd:S[n]?=some (.PN (aZ T)))(hT:T.length<=1200):
  cu [.ref n,.int x] S=.ok (.ref S.length) (S.set n (.P0 (aZ T))++[.PN (aZ (sT x T))]):=by
 have hnl:n<S.length:=(Yc.mp hd).1
 have hd':T5 (S++[SO.PN []]) n T:=.inl (by rw[Z1 hnl];exact hd)
 have e0:(S++[SO.PN []]).set n (.P0 (aZ T))=S.set n (.P0 (aZ T))++[.PN []]:=Ui _ _ hnl
 obtain⟨a3,a4,a5,a6,a7,e1⟩:=AZ (x:=x) (some (.ref n)) (m:=S.length) T (S.set n (.P0 (aZ T))++[.PN []]) [] none none none none none (by simp[aZ]) (by simp;omega)
 have e2:(S.set n (.P0 (aZ T))++[SO.PN []]).set S.length (.PN (aZ (sT x T)))=S.set n (.P0 (aZ T))++[.PN (aZ (sT x T))]:=by rw[U6 _ _ (by simp)];simp
 have e1':forL (.tp [.nm 3,.nm 4]) ssO (T.map λe=>D.tup [.int e.1,.int e.2]) [some (.ref n),some (.int x),some (.ref S.length),none,none,none,none,none] (S.set n (.P0 (aZ T))++[.PN []])=.ok (.nx [some (.ref n),some (.int x),some (.ref S.length),a3,a4,a5,a6,a7]) (S.set n (.P0 (aZ T))++[.PN (aZ (sT x T))]):=e1.trans (Ql _ e2);have hi:=xr (ρ:=[some (.ref n),some (.int x),some (.ref S.length),none,none,none,none,none]) (i:=0) rfl hd';rw[EG,e0]at hi;exact aL (ρ:=[some (.ref n),some (.int x),none,none,none,none,none,none]) rfl ((ao (S1:=S++[.PN []]) (aC rfl)).trans ((ao (r1:=[some (.ref n),some (.int x),some (.ref S.length),a3,a4,a5,a6,a7]) ((g9 hi).trans e1')).trans (aD (aa rfl))))
theorem EI{S0:Pz}(r0:Option D):∀(xs:List Int)(S:Pz)(n:Nat)(T:List (Int×Int))(r2:Option D),S[n]?=some (.PN (aZ T))->T.length*2^xs.length<=1024->S0.length<=n->Pre S0 S->
  ∃(S':Pz)(n':Nat)(r2':Option D),forL (.nm 2) lsB (xs.map .int) [r0,some (.ref n),r2] S=.ok (.nx [r0,some (.ref n'),r2']) S'/\S'[n']?=some (.PN (aZ (sF xs T)))/\Pre S0 S'
 |[],S,n,T,r2,hd,_,_,hp=>⟨S,n,r2,rfl,hd,hp⟩
 |x::xs,S,n,T,r2,hd,hz,hn,hp=>by
  have hl:=Jy x T;rw[Yn,Uh]at hz
  have hz1:T.length<=1024:=Yw (Nat.le_mul_of_pos_right _ (Nat.mul_pos (Nat.pow_pos (by decide)) (by decide))) hz
  have e1:=Ck (x:=x) hd (by omega)
  have hz2:(sT x T).length*2^xs.length<=1024:=Yw (Vg _ hl) (by rw[Vq 2,Nat.mul_assoc,Vq 2];exact hz)
  obtain⟨S2,n2,a2,e2,d2,p2⟩:=EI (S0:=S0) r0 xs (S.set n (.P0 (aZ T))++[SO.PN (aZ (sT x T))]) S.length (sT x T) (some (.int x)) (by simp) hz2 hp.len ((hp.set hn _).trans (Pre.app _ _))
  exact⟨S2,n2,a2,(bu (r1:=[r0,some (.ref n),some (.int x)]) rfl (aC ((aw (ae (aa rfl) (ae (aa rfl) rfl))).trans e1))).trans e2,d2,p2⟩
theorem xJ:∀(l:List Int)(n:Int),cX n l=n\/cX n l∈l
 |[],n=>.inl rfl
 |x::l,n=>by
  have h:=xJ l (if x<n then x else n)
  have e:cX n (x::l)=cX (if x<n then x else n) l:=rfl
  rw[e];by_cases hx:x<n
  .rw[Y9 hx]at h ⊢;rcases h with h|h
   .rw[h];exact .inr (.head _)
   .exact .inr (.tail _ h)
  .rw[Yj hx]at h ⊢;rcases h with h|h
   .exact .inl h
   .exact .inr (.tail _ h)
def Cm(h10:xs.length<=10)(hr:Row xs):∃m:Int,(0<=m/\m<=xs.sum)/\∀S,∃S',Ms [tupI xs] S=.ok (.int m) S'/\Pre S S':=by
 obtain⟨hb,hne⟩:=Hm xs 0 [(0,0)] hr.1 (λe he=>by rw[Yq.mp he];decide) (by simp)
 rw[Int.zero_add]at hb;obtain⟨e,T,hT⟩:=M7 hne;refine⟨cX e.2 (T.map (·.2)),?_,λS=>?_⟩
 .have:cX e.2 (T.map (·.2))∈(e::T).map (·.2):=by
   rcases xJ (T.map (·.2)) e.2 with h|h
   .rw[h];exact .head _
   .exact .tail _ h
  obtain⟨d,hd,hq⟩:=Yt.mp this;rw[<- hT]at hd;have:=hb d hd;rw[<- hq];exact⟨this.2.2.1,this.2.2.2⟩
 .have hp:1*2^xs.length<=1024:=by rw[Nat.one_mul];exact Qc (by decide) h10
  obtain⟨S',n,a2,e1,hd,hpre⟩:=EI (S0:=S) (some (tupI xs)) xs (S++[.PN (aZ [(0,0)])]) S.length [(0,0)] none (by simp) hp (Yh _) (Pre.app _ _)
  have hv:wN S' (.ref n)=some (.int (cX e.2 (T.map (·.2)))):=by
   unfold wN
   have:cR S' (.ref n)=some (aZ (sF xs [(0,0)])):=by simp[cR,hd]
   simp only[this,xH,hT,Y8]
  have e0:nR [((eC (.int 0)),(eC (.int 0)))] [some (tupI xs),none,none] S=.ok (.ref S.length) (S++[.PN (aZ [(0,0)])]):=rfl;exact⟨S',aL (ρ:=[some (tupI xs),none,none]) rfl ((ao (bq ((aw (ae (aa rfl) rfl)).trans (fU hr S)))).trans ((ao (aC e0)).trans ((ao ((du (aa rfl) rfl).trans e1)).trans (aD (K1 (aa rfl) hv))))),hpre⟩
theorem vA:∀row:List Int,(∀x∈row,okN x)->0<=row.sum/\row.sum<=1000000000000000*(row.length:Int)
 |[],_=>by simp
 |x::row,h=>by have h1:=h x (.head _);have h2:=vA row λy hy=>h y (.tail _ hy);have a1:=h1.1;have a2:=h1.2;rw[Zf,Yn];omega
def Rw(v:Int):Str:=Str.ofString (toString v)
def kj(h:v.natAbs<1000000000000000000000000000000):cY S [.int v]=some (.str (Rw v)):=by
 have hl:v.natAbs.log2<1920:=by
  by_cases h0:v.natAbs=0
  .rw[h0];decide
  .rw[Nat.log2_lt h0];exact Nat.lt_trans h Y5
 exact Y9 hl
def A0(n:Nat):Rw (n:Int)=nm n:=rfl
def A1{n:Nat}(h:1<=n):(Rw (-(n:Int))).cps.toList=45::(nm n).cps.toList:=by
 obtain⟨m,rfl⟩:∃m,n=m+1:=⟨n-1,by omega⟩
 have e:toString (-((m+1:Nat):Int)) = "-" ++ toString ((m+1:Nat)):=rfl
 have e2:nm (m+1)=Str.ofString (toString (m+1)):=rfl;unfold Rw;rw[e,e2,Str.ofString_eq_toList,Str.ofString_eq_toList];simp
def tJ(v:Int):(∃n:Nat,v=n) \/ ∃n:Nat,1<=n/\v = -(n:Int):=by
 by_cases h:0<=v
 .exact .inl ⟨v.toNat,by omega⟩
 .exact .inr ⟨(-v).toNat,by omega,by omega⟩
def jo(h:v.natAbs<1000000000000000000000000000000):jz (Rw v).cps.toList=true/\intText? (Rw v)=some v/\(Rw v).length<=31/\32∉(Rw v).cps.toList:=by
 rcases tJ v with⟨n,rfl⟩|⟨n,hn,rfl⟩
 .rw[Gc]at h;rw[A0]
  have hl:=eT (n:=n) (k:=29) (by omega)
  have hb:32∉(nm n).cps.toList:=λz=>by have:=fF n 32 z;omega
  by_cases h0:n=0
  .subst h0
   exact⟨by decide +kernel,by decide +kernel,by omega,hb⟩
  .have h1:1<=n:=by omega
   obtain⟨r1,r2⟩:=lG (vx h1 h);rw[Ew h1 h]at r1
   exact⟨vx h1 h,r1,by omega,hb⟩
 .rw[Int.natAbs_neg,Gc]at h
  have hl:=eT (n:=n) (k:=29) (by omega)
  have hc:=A1 hn;obtain⟨c,r,e,c1,c2⟩:=o5 hn;have hlc:=ba (nm n);refine⟨?_,?_,?_,λz=>?_⟩
  .rw[hc,e]
   show(if c=48 then decide (45::c::r=[48]) else decide ((c::r).length<=30)&&(c::r).all ot)=true
   rw[Yj (by omega),Z5]
   refine⟨Yr (by rw[<- e,<- hlc];omega),Zj.mpr λd hd=>Yr (fF n d (by rw[e];exact hd))⟩
  .have:=intText_neg (x:=Rw (-(n:Int))) hc (fF n) (by rw[e];simp) (by rw[ba,hc,Yn,<- hlc];omega)
   rw[this,yT]
  .rw[ba,hc,Yn,<- hlc];omega
  .rw[hc]at z;rcases Yb.mp z with q|q
   .cases q
   .have:=fF n 32 q;omega
def Dq.pre{hs:List (List Int)}{row:List Int}(d:Dq S b κ e δ hs row)(p:Pre S S1):Dq S1 b κ e δ hs row:=
 ⟨by obtain⟨n,h⟩:=d.bx;exact⟨n,(p.old b (bQ h)).trans h⟩,(p.old κ (bQ d.kp)).trans d.kp,(p.old e (bQ d.er)).trans d.er,(p.old δ (bQ d.dk)).trans d.dk,d.n1,d.n2,d.n3,d.n4,d.n5,d.n6⟩
def nu(hl:x.length<=900)(hs:Txt.split x " " = ws)(hw:∀w∈ws,w.length<=1000)(hk:rq ws=true)(S:Pz):bp [.str x] S=.ok (.lst (ws.map .str)) S:=by
 have hm:=jn (x:=x) (by omega) S
 have hi:=tG ws hw S;rw[hs]at hm;rw[hk]at hi
 exact aL (ρ:=[some (.str x),none]) rfl ((ao ((bz (dC (b:=true) (aV (aR (ae (aa rfl) (ae rfl rfl)) (by simp[jC,Xy,gD]))))).trans rfl)).trans ((ao (aC ((dD (aa rfl) (ae rfl rfl)).trans hm))).trans ((ao ((bz (dC (b:=true) (aV ((aw (ae (aa rfl) rfl)).trans hi)))).trans rfl)).trans (aD (aa rfl)))))
def eX(x y:Str):(x++y).cps.toList=x.cps.toList++y.cps.toList:=by show(x.cps++y.cps).toList=_;rw[Vl]
def ln2(a:Str)(v:Int):Str:=a++((" ":Str)++Rw v)
def vB(a:Str)(v:Int):(ln2 a v).cps.toList=a.cps.toList++32::(Rw v).cps.toList:=by unfold ln2;rw[eX,eX,kh];rfl
def EJ(a:Str)(v:Int):ln2 a v=Txt.join (" ":Str) [a,Rw v]:=fL (by rw[vB,mi,eU];rfl)
def A3:∀a∈zg,32∉a.cps.toList/\a.length<=5/\decide (a=("put":Str))=false/\decide (a=("take":Str))=false/\decide (a=("back":Str))=false:=by decide +kernel
def GZ{a:Str}(ha:a∈zg)(hv:v.natAbs<1000000000000000000000000000000)(S:Pz):bp [.str (ln2 a v)] S=.ok (.lst [.str a,.str (Rw v)]) S:=by
 obtain⟨n1,n2,n3,n4⟩:=jo hv;obtain⟨a1,a2,a3,_⟩:=A3 a ha;refine nu (ws:=[a,Rw v]) ?_ ?_ ?_ ?_ S
 .have:=ba a;have:=ba (Rw v);rw[ba,vB,Yp,Yn];omega
 .rw[EJ]
  refine fG (by simp) λw hw=>?_
  simp only[Yb,Yy,Zn]at hw;rcases hw with rfl|rfl
  .exact a1
  .exact n4
 .intro w hw;simp only[Yb,Yy,Zn]at hw;rcases hw with rfl|rfl<;>omega
 .rw[rq,n1,Vj,Yj (V8 a3)];exact Yr ha
abbrev alone:List Str:=["row","total","even","swing","every"]
def xK:∀w∈alone,32∉w.cps.toList/\w.length<=5/\rq [w]=true/\decide (w=("put":Str))=false/\decide (w=("take":Str))=false/\decide (w=("back":Str))=false:=by decide +kernel
def G0(h:w∈alone)(S:Pz):bp [.str w] S=.ok (.lst [.str w]) S:=by
 obtain⟨h1,h2,h3,_⟩:=xK w h
 exact nu (ws:=[w]) (by omega) (vt h1) (λu hu=>by rw[Yq.mp hu];omega) h3 S
section
variable{S S1:Pz}{b κ e δ:Nat}{hs:List (List Int)}{row:List Int}(d:Dq S b κ e δ hs row)
include d
def EK(r:Rp)(hr:r[0]?=some (some (.ref δ))):dy "Keeper" "row" eN (jD "Desk" "keeper" (af 0)) ak r S=.ok (tI row) S:=
 (gk (iB (aa hr) (bh d.dk) (Jo _)) (bh d.kp) (LQ _ _) rfl).trans (aL (ρ:=[some (.ref κ)]) rfl (aD (iB (aa rfl) (bh d.kp) (Cb _ _))))
def G1{a:Str}(ha:a∈zg)(hv:v.natAbs<1000000000000000000000000000000){r:D}(hd:KTD.datumAt a cv=some (some nf))(hf:nf.2 [tI row,.int v] S=.ok r S1):aB [.ref δ,.str (ln2 a v)] S=.ok r S1:=by
 obtain⟨_,_,t1,t2,t3⟩:=A3 a ha;obtain⟨_,n2,n3,_⟩:=jo hv;have ht:∀(k:Str)(r3:Option D),tV (Px bR (Px QV (af 2) (eC (.int 0))) (eC (.str k))) [some (.ref δ),some (.str (ln2 a v)),some (.lst [.str a,.str (Rw v)]),r3] S=.ok (decide (a=k)) S:=λk r3=>aV (au (au (aa rfl) rfl rfl) rfl rfl);have t1':=ht "put" none
 have t2':=ht "take" none
 have t3':=ht "back" none
 rw[t1]at t1';rw[t2]at t2';rw[t3]at t3';refine aL (ρ:=[some (.ref δ),some (.str (ln2 a v)),none,none]) rfl ?_;refine(ao (aC ((aw (ae (aa rfl) rfl)).trans (GZ ha hv S)))).trans ?_;refine(ao ((bz t1').trans rfl)).trans ?_;refine(ao ((bz t2').trans rfl)).trans ?_;refine(ao ((bz t3').trans rfl)).trans ?_;refine(ao (aC (EK d _ rfl))).trans ?_;refine(ao ((bz (aV (au (aR (ae (aa rfl) rfl) rfl) rfl rfl))).trans rfl)).trans ?_
 exact aD ((xB (au (aa rfl) rfl rfl) hd (ae (aa rfl) (ae (aR (ae (au (aa rfl) rfl rfl) rfl) (kr (by omega) n2)) rfl))).trans hf)
def G2(h:w∈alone){r:D}(hd:KTD.datumAt w dR=some (some nf))(hf:nf.2 [tI row] S=.ok r S1):aB [.ref δ,.str w] S=.ok r S1:=by
 obtain⟨_,_,_,t1,t2,t3⟩:=xK w h;have ht:∀(k:Str)(r3:Option D),tV (Px bR (Px QV (af 2) (eC (.int 0))) (eC (.str k))) [some (.ref δ),some (.str w),some (.lst [.str w]),r3] S=.ok (decide (w=k)) S:=λk r3=>aV (au (au (aa rfl) rfl rfl) rfl rfl);have t1':=ht "put" none
 have t2':=ht "take" none
 have t3':=ht "back" none
 rw[t1]at t1';rw[t2]at t2';rw[t3]at t3';refine aL (ρ:=[some (.ref δ),some (.str w),none,none]) rfl ?_;refine(ao (aC ((aw (ae (aa rfl) rfl)).trans (G0 h S)))).trans ?_;refine(ao ((bz t1').trans rfl)).trans ?_;refine(ao ((bz t2').trans rfl)).trans ?_;refine(ao ((bz t3').trans rfl)).trans ?_;refine(ao (aC (EK d _ rfl))).trans ?_;exact dS ((hJ (aV (au (aR (ae (aa rfl) rfl) rfl) rfl rfl))).trans (aD ((xB (au (aa rfl) rfl rfl) hd (ae (aa rfl) rfl)).trans hf)))
end
theorem zm:∀xs:List Int,Wo KS xs xs.sum
 |[]=>rfl
 |x::xs=>⟨1,by decide,by
  rw[Zf,show x+xs.sum-x*1=xs.sum by omega]
  exact zm xs⟩
theorem A4:∀{xs:List Int},(∀x∈xs,1<=x)->0<=xs.sum
 |[],_=>Us _
 |x::xs,h=>by have h1:=h x (.head _);have h2:=A4 λy hy=>h y (.tail _ hy);rw[Zf];omega
def K5(hl:ys.length=xs.length)(hx:∀x∈xs,okN x)(hy:∀y∈ys,-1<=y/\y<=1)(ZP:xs.length<=16):∃ps,R8 ps/\(∀p∈ps,p.1<1000000000000000)/\VD ps=xs/\VF ps=ys:=by
 refine⟨(xs.zip ys).map λe=>(e.1.toNat,e.2),⟨λp hp=>?_,by rw[Yi,List.length_zip];omega⟩,λp hp=>?_,?_,?_⟩
 .obtain⟨e,he,rfl⟩:=Yt.mp hp;have h1:=hx _ (Wa he).1;have h2:=hy _ (Wa he).2
  exact⟨by have:=h1.1;show 1<=e.1.toNat;omega,by have:=h1.2;show e.1.toNat<_;omega,h2⟩
 .obtain⟨e,he,rfl⟩:=Yt.mp hp;have h1:=hx _ (Wa he).1;have:=h1.2;show e.1.toNat<_;omega
 .rw[VD,Za]
  have e:(xs.zip ys).map ((λp:Nat×Int=>(p.1:Int))∘λe:Int×Int=>(e.1.toNat,e.2))=(xs.zip ys).map Prod.fst:=Q3 λe he=>by have h1:=(hx _ (Wa he).1).1;show((e.1.toNat:Nat):Int)=e.1;omega
  rw[e,List.map_fst_zip (by omega)]
 .rw[VF,Za]
  exact(Q3 λe he=>rfl).trans (List.map_snd_zip (by omega))
def Ti(F:FM)(ds:List D)(d:D):Prop:=∀S,∃S',F ds S=.ok d S'/\Pre S S'
def Ti.nx{F:FM}{ds:List D}{d:D}(h:Ti F ds d):Ti (Xc F) ds d:=λS=>by
 obtain⟨S',e,p⟩:=h S
 exact⟨S',by unfold Xc;rw[e];rfl,p⟩
def zo{α:Type}{F:FM}{ds:List D}{enc:α->D}{P:α->Prop}(hu:∀a b,P a->P b->a=b)(h:∀S,∃(S':Pz)(o:α),F ds S=.ok (enc o) S'/\Pre S S'/\P o):∃o,P o/\Ti F ds (enc o):=by obtain⟨_,o,_,_,ho⟩:=h [];refine⟨o,ho,λS=>?_⟩;obtain⟨S',o',e,p,ho'⟩:=h S;rw[hu o' o ho' ho]at e;exact⟨S',e,p⟩
section
variable{xs:List Int}(h10:xs.length<=10)(hb:∀x∈xs,okN x)
include h10 hb
def Cn:Row xs:=⟨λx hx=>(hb x hx).1,by omega⟩
def mz{u:Int}(h:Wo KS xs u):u.natAbs<1000000000000000000000000000000:=by
 have h1:=DX kdS (λx hx=>(hb x hx).1) h;have h2:=vA xs hb
 have h3:(xs.length:Int)<=10:=by omega
 omega
def tK(v:Int):∃o,Xj xs v o/\Ti ME [tupI xs,.int v] (Th o):=zo (P:=Xj xs v) (λa b ha hb=>by
 match a,b,ha,hb with
 |none,none,_,_=>rfl
 |none,some u,h1,h2=>exact absurd (h1 u h2.1) (by have:=h2.2.1;omega)
 |some u,none,h1,h2=>exact absurd (h2 u h1.1) (by have:=h1.2.1;omega)
 |some u,some w,h1,h2=>
  have a1:=h1.2.2 w h2.1 h2.2.1;have a2:=h2.2.2 u h1.1 h1.2.1
  rw[show u=w by omega]) λS=>Ej h10 (Cn h10 hb) v S
def Co(v:Int):∃o,ZS xs v o/\Ti MS [tupI xs,.int v] (Th o):=zo (P:=ZS xs v) (λa b ha hb=>by
 match a,b,ha,hb with
 |none,none,_,_=>rfl
 |none,some u,h1,h2=>exact absurd (h1 u h2.1) (by have:=h2.2.1;omega)
 |some u,none,h1,h2=>exact absurd (h2 u h1.1) (by have:=h1.2.1;omega)
 |some u,some w,h1,h2=>
  have a1:=h1.2.2 w h2.1 h2.2.1;have a2:=h2.2.2 u h1.1 h1.2.1
  rw[show u=w by omega]) λS=>El h10 (Cn h10 hb) v S
def Cp(v:Int):∃o,ZR xs v o/\Ti My [tupI xs,.int v] (Tg o):=zo (P:=ZR xs v) (λ_ _=>ZR.uniq) λS=>Ef h10 (Cn h10 hb) v S
def zp:∃u:Int,Xj xs 0 (some u)/\u.natAbs<1000000000000000000000000000000/\Ti Mz [tupI xs] (.int u):=by
 obtain⟨o,ho,hg⟩:=tK h10 hb 0
 match o,ho,hg with
 |none,ho,_=>exact absurd (ho _ (zm xs)) (by have:=A4 (xs:=xs) λx hx=>(hb x hx).1;omega)
 |some u,ho,hg=>
  refine⟨u,ho,mz h10 hb ho.1,λS=>?_⟩;obtain⟨S',e,p⟩:=hg S;exact⟨S',aL (ρ:=[some (tupI xs)]) rfl (aD ((aw (ae (aa rfl) (ae rfl rfl))).trans e)),p⟩
omit hb in
def zr(v:Int):(T6 xs v).natAbs<1000000000000000000000000000000:=by
 have l1:(RG KS (xs.take (xs.length/2))).length<=32:=by
  rw[vg]
  exact Yw (Qc (by decide) (show(xs.take (xs.length/2)).length<=5 by rw[W5];omega)) (by decide)
 have l2:(RG KS (xs.drop (xs.length/2))).length<=32:=by
  rw[vg]
  exact Yw (Qc (by decide) (show(xs.drop (xs.length/2)).length<=5 by rw[Qn];omega)) (by decide)
 have:=Ee (h:=λx=>(((RG KS (xs.drop (xs.length/2))).filter λy=>decide (y=v-x)).length:Int)) (c:=32) (λx=>by
  have:=List.length_filter_le (λy=>decide (y=v-x)) (RG KS (xs.drop (xs.length/2)))
  omega) (RG KS (xs.take (xs.length/2)))
 have h2:(RG KS (xs.take (xs.length/2))).length*32<=1024:=by omega
 unfold T6;omega
def EL(h:ZR xs v (some p)):∃ps,R8 ps/\VD ps=xs/\VF ps=p:=by
 have hp:=(aX xs.length p).mp h.all
 obtain⟨ps,h1,h2,h3,h4⟩:=K5 hp.1 hb (λy hy=>by
  have:=hp.2 y hy;simp only[KS,Yb,Yy,Zn]at this
  omega) (by omega)
 exact⟨ps,h1,h3,h4⟩
end
def tC(w:Int):Str:=if 0<w then "yes" else "no"
def tO:Option Int->Str
 |none=>"none"
 |some u=>Rw u
def or_none{o:Option Int}(h:∀u,o=some u->u.natAbs<1000000000000000000000000000000)(S:Pz):cn [Th o] S=.ok (.str (tO o)) S:=by
 match o,h with
 |none,_=>exact aL (ρ:=[some (Th none)]) rfl (aD ((oo (aV (au (aa rfl) rfl rfl))).trans rfl))
 |some u,h=>exact aL (ρ:=[some (Th (some u))]) rfl (aD ((mf (aV (au (aa rfl) rfl rfl))).trans (aR (ae (aa rfl) rfl) (kj (h u rfl)))))
def vD{o:Option Int}(h:∀u,o=some u->u.natAbs<1000000000000000000000000000000):(tO o).length<=31:=by
 match o,h with
 |none,_=>decide
 |some u,h=>exact(jo (h u rfl)).2.2.1
theorem xN:∀(l:List Int)(acc:Int),0<=acc->(∀x∈l,1<=x)->gw 1 acc l=none->gw 2 acc l=none
 |[],_,_,_,_=>rfl
 |x::l,acc,h0,hl,h=>by
  have hx:=hl x (.head _);unfold gw at h ⊢;by_cases hc:x>1*acc+1
  .rw[Y9 hc]at h;cases h
  .rw[Yj hc]at h
   rw[Yj (by omega)]
   exact xN l (acc+x) (by omega) (λy hy=>hl y (.tail _ hy)) h
def tY(p q:Bool):Str:=if p=true then (if q=true then "signs" else "parts") else "no"
def aal(xs:List Int)(sT:Str):Option (List Int)->Prop
 |none=>sT = "none"
 |some c=>∃ps,R8 ps/\VD ps=xs/\VF ps=c/\sT=Txt.join " " (RL ps)
structure YH(xs:List Int)(v w u g:Int)(o:Option (List Int))(oa ob:Option Int)(sT:Str)(p q:Bool):Prop where
 way:Ti L9 [tupI xs,.int v] (.int w)
 ws:w.natAbs<1000000000000000000000000000000
 fst:Ti My [tupI xs,.int v] (Tg o)
 shw:aal xs sT o
 be:Ti MS [tupI xs,.int v] (Th ob)
 bs:∀z,ob=some z->z.natAbs<1000000000000000000000000000000
 ab:Ti ME [tupI xs,.int v] (Th oa)
 as:∀z,oa=some z->z.natAbs<1000000000000000000000000000000
 un:Ti Mz [tupI xs] (.int u)
 us:u.natAbs<1000000000000000000000000000000
 sw:Ti Ms [tupI xs] (.int g)
 gs:g.natAbs<1000000000000000000000000000000
 ep:∀S,L7 [tupI xs] S=.ok (.bl p) S
 eq:∀S,L8 [tupI xs] S=.ok (.bl q) S
 pq:q=true->p=true
 sF:ZR xs v o
 sA:Xj xs v oa
 sB:ZS xs v ob
 sU:Xj xs 0 (some u)
 sW:w=T6 xs v
def qF(h10:xs.length<=10)(hb:∀x∈xs,okN x)(v:Int):∃w u g o oa ob sT p q,YH xs v w u g o oa ob sT p q:=by
 have hr:=Cn h10 hb;obtain⟨o,ho,fo⟩:=Cp h10 hb v;obtain⟨oa,ha,fa⟩:=tK h10 hb v;obtain⟨ob,hbe,fb⟩:=Co h10 hb v;obtain⟨u,hi,hu,fu⟩:=zp h10 hb;obtain⟨g,hg,fg⟩:=Cm h10 hr;have hsum:=vA xs hb
 have h3:(xs.length:Int)<=10:=by omega
 obtain⟨sT,hs⟩:∃sT:Str,aal xs sT o:=by
  match o,ho with
  |none,_=>exact⟨"none",rfl⟩
  |some c,ho=>
   obtain⟨ps,h1,h2,h3⟩:=EL h10 hb ho;exact⟨_,ps,h1,h2,h3,rfl⟩
 have e1:=λS=>qE (c:=2) (x:=tupI xs) S (zk hr S) (tH (t:=2) (by decide) hr.2 S)
 have e2:=λS=>qE (c:=1) (x:=tupI xs) S (zk hr S) (tH (t:=1) (by decide) hr.2 S)
 refine⟨T6 xs v,u,g,o,oa,ob,sT,_,_,⟨λS=>Jn h10 hr v S,zr h10 v,fo,hs,fb,λz hz=>?_,fa,λz hz=>?_,fu,hu,fg,by omega,e1,e2,λhq=>?_,ho,ha,hbe,hi,rfl⟩⟩
 .subst hz;exact mz h10 hb hbe.1
 .subst hz;exact mz h10 hb ha.1
 .rw[Option.isNone_iff_eq_none]at hq ⊢
  exact xN _ 0 (by decide) (λx hx=>hr.1 x ((fi xs).mem_iff.mp hx)) hq
section
variable{xs:List Int}{v w u g:Int}{o:Option (List Int)}{oa ob:Option Int}{sT:Str}{p q:Bool}(a:YH xs v w u g o oa ob sT p q)
include a
def YH.comes:Ti cL [tupI xs,.int v] (.str (tC w)):=λS=>by
 obtain⟨S',e,h⟩:=a.way S;refine⟨S',?_,h⟩;have t:tV (Px X8 (az L9 (ag (af 0) (ag (af 1) ak))) (eC (.int 0))) [some (tupI xs),some (.int v)] S=.ok (decide (w>0)) S':=aV (au ((aw (ae (aa rfl) (ae (aa rfl) rfl))).trans e) rfl rfl);unfold tC;by_cases hw:0<w
 .rw[Yr (show w>0 from hw)]at t
  rw[Y9 hw];exact aL (ρ:=[some (tupI xs),some (.int v)]) rfl (aD ((oo t).trans rfl))
 .rw[Yo (show ¬w>0 from hw)]at t
  rw[Yj hw];exact aL (ρ:=[some (tupI xs),some (.int v)]) rfl (aD ((mf t).trans rfl))
def YH.ways:Ti c7 [tupI xs,.int v] (.str (Rw w)):=λS=>by obtain⟨S',e,h⟩:=a.way S;exact⟨S',aL (ρ:=[some (tupI xs),some (.int v)]) rfl (aD (aR (ae ((aw (ae (aa rfl) (ae (aa rfl) rfl))).trans e) rfl) (kj a.ws))),h⟩
def JA{j:Nat}(hi:r[i]?=some (some (Tg o)))(hj:r[j]?=some (some (tupI xs)))(S:Pz):VM (tV (Px (rl false) (af i) (eC .non))) (eC (.str "none")) (az iP (ag (af j) (ag (af i) ak))) r S=.ok (.str sT) S:=by
 have hs:=a.shw;clear a;cases o with
 |none=>
  rw[show sT = "none" from hs]
  exact(oo (aV (au (aa hi) rfl rfl))).trans rfl
 |some c=>
  obtain⟨ps,h1,h2,h3,rfl⟩:=hs;have:=GS h1 S;rw[h2,h3]at this;exact(mf (aV (au (aa hi) rfl rfl))).trans ((aw (ae (aa hj) (ae (aa hi) rfl))).trans this)
def YH.signs:Ti cO [tupI xs,.int v] (.str sT):=λS=>by obtain⟨S',e,h⟩:=a.fst S;exact⟨S',aL (ρ:=[some (tupI xs),some (.int v),none]) rfl ((ao (aC ((aw (ae (aa rfl) (ae (aa rfl) rfl))).trans e))).trans (aD (JA a rfl rfl S'))),h⟩
def YH.near:Ti c6 [tupI xs,.int v] (.str ((tO ob++(" ":Str))++tO oa)):=λS=>by
 have z:(100:Nat)<=sizeLine:=by decide
 obtain⟨S1,e1,p1⟩:=a.be S;obtain⟨S2,e2,p2⟩:=a.ab S1;have l1:=vD a.bs;have l2:=vD a.as
 have l3:(tO ob++(" ":Str)).length=(tO ob).length+1:=by rw[ba,eX,Yp,<- ba];rfl
 refine⟨S2,aL (ρ:=[some (tupI xs),some (.int v)]) rfl (aD (au (au ((aw (ae ((aw (ae (aa rfl) (ae (aa rfl) rfl))).trans e1) rfl)).trans (or_none a.bs S1)) rfl (Y9 (by show(tO ob).length+1<=sizeLine;omega))) ((aw (ae ((aw (ae (aa rfl) (ae (aa rfl) rfl))).trans e2) rfl)).trans (or_none a.as S2)) (Y9 (by omega)))),p1.trans p2⟩
def YH.even:Ti c5 [tupI xs] (.str (Rw u)):=λS=>by obtain⟨S',e,h⟩:=a.un S;exact⟨S',aL (ρ:=[some (tupI xs)]) rfl (aD (aR (ae ((aw (ae (aa rfl) rfl)).trans e) rfl) (kj a.us))),h⟩
def YH.aav:Ti cP [tupI xs] (.str (Rw g)):=λS=>by obtain⟨S',e,h⟩:=a.sw S;exact⟨S',aL (ρ:=[some (tupI xs)]) rfl (aD (aR (ae ((aw (ae (aa rfl) rfl)).trans e) rfl) (kj a.gs))),h⟩
def YH.every:Ti cM [tupI xs] (.str (tY p q)):=λS=>by
 have e1:tV (az L8 (ag (af 0) ak)) [some (tupI xs)] S=.ok q S:=aV ((aw (ae (aa rfl) rfl)).trans (a.eq S));have e2:tV (az L7 (ag (af 0) ak)) [some (tupI xs)] S=.ok p S:=aV ((aw (ae (aa rfl) rfl)).trans (a.ep S));refine⟨S,?_,Pre.refl S⟩;have pq:=a.pq;cases q with
 |true=>
  rw[pq rfl]at e2 ⊢;exact aL (ρ:=[some (tupI xs)]) rfl (dS ((hJ e1).trans rfl))
 |false=>
  cases p with
  |true=>exact aL (ρ:=[some (tupI xs)]) rfl ((ao ((bz e1).trans rfl)).trans (aD ((oo e2).trans rfl)))
  |false=>exact aL (ρ:=[some (tupI xs)]) rfl ((ao ((bz e1).trans rfl)).trans (aD ((mf e2).trans rfl)))
end
def LX(a b:D):(kF a b).lookup ("take":Str)=none:=by kernel_rfl
structure Fr(κ e:Nat)(S S1:Pz):Prop where
 oth:∀i,i<S.length->i≠κ->i≠e->S1[i]?=S[i]?
 len:S.length<=S1.length
section
variable{S:Pz}{b κ e δ:Nat}{hs:List (List Int)}{row Sv:List Int}(d:Dq S b κ e δ hs row)
include d
def xP(hl:hs.length<1000):∃S1,cb [.ref κ,tI Sv] S=.ok (.int Sv.length) S1/\Dq S1 b κ e δ (hs++[row]) Sv/\Fr κ e S S1:=by
 have z:(1000:Nat)<sizeLine:=by decide
 have ek:(hs.map tI++[tI row])=(hs++[row]).map tI:=by rw[Mm];rfl
 have ha:=nk (v:=tI row) d.er (by rw[Yi];omega)
 rw[ek]at ha
 have hk1:(S.set e (.lst ((hs++[row]).map tI)))[κ]?=some (.ins "Keeper" (kF (tI row) (.ref e))):=by rw[Z3 (Ne.symm d.n3)];exact d.kp
 have h2:=o8 (f:="numbers") (o:=af 0) (v:=af 1) (r:=[some (.ref κ),some (tI Sv)]) (S:=S.set e (.lst ((hs++[row]).map tI))) (y:=tI Sv) (aa rfl) (aa rfl) (bh hk1) (by show 2<1000;decide)
 rw[LR]at h2
 refine⟨_,aL (ρ:=[some (.ref κ),some (tI Sv)]) rfl ((ao (bq ((oZ (iB (aa rfl) (bh d.kp) (LO _ _)) (vm d.er) (ae (iB (aa rfl) (bh d.kp) (Cb _ _)) rfl)).trans ha))).trans ((ao h2).trans (aD (aR (ae (aa rfl) rfl) (En Sv))))),?_,⟨λi _ h1 h2=>by rw[Z3 (Ne.symm h1),Z3 (Ne.symm h2)],by simp⟩⟩
 obtain⟨n,hn⟩:=d.bx;refine⟨⟨n,?_⟩,?_,?_,?_,d.n1,d.n2,d.n3,d.n4,d.n5,d.n6⟩
 .rw[Z3 (Ne.symm d.n1),Z3 (Ne.symm d.n2)];exact hn
 .exact Z7 (by rw[Mi];exact bQ d.kp)
 .rw[Z3 d.n3];exact Z7 (bQ d.er)
 .rw[Z3 (Ne.symm d.n5),Z3 (Ne.symm d.n6)];exact d.dk
def K6{n:Int}(hn:1<=n)(hl:hs.length<1000)(ZP:row.length<16):∃S1,cK [.ref κ,.int n] S=.ok (.int ((row.length+1:Nat):Int)) S1/\Dq S1 b κ e δ (hs++[row]) (row++[n])/\Fr κ e S S1:=by
 have z:(1000:Nat)<=sizeLine:=by decide
 have hc:tV (Px bR (eB cy (ag (jD "Keeper" "numbers" (af 0)) ak)) (eC (.int (16)))) [some (.ref κ),some (.int n)] S=.ok (decide ((row.length:Int)=16)) S:=aV (au (aR (ae (iB (aa rfl) (bh d.kp) (Cb _ _)) rfl) (En row)) rfl ng)
 rw[Yo (by omega)]at hc
 have hw:=qi (d:=.int n) (S:=S) rfl;have hnn:bG [.int n] S=.ok .non S:=gQ (ρ:=[some (.int n)]) rfl ((bz (dC (aV ((aw (ae (aa rfl) rfl)).trans hw)))).trans rfl);have hlt:tV (Px oLt (af 1) (af 0)) [some (.int 1),some (.int n)] S=.ok (decide (n<1)) S:=aV (au (aa rfl) (aa rfl) rfl)
 rw[Yo (by omega)]at hlt
 have hnf:bV [.int 1,.int n] S=.ok .non S:=gQ (ρ:=[some (.int 1),some (.int n)]) rfl ((ao (bq ((aw (ae (aa rfl) rfl)).trans hnn))).trans ((bz hlt).trans rfl));obtain⟨S1,e1,d1⟩:=xP (Sv:=row++[n]) d hl
 have hadd:aY S (tI row) (.tup [.int n])=some (tI (row++[n])):=by
  show _=some (D.tup ((row++[n]).map D.int));rw[Mm]
  exact yS (by rw[Yi];show row.length+1<=sizeLine;omega)
 have el:((row++[n]).length:Int)=((row.length+1:Nat):Int):=by rw[Yp];rfl
 rw[el]at e1;exact⟨S1,aL (ρ:=[some (.ref κ),some (.int n)]) rfl ((ao (bq ((aw (ae rfl (ae (aa rfl) rfl))).trans hnf))).trans ((ao ((bz hc).trans rfl)).trans (aD ((gk (aa rfl) (bh d.kp) (KZ _ _) (ae (au (iB (aa rfl) (bh d.kp) (Cb _ _)) (hU (xs:=[.int n]) (ae (aa rfl) rfl) z1) hadd) rfl)).trans e1)))),d1⟩
def tL{n:Nat}(h0:1<=n)(h:n<1000000000000000000000000000000)(hl:hs.length<1000)(ZP:row.length<16):∃v S1,aB [.ref δ,.str (("put ":Str)++nm n)] S=.ok v S1/\Dq S1 b κ e δ (hs++[row]) (row++[(n:Int)])/\Fr κ e S S1:=by
 obtain⟨S1,hp,d1⟩:=K6 d (n:=(n:Int)) (by omega) hl ZP
 have t:tV (Px bR (Px QV (af 2) (eC (.int 0))) (eC (.str "put"))) [some (.ref δ),some (.str (("put ":Str)++nm n)),some (.lst [.str "put",.str (nm n)]),none] S=.ok true S:=aV (au (au (aa rfl) rfl rfl) rfl rfl)
 have ar:ag (eB ei (ag (Px QV (af 2) (eC (.int 1))) ak)) ak [some (.ref δ),some (.str (("put ":Str)++nm n)),some (.lst [.str "put",.str (nm n)]),none] S=.ok [.int (n:Int)] S:=ae (aR (ae (au (aa rfl) rfl rfl) rfl) (qB h S)) rfl
 have hm:=gk (c:="Keeper") (m:="put") (F:=cK) (o:=jD "Desk" "keeper" (af 0)) (iB (a:=af 0) (r:=[some (.ref δ),some (.str (("put ":Str)++nm n)),some (.lst [.str "put",.str (nm n)]),none]) (aa rfl) (bh d.dk) (Jo _)) (bh d.kp) (LP _ _) ar
 exact⟨_,S1,aL (ρ:=[some (.ref δ),some (.str (("put ":Str)++nm n)),none,none]) rfl ((ao (aC ((aw (ae (aa rfl) rfl)).trans (xE h0 h S)))).trans (dS ((hJ t).trans (aD (aR (ae (hm.trans hp) rfl) (ni (by omega))))))),d1⟩
omit d in
def EN(S0:Pz)(xs:List Int):lR S0 (tI xs) none (some (-1))=some (tI xs.dropLast):=by
 show some (D.tup (PD.cutD (xs.map .int) none (some (-1))))=_;unfold PD.cutD
 have e:HT.QH (xs.map D.int).length (xs.map D.int).length (some (-1))=xs.length-1:=by rw[Yi];unfold HT.QH;simp;omega
 have e0:HT.QH (xs.map D.int).length 0 none=0:=rfl;rw[e,e0,Uo,Nat.sub_zero,<- List.map_take,<- List.dropLast_eq_take]
def zt(hl:hs.length<1000)(h0:row≠[])(ZP:row.length<=16):∃v S1,aB [.ref δ,.str "take"] S=.ok v S1/\Dq S1 b κ e δ (hs++[row]) row.dropLast/\Fr κ e S S1:=by
 obtain⟨S1,e1,d1⟩:=xP (Sv:=row.dropLast) d hl;have z0:(0:Nat)<=sizeLine:=Zs _
 have q0:bR S (tI row) (.tup [])=some (.bl false):=by
  have:=nq row [];rw[Yo h0]at this;unfold bR
  rw[show(D.tup []:D)=.tup (([]:List Int).map .int) from rfl,this];rfl
 have hc:tV (Px bR (jD "Keeper" "numbers" (af 0)) (gU ak)) [some (.ref κ)] S=.ok false S:=aV (au (iB (aa rfl) (bh d.kp) (Cb _ _)) (hU (xs:=[]) rfl z0) q0)
 have hp:cA [.ref κ] S=.ok (.int ((row.dropLast.length:Nat):Int)) S1:=aL (ρ:=[some (.ref κ)]) rfl ((ao ((bz hc).trans rfl)).trans (aD ((gk (aa rfl) (bh d.kp) (KZ _ _) (ae (KP (iB (aa rfl) (bh d.kp) (Cb _ _)) rfl (fR rfl) (EN S row)) rfl)).trans e1)));have ht:∀(k:Str),tV (Px bR (Px QV (af 2) (eC (.int 0))) (eC (.str k))) [some (.ref δ),some (.str "take"),some (.lst [.str "take"]),none] S=.ok (decide (("take":Str)=k)) S:=λk=>aV (au (au (aa rfl) rfl rfl) rfl rfl)
 have t1:=ht "put"
 have t2:=ht "take"
 rw[Yo (by decide)]at t1
 rw[Yr rfl]at t2;have hm:=gk (c:="Keeper") (m:="take") (F:=cA) (o:=jD "Desk" "keeper" (af 0)) (t:=ak) (ds:=[]) (iB (a:=af 0) (r:=[some (.ref δ),some (.str "take"),some (.lst [.str "take"]),none]) (aa rfl) (bh d.dk) (Jo _)) (bh d.kp) (LX _ _) rfl
 have hw:bp [.str "take"] S=.ok (.lst [.str "take"]) S:=nu (ws:=["take"]) (by decide) (vt (by decide)) (λw hw=>by rw[Yq.mp hw];decide) Y0 S
 exact⟨_,S1,aL (ρ:=[some (.ref δ),some (.str "take"),none,none]) rfl ((ao (aC ((aw (ae (aa rfl) rfl)).trans hw))).trans ((ao ((bz t1).trans rfl)).trans (dS ((hJ t2).trans (aD (aR (ae (hm.trans hp) rfl) (ni (n:=row.dropLast.length) (by rw[Vf];omega)))))))),d1⟩
omit d
structure Dj(κ e δ κ' e' δ':Nat):Prop where
 a:κ'≠κ/\κ'≠e
 b:e'≠κ/\e'≠e
 c:δ'≠κ/\δ'≠e
end
def xQ{row:List Int}(h:ZV row)(S:Pz):fB [tI row] S=.ok (.str (my row)) S:=by
 have ht:tV (Px eY (af 0) (gU ak)) [some (tI row)] S=.ok (!decide (row=[])) S:=by
  refine aV (au (aa rfl) (hU (xs:=[]) rfl (Zs _)) ?_);have:=nq row [];unfold eY
  rw[show(D.tup []:D)=.tup (([]:List Int).map .int) from rfl,this];rfl
 refine aL (ρ:=[some (tI row)]) rfl (aD ?_);by_cases h0:row=[]
 .rw[Yr h0]at ht;rw[my,Y9 h0];exact(mf ht).trans rfl
 .rw[Yo h0]at ht;rw[my,Yj h0];exact(oo ht).trans (Ey h (ql rfl rfl))
def Sy(xs:List Int)(l t:Str):Prop:=∀(S:Pz)(b κ e δ:Nat)(hs:List (List Int)),Dq S b κ e δ hs xs->∃S',aB [.ref δ,.str l] S=.ok (.str t) S'/\Pre S S'
def vE{a n t:Str}{F:FM}(ha:a∈zg)(hv:v.natAbs<1000000000000000000000000000000)(hd:KTD.datumAt a cv=some (some (n,Xc F)))(hg:Ti F [tupI xs,.int v] (.str t)):Sy xs (ln2 a v) t:=λS b κ e δ hs d=>by obtain⟨S',e1,p⟩:=hg.nx S;exact⟨S',G1 d ha hv hd e1,p⟩
def qG{a n t:Str}{F:FM}(ha:a∈alone)(hd:KTD.datumAt a dR=some (some (n,Xc F)))(hg:Ti F [tupI xs] (.str t)):Sy xs a t:=λS b κ e δ hs d=>by obtain⟨S',e1,p⟩:=hg.nx S;exact⟨S',G2 d ha hd e1,p⟩
def EO(v:Int):List Str:=["row","total","even","swing","every",ln2 "comes" v,ln2 "ways" v,ln2 "signs" v,ln2 "near" v]
def Pl(t:Str):Prop:=∀c∈t.cps.toList,c<1000
def Pl.ok{t:Str}(h:Pl t):PyData.strOk t=true:=by
 unfold PyData.strOk;rw[<- Array.all_toList,Zj]
 exact λc hc=>Yr (by have:=h c hc;omega)
def ER{y:Str}(hx:Pl x)(hy:Pl y):Pl (x++y):=λc hc=>by rw[eX]at hc;exact(Yx.mp hc).elim (hx c) (hy c)
def A5(n:Nat):Pl (nm n):=λc hc=>by have:=fF n c hc;omega
def ES(v:Int):Pl (Rw v):=by
 obtain⟨n,rfl⟩|⟨n,h,rfl⟩:=tJ v
 .rw[A0];exact A5 n
 .intro c hc;rw[A1 h]at hc;rcases Yb.mp hc with rfl|hc
  .decide
  .exact A5 n c hc
theorem Hn:∀ws:List Str,(∀w∈ws,Pl w)->∀c∈jl (ws.map λw=>w.cps.toList),c<1000
 |[],_,c,h=>by cases h
 |[x],h,c,hc=>h x (.head _) c hc
 |x::y::r,h,c,hc=>by
  rcases Yx.mp (show c∈x.cps.toList++32::jl ((y::r).map λw=>w.cps.toList) from hc) with hc|hc
  .exact h x (.head _) c hc
  .rcases Yb.mp hc with rfl|hc
   .decide
   .exact Hn (y::r) (λw hw=>h w (.tail _ hw)) c hc
def A6(h:∀w∈ws,Pl w):Pl (Txt.join " " ws):=λc hc=>by rw[mi,eU]at hc;exact Hn ws h c hc
def K7(o:Option Int):Pl (tO o):=by
 cases o with
 |none=>unfold Pl;decide
 |some z=>exact ES z
def JB(xs:List Int):Pl (my xs):=by
 unfold my;split
 .unfold Pl;decide
 .exact A6 λw hw=>by obtain⟨x,_,rfl⟩:=Yt.mp hw;exact A5 _
def K8{sT:Str}{o:Option (List Int)}(h:aal xs sT o):Pl sT:=by
 cases o with
 |none=>rw[show sT = "none" from h];unfold Pl;decide
 |some c=>
  obtain⟨ps,h1,_,_,rfl⟩:=h;refine A6 λw hw=>?_;obtain⟨p,hp,rfl⟩:=Yt.mp hw;intro c hc;rw[iZ]at hc;rcases Yb.mp hc with rfl|hc
  .have:=(h1.all p hp).par
   have:p.2 = -1\/p.2=0\/p.2=1:=by omega
   rcases this with h|h|h<;>rw[h]<;>decide
  .exact A5 _ c hc
inductive SyL(xs:List Int):List Str->List Str->Prop
 |nil:SyL xs [] []
 |cons {l t:Str} {ls ts:List Str}:Sy xs l t->Pl t->SyL xs ls ts->SyL xs (l::ls) (t::ts)
theorem SyL.pl:∀{ls ts:List Str},SyL xs ls ts->∀t∈ts,Pl t
 |_,_,.nil,t,h=>by cases h
 |_,_,.cons _ hp hl,t,h=>by
  rcases Yb.mp h with rfl|h
  .exact hp
  .exact hl.pl t h
section
variable{xs:List Int}(h10:xs.length<=10)(hb:∀x∈xs,okN x)
include h10 hb
def A7:ZV xs:=⟨λx hx=>by have:=hb x hx;have a1:=this.1;have a2:=this.2;omega,by omega⟩
def ET:Sy xs "row" (my xs):=qG (n:="row_text") (F:=fB) (by decide) Y0 λS=>⟨S,xQ (A7 h10 hb) S,Pre.refl S⟩
def EU:Sy xs "total" (Rw xs.sum):=qG (n:="total_text") (F:=dr) (by decide) Y0 λS=>by have hr:=Cn h10 hb;have ht:iR [tupI xs] S=.ok (.int xs.sum) S:=aL (ρ:=[some (tupI xs)]) rfl ((ao (bq ((aw (ae (aa rfl) rfl)).trans (zk hr S)))).trans (aD (aR (ae (aa rfl) rfl) Jd)));exact⟨S,aL (ρ:=[some (tupI xs)]) rfl (aD (aR (ae ((aw (ae (aa rfl) rfl)).trans ht) rfl) (kj (mz h10 hb (zm xs))))),Pre.refl S⟩
end
section
variable{xs:List Int}{v w u g:Int}{o:Option (List Int)}{oa ob:Option Int}{sT:Str}{p q:Bool}(a:YH xs v w u g o oa ob sT p q)(hv:v.natAbs<1000000000000000000000000000000)
include a
def A8:Sy xs "even" (Rw u):=qG (n:="even_text") (F:=c5) (by decide) Y0 a.even
include hv
def qH:Sy xs (ln2 "comes" v) (tC w):=vE (n:="comes_text") (F:=cL) (by decide) hv Y0 a.comes
def xR:Sy xs (ln2 "signs" v) sT:=vE (n:="signs_text") (F:=cO) (by decide) hv Y0 a.signs
def vF:Sy xs (ln2 "near" v) ((tO ob++(" ":Str))++tO oa):=vE (n:="near_text") (F:=c6) (by decide) hv Y0 a.near
def A9(h10:xs.length<=10)(hb:∀x∈xs,okN x):∃ts,SyL xs (EO v) ts:=
 ⟨_,.cons (ET h10 hb) (JB xs) (.cons (EU h10 hb) (ES _) (.cons (A8 a) (ES _) (.cons (qG (n:="swing_text") (F:=cP) (by decide) Y0 a.aav) (ES _) (.cons (qG (n:="every_text") (F:=cM) (by decide) Y0 a.every) (by unfold tY;split<;>(try split)<;>(unfold Pl;decide)) (.cons (qH a hv) (by unfold tC;split<;>(unfold Pl;decide)) (.cons (vE (n:="ways_text") (F:=c7) (by decide) hv Y0 a.ways) (ES _) (.cons (xR a hv) (K8 a.shw) (.cons (vF a hv) (ER (ER (K7 _) (by unfold Pl;decide)) (K7 _)) .nil))))))))⟩
end
def AL(xs:List Int)(v:Int)(ts:List Str):Prop:=∀(S:Pz)(b κ e δ:Nat)(hs:List (List Int)),Dq S b κ e δ hs xs->∃S',bB [.ref δ,.int v] S=.ok (.lst (ts.map .str)) S'/\Pre S S'
theorem xT{hs:List (List Int)}:∀{ls ts:List Str}(_:SyL xs ls ts)(S:Pz)(r0:Option D),Dq S b κ e δ hs xs->∃S',cI (.nm 0) bY (dy "Desk" "say" aB (af 1) (ag (af 0) ak)) (ls.map .str) [r0,some (.ref δ)] S=.ok (ts.map .str) S'/\Pre S S'
 |_,_,.nil,S,r0,_=>⟨S,rfl,Pre.refl S⟩
 |_,_,.cons (l:=l) (t:=t) h _ hl,S,r0,d=>by
  obtain⟨S1,e1,p1⟩:=h S b κ e δ hs d;obtain⟨S2,e2,p2⟩:=xT hl S1 (some (.str l)) (d.pre p1);refine⟨S2,?_,p1.trans p2⟩;rw[Y8,Y8,cI];have hp:(PD.G.nm 0).put (.str l) [r0,some (.ref δ)]=some [some (.str l),some (.ref δ)]:=rfl;have ee:dy "Desk" "say" aB (af 1) (ag (af 0) ak) [some (.str l),some (.ref δ)] S=.ok (.str t) S1:=(gk (aa rfl) (bh d.dk) (zd _) (ae (aa rfl) rfl)).trans e1
  simp only[hp,bY,R.Pq,Zi,ee];rw[e2,R.Pq]
def JC(hv:v.natAbs<1000000000000000000000000000000):((" ":Str)++Rw v).length<=32:=by
 obtain⟨_,_,h,_⟩:=jo hv;rw[ba,eX,Yp,<- ba,<- ba]
 have:(" ":Str).length=1:=by decide
 omega
def vG{ts:List Str}(hv:v.natAbs<1000000000000000000000000000000)(h:SyL xs (EO v) ts):AL xs v ts:=λS b κ e δ hs d=>by
 have z:(1000:Nat)<=sizeLine:=by decide
 obtain⟨S',e1,p⟩:=xT h S none d;have hl:=JC hv
 have h0:aY S (.str " ") (.str (Rw v))=some (.str ((" ":Str)++Rw v)):=Y9 (by rw[ba,eX,Yp,<- ba,<- ba]at hl;omega)
 have hk:∀(x:Str),x.length<=10->aY S (.str x) (.str ((" ":Str)++Rw v))=some (.str (ln2 x v)):=λx hx=>Y9 (by omega)
 refine⟨S',aL (ρ:=[some (.ref δ),some (.int v),none,none]) rfl ?_,p⟩;refine(ao (aC (au rfl (aR (ae (aa rfl) rfl) (kj hv)) h0))).trans ?_
 have hL:ow (ag (eC (.str "row")) (ag (eC (.str "total")) (ag (eC (.str "even")) (ag (eC (.str "swing")) (ag (eC (.str "every")) (ag (Px aY (eC (.str "comes")) (af 2)) (ag (Px aY (eC (.str "ways")) (af 2)) (ag (Px aY (eC (.str "signs")) (af 2)) (ag (Px aY (eC (.str "near")) (af 2)) ak))))))))) [some (.ref δ),some (.int v),some (.str ((" ":Str)++Rw v)),none] S=.ok (.lst ((EO v).map .str)) S:=
  uY (ae rfl (ae rfl (ae rfl (ae rfl (ae rfl (ae (au rfl (aa rfl) (hk _ (by decide))) (ae (au rfl (aa rfl) (hk _ (by decide))) (ae (au rfl (aa rfl) (hk _ (by decide))) (ae (au rfl (aa rfl) (hk _ (by decide))) rfl))))))))) (by show 9<=sizeLine;omega)
 refine(ao (aC hL)).trans ?_
 exact aD (xG (ql rfl rfl) (by show 9<=sizeLine;omega) e1)
theorem EV:∀{xs:List Int}{v:Int},Wo KS xs v->Wo KS xs (-v)
 |[],v,h=>by have:v=0:=h;show -v=0;omega
 |x::xs,v,h=>by
  obtain⟨q,hq,h⟩:=h;refine⟨-q,?_,?_⟩
  .rcases qr hq with rfl|rfl<;>decide
  .have:=EV h
   rw[show -v-x * -q = -(v-x*q) by rw[Int.mul_neg];omega]
   exact this
theorem xV{f:Int->Int}(h:∀x,0<=f x):∀l:List Int,0<(l.map f).sum↔∃x∈l,0<f x
 |[]=>by simp
 |x::l=>by
  have ih:=xV h l
  have hn:0<=(l.map f).sum:=by
   clear ih
   induction l with
   |nil=>simp
   |cons y l ih=>rw[Y8,Zf];have:=h y;omega
  have hx:=h x;rw[Y8,Zf];constructor
  .intro hs;by_cases h0:0<f x
   .exact⟨x,.head _,h0⟩
   .obtain⟨y,hy,h1⟩:=ih.mp (by omega)
    exact⟨y,.tail _ hy,h1⟩
  .rintro⟨y,hy,h1⟩;rcases Yb.mp hy with rfl|hy
   .omega
   .have:=ih.mpr ⟨y,hy,h1⟩;omega
def vH:0<T6 xs v↔Wo KS xs v:=by
 unfold T6
 rw[xV (f:=λx=>(((RG KS (xs.drop (xs.length/2))).filter λy=>decide (y=v-x)).length:Int)) (λx=>by omega)]
 have ha:=D9 (K:=KS) (xs:=xs.take (xs.length/2)) (ys:=xs.drop (xs.length/2)) (v:=v);rw[Va]at ha;rw[<- ha];constructor
 .rintro⟨x,hx,h⟩;cases hf:(RG KS (xs.drop (xs.length/2))).filter λy=>decide (y=v-x) with
  |nil=>rw[hf]at h;simp at h
  |cons y l=>
   have hy:y∈(RG KS (xs.drop (xs.length/2))).filter λy=>decide (y=v-x):=by rw[hf];exact .head _
   obtain⟨h1,h2⟩:=Z6.mp hy
   exact⟨x,hx,y,h1,by have:=Zl h2;omega⟩
 .rintro⟨x,hx,y,hy,rfl⟩;refine⟨x,hx,?_⟩
  have:y∈(RG KS (xs.drop (xs.length/2))).filter λz=>decide (z=x+y-x):=Z6.mpr ⟨hy,Yr (by omega)⟩
  have:=List.length_pos_of_mem this;omega
def G3{a a':Str}(h:a'.cps.toList=a.cps.toList++[32])(v:Int):a'++Rw v=ln2 a v:=fL (by rw[eX,vB,h,Zv];rfl)
def qI{hs:List (List Int)}{a a' t:Str}{x:EM}(d:Dq S b κ e δ hs xs)(h:Sy xs (ln2 a v) t)(ha:a'.cps.toList=a.cps.toList++[32])(hl:a'.length<=10)(hv:v.natAbs<1000000000000000000000000000000)(hi:r[i]?=some (some (.ref δ)))(hx:x r S=.ok (.int v) S):∃S',dy "Desk" "say" aB (af i) (ag (Px aY (eC (.str a')) (eB cY (ag x ak))) ak) r S=.ok (.str t) S'/\Pre S S':=by
 have z:(1000:Nat)<=sizeLine:=by decide
 obtain⟨S',e1,p⟩:=h S b κ e δ hs d;have hn:=(jo hv).2.2.1
 have h0:aY S (.str a') (.str (Rw v))=some (.str (ln2 a v)):=by rw[<- G3 ha];exact Y9 (by omega)
 exact⟨S',(gk (aa hi) (bh d.dk) (zd _) (ae (au rfl (aR (ae hx rfl) (kj hv)) h0) rfl)).trans e1,p⟩
def xW(h:R8 ps):Txt.join (" ":Str) (RL ps) ≠ "none":=λq=>by
 obtain⟨S',e⟩:=AV h []
 rw[q,show iU [.str "none"] []=.bad by kernel_rfl]at e
 cases e
def tM{hs:List (List Int)}(d:Dq S b κ e δ hs xs)(h10:xs.length<=10)(hb:∀x∈xs,okN x)(hv:v.natAbs<1000000000000000000000000000000):∃S',bg [.ref δ,tupI xs,.int v] S=.ok (.bl true) S'/\Pre S S':=by
 obtain⟨w,u,g,o,oa,ob,sT,p,q,a⟩:=qF h10 hb v;have hr:=Cn h10 hb
 obtain⟨S1,e1,p1⟩:=qI (i:=0) (r:=[some (.ref δ),some (tupI xs),some (.int v),none,none,none]) (x:=af 2) (a':="signs ") d (xR a hv) (by decide) (by decide) hv rfl (aa rfl)
 obtain⟨S2,e2,p2⟩:=qI (i:=0) (r:=[some (.ref δ),some (tupI xs),some (.int v),some (.str sT),none,none]) (x:=af 2) (a':="comes ") (d.pre p1) (qH a hv) (by decide) (by decide) hv rfl (aa rfl)
 have t2:tV (Px bR (af 3) (eC (.str "none"))) [some (.ref δ),some (tupI xs),some (.int v),some (.str sT),none,none] S2=.ok (decide (sT = "none")) S2:=aV (au (aa rfl) rfl rfl)
 have key:decide (sT = "none")=decide (tC w = "no"):=by
  have hs:=a.shw;have hf:=a.sF;have hw:=a.sW;cases o with
  |none=>
   rw[show sT = "none" from hs]
   have:¬0<w:=by rw[hw,vH];exact hf
   unfold tC;rw[Yj this];rfl
  |some c=>
   obtain⟨ps,h1,h2,h3,rfl⟩:=hs
   have:0<w:=by rw[hw,vH,qp];exact⟨c,hf.all,hf.wo⟩
   unfold tC;rw[Y9 this,Yo (xW h1)];rfl
 have t1:tV (Px eY (Px bR (af 3) (eC (.str "none"))) (Px bR (dy "Desk" "say" aB (af 0) (ag (Px aY (eC (.str "comes ")) (eB cY (ag (af 2) ak))) ak)) (eC (.str "no")))) [some (.ref δ),some (tupI xs),some (.int v),some (.str sT),none,none] S1=.ok false S2:=
  aV (au (x:=.bl (decide (sT = "none"))) (y:=.bl (decide (tC w = "no"))) (au (aa rfl) rfl rfl) (au (z:=.bl (decide (tC w = "no"))) e2 rfl rfl) (by rw[key];cases decide (tC w = "no")<;>rfl))
 have hs:=a.shw;have hf:=a.sF;cases o with
 |none=>
  rw[show decide (sT = "none")=true from Yr hs]at t2
  exact⟨S2,aL (ρ:=[some (.ref δ),some (tupI xs),some (.int v),none,none,none]) rfl ((ao (aC e1)).trans ((ao ((bz t1).trans rfl)).trans (dS ((hJ t2).trans (aD rfl))))),p1.trans p2⟩
 |some c=>
  obtain⟨ps,h1,h2,h3,rfl⟩:=hs;rw[Yo (xW h1)]at t2;obtain⟨S3,e3⟩:=AV h1 S2;rw[h2,h3]at e3;have hc:=(aX xs.length c).mp hf.all
  have f1:bR (S2++S3) (tupI xs) (tupI xs)=some (.bl true):=by unfold bR;rw[nq,Yr rfl];rfl
  have f2:=GW hr hc.1 (λq hq=>qr (hc.2 q hq)) (S2++S3)
  have f3:=EE hr hc.1 (λq hq=>by rcases qr (hc.2 q hq) with rfl|rfl<;>decide) (S2++S3)
  rw[hf.wo]at f3;refine⟨S2++S3,aL (ρ:=[some (.ref δ),some (tupI xs),some (.int v),none,none,none]) rfl ?_,(p1.trans p2).trans (Pre.app S2 S3)⟩;refine(ao (aC e1)).trans ((ao ((bz t1).trans rfl)).trans ((ao ((bz t2).trans rfl)).trans ?_));refine(ao (Gj ((aw (ae (aa rfl) rfl)).trans e3) rfl)).trans (aD ?_);refine(kg (au (aa rfl) (aa rfl) f1)).trans ((kg ((aw (ae (aa rfl) (ae (aa rfl) rfl))).trans f2)).trans ?_)
  exact(au ((aw (ae (aa rfl) (ae (aa rfl) rfl))).trans f3) (aa rfl) ng).trans (by rw[Yr rfl])
structure Fb(b κ e:Nat)(S S1:Pz):Prop where
 oth:∀i,i<S.length->i≠b->i≠κ->i≠e->S1[i]?=S[i]?
 len:S.length<=S1.length
theorem Fb.trans(x:Fb b κ e S S1)(y:Fb b κ e S1 S2):Fb b κ e S S2:=
 ⟨λi h h1 h2 h3=>(y.oth i (Ys h x.len) h1 h2 h3).trans (x.oth i h h1 h2 h3),Yw x.len y.len⟩
def Pre.fb(p:Pre S S1):Fb b κ e S S1:=⟨λi h _ _ _=>p.old i h,p.len⟩
def Gr.fb(p:Gr b S S1):Fb b κ e S S1:=⟨λi h h1 _ _=>p.oth i h1 h,p.len⟩
def Fr.fb(p:Fr κ e S S1):Fb b κ e S S1:=⟨λi h _ h1 h2=>p.oth i h h1 h2,p.len⟩
def Dq.fb{hs hs':List (List Int)}{row Sv:List Int}(d':Dq S b κ' e' δ' hs' Sv)(j:Dj κ e δ κ' e' δ')(f:Fb b κ e S S1)(d:Dq S1 b κ e δ hs row):Dq S1 b κ' e' δ' hs' Sv:=
 ⟨d.bx,(f.oth κ' (bQ d'.kp) (Ne.symm d'.n1) j.a.1 j.a.2).trans d'.kp,(f.oth e' (bQ d'.er) (Ne.symm d'.n2) j.b.1 j.b.2).trans d'.er,(f.oth δ' (bQ d'.dk) d'.n4 j.c.1 j.c.2).trans d'.dk,d'.n1,d'.n2,d'.n3,d'.n4,d'.n5,d'.n6⟩
def G4(n:Nat):32∉(nm n).cps.toList:=λh=>by have:=fF n 32 h;omega
def G5(n:Nat):nm n≠("none":Str):=λh=>by
 have:=fF n 110 (by rw[h];decide)
 omega
def tN(h0:xs≠[]):Txt.split (my xs) (" ":Str)=xs.map λx=>nm x.toNat:=by
 rw[my,Yj h0]
 exact fG (by simpa using h0) λw hw=>by obtain⟨x,_,rfl⟩:=Yt.mp hw;exact G4 _
def G6(h0:xs≠[]):my xs ≠ "none":=λh=>by
 have h1:=tN h0
 rw[h,vt (by decide)]at h1
 match xs,h0,h1 with
 |x::l,_,h1=>
  rw[Y8]at h1;injection h1 with h2;exact G5 _ h2.symm
def Ba{hs:List (List Int)}(d:Dq S b κ e δ hs xs)(h10:xs.length<=10)(hb:∀x∈xs,okN x):∃S',cE [.ref δ] S=.ok (tupI xs) S'/\Pre S S':=by
 have z:(100:Nat)<=sizeLine:=by decide
 have hR:=A7 h10 hb;obtain⟨S1,e1,p1⟩:=ET h10 hb S b κ e δ hs d;refine⟨S1,aL (ρ:=[some (.ref δ),none]) rfl ((ao (aC ((gk (aa rfl) (bh d.dk) (zd _) (ae rfl rfl)).trans e1))).trans (aD ?_)),p1⟩;have t:tV (Px bR (af 1) (eC (.str "none"))) [some (.ref δ),some (.str (my xs))] S1=.ok (decide (my xs = "none")) S1:=aV (au (aa rfl) rfl rfl)
 by_cases h0:xs=[]
 .subst h0;exact(oo t).trans rfl
 .rw[Yo (G6 h0)]at t
  have hm:=jn (x:=my xs) (by rw[my,Yj h0];exact ze hR) S1
  rw[tN h0,Za]at hm
  have hc:=ez (enc:=λx:Int=>D.str (nm x.toNat)) (out:=D.int) (e:=eB ei (ag (af 0) ak)) (it:=bJ (fk dZ (af 1) (ag (eC (.str " ")) ak)) bH) (PB:=[]) (tl:=[]) (r:=[some (.ref δ),some (.str (my xs))]) (S:=S1) xs (by
   unfold bJ
   rw[(dD (aa rfl) (ae rfl rfl)).trans hm,R.Pq];rfl) (by omega) rfl λx hx=>by
    have h1:=hR.bd x hx
    have:=qB (n:=x.toNat) (by omega) S1
    rw[show((x.toNat:Nat):Int)=x by omega]at this
    exact aR (ae (aa rfl) rfl) this
  exact(mf t).trans (aR (ae hc rfl) rfl)
def Bb{a b:TM}{x y:Bool}(h:a r S=.ok x S)(h2:b r S=.ok y S):PD.i5 a b r S=.ok (x&&y) S:=by
 cases x
 .exact(y9 h).trans rfl
 .exact(y8 h).trans h2
def ZW(x:Int):Prop:=1<=x/\x<=50
def ZW.n{x:Int}(h:ZW x):okN x:=⟨h.1,by have:=h.2;omega⟩
def Cq{hs:List (List Int)}(d:Dq S b κ e δ hs xs)(h9:xs.length<=9)(hb:∀x∈xs,ZW x)(hl:hs.length<1000):∃S' hs' xs',cB [.ref b,.ref δ] S=.ok .non S'/\Dq S' b κ e δ hs' xs'/\Fb b κ e S S'/\hs'.length<=hs.length+1/\xs'.length<=9/\∀x∈xs',ZW x:=by
 have z:(100:Nat)<=sizeLine:=by decide
 obtain⟨S1,e1,p1⟩:=Ba d (by omega) λx hx=>(hb x hx).n
 have d1:=d.pre p1
 obtain⟨q,S2,e2,q0,q6,g2⟩:=uX d1.self (many:=6) (by decide) (by decide)
 have d2:=d1.gr g2;have f2:Fb b κ e S S2:=p1.fb.trans g2.fb;have s1:∀r3:Option D,(aN 2 (eB cy (ag (az cE (ag (af 1) ak)) ak))) [some (.ref b),some (.ref δ),none,r3] S=.ok (.nx [some (.ref b),some (.ref δ),some (.int (xs.length:Int)),r3]) S1:=λr3=>aC (aR (ae ((aw (ae (aa rfl) rfl)).trans e1) rfl) (En xs));have s2:(aN 3 (az bX (ag (af 0) (ag (eC (.int 6)) ak)))) [some (.ref b),some (.ref δ),some (.int (xs.length:Int)),none] S1=.ok (.nx [some (.ref b),some (.ref δ),some (.int (xs.length:Int)),some (.int q)]) S2:=aC ((aw (ae (aa rfl) (ae rfl rfl))).trans e2);have t1:PD.i5 (tV (Px oLt (af 3) (eC (.int 4)))) (tV (Px oLt (af 2) (eC (.int 9)))) [some (.ref b),some (.ref δ),some (.int (xs.length:Int)),some (.int q)] S2=.ok (decide (q<4)&&decide ((xs.length:Int)<9)) S2:=Bb (aV (au (aa rfl) rfl rfl)) (aV (au (aa rfl) rfl rfl));have t2:PD.i5 (tV (Px bR (af 3) (eC (.int 4)))) (tV (Px X8 (af 2) (eC (.int 0)))) [some (.ref b),some (.ref δ),some (.int (xs.length:Int)),some (.int q)] S2=.ok (decide (q=4)&&decide ((xs.length:Int)>0)) S2:=Bb (aV (au (aa rfl) rfl ng)) (aV (au (aa rfl) rfl rfl));by_cases c1:q<4/\xs.length<9
 .rw[show(decide (q<4)&&decide ((xs.length:Int)<9))=true by simp;omega]at t1
  obtain⟨m,hm0,hm1,hm⟩:∃m:Int,0<m/\m<=50/\Px QV (ow (ag (eC (.int 6)) (ag (eC (.int 50)) ak))) (Px oMod (af 3) (eC (.int 2))) [some (.ref b),some (.ref δ),some (.int (xs.length:Int)),some (.int q)] S2=.ok (.int m) S2:=by
   have:q=0\/q=1\/q=2\/q=3:=by omega
   rcases this with rfl|rfl|rfl|rfl
   .exact⟨6,by decide,by decide,rfl⟩
   .exact⟨50,by decide,by decide,rfl⟩
   .exact⟨6,by decide,by decide,rfl⟩
   .exact⟨50,by decide,by decide,rfl⟩
  obtain⟨n,S3,e3,n0,n1,g3⟩:=uX d2.self (many:=m) hm0 (by omega)
  have d3:=d2.gr g3
  have hn:(1+n)=((1+n).toNat:Int):=by omega
  obtain⟨v,S4,e4,d4,f4⟩:=tL d3 (n:=(1+n).toNat) (by omega) (by omega) hl (by omega)
  have ha:aY S3 (.str "put ") (.str (nm (1+n).toNat))=some (.str (("put ":Str)++nm (1+n).toNat)):=Y9 (by
   have:=eT (n:=(1+n).toNat) (k:=29) (by omega)
   have h4:("put ":Str).length=4:=by decide
   omega)
  have hf:cY S3 [.int (1+n)]=some (.str (nm (1+n).toNat)):=by rw[hn];exact ni (by omega)
  refine⟨S4,_,_,gQ (ρ:=[some (.ref b),some (.ref δ),none,none]) rfl ((ao (s1 none)).trans ((ao s2).trans ((hJ t1).trans (bq ((gk (aa rfl) (bh d2.dk) (zd _) (ae (au rfl (aR (ae (au rfl ((aw (ae (aa rfl) (ae hm rfl))).trans e3) rfl) rfl) hf) ha) rfl)).trans e4))))),d4,(f2.trans g3.fb).trans f4.fb,by simp,by simp;omega,λx hx=>?_⟩
  rcases Yx.mp hx with h|h
  .exact hb x h
  .rw[Yq.mp h]
   exact⟨by omega,by omega⟩
 .rw[show(decide (q<4)&&decide ((xs.length:Int)<9))=false by simp;omega]at t1
  by_cases c2:q=4/\xs≠[]
  .have hp:0<xs.length:=List.length_pos_iff.mpr c2.2
   rw[show(decide (q=4)&&decide ((xs.length:Int)>0))=true by simp;omega]at t2
   obtain⟨v,S4,e4,d4,f4⟩:=zt d2 hl c2.2 (by omega)
   refine⟨S4,_,_,gQ (ρ:=[some (.ref b),some (.ref δ),none,none]) rfl ((ao (s1 none)).trans ((ao s2).trans ((bz t1).trans ((hJ t2).trans (bq ((gk (aa rfl) (bh d2.dk) (zd _) (ae rfl rfl)).trans e4)))))),d4,f2.trans f4.fb,by simp,by rw[Vf];omega,λx hx=>hb x (List.dropLast_subset xs hx)⟩
  .have hq:(decide (q=4)&&decide ((xs.length:Int)>0))=false:=by
    by_cases h:q=4
    .have:xs=[]:=Classical.byContradiction λh'=>c2 ⟨h,h'⟩;subst this;simp
    .simp[h]
   rw[hq]at t2
   exact⟨S2,hs,xs,gQ (ρ:=[some (.ref b),some (.ref δ),none,none]) rfl ((ao (s1 none)).trans ((ao s2).trans ((bz t1).trans ((bz t2).trans rfl)))),d2,f2,by omega,h9,hb⟩
theorem xX:∀ts:List Str,PyData.eqvAll (ts.map PyData.str) (ts.map PyData.str)=true
 |[]=>rfl
 |t::ts=>by rw[Y8,PyData.eqvAll,xX ts,PyData.eqv];simp
def o9{ts:List Str}(ht:∀t∈ts,Pl t):eY S (.lst (ts.map .str)) (.lst (ts.map .str))=some (.bl false):=by
 have hs:∀d∈ts.map D.str,Sim d ((λ| D.str x=>PyData.str x|_=>.none) d):=λd hd=>by
  obtain⟨t,h,rfl⟩:=Yt.mp hd
  exact⟨rfl,(ht t h).ok,by show 0<=3;omega⟩
 have:=GF hs hs;unfold eY;rw[this,Za];have e:=xX ts;show Option.map _ (some (PyData.eqvAll (ts.map PyData.str) (ts.map PyData.str)))=_;rw[e];rfl
def EW(h:v.natAbs<1000000000000000000000000000000):Rw v≠("none":Str):=λq=>by
 have:=(jo h).2.1;rw[q]at this
 rw[show intText? ("none":Str)=none by kernel_rfl]at this
 cases this
def EX(h:v.natAbs<1000000000000000000000000000000):ei S [.str (Rw v)]=some (.int v):=kr (by have:=(jo h).2.2.1;omega) (jo h).2.1
abbrev K9:SM:=(bN (dy "Desk" "say" aB (af 10) (ag (Px aY (eC (.str "put ")) (eB cY (ag (af 11) ak))) ak)))
abbrev La:SM:=(QQ (PD.i5 (tV (Px eY (af 12) (eC (.str "none")))) (PD.fM (tV (az bg (ag (af 5) (ag (af 8) (ag (eB ei (ag (af 12) ak)) ak))))))) (aT (eC (.bl false))) bc)
theorem Fr.trans(x:Fr κ e S S1)(y:Fr κ e S1 S2):Fr κ e S S2:=⟨λi h h1 h2=>(y.oth i (Ys h x.len) h1 h2).trans (x.oth i h h1 h2),Yw x.len y.len⟩
theorem xY(r0 r1 r2 r3 r4 r5 r6 r7 r8 r9 r12 r13 r14:Option D):∀(ys:List Int)(S:Pz)(hs:List (List Int))(row:List Int)(r11:Option D),Dq S b κ e δ hs row->(∀y∈ys,ZW y)->row.length+ys.length<=10->hs.length+ys.length<=100->
  ∃S' hs' a11,forL (.nm 11) K9 (ys.map .int) [r0,r1,r2,r3,r4,r5,r6,r7,r8,r9,some (.ref δ),r11,r12,r13,r14] S=.ok (.nx [r0,r1,r2,r3,r4,r5,r6,r7,r8,r9,some (.ref δ),a11,r12,r13,r14]) S'/\Dq S' b κ e δ hs' (row++ys)/\Fr κ e S S'
 |[],S,hs,row,r11,d,_,_,_=>⟨S,hs,r11,rfl,by rw[Qi];exact d,⟨λ_ _ _ _=>rfl,Yh _⟩⟩
 |y::ys,S,hs,row,r11,d,hy,h1,h2=>by
  have z:(100:Nat)<=sizeLine:=by decide
  rw[Yn]at h1 h2;have y0:=hy y (.head _)
  have hn:y=(y.toNat:Int):=by have:=y0.1;omega
  have y2:=y0.2
  obtain⟨v,S1,e1,d1,f1⟩:=tL d (n:=y.toNat) (by have:=y0.1;omega) (by omega) (by omega) (by omega)
  rw[<- hn]at d1
  obtain⟨S2,hs',a11,e2,d2,f2⟩:=xY r0 r1 r2 r3 r4 r5 r6 r7 r8 r9 r12 r13 r14 ys S1 _ _ (some (.int y)) d1 (λx hx=>hy x (.tail _ hx)) (by simp;omega) (by simp;omega)
  have hf:cY S [.int y]=some (.str (nm y.toNat)):=by
   have:=ni (S:=S) (n:=y.toNat) (by omega)
   rw[<- hn]at this;exact this
  have ha:aY S (.str "put ") (.str (nm y.toNat))=some (.str (("put ":Str)++nm y.toNat)):=Y9 (by
   have:=eT (n:=y.toNat) (k:=29) (by omega)
   have h4:("put ":Str).length=4:=by decide
   omega)
  refine⟨S2,hs',a11,?_,by rw[Zv]at d2;exact d2,f1.trans f2⟩
  rw[Y8];exact(bu (r1:=[r0,r1,r2,r3,r4,r5,r6,r7,r8,r9,some (.ref δ),some (.int y),r12,r13,r14]) rfl (bq ((gk (aa rfl) (bh d.dk) (zd _) (ae (au rfl (aR (ae (aa rfl) rfl) hf) ha) rfl)).trans e1))).trans e2
section
variable{b κ e δ:Nat}{hs:List (List Int)}{xs:List Int}(h10:xs.length<=10)(hb:∀x∈xs,okN x)
include h10 hb
def tP(d:Dq S b κ e δ hs xs){o:Option Int}(ho:∀z,o=some z->z.natAbs<1000000000000000000000000000000)(r0 r1 r2 r3 r4 r6 r7 r9 r10 r11 r13 r14:Option D):∃S',La [r0,r1,r2,r3,r4,some (.ref δ),r6,r7,some (tupI xs),r9,r10,r11,some (.str (tO o)),r13,r14] S=.ok (.nx [r0,r1,r2,r3,r4,some (.ref δ),r6,r7,some (tupI xs),r9,r10,r11,some (.str (tO o)),r13,r14]) S'/\Pre S S':=by
 cases o with
 |none=>exact⟨S,(bz (y9 (aV (au (aa rfl) rfl ne_self)))).trans rfl,Pre.refl S⟩
 |some z=>
  have hz:=ho z rfl;obtain⟨S',e1,p⟩:=tM d h10 hb hz
  have hn:eY S (.str (Rw z)) (.str "none")=some (.bl true):=by
   show Option.map _ (some (decide (Rw z=("none":Str))))=_
   rw[Yo (EW hz)];rfl
  exact⟨S',(bz ((y8 (aV (au (aa rfl) rfl hn))).trans (dC (b:=true) (aV ((aw (ae (aa rfl) (ae (aa rfl) (ae (aR (ae (aa rfl) rfl) (EX hz)) rfl)))).trans e1))))).trans rfl,p⟩
theorem tQ:∀(l:List Int)(S:Pz)(r0:Option D),Dq S b κ e δ hs xs->(∀z∈l,z.natAbs<1000000000000000000000000000000/\¬Wo KS xs z)->
  ∃S',cI (.nm 0) (tV (Px bR (dy "Desk" "say" aB (af 1) (ag (Px aY (eC (.str "comes ")) (eB cY (ag (af 0) ak))) ak)) (eC (.str "yes")))) (af 0) (l.map .int) [r0,some (.ref δ)] S=.ok [] S'/\Pre S S'
 |[],S,r0,_,_=>⟨S,rfl,Pre.refl S⟩
 |z::l,S,r0,d,h=>by
  obtain⟨hz,hw⟩:=h z (.head _);obtain⟨w,u,g,o,oa,ob,sT,p,q,a⟩:=qF h10 hb z
  obtain⟨S1,e1,p1⟩:=qI (i:=1) (r:=[some (.int z),some (.ref δ)]) (x:=af 0) (a':="comes ") d (qH a hz) (by decide) (by decide) hz rfl (aa rfl)
  obtain⟨S2,e2,p2⟩:=tQ l S1 (some (.int z)) (d.pre p1) λx hx=>h x (.tail _ hx);refine⟨S2,?_,p1.trans p2⟩
  have hc:¬0<w:=by rw[a.sW,vH];exact hw
  have ht:tV (Px bR (dy "Desk" "say" aB (af 1) (ag (Px aY (eC (.str "comes ")) (eB cY (ag (af 0) ak))) ak)) (eC (.str "yes"))) [some (.int z),some (.ref δ)] S=.ok (decide (tC w = "yes")) S1:=aV (au e1 rfl rfl)
  rw[show decide (tC w = "yes")=false by unfold tC;rw[Yj hc];rfl]at ht
  rw[Y8,cI];have hp:(PD.G.nm 0).put (.int z) [r0,some (.ref δ)]=some [some (.int z),some (.ref δ)]:=rfl;simp only[hp,ht,R.Pq,Qm,Ze];exact e2
end
def qJ{oa ob : Option Int}(ha : ∀z, oa = some z -> z.natAbs<1000000000000000000000000000000)(hb : ∀z, ob = some z -> z.natAbs<1000000000000000000000000000000)(S : Pz): dZ S (.str ((tO ob++(" " : Str))++tO oa)) [.str " "] = .ok (.lst [.str (tO ob), .str (tO oa)]) S := by
  have free : ∀{o : Option Int}, (∀z, o = some z -> z.natAbs<1000000000000000000000000000000) -> 32∉(tO o).cps.toList := λ{o} h => by
    cases o with
    |none => decide
    |some z => exact(jo (h z rfl)).2.2.2
  have e : (tO ob++(" " : Str))++tO oa = Txt.join (" " : Str) [tO ob, tO oa] := fL (by rw[mi, eU, eX, eX, kh];simp[jl])
  have l1 := vD ha;have l2 := vD hb
  have := jn (x := (tO ob++(" " : Str))++tO oa) (by rw[ba, eX, eX, Yp, Yp, ← ba, ← ba, ← ba];have:(" ":Str).length=1:=(by decide);omega) S
  rw[e, fG (by simp) (λw hw => by
    simp only[Yb, Yy, Zn]at hw;rcases hw with rfl|rfl
    · exact free hb
    · exact free ha)]at this
  rw[e];exact this
def EY{i:Int}(h:t r S=.ok [.int i,.int j] S)(hi:-100000<=i/\i<=100000)(hj:-100000<=j/\j<=100000):kq t r S=.ok (((List.range (j-i).toNat).map λ(m:Nat)=>i+(m:Int)).map .int) S:=by
 unfold kq;rw[h,R.Pq]
 have z:(2:Int)^62=4611686018427387904:=by decide
 have e:PD.BY [.int i,.int j]=some (i,j):=by
  simp only[PD.BY]
  rw[Y9 (by rw[z];omega)]
 rw[e,Za];rfl
theorem EZ:∀xs:List Int,(∀x∈xs,ZW x)->xs.sum<=50*(xs.length:Int)
 |[],_=>by simp
 |x::xs,h=>by have ih:=EZ xs λy hy=>h y (.tail _ hy);have hx:=(h x (.head _)).2;rw[Zf,Yn];omega
abbrev Ho:SM:=(aA (aN 8 (az cE (ag (af 5) ak))) (aA (aN 9 (Px gC (az bX (ag (af 2) (ag (eC (.int 41)) ak))) (eC (.int 20)))) (aA (aN 10 (rp "Desk" bF)) (aA (dU (bJ (af 8) bH) (.nm 11) K9) (aA (QQ (PD.T8 (tV (Px eY (az bB (ag (af 10) (ag (af 9) ak))) (az bB (ag (af 5) (ag (af 9) ak))))) (PD.fM (tV (az bg (ag (af 5) (ag (af 8) (ag (af 9) ak))))))) (aT (eC (.bl false))) bc) (aA (dU (bJ (fk dZ (dy "Desk" "say" aB (af 5) (ag (Px aY (eC (.str "near ")) (eB cY (ag (af 9) ak))) ak)) (ag (eC (.str " ")) ak)) bH) (.nm 12) (QQ (PD.i5 (tV (Px eY (af 12) (eC (.str "none")))) (PD.fM (tV (az bg (ag (af 5) (ag (af 8) (ag (eB ei (ag (af 12) ak)) ak))))))) (aT (eC (.bl false))) bc)) (aA (aN 13 (eB ei (ag (dy "Desk" "say" aB (af 5) (ag (eC (.str "even")) ak)) ak))) (aA (QQ (tV (Px eY (Px QV (fk dZ (dy "Desk" "say" aB (af 5) (ag (Px aY (eC (.str "near ")) (eB cY (ag (af 13) ak))) ak)) (ag (eC (.str " ")) ak)) (eC (.int 0))) (eB cY (ag (af 13) ak)))) (aT (eC (.bl false))) bc) (aA (aN 14 (br (kq (ag (Px gC (eC (.int 1)) (af 13)) (ag (af 13) ak))) 1 [5] (.nm 0) (tV (Px bR (dy "Desk" "say" aB (af 1) (ag (Px aY (eC (.str "comes ")) (eB cY (ag (af 0) ak))) ak)) (eC (.str "yes")))) (af 0))) (QQ (tV (Px eY (af 14) (ow ak))) (aT (eC (.bl false))) bc))))))))))
abbrev JD:SM:=(aA (aN 6 (Px oMod (af 4) (eC (.int 2)))) (aA (aN 7 (az bB (ag (Px QV (af 3) (Px gC (eC (.int 1)) (af 6))) (ag (af 4) ak)))) (aA (bN (az cB (ag (af 2) (ag (Px QV (af 3) (af 6)) ak)))) (QQ (tV (Px eY (az bB (ag (Px QV (af 3) (Px gC (eC (.int 1)) (af 6))) (ag (af 4) ak))) (af 7))) (aT (eC (.bl false))) bc))))
abbrev Lb:SM:=(aA (aN 2 (az ef (ag (af 0) (ag (af 1) ak)))) (aA (aN 3 (ow (ag (rp "Desk" bF) (ag (rp "Desk" bF) ak)))) (aA (dU (eG (ag (eC (.int 12)) ak)) (.nm 4) JD) (dU (bJ (af 3) bH) (.nm 5) Ho))))
def tR{hs:List (List Int)}(d:Dq S b κ e δ hs xs)(h9:xs.length<=9)(hb:∀x∈xs,ZW x)(r0 r1 r3 r4 r6 r7 r8 r9 r10 r11 r12 r13 r14:Option D):∃S' a8 a9 a10 a11 a12 a13 a14,Ho [r0,r1,some (.ref b),r3,r4,some (.ref δ),r6,r7,r8,r9,r10,r11,r12,r13,r14] S=.ok (.nx [r0,r1,some (.ref b),r3,r4,some (.ref δ),r6,r7,a8,a9,a10,a11,a12,a13,a14]) S'/\Gr b S S':=by
 have z:(2000:Nat)<=sizeLine:=by decide
 have hbn:∀x∈xs,okN x:=λx hx=>(hb x hx).n
 have h10:xs.length<=10:=by omega
 obtain⟨S1,e1,p1⟩:=Ba d h10 hbn;have d1:=d.pre p1
 obtain⟨q,S2,e2,q0,q1,g2⟩:=uX d1.self (many:=41) (by decide) (by decide)
 have d2:=d1.gr g2
 have hv:(q-20).natAbs<1000000000000000000000000000000:=by omega
 have em:=vn (c:="Desk") (r:=[r0,r1,some (.ref b),r3,r4,some (.ref δ),r6,r7,some (tupI xs),some (.int (q-20)),r10,r11,r12,r13,r14]) (vo S2)
 have d0:Dq (S2++[.ins "Desk" [("keeper",.ref (S2.length+1))],.ins "Keeper" (kF (tI []) (.ref (S2.length+2))),.lst []]) b (S2.length+1) (S2.length+2) S2.length [] []:=by
  obtain⟨m,hm⟩:=d2.bx;have hm':=bQ hm
  exact⟨⟨m,by rw[Z1 hm'];exact hm⟩,by simp,by simp,by simp,by omega,by omega,by omega,by omega,by omega,by omega⟩
 obtain⟨S4,hs',a11,e4,d4,f4⟩:=xY r0 r1 (some (.ref b)) r3 r4 (some (.ref δ)) r6 r7 (some (tupI xs)) (some (.int (q-20))) r12 r13 r14 xs _ [] [] r11 d0 hb (by simp;omega) (by simp;omega)
 rw[Qz]at d4
 have p4:Pre S2 S4:=⟨λi hi=>by rw[f4.oth i (by rw[Yp];omega) (by omega) (by omega),Z1 hi],by have:=f4.len;rw[Yp]at this;omega⟩
 have dd:=d2.pre p4;obtain⟨w,u,g,o,oa,ob,sT,p,c,a⟩:=qF h10 hbn (q-20);obtain⟨ts,ht⟩:=A9 a hv h10 hbn;obtain⟨S5,e5,p5⟩:=vG hv ht S4 _ _ _ _ _ d4;obtain⟨S6,e6,p6⟩:=vG hv ht S5 _ _ _ _ _ (dd.pre p5);obtain⟨S7,e7,p7⟩:=tM ((dd.pre p5).pre p6) h10 hbn hv;have d7:=((dd.pre p5).pre p6).pre p7
 obtain⟨S8,e8,p8⟩:=qI (i:=5) (r:=[r0,r1,some (.ref b),r3,r4,some (.ref δ),r6,r7,some (tupI xs),some (.int (q-20)),some (.ref S2.length),a11,r12,r13,r14]) (x:=af 9) (a':="near ") d7 (vF a hv) (by decide) (by decide) hv rfl (aa rfl)
 have d8:=d7.pre p8;have m8:=qJ a.as a.bs S8;obtain⟨S9,e9,p9⟩:=tP h10 hbn d8 a.bs r0 r1 (some (.ref b)) r3 r4 r6 r7 (some (.int (q-20))) (some (.ref S2.length)) a11 r13 r14;obtain⟨S10,e10,p10⟩:=tP h10 hbn (d8.pre p9) a.as r0 r1 (some (.ref b)) r3 r4 r6 r7 (some (.int (q-20))) (some (.ref S2.length)) a11 r13 r14;have d10:=(d8.pre p9).pre p10;obtain⟨S11,e11,p11⟩:=A8 a S10 b κ e δ hs d10;have d11:=d10.pre p11;obtain⟨w2,u2,g2',o2,oa2,ob2,sT2,p2',c2,a2⟩:=qF h10 hbn u;have hu:=a.sU
 obtain⟨S12,e12,p12⟩:=qI (i:=5) (r:=[r0,r1,some (.ref b),r3,r4,some (.ref δ),r6,r7,some (tupI xs),some (.int (q-20)),some (.ref S2.length),a11,some (.str (tO oa)),some (.int u),r14]) (x:=af 13) (a':="near ") d11 (vF a2 a.us) (by decide) (by decide) a.us rfl (aa rfl)
 have d12:=d11.pre p12;have m12:=qJ a2.as a2.bs S12
 have hob:ob2=some u:=by
  have h:=a2.sB;cases ob2 with
  |none=>exact absurd (h u hu.1) (by omega)
  |some y=>
   have h1:=h.2.1;have h2:=h.2.2 u hu.1 (Us u)
   rw[show y=u by omega]
 subst hob;have hu0:=hu.2.1
 have hu1:u<=450:=by have h1:=(DX kdS (λx hx=>(hbn x hx).1) hu.1).2;have h2:=EZ xs hb;omega
 have hz:∀y∈(List.range (u-(1-u)).toNat).map (λ(m:Nat)=>(1-u)+(m:Int)),y.natAbs<1000000000000000000000000000000/\¬Wo KS xs y:=λy hy=>by
  obtain⟨m,hm,rfl⟩:=Yt.mp hy;have hm:=Mn.mp hm
  refine⟨by omega,λhw=>?_⟩
  by_cases h0:0<=1-u+(m:Int)
  .have:=hu.2.2 _ hw h0;omega
  .have:=hu.2.2 _ (EV hw) (by omega)
   omega
 obtain⟨S13,e13,p13⟩:=tQ h10 hbn _ S12 none d12 hz
 have hc:br (kq (ag (Px gC (eC (.int 1)) (af 13)) (ag (af 13) ak))) 1 [5] (.nm 0) (tV (Px bR (dy "Desk" "say" aB (af 1) (ag (Px aY (eC (.str "comes ")) (eB cY (ag (af 0) ak))) ak)) (eC (.str "yes")))) (af 0) [r0,r1,some (.ref b),r3,r4,some (.ref δ),r6,r7,some (tupI xs),some (.int (q-20)),some (.ref S2.length),a11,some (.str (tO oa)),some (.int u),r14] S12=.ok (.lst []) S13:=xG (EY (i:=1-u) (j:=u) (ae (au rfl (aa rfl) rfl) (ae (aa rfl) rfl)) (by omega) (by omega)) (by rw[Yi,Yi,List.length_range];omega) e13
 refine⟨S13,some (tupI xs),some (.int (q-20)),some (.ref S2.length),a11,some (.str (tO oa)),some (.int u),some (.lst []),?_,(p1.gr d.self).trans (g2.trans ((((((((((p4.trans p5).trans p6).trans p7).trans p8).trans p9).trans p10).trans p11).trans p12).trans p13).gr d2.self))⟩;refine(ao (aC ((aw (ae (aa rfl) rfl)).trans e1))).trans ?_;refine(ao (aC (au ((aw (ae (aa rfl) (ae rfl rfl))).trans e2) rfl rfl))).trans ?_;refine(ao (aC em)).trans ?_;refine(ao ((du (aa rfl) rfl).trans e4)).trans ?_;refine(ao ((bz ((sZ (aV (au ((aw (ae (aa rfl) (ae (aa rfl) rfl))).trans e5) ((aw (ae (aa rfl) (ae (aa rfl) rfl))).trans e6) (o9 ht.pl)))).trans (dC (b:=true) (aV ((aw (ae (aa rfl) (ae (aa rfl) (ae (aa rfl) rfl)))).trans e7))))).trans rfl)).trans ?_;refine(ao ((du ((dD e8 (ae rfl rfl)).trans m8) rfl).trans ((bu (r1:=[r0,r1,some (.ref b),r3,r4,some (.ref δ),r6,r7,some (tupI xs),some (.int (q-20)),some (.ref S2.length),a11,some (.str (tO ob)),r13,r14]) rfl e9).trans ((bu (r1:=[r0,r1,some (.ref b),r3,r4,some (.ref δ),r6,r7,some (tupI xs),some (.int (q-20)),some (.ref S2.length),a11,some (.str (tO oa)),r13,r14]) rfl e10).trans rfl)))).trans ?_;refine(ao (aC (aR (ae ((gk (aa rfl) (bh d10.dk) (zd _) (ae rfl rfl)).trans e11) rfl) (EX a.us)))).trans ?_;refine(ao ((bz (aV (au (au ((dD e12 (ae rfl rfl)).trans m12) rfl rfl) (aR (ae (aa rfl) rfl) (kj a.us)) ne_self))).trans rfl)).trans ?_;refine(ao (aC hc)).trans ?_
 exact(bz (aV (au (aa rfl) (uY rfl (Zs _)) (o9 (ts:=[]) (λt h=>by cases h))))).trans rfl
def G7(ns:List Int)(c:Nat)(hn:ns.length<=63)(hc:1<=c/\c<=63)(r:Rp)(hr:r[0]?=some (some (.fz (ns.map .int))))(S:Pz):∃n:Nat,eG (ag (eB wm (ag (eC (.int 1)) (ag (eB uy (ag (eB cy (ag (af 0) ak)) (ag (eC (.int c)) ak))) ak))) ak) r S=.ok ((List.range n).map λ(i:Nat)=>D.int i) S:=by
 refine⟨max 1 (min ns.length c),qj ?_ (by omega)⟩
 have e:(if (1:Int)<(if (c:Int)<(ns.length:Int) then (c:Int) else (ns.length:Int)) then (if (c:Int)<(ns.length:Int) then (c:Int) else (ns.length:Int)) else 1)=((max 1 (min ns.length c):Nat):Int):=by split<;>split<;>omega
 rw[<- e];simp[ag,ak,eB,eC,af,R.bind,R.of,hr,cy,cc,uy,wm]
structure ZX(S:Pz)(b κ e δ κ' e' δ' N:Nat):Prop where
 x:∃hs xs,Dq S b κ e δ hs xs/\hs.length<=N/\xs.length<=9/\∀y∈xs,ZW y
 y:∃hs xs,Dq S b κ' e' δ' hs xs/\hs.length<=N/\xs.length<=9/\∀y∈xs,ZW y
 j:Dj κ e δ κ' e' δ'
 j':Dj κ' e' δ' κ e δ
def ZX.swap{N:Nat}(T:ZX S b κ e δ κ' e' δ' N):ZX S b κ' e' δ' κ e δ N:=⟨T.y,T.x,T.j',T.j⟩
section
variable{S:Pz}{b κ e δ κ' e' δ' N:Nat}(T:ZX S b κ e δ κ' e' δ' N)(hN:N<900)
include T hN
def xZ(hv:v.natAbs<1000000000000000000000000000000):∃(ts:List Str)(S1 S2 S3:Pz),(∀t∈ts,Pl t)/\bB [.ref δ',.int v] S=.ok (.lst (ts.map .str)) S1/\cB [.ref b,.ref δ] S1=.ok .non S2/\bB [.ref δ',.int v] S2=.ok (.lst (ts.map .str)) S3/\ZX S3 b κ e δ κ' e' δ' (N+1):=by
 obtain⟨hs,xs,d,hn,h9,hb⟩:=T.x;obtain⟨hs',xs',d',hn',h9',hb'⟩:=T.y;have hbn:∀x∈xs',okN x:=λx hx=>(hb' x hx).n
 obtain⟨w,u,g,o,oa,ob,sT,p,c,a⟩:=qF (by omega) hbn v
 obtain⟨ts,ht⟩:=A9 a hv (by omega) hbn
 obtain⟨S1,e1,p1⟩:=vG hv ht S _ _ _ _ _ d'
 obtain⟨S2,hs2,xs2,e2,d2,f2,l2,h2,b2⟩:=Cq (d.pre p1) h9 hb (by omega)
 have d2':=(d'.pre p1).fb T.j f2 d2;obtain⟨S3,e3,p3⟩:=vG hv ht S2 _ _ _ _ _ d2'
 exact⟨ts,S1,S2,S3,ht.pl,e1,e2,e3,⟨hs2,xs2,d2.pre p3,by omega,h2,b2⟩,⟨hs',xs',d2'.pre p3,by omega,h9',hb'⟩,T.j,T.j'⟩
def E2(i:Nat)(hi:i<12)(r0 r1 r5 r6 r7 r8 r9 r10 r11 r12 r13 r14:Option D):∃S' a6 a7,JD [r0,r1,some (.ref b),some (.lst [.ref δ,.ref δ']),some (.int (i:Int)),r5,r6,r7,r8,r9,r10,r11,r12,r13,r14] S=.ok (.nx [r0,r1,some (.ref b),some (.lst [.ref δ,.ref δ']),some (.int (i:Int)),r5,a6,a7,r8,r9,r10,r11,r12,r13,r14]) S'/\ZX S' b κ e δ κ' e' δ' (N+1):=by
 have hv:((i:Int)).natAbs<1000000000000000000000000000000:=by omega
 have hm:(i:Int)%2=0\/(i:Int)%2=1:=by omega
 rcases hm with hm|hm
 .obtain⟨ts,S1,S2,S3,ht,e1,e2,e3,T'⟩:=xZ T hN hv
  have s0:oMod S (.int (i:Int)) (.int 2)=some (.int 0):=by rw[Ds (by decide),hm]
  refine⟨S3,some (.int 0),some (.lst (ts.map .str)),?_,T'⟩;refine(ao (aC (au (aa rfl) rfl s0))).trans ?_;refine(ao (aC ((aw (ae (x:=.ref δ') (au (aa rfl) (au rfl (aa rfl) rfl) rfl) (ae (aa rfl) rfl))).trans e1))).trans ?_;refine(ao (bq ((aw (ae (aa rfl) (ae (x:=.ref δ) (au (aa rfl) (aa rfl) rfl) rfl))).trans e2))).trans ?_;exact(bz (aV (au ((aw (ae (x:=.ref δ') (au (aa rfl) (au rfl (aa rfl) rfl) rfl) (ae (aa rfl) rfl))).trans e3) (aa rfl) (o9 ht)))).trans rfl
 .obtain⟨ts,S1,S2,S3,ht,e1,e2,e3,T'⟩:=xZ T.swap hN hv
  have s0:oMod S (.int (i:Int)) (.int 2)=some (.int 1):=by rw[Ds (by decide),hm]
  refine⟨S3,some (.int 1),some (.lst (ts.map .str)),?_,T'.swap⟩;refine(ao (aC (au (aa rfl) rfl s0))).trans ?_;refine(ao (aC ((aw (ae (x:=.ref δ) (au (aa rfl) (au rfl (aa rfl) rfl) rfl) (ae (aa rfl) rfl))).trans e1))).trans ?_;refine(ao (bq ((aw (ae (aa rfl) (ae (x:=.ref δ') (au (aa rfl) (aa rfl) rfl) rfl))).trans e2))).trans ?_;exact(bz (aV (au ((aw (ae (x:=.ref δ) (au (aa rfl) (au rfl (aa rfl) rfl) rfl) (ae (aa rfl) rfl))).trans e3) (aa rfl) (o9 ht)))).trans rfl
end
theorem x8(r0 r1 r5 r8 r9 r10 r11 r12 r13 r14:Option D):∀(l:List Nat)(S:Pz)(N:Nat)(r4 r6 r7:Option D),ZX S b κ e δ κ' e' δ' N->(∀i∈l,i<12)->N+l.length<900->∃S' a4 a6 a7 N',forL (.nm 4) JD (l.map λ(i:Nat)=>D.int i) [r0,r1,some (.ref b),some (.lst [.ref δ,.ref δ']),r4,r5,r6,r7,r8,r9,r10,r11,r12,r13,r14] S=.ok (.nx [r0,r1,some (.ref b),some (.lst [.ref δ,.ref δ']),a4,r5,a6,a7,r8,r9,r10,r11,r12,r13,r14]) S'/\ZX S' b κ e δ κ' e' δ' N'
 |[],S,N,r4,r6,r7,T,_,_=>⟨S,r4,r6,r7,N,rfl,T⟩
 |i::l,S,N,r4,r6,r7,T,h,hn=>by
  rw[Yn]at hn
  obtain⟨S1,a6,a7,e1,T1⟩:=E2 T (by omega) i (h i (.head _)) r0 r1 r5 r6 r7 r8 r9 r10 r11 r12 r13 r14
  obtain⟨S2,b4,b6,b7,N',e2,T2⟩:=x8 r0 r1 r5 r8 r9 r10 r11 r12 r13 r14 l S1 (N+1) (some (.int (i:Int))) a6 a7 T1 (λx hx=>h x (.tail _ hx)) (by omega)
  exact⟨S2,b4,b6,b7,N',(bu (r1:=[r0,r1,some (.ref b),some (.lst [.ref δ,.ref δ']),some (.int (i:Int)),r5,r6,r7,r8,r9,r10,r11,r12,r13,r14]) rfl e1).trans e2,T2⟩
def E3(ns:List Int)(k:Nat)(S:Pz)(r2 r3 r4 r5 r6 r7 r8 r9 r10 r11 r12 r13 r14:Option D):∃(S':Pz)(a2 a3 a4 a5 a6 a7 a8 a9 a10 a11 a12 a13 a14:Option D),Lb [some (.fz (ns.map .int)),some (.int k),r2,r3,r4,r5,r6,r7,r8,r9,r10,r11,r12,r13,r14] S=.ok (.nx [some (.fz (ns.map .int)),some (.int k),a2,a3,a4,a5,a6,a7,a8,a9,a10,a11,a12,a13,a14]) S':=by
 have z:(100:Nat)<=sizeLine:=by decide
 obtain⟨v,e0⟩:=I0 ns k S;have c1:=vn (c:="Desk") (r:=[some (.fz (ns.map .int)),some (.int k),some (.ref S.length),r3,r4,r5,r6,r7,r8,r9,r10,r11,r12,r13,r14]) (vo (S++[.lst [.int v]]))
 have hl:(S++[SO.lst [.int v]]).length=S.length+1:=by simp
 rw[hl]at c1;generalize hS1:S++[SO.lst [D.int v]]++[SO.ins "Desk" [("keeper",D.ref (S.length+1+1))],SO.ins "Keeper" (kF (tI []) (D.ref (S.length+1+2))),SO.lst []]=S1 at c1
 have l1:S1.length=S.length+4:=by rw[<- hS1];simp
 have D1:Dq S1 S.length (S.length+2) (S.length+3) (S.length+1) [] []:=by
  rw[<- hS1]
  refine⟨⟨v,by simp⟩,?_,?_,?_,by omega,by omega,by omega,by omega,by omega,by omega⟩<;>simp
 have c2:=vn (c:="Desk") (r:=[some (.fz (ns.map .int)),some (.int k),some (.ref S.length),r3,r4,r5,r6,r7,r8,r9,r10,r11,r12,r13,r14]) (vo S1)
 have D1':=D1.pre (Pre.app S1 [.ins "Desk" [("keeper",.ref (S1.length+1))],.ins "Keeper" (kF (tI []) (.ref (S1.length+2))),.lst []])
 have D2:Dq (S1++[.ins "Desk" [("keeper",.ref (S1.length+1))],.ins "Keeper" (kF (tI []) (.ref (S1.length+2))),.lst []]) S.length (S1.length+1) (S1.length+2) S1.length [] []:=⟨D1'.bx,by simp,by simp,by simp,by omega,by omega,by omega,by omega,by omega,by omega⟩
 have T:ZX (S1++[.ins "Desk" [("keeper",.ref (S1.length+1))],.ins "Keeper" (kF (tI []) (.ref (S1.length+2))),.lst []]) S.length (S.length+2) (S.length+3) (S.length+1) (S1.length+1) (S1.length+2) S1.length 0:=
  ⟨⟨[],[],D1',by simp,by simp,λy h=>by cases h⟩,⟨[],[],D2,by simp,by simp,λy h=>by cases h⟩,⟨⟨by omega,by omega⟩,⟨by omega,by omega⟩,⟨by omega,by omega⟩⟩,⟨⟨by omega,by omega⟩,⟨by omega,by omega⟩,⟨by omega,by omega⟩⟩⟩
 obtain⟨S3,a4,a6,a7,N',e3,T3⟩:=x8 (some (.fz (ns.map .int))) (some (.int k)) r5 r8 r9 r10 r11 r12 r13 r14 (List.range 12) _ 0 r4 r6 r7 T (λi hi=>Mn.mp hi) (by simp)
 obtain⟨hs,xs,d,hn,h9,hb⟩:=T3.x;obtain⟨hs',xs',d',hn',h9',hb'⟩:=T3.y;obtain⟨S4,b8,b9,b10,b11,b12,b13,b14,e4,g4⟩:=tR d h9 hb (some (.fz (ns.map .int))) (some (.int k)) (some (.lst [.ref (S.length+1),.ref S1.length])) a4 a6 a7 r8 r9 r10 r11 r12 r13 r14;obtain⟨S5,f8,f9,f10,f11,f12,f13,f14,e5,g5⟩:=tR (d'.gr g4) h9' hb' (some (.fz (ns.map .int))) (some (.int k)) (some (.lst [.ref (S.length+1),.ref S1.length])) a4 a6 a7 b8 b9 b10 b11 b12 b13 b14;refine⟨S5,some (.ref S.length),some (.lst [.ref (S.length+1),.ref S1.length]),a4,some (.ref S1.length),a6,a7,f8,f9,f10,f11,f12,f13,f14,?_⟩;refine(ao (aC ((aw rfl).trans e0))).trans ?_
 refine(ao (aC (uY (ae c1 (ae c2 rfl)) (by show 2<=sizeLine;omega)))).trans ?_
 refine(ao ((g9 (qj (n:=12) rfl (by decide))).trans e3)).trans ?_
 refine(du (aa rfl) rfl).trans ?_;exact(bu (r1:=[some (.fz (ns.map .int)),some (.int k),some (.ref S.length),some (.lst [.ref (S.length+1),.ref S1.length]),a4,some (.ref (S.length+1)),a6,a7,r8,r9,r10,r11,r12,r13,r14]) rfl e4).trans ((bu (r1:=[some (.fz (ns.map .int)),some (.int k),some (.ref S.length),some (.lst [.ref (S.length+1),.ref S1.length]),a4,some (.ref S1.length),a6,a7,b8,b9,b10,b11,b12,b13,b14]) rfl e5).trans rfl)
theorem x9(ns:List Int):∀(l:List Nat)(S:Pz)(r1 r2 r3 r4 r5 r6 r7 r8 r9 r10 r11 r12 r13 r14:Option D),∃(S':Pz)(ρ:Rp),forL (.nm 1) Lb (l.map λ(i:Nat)=>D.int i) [some (.fz (ns.map .int)),r1,r2,r3,r4,r5,r6,r7,r8,r9,r10,r11,r12,r13,r14] S=.ok (.nx ρ) S'
 |[],S,r1,r2,r3,r4,r5,r6,r7,r8,r9,r10,r11,r12,r13,r14=>⟨S,_,rfl⟩
 |k::l,S,r1,r2,r3,r4,r5,r6,r7,r8,r9,r10,r11,r12,r13,r14=>by obtain⟨S1,a2,a3,a4,a5,a6,a7,a8,a9,a10,a11,a12,a13,a14,e1⟩:=E3 ns k S r2 r3 r4 r5 r6 r7 r8 r9 r10 r11 r12 r13 r14;obtain⟨S2,ρ,e2⟩:=x9 ns l S1 (some (.int k)) a2 a3 a4 a5 a6 a7 a8 a9 a10 a11 a12 a13 a14;exact⟨S2,ρ,(bu (r1:=[some (.fz (ns.map .int)),some (.int k),r2,r3,r4,r5,r6,r7,r8,r9,r10,r11,r12,r13,r14]) rfl e1).trans e2⟩
def E4(ns:List Int)(hn:ns.length<=63):∃S,Ar [.fz (ns.map .int)] []=.ok (.bl true) S:=by
 obtain⟨n,hg⟩:=G7 ns 2 hn (by decide) [some (.fz (ns.map .int)),none,none,none,none,none,none,none,none,none,none,none,none,none,none] rfl []
 obtain⟨S,ρ,e⟩:=x9 ns (List.range n) [] none none none none none none none none none none none none none none;exact⟨S,aL rfl ((ao ((g9 hg).trans e)).trans (aD rfl))⟩
def Bc:bootBuiltins "abs" = some (.builtin "abs"):=by decide +kernel
def kE:bootBuiltins "all" = some (.builtin "all"):=by decide +kernel
def E5:bootBuiltins "bool" = some (.type "bool"):=by decide +kernel
def zu:bootBuiltins "divmod" = some (.builtin "divmod"):=by decide +kernel
def hZ:bootBuiltins "int" = some (.type "int"):=by decide +kernel
def cQ:bootBuiltins "isinstance" = some (.builtin "isinstance"):=by decide +kernel
def cg:bootBuiltins "len" = some (.builtin "len"):=by decide +kernel
def vI:bootBuiltins "max" = some (.builtin "max"):=by decide +kernel
def mB:bootBuiltins "min" = some (.builtin "min"):=by decide +kernel
def qK:bootBuiltins "sorted" = some (.builtin "sorted"):=by decide +kernel
def bS:bootBuiltins "str" = some (.type "str"):=by decide +kernel
def vJ:bootBuiltins "sum" = some (.builtin "sum"):=by decide +kernel
def fI:bootBuiltins "tuple" = some (.type "tuple"):=by decide +kernel
structure Txt(K:Frag)(mg:Str->Option Value)(w:World):Prop where
 cl:Tr K SN WQ aat
 SX:ZK K "Desk"
 QG:ZK K "Keeper"
 QT:NoA K "Desk" "keeper"
 Rj:NoA K "Keeper" "earlier"
 PL:NoA K "Keeper" "numbers"
 O9:mg "abs" = none
 Ov:mg "all" = none
 Pb:mg "bool" = none
 OS:mg "divmod" = none
 OA:mg "enumerate" = none
 Oc:mg "int" = none
 MF:mg "isinstance" = none
 MP:mg "len" = none
 OT:mg "max" = none
 Ow:mg "min" = none
 NR:mg "range" = none
 OB:mg "sorted" = none
 ML:mg "str" = none
 OU:mg "sum" = none
 NG:mg "tuple" = none
 Pa:mg "zip" = none
 Rk:∃t,mg "LONGEST_ROW" = some (.int 16 t)
 Tj:∃t,mg "MOST_FIGURES" = some (.int 30 t)
 Rx:∃t,mg "PIECE" = some (.int 60 t)
 R9:∃t,mg "TIMES_BY_PARTS" = some (.int 2 t)
 Sd:∃t,mg "TIMES_BY_SIGNS" = some (.int 1 t)
 Tc:TupAt K mg "SIGNS" [(-1),(1)]
 Sg:aaj K mg "CHANGED_ALONE" ["take","back"]
 Tz:∃t,mg "FIGURES" = some (.str "0123456789" t)
 Xk:aai K mg "MARK_OF" MX
 TJ:ZL K mg "PART_OF" MB
 RM:XS K mg w "ASKED_ALONE" Mr
 Ra:XS K mg w "ASKED_OF_A_NUMBER" L6
section
variable{P:Program}{w:World}{K:Frag}{mg:Str->Option Value}{base:Heap}
def lH:Py ["self"] ["self"] (Pr d5):=QM
def lI(F:QJ K "__init__" "Keeper.__init__" d5 f fd)(ns:nsIn K mainGlobals "Keeper" = some (some (.ref C)))(hmg:mg "Keeper" = some (.ref C))(hm:Mk K C f)(hb:Binds K fd ["self"] [])(T:Txt K mg w):WN P w K mg base "Keeper" 1 cD:=
 DK ["self"] ["self"] 0 1 1 rfl rfl rfl F ns hmg hm hb lH (m:=g6) λcdv A outer s H E hr=>(aq (uQ T.QG T.PL (vL 0) (ik aj)) (ax (uQ T.QG T.Rj (vL 0) (mN aj))))
def nv:Py ["self"] ["self"] (Pr fm):=QM
def ny(F:QJ K "__init__" "Desk.__init__" fm f fd)(ns:nsIn K mainGlobals "Desk" = some (some (.ref C)))(hmg:mg "Desk" = some (.ref C))(hm:Mk K C f)(hb:Binds K fd ["self"] [])(T:Txt K mg w)(MQ:WN P w K mg base "Keeper" 1 cD):WN P w K mg base "Desk" 3 bF:=
 DK ["self"] ["self"] 2 3 1 rfl rfl rfl F ns hmg hm hb nv (m:=jt) λcdv A outer s H E hr=>(ax (uQ T.SX T.QT (vL 0) (uR MQ (hr.mono (by decide)) Y1)))
def nz:Py ["self","numbers"] ["self","numbers"] (Pr fq):=QM
def nA(F:QJ K "change" "Keeper.change" fq f fd)(ns:nsIn K mainGlobals "Keeper" = some (some (.ref C)))(hc:L2.Tr K C)(hm:Meth K C "change" f)(hb:Binds K fd ["self","numbers"] [])(T:Txt K mg w):Rh P w K mg base "Keeper" "change" 1 2 cb:=
 lZ ["self","numbers"] ["self","numbers"] 0 1 2 2 rfl rfl rfl F ns hc hm hb nz (m:=ju) λcdv A outer s H E hr=>(aq (bE (uz V4 Wy Wz ko (iq T.QG T.Rj (vL 0)) (ah (iq T.QG T.PL (vL 0)) aj))) (aq (uQ T.QG T.PL (vL 0) (vL 1)) (ax (aE (aH cT Y1 T.MP cg (ah (vL 1) aj))))))
def ya:Py ["thing"] ["thing"] (Pr jV):=QM
def yb(F:QJ K "is_whole" "is_whole" jV f fd)(hm:mg "is_whole" = some (.ref f))(hb:Binds K fd ["thing"] [])(T:Txt K mg w):Pu P w K mg base "is_whole" 1 1 bO:=
 aG ["thing"] ["thing"] 0 1 1 1 rfl rfl rfl F hm hb ya (m:=lh) λcdv A outer s H E hr=>(ax (aE (i8 (aH mS Y1 T.MF cQ (ah (vL 0) (ah (rY Y1 T.Oc hZ) aj))) (jM (Iw (aH mS Y1 T.MF cQ (ah (vL 0) (ah (rY Y1 T.Pb E5) aj))))))))
def nB:Py ["thing"] ["thing"] (Pr ft):=QM
def nC(F:QJ K "need_number" "need_number" ft f fd)(hm:mg "need_number" = some (.ref f))(hb:Binds K fd ["thing"] [])(T:Txt K mg w)(MC:Pu P w K mg base "is_whole" 1 1 bO):Pu P w K mg base "need_number" 2 1 bG:=
 aG ["thing"] ["thing"] 1 2 1 1 rfl rfl rfl F hm hb nB (m:=fW) λcdv A outer s H E hr=>(ax (bZ (gB (dW (cN MC hr (ah (vL 0) aj) (ai av)))) (ax dj) bD))
def jE:Py ["least","thing"] ["least","thing"] (Pr c9):=QM
def jF(F:QJ K "need_number_from" "need_number_from" c9 f fd)(hm:mg "need_number_from" = some (.ref f))(hb:Binds K fd ["least","thing"] [])(T:Txt K mg w)(Mt:Pu P w K mg base "need_number" 2 1 bG):Pu P w K mg base "need_number_from" 3 2 bV:=
 aG ["least","thing"] ["least","thing"] 2 3 2 2 rfl rfl rfl F hm hb jE (m:=fN) λcdv A outer s H E hr=>(aq (bE (cN Mt hr (ah (vL 1) aj) (ai av))) (ax (bZ (bb pI (vL 1) (vL 0)) (ax dj) bD)))
def oz:Py ["self","number"] ["self","number"] (Pr fX):=QM
def oA(F:QJ K "put" "Keeper.put" fX f fd)(ns:nsIn K mainGlobals "Keeper" = some (some (.ref C)))(hc:L2.Tr K C)(hm:Meth K C "put" f)(hb:Binds K fd ["self","number"] [])(T:Txt K mg w)(Mu:Rh P w K mg base "Keeper" "change" 1 2 cb)(MD:Pu P w K mg base "need_number_from" 3 2 bV):Rh P w K mg base "Keeper" "put" 4 2 cK:=
 lZ ["self","number"] ["self","number"] 3 4 2 2 rfl rfl rfl F ns hc hm hb oz (m:=jW) λcdv A outer s H E hr=>(aq (bE (cN MD hr (ah ay (ah (vL 1) aj)) (ai (ai av)))) (aq (bZ (bb (cz hr) (aH cT Y1 T.MP cg (ah (iq T.QG T.PL (vL 0)) aj)) (js T.Rk Y1)) (ax dj) bD) (ax (aE (dh Mu (hr.mono (by decide)) (vL 0) (ah (aM bo (iq T.QG T.PL (vL 0)) (ik (ah (vL 1) aj))) aj) (ai av))))))
def rA:Py ["self"] ["self"] (Pr ir):=QM
def rB(F:QJ K "row" "Keeper.row" ir f fd)(ns:nsIn K mainGlobals "Keeper" = some (some (.ref C)))(hc:L2.Tr K C)(hm:Meth K C "row" f)(hb:Binds K fd ["self"] [])(T:Txt K mg w):Rh P w K mg base "Keeper" "row" 1 1 eN:=
 lZ ["self"] ["self"] 0 1 1 1 rfl rfl rfl F ns hc hm hb rA (m:=l0) λcdv A outer s H E hr=>(ax (aE (iq T.QG T.PL (vL 0))))
def nD:Py ["self"] ["self"] (Pr fw):=QM
def nE(F:QJ K "take" "Keeper.take" fw f fd)(ns:nsIn K mainGlobals "Keeper" = some (some (.ref C)))(hc:L2.Tr K C)(hm:Meth K C "take" f)(hb:Binds K fd ["self"] [])(T:Txt K mg w)(Mu:Rh P w K mg base "Keeper" "change" 1 2 cb):Rh P w K mg base "Keeper" "take" 2 1 cA:=
 lZ ["self"] ["self"] 1 2 1 1 rfl rfl rfl F ns hc hm hb nD (m:=jv) λcdv A outer s H E hr=>(aq (bZ (bb (cz hr) (iq T.QG T.PL (vL 0)) (ik aj)) (ax dj) bD) (ax (aE (dh Mu (hr.mono (by decide)) (vL 0) (ah (pK ux (iq T.QG T.PL (vL 0)) kn (gY (Hd Dg ay))) aj) (ai av)))))
def mC:Py ["row","middle"] ["row"] (Pr jb):=QM
def vK(F:QJ K "halves_of" "halves_of" jb f fd)(hm:mg "halves_of" = some (.ref f))(hb:Binds K fd ["row"] [])(T:Txt K mg w):Pu P w K mg base "halves_of" 1 1 bC:=
 aG ["row","middle"] ["row"] 0 1 1 2 rfl rfl rfl F hm hb mC (m:=oh) λcdv A outer s H E hr=>(aq (aK mC.nd Y0 Y2 (aM oT (aH cT Y1 T.MP cg (ah (vL 0) aj)) ay)) (ax (aE (ik (ah (pK ux (vL 0) kn (gY (vL 1))) (ah (pK ux (vL 0) (gY (vL 1)) kn) aj))))))
def Cr:Py ["thing"] ["thing"] (Pr m4):=QM
def Cs(F:QJ K "is_row" "is_row" m4 f fd)(hm:mg "is_row" = some (.ref f))(hb:Binds K fd ["thing"] [])(T:Txt K mg w)(MC:Pu P w K mg base "is_whole" 1 1 bO):Pu P w K mg base "is_row" 2 1 fO:=
 aG ["thing"] ["thing"] 1 2 1 1 rfl rfl rfl F hm hb Cr (m:=jX) λcdv A outer s H E hr=>(aq (bZ (lM (rZ (gB (dW (aH mS Y1 T.MF cQ (ah (vL 0) (ah (rY Y1 T.NG fI) aj))))) (pC (bb zV (aH cT Y1 T.MP cg (ah (vL 0) aj)) (js T.Rk Y1))))) (ax (aE jL)) bD) (ax (aE (aH (mR rfl) Y1 T.Ov kE (ah (cC (N:=["number"]) (k:=1) (PB:=[]) rfl (λ_ _ z=>z) (eL Y0 Y0 Y0 Y0 rfl Y0) (cJ (vL 0)) (λ_ _ _ _=>(aI (show(["number"]:List Str).Nodup by decide +kernel) Y0 Y2)) (λ_ _ _ _=>cU) (λ_ _ _ _=>(i8 (cN MC hr (ah (vL 0) aj) (ai av)) (jM (eF wj (vL 0) ay))))) aj)))))
def rC:Py ["thing"] ["thing"] (Pr iu):=QM
def rD(F:QJ K "need_row" "need_row" iu f fd)(hm:mg "need_row" = some (.ref f))(hb:Binds K fd ["thing"] [])(T:Txt K mg w)(Of:Pu P w K mg base "is_row" 2 1 fO):Pu P w K mg base "need_row" 3 1 aP:=
 aG ["thing"] ["thing"] 2 3 1 1 rfl rfl rfl F hm hb rC (m:=jc) λcdv A outer s H E hr=>(ax (bZ (gB (dW (cN Of hr (ah (vL 0) aj) (ai av)))) (ax dj) bD))
def iC:Py ["row","number"] ["row","number"] (Pr cF):=QM
def iD(F:QJ K "need_row_and_number" "need_row_and_number" cF f fd)(hm:mg "need_row_and_number" = some (.ref f))(hb:Binds K fd ["row","number"] [])(T:Txt K mg w)(Mt:Pu P w K mg base "need_number" 2 1 bG)(Au:Pu P w K mg base "need_row" 3 1 aP):Pu P w K mg base "need_row_and_number" 4 2 aJ:=
 aG ["row","number"] ["row","number"] 3 4 2 2 rfl rfl rfl F hm hb iC (m:=ej) λcdv A outer s H E hr=>(aq (bE (cN Au hr (ah (vL 0) aj) (ai av))) (ax (bE (cN Mt hr (ah (vL 1) aj) (ai av)))))
def fJ:Py ["table","step","choices","wider","reached","ways","choice","there"] ["table","step","choices"] (Pr lj):=QM
def zv(F:QJ K "stepped" "stepped" lj f fd)(hm:mg "stepped" = some (.ref f))(hb:Binds K fd ["table","step","choices"] [])(T:Txt K mg w):Pu P w K mg base "stepped" 1 3 gz:=
 aG ["table","step","choices","wider","reached","ways","choice","there"] ["table","step","choices"] 0 1 3 8 rfl rfl rfl F hm hb fJ (m:=sM) λcdv A outer s H E hr=>(aq (aK fJ.nd Y0 Y2 uM) (aq (c8 Z9 rfl (jR (vL 0)) (fV rfl (bf (aI fJ.nd Y0 Y2) (bf (aI fJ.nd Y0 Y2) dQ))) (ax (c8 Z9 rfl (cJ (vL 2)) (aI fJ.nd Y0 Y2) (aq (aK fJ.nd Y0 Y2 (aM bo (vL 4) (aM eK (vL 6) (vL 1)))) (ax (uf (uJ hr) (aM bo (oW hr (vL 3) (vL 7) ay (Aa Y0 Y0 Y0 Y0)) (vL 5)) (vL 3) (vL 7))))))) (ax (aE (vL 3)))))
def ic:Py ["row","choices","table","step"] ["row","choices"] (Pr jY):=QM
def yc(F:QJ K "table_of" "table_of" jY f fd)(hm:mg "table_of" = some (.ref f))(hb:Binds K fd ["row","choices"] [])(T:Txt K mg w)(NV:Pu P w K mg base "stepped" 1 3 gz):Pu P w K mg base "table_of" 2 2 cW:=
 aG ["row","choices","table","step"] ["row","choices"] 1 2 2 4 rfl rfl rfl F hm hb ic (m:=qf) λcdv A outer s H E hr=>(aq (aK ic.nd Y0 Y2 (uL (pP ay ay uB))) (aq (c8 Z9 rfl (cJ (vL 0)) (aI ic.nd Y0 Y2) (ax (aK ic.nd Y0 Y2 (cN NV hr (ah (vL 2) (ah (vL 3) (ah (vL 1) aj))) (ai (ai (ai av))))))) (ax (aE (vL 2)))))
def kZ:Py ["row","number","counts"] ["row","number"] (Pr iw):=QM
def rE(F:QJ K "many_met" "many_met" iw f fd)(hm:mg "many_met" = some (.ref f))(hb:Binds K fd ["row","number"] [])(T:Txt K mg w)(Mw:Pu P w K mg base "halves_of" 1 1 bC)(gV:Pu P w K mg base "need_row_and_number" 4 2 aJ)(MT:Pu P w K mg base "table_of" 2 2 cW):Pu P w K mg base "many_met" 5 2 L9:=
 aG ["row","number","counts"] ["row","number"] 4 5 2 3 rfl rfl rfl F hm hb kZ (m:=l5) λcdv A outer s H E hr=>(aq (bE (cN gV hr (ah (vL 0) (ah (vC 1) aj)) (ai (ai av)))) (aq (aK kZ.nd Y0 (Or.inr Y0) (cC (N:=["half"]) (k:=1) (PB:=[]) rfl (λ_ _ z=>z) (eL Y0 Y0 Y0 Y0 rfl Y0) (cJ (cN Mw hr (ah (vL 0) aj) (ai av))) (λ_ _ _ _=>(aI (show(["half"]:List Str).Nodup by decide +kernel) Y0 Y2)) (λ_ _ _ _=>cU) (λ_ _ _ _=>(cN MT hr (ah (vL 0) (ah (Ab T.Tc Y1) aj)) (ai (ai av)))))) (ax (aE (aH (yD rfl) Y1 T.OU vJ (ah (cC (N:=["reached","ways","counts","number"]) (k:=2) (PB:=[2,1]) rfl (λ_ _ z=>z) (eL Y0 Y0 Y0 Y0 rfl Y0) (jR (bU (mX hr) (vC 2) ay)) (λ_ _ _ _=>(fV rfl (bf (aI (show(["reached","ways","counts","number"]:List Str).Nodup by decide +kernel) Y0 Y2) (bf (aI (show(["reached","ways","counts","number"]:List Str).Nodup by decide +kernel) Y0 Y2) dQ)))) (λ_ _ _ _=>cU) (λ_ _ _ _=>(aM eK (vL 1) (oW hr (bU (mX hr) (vC 2) ay) (aM il (vC 3) (vL 0)) ay (Aa Y0 Y0 Y0 Y0))))) aj))))))
def oB:Py ["row","number"] ["row","number"] (Pr fY):=QM
def oC(F:QJ K "comes_text" "comes_text" fY f fd)(hm:mg "comes_text" = some (.ref f))(hb:Binds K fd ["row","number"] [])(T:Txt K mg w)(MG:Pu P w K mg base "many_met" 5 2 L9):Pu P w K mg base "comes_text" 6 2 cL:=
 aG ["row","number"] ["row","number"] 5 6 2 2 rfl rfl rfl F hm hb oB (m:=jZ) λcdv A outer s H E hr=>(ax (aE (nN (bb zV (cN MG hr (ah (vL 0) (ah (vL 1) aj)) (ai (ai av))) ay) aS aS)))
def nF:Py ["row"] ["row"] (Pr fA):=QM
def nG(F:QJ K "half_worths" "half_worths" fA f fd)(hm:mg "half_worths" = some (.ref f))(hb:Binds K fd ["row"] [])(T:Txt K mg w)(Mw:Pu P w K mg base "halves_of" 1 1 bC)(Au:Pu P w K mg base "need_row" 3 1 aP)(MT:Pu P w K mg base "table_of" 2 2 cW):Pu P w K mg base "half_worths" 4 1 cZ:=
 aG ["row"] ["row"] 3 4 1 1 rfl rfl rfl F hm hb nF (m:=jw) λcdv A outer s H E hr=>(aq (bE (cN Au hr (ah (vL 0) aj) (ai av))) (ax (aE (aO jP Y1 T.NG fI (ah (cC (N:=["half"]) (k:=1) (PB:=[]) rfl (λ_ _ z=>z) (eL Y0 Y0 Y0 Y0 rfl Y0) (cJ (cN Mw hr (ah (vL 0) aj) (ai av))) (λ_ _ _ _=>(aI (show(["half"]:List Str).Nodup by decide +kernel) Y0 Y2)) (λ_ _ _ _=>cU) (λ_ _ _ _=>(aO jP Y1 T.NG fI (ah (aH (DG rfl) Y1 T.OB qK (ah (cN MT hr (ah (vL 0) (ah (Ab T.Tc Y1) aj)) (ai (ai av))) aj)) aj)))) aj)))))
def eD:Py ["row","number","worths","walked","i","j","both"] ["row","number"] (Pr m5):=QM
def Ct(F:QJ K "walk" "walk" m5 f fd)(hm:mg "walk" = some (.ref f))(hb:Binds K fd ["row","number"] [])(T:Txt K mg w)(Na:Pu P w K mg base "half_worths" 4 1 cZ):Pu P w K mg base "walk" 5 2 eO:=
 aG ["row","number","worths","walked","i","j","both"] ["row","number"] 4 5 2 7 rfl rfl rfl F hm hb eD (m:=wX) λcdv A outer s H E hr=>(aq (aK eD.nd Y0 Y2 (cN Na hr (ah (vL 0) aj) (ai av))) (aq (aK eD.nd Y0 Y2 (mN aj)) (aq (aK eD.nd Y0 Y2 ay) (aq (aK eD.nd Y0 Y2 (aM il (aH cT Y1 T.MP cg (ah (bU cG (vL 2) ay) aj)) ay)) (aq (wy Z9 (lM (ue (bb pI (vL 4) (aH cT Y1 T.MP cg (ah (bU cG (vL 2) ay) aj))) (oS (bb wj (vL 5) ay)))) (aq (aK eD.nd Y0 Y2 (aM bo (bU cG (bU cG (vL 2) ay) (vL 4)) (bU cG (bU cG (vL 2) ay) (vL 5)))) (aq (bE (uz V4 Wy Wz ko (vL 3) (ah (ik (ah (vL 4) (ah (vL 5) (ah (vL 6) aj)))) aj))) (ax (bZ (bb pI (vL 6) (vL 1)) (ax (aK eD.nd Y0 Y2 (aM bo (vL 4) ay))) (ax (aK eD.nd Y0 Y2 (aM il (vL 5) ay)))))))) (ax (aE (vL 3))))))))
def zw:Py ["row","number"] ["row","number"] (Pr ll):=QM
def zx(F:QJ K "above" "above" ll f fd)(hm:mg "above" = some (.ref f))(hb:Binds K fd ["row","number"] [])(T:Txt K mg w)(gV:Pu P w K mg base "need_row_and_number" 4 2 aJ)(NA:Pu P w K mg base "walk" 5 2 eO):Pu P w K mg base "above" 6 2 ME:=
 aG ["row","number"] ["row","number"] 5 6 2 2 rfl rfl rfl F hm hb zw (m:=sN) λcdv A outer s H E hr=>(aq (bE (cN gV hr (ah (vL 0) (ah (vC 1) aj)) (ai (ai av)))) (ax (aE (mZ (Ag rfl hr) Y1 T.Ow mB (ah (cC (N:=["i","j","both","number"]) (k:=3) (PB:=[1]) rfl (λ_ _ z=>z) (eL Y0 Y0 Y0 Y0 rfl Y0) (DI (cN NA hr (ah (vL 0) (ah (vC 1) aj)) (ai (ai av)))) (λ_ _ _ _=>(fV rfl (bf (aI (show(["i","j","both","number"]:List Str).Nodup by decide +kernel) Y0 Y2) (bf (aI (show(["i","j","both","number"]:List Str).Nodup by decide +kernel) Y0 Y2) (bf (aI (show(["i","j","both","number"]:List Str).Nodup by decide +kernel) Y0 Y2) dQ))))) (λ_ _ _ _=>(oV (bb wj (vL 2) (vC 3)))) (λ_ _ _ _=>(vL 2))) aj)))))
def oE:Py ["row"] ["row"] (Pr fZ):=QM
def oF(F:QJ K "unevenness" "unevenness" fZ f fd)(hm:mg "unevenness" = some (.ref f))(hb:Binds K fd ["row"] [])(T:Txt K mg w)(Nh:Pu P w K mg base "above" 6 2 ME):Pu P w K mg base "unevenness" 7 1 Mz:=
 aG ["row"] ["row"] 6 7 1 1 rfl rfl rfl F hm hb oE (m:=j0) λcdv A outer s H E hr=>(ax (aE (cN Nh hr (ah (vL 0) (ah ay aj)) (ai (ai av)))))
def qL:Py ["row"] ["row"] (Pr gH):=QM
def qM(F:QJ K "even_text" "even_text" gH f fd)(hm:mg "even_text" = some (.ref f))(hb:Binds K fd ["row"] [])(T:Txt K mg w)(Ni:Pu P w K mg base "unevenness" 7 1 Mz):Pu P w K mg base "even_text" 8 1 c5:=
 aG ["row"] ["row"] 7 8 1 1 rfl rfl rfl F hm hb qL (m:=kR) λcdv A outer s H E hr=>(ax (aE (aO cV Y1 T.ML bS (ah (cN Ni hr (ah (vL 0) aj) (ai av)) aj))))
def cw:Py ["row","times","ahead","number"] ["row","times"] (Pr de):=QM
def jG(F:QJ K "ahead_of_too_great" "ahead_of_too_great" de f fd)(hm:mg "ahead_of_too_great" = some (.ref f))(hb:Binds K fd ["row","times"] [])(T:Txt K mg w):Pu P w K mg base "ahead_of_too_great" 1 2 bw:=
 aG ["row","times","ahead","number"] ["row","times"] 0 1 2 4 rfl rfl rfl F hm hb cw (m:=fP) λcdv A outer s H E hr=>(aq (aK cw.nd Y0 Y2 ay) (aq (c8 Z9 rfl (cJ (aH (DG rfl) Y1 T.OB qK (ah (vL 0) aj))) (aI cw.nd Y0 Y2) (aq (bZ (bb zV (vL 3) (aM bo (aM eK (vL 1) (vL 2)) ay)) (ax (aE (vL 2))) bD) (ax (aK cw.nd Y0 Y2 (aM bo (vL 2) (vL 3)))))) (ax (aE pz))))
def kI:Py ["row"] ["row"] (Pr dI):=QM
def kJ(F:QJ K "every_by_parts" "every_by_parts" dI f fd)(hm:mg "every_by_parts" = some (.ref f))(hb:Binds K fd ["row"] [])(T:Txt K mg w)(L5:Pu P w K mg base "ahead_of_too_great" 1 2 bw)(Au:Pu P w K mg base "need_row" 3 1 aP):Pu P w K mg base "every_by_parts" 4 1 L7:=
 aG ["row"] ["row"] 3 4 1 1 rfl rfl rfl F hm hb kI (m:=gI) λcdv A outer s H E hr=>(aq (bE (cN Au hr (ah (vL 0) aj) (ai av))) (ax (aE (eF z8 (cN L5 hr (ah (vL 0) (ah (js T.R9 Y1) aj)) (ai (ai av))) pz))))
def kK:Py ["row"] ["row"] (Pr dJ):=QM
def kL(F:QJ K "every_by_signs" "every_by_signs" dJ f fd)(hm:mg "every_by_signs" = some (.ref f))(hb:Binds K fd ["row"] [])(T:Txt K mg w)(L5:Pu P w K mg base "ahead_of_too_great" 1 2 bw)(Au:Pu P w K mg base "need_row" 3 1 aP):Pu P w K mg base "every_by_signs" 4 1 L8:=
 aG ["row"] ["row"] 3 4 1 1 rfl rfl rfl F hm hb kK (m:=gJ) λcdv A outer s H E hr=>(aq (bE (cN Au hr (ah (vL 0) aj) (ai av))) (ax (aE (eF z8 (cN L5 hr (ah (vL 0) (ah (js T.Sd Y1) aj)) (ai (ai av))) pz))))
def oG:Py ["row"] ["row"] (Pr gb):=QM
def oH(F:QJ K "every_text" "every_text" gb f fd)(hm:mg "every_text" = some (.ref f))(hb:Binds K fd ["row"] [])(T:Txt K mg w)(MM:Pu P w K mg base "every_by_parts" 4 1 L7)(MN:Pu P w K mg base "every_by_signs" 4 1 L8):Pu P w K mg base "every_text" 5 1 cM:=
 aG ["row"] ["row"] 4 5 1 1 rfl rfl rfl F hm hb oG (m:=j5) λcdv A outer s H E hr=>(aq (bZ (dW (cN MN hr (ah (vL 0) aj) (ai av))) (ax (aE aS)) bD) (ax (aE (nN (dW (cN MM hr (ah (vL 0) aj) (ai av))) aS aS))))
def zy:Py ["row","number"] ["row","number"] (Pr lp):=QM
def zz(F:QJ K "below" "below" lp f fd)(hm:mg "below" = some (.ref f))(hb:Binds K fd ["row","number"] [])(T:Txt K mg w)(gV:Pu P w K mg base "need_row_and_number" 4 2 aJ)(NA:Pu P w K mg base "walk" 5 2 eO):Pu P w K mg base "below" 6 2 MS:=
 aG ["row","number"] ["row","number"] 5 6 2 2 rfl rfl rfl F hm hb zy (m:=sO) λcdv A outer s H E hr=>(aq (bE (cN gV hr (ah (vL 0) (ah (vC 1) aj)) (ai (ai av)))) (ax (aE (mZ (F7 rfl hr) Y1 T.OT vI (ah (cC (N:=["i","j","both","number"]) (k:=3) (PB:=[1]) rfl (λ_ _ z=>z) (eL Y0 Y0 Y0 Y0 rfl Y0) (DI (cN NA hr (ah (vL 0) (ah (vC 1) aj)) (ai (ai av)))) (λ_ _ _ _=>(fV rfl (bf (aI (show(["i","j","both","number"]:List Str).Nodup by decide +kernel) Y0 Y2) (bf (aI (show(["i","j","both","number"]:List Str).Nodup by decide +kernel) Y0 Y2) (bf (aI (show(["i","j","both","number"]:List Str).Nodup by decide +kernel) Y0 Y2) dQ))))) (λ_ _ _ _=>(oV (bb wg (vL 2) (vC 3)))) (λ_ _ _ _=>(vL 2))) aj)))))
def mD:Py ["number"] ["number"] (Pr eP):=QM
def mE(F:QJ K "number_or_none" "number_or_none" eP f fd)(hm:mg "number_or_none" = some (.ref f))(hb:Binds K fd ["number"] [])(T:Txt K mg w):Pu P w K mg base "number_or_none" 1 1 cn:=
 aG ["number"] ["number"] 0 1 1 1 rfl rfl rfl F hm hb mD (m:=iN) λcdv A outer s H E hr=>(ax (aE (nN (bb z8 (vL 0) pz) aS (aO cV Y1 T.ML bS (ah (vL 0) aj)))))
def qN:Py ["row","number"] ["row","number"] (Pr gK):=QM
def qO(F:QJ K "near_text" "near_text" gK f fd)(hm:mg "near_text" = some (.ref f))(hb:Binds K fd ["row","number"] [])(T:Txt K mg w)(Nh:Pu P w K mg base "above" 6 2 ME)(NW:Pu P w K mg base "below" 6 2 MS)(MH:Pu P w K mg base "number_or_none" 1 1 cn):Pu P w K mg base "near_text" 7 2 c6:=
 aG ["row","number"] ["row","number"] 6 7 2 2 rfl rfl rfl F hm hb qN (m:=kS) λcdv A outer s H E hr=>(ax (aE (aM bo (aM bo (cN MH hr (ah (cN NW hr (ah (vL 0) (ah (vL 1) aj)) (ai (ai av))) aj) (ai av)) aS) (cN MH hr (ah (cN Nh hr (ah (vL 0) (ah (vL 1) aj)) (ai (ai av))) aj) (ai av)))))
def yd:Py ["row"] ["row"] (Pr j6):=QM
def ye(F:QJ K "row_text" "row_text" j6 f fd)(hm:mg "row_text" = some (.ref f))(hb:Binds K fd ["row"] [])(T:Txt K mg w):Pu P w K mg base "row_text" 1 1 fB:=
 aG ["row"] ["row"] 0 1 1 1 rfl rfl rfl F hm hb yd (m:=qg) λcdv A outer s H E hr=>(ax (aE (nN (bb (i9 hr) (vL 0) (ik aj)) (gG Zg PySem.F.slot_str_join PySem.F.type_str_join Al aS (ah (cC (N:=["number"]) (k:=1) (PB:=[]) rfl (λ_ _ z=>z) (eL Y0 Y0 Y0 Y0 rfl Y0) (cJ (vL 0)) (λ_ _ _ _=>(aI (show(["number"]:List Str).Nodup by decide +kernel) Y0 Y2)) (λ_ _ _ _=>cU) (λ_ _ _ _=>(aO cV Y1 T.ML bS (ah (vL 0) aj)))) aj)) aS)))
def bK:Py ["firsts","step","longer","reached","signs","sign","there","chosen"] ["firsts","step"] (Pr eQ):=QM
def mF(F:QJ K "firsts_stepped" "firsts_stepped" eQ f fd)(hm:mg "firsts_stepped" = some (.ref f))(hb:Binds K fd ["firsts","step"] [])(T:Txt K mg w):Pu P w K mg base "firsts_stepped" 1 2 cq:=
 aG ["firsts","step","longer","reached","signs","sign","there","chosen"] ["firsts","step"] 0 1 2 8 rfl rfl rfl F hm hb bK (m:=iO) λcdv A outer s H E hr=>(aq (aK bK.nd Y0 Y2 uM) (aq (c8 Z9 rfl (jR (vL 0)) (fV rfl (bf (aI bK.nd Y0 Y2) (bf (aI bK.nd Y0 Y2) dQ))) (ax (c8 Z9 rfl (cJ (Ab T.Tc Y1)) (aI bK.nd Y0 Y2) (aq (aK bK.nd Y0 Y2 (aM bo (vL 3) (aM eK (vL 5) (vL 1)))) (aq (aK bK.nd Y0 Y2 (aM bo (vL 4) (ik (ah (vL 5) aj)))) (ax (uf (uJ hr) (aH (F5 rfl hr) Y1 T.Ow mB (ah (vL 7) (ah (oW hr (vL 2) (vL 6) (vL 7) (Aa Y0 Y0 Y0 Y0)) aj))) (vL 2) (vL 6)))))))) (ax (aE (vL 2)))))
def gx:Py ["row","firsts","step"] ["row"] (Pr jd):=QM
def vM(F:QJ K "firsts_of" "firsts_of" jd f fd)(hm:mg "firsts_of" = some (.ref f))(hb:Binds K fd ["row"] [])(T:Txt K mg w)(MU:Pu P w K mg base "firsts_stepped" 1 2 cq):Pu P w K mg base "firsts_of" 2 1 et:=
 aG ["row","firsts","step"] ["row"] 1 2 1 3 rfl rfl rfl F hm hb gx (m:=oi) λcdv A outer s H E hr=>(aq (aK gx.nd Y0 Y2 (uL (pP ay (ik aj) uB))) (aq (c8 Z9 rfl (cJ (vL 0)) (aI gx.nd Y0 Y2) (ax (aK gx.nd Y0 Y2 (cN MU hr (ah (vL 1) (ah (vL 2) aj)) (ai (ai av)))))) (ax (aE (vL 1)))))
def gR:Py ["row","number","firsts","met"] ["row","number"] (Pr gL):=QM
def qP(F:QJ K "first_met" "first_met" gL f fd)(hm:mg "first_met" = some (.ref f))(hb:Binds K fd ["row","number"] [])(T:Txt K mg w)(NK:Pu P w K mg base "firsts_of" 2 1 et)(Mw:Pu P w K mg base "halves_of" 1 1 bC)(gV:Pu P w K mg base "need_row_and_number" 4 2 aJ):Pu P w K mg base "first_met" 5 2 My:=
 aG ["row","number","firsts","met"] ["row","number"] 4 5 2 4 rfl rfl rfl F hm hb gR (m:=kT) λcdv A outer s H E hr=>(aq (bE (cN gV hr (ah (vL 0) (ah (vC 1) aj)) (ai (ai av)))) (aq (aK gR.nd Y0 (Or.inr Y0) (cC (N:=["half"]) (k:=1) (PB:=[]) rfl (λ_ _ z=>z) (eL Y0 Y0 Y0 Y0 rfl Y0) (cJ (cN Mw hr (ah (vL 0) aj) (ai av))) (λ_ _ _ _=>(aI (show(["half"]:List Str).Nodup by decide +kernel) Y0 Y2)) (λ_ _ _ _=>cU) (λ_ _ _ _=>(cN NK hr (ah (vL 0) aj) (ai av))))) (aq (z9 (i0:=3) (N:=["reached","signs","firsts","number"]) (k:=2) (PB:=[2,1]) gR.nd Y0 Y2 rfl (λ_ _ z=>z) (eL Y0 Y0 Y0 Y0 rfl Y0) (jR (bU (mX hr) (vC 2) ay)) (λ_ _ _ _=>(fV rfl (bf (aI (show(["reached","signs","firsts","number"]:List Str).Nodup by decide +kernel) Y0 Y2) (bf (aI (show(["reached","signs","firsts","number"]:List Str).Nodup by decide +kernel) Y0 Y2) dQ)))) (λ_ _ _ _=>(oV (bb (IM hr) (aM il (vC 3) (vL 0)) (bU (mX hr) (vC 2) ay)))) (λ_ _ _ _=>(aM bo (vL 1) (bU (mX hr) (bU (mX hr) (vC 2) ay) (aM il (vC 3) (vL 0)))))) (ax (aE (mZ (Ag rfl hr) Y1 T.Ow mB (ah (vL 3) aj)))))))
def dO:Py ["number","behind","rest"] ["number"] (Pr ix):=QM
def rF(F:QJ K "figures_of" "figures_of" ix f fd)(hm:mg "figures_of" = some (.ref f))(hb:Binds K fd ["number"] [])(T:Txt K mg w):Pu P w K mg base "figures_of" 1 1 dz:=
 aG ["number","behind","rest"] ["number"] 0 1 1 3 rfl rfl rfl F hm hb dO (m:=l6) λcdv A outer s H E hr=>(aq (aK dO.nd Y0 Y2 aS) (aq (aK dO.nd Y0 Y2 (vL 0)) (aq (wy Z9 (bb wj (vL 2) (aM uh ay ay)) (aq (aK dO.nd Y0 Y2 (aM bo (gG Zg PySem.F.slot_str_zfill PySem.F.type_str_zfill wR (aO cV Y1 T.ML bS (ah (aM jO (vL 2) (aM uh ay ay)) aj)) (ah (js T.Rx Y1) aj)) (vL 1))) (ax (aK dO.nd Y0 Y2 (aM oT (vL 2) (aM uh ay ay)))))) (ax (aE (aM bo (aO cV Y1 T.ML bS (ah (vL 2) aj)) (vL 1)))))))
def vN:Py ["thing","many"] ["thing","many"] (Pr je):=QM
def vO(F:QJ K "are_whole" "are_whole" je f fd)(hm:mg "are_whole" = some (.ref f))(hb:Binds K fd ["thing","many"] [])(T:Txt K mg w)(MC:Pu P w K mg base "is_whole" 1 1 bO):Pu P w K mg base "are_whole" 2 2 dq:=
 aG ["thing","many"] ["thing","many"] 1 2 2 2 rfl rfl rfl F hm hb vN (m:=oj) λcdv A outer s H E hr=>(ax (aE (i8 (aH mS Y1 T.MF cQ (ah (vL 0) (ah (rY Y1 T.NG fI) aj))) (i8 (eF (cz hr) (aH cT Y1 T.MP cg (ah (vL 0) aj)) (vL 1)) (jM (aH (mR rfl) Y1 T.Ov kE (ah (cC (N:=["number"]) (k:=1) (PB:=[]) rfl (λ_ _ z=>z) (eL Y0 Y0 Y0 Y0 rfl Y0) (cJ (vL 0)) (λ_ _ _ _=>(aI (show(["number"]:List Str).Nodup by decide +kernel) Y0 Y2)) (λ_ _ _ _=>cU) (λ_ _ _ _=>(cN MC hr (ah (vL 0) aj) (ai av)))) aj)))))))
def qQ:Py ["thing","row"] ["thing","row"] (Pr gM):=QM
def qR(F:QJ K "are_parts" "are_parts" gM f fd)(hm:mg "are_parts" = some (.ref f))(hb:Binds K fd ["thing","row"] [])(T:Txt K mg w)(MO:Pu P w K mg base "are_whole" 2 2 dq)(Au:Pu P w K mg base "need_row" 3 1 aP):Pu P w K mg base "are_parts" 4 2 dM:=
 aG ["thing","row"] ["thing","row"] 3 4 2 2 rfl rfl rfl F hm hb qQ (m:=kU) λcdv A outer s H E hr=>(aq (bE (cN Au hr (ah (vL 1) aj) (ai av))) (ax (aE (i8 (cN MO hr (ah (vL 0) (ah (aH cT Y1 T.MP cg (ah (vL 1) aj)) aj)) (ai (ai av))) (jM (aH (mR rfl) Y1 T.Ov kE (ah (cC (N:=["part"]) (k:=1) (PB:=[]) rfl (λ_ _ z=>z) (eL Y0 Y0 Y0 Y0 rfl Y0) (cJ (vL 0)) (λ_ _ _ _=>(aI (show(["part"]:List Str).Nodup by decide +kernel) Y0 Y2)) (λ_ _ _ _=>cU) (λ_ _ _ _=>(wb wg wg (Hd Dg ay) (vL 0) ay))) aj)))))))
def oI:Py ["row","thing"] ["row","thing"] (Pr gc):=QM
def oJ(F:QJ K "need_parts" "need_parts" gc f fd)(hm:mg "need_parts" = some (.ref f))(hb:Binds K fd ["row","thing"] [])(T:Txt K mg w)(Nr:Pu P w K mg base "are_parts" 4 2 dM):Pu P w K mg base "need_parts" 5 2 bW:=
 aG ["row","thing"] ["row","thing"] 4 5 2 2 rfl rfl rfl F hm hb oI (m:=j7) λcdv A outer s H E hr=>(ax (bZ (gB (dW (cN Nr hr (ah (vL 1) (ah (vL 0) aj)) (ai (ai av))))) (ax dj) bD))
def Cu:Py ["row","parts"] ["row","parts"] (Pr m7):=QM
def Cv(F:QJ K "show" "show" m7 f fd)(hm:mg "show" = some (.ref f))(hb:Binds K fd ["row","parts"] [])(T:Txt K mg w)(NH:Pu P w K mg base "figures_of" 1 1 dz)(MA:Pu P w K mg base "need_parts" 5 2 bW):Pu P w K mg base "show" 6 2 iP:=
 aG ["row","parts"] ["row","parts"] 5 6 2 2 rfl rfl rfl F hm hb Cu (m:=wY) λcdv A outer s H E hr=>(aq (bE (cN MA hr (ah (vL 0) (ah (vL 1) aj)) (ai (ai av)))) (ax (aE (gG Zg PySem.F.slot_str_join PySem.F.type_str_join Al aS (ah (cC (N:=["number","part"]) (k:=2) (PB:=[]) rfl (λ_ _ z=>z) (eL Y0 Y0 Y0 Y0 rfl Y0) (Dy Y1 T.Pa (ah (vL 0) (ah (vL 1) aj))) (λ_ _ _ _=>(fV rfl (bf (aI (show(["number","part"]:List Str).Nodup by decide +kernel) Y0 Y2) (bf (aI (show(["number","part"]:List Str).Nodup by decide +kernel) Y0 Y2) dQ)))) (λ_ _ _ _=>cU) (λ_ _ _ _=>(aM bo (Gf T.Xk Y1 (vL 1)) (cN NH hr (ah (vL 0) aj) (ai av))))) aj)))))
def jA:Py ["row","number","signs"] ["row","number"] (Pr gf):=QM
def oK(F:QJ K "signs_text" "signs_text" gf f fd)(hm:mg "signs_text" = some (.ref f))(hb:Binds K fd ["row","number"] [])(T:Txt K mg w)(Nt:Pu P w K mg base "first_met" 5 2 My)(Og:Pu P w K mg base "show" 6 2 iP):Pu P w K mg base "signs_text" 7 2 cO:=
 aG ["row","number","signs"] ["row","number"] 6 7 2 3 rfl rfl rfl F hm hb jA (m:=j8) λcdv A outer s H E hr=>(aq (aK jA.nd Y0 Y2 (cN Nt hr (ah (vL 0) (ah (vL 1) aj)) (ai (ai av)))) (ax (aE (nN (bb z8 (vL 2) pz) aS (cN Og hr (ah (vL 0) (ah (vL 2) aj)) (ai (ai av)))))))
def bL:Py ["swings","step","longer","reached","swung","sign","there","further"] ["swings","step"] (Pr eR):=QM
def mG(F:QJ K "swings_stepped" "swings_stepped" eR f fd)(hm:mg "swings_stepped" = some (.ref f))(hb:Binds K fd ["swings","step"] [])(T:Txt K mg w):Pu P w K mg base "swings_stepped" 1 2 cu:=
 aG ["swings","step","longer","reached","swung","sign","there","further"] ["swings","step"] 0 1 2 8 rfl rfl rfl F hm hb bL (m:=iQ) λcdv A outer s H E hr=>(aq (aK bL.nd Y0 Y2 uM) (aq (c8 Z9 rfl (jR (vL 0)) (fV rfl (bf (aI bL.nd Y0 Y2) (bf (aI bL.nd Y0 Y2) dQ))) (ax (c8 Z9 rfl (cJ (Ab T.Tc Y1)) (aI bL.nd Y0 Y2) (aq (aK bL.nd Y0 Y2 (aM bo (vL 3) (aM eK (vL 5) (vL 1)))) (aq (aK bL.nd Y0 Y2 (aH (Dm rfl) Y1 T.OT vI (ah (vL 4) (ah (aH Dl Y1 T.O9 Bc (ah (vL 6) aj)) aj)))) (ax (uf (uJ hr) (aH (yC rfl) Y1 T.Ow mB (ah (vL 7) (ah (oW hr (vL 2) (vL 6) (vL 7) (Aa Y0 Y0 Y0 Y0)) aj))) (vL 2) (vL 6)))))))) (ax (aE (vL 2)))))
def dF:Py ["row","swings","step"] ["row"] (Pr fC):=QM
def nH(F:QJ K "least_swing" "least_swing" fC f fd)(hm:mg "least_swing" = some (.ref f))(hb:Binds K fd ["row"] [])(T:Txt K mg w)(Au:Pu P w K mg base "need_row" 3 1 aP)(MV:Pu P w K mg base "swings_stepped" 1 2 cu):Pu P w K mg base "least_swing" 4 1 Ms:=
 aG ["row","swings","step"] ["row"] 3 4 1 3 rfl rfl rfl F hm hb dF (m:=jx) λcdv A outer s H E hr=>(aq (bE (cN Au hr (ah (vL 0) aj) (ai av))) (aq (aK dF.nd Y0 Y2 (uL (pP ay ay uB))) (aq (c8 Z9 rfl (cJ (vL 0)) (aI dF.nd Y0 Y2) (ax (aK dF.nd Y0 Y2 (cN MV hr (ah (vL 1) (ah (vL 2) aj)) (ai (ai av)))))) (ax (aE (Ga rfl Y1 T.Ow (vL 1)))))))
def oM:Py ["row"] ["row"] (Pr gg):=QM
def oN(F:QJ K "swing_text" "swing_text" gg f fd)(hm:mg "swing_text" = some (.ref f))(hb:Binds K fd ["row"] [])(T:Txt K mg w)(Nb:Pu P w K mg base "least_swing" 4 1 Ms):Pu P w K mg base "swing_text" 5 1 cP:=
 aG ["row"] ["row"] 4 5 1 1 rfl rfl rfl F hm hb oM (m:=j9) λcdv A outer s H E hr=>(ax (aE (aO cV Y1 T.ML bS (ah (cN Nb hr (ah (vL 0) aj) (ai av)) aj))))
def zA:Py ["row"] ["row"] (Pr lq):=QM
def zB(F:QJ K "total" "total" lq f fd)(hm:mg "total" = some (.ref f))(hb:Binds K fd ["row"] [])(T:Txt K mg w)(Au:Pu P w K mg base "need_row" 3 1 aP):Pu P w K mg base "total" 4 1 iR:=
 aG ["row"] ["row"] 3 4 1 1 rfl rfl rfl F hm hb zA (m:=sP) λcdv A outer s H E hr=>(aq (bE (cN Au hr (ah (vL 0) aj) (ai av))) (ax (aE (aH (yD rfl) Y1 T.OU vJ (ah (vL 0) aj)))))
def oO:Py ["row"] ["row"] (Pr gi):=QM
def oP(F:QJ K "total_text" "total_text" gi f fd)(hm:mg "total_text" = some (.ref f))(hb:Binds K fd ["row"] [])(T:Txt K mg w)(NX:Pu P w K mg base "total" 4 1 iR):Pu P w K mg base "total_text" 5 1 dr:=
 aG ["row"] ["row"] 4 5 1 1 rfl rfl rfl F hm hb oO (m:=ka) λcdv A outer s H E hr=>(ax (aE (aO cV Y1 T.ML bS (ah (cN NX hr (ah (vL 0) aj) (ai av)) aj))))
def qS:Py ["row","number"] ["row","number"] (Pr gN):=QM
def qT(F:QJ K "ways_text" "ways_text" gN f fd)(hm:mg "ways_text" = some (.ref f))(hb:Binds K fd ["row","number"] [])(T:Txt K mg w)(MG:Pu P w K mg base "many_met" 5 2 L9):Pu P w K mg base "ways_text" 6 2 c7:=
 aG ["row","number"] ["row","number"] 5 6 2 2 rfl rfl rfl F hm hb qS (m:=kW) λcdv A outer s H E hr=>(ax (aE (aO cV Y1 T.ML bS (ah (cN MG hr (ah (vL 0) (ah (vL 1) aj)) (ai (ai av))) aj))))
def ie:Py ["word","figures"] ["word"] (Pr eS):=QM
def mH(F:QJ K "is_number_word" "is_number_word" eS f fd)(hm:mg "is_number_word" = some (.ref f))(hb:Binds K fd ["word"] [])(T:Txt K mg w):Pu P w K mg base "is_number_word" 1 1 bP:=
 aG ["word","figures"] ["word"] 0 1 1 2 rfl rfl rfl F hm hb ie (m:=iS) λcdv A outer s H E hr=>(aq (aK ie.nd Y0 Y2 (nN (dW (gG Zg Go M0 sD (vL 0) (ah aS aj))) (pK uW (vL 0) (gY ay) kn) (vL 0))) (aq (bZ (dW (gG Zg Go M0 sD (vL 1) (ah aS aj))) (ax (aE (eF (cz hr) (vL 0) aS))) bD) (ax (aE (i8 (wb wg wg ay (aH cT Y1 T.MP cg (ah (vL 1) aj)) (js T.Tj Y1)) (jM (aH (mR rfl) Y1 T.Ov kE (ah (cC (N:=["figure"]) (k:=1) (PB:=[]) rfl (λ_ _ z=>z) (eL Y0 Y0 Y0 Y0 rfl Y0) (DO (vL 1)) (λ_ _ _ _=>(aI (show(["figure"]:List Str).Nodup by decide +kernel) Y0 Y2)) (λ_ _ _ _=>cU) (λ_ _ _ _=>(eF DM (vL 0) (Hh T.Tz Y1)))) aj))))))))
def zC:Py ["words"] ["words"] (Pr lr):=QM
def zD(F:QJ K "is_line" "is_line" lr f fd)(hm:mg "is_line" = some (.ref f))(hb:Binds K fd ["words"] [])(T:Txt K mg w)(MW:Pu P w K mg base "is_number_word" 1 1 bP):Pu P w K mg base "is_line" 2 1 iT:=
 aG ["words"] ["words"] 1 2 1 1 rfl rfl rfl F hm hb zC (m:=sQ) λcdv A outer s H E hr=>(aq (bZ (bb (cz hr) (aH cT Y1 T.MP cg (ah (vL 0) aj)) ay) (ax (aE (Ku (eF Di (bU cG (vL 0) ay) (IZ T.Sg Y1)) (jM (DS T.RM Y1 (bU cG (vL 0) ay)))))) bD) (aq (bZ (lM (rZ (bb (i9 hr) (aH cT Y1 T.MP cg (ah (vL 0) aj)) ay) (pC (gB (dW (cN MW hr (ah (bU cG (vL 0) ay) aj) (ai av))))))) (ax (aE jL)) bD) (aq (bZ (bb (cz hr) (bU cG (vL 0) ay) aS) (ax (aE (eF wj (aO ja Y1 T.Oc hZ (ah (bU cG (vL 0) ay) aj)) ay))) bD) (ax (aE (DS T.Ra Y1 (bU cG (vL 0) ay)))))))
def gS:Py ["line","words"] ["line"] (Pr d9):=QM
def lJ(F:QJ K "words_of_line" "words_of_line" d9 f fd)(hm:mg "words_of_line" = some (.ref f))(hb:Binds K fd ["line"] [])(T:Txt K mg w)(NY:Pu P w K mg base "is_line" 2 1 iT):Pu P w K mg base "words_of_line" 3 1 bp:=
 aG ["line","words"] ["line"] 2 3 1 2 rfl rfl rfl F hm hb gS (m:=g7) λcdv A outer s H E hr=>(aq (bZ (gB (dW (aH mS Y1 T.MF cQ (ah (vL 0) (ah (rY Y1 T.ML bS) aj))))) (ax dj) bD) (aq (aK gS.nd Y0 Y2 (gG Zg Wj Wk jT (vL 0) (ah aS aj))) (aq (bZ (gB (dW (cN NY hr (ah (vL 1) aj) (ai av)))) (ax dj) bD) (ax (aE (vL 1))))))
def iE:Py ["self","line","words","row"] ["self","line"] (Pr iy):=QM
def rG(F:QJ K "say" "Desk.say" iy f fd)(ns:nsIn K mainGlobals "Desk" = some (some (.ref C)))(hc:L2.Tr K C)(hm:Meth K C "say" f)(hb:Binds K fd ["self","line"] [])(T:Txt K mg w)(Nj:Rh P w K mg base "Keeper" "put" 4 2 cK)(NI:Rh P w K mg base "Keeper" "row" 1 1 eN)(Nc:Rh P w K mg base "Keeper" "take" 2 1 cA)(Nk:Pu P w K mg base "comes_text" 6 2 cL)(Nu:Pu P w K mg base "even_text" 8 1 c5)(Nl:Pu P w K mg base "every_text" 5 1 cM)(Nv:Pu P w K mg base "near_text" 7 2 c6)(NP:Pu P w K mg base "row_text" 1 1 fB)(Nm:Pu P w K mg base "signs_text" 7 2 cO)(Np:Pu P w K mg base "swing_text" 5 1 cP)(Nq:Pu P w K mg base "total_text" 5 1 dr)(Nw:Pu P w K mg base "ways_text" 6 2 c7)(MR:Pu P w K mg base "words_of_line" 3 1 bp):Rh P w K mg base "Desk" "say" 9 2 aB:=
 lZ ["self","line","words","row"] ["self","line"] 8 9 2 4 rfl rfl rfl F ns hc hm hb iE (m:=l7) λcdv A outer s H E hr=>(aq (aK iE.nd Y0 Y2 (cN MR hr (ah (vL 1) aj) (ai av))) (aq (bZ (bb (cz hr) (bU cG (vL 2) ay) aS) (ax (aE (aO cV Y1 T.ML bS (ah (dh Nj (hr.mono (by decide)) (iq T.SX T.QT (vL 0)) (ah (aO ja Y1 T.Oc hZ (ah (bU cG (vL 2) ay) aj)) aj) (ai av)) aj)))) bD) (aq (bZ (bb (cz hr) (bU cG (vL 2) ay) aS) (ax (aE (aO cV Y1 T.ML bS (ah (wQ Nc (hr.mono (by decide)) (iq T.SX T.QT (vL 0))) aj)))) bD) (aq (bZ (bb (cz hr) (bU cG (vL 2) ay) aS) (ax dj) bD) (aq (aK iE.nd Y0 Y2 (wQ NI (hr.mono (by decide)) (iq T.SX T.QT (vL 0)))) (aq (bZ (bb (cz hr) (aH cT Y1 T.MP cg (ah (vL 2) aj)) ay) (ax (aE (Aq (k:=8) (T:=dR) (gu (NP.nx.up (by decide)) (gu (Nq.nx.up (by decide)) (gu (Nu.nx.up (by decide)) (gu (Np.nx.up (by decide)) (gu (Nl.nx.up (by decide)) Ap))))) T.RM gy (hr.mono (by decide)) Y1 (bU cG (vL 2) ay) (ah (vL 3) aj) (ai av)))) bD) (ax (aE (Aq (k:=8) (T:=cv) (gu (Nk.nx.up (by decide)) (gu (Nw.nx.up (by decide)) (gu (Nm.nx.up (by decide)) (gu (Nv.nx.up (by decide)) Ap)))) T.Ra gy (hr.mono (by decide)) Y1 (bU cG (vL 2) ay) (ah (vL 3) (ah (aO ja Y1 T.Oc hZ (ah (bU cG (vL 2) ay) aj)) aj)) (ai (ai av)))))))))))
def iF:Py ["desk","number","end","lines"] ["desk","number"] (Pr iz):=QM
def rH(F:QJ K "_law_all" "_law_all" iz f fd)(hm:mg "_law_all" = some (.ref f))(hb:Binds K fd ["desk","number"] [])(T:Txt K mg w)(L4:Rh P w K mg base "Desk" "say" 9 2 aB):Pu P w K mg base "_law_all" 10 2 bB:=
 aG ["desk","number","end","lines"] ["desk","number"] 9 10 2 4 rfl rfl rfl F hm hb iF (m:=l8) λcdv A outer s H E hr=>(aq (aK iF.nd Y0 Y2 (aM bo aS (aO cV Y1 T.ML bS (ah (vL 1) aj)))) (aq (aK iF.nd Y0 Y2 (pD (ah aS (ah aS (ah aS (ah aS (ah aS (ah (aM bo aS (vL 2)) (ah (aM bo aS (vL 2)) (ah (aM bo aS (vL 2)) (ah (aM bo aS (vL 2)) aj))))))))))) (ax (aE (cC (N:=["line","desk"]) (k:=1) (PB:=[0]) rfl (λ_ _ z=>z) (eL Y0 Y0 Y0 Y0 rfl Y0) (cJ (vL 3)) (λ_ _ _ _=>(aI (show(["line","desk"]:List Str).Nodup by decide +kernel) Y0 Y2)) (λ_ _ _ _=>cU) (λ_ _ _ _=>(dh L4 (hr.mono (by decide)) (vC 1) (ah (vL 0) aj) (ai av))))))))
def cS:Py ["script","k","here","number","j","part"] ["script","k"] (Pr kc):=QM
def yf(F:QJ K "_law_box" "_law_box" kc f fd)(hm:mg "_law_box" = some (.ref f))(hb:Binds K fd ["script","k"] [])(T:Txt K mg w):Pu P w K mg base "_law_box" 1 2 ef:=
 aG ["script","k","here","number","j","part"] ["script","k"] 0 1 2 6 rfl rfl rfl F hm hb cS (m:=jf) λcdv A outer s H E hr=>(aq (aK cS.nd Y0 Y2 (aM bo (aM eK ay (vL 1)) ay)) (aq (bZ (bb pI (vL 1) (aH cT Y1 T.MP cg (ah (vL 0) aj))) (ax (aK cS.nd Y0 Y2 (bU cG (vL 0) (vL 1)))) bD) (aq (bZ (bb (cz hr) (aM jO (vL 2) ay) ay) (ax (aE (mN (ah (aM oT (vL 2) ay) aj)))) bD) (aq (aK cS.nd Y0 Y2 ay) (aq (c8 Z9 rfl (mO Y1 T.NR (ah ay aj)) (aI cS.nd Y0 Y2) (aq (aK cS.nd Y0 Y2 (aM jO (aM bo (aM bo (aM eK (aM jO (vL 2) ay) ay) (aM eK ay (vL 4))) ay) ay)) (aq (aK cS.nd Y0 Y2 (aM jO (aM eK (vL 5) (vL 5)) ay)) (ax (aK cS.nd Y0 Y2 (aM bo (aM eK (vL 3) ay) (aM jO (aM eK (vL 5) (aM bo (vL 5) ay)) ay))))))) (ax (aE (mN (ah (vL 3) aj)))))))))
def k4:Py ["desk","text"] ["desk"] (Pr iA):=QM
def rJ(F:QJ K "_law_row" "_law_row" iA f fd)(hm:mg "_law_row" = some (.ref f))(hb:Binds K fd ["desk"] [])(T:Txt K mg w)(L4:Rh P w K mg base "Desk" "say" 9 2 aB):Pu P w K mg base "_law_row" 10 1 cE:=
 aG ["desk","text"] ["desk"] 9 10 1 2 rfl rfl rfl F hm hb k4 (m:=l9) λcdv A outer s H E hr=>(aq (aK k4.nd Y0 Y2 (dh L4 (hr.mono (by decide)) (vL 0) (ah aS aj) (ai av))) (ax (aE (nN (bb (cz hr) (vL 1) aS) (ik aj) (aO jP Y1 T.NG fI (ah (cC (N:=["word"]) (k:=1) (PB:=[]) rfl (λ_ _ z=>z) (eL Y0 Y0 Y0 Y0 rfl Y0) (cJ (gG Zg Wj Wk jT (vL 1) (ah aS aj))) (λ_ _ _ _=>(aI (show(["word"]:List Str).Nodup by decide +kernel) Y0 Y2)) (λ_ _ _ _=>cU) (λ_ _ _ _=>(aO ja Y1 T.Oc hZ (ah (vL 0) aj)))) aj))))))
def kl:Py ["thing","many"] ["thing","many"] (Pr dt):=QM
def km(F:QJ K "are_so_many_signs" "are_so_many_signs" dt f fd)(hm:mg "are_so_many_signs" = some (.ref f))(hb:Binds K fd ["thing","many"] [])(T:Txt K mg w)(MO:Pu P w K mg base "are_whole" 2 2 dq):Pu P w K mg base "are_so_many_signs" 3 2 cf:=
 aG ["thing","many"] ["thing","many"] 2 3 2 2 rfl rfl rfl F hm hb kl (m:=gm) λcdv A outer s H E hr=>(ax (aE (i8 (cN MO hr (ah (vL 0) (ah (vL 1) aj)) (ai (ai av))) (jM (aH (mR rfl) Y1 T.Ov kE (ah (cC (N:=["sign"]) (k:=1) (PB:=[]) rfl (λ_ _ z=>z) (eL Y0 Y0 Y0 Y0 rfl Y0) (cJ (vL 0)) (λ_ _ _ _=>(aI (show(["sign"]:List Str).Nodup by decide +kernel) Y0 Y2)) (λ_ _ _ _=>cU) (λ_ _ _ _=>(eF (cz hr) (aH Dl Y1 T.O9 Bc (ah (vL 0) aj)) ay))) aj))))))
def qU:Py ["thing","row"] ["thing","row"] (Pr gP):=QM
def qV(F:QJ K "are_signs" "are_signs" gP f fd)(hm:mg "are_signs" = some (.ref f))(hb:Binds K fd ["thing","row"] [])(T:Txt K mg w)(MJ:Pu P w K mg base "are_so_many_signs" 3 2 cf)(Au:Pu P w K mg base "need_row" 3 1 aP):Pu P w K mg base "are_signs" 4 2 dN:=
 aG ["thing","row"] ["thing","row"] 3 4 2 2 rfl rfl rfl F hm hb qU (m:=kX) λcdv A outer s H E hr=>(aq (bE (cN Au hr (ah (vL 1) aj) (ai av))) (ax (aE (cN MJ hr (ah (vL 0) (ah (aH cT Y1 T.MP cg (ah (vL 1) aj)) aj)) (ai (ai av))))))
def zE:Py ["word"] ["word"] (Pr lu):=QM
def zF(F:QJ K "is_word" "is_word" lu f fd)(hm:mg "is_word" = some (.ref f))(hb:Binds K fd ["word"] [])(T:Txt K mg w):Pu P w K mg base "is_word" 1 1 gA:=
 aG ["word"] ["word"] 0 1 1 1 rfl rfl rfl F hm hb zE (m:=sR) λcdv A outer s H E hr=>(aq (bZ (lM (rZ (bb pI (aH cT Y1 T.MP cg (ah (vL 0) aj)) ay) (rZ (B3 T.TJ Y1 (bU yP (vL 0) ay)) (pC (bb (cz hr) (bU yP (vL 0) ay) aS))))) (ax (aE jL)) bD) (ax (aE (aH (mR rfl) Y1 T.Ov kE (ah (cC (N:=["figure"]) (k:=1) (PB:=[]) rfl (λ_ _ z=>z) (eL Y0 Y0 Y0 Y0 rfl Y0) (DO (pK uW (vL 0) (gY ay) kn)) (λ_ _ _ _=>(aI (show(["figure"]:List Str).Nodup by decide +kernel) Y0 Y2)) (λ_ _ _ _=>cU) (λ_ _ _ _=>(eF DM (vL 0) (Hh T.Tz Y1)))) aj)))))
def dG:Py ["figures","pieces","padded","number","start"] ["figures"] (Pr jg):=QM
def vP(F:QJ K "number_of" "number_of" jg f fd)(hm:mg "number_of" = some (.ref f))(hb:Binds K fd ["figures"] [])(T:Txt K mg w):Pu P w K mg base "number_of" 1 1 eu:=
 aG ["figures","pieces","padded","number","start"] ["figures"] 0 1 1 5 rfl rfl rfl F hm hb dG (m:=om) λcdv A outer s H E hr=>(aq (aK dG.nd Y0 Y2 (aM oT (aM il (aM bo (aH cT Y1 T.MP cg (ah (vL 0) aj)) (js T.Rx Y1)) ay) (js T.Rx Y1))) (aq (aK dG.nd Y0 Y2 (gG Zg PySem.F.slot_str_zfill PySem.F.type_str_zfill wR (vL 0) (ah (aM eK (vL 1) (js T.Rx Y1)) aj))) (aq (aK dG.nd Y0 Y2 ay) (aq (c8 Z9 rfl (BO Y1 T.NR (ah ay (ah (aH cT Y1 T.MP cg (ah (vL 2) aj)) (ah (js T.Rx Y1) aj)))) (aI dG.nd Y0 Y2) (ax (aK dG.nd Y0 Y2 (aM bo (aM eK (vL 3) (aM uh ay ay)) (aO ja Y1 T.Oc hZ (ah (pK uW (vL 2) (gY (vL 4)) (gY (aM bo (vL 4) (js T.Rx Y1)))) aj)))))) (ax (aE (vL 3)))))))
def yg:Py ["text"] ["text"] (Pr kd):=QM
def yh(F:QJ K "words_of" "words_of" kd f fd)(hm:mg "words_of" = some (.ref f))(hb:Binds K fd ["text"] [])(T:Txt K mg w):Pu P w K mg base "words_of" 1 1 fD:=
 aG ["text"] ["text"] 0 1 1 1 rfl rfl rfl F hm hb yg (m:=qh) λcdv A outer s H E hr=>(ax (aE (nN (bb (i9 hr) (vL 0) aS) (gG Zg Wj Wk jT (vL 0) (ah aS aj)) (pD aj))))
def i3:Py ["text","numbers","parts","at","word"] ["text"] (Pr m9):=QM
def Cw(F:QJ K "read" "read" m9 f fd)(hm:mg "read" = some (.ref f))(hb:Binds K fd ["text"] [])(T:Txt K mg w)(NZ:Pu P w K mg base "is_word" 1 1 gA)(NL:Pu P w K mg base "number_of" 1 1 eu)(NQ:Pu P w K mg base "words_of" 1 1 fD):Pu P w K mg base "read" 2 1 iU:=
 aG ["text","numbers","parts","at","word"] ["text"] 1 2 1 5 rfl rfl rfl F hm hb i3 (m:=wZ) λcdv A outer s H E hr=>(aq (bZ (gB (dW (aH mS Y1 T.MF cQ (ah (vL 0) (ah (rY Y1 T.ML bS) aj))))) (ax dj) bD) (aq (aK i3.nd Y0 Y2 (mN aj)) (aq (aK i3.nd Y0 Y2 (mN aj)) (aq (c8 Z9 rfl (FQ Y1 T.OA (ah (cN NQ hr (ah (vL 0) aj) (ai av)) aj)) (fV rfl (bf (aI i3.nd Y0 Y2) (bf (aI i3.nd Y0 Y2) dQ))) (aq (bZ (lM (rZ (bb (cz hr) (vL 3) (js T.Rk Y1)) (pC (gB (dW (cN NZ hr (ah (vL 4) aj) (ai av))))))) (ax dj) bD) (aq (bE (uz V4 Wy Wz ko (vL 1) (ah (cN NL hr (ah (pK uW (vL 4) (gY ay) kn) aj) (ai av)) aj))) (ax (bE (uz V4 Wy Wz ko (vL 2) (ah (Ge T.TJ Y1 (bU yP (vL 4) ay)) aj))))))) (ax (aE (ik (ah (aO jP Y1 T.NG fI (ah (vL 1) aj)) (ah (aO jP Y1 T.NG fI (ah (vL 2) aj)) aj)))))))))
def zG:Py ["row","parts"] ["row","parts"] (Pr lx):=QM
def zH(F:QJ K "worth" "worth" lx f fd)(hm:mg "worth" = some (.ref f))(hb:Binds K fd ["row","parts"] [])(T:Txt K mg w)(MA:Pu P w K mg base "need_parts" 5 2 bW):Pu P w K mg base "worth" 6 2 iV:=
 aG ["row","parts"] ["row","parts"] 5 6 2 2 rfl rfl rfl F hm hb zG (m:=sS) λcdv A outer s H E hr=>(aq (bE (cN MA hr (ah (vL 0) (ah (vL 1) aj)) (ai (ai av)))) (ax (aE (aH (yD rfl) Y1 T.OU vJ (ah (cC (N:=["number","part"]) (k:=2) (PB:=[]) rfl (λ_ _ z=>z) (eL Y0 Y0 Y0 Y0 rfl Y0) (Dy Y1 T.Pa (ah (vL 0) (ah (vL 1) aj))) (λ_ _ _ _=>(fV rfl (bf (aI (show(["number","part"]:List Str).Nodup by decide +kernel) Y0 Y2) (bf (aI (show(["number","part"]:List Str).Nodup by decide +kernel) Y0 Y2) dQ)))) (λ_ _ _ _=>cU) (λ_ _ _ _=>(aM eK (vL 0) (vL 1)))) aj)))))
def cx:Py ["desk","row","number","told","found","signs"] ["desk","row","number"] (Pr dg):=QM
def jH(F:QJ K "_law_signs_right" "_law_signs_right" dg f fd)(hm:mg "_law_signs_right" = some (.ref f))(hb:Binds K fd ["desk","row","number"] [])(T:Txt K mg w)(L4:Rh P w K mg base "Desk" "say" 9 2 aB)(Nx:Pu P w K mg base "are_signs" 4 2 dN)(Oh:Pu P w K mg base "read" 2 1 iU)(N1:Pu P w K mg base "worth" 6 2 iV):Pu P w K mg base "_law_signs_right" 10 3 bg:=
 aG ["desk","row","number","told","found","signs"] ["desk","row","number"] 9 10 3 6 rfl rfl rfl F hm hb cx (m:=fQ) λcdv A outer s H E hr=>(aq (aK cx.nd Y0 Y2 (dh L4 (hr.mono (by decide)) (vL 0) (ah (aM bo aS (aO cV Y1 T.ML bS (ah (vL 2) aj))) aj) (ai av))) (aq (bZ (bb (i9 hr) (eF (cz hr) (vL 3) aS) (eF (cz hr) (dh L4 (hr.mono (by decide)) (vL 0) (ah (aM bo aS (aO cV Y1 T.ML bS (ah (vL 2) aj))) aj) (ai av)) aS)) (ax (aE jL)) bD) (aq (bZ (bb (cz hr) (vL 3) aS) (ax (aE jL)) bD) (aq (C9 (cN Oh hr (ah (vL 3) aj) (ai av)) (fV rfl (bf (aI cx.nd Y0 Y2) (bf (aI cx.nd Y0 Y2) dQ)))) (ax (aE (i8 (eF (cz hr) (vL 4) (vL 1)) (i8 (cN Nx hr (ah (vL 5) (ah (vL 1) aj)) (ai (ai av))) (jM (eF (cz hr) (cN N1 hr (ah (vL 1) (ah (vL 5) aj)) (ai (ai av))) (vL 2)))))))))))
def jq:Py ["box","many","left","digit"] ["box","many"] (Pr jh):=QM
def vQ(F:QJ K "_law_take" "_law_take" jh f fd)(hm:mg "_law_take" = some (.ref f))(hb:Binds K fd ["box","many"] [])(T:Txt K mg w):Pu P w K mg base "_law_take" 1 2 bX:=
 aG ["box","many","left","digit"] ["box","many"] 0 1 2 4 rfl rfl rfl F hm hb jq (m:=ke) λcdv A outer s H E hr=>(aq (C9 (aH BE Y1 T.OS zu (ah (bU cG (vL 0) ay) (ah (vL 1) aj))) (fV rfl (bf (aI jq.nd Y0 Y2) (bf (aI jq.nd Y0 Y2) dQ)))) (aq (uf Dp (vL 2) (vL 0) ay) (ax (aE (vL 3)))))
def fK:Py ["box","desk","many","kind"] ["box","desk"] (Pr fE):=QM
def nI(F:QJ K "_law_turned" "_law_turned" fE f fd)(hm:mg "_law_turned" = some (.ref f))(hb:Binds K fd ["box","desk"] [])(T:Txt K mg w)(L4:Rh P w K mg base "Desk" "say" 9 2 aB)(Nf:Pu P w K mg base "_law_row" 10 1 cE)(MY:Pu P w K mg base "_law_take" 1 2 bX):Pu P w K mg base "_law_turned" 11 2 cB:=
 aG ["box","desk","many","kind"] ["box","desk"] 10 11 2 4 rfl rfl rfl F hm hb fK (m:=jy) λcdv A outer s H E hr=>(aq (aK fK.nd Y0 Y2 (aH cT Y1 T.MP cg (ah (cN Nf hr (ah (vL 1) aj) (ai av)) aj))) (aq (aK fK.nd Y0 Y2 (cN MY hr (ah (vL 0) (ah ay aj)) (ai (ai av)))) (ax (bZ (lM (ue (bb pI (vL 3) ay) (oS (bb pI (vL 2) ay)))) (ax (bE (dh L4 (hr.mono (by decide)) (vL 1) (ah (aM bo aS (aO cV Y1 T.ML bS (ah (aM bo ay (cN MY hr (ah (vL 0) (ah (bU cG (pD (ah ay (ah ay aj))) (aM jO (vL 3) ay)) aj)) (ai (ai av)))) aj))) aj) (ai av)))) (ax (bZ (lM (ue (bb (cz hr) (vL 3) ay) (oS (bb zV (vL 2) ay)))) (ax (bE (dh L4 (hr.mono (by decide)) (vL 1) (ah aS aj) (ai av)))) bD))))))
def eh:Py ["script","k","box","desks","lap","desk","which","seen","row","number","other","one","word","least","between"] ["script"] (Pr kf):=QM
end
/-! what the top has written -/
def JE{K:Frag}
  (gt:specialIn K (.builtin "object.__class__") "__get__" = some (some (.builtin "getset_descriptor.__get__")))
  (tk:takesIn K (.builtin "object.__class__")=some true):Tr K SN WQ aat:=
 ⟨gt,tk,λc hc=>by simp[SN]at hc,
  λc hc k hk=>by simp[SN,WQ]at hc hk⟩
abbrev T7(K:Frag)(n q:Str)(st:Stmt)(ps:List Str)(f:Addr):Prop:=∃fd:FuncData,QJ K n q st f fd/\Binds K fd ps []
abbrev Rg(K:Frag)(n:Str)(st:Stmt)(ps:List Str):Prop:=∃f:Addr,nsIn K mainGlobals n=some (some (.ref f))/\T7 K n n st ps f
def un1{p:List Value->Prop}(h:∀a,p [a])(us:List Value)(e:us.length=1):p us:=match us,e with | [a],_=>h a
def un2{p:List Value->Prop}(h:∀a b,p [a,b])(us:List Value)(e:us.length=2):p us:=match us,e with | [a,b],_=>h a b
def un3{p:List Value->Prop}(h:∀a b c,p [a,b,c])(us:List Value)(e:us.length=3):p us:=match us,e with | [a,b,c],_=>h a b c
def Lc{K:Frag}{n q:Str}{st:Stmt}{ps:List Str}{oc:Value}{od:Option Addr}{sl:Array (Option Value)}{kV dc pm:Value}{an:Option Addr}{cd ct:Value}(l:K.lookup f=some ⟨oc,od,.func (fnOf n q (Ri st) (QL st) (Pr st) .none kV dc pm an cd ct),sl⟩)(c:codeIn K cd q=true)(k:keepIn K (.ref f)=true)(b:∀(kV doc pm:Value)(an:Option Addr)(cdv ct:Value)(us:List Value),us.length=ps.length->bindArgs (fnOf n q (Ri st) (QL st) (Pr st) .none kV doc pm an cdv ct) ⟨us,[]⟩=pure (ps.zip us)):T7 K n q st ps f:=⟨_,yy l c k,(yy l c k).binds b⟩
def Ld{K:Frag}{n:Str}{st:Stmt}{ps:List Str}(a:nsIn K mainGlobals n=some (some (.ref f)))(j:T7 K n n st ps f):Rg K n st ps:=⟨f,a,j⟩
def all_mk{P:Program}{w:World}{K:Frag}{h:Heap}{mg:Str->Option Value}{fa:Addr}(X:K.In h)(G:h.Ns mainGlobals mg)(hfa:mg "law" = some (.ref fa)){Ny:Addr}{Mx:Addr}{f62:Addr}{aaQ aaw:Option Addr}{aaR:Array (Option Value)}{aaS aax aay aaz aam aaA:Value}{f0 f1 f2 f6 f7 f8 f16 f21 f25 f28 f29 f38 f41 f43 f44 f48:Addr}{Ot:Tok}{Oi:Tok}{O3:Tok}{N2:Tok}{N3:Tok}{OJ:Addr}{OV:Option Addr}{O4:Nat}{OW:Array (Option Value)}{OX:Tok}{OY:Tok}{NJ:Addr}{N4:Option Addr}{Od:Nat}{N5:Array (Option Value)}{N6 N7:Tok}{Nz:Addr}{MK:Addr}{OQ:Tok}{Ox:Addr}{Oy:Addr}
  (NS:nsIn K mainGlobals "Desk" = some (some (.ref Ny)))
  (OL:plainGet K Ny Str.empty=true)
  (ON:hasDictIn K Ny=true)
  (OO:plainOver K Ny=true)
  (OP:findIn K (.ref Ny) "__setattr__" = some (some (.builtin "object.__setattr__")))
  (O5:keepIn K (.ref Ny)=true)
  (MI:nsIn K mainGlobals "Keeper" = some (some (.ref Mx)))
  (NB:plainGet K Mx Str.empty=true)
  (NC:hasDictIn K Mx=true)
  (ND:plainOver K Mx=true)
  (NF:findIn K (.ref Mx) "__setattr__" = some (some (.builtin "object.__setattr__")))
  (OR:keepIn K (.ref Mx)=true)
  (Oj:findIn K (.ref Ny) "keeper" = some none)
  (NT:findIn K (.ref Mx) "earlier" = some none)
  (NU:findIn K (.ref Mx) "numbers" = some none)
  (a0:findIn K (.ref Mx) "__init__" = some (some (.ref f0))) (aaT:isFn K (.ref f0)=true) (mk0:makesIn K Mx=true) (h0:T7 K "__init__" "Keeper.__init__" d5 ["self"] f0)
  (a1:findIn K (.ref Ny) "__init__" = some (some (.ref f1))) (aaU:isFn K (.ref f1)=true) (mk1:makesIn K Ny=true) (h1:T7 K "__init__" "Desk.__init__" fm ["self"] f1)
  (a2:findIn K (.ref Mx) "change" = some (some (.ref f2))) (aaV:isFn K (.ref f2)=true) (h2:T7 K "change" "Keeper.change" fq ["self","numbers"] f2)
  (h3:Rg K "is_whole" jV ["thing"])
  (h4:Rg K "need_number" ft ["thing"])
  (h5:Rg K "need_number_from" c9 ["least","thing"])
  (a6:findIn K (.ref Mx) "put" = some (some (.ref f6))) (aaW:isFn K (.ref f6)=true) (h6:T7 K "put" "Keeper.put" fX ["self","number"] f6)
  (a7:findIn K (.ref Mx) "row" = some (some (.ref f7))) (aaX:isFn K (.ref f7)=true) (h7:T7 K "row" "Keeper.row" ir ["self"] f7)
  (a8:findIn K (.ref Mx) "take" = some (some (.ref f8))) (aaY:isFn K (.ref f8)=true) (h8:T7 K "take" "Keeper.take" fw ["self"] f8)
  (h9:Rg K "halves_of" jb ["row"])
  (h10:Rg K "is_row" m4 ["thing"])
  (h11:Rg K "need_row" iu ["thing"])
  (h12:Rg K "need_row_and_number" cF ["row","number"])
  (h13:Rg K "stepped" lj ["table","step","choices"])
  (h14:Rg K "table_of" jY ["row","choices"])
  (h15:Rg K "many_met" iw ["row","number"])
  (a16:nsIn K mainGlobals "comes_text" = some (some (.ref f16))) (ZP:T7 K "comes_text" "comes_text" fY ["row","number"] f16)
  (h17:Rg K "half_worths" fA ["row"])
  (h18:Rg K "walk" m5 ["row","number"])
  (h19:Rg K "above" ll ["row","number"])
  (h20:Rg K "unevenness" fZ ["row"])
  (a21:nsIn K mainGlobals "even_text" = some (some (.ref f21))) (h21:T7 K "even_text" "even_text" gH ["row"] f21)
  (h22:Rg K "ahead_of_too_great" de ["row","times"])
  (h23:Rg K "every_by_parts" dI ["row"])
  (h24:Rg K "every_by_signs" dJ ["row"])
  (a25:nsIn K mainGlobals "every_text" = some (some (.ref f25))) (h25:T7 K "every_text" "every_text" gb ["row"] f25)
  (h26:Rg K "below" lp ["row","number"])
  (h27:Rg K "number_or_none" eP ["number"])
  (a28:nsIn K mainGlobals "near_text" = some (some (.ref f28))) (h28:T7 K "near_text" "near_text" gK ["row","number"] f28)
  (a29:nsIn K mainGlobals "row_text" = some (some (.ref f29))) (h29:T7 K "row_text" "row_text" j6 ["row"] f29)
  (h30:Rg K "firsts_stepped" eQ ["firsts","step"])
  (h31:Rg K "firsts_of" jd ["row"])
  (h32:Rg K "first_met" gL ["row","number"])
  (h33:Rg K "figures_of" ix ["number"])
  (h34:Rg K "are_whole" je ["thing","many"])
  (h35:Rg K "are_parts" gM ["thing","row"])
  (h36:Rg K "need_parts" gc ["row","thing"])
  (h37:Rg K "show" m7 ["row","parts"])
  (a38:nsIn K mainGlobals "signs_text" = some (some (.ref f38))) (h38:T7 K "signs_text" "signs_text" gf ["row","number"] f38)
  (h39:Rg K "swings_stepped" eR ["swings","step"])
  (h40:Rg K "least_swing" fC ["row"])
  (a41:nsIn K mainGlobals "swing_text" = some (some (.ref f41))) (h41:T7 K "swing_text" "swing_text" gg ["row"] f41)
  (h42:Rg K "total" lq ["row"])
  (a43:nsIn K mainGlobals "total_text" = some (some (.ref f43))) (h43:T7 K "total_text" "total_text" gi ["row"] f43)
  (a44:nsIn K mainGlobals "ways_text" = some (some (.ref f44))) (h44:T7 K "ways_text" "ways_text" gN ["row","number"] f44)
  (h45:Rg K "is_number_word" eS ["word"])
  (h46:Rg K "is_line" lr ["words"])
  (h47:Rg K "words_of_line" d9 ["line"])
  (a48:findIn K (.ref Ny) "say" = some (some (.ref f48))) (aaB:isFn K (.ref f48)=true) (YF:T7 K "say" "Desk.say" iy ["self","line"] f48)
  (h49:Rg K "_law_all" iz ["desk","number"])
  (h50:Rg K "_law_box" kc ["script","k"])
  (h51:Rg K "_law_row" iA ["desk"])
  (h52:Rg K "are_so_many_signs" dt ["thing","many"])
  (h53:Rg K "are_signs" gP ["thing","row"])
  (h54:Rg K "is_word" lu ["word"])
  (h55:Rg K "number_of" jg ["figures"])
  (h56:Rg K "words_of" kd ["text"])
  (h57:Rg K "read" m9 ["text"])
  (h58:Rg K "worth" lx ["row","parts"])
  (h59:Rg K "_law_signs_right" dg ["desk","row","number"])
  (h60:Rg K "_law_take" jh ["box","many"])
  (h61:Rg K "_law_turned" fE ["box","desk"])
  (a62:nsIn K mainGlobals "law" = some (some (.ref f62))) (l62:K.lookup f62=some ⟨aaS,aaQ,.func (fnOf "law" "law" (Ri kf) (QL kf) (Pr kf) .none aax aay aaz aaw aam aaA),aaR⟩) (c62:codeIn K aam "law" = true) (k62:keepIn K (.ref f62)=true)
  (Pd:nsIn K mainGlobals "abs" = some none)
  (Pe:nsIn K mainGlobals "all" = some none)
  (Pc:nsIn K mainGlobals "bool" = some none)
  (OZ:nsIn K mainGlobals "divmod" = some none)
  (OC:nsIn K mainGlobals "enumerate" = some none)
  (Pf:nsIn K mainGlobals "int" = some none)
  (Oz:nsIn K mainGlobals "isinstance" = some none)
  (Pg:nsIn K mainGlobals "len" = some none)
  (Ph:nsIn K mainGlobals "max" = some none)
  (Pj:nsIn K mainGlobals "min" = some none)
  (O6:nsIn K mainGlobals "range" = some none)
  (O0:nsIn K mainGlobals "sorted" = some none)
  (Pk:nsIn K mainGlobals "str" = some none)
  (Pm:nsIn K mainGlobals "sum" = some none)
  (O7:nsIn K mainGlobals "tuple" = some none)
  (Pn:nsIn K mainGlobals "zip" = some none)
  (Ou:nsIn K mainGlobals "LONGEST_ROW" = some (some (.int 16 Ot)))
  (Ol:nsIn K mainGlobals "MOST_FIGURES" = some (some (.int 30 Oi)))
  (O8:nsIn K mainGlobals "PIECE" = some (some (.int 60 O3)))
  (N8:nsIn K mainGlobals "TIMES_BY_PARTS" = some (some (.int 2 N2)))
  (N9:nsIn K mainGlobals "TIMES_BY_SIGNS" = some (some (.int 1 N3)))
  (O1:nsIn K mainGlobals "SIGNS" = some (some (.ref OJ))) (O2:K.lookup OJ=some ⟨.type "tuple",OV,.seq #[.int (-1) OX,.int (1) OY] O4,OW⟩)
  (Oa:nsIn K mainGlobals "CHANGED_ALONE" = some (some (.ref NJ))) (Ob:K.lookup NJ=some ⟨.type "tuple",N4,.seq #[.str "take" N6,.str "back" N7] Od,N5⟩)
  (Om:nsIn K mainGlobals "ASKED_ALONE" = some (some (.ref Nz))) (Oo:KTD.tabLook lkF (λb=>K.lookup b) Nz [("row",some f29),("total",some f43),("even",some f21),("swing",some f41),("every",some f25)]=true) (Oq:KTD.hashesOf (λb=>K.lookup b) Nz=([("row",some f29),("total",some f43),("even",some f21),("swing",some f41),("every",some f25)]:List (Str×Option Addr)).map (λp=>hashStr w p.1))
  (NM:nsIn K mainGlobals "ASKED_OF_A_NUMBER" = some (some (.ref MK))) (NN:KTD.tabLook lkF (λb=>K.lookup b) MK [("comes",some f16),("ways",some f44),("signs",some f38),("near",some f28)]=true) (NO:KTD.hashesOf (λb=>K.lookup b) MK=([("comes",some f16),("ways",some f44),("signs",some f38),("near",some f28)]:List (Str×Option Addr)).map (λp=>hashStr w p.1))
  (OD:nsIn K mainGlobals "FIGURES" = some (some (.str "0123456789" OQ)))
  (OE:nsIn K mainGlobals "MARK_OF" = some (some (.ref Ox))) (OF:KTD.keyedLook (λb=>K.lookup b) Ox MX=true)
  (OG:nsIn K mainGlobals "PART_OF" = some (some (.ref Oy))) (OH:KTD.tabLook KTD.flatLooks (λb=>K.lookup b) Oy MB=true)
  (gt:specialIn K (.builtin "object.__class__") "__get__" = some (some (.builtin "getset_descriptor.__get__")))
  (tk:takesIn K (.builtin "object.__class__")=some true):
  ∃fd:FuncData,(∀(s:Shared)(v:Value),BindsTo s fd ⟨[v],[]⟩ [("script",v)])/\∀base:Heap,K.In base->base.Ns mainGlobals mg->Rb P w K mg base (UW P w) 12 fa fd ["script"] (YB K 1 Ar):=by
 have e:=hfa.symm.trans (Yd X G a62);cases e
 have T:Txt K mg w:=⟨JE gt tk,⟨_,NS,⟨OL,ON,OO,OP⟩⟩,⟨_,MI,⟨NB,NC,ND,NF⟩⟩,⟨_,NS,Oj⟩,⟨_,MI,NT⟩,⟨_,MI,NU⟩,Zb X G Pd,Zb X G Pe,Zb X G Pc,Zb X G OZ,Zb X G OC,Zb X G Pf,Zb X G Oz,Zb X G Pg,Zb X G Ph,Zb X G Pj,Zb X G O6,Zb X G O0,Zb X G Pk,Zb X G Pm,Zb X G O7,Zb X G Pn,⟨_,Yd X G Ou⟩,⟨_,Yd X G Ol⟩,⟨_,Yd X G O8⟩,⟨_,Yd X G N8⟩,⟨_,Yd X G N9⟩,FZ X G O1 O2,DT X G Oa Ob,⟨_,Yd X G OD⟩,Gd X G OE OF,Gb X G OG OH,An X G Om Oo Oq (show(["row","total","even","swing","every"]:List Str).Nodup by decide +kernel) (by simp only[Mr,Y8,Wb,Q7,Option.map_none,Yd X G a29,Yd X G a43,Yd X G a21,Yd X G a41,Yd X G a25]),An X G NM NN NO (show(["comes","ways","signs","near"]:List Str).Nodup by decide +kernel) (by simp only[L6,Y8,Wb,Q7,Option.map_none,Yd X G a16,Yd X G a44,Yd X G a38,Yd X G a28])⟩
 have F62:=yy (st:=kf) l62 c62 k62;refine⟨fnOf "law" "law" (Ri kf) (QL kf) (Pr kf) .none aax aay aaz aaw aam aaA,λs v=>.of_eq rfl,λbase kb _=>?_⟩
 have MQ:WN P w K mg base "Keeper" 1 cD:=let ⟨_,F,b⟩:=h0;lI F MI (Yd X G MI) ⟨mk0,a0,aaT,OR⟩ b T
 have Nd:WN P w K mg base "Desk" 3 bF:=let ⟨_,F,b⟩:=h1;ny F NS (Yd X G NS) ⟨mk1,a1,aaU,O5⟩ b T MQ
 have Mu:Rh P w K mg base "Keeper" "change" 1 2 cb:=let ⟨_,F,b⟩:=h2;nA F MI ⟨NB,NC,ND,NF⟩ ⟨a2,aaV,F.kp⟩ b T
 have MC:Pu P w K mg base "is_whole" 1 1 bO:=let ⟨_,a,_,F,b⟩:=h3;yb F (Yd X G a) b T
 have Mt:Pu P w K mg base "need_number" 2 1 bG:=let ⟨_,a,_,F,b⟩:=h4;nC F (Yd X G a) b T MC
 have MD:Pu P w K mg base "need_number_from" 3 2 bV:=let ⟨_,a,_,F,b⟩:=h5;jF F (Yd X G a) b T Mt
 have Nj:Rh P w K mg base "Keeper" "put" 4 2 cK:=let ⟨_,F,b⟩:=h6;oA F MI ⟨NB,NC,ND,NF⟩ ⟨a6,aaW,F.kp⟩ b T Mu MD
 have NI:Rh P w K mg base "Keeper" "row" 1 1 eN:=let ⟨_,F,b⟩:=h7;rB F MI ⟨NB,NC,ND,NF⟩ ⟨a7,aaX,F.kp⟩ b T
 have Nc:Rh P w K mg base "Keeper" "take" 2 1 cA:=let ⟨_,F,b⟩:=h8;nE F MI ⟨NB,NC,ND,NF⟩ ⟨a8,aaY,F.kp⟩ b T Mu
 have Mw:Pu P w K mg base "halves_of" 1 1 bC:=let ⟨_,a,_,F,b⟩:=h9;vK F (Yd X G a) b T
 have Of:Pu P w K mg base "is_row" 2 1 fO:=let ⟨_,a,_,F,b⟩:=h10;Cs F (Yd X G a) b T MC
 have Au:Pu P w K mg base "need_row" 3 1 aP:=let ⟨_,a,_,F,b⟩:=h11;rD F (Yd X G a) b T Of
 have gV:Pu P w K mg base "need_row_and_number" 4 2 aJ:=let ⟨_,a,_,F,b⟩:=h12;iD F (Yd X G a) b T Mt Au
 have NV:Pu P w K mg base "stepped" 1 3 gz:=let ⟨_,a,_,F,b⟩:=h13;zv F (Yd X G a) b T
 have MT:Pu P w K mg base "table_of" 2 2 cW:=let ⟨_,a,_,F,b⟩:=h14;yc F (Yd X G a) b T NV
 have MG:Pu P w K mg base "many_met" 5 2 L9:=let ⟨_,a,_,F,b⟩:=h15;rE F (Yd X G a) b T Mw gV MT
 have Nk:Pu P w K mg base "comes_text" 6 2 cL:=let ⟨_,F,b⟩:=ZP;oC F (Yd X G a16) b T MG
 have Na:Pu P w K mg base "half_worths" 4 1 cZ:=let ⟨_,a,_,F,b⟩:=h17;nG F (Yd X G a) b T Mw Au MT
 have NA:Pu P w K mg base "walk" 5 2 eO:=let ⟨_,a,_,F,b⟩:=h18;Ct F (Yd X G a) b T Na
 have Nh:Pu P w K mg base "above" 6 2 ME:=let ⟨_,a,_,F,b⟩:=h19;zx F (Yd X G a) b T gV NA
 have Ni:Pu P w K mg base "unevenness" 7 1 Mz:=let ⟨_,a,_,F,b⟩:=h20;oF F (Yd X G a) b T Nh
 have Nu:Pu P w K mg base "even_text" 8 1 c5:=let ⟨_,F,b⟩:=h21;qM F (Yd X G a21) b T Ni
 have L5:Pu P w K mg base "ahead_of_too_great" 1 2 bw:=let ⟨_,a,_,F,b⟩:=h22;jG F (Yd X G a) b T
 have MM:Pu P w K mg base "every_by_parts" 4 1 L7:=let ⟨_,a,_,F,b⟩:=h23;kJ F (Yd X G a) b T L5 Au
 have MN:Pu P w K mg base "every_by_signs" 4 1 L8:=let ⟨_,a,_,F,b⟩:=h24;kL F (Yd X G a) b T L5 Au
 have Nl:Pu P w K mg base "every_text" 5 1 cM:=let ⟨_,F,b⟩:=h25;oH F (Yd X G a25) b T MM MN
 have NW:Pu P w K mg base "below" 6 2 MS:=let ⟨_,a,_,F,b⟩:=h26;zz F (Yd X G a) b T gV NA
 have MH:Pu P w K mg base "number_or_none" 1 1 cn:=let ⟨_,a,_,F,b⟩:=h27;mE F (Yd X G a) b T
 have Nv:Pu P w K mg base "near_text" 7 2 c6:=let ⟨_,F,b⟩:=h28;qO F (Yd X G a28) b T Nh NW MH
 have NP:Pu P w K mg base "row_text" 1 1 fB:=let ⟨_,F,b⟩:=h29;ye F (Yd X G a29) b T
 have MU:Pu P w K mg base "firsts_stepped" 1 2 cq:=let ⟨_,a,_,F,b⟩:=h30;mF F (Yd X G a) b T
 have NK:Pu P w K mg base "firsts_of" 2 1 et:=let ⟨_,a,_,F,b⟩:=h31;vM F (Yd X G a) b T MU
 have Nt:Pu P w K mg base "first_met" 5 2 My:=let ⟨_,a,_,F,b⟩:=h32;qP F (Yd X G a) b T NK Mw gV
 have NH:Pu P w K mg base "figures_of" 1 1 dz:=let ⟨_,a,_,F,b⟩:=h33;rF F (Yd X G a) b T
 have MO:Pu P w K mg base "are_whole" 2 2 dq:=let ⟨_,a,_,F,b⟩:=h34;vO F (Yd X G a) b T MC
 have Nr:Pu P w K mg base "are_parts" 4 2 dM:=let ⟨_,a,_,F,b⟩:=h35;qR F (Yd X G a) b T MO Au
 have MA:Pu P w K mg base "need_parts" 5 2 bW:=let ⟨_,a,_,F,b⟩:=h36;oJ F (Yd X G a) b T Nr
 have Og:Pu P w K mg base "show" 6 2 iP:=let ⟨_,a,_,F,b⟩:=h37;Cv F (Yd X G a) b T NH MA
 have Nm:Pu P w K mg base "signs_text" 7 2 cO:=let ⟨_,F,b⟩:=h38;oK F (Yd X G a38) b T Nt Og
 have MV:Pu P w K mg base "swings_stepped" 1 2 cu:=let ⟨_,a,_,F,b⟩:=h39;mG F (Yd X G a) b T
 have Nb:Pu P w K mg base "least_swing" 4 1 Ms:=let ⟨_,a,_,F,b⟩:=h40;nH F (Yd X G a) b T Au MV
 have Np:Pu P w K mg base "swing_text" 5 1 cP:=let ⟨_,F,b⟩:=h41;oN F (Yd X G a41) b T Nb
 have NX:Pu P w K mg base "total" 4 1 iR:=let ⟨_,a,_,F,b⟩:=h42;zB F (Yd X G a) b T Au
 have Nq:Pu P w K mg base "total_text" 5 1 dr:=let ⟨_,F,b⟩:=h43;oP F (Yd X G a43) b T NX
 have Nw:Pu P w K mg base "ways_text" 6 2 c7:=let ⟨_,F,b⟩:=h44;qT F (Yd X G a44) b T MG
 have MW:Pu P w K mg base "is_number_word" 1 1 bP:=let ⟨_,a,_,F,b⟩:=h45;mH F (Yd X G a) b T
 have NY:Pu P w K mg base "is_line" 2 1 iT:=let ⟨_,a,_,F,b⟩:=h46;zD F (Yd X G a) b T MW
 have MR:Pu P w K mg base "words_of_line" 3 1 bp:=let ⟨_,a,_,F,b⟩:=h47;lJ F (Yd X G a) b T NY
 have L4:Rh P w K mg base "Desk" "say" 9 2 aB:=let ⟨_,F,b⟩:=YF;rG F NS ⟨OL,ON,OO,OP⟩ ⟨a48,aaB,F.kp⟩ b T Nj NI Nc Nk Nu Nl Nv NP Nm Np Nq Nw MR
 have Ng:Pu P w K mg base "_law_all" 10 2 bB:=let ⟨_,a,_,F,b⟩:=h49;rH F (Yd X G a) b T L4
 have OI:Pu P w K mg base "_law_box" 1 2 ef:=let ⟨_,a,_,F,b⟩:=h50;yf F (Yd X G a) b T
 have Nf:Pu P w K mg base "_law_row" 10 1 cE:=let ⟨_,a,_,F,b⟩:=h51;rJ F (Yd X G a) b T L4
 have MJ:Pu P w K mg base "are_so_many_signs" 3 2 cf:=let ⟨_,a,_,F,b⟩:=h52;km F (Yd X G a) b T MO
 have Nx:Pu P w K mg base "are_signs" 4 2 dN:=let ⟨_,a,_,F,b⟩:=h53;qV F (Yd X G a) b T MJ Au
 have NZ:Pu P w K mg base "is_word" 1 1 gA:=let ⟨_,a,_,F,b⟩:=h54;zF F (Yd X G a) b T
 have NL:Pu P w K mg base "number_of" 1 1 eu:=let ⟨_,a,_,F,b⟩:=h55;vP F (Yd X G a) b T
 have NQ:Pu P w K mg base "words_of" 1 1 fD:=let ⟨_,a,_,F,b⟩:=h56;yh F (Yd X G a) b T
 have Oh:Pu P w K mg base "read" 2 1 iU:=let ⟨_,a,_,F,b⟩:=h57;Cw F (Yd X G a) b T NZ NL NQ
 have N1:Pu P w K mg base "worth" 6 2 iV:=let ⟨_,a,_,F,b⟩:=h58;zH F (Yd X G a) b T MA
 have MZ:Pu P w K mg base "_law_signs_right" 10 3 bg:=let ⟨_,a,_,F,b⟩:=h59;jH F (Yd X G a) b T L4 Nx Oh N1
 have MY:Pu P w K mg base "_law_take" 1 2 bX:=let ⟨_,a,_,F,b⟩:=h60;vQ F (Yd X G a) b T
 have Oe:Pu P w K mg base "_law_turned" 11 2 cB:=let ⟨_,a,_,F,b⟩:=h61;nI F (Yd X G a) b T L4 Nf MY
 exact FK ["script","k","box","desks","lap","desk","which","seen","row","number","other","one","word","least","between"] ["script"] 11 12 1 15 rfl rfl rfl (m:=Hj) F62 eh λcdv A outer s H E hr=>(aq (c8 Z9 rfl (mO Y1 T.NR (ah (aH (Dm rfl) Y1 T.OT vI (ah ay (ah (aH (yC rfl) Y1 T.Ow mB (ah (aH cT Y1 T.MP cg (ah (vL 0) aj)) (ah ay aj))) aj))) aj)) (aI eh.nd Y0 Y2) (aq (aK eh.nd Y0 Y2 (cN OI hr (ah (vL 0) (ah (vL 1) aj)) (ai (ai av)))) (aq (aK eh.nd Y0 Y2 (pD (ah (uR Nd (hr.mono (by decide)) Y1) (ah (uR Nd (hr.mono (by decide)) Y1) aj)))) (aq (c8 Z9 rfl (mO Y1 T.NR (ah ay aj)) (aI eh.nd Y0 Y2) (aq (aK eh.nd Y0 Y2 (aM jO (vL 4) ay)) (aq (aK eh.nd Y0 Y2 (cN Ng hr (ah (bU cG (vL 3) (aM il ay (vL 6))) (ah (vL 4) aj)) (ai (ai av)))) (aq (bE (cN Oe hr (ah (vL 2) (ah (bU cG (vL 3) (vL 6)) aj)) (ai (ai av)))) (ax (bZ (bb (i9 hr) (cN Ng hr (ah (bU cG (vL 3) (aM il ay (vL 6))) (ah (vL 4) aj)) (ai (ai av))) (vL 7)) (ax (aE jL)) bD)))))) (ax (c8 Z9 rfl (cJ (vL 3)) (aI eh.nd Y0 (Or.inr Y0)) (aq (aK eh.nd Y0 Y2 (cN Nf hr (ah (vC 5) aj) (ai av))) (aq (aK eh.nd Y0 Y2 (aM il (cN MY hr (ah (vL 2) (ah ay aj)) (ai (ai av))) ay)) (aq (aK eh.nd Y0 Y2 (uR Nd (hr.mono (by decide)) Y1)) (aq (c8 Z9 rfl (cJ (vL 8)) (aI eh.nd Y0 Y2) (ax (bE (dh L4 (hr.mono (by decide)) (vL 10) (ah (aM bo aS (aO cV Y1 T.ML bS (ah (vL 11) aj))) aj) (ai av))))) (aq (bZ (lM (rZ (bb (i9 hr) (cN Ng hr (ah (vL 10) (ah (vL 9) aj)) (ai (ai av))) (cN Ng hr (ah (vC 5) (ah (vL 9) aj)) (ai (ai av)))) (pC (gB (dW (cN MZ hr (ah (vC 5) (ah (vL 8) (ah (vL 9) aj))) (ai (ai (ai av))))))))) (ax (aE jL)) bD) (aq (c8 Z9 rfl (cJ (gG Zg Wj Wk jT (dh L4 (hr.mono (by decide)) (vC 5) (ah (aM bo aS (aO cV Y1 T.ML bS (ah (vL 9) aj))) aj) (ai av)) (ah aS aj))) (aI eh.nd Y0 Y2) (ax (bZ (lM (ue (bb (i9 hr) (vL 12) aS) (oS (gB (dW (cN MZ hr (ah (vC 5) (ah (vL 8) (ah (aO ja Y1 T.Oc hZ (ah (vL 12) aj)) aj))) (ai (ai (ai av))))))))) (ax (aE jL)) bD))) (aq (aK eh.nd Y0 Y2 (aO ja Y1 T.Oc hZ (ah (dh L4 (hr.mono (by decide)) (vC 5) (ah aS aj) (ai av)) aj))) (aq (bZ (bb (i9 hr) (bU cG (gG Zg Wj Wk jT (dh L4 (hr.mono (by decide)) (vC 5) (ah (aM bo aS (aO cV Y1 T.ML bS (ah (vL 13) aj))) aj) (ai av)) (ah aS aj)) ay) (aO cV Y1 T.ML bS (ah (vL 13) aj))) (ax (aE jL)) bD) (aq (z9 (i0:=14) (N:=["one","desk"]) (k:=1) (PB:=[5]) eh.nd Y0 Y2 rfl (λ_ _ z=>z) (eL Y0 Y0 Y0 Y0 rfl Y0) (BZ Y1 T.NR (ah (aM il ay (vL 13)) (ah (vL 13) aj))) (λ_ _ _ _=>(aI (show(["one","desk"]:List Str).Nodup by decide +kernel) Y0 Y2)) (λ_ _ _ _=>(oV (bb (cz hr) (dh L4 (hr.mono (by decide)) (vC 1) (ah (aM bo aS (aO cV Y1 T.ML bS (ah (vL 0) aj))) aj) (ai av)) aS))) (λ_ _ _ _=>(vL 0))) (ax (bZ (bb (i9 hr) (vL 14) (pD aj)) (ax (aE jL)) bD))))))))))))))))) (ax (aE jL)))
def walk{l:PySem.W.OpenLaw}{q:Program}{loose:List Str}{XP:(Str->Option Value)->Heap->Prop}{YP:World->Heap->Prop}{d:DefRec}{K:Params->Frag}(hn:l.most=some 63)(hdf:d.params.defaults=[])
  (hY:∀(w:World)(h:Heap),YP w h->(K w.params).In h)
  (F:∀(w:World)(mg:Str->Option Value)(fa:Addr)(h:Heap),(K w.params).In h->h.Ns mainGlobals mg->mg d.name=some (.ref fa)->
   ∃fd:FuncData,(∀(s:Shared)(u:Value),BindsTo s fd ⟨[u],[]⟩ [("script",u)])/\∀base:Heap,(K w.params).In base->base.Ns mainGlobals mg->Rb l.prog w (K w.params) mg base (UW l.prog w) 12 fa fd ["script"] (YB (K w.params) 1 Ar)):
  PySem.W.WalkO q loose XP YP l.row.toRowW d [] (λf vs=>PySem.call f vs):=
 L2.FC (n:=63) (k:=12) (x:="script") (CX:=λw=>UW l.prog w) (sp:=λw=>YB (K w.params) 1 Ar) hn (by decide) hdf ⟨rfl,by decide,by decide,rfl⟩ hY F (λw H a ns hl ho hS=>FL E4 (K w.params) H a ns hl ho hS) λ_ _ _ _ _ z=>II z
end Lw
open PySem PySem.W PyProof.Rows
set_option maxRecDepth 100000 in
theorem PySem.Challenge.cw_plusless_k84_whole_desks_holds : PySem.Challenge.rw_plusless_k84_whole_desks.Holds := by
 w_on; o_law
 refine holds_open (q := Lw.hV) (loose := ["MARK_OF","PART_OF","ASKED_ALONE","ASKED_OF_A_NUMBER"]) (Xt := Lw.hX) (XP := XL Lw.hV []) (Yf := Hook.obs (kHook Lw.hK Lw.hA Lw.X4)) (Ya := Hook.val (kHook Lw.hK Lw.hA Lw.X4)) (YP := Hook.says (kHook Lw.hK Lw.hA Lw.X4)) (N := 12400) Lw.left (Hook.of (kHook Lw.hK Lw.hA Lw.X4)) (Hook.keeps (kHook Lw.hK Lw.hA Lw.X4)) (λs e => xl_of s (Bool.and_eq_true_iff.mp e).1) XL.keeps (by rfl) (by rfl) (by rfl) (λs e => recFacts_of (Bool.and_eq_true_iff.mp e).2) (by rfl) (by first | assumption | decide +kernel) (by decide +kernel) ⟨rfl, rfl, rfl, rfl, rfl, by decide +kernel⟩ ?hw ?hc
 case hw => w_witness2
 k_fill
 refine Lw.walk (l := PySem.Challenge.rw_plusless_k84_whole_desks) rfl rfl (λw h Y => by first | exact PySem.W.kIn_of Y | exact Y.1) ?F
 case F =>
  intro w mg fa h KX G hmg
  refine' Lw.all_mk KX G hmg ?_ ?_ ?_ ?_ ?_ ?_ ?_ ?_ ?_ ?_ ?_ ?_ ?_ ?_ ?_ ?_ ?_ ?_ ?_ ?_ ?_ ?_ ?_ ?_ ?_ ?_ ?_ ?_ ?_ ?_ ?_ ?_ ?_ ?_ ?_ ?_ ?_ ?_ ?_ ?_ ?_ ?_ ?_ ?_ ?_ ?_ ?_ ?_ ?_ ?_ ?_ ?_ ?_ ?_ ?_ ?_ ?_ ?_ ?_ ?_ ?_ ?_ ?_ ?_ ?_ ?_ ?_ ?_ ?_ ?_ ?_ ?_ ?_ ?_ ?_ ?_ ?_ ?_ ?_ ?_ ?_ ?_ ?_ ?_ ?_ ?_ ?_ ?_ ?_ ?_ ?_ ?_ ?_ ?_ ?_ ?_ ?_ ?_ ?_ ?_ ?_ ?_ ?_ ?_ ?_ ?_ ?_ ?_ ?_ ?_ ?_ ?_ ?_ ?_ ?_ ?_ ?_ ?_ ?_ ?_ ?_ ?_ ?_ ?_ ?_ ?_ ?_ ?_ ?_ ?_ ?_ ?_ ?_ ?_ ?_ ?_ ?_ ?_ ?_ ?_ ?_ ?_ ?_ ?_
  any_goals first | (refine' Lw.Ld ?a ?_; (case a => k_is)) | k_is | exact (by kernel_rfl : PySem.W.nsIn (Lw.hK w.params) mainGlobals "ASKED_ALONE" = some (some (.ref 508))) | exact (by kernel_rfl : PySem.W.nsIn (Lw.hK w.params) mainGlobals "ASKED_OF_A_NUMBER" = some (some (.ref 509))) | kernel_rfl | skip
  any_goals (refine' Lw.Lc ?l ?c ?k ?b; (case l => k_is); (case c => k_is); (case k => k_is); (case b => first | exact λ_ _ _ _ _ _ => Lw.un1 λ_ => rfl | exact λ_ _ _ _ _ _ => Lw.un2 λ_ _ => rfl | exact λ_ _ _ _ _ _ => Lw.un3 λ_ _ _ => rfl))
