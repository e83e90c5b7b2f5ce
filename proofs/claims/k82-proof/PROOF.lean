import PyProof.Rows.All
import Wide.All
import OpenK.AllK
import Wide.FinOn
import PyProof.EqAt
import PyProof.EqKinds
import PyProof.TupleCall
import PyProof.ZipIter
import PyProof.EnumMake
import PyProof.Draws
import PyProof.LayNew
import PyProof.Rows.SortShell
import PyProof.IsRules
import PyProof.ListIndex
import PyProof.Cells
import PyProof.CompUse
import PyProof.DictItems
import PyProof.DictItemsLoops
import PyProof.Rows.MinMaxN
import PyProof.Rows.Range3
import KE.KRevIter
import PyProof.DictWalks
import PyProof.NeKinds
import PyProof.DictList
import PyProof.DictUpdate
import PyProof.Rows.Tup
import PyProof.FactsAll.tuple_2
import PyProof.Rows.CallKwBuiltin
import KE.KDictSum
import KE.KSortTup
import KE.KRevSl
import KE.KUnpack
import KE.KIntText
import KE.KTabLook
import PyProof.StrCalls2
import PyProof.StrLoop
import PyProof.StrWalks
import PyProof.Rows.SetFrom
import Lean
import PySem.Challenge.RW_plusless_k82_asks_at_a_desk
set_option Elab.async false
set_option linter.all false
set_option maxRecDepth 100000
set_option genSizeOf false
noncomputable section
open PySem.W (BT Frag Hook InitBack KdlSrc LeftO Looks RowW SharedT any_some behindTheImports bind_fn blockOf boot_drawn boot_heap boot_o_0 boot_o_1 boot_o_10 boot_o_2 boot_o_3 boot_o_4 boot_o_5 boot_o_6 boot_o_7 boot_o_8 boot_o_9 boot_open boot_toks byRow2 callWith_K callWith_K0 cellsFrom_some clsIn codeIn codeRec_of emptyDict eq_bytes fencedOpening findIn findObj_own fnOf gensDone get_value go_top handedIn hasDictIn hideAll hideAll_get hideAll_none hideAll_size instObj isFn kHook kdl_call kdl_dict kdu_collect keepIn ki_setAt ki_setBack kia_one kitCls kitOne kitx_bool kitx_dict kitx_float kitx_int kitx_list kitx_none kitx_own kitx_str kitx_tuple laidKept lookIn looks_clsIn looks_findIn make_core makesIn makes_of methodCall_KW methodObj method_fn mg_none_of mg_of mroIn namesBound ne_bytes nsIn of_hideAll openEnds openGood openSeen osa_open piece_app piece_block piecesOf plainGet plainGet_of plainOver recOk restOf segRun segRunT segRun_of set_plain specialIn staticsOk takerIn takesIn topFrame topFrom topGo topRun topRun_mono topStub typeIn xlAt)
def zz2(h:True:=by decide):True:=h
def zz5(h:True:=by intro _;rfl):True:=h
def zz1(h:True:=by rfl):True:=h
def zz8(h:True:=by intro _ _ z;cases z):True:=h
def zz0(h:True:=by kernel_rfl):True:=h
def zz3(h:True:=by decide +kernel):True:=h
def zz9(h:True:=by first|exact L2.Gq _|kernel_rfl):True:=h
def zz4(h:True:=by intro _;kernel_rfl):True:=h
def zz7(h:True:=by first|left;rfl|right;kernel_rfl):True:=h
def ex5{α β:Type}{a b c:α->β->Prop}{P:Prop}(z:∃x y,a x y/\b x y/\c x y)(f:∀x y,a x y->b x y->c x y->P):P:=by obtain⟨x,y,u,v,w⟩:=z;exact f x y u v w
def Y6:=@PySem.wpAny_bind
def Y7:=@PySem.Heap.get?_push_of_some
def Y8:=@if_pos
def Y9:=@List.getElem?_eq_some_iff
def Yb:=@List.map_cons
def Yc:=@List.mem_cons
def Yd:=@Nat.le_refl
def Ye:=@PySem.wpAny_pure
def Yg:=@PySem.Heap.get?_push_size
def Yh:=@List.length_map
def Yi:=@if_neg
def Yj:=@mg_of
def Yk:=@List.getElem?_eq_getElem
def Yl:=@Bool.false_ne_true
def Ym:=@List.length_cons
def Yn:=@PySem.Heap.lt_size
def Yo:=@List.mem_singleton
def Yp:=@decide_eq_false
def Yq:=@List.length_append
def Yr:=@decide_eq_true
def Ys:=@List.size_toArray
def Yt:=@Nat.ne_of_lt
def Yu:=@Nat.lt_of_lt_of_le
def Yv:=@Nat.le_trans
def Yw:=@List.mem_map
def Yx:=@List.not_mem_nil
def Yy:=@List.mem_append
def Yz:=@List.mem_cons_of_mem
def Z0:=@List.getElem?_append_left
def Z1:=@List.mem_append_right
def Z2:=@List.mem_cons_self
def Z3:=@List.getElem?_set_ne
def Z4:=@List.getElem?_set_self
def Z5:=@PySem.Heap.size_push
def Z6:=@mg_none_of
def Z7:=@PySem.Heap.get?_update_other
def Z8:=@List.mem_filter
def Z9:=@Bool.and_eq_true
def Za:=@Option.some.inj
def Zb:=@List.set_cons_zero
def Zc:=@PySem.PassesOwn.never
def Zd:=@PySem.wpAny_newObj_type
def Ze:=@Bool.false_eq_true
def Zf:=@List.length_nil
def Zg:=@PySem.wpAny_seqItems
def Zh:=@List.mem_of_getElem?
def Zi:=@List.set_cons_succ
def Zj:=@if_true
def Zk:=@PySem.wpAny_field
def Zl:=@or_false
def Zm:=@List.getD_eq_getElem?_getD
def Zn:=@of_decide_eq_true
def Zo:=@List.map_map
def Zp:=@List.sum_cons
def Zq:=@Nat.zero_le
def Zr:=@PySem.Around.under_plainId
def Zs:=@List.mem_append_left
def Zt:=@kia_one
def Zu:=@List.find?_cons
def Zv:=@Option.map_some
def Zw:=@Nat.pow_le_pow_right
def Zx:=@Nat.lt_succ_self
def Zy:=@List.all_eq_true
def Zz:=@PySem.F.plainAttrs_str
def Q0:=@List.map_congr_left
def Q2:=@List.getElem?_map
def Q3:=@Prod.mk.inj
def Q4:=@PySem.codeAny_builtin
def Q5:=@PySem.wpAny_callSpecial?_slot
def Q6:=@List.getElem?_cons_succ
def Q7:=@List.getElem?_cons_zero
def Q8:=@congrArg
def Q9:=@List.length_drop
def Qa:=@PySem.F.plain_min_loop
def Qb:=@Nat.lt_irrefl
def Qc:=@PySem.wpAny_truthy_bool
def Qd:=@PySem.wpAny_pyIter_list
def Qe:=@List.append_assoc
def Qf:=@decide_eq_true_eq
def Qg:=@List.flatMap_cons
def Qh:=@List.append_nil
def Qi:=@PySem.Heap.get?_update_self
def Qj:=@List.set_getElem_self
def Qk:=@PySem.wpAny_call_entry
def Ql:=@List.length_take
def Qm:=@List.lookup_cons
def Qn:=@List.pairwise_cons
def Qo:=@PySem.F.plain_max_loop
def Qp:=@PyProof.Rows.KTD.isSome_datumAt
def Qq:=@decide_eq_decide
def Qr:=@PySem.wpAny_holding
def Qs:=@List.any_cons
def Qt:=@PySem.plainId_quiet
def Qu:=@PySem.Heap.get?_none_of_le
def Qv:=@PySem.wpAny_mono
def Qw:=@PySem.wpAny_tryCatch
def Qx:=@List.any_eq_false
def Qy:=@if_false
def Qz:=@Bool.eq_iff_iff
def W0:=@List.map_append
def W3:=@Array.length_toList
def W4:=@List.replicate_succ
def W5:=@List.map_nil
def W6:=@List.getElem?_append_right
def W7:=@List.length_singleton
def W8:=@PyProof.Rows.slot_tuple_getitem
def W9:=@PySem.wpAny_letGo
def Wa:=@PySem.wpAny_rule
def Wb:=@PyProof.Rows.vals1
def Wc:=@List.nil_append
def We:=@Nat.lt_succ_of_lt
def Wf:=@List.length_eq_zero_iff
def Wg:=@List.pairwise_singleton
def Wh:=@List.cons_append
def Wi:=@PySem.wpAny_setField_rec
def Wj:=@PySem.wpAny_passesOwn
def Wk:=@List.of_mem_zip
def Wl:=@PySem.F.slot_tuple_iterator_next
def Wm:=@List.flatten_cons
def Wn:=@Array.getElem?_eq_getElem
def Wp:=@Nat.le_succ
def Wq:=@PySem.sizeLine_eq
def Wr:=@List.set_set
def Ws:=@beq_eq_false_iff_ne
def Wt:=@PySem.mem_of_lookup
def Wu:=@PySem.Heap.SameBut.update
def Wv:=@List.getElem?_replicate
def Ww:=@PySem.F.plainAttrs_list
def Wx:=@PySem.wpAny_Call_Name_kw
def Wy:=@List.nodup_cons
def Wz:=@PySem.typeIs_int
def V0:=@PySem.call_meets
def V1:=@PySem.wpAny_updateSeq
def V2:=@of_decide_eq_false
def V3:=@Sum.inl.inj
def V4:=@Nat.ne_of_gt
def V5:=@List.length_replicate
def V6:=@PySem.F.slot_str_join
def V7:=@PySem.F.type_str_join
def V8:=@PyProof.Rows.callWith_type1
def V9:=@PyProof.Rows.getD_mem'
def Va:=@List.take_length
def Vb:=@Nat.succ_ne_self
def Vc:=@Nat.mul_le_mul_right
def Vd:=@List.filter_cons
def Ve:=@Bool.true_and
def Vf:=@PySem.wpAny_of_eq
def Vg:=@Array.toList_append
def Vh:=@List.drop_eq_getElem_cons
def Vi:=@PySem.wpAny_pyIter_tuple
def Vj:=@PySem.F.args_tuple_add_2
def Vk:=@Nat.succ_mul
def Vl:=@Nat.mul_comm
def Vm:=@PySem.tupleKind_room_in1
def Vn:=@PySem.F.slot_list_append
def Vo:=@PySem.F.type_list_append
def Vp:=@PySem.F.entry_tuple_add
def Vq:=@Nat.toDigits_of_lt_base
def Vr:=@Int.toNat_natCast
def Vs:=@Nat.lt_of_succ_lt
def Vt:=@PySem.F.slot_tuple_add
def Vu:=@PySem.Calls.callWith_builtin
def Vv:=@Option.getD_none
def Vw:=@PySem.F.entry_min_loop
def Vx:=@PySem.F.entry_max_loop
def Vy:=@List.mem_flatMap
def Vz:=@List.any_eq_true
def U0:=@PySem.Obj.isFreed_of_fields
def U1:=@Array.getElem?_toList
def U2:=@PySem.F.slot_dict_get
def U3:=@List.set_append_right
def U4:=@List.take_append_drop
def U5:=@PySem.wpAny_execs_nil
def U6:=@beq_iff_eq
def U7:=@List.length_dropLast
def U8:=@Nat.add_comm
def U9:=@PySem.F.slot_int_rmul
def Ua:=@List.forIn_cons
def Ub:=@PySem.Walks.list
def Uc:=@PySem.wpAny_updateSeq_pair
def Ud:=@PySem.F.slot_zip_next
def Ue:=@Nat.succ_pos
def Uf:=@Nat.pow_succ
def Ug:=@List.set_append_left
def Uh:=@List.filterMap_cons
def Ui:=@plainGet_of
def Uj:=@PySem.evalArgs_none
def Uk:=@ne_true_of_eq_false
def Ul:=@List.mem_map_of_mem
def Um:=@List.take_succ
def Uo:=@List.dropLast_concat_getLast
def Up:=@PySem.Obj.data_mapFields
def Uq:=@PySem.Calls.spliced_cons
def Ur:=@callWith_K
def Us:=@LawfulBEq.eq_of_beq
def Ut:=@PySem.F.args_tuple_mul_2
def Uu:=@List.getElem?_drop
def Uv:=@Int.emod_lt_of_pos
def Uw:=@Int.natAbs_natCast
def Ux:=@PySem.F.slot_str_startswith
def Uy:=@PySem.F.type_str_startswith
def Uz:=@PySem.wpAny_standAt
def Gc:=@Int.fdiv_eq_ediv_of_nonneg
def Go:=@Int.fmod_eq_emod_of_nonneg
def K0:=@List.all_cons
def K1:=@PySem.wpAny_newList
def K2:=@PySem.wpAny_onRaise
def K3:=@List.exists_cons_of_ne_nil
def K4:=@PySem.wpAny_Call_method
def K5:=@PySem.F.entry_tuple_mul
def K6:=@Nat.le_succ_of_le
def K7:=@List.pairwise_map
def K8:=@Nat.le_of_lt
def K9:=@PySem.codeAny_mono
def M0:=@PySem.wpAny_typeOf
def M1:=@Nat.lt_trans
def M3:=@List.drop_length
def M4:=@List.getElem_mem
def M5:=@decide_false
def M6:=@List.length_set
def M7:=@List.foldl_cons
def M8:=@Bool.or_eq_true
def M9:=@Int.emod_nonneg
def Ma:=@Sum.inr.inj
def Mb:=@Int.le_refl
def Mc:=@byRow2
def Md:=@Bool.false_and
def Me:=@List.find?_map
def Mf:=@Prod.ext
namespace Lw
open PySem
def top(i:Nat):Stmt:=PySem.Challenge.pw_plusless_k82_asks_at_a_desk.main.body.getD i (.Pass ⟨0,0,0,0⟩)
def hdI(s:Stmt)(j:Nat):Stmt:=match s with
 |.ClassDef _ _ _ body _ _ _ _ _ _ _=>body.getD j (.Pass ⟨0,0,0,0⟩)
 |_=>.Pass ⟨0,0,0,0⟩
def hdA(s:Stmt):Arguments:=match s with
 |.FunctionDef _ a _ _ _ _ _ _ _ _=>a
 |_=>{posonlyargs:=[],args:=[],vararg:=none,kwonlyargs:=[],kw_defaults:=[],kwarg:=none,defaults:=[]}
def hdB(s:Stmt):List Stmt:=match s with
 |.FunctionDef _ _ b _ _ _ _ _ _ _=>b
 |_=>[]
def hdS(s:Stmt):Scope:=match s with
 |.FunctionDef _ _ _ _ _ _ sc _ _ _=>sc
 |_=>{kind:=.function,names:=[],isGenerator:=false,isCoroutine:=false}
def hE(P:Params)(n:Str)(t:Tok)(v:Value):DictEntry:={hash:=PyData.keyHash P n,key:=.str n t,val:=v}
def hF(n:Str)(i:Nat)(m:Str)(t:Tok)(c:Addr):Obj:={cls:=.type "function",data:=.func {name:=n,qualname:=n,params:=hdA (top i),body:=.stmts (hdB (top i)),scope:=hdS (top i),globals:=3,closure:=[],defaults:=.none,kwdefaults:=.none,pyModule:=.str m t,code:=.ref c}}
def hC(n:Str)(t0 t1 t2:Tok)(a b c d e:Int)(r0:Value)(f:Int)(r1 r2 r3 r4 r5:Value)(g h:Int)(t3:Tok):Obj:={cls:=.type "code",data:=.fields #[.str n t0,.str n t1,.str "/claim/cut.py" t2,.int a 0,.int b 0,.int c 0,.int d 0,.int e 0,r0,.bool true,.int f 0,r1,r2,r3,r4,r5,.int g 0,.int h 0,.str "/claim/cut.py" t3]}
def hM(n q:Str)(i j:Nat)(m:Str)(t:Tok)(c:Addr):Obj:={cls:=.type "function",data:=.func {name:=n,qualname:=q,params:=hdA (hdI (top i) j),body:=.stmts (hdB (hdI (top i) j)),scope:=hdS (hdI (top i) j),globals:=3,closure:=[],defaults:=.none,kwdefaults:=.none,pyModule:=.str m t,code:=.ref c}}
def hC2(q n:Str)(t0 t1 t2:Tok)(a b c d e:Int)(r0:Value)(f:Int)(r1 r2 r3 r4 r5:Value)(g h:Int)(t3:Tok):Obj:={cls:=.type "code",data:=.fields #[.str n t0,.str q t1,.str "/claim/cut.py" t2,.int a 0,.int b 0,.int c 0,.int d 0,.int e 0,r0,.bool true,.int f 0,r1,r2,r3,r4,r5,.int g 0,.int h 0,.str "/claim/cut.py" t3]}
def hG(n:Str)(i:Nat):Obj:={cls:=.none,data:=.func {name:=n,qualname:=n,params:=hdA (top i),body:=.stmts (hdB (top i)),scope:=hdS (top i),globals:=0,closure:=[],defaults:=.none,kwdefaults:=.none}}
def hG2(n q:Str)(i j:Nat):Obj:={cls:=.none,data:=.func {name:=n,qualname:=q,params:=hdA (hdI (top i) j),body:=.stmts (hdB (hdI (top i) j)),scope:=hdS (hdI (top i) j),globals:=0,closure:=[],defaults:=.none,kwdefaults:=.none}}
def hq0:Obj:={cls:=.type "tuple",data:=.seq #[]}
def hq1:Obj:={cls:=.none,data:=.fields #[]}
def hq2(x1 x2 x3:Nat)(y0:Str):Obj:={cls:=.type "code",data:=.fields #[.str y0 x1,.str y0 (x1+1),.str "/claim/cut.py" (x1+2),.int (.ofNat x2) 0,.int 0 0,.int 0 0,.int 0 0,.int 0 0,.ref x3,.bool false,.int 181 0,.ref (x3+1),.none,.none,.none,.none,.int (.ofNat (x1+3)) 0,.int (.ofNat x2) 0,.str "/claim/cut.py" (x1+4)]}
def hq3(x0 x1 x3:Nat)(y2:Str):Obj:={cls:=.type "frame",slots:=#[some (.ref x0),some (.ref 3),some (.ref x1),none,some (.str y2 x3),none,some (.ref 0)]}
def hq4(x1:Nat)(y0:Str):Obj:={cls:=.type "tuple",data:=.seq #[.str y0 x1]}
def hq5(x1 x2 x3 x4 x5:Nat)(y0:Str):Obj:=hC y0 x1 (x1+1) (x1+2) (.ofNat x2) (.ofNat x3) 0 0 3 (.ref x4) 181 (.ref (x4+1)) .none (.ref (x4+2)) (.ref (x4+3)) (.ref (x4+4)) (.ofNat x5) (.ofNat x2) (x5+1)
def hq6:Obj:={cls:=.type "builtin_function_or_method",data:=.fields #[.builtin "type.__prepare__",.type "type"]}
def hq7(P:Params)(x0 x2 x3:Nat)(y1:Str):Obj:={cls:=.type "dict",data:=.dict #[hE P "__module__" x0 (.str "plusless.errors" 194),hE P "__qualname__" (x0+2) (.str y1 (x0+1)),hE P "__firstlineno__" (x0+4) (.int (.ofNat x2) (x0+3)),hE P "__static_attributes__" (x0+5) (.ref x3)] 4}
def hq8(x0:Nat):Obj:={cls:=.type "super",data:=.fields #[.ref x0,.ref x0,.ref x0]}
def hq9(x0:Nat):Obj:={cls:=.type "builtin_function_or_method",data:=.fields #[.builtin "object.__init_subclass__",.ref x0]}
def rS:Obj:={cls:=.type "tuple",data:=.seq #[.ref 31]}
def ub(P:Params)(x0 x1 x2:Nat):Obj:={cls:=.type "dict",data:=.dict #[hE P "__module__" x0 (.str "plusless.errors" 194),hE P "__firstlineno__" (x0+4) (.int (.ofNat x1) (x0+3)),hE P "__static_attributes__" (x0+5) (.ref x2),hE P "__doc__" (x0+6) .none] 2}
def rT(x1 x2 x3:Nat)(y0:Str):Obj:={cls:=.type "type",data:=.cls {name:=y0,bases:=[.ref 31],mro:=[.ref (x1+1),.ref 31,.type "ValueError",.type "Exception",.type "BaseException",.type "object"],ns:=x1,qualname:=y0},slots:=#[some (.ref x2),none,some (.str y0 x3),some (.str y0 (x3+8)),some (.builtin "ValueError.__new__"),some (.bool true)]}
def zp(x1:Nat)(y0 y2:Str):Obj:={cls:=.type "tuple",data:=.seq #[.str y0 x1,.str y2 (x1+1)]}
def rV(x2 x3 x4 x5 x6:Nat)(y0 y1:Str):Obj:=hC2 y0 y1 x2 (x2+1) (x2+2) (.ofNat x3) (.ofNat x4) 0 0 3 (.ref x5) 181 (.ref (x5+1)) .none (.ref (x5+2)) (.ref (x5+3)) (.ref (x5+4)) (.ofNat x6) (.ofNat x3) (x6+1)
def gG(x1 x2 x3 x4:Nat)(y0:Str):Obj:=hC y0 x1 (x1+1) (x1+2) (.ofNat x2) (.ofNat x3) 0 0 3 (.ref x4) 181 (.ref (x4+1)) .none .none .none (.ref (x4+2)) (.ofNat (x1+3)) (.ofNat x2) (x1+4)
def Ig:Obj:={cls:=.type "tuple",data:=.seq #[.int (-1) 444,.int 1 445]}
def Fy(x1:Nat)(y0 y2 y3 y4 y5 y6 y7:Str):Obj:={cls:=.type "tuple",data:=.seq #[.str y0 x1,.str "step" (x1+1),.str y2 (x1+2),.str y3 (x1+3),.str y4 (x1+4),.str y5 (x1+5),.str y6 (x1+6),.str y7 (x1+7)]}
def Ih(x0:Nat)(y1:Str):Obj:={cls:=.type "tuple",data:=.seq #[.str "row" x0,.str y1 (x0+1),.str "step" (x0+2)]}
def Ii(x1 x2:Nat)(y0:Str):Obj:={cls:=.type "type",data:=.cls {name:=y0,bases:=[.type "object"],mro:=[.ref (x1+1),.type "object"],ns:=x1,qualname:=y0},slots:=#[none,none,some (.str y0 x2),some (.str y0 (x2+8)),some (.builtin "object.__new__"),some (.bool true)]}
def hK:Params->Frag:=λP=>(nat_lit 2,{cls:=.none,data:=.dict #[]})::
 (nat_lit 3,{cls:=.type "dict",data:=.dict #[hE P "__name__" 165 (.str "law_plusless_k82_asks_at_a_desk" 900),hE P "__doc__" 166 .none,hE P "__package__" 167 .none,hE P "__loader__" 168 (.builtin "__main__.__loader__#opaque"),hE P "__spec__" 169 .none,hE P "__annotations__" 170 (.ref 6),hE P "__builtins__" 171 (.ref 4),hE P "__file__" 173 (.str "/claim/cut.py" 172),hE P "__cached__" 174 .none,hE P "_wall" 193 (.ref 21),hE P "PlusError" 213 (.ref 31),hE P "NoRow" 229 (.ref 44),hE P "NoNumber" 245 (.ref 56),hE P "NoSigns" 261 (.ref 68),hE P "TooMany" 277 (.ref 80),hE P "Lacking" 293 (.ref 92),hE P "Bare" 309 (.ref 104),hE P "NoTable" 325 (.ref 116),hE P "NoLine" 341 (.ref 128),hE P "NoText" 366 (.ref 147),hE P "LONGEST_ROW" 370 (.int 16 369),hE P "is_whole" 377 (.ref 156),hE P "are_whole" 383 (.ref 161),hE P "is_row" 389 (.ref 166),hE P "need_row" 396 (.ref 173),hE P "need_number" 403 (.ref 180),hE P "need_number_from" 411 (.ref 187),hE P "need_row_and_number" 419 (.ref 194),hE P "are_parts" 425 (.ref 199),hE P "need_parts" 433 (.ref 206),hE P "total" 440 (.ref 213),hE P "SIGNS" 446 (.ref 214),hE P "stepped" 460 (.ref 221),hE P "table_of" 470 (.ref 228),hE P "halves_of" 480 (.ref 235),hE P "half_worths" 486 (.ref 240),hE P "many_met" 492 (.ref 245),hE P "firsts_stepped" 506 (.ref 252),hE P "firsts_of" 515 (.ref 259),hE P "first_met" 521 (.ref 264),hE P "walk" 534 (.ref 271),hE P "below" 540 (.ref 276),hE P "above" 546 (.ref 281),hE P "unevenness" 555 (.ref 288),hE P "TIMES_BY_PARTS" 559 (.int 2 558),hE P "TIMES_BY_SIGNS" 561 (.int 1 560),hE P "ahead_of_too_great" 571 (.ref 295),hE P "every_by_parts" 578 (.ref 302),hE P "every_by_signs" 585 (.ref 309),hE P "swings_stepped" 601 (.ref 316),hE P "least_swing" 610 (.ref 323),hE P "Keeper" 707 (.ref 401),hE P "MARK_OF" 720 (.ref 406),hE P "FIGURES" 722 (.str "0123456789" 721),hE P "PIECE" 724 (.int 60 723),hE P "figures_of" 733 (.ref 413),hE P "show" 739 (.ref 418),hE P "MOST_FIGURES" 743 (.int 30 742),hE P "row_text" 749 (.ref 423),hE P "total_text" 756 (.ref 430),hE P "even_text" 763 (.ref 437),hE P "swing_text" 770 (.ref 444),hE P "every_text" 777 (.ref 451),hE P "comes_text" 785 (.ref 458),hE P "ways_text" 793 (.ref 465),hE P "signs_text" 802 (.ref 472),hE P "number_or_none" 809 (.ref 479),hE P "near_text" 817 (.ref 486),hE P "CHANGED_ALONE" 820 (.ref 487),hE P "ASKED_ALONE" 831 (.ref 488),hE P "ASKED_OF_A_NUMBER" 840 (.ref 489),hE P "is_number_word" 846 (.ref 494),hE P "is_line" 853 (.ref 501),hE P "words_of_line" 861 (.ref 508),hE P "Desk" 899 (.ref 532),hE P "_law_box" 913 (.ref 543),hE P "_law_take" 923 (.ref 550),hE P "_law_row" 937 (.ref 557),hE P "_law_number" 948 (.ref 564),hE P "_law_classes" 956 (.ref 571),hE P "_law_only" 962 (.ref 576),hE P "_law_said" 968 (.ref 581),hE P "_law_dues" 974 (.ref 586),hE P "law" 980 (.ref 591)] 84})::
 (nat_lit 155,hq5 371 29 1 150 375 "is_whole")::
 (nat_lit 156,hF "is_whole" 14 "plusless.rows" 367 155)::
 (nat_lit 160,gG 378 31 2 157 "are_whole")::
 (nat_lit 161,hF "are_whole" 15 "plusless.rows" 367 160)::
 (nat_lit 165,gG 384 33 1 162 "is_row")::
 (nat_lit 166,hF "is_row" 16 "plusless.rows" 367 165)::
 (nat_lit 172,hq5 390 37 1 167 394 "need_row")::
 (nat_lit 173,hF "need_row" 17 "plusless.rows" 367 172)::
 (nat_lit 179,hq5 397 40 1 174 401 "need_number")::
 (nat_lit 180,hF "need_number" 18 "plusless.rows" 367 179)::
 (nat_lit 186,hq5 404 43 2 181 409 "need_number_from")::
 (nat_lit 187,hF "need_number_from" 19 "plusless.rows" 367 186)::
 (nat_lit 193,hq5 412 47 2 188 417 "need_row_and_number")::
 (nat_lit 194,hF "need_row_and_number" 20 "plusless.rows" 367 193)::
 (nat_lit 198,gG 420 50 2 195 "are_parts")::
 (nat_lit 199,hF "are_parts" 21 "plusless.rows" 367 198)::
 (nat_lit 205,hq5 426 53 2 200 431 "need_parts")::
 (nat_lit 206,hF "need_parts" 22 "plusless.rows" 367 205)::
 (nat_lit 214,Ig)::
 (nat_lit 220,hq5 447 61 3 215 458 "stepped")::
 (nat_lit 221,hF "stepped" 26 "plusless.tables" 441 220)::
 (nat_lit 227,hq5 461 68 2 222 468 "table_of")::
 (nat_lit 228,hF "table_of" 27 "plusless.tables" 441 227)::
 (nat_lit 234,hq5 473 74 1 229 478 "halves_of")::
 (nat_lit 235,hF "halves_of" 29 "plusless.halves" 471 234)::
 (nat_lit 239,gG 481 77 1 236 "half_worths")::
 (nat_lit 240,hF "half_worths" 30 "plusless.halves" 471 239)::
 (nat_lit 244,gG 487 80 2 241 "many_met")::
 (nat_lit 245,hF "many_met" 31 "plusless.halves" 471 244)::
 (nat_lit 251,hq5 493 84 2 246 504 "firsts_stepped")::
 (nat_lit 252,hF "firsts_stepped" 32 "plusless.halves" 471 251)::
 (nat_lit 258,hq5 507 92 1 253 513 "firsts_of")::
 (nat_lit 259,hF "firsts_of" 33 "plusless.halves" 471 258)::
 (nat_lit 263,gG 516 97 2 260 "first_met")::
 (nat_lit 264,hF "first_met" 34 "plusless.halves" 471 263)::
 (nat_lit 270,hq5 522 102 2 265 532 "walk")::
 (nat_lit 271,hF "walk" 35 "plusless.halves" 471 270)::
 (nat_lit 275,gG 535 115 2 272 "below")::
 (nat_lit 276,hF "below" 36 "plusless.halves" 471 275)::
 (nat_lit 280,gG 541 118 2 277 "above")::
 (nat_lit 281,hF "above" 37 "plusless.halves" 471 280)::
 (nat_lit 287,hq5 549 122 1 282 553 "unevenness")::
 (nat_lit 288,hF "unevenness" 39 "plusless.evenness" 547 287)::
 (nat_lit 294,hq5 562 127 2 289 569 "ahead_of_too_great")::
 (nat_lit 295,hF "ahead_of_too_great" 43 "plusless.every" 556 294)::
 (nat_lit 301,hq5 572 134 1 296 576 "every_by_parts")::
 (nat_lit 302,hF "every_by_parts" 44 "plusless.every" 556 301)::
 (nat_lit 308,hq5 579 137 1 303 583 "every_by_signs")::
 (nat_lit 309,hF "every_by_signs" 45 "plusless.every" 556 308)::
 (nat_lit 315,hq5 588 141 2 310 599 "swings_stepped")::
 (nat_lit 316,hF "swings_stepped" 47 "plusless.inturn" 586 315)::
 (nat_lit 322,hq5 602 149 1 317 608 "least_swing")::
 (nat_lit 323,hF "least_swing" 48 "plusless.inturn" 586 322)::
 (nat_lit 336,rV 625 158 1 331 629 "Keeper.__init__" "__init__")::
 (nat_lit 337,hM "__init__" "Keeper.__init__" 50 0 "plusless.keeper" 611 336)::
 (nat_lit 343,rV 632 162 2 338 637 "Keeper.change" "change")::
 (nat_lit 344,hM "change" "Keeper.change" 50 1 "plusless.keeper" 611 343)::
 (nat_lit 350,rV 640 167 2 345 645 "Keeper.put" "put")::
 (nat_lit 351,hM "put" "Keeper.put" 50 2 "plusless.keeper" 611 350)::
 (nat_lit 357,rV 648 173 1 352 652 "Keeper.take" "take")::
 (nat_lit 358,hM "take" "Keeper.take" 50 3 "plusless.keeper" 611 357)::
 (nat_lit 364,rV 655 178 1 359 659 "Keeper.back" "back")::
 (nat_lit 365,hM "back" "Keeper.back" 50 4 "plusless.keeper" 611 364)::
 (nat_lit 371,rV 662 184 1 366 666 "Keeper.row" "row")::
 (nat_lit 372,hM "row" "Keeper.row" 50 5 "plusless.keeper" 611 371)::
 (nat_lit 400,{cls:=.type "dict",data:=.dict #[hE P "__module__" 620 (.str "plusless.keeper" 611),hE P "__firstlineno__" 624 (.int 156 623),hE P "__init__" 631 (.ref 337),hE P "change" 639 (.ref 344),hE P "put" 647 (.ref 351),hE P "take" 654 (.ref 358),hE P "back" 661 (.ref 365),hE P "row" 668 (.ref 372),hE P "worths_many" 675 (.ref 379),hE P "ways" 683 (.ref 386),hE P "first" 691 (.ref 393),hE P "times" 697 (.ref 398),hE P "__static_attributes__" 700 (.ref 399),hE P "__dict__" 702 (.ref 402),hE P "__weakref__" 704 (.ref 403),hE P "__doc__" 705 .none] 4})::
 (nat_lit 401,Ii 400 613 "Keeper")::
 (nat_lit 406,{cls:=.type "dict",data:=.dict #[{hash:=1,key:=.int 1 710,val:=.str "+" 711},{hash:=0,key:=.int 0 712,val:=.str "." 713},{hash:=-2,key:=.int (-1) 715,val:=.str "-" 716}] 3})::
 (nat_lit 412,hq5 725 202 1 407 731 "figures_of")::
 (nat_lit 413,hF "figures_of" 55 "plusless.texts" 708 412)::
 (nat_lit 417,gG 734 209 2 414 "show")::
 (nat_lit 418,hF "show" 56 "plusless.texts" 708 417)::
 (nat_lit 422,gG 744 214 1 419 "row_text")::
 (nat_lit 423,hF "row_text" 59 "plusless.desk" 740 422)::
 (nat_lit 436,hq5 757 218 1 431 761 "even_text")::
 (nat_lit 437,hF "even_text" 61 "plusless.desk" 740 436)::
 (nat_lit 443,hq5 764 220 1 438 768 "swing_text")::
 (nat_lit 444,hF "swing_text" 62 "plusless.desk" 740 443)::
 (nat_lit 450,hq5 771 222 1 445 775 "every_text")::
 (nat_lit 451,hF "every_text" 63 "plusless.desk" 740 450)::
 (nat_lit 457,hq5 778 226 2 452 783 "comes_text")::
 (nat_lit 458,hF "comes_text" 64 "plusless.desk" 740 457)::
 (nat_lit 464,hq5 786 228 2 459 791 "ways_text")::
 (nat_lit 465,hF "ways_text" 65 "plusless.desk" 740 464)::
 (nat_lit 471,hq5 794 230 2 466 800 "signs_text")::
 (nat_lit 472,hF "signs_text" 66 "plusless.desk" 740 471)::
 (nat_lit 478,hq5 803 233 1 473 807 "number_or_none")::
 (nat_lit 479,hF "number_or_none" 67 "plusless.desk" 740 478)::
 (nat_lit 485,hq5 810 235 2 480 815 "near_text")::
 (nat_lit 486,hF "near_text" 68 "plusless.desk" 740 485)::
 (nat_lit 487,zp 818 "take" "back")::
 (nat_lit 488,{cls:=.type "dict",data:=.dict #[hE P "row" 821 (.ref 423),hE P "total" 822 (.ref 430),hE P "even" 823 (.ref 437),hE P "swing" 824 (.ref 444),hE P "every" 825 (.ref 451)] 5})::
 (nat_lit 489,{cls:=.type "dict",data:=.dict #[hE P "comes" 832 (.ref 458),hE P "ways" 833 (.ref 465),hE P "signs" 834 (.ref 472),hE P "near" 835 (.ref 486)] 4})::
 (nat_lit 493,gG 841 240 1 490 "is_number_word")::
 (nat_lit 494,hF "is_number_word" 72 "plusless.desk" 740 493)::
 (nat_lit 500,hq5 847 245 1 495 851 "is_line")::
 (nat_lit 501,hF "is_line" 73 "plusless.desk" 740 500)::
 (nat_lit 507,hq5 854 253 1 502 859 "words_of_line")::
 (nat_lit 508,hF "words_of_line" 74 "plusless.desk" 740 507)::
 (nat_lit 521,rV 874 262 1 516 878 "Desk.__init__" "__init__")::
 (nat_lit 522,hM "__init__" "Desk.__init__" 75 0 "plusless.desk" 740 521)::
 (nat_lit 528,rV 881 265 2 523 888 "Desk.say" "say")::
 (nat_lit 529,hM "say" "Desk.say" 75 1 "plusless.desk" 740 528)::
 (nat_lit 531,{cls:=.type "dict",data:=.dict #[hE P "__module__" 869 (.str "plusless.desk" 740),hE P "__firstlineno__" 873 (.int 260 872),hE P "__init__" 880 (.ref 522),hE P "say" 890 (.ref 529),hE P "__static_attributes__" 892 (.ref 530),hE P "__dict__" 894 (.ref 533),hE P "__weakref__" 896 (.ref 534),hE P "__doc__" 897 .none] 4})::
 (nat_lit 532,Ii 531 862 "Desk")::
 (nat_lit 542,hq5 902 278 2 537 911 "_law_box")::
 (nat_lit 543,hF "_law_box" 77 "law_plusless_k82_asks_at_a_desk" 900 542)::
 (nat_lit 549,hq5 914 290 2 544 921 "_law_take")::
 (nat_lit 550,hF "_law_take" 78 "law_plusless_k82_asks_at_a_desk" 900 549)::
 (nat_lit 556,hq5 924 294 2 551 935 "_law_row")::
 (nat_lit 557,hF "_law_row" 79 "law_plusless_k82_asks_at_a_desk" 900 556)::
 (nat_lit 563,hq5 938 303 2 558 946 "_law_number")::
 (nat_lit 564,hF "_law_number" 80 "law_plusless_k82_asks_at_a_desk" 900 563)::
 (nat_lit 580,gG 963 316 2 577 "_law_said")::
 (nat_lit 581,hF "_law_said" 83 "law_plusless_k82_asks_at_a_desk" 900 580)::
 (nat_lit 585,gG 969 321 2 582 "_law_dues")::
 (nat_lit 586,hF "_law_dues" 84 "law_plusless_k82_asks_at_a_desk" 900 585)::
 (nat_lit 590,gG 975 334 1 587 "law")::
 (nat_lit 591,hF "law" 85 "law_plusless_k82_asks_at_a_desk" 900 590)::[]
def hA:List Addr:=[2,3,155,156,160,161,165,166,172,173,179,180,186,187,193,194,198,199,205,206,214,220,221,227,228,234,235,239,240,244,245,251,252,258,259,263,264,270,271,275,276,280,281,287,288,294,295,301,302,308,309,315,316,322,323,336,337,343,344,350,351,357,358,364,365,371,372,400,401,406,412,413,417,418,422,423,436,437,443,444,450,451,457,458,464,465,471,472,478,479,485,486,487,488,489,493,494,500,501,507,508,521,522,528,529,531,532,542,543,549,550,556,557,563,564,580,581,585,586,590,591]
def hV:Program:={PySem.Challenge.pw_plusless_k82_asks_at_a_desk with main:={PySem.Challenge.pw_plusless_k82_asks_at_a_desk.main with body:=[top 0,top 2,top 3,top 4,top 5,top 6,top 7,top 8,top 9,top 10,top 11,top 13,top 14,top 15,top 16,top 17,top 18,top 19,top 20,top 21,top 22,top 23,top 25,top 26,top 27,top 29,top 30,top 31,top 32,top 33,top 34,top 35,top 36,top 37,top 39,top 41,top 42,top 43,top 44,top 45,top 47,top 48,top 50,top 52,top 53,top 54,top 55,top 56,top 58,top 59,top 60,top 61,top 62,top 63,top 64,top 65,top 66,top 67,top 68,top 69,top 70,top 71,top 72,top 73,top 74,top 75,top 77,top 78,top 79,top 80,top 81,top 82,top 83,top 84,top 85]}}
def hKA(P:Params):hA=(hK P).map (·.1):=by kernel_rfl
abbrev hX(s:Shared):Bool:=xlAt hV [] s&&recOk (RowW.records PySem.Challenge.rw_plusless_k82_asks_at_a_desk.row.toRowW) s
def hN:=@BT.node
def hz:=BT.nil
def hL(o:Obj):=BT.node o .nil .nil
def q2(P:Params):Obj:=hq2 182 1 11 "<module>"
def q3(P:Params):Obj:=hq3 13 3 164 "__main__"
def t0T(P:Params):BT:=(hN (boot_o_0 P) (hN (boot_o_1 P) (hN (boot_o_3 P) (hL (boot_o_7 P)) (hL hq0)) (hN (boot_o_5 P) (hL (boot_o_9 P)) (hL (q2 P)))) (hN (boot_o_2 P) (hN (boot_o_4 P) (hL (boot_o_8 P)) (hL hq1)) (hN (boot_o_6 P) (hL (boot_o_10 P)) (hL (q3 P)))))
def t1T(P:Params):BT:=(hN (boot_o_0 P) (hN (boot_o_1 P) (hN {cls:=.type "dict",data:=.dict #[hE P "__name__" 165 (.str "plusless.keeper" 611),hE P "__doc__" 166 .none,hE P "__package__" 167 .none,hE P "__loader__" 168 (.builtin "__main__.__loader__#opaque"),hE P "__spec__" 169 .none,hE P "__annotations__" 170 (.ref 6),hE P "__builtins__" 171 (.ref 4),hE P "__file__" 173 (.str "/claim/cut.py" 172),hE P "__cached__" 174 .none,hE P "_wall" 193 (.ref 21),hE P "PlusError" 213 (.ref 31),hE P "NoRow" 229 (.ref 44),hE P "NoNumber" 245 (.ref 56),hE P "NoSigns" 261 (.ref 68),hE P "TooMany" 277 (.ref 80),hE P "Lacking" 293 (.ref 92),hE P "Bare" 309 (.ref 104),hE P "NoTable" 325 (.ref 116),hE P "NoLine" 341 (.ref 128),hE P "NoText" 366 (.ref 147),hE P "LONGEST_ROW" 370 (.int 16 369),hE P "is_whole" 377 (.ref 156),hE P "are_whole" 383 (.ref 161),hE P "is_row" 389 (.ref 166),hE P "need_row" 396 (.ref 173),hE P "need_number" 403 (.ref 180),hE P "need_number_from" 411 (.ref 187),hE P "need_row_and_number" 419 (.ref 194),hE P "are_parts" 425 (.ref 199),hE P "need_parts" 433 (.ref 206),hE P "total" 440 (.ref 213),hE P "SIGNS" 446 (.ref 214),hE P "stepped" 460 (.ref 221),hE P "table_of" 470 (.ref 228),hE P "halves_of" 480 (.ref 235),hE P "half_worths" 486 (.ref 240),hE P "many_met" 492 (.ref 245),hE P "firsts_stepped" 506 (.ref 252),hE P "firsts_of" 515 (.ref 259),hE P "first_met" 521 (.ref 264),hE P "walk" 534 (.ref 271),hE P "below" 540 (.ref 276),hE P "above" 546 (.ref 281),hE P "unevenness" 555 (.ref 288),hE P "TIMES_BY_PARTS" 559 (.int 2 558),hE P "TIMES_BY_SIGNS" 561 (.int 1 560),hE P "ahead_of_too_great" 571 (.ref 295),hE P "every_by_parts" 578 (.ref 302),hE P "every_by_signs" 585 (.ref 309),hE P "swings_stepped" 601 (.ref 316),hE P "least_swing" 610 (.ref 323)] 51} (hN (boot_o_7 P) (hN hq0 (hN {cls:=.type "type",data:=.cls {name:="PlusError",bases:=[.type "ValueError"],mro:=[.ref 31,.type "ValueError",.type "Exception",.type "BaseException",.type "object"],ns:=30,qualname:="PlusError",subclasses:=[.ref 44,.ref 56,.ref 68,.ref 80,.ref 92,.ref 104,.ref 116,.ref 128,.ref 147]},slots:=#[some (.ref 22),none,some (.str "PlusError" 196),some (.str "PlusError" 204),some (.builtin "ValueError.__new__"),some (.bool true)]} (hN hq1 (hN (ub P 333 21 126) (hL (Ih 510 "firsts")) hz) (hN hq0 (hL (Ih 605 "swings")) hz)) (hN rS (hN (hG "are_whole" 15) (hL (hq5 549 122 1 282 553 "unevenness")) hz) (hL hq1))) (hN rS (hN (ub P 269 13 78) (hN (rV 354 25 2 138 359 "NoText.__init__" "__init__") (hL (hF "walk" 35 "plusless.halves" 471 270)) hz) (hL hq0)) (hN hq1 (hN hq1 (hL hq0) hz) (hL (gG 481 77 1 236 "half_worths"))))) (hN hq6 (hN hq1 (hN rS (hN {cls:=.none,data:=.fields #[.int 25 0,.int 4 0,.ref 143]} (hL (gG 516 97 2 260 "first_met")) hz) (hL (hF "are_parts" 21 "plusless.rows" 367 198))) (hN (ub P 301 17 102) (hN hq0 (hL (hF "ahead_of_too_great" 43 "plusless.every" 556 294)) hz) (hL (zp 476 "row" "middle")))) (hN (ub P 237 9 54) (hN hq1 (hN hq1 (hL (hG "above" 37)) hz) (hL hq0)) (hN rS (hN (zp 407 "least" "thing") (hL hq1) hz) (hL hq1))))) (hN hq0 (hN (hG "_wall" 0) (hN rS (hN (ub P 253 11 66) (hN rS (hL (hF "firsts_of" 33 "plusless.halves" 471 258)) hz) (hN hq0 (hL (hF "least_swing" 48 "plusless.inturn" 586 322)) hz)) (hN hq1 (hN hq1 (hL {cls:=.type "tuple",data:=.seq #[.str "row" 565,.str "times" 566,.str "ahead" 567,.str "number" 568]}) hz) (hL (hq5 461 68 2 222 468 "table_of")))) (hN hq1 (hN rS (hN (rT 146 131 342 "NoText") (hL (gG 535 115 2 272 "below")) hz) (hL (hG "total" 23))) (hN (ub P 317 19 114) (hN (hq5 397 40 1 174 401 "need_number") (hL (hG "every_by_signs" 45)) hz) (hL (hG "many_met" 31))))) (hN (hq2 198 5 25 "PlusError") (hN (ub P 221 7 42) (hN hq1 (hN hq1 (hL {cls:=.type "tuple",data:=.seq #[.str "row" 525,.str "number" 526,.str "worths" 527,.str "walked" 528,.str "i" 529,.str "j" 530,.str "both" 531]}) hz) (hL hq0)) (hN rS (hN (hG "need_row" 17) (hL hq0) hz) (hL (hF "halves_of" 29 "plusless.halves" 471 234)))) (hN rS (hN (ub P 285 15 90) (hN (hq5 371 29 1 150 375 "is_whole") (hL hq1) hz) (hL (hG "stepped" 26))) (hN hq1 (hN (hF "need_number_from" 19 "plusless.rows" 367 186) (hL (hq5 588 141 2 310 599 "swings_stepped")) hz) (hL (hq5 493 84 2 246 504 "firsts_stepped"))))))) (hN (boot_o_5 P) (hN (boot_o_9 P) (hN (hq4 190 "k") (hN (hq8 31) (hN (hq3 64 61 194 "plusless.errors") (hN (hq8 128) (hL (hG "firsts_of" 33)) hz) (hN (hq5 412 47 2 188 417 "need_row_and_number") (hL (hG "least_swing" 48)) hz)) (hN (hq7 P 301 17 102 "Bare") (hN (hF "are_whole" 15 "plusless.rows" 367 160) (hL hq0) hz) (hL hq0))) (hN (hq7 P 237 9 54 "NoNumber") (hN (hq8 80) (hN (hq4 362 "at") (hL hq1) hz) (hL (hq4 437 "row"))) (hN (hq3 112 109 194 "plusless.errors") (hN hq0 (hL (hq4 582 "row")) hz) (hL hq0)))) (hN hq0 (hN (hq3 40 37 194 "plusless.errors") (hN (hq7 P 269 13 78 "TooMany") (hN (hq3 136 133 194 "plusless.errors") (hL hq0) hz) (hL hq1)) (hN (hq8 104) (hN (hq4 393 "thing") (hL hq1) hz) (hL (hG "halves_of" 29)))) (hN (hq8 56) (hN (hq3 88 85 194 "plusless.errors") (hN hq0 (hL (hF "above" 37 "plusless.halves" 471 280)) hz) (hL (Fy 450 "table" "choices" "wider" "reached" "ways" "choice" "there"))) (hN (hq7 P 333 21 126 "NoLine") (hN (hG "need_number_from" 19) (hL hq0) hz) (hL hq0))))) (hN (q2 P) (hN (hF "_wall" 0 "__main__" 164 20) (hN (hq7 P 221 7 42 "NoRow") (hN (hq8 68) (hN {cls:=.type "dict",data:=.dict #[hE P "__module__" 349 (.str "plusless.errors" 194),hE P "__qualname__" 351 (.str "NoText" 350),hE P "__firstlineno__" 353 (.int 23 352),hE P "__init__" 361 (.ref 144),hE P "__static_attributes__" 363 (.ref 145)] 5} (hL hq1) hz) (hL (hG "are_parts" 21))) (hN (hq3 100 97 194 "plusless.errors") (hN (gG 384 33 1 162 "is_row") (hL (hG "ahead_of_too_great" 43)) hz) (hL hq0))) (hN (hq3 52 49 194 "plusless.errors") (hN (hq7 P 285 15 90 "Lacking") (hN (hq9 147) (hL hq0) hz) (hL (hF "total" 23 "plusless.rows" 367 212))) (hN (hq8 116) (hN hq0 (hL (hF "every_by_signs" 45 "plusless.every" 556 308)) hz) (hL (hF "many_met" 31 "plusless.halves" 471 244))))) (hN hq0 (hN (hq8 44) (hN (hq3 76 73 194 "plusless.errors") (hN hq0 (hL (hG "walk" 35)) hz) (hL (hq5 426 53 2 200 431 "need_parts"))) (hN (hq7 P 317 19 114 "NoTable") (hN (hF "need_row" 17 "plusless.rows" 367 172) (hL (hq5 572 134 1 296 576 "every_by_parts")) hz) (hL hq1))) (hN (hq7 P 253 11 66 "NoSigns") (hN (hq8 92) (hN hq0 (hL hq0) hz) (hL (hF "stepped" 26 "plusless.tables" 441 220))) (hN (hq3 124 121 194 "plusless.errors") (hN hq1 (hL hq0) hz) (hL hq0))))))) (hN (boot_o_2 P) (hN (boot_o_4 P) (hN (boot_o_8 P) (hN hq1 (hN {cls:=.type "getset_descriptor",data:=.fields #[.str "__weakref__" 209,.ref 31,.builtin "ExceptionGroup.__weakref__",.none]} (hN (hq2 248 11 62 "NoSigns") (hN (rT 127 119 326 "NoLine") (hL hq0) hz) (hN (hG "need_row_and_number" 20) (hL hq0) hz)) (hN hq6 (hN (gG 378 31 2 157 "are_whole") (hL (hF "unevenness" 39 "plusless.evenness" 547 287)) hz) (hL {cls:=.type "tuple",data:=.seq #[.str "row" 464,.str "choices" 465,.str "table" 466,.str "step" 467]}))) (hN hq6 (hN (rT 79 71 262 "TooMany") (hN (hM "__init__" "NoText.__init__" 11 0 "plusless.errors" 194 143) (hL hq0) hz) (hL hq1)) (hN (hq2 312 19 110 "NoTable") (hN (hq4 400 "thing") (hL hq1) hz) (hL (hF "half_worths" 30 "plusless.halves" 471 239))))) (hN (hq7 P 203 5 29 "PlusError") (hN (hq2 216 7 38 "NoRow") (hN hq6 (hN (hq2 344 23 134 "NoText") (hL (hF "first_met" 34 "plusless.halves" 471 263)) hz) (hL hq0)) (hN (rT 103 95 294 "Bare") (hN hq1 (hL hq0) hz) (hL hq0))) (hN (rT 55 47 230 "NoNumber") (hN (hq2 280 15 86 "Lacking") (hN (hq4 374 "thing") (hL (gG 541 118 2 277 "above")) hz) (hL hq1)) (hN hq6 (hN hq0 (hL (Fy 591 "swings" "longer" "reached" "swung" "sign" "there" "further")) hz) (hL (Fy 496 "firsts" "longer" "reached" "signs" "sign" "there" "chosen")))))) (hN {cls:=.none,data:=.fields #[.int 1 0,.int 0 0,.ref 20,.int 5 0,.int 0 0,.ref 27,.int 7 0,.int 0 0,.ref 40,.int 9 0,.int 0 0,.ref 52,.int 11 0,.int 0 0,.ref 64,.int 13 0,.int 0 0,.ref 76,.int 15 0,.int 0 0,.ref 88,.int 17 0,.int 0 0,.ref 100,.int 19 0,.int 0 0,.ref 112,.int 21 0,.int 0 0,.ref 124,.int 23 0,.int 0 0,.ref 136,.int 29 0,.int 0 0,.ref 155,.int 31 0,.int 0 0,.ref 160,.int 33 0,.int 0 0,.ref 165,.int 37 0,.int 0 0,.ref 172,.int 40 0,.int 0 0,.ref 179,.int 43 0,.int 0 0,.ref 186,.int 47 0,.int 0 0,.ref 193,.int 50 0,.int 0 0,.ref 198,.int 53 0,.int 0 0,.ref 205,.int 56 0,.int 0 0,.ref 212,.int 61 0,.int 0 0,.ref 220,.int 68 0,.int 0 0,.ref 227,.int 74 0,.int 0 0,.ref 234,.int 77 0,.int 0 0,.ref 239,.int 80 0,.int 0 0,.ref 244,.int 84 0,.int 0 0,.ref 251,.int 92 0,.int 0 0,.ref 258,.int 97 0,.int 0 0,.ref 263,.int 102 0,.int 0 0,.ref 270,.int 115 0,.int 0 0,.ref 275,.int 118 0,.int 0 0,.ref 280,.int 122 0,.int 0 0,.ref 287,.int 127 0,.int 0 0,.ref 294,.int 134 0,.int 0 0,.ref 301,.int 137 0,.int 0 0,.ref 308,.int 141 0,.int 0 0,.ref 315,.int 149 0,.int 0 0,.ref 322]} (hN (hq5 187 1 1 15 191 "_wall") (hN hq6 (hN (rT 67 59 246 "NoSigns") (hN hq6 (hL hq0) hz) (hL hq1)) (hN (hq2 296 17 98 "Bare") (hN (hG "is_row" 16) (hL hq0) hz) (hL (hF "table_of" 27 "plusless.tables" 441 227)))) (hN (hq2 232 9 50 "NoNumber") (hN hq6 (hN (hq8 147) (hL (hF "below" 36 "plusless.halves" 471 275)) hz) (hL (hq5 434 56 1 207 438 "total"))) (hN (rT 115 107 310 "NoTable") (hN (hF "need_number" 18 "plusless.rows" 367 179) (hL (hq5 579 137 1 303 583 "every_by_signs")) hz) (hL (gG 487 80 2 241 "many_met"))))) (hN (hq3 27 24 194 "plusless.errors") (hN (rT 43 35 214 "NoRow") (hN (hq2 264 13 74 "TooMany") (hN (zp 357 "self" "at") (hL hq0) hz) (hL (hG "need_parts" 22))) (hN hq6 (hN (hq5 390 37 1 167 394 "need_row") (hL (hG "every_by_parts" 44)) hz) (hL hq0))) (hN hq6 (hN (rT 91 83 278 "Lacking") (hN (hF "is_whole" 14 "plusless.rows" 367 155) (hL (hq4 552 "row")) hz) (hL (hq5 447 61 3 215 458 "stepped"))) (hN (hq2 328 21 122 "NoLine") (hN hq0 (hL (hF "swings_stepped" 47 "plusless.inturn" 586 315)) hz) (hL (hF "firsts_stepped" 32 "plusless.halves" 471 251))))))) (hN (boot_o_6 P) (hN (boot_o_10 P) (hN hq0 (hN (hq9 31) (hN hq0 (hN (hq9 128) (hL (hq5 507 92 1 253 513 "firsts_of")) hz) (hN (hF "need_row_and_number" 20 "plusless.rows" 367 193) (hL (hq5 602 149 1 317 608 "least_swing")) hz)) (hN hq0 (hN hq0 (hL hq1) hz) (hL (hG "table_of" 27)))) (hN hq0 (hN (hq9 80) (hN {cls:=.type "dict",data:=.dict #[hE P "__module__" 349 (.str "plusless.errors" 194),hE P "__firstlineno__" 353 (.int 23 352),hE P "__init__" 361 (.ref 144),hE P "__static_attributes__" 363 (.ref 145),hE P "__doc__" 364 .none] 2} (hL (hG "below" 36)) hz) (hL hq0)) (hN hq0 (hN (hG "need_number" 18) (hL hq0) hz) (hL hq1)))) (hN hq1 (hN hq0 (hN hq0 (hN hq0 (hL hq1) hz) (hL (zp 429 "row" "thing"))) (hN (hq9 104) (hN hq0 (hL (hq4 575 "row")) hz) (hL (hq5 473 74 1 229 478 "halves_of")))) (hN (hq9 56) (hN hq0 (hN (hG "is_whole" 14) (hL hq0) hz) (hL hq0)) (hN hq0 (hN (hq5 404 43 2 181 409 "need_number_from") (hL (hG "swings_stepped" 47)) hz) (hL (hG "firsts_stepped" 32)))))) (hN (q3 P) (hN {cls:=.type "tuple",data:=.seq #[.type "ValueError"]} (hN hq0 (hN (hq9 68) (hN hq0 (hL (hG "first_met" 34)) hz) (hL (gG 420 50 2 195 "are_parts"))) (hN hq0 (hN (hF "is_row" 16 "plusless.rows" 367 165) (hL (hq5 562 127 2 289 569 "ahead_of_too_great")) hz) (hL hq1))) (hN hq0 (hN hq0 (hN hq0 (hL hq1) hz) (hL Ig)) (hN (hq9 116) (hN hq1 (hL hq0) hz) (hL hq0)))) (hN {cls:=.type "dict",data:=.dict #[hE P "__module__" 203 (.str "plusless.errors" 194),hE P "__firstlineno__" 207 (.int 5 206),hE P "__static_attributes__" 208 (.ref 29),hE P "__weakref__" 210 (.ref 32),hE P "__doc__" 211 .none] 3} (hN (hq9 44) (hN hq0 (hN (hG2 "__init__" "NoText.__init__" 11 0) (hL (hq5 522 102 2 265 532 "walk")) hz) (hL (hF "need_parts" 22 "plusless.rows" 367 205))) (hN hq0 (hN hq0 (hL (hF "every_by_parts" 44 "plusless.every" 556 301)) hz) (hL (hG "half_worths" 30)))) (hN hq0 (hN (hq9 92) (hN hq1 (hL (hG "unevenness" 39)) hz) (hL hq0)) (hN hq0 (hN (zp 415 "row" "number") (hL hq1) hz) (hL hq1))))))))
abbrev hp:Program:=PySem.Challenge.rw_plusless_k82_asks_at_a_desk.row.prog
def wC:Env:={scope:=hp.main.scope,locals:=mainNs,globals:=mainNs,cells:=[],code:=.ref 13,frame:=some 14}
def hB:List Stmt:=behindTheImports hp
def hCd:Code:=Code.body hB wC
def hp0:Pos:=⟨0,0,0,0⟩
def hsT(t:BT)(n k:Nat)(os:OsState):SharedT:={tree:=t,n:=n,life:={},gens:=#[],drawn:={},toks:=k,os:=os}
set_option maxHeartbeats 0 in
def htg(w:World)(os:OsState):topGo treeTable hp w 11 (some (.ref 6)) 12 {heap:=boot_heap w.params,gens:=#[],drawn:=boot_drawn,toks:=boot_toks,os:=os} (topStub hp)=some ((hsT (t0T w.params) 15 187 os).abs,{cur:=denote treeTable (Code.body hB wC),code:=hCd,pos:=hp0,stack:=[topFrame hp0]}):=by kernel_rfl
set_option maxHeartbeats 0 in
def htb(w:World)(os:OsState):segRun treeTable hp w 11 (some (.ref 6)) 1 1 (hsT (t0T w.params) 15 187 os).abs (blockOf hB wC hCd hp0 [topFrame hp0])=some (Flow.next,(hsT (t0T w.params) 15 187 os).abs,hCd,hp0):=by kernel_rfl
abbrev hs(s:Shared):=openSeen hV ["MARK_OF","ASKED_ALONE","ASKED_OF_A_NUMBER"] (importedModules hp.main.body) hX true s
abbrev hg:=openGood hV ["MARK_OF","ASKED_ALONE","ASKED_OF_A_NUMBER"]
def hla(w:World)(s:Shared):=(staticsOk (importedModules hp.main.body) (boot_heap w.params) s.heap&&namesBound hp s.heap&&gensDone s&&laidKept (boot_heap w.params) s.heap,Hook.obs (kHook hK hA hKA) s,(hs s).1)
def hlb(w:World)(s:Shared):=((hs s).2.1,(hs s).2.2.1)
def hlc(w:World)(s:Shared):=(hs s).2.2.2
set_option maxHeartbeats 0 in
def pc0(w:World)(os:OsState):segRunT treeTable hp w 11 (some (.ref 6)) 1 7300 (hsT (t0T w.params) 15 187 os) (piecesOf ((hB.drop 0).take 50) wC hCd hp0 [topFrame hp0])=some (Flow.next,hsT (t1T w.params) 324 613 os,hCd,⟨155,0,155,8⟩):=by kernel_rfl
def hr(w:World)(os:OsState):=segRunT treeTable hp w 11 (some (.ref 6)) 1 3100 (hsT (t1T w.params) 324 613 os) (piecesOf ((hB.drop 50).take 36) wC hCd ⟨155,0,155,8⟩ [topFrame hp0])
def hSa(w:World):Prop:=∀os,Option.map (λx=>(x.1,x.2.2.1,x.2.2.2,hla w x.2.1.abs)) (hr w os)=some (Flow.next,hCd,⟨334,0,350,15⟩,(true,Hook.val (kHook hK hA hKA) w,hg.1))
set_option maxHeartbeats 0 in
def Ij(w:World):hSa (w.withFollow "special-get-raises" true):=λos=>by kernel_rfl
set_option maxHeartbeats 0 in
def Ik(w:World):hSa (w.withFollow "special-get-raises" false):=λos=>by kernel_rfl
def Il(w:World):hSa w:=Mc "special-get-raises" (P:=hSa) Ik Ij w
def hSb(w:World):Prop:=∀os,Option.map (λx=>(x.1,x.2.2.1,x.2.2.2,hlb w x.2.1.abs)) (hr w os)=some (Flow.next,hCd,⟨334,0,350,15⟩,(hg.2.1,hg.2.2.1))
set_option maxHeartbeats 0 in
def Im(w:World):hSb (w.withFollow "special-get-raises" true):=λos=>by kernel_rfl
set_option maxHeartbeats 0 in
def Io(w:World):hSb (w.withFollow "special-get-raises" false):=λos=>by kernel_rfl
def JP(w:World):hSb w:=Mc "special-get-raises" (P:=hSb) Io Im w
def hSc(w:World):Prop:=∀os,Option.map (λx=>(x.1,x.2.2.1,x.2.2.2,hlc w x.2.1.abs)) (hr w os)=some (Flow.next,hCd,⟨334,0,350,15⟩,hg.2.2.2)
set_option maxHeartbeats 0 in
def Ip(w:World):hSc (w.withFollow "special-get-raises" true):=λos=>by kernel_rfl
set_option maxHeartbeats 0 in
def Iq(w:World):hSc (w.withFollow "special-get-raises" false):=λos=>by kernel_rfl
def JQ(w:World):hSc w:=Mc "special-get-raises" (P:=hSc) Iq Ip w
def htz(w:World)(s:Shared):topRun treeTable hp w 11 (some (.ref 6)) 2 s (restOf [] wC hCd ⟨334,0,350,15⟩ [topFrame hp0])=some s:=by kernel_rfl
set_option maxHeartbeats 0 in
def hsp:hB=((hB.drop 0).take 50++((hB.drop 50).take 36++[])):=by kernel_rfl
def left:LeftO hp hV ["MARK_OF","ASKED_ALONE","ASKED_OF_A_NUMBER"] hX (Hook.obs (kHook hK hA hKA)) (Hook.val (kHook hK hA hKA)) 12400:=λw=>by
 have o:=boot_open (p:=hp) (N:=12400) (by kernel_rfl) (by decide) (λs=>by kernel_rfl) w
 rcases fo:fencedOpening treeTable hp w 12400 with _|⟨b0,b1,b2,b3,os⟩<;>rw[fo]at o
 .cases o
 obtain⟨o1,o⟩:=Q3 (Za o);obtain⟨o2,o⟩:=Q3 o;obtain⟨o3,o4⟩:=Q3 o;subst o1 o2 o3 o4;rcases ru:hr w os with _|⟨fl,s,cd,po⟩
 .have u:=Il w os;rw[ru]at u;cases u
 have u:=Il w os;rw[ru]at u;obtain⟨g1,u⟩:=Q3 (Za u);obtain⟨g2,u⟩:=Q3 u;obtain⟨g3,u⟩:=Q3 u;obtain⟨l1,u⟩:=Q3 u;obtain⟨l3,j1⟩:=Q3 u;have u:=JP w os;rw[ru]at u;obtain⟨g1,u⟩:=Q3 (Za u);obtain⟨g2,u⟩:=Q3 u;obtain⟨g3,u⟩:=Q3 u;obtain⟨j2,j3⟩:=Q3 u;have j4:=JQ w os;rw[ru]at j4;obtain⟨g1,j4⟩:=Q3 (Za j4);obtain⟨g2,j4⟩:=Q3 j4;obtain⟨g3,j4⟩:=Q3 j4;have l2:hs s.abs=hg:=Mf j1 (Mf j2 (Mf j3 j4));subst g1 g2 g3
 have go:∀b,b=((hB.drop 0).take 50++((hB.drop 50).take 36++[]))->topRun treeTable hp w 11 (some (.ref 6)) (7300+(3100+2)) (hsT (t0T w.params) 15 187 os).abs (restOf b wC hCd hp0 [topFrame hp0])=some s.abs:=λb z=>by subst z;exact(piece_app (segRun_of (pc0 w os)) (piece_app (segRun_of ru) (htz w s.abs)))
 have r:topRun treeTable hp w 11 (some (.ref 6)) 12400 {heap:=boot_heap w.params,gens:=#[],drawn:=boot_drawn,toks:=boot_toks,os:=os} (topStub hp)=some s.abs:=topRun_mono 1985 _ _ _ _ (go_top (n:=12) (N:=1+(7300+(3100+2))) (htg w os) (piece_block (n:=1) (N:=(7300+(3100+2))) (htb w os) (go hB hsp)))
 have z1:((boot_heap w.params).isNs mainGlobals&&(#[]:Array GenState).size==0)=true:=by kernel_rfl
 have z2:(boot_heap w.params).objs.size=11:=by kernel_rfl
 have z3:(boot_heap w.params).nsMap mainGlobals "__annotations__"=some (.ref 6):=by kernel_rfl
 have tf:topFrom treeTable hp w 12400 {heap:=boot_heap w.params,gens:=#[],drawn:=boot_drawn,toks:=boot_toks,os:=os}=some s.abs:=by simp only[topFrom,z1,z2,z3,r,Option.bind_some,l1]
 unfold openEnds;rw[fo,Option.bind_some,tf];have l4:openSeen hV ["MARK_OF","ASKED_ALONE","ASKED_OF_A_NUMBER"] (importedModules hp.main.body) hX true s.abs=openGood hV ["MARK_OF","ASKED_ALONE","ASKED_OF_A_NUMBER"]:=l2
 show some (_,_)=some _
 rw[l4,show Hook.obs (kHook hK hA hKA) s.abs=_ from l3]
end Lw
section
set_option Elab.async false
set_option linter.all false
set_option maxRecDepth 100000
namespace PySem
def ZO(o:Obj):Prop:=∃fs:Array Value,o.data=.fields fs/\fs[2]?=some .none
def Heap.Zat(h:Heap)(e:Addr):Prop:=∃o,h.get? e=some o/\ZO o
end PySem
namespace PySem
open PyProof.Rows
variable{ha:Addr}
def pY:entryFor table "proto.unchain" = some Builtin.«proto.unchain»:=entryFor_of_tree (by kernel_rfl)
def pZ:plainId "proto.unchain" = true:=by decide +kernel
section
variable{prog:Program}{w:World}{A:Around}{E:Value->Shared->Prop}{s:Shared}
def AH{ea:Addr}{Q:Value->Shared->Prop}(z:s.heap.Zat ha)(h:Q .none s):wpAny (model prog w) A (runValue (.builtin "proto.unchain" ⟨[.ref ea,.ref ha,.ref ha,.bool false],[]⟩)) Q E s:=by
 obtain⟨o,ho,fs,hd,h2⟩:=z;refine wpAny_runValue (Q4 pY ?_);rw[Zr pZ _];unfold Builtin.«proto.unchain»;refine Y6 (Zk ho hd h2 ?_)
 rw[Y8 (by rfl)]
 refine Y6 (Ye ?_);exact Ye h
def zr{α:Type}{ea:Addr}{o:Obj}{fs:Array Value}{Q:α->Shared->Prop}(hh:A.handled=some (.ref ha))(z:s.heap.Zat ha)(ne:ha≠ea)(he:s.heap.get? ea=some o)(hd:o.data=.fields fs)(hs:2<fs.size)
  (h:E (.ref ea) { s with heap:=s.heap.update ea (Obj.mapFields (λy=>y.setIfInBounds 2 (.ref ha))) }):wpAny (model prog w) A (raiseNew (.ref ea):Sem α) Q E s:=by
 unfold raiseNew;refine Y6 (wpAny_handled ?_);rw[hh];dsimp only
 rw[Y8 (by simpa using ne)]
 refine Y6 (Qr (AH z ?_));refine Y6 ?_;show wpAny _ _ (setField (.ref ea) 2 (.ref ha)) _ _ s;exact wpAny_setField he hd hs (wpAny_throw h)
def zt{it:Addr}{x left step:Int}{Q:Option Value->Shared->Prop}(hh:A.handled=some (.ref ha))(z:s.heap.Zat ha)(hit:IsRangeIter s.heap it x left step)(hl:left<=0)
  (k:∀h',Heap.ExtBut it s.heap h'->Q none { s with heap:=h' }):wpAny (model prog w) A (pyNext (.ref it)) Q E s:=by
 have ty:s.TypeIs (.ref it) "range_iterator":=⟨_,hit,rfl⟩
 have lta:ha<s.heap.objs.size:=let ⟨o,q,_⟩:=z;Yn q
 unfold pyNext;refine Y6 (wpAny_attempt (Q5 (name:=Str.ofString "__next__") ty F.slot_range_iterator_next (Qk F.slot_range_iterator_next ty F.entry_range_iterator_next ?_ (F.args_range_iterator_next_1 _))))
 show wpAny _ _ (field (.ref it) 0 >>= _) _ _ s;refine Y6 (Zk hit rfl (x:=rawInt x) rfl ?_);show wpAny _ _ (field (.ref it) 1 >>= _) _ _ s;refine Y6 (Zk hit rfl (x:=rawInt left) rfl ?_);show wpAny _ _ (field (.ref it) 2 >>= _) _ _ s;refine Y6 (Zk hit rfl (x:=rawInt step) rfl ?_)
 show wpAny _ _ (if left<=0 then _ else _) _ _ s
 rw[Y8 hl];refine Y6 (Wa ?_);refine Y6 ?_;show wpAny _ _ (newExc (.type "StopIteration") [] >>= _) _ _ _
 refine Y6 ?_;simp only[newExc,newTuple]
 refine Y6 (Zd ?_ (by size_fits))
 refine Y6 (m:=firstArgMember _ _) (Vf (a:=Value.none) (by first|rfl|(simp only[firstArgMember];rfl)) ?_)
 refine Zd ?_ (by size_fits)
 refine zr (ha:=ha) (by first|exact hh|(show A.in1.handled=_;exact hh)) ?_ ?_ (Yg _ rfl) rfl ?_ ?_
 .obtain⟨o,q,r⟩:=z;exact⟨o,Y7 _ (Y7 _ q),r⟩
 .exact Yt (Yu lta (by rw[Z5];exact Wp _))
 .rw[Array.size_append];exact Yu (show 2<6 by decide) (Nat.le_add_right _ _)
 .dsimp only;generalize hfn:Obj.mapFields (λy=>y.setIfInBounds 2 (Value.ref ha))=fn;generalize hg:s.heap.push { cls:=Value.type "tuple",data:=Data.seq #[] }=g
  generalize hex:({ cls:=Value.type "StopIteration",data:=Data.fields (#[Value.ref s.heap.objs.size,Value.none,Value.none,Value.none,Value.bool false,Value.none]++ownMembersOf (Value.type "StopIteration") []) }:Obj)=ex
  have c0:ex.cls=.type "StopIteration":=by rw[<- hex]
  have d0:∃fs,ex.data=.fields fs:=⟨_,by rw[<- hex]⟩
  obtain⟨fs,d0⟩:=d0;have p0:(g.push ex).get? g.objs.size=some ex:=Yg g (U0 d0)
  have d1:(fn ex).data=.fields (fs.setIfInBounds 2 (.ref ha)):=by rw[<- hfn];exact Up d0 _
  have c1:(fn ex).cls=.type "StopIteration":=by rw[<- hfn];exact(Obj.cls_mapFields _ _).trans c0
  have e1:((g.push ex).update g.objs.size fn).get? g.objs.size=some (fn ex):=Qi fn p0 (U0 d1);refine Y6 (wpAny_isInstance (T:="StopIteration") (b:=true) ⟨fn ex,e1,c1⟩ isSubtype_stop ?_)
  refine Ye (k _ λb o _ q=>?_)
  have q1:g.get? b=some o:=by rw[<- hg];exact Y7 _ q
  rw[Z7 (g.push ex) fn (V4 (Yn q1))];exact Y7 ex q1
end
end PySem
namespace L2
open PySem PySem.Spec PyProof.Rows
variable{us:List Value}{u:Value}{a b C:Addr}{P:Program}{w:World}{h base:Heap}{i j:Nat}{x:Str}{e c tg:Expr}{A:Around}{s:Shared}{pos:Pos}{pins:List (Addr×Obj)}{qb:Bool}{fp:List Addr}{op:CmpOp}{mg:Str→Option Value}{fd:FuncData}{ps:List Str}{kindOf:Str→Option NameKind}
abbrev Key:=Sum Int Str
def oq:Key->Value->Bool
 |.inl k,v=>Value.isInt k v
 |.inr x,v=>Value.isStrOf x v
def JR(w:World):Key->Int
 |.inl k=>hashInt k
 |.inr x=>hashStr w x
theorem bY:∀{k:Key}{v:Value},oq k v=true->(∃i t,k=Sum.inl i/\v=Value.int i t)\/(∃x t,k=Sum.inr x/\v=Value.str x t)
 |.inl i,v,h=>by obtain⟨t,e⟩:=Value.isInt_shape (k:=i) (v:=v) h;exact .inl ⟨i,t,rfl,e⟩
 |.inr x,v,h=>by obtain⟨t,e⟩:=Value.isStrOf_shape (x:=x) (v:=v) h;exact .inr ⟨x,t,rfl,e⟩
def zu(i:Int)(t:Tok):oq (.inl i) (.int i t)=true:=by simp[oq,Value.isInt]
def zv(x:Str)(t:Tok):oq (.inr x) (.str x t)=true:=by simp[oq,Value.isStrOf]
def Fz(a b:Int):decide ((Sum.inl a:Key)=Sum.inl b)=(a == b):=by
 by_cases e:a=b
 .subst e;simp
 .have h:¬(Sum.inl a:Key)=Sum.inl b:=λq=>e (V3 q);rw[Yp h];exact(Ws.mpr e).symm
def FA(a b:Str):decide ((Sum.inr a:Key)=Sum.inr b)=decide (a=b):=by
 by_cases e:a=b
 .subst e;simp
 .have h:¬(Sum.inr a:Key)=Sum.inr b:=λq=>e (Ma q);rw[Yp h,Yp e]
def FC(a:Int)(b:Str):decide ((Sum.inl a:Key)=Sum.inr b)=false:=Yp (λq=>nomatch q)
def FD(a:Str)(b:Int):decide ((Sum.inr a:Key)=Sum.inl b)=false:=Yp (λq=>nomatch q)
def bf(prog:Program)(w:World):PySem.KeyKind prog w Key where
 is:=oq
 hash:=JR w
 inj:=λv a b ha hb=>by
  rcases bY ha with⟨i,t,rfl,rfl⟩|⟨x,t,rfl,rfl⟩
  .rcases bY hb with⟨j,u,rfl,e⟩|⟨y,u,rfl,e⟩
   .injection e with e1 _;rw[e1]
   .exact nomatch e
  .rcases bY hb with⟨j,u,rfl,e⟩|⟨y,u,rfl,e⟩
   .exact nomatch e
   .injection e with e1 _;rw[e1]
 byValue:=λk v h=>by rcases bY h with⟨i,t,rfl,rfl⟩|⟨x,t,rfl,rfl⟩<;>rfl
 pyHash:=λhv h=>by
  rcases bY hv with⟨i,t,rfl,rfl⟩|⟨x,t,rfl,rfl⟩
  .exact wpAny_pyHash_int h
  .exact wpAny_pyHash_str h
 eqBool:=λhu hv h=>by
  rcases bY hu with⟨i,t,rfl,rfl⟩|⟨x,t,rfl,rfl⟩
  .rcases bY hv with⟨j,u,rfl,rfl⟩|⟨y,u,rfl,rfl⟩
   .rw[Fz]at h;exact wpAny_eqBool_int h
   .rw[FC]at h;exact SeqAt.EqAt.int_str i t y u _ _ _ _ h
  .rcases bY hv with⟨j,u,rfl,rfl⟩|⟨y,u,rfl,rfl⟩
   .rw[FD]at h;exact SeqAt.EqAt.str_int x t j u _ _ _ _ h
   .rw[FA]at h;exact wpAny_eqBool_str h
 «strs»:=λk x t v h=>by
  rcases bY h with⟨i,u,rfl,e⟩|⟨y,u,rfl,e⟩
  .exact nomatch e
  .injection e with e1 _;subst e1;cases v<;>rfl
def wD(prog:Program)(w:World)(k:Key)(v:Value):(bf prog w).is k v=oq k v:=rfl
def uc(prog:Program)(w:World)(i:Int)(t:Tok):(bf prog w).is (.inl i) (.int i t)=true:=zu i t
def ud(prog:Program)(w:World)(x:Str)(t:Tok):(bf prog w).is (.inr x) (.str x t)=true:=zv x t
inductive V where
 |non|bl (b:Bool)|int (i:Int)|str (x:Str)|byt (b:Array UInt8)|flt (b:UInt64)|ref (a:Addr)|ty (n:String)
 deriving DecidableEq
def RelV:V->Value->Prop
 |.non,u=>u=Value.none
 |.bl b,u=>u=Value.bool b
 |.int i,u=>∃t,u=Value.int i t
 |.str x,u=>∃t,u=Value.str x t
 |.byt b,u=>∃t,u=Value.bytes b t
 |.flt b,u=>∃t,u=Value.float b t
 |.ref a,u=>u=Value.ref a
 |.ty n,u=>u=Value.type n
abbrev Vals:List V->List Value->Prop:=Paired RelV
theorem Vals.length{xs:List V}(r:Vals xs us):xs.length=us.length:=Paired.length r
theorem Vals.get:∀{xs:List V}{us:List Value}{i:Nat}{x:V},Vals xs us->xs[i]?=some x->∃u,us[i]?=some u/\RelV x u
 |_,_,_,_,.nil,e=>by simp at e
 |_,_,0,_,.cons r _,e=>by simp at e;subst e;exact⟨_,rfl,r⟩
 |_,_,i+1,x,.cons _ t,e=>by
  obtain⟨u,h1,h2⟩:=Vals.get (i:=i) (x:=x) t (by simpa using e)
  exact⟨u,by simpa using h1,h2⟩
theorem Vals.set{x:V}(r:RelV x u):∀{xs:List V}{us:List Value}(i:Nat),Vals xs us->Vals (xs.set i x) (us.set i u)
 |_,_,_,.nil=>.nil
 |_,_,0,.cons _ t=>.cons r t
 |_,_,i+1,.cons q t=>.cons q (Vals.set r i t)
theorem Vals.append:∀{xs ys:List V}{us ws:List Value},Vals xs us->Vals ys ws->Vals (xs++ys) (us++ws)
 |_,_,_,_,.nil,s=>s
 |_,_,_,_,.cons r t,s=>.cons r (Vals.append t s)
theorem Vals.take:∀{xs:List V}{us:List Value}(n:Nat),Vals xs us->Vals (xs.take n) (us.take n)
 |_,_,0,_=>.nil
 |_,_,_+1,.nil=>.nil
 |_,_,n+1,.cons r t=>.cons r (Vals.take n t)
theorem Vals.drop:∀{xs:List V}{us:List Value}(n:Nat),Vals xs us->Vals (xs.drop n) (us.drop n)
 |_,_,0,r=>r
 |_,_,_+1,.nil=>.nil
 |_,_,n+1,.cons _ t=>Vals.drop n t
def jd:Option V->Option Value->Prop
 |some v,some u=>RelV v u
 |none,none=>True
 |_,_=>False
def KV{κ:Type}:List (κ×V)->List (κ×Value)->Prop:=Paired λ(p:κ×V)(q:κ×Value)=>p.1=q.1/\RelV p.2 q.2
def kV:Key->V
 |.inl i=>.int i
 |.inr x=>.str x
set_option genInjectivity false in
inductive HO where
 /-- a list -/
 |lst (xs:List V)
 /-- a tuple (never changes) -/
 |tup (xs:List V)
 /-- a dict whose keys are ints and texts;one whose keys are tuples of ints and texts (the empty one is both) -/
 |dK (kvs:List (Key×V))|dT (kvs:List (List Key×V))
 /-- a set of ints: its members,its size -/
 |set (S:Int->Bool) (n:Nat)
 /-- an instance of the class at C,its dict at dx,its attributes -/
 |ins (C dx:Addr) (fs:List (Str×V))
 /-- the dict of the instance at x -/
 |own (x:Addr)
 /-- the dict of an exception -/
 |xd (fs:List (Str×V))
 /-- a bound method,f of x -/
 |met (f x:Addr)
 /-- a range object lo,lo+1,.. below hi -/
 |rng (lo hi:Int)
 /-- a thing that is known to the object (the script;a dict while a loop walks it): read,never written while it is so -/
 |frz (o:Obj) (u:HO)
 /-- a code object's table -/
 |tbl (ps:Array Value)
 /-- any other thing,by what is true of its one object (a def of one's own: SetO a S n:=HO.ext λh=>..) -/
 |ext (φ:Heap->Prop)
variable{o:HO}
abbrev Hp:=Addr->Option HO
variable{H:Hp}
def upd(H:Hp)(a:Addr)(o:HO):Hp:=λb=>if b=a then some o else H b
def aP:upd H a o a=some o:=by unfold upd;rw[Y8 rfl]
def aN(h:b≠a):upd H a o b=H b:=by unfold upd;rw[Yi h]
def Ir{u:HO}(h:H a=some o)(h':H b=some u)(d:o≠u):a≠b:=by intro e;subst e;rw[h]at h';exact d (Za h')
def aR(h:H a=some o)(h':H b=none):a≠b:=by intro e;subst e;rw[h]at h';cases h'
section
variable(P:Program)(w:World)
def bR(H:Hp)(h:Heap)(a:Addr):HO->Prop
 |.lst xs=>xs.length<=sizeLine/\∃(its:List Value)(n:Nat),Vals xs its/\h.get? a=some { cls:=.type "list",data:=.seq its.toArray n }
 |.tup xs=>xs.length<=sizeLine/\∃its:List Value,Vals xs its/\IsTup h a its.toArray
 |.dK kvs=>kvs.length<=sizeLine/\(a == sysModules)=false/\∃vs,KV kvs vs/\h.DictOf (bf P w) a vs
 |.dT kvs=>kvs.length<=sizeLine/\(a == sysModules)=false/\∃xs:List (List Key×Addr×Value),
   Paired (λ(p:List Key×V)(q:List Key×Addr×Value)=>p.1=q.1/\H q.2.1=some (.tup (p.1.map kV))/\RelV p.2 q.2.2) kvs xs/\
   ∃o es ep,h.get? a=some o/\o.ExactDict/\o.data=.dict es ep/\es.toList=xs.map (entryOfKey (tupleKind (bf P w)))/\(xs.map (·.1)).Nodup
 |.set S n=>h.SetOf (intKind P w) a S n
 |.ins C dx fs=>H dx=some (.own a)/\fs.length<=1000/\dx≠a/\h.get? a=some (instObj C dx)/\
   ∃mA,h.Ns1 dx mA/\(∀f,jd (fs.lookup f) (mA f))/\PySem.Within mA (fs.map (·.1))
 |.own _=>∃o,h.get? a=some o
 |.xd fs=>∃mA,h.Ns1 a mA/\∀f,jd (fs.lookup f) (mA f)
 |.rng lo hi=>∃t u v,h.get? a=some { cls:=.type "range",data:=.fields #[.int lo t,.int hi u,.int 1 v] }
 |.frz o u=>h.get? a=some o/\bR H h a u
 |.tbl ps=>h.get? a=some { cls:=.none,data:=.fields ps }
 |.met f x=>h.get? a=some (methodObj (.ref f) (.ref x))
 |.ext φ=>φ h/\(∃o,h.get? a=some o)/\∀h1 h2:Heap,φ h1->(∀o,h1.get? a=some o->h2.get? a=some o)->φ h2
def HOk(H:Hp)(h:Heap):Prop:=∀a o,H a=some o->bR P w H h a o
end
section
variable{P:Program}{w:World}{H H':Hp}{h h':Heap}{a:Addr}{o:HO}
theorem bR.lt(x:bR P w H h a o):a<h.objs.size:=by
 cases o with
 |lst xs=>obtain⟨_,_,_,_,e⟩:=x;exact Yn e
 |tup xs=>obtain⟨_,_,_,p⟩:=x;exact p.lt
 |dK kvs=>obtain⟨_,_,_,_,o,_,_,e,_⟩:=x;exact Yn e
 |dT kvs=>obtain⟨_,_,_,_,o,_,_,e,_⟩:=x;exact Yn e
 |set S n=>obtain⟨o,_,_,_,e,_⟩:=x;exact Yn e
 |ins C dx fs=>obtain⟨_,_,_,e,_⟩:=x;exact Yn e
 |own y=>obtain⟨_,e⟩:=x;exact Yn e
 |xd fs=>obtain⟨_,⟨_,_,_,e,_⟩,_⟩:=x;exact Yn e
 |rng lo hi=>obtain⟨_,_,_,e⟩:=x;exact Yn e
 |frz ob u=>obtain⟨e,_⟩:=x;exact Yn e
 |tbl ps=>exact Yn (show h.get? a=some _ from x)
 |met f y=>exact Yn (show h.get? a=some _ from x)
 |ext φ=>obtain⟨_,⟨_,e⟩,_⟩:=x;exact Yn e
theorem Paired.mapP{α β:Type}{F G:α->β->Prop}:∀{l₁:List α}{l₂:List β},Paired F l₁ l₂->(∀a b,F a b->G a b)->Paired G l₁ l₂
 |_,_,.nil,_=>.nil
 |_,_,.cons r t,f=>.cons (f _ _ r) (Paired.mapP t f)
theorem bR.stay(x:bR P w H h a o)(k:∀b u,(b=a\/H b=some (.own a))->h.get? b=some u->h'.get? b=some u)
  (ho:∀b,H b=some (.own a)->H' b=some (.own a)) (ht:∀b xs,H b=some (.tup xs)->H' b=some (.tup xs)):bR P w H' h' a o:=by
 induction o with
 |lst xs=>obtain⟨z,its,n,r,e⟩:=x;exact⟨z,its,n,r,k _ _ (.inl rfl) e⟩
 |tup xs=>obtain⟨z,its,r,ob,e,c⟩:=x;exact⟨z,its,r,ob,k _ _ (.inl rfl) e,c⟩
 |dK kvs=>obtain⟨z,y,vs,r,ob,es,ep,e,c⟩:=x;exact⟨z,y,vs,r,ob,es,ep,k _ _ (.inl rfl) e,c⟩
 |dT kvs=>
  obtain⟨z,y,xs,r,ob,es,ep,e,c⟩:=x;exact⟨z,y,xs,Paired.mapP r λp q z=>⟨z.1,ht _ _ z.2.1,z.2.2⟩,ob,es,ep,k _ _ (.inl rfl) e,c⟩
 |set S n=>obtain⟨ob,es,ep,t,e,c⟩:=x;exact⟨ob,es,ep,t,k _ _ (.inl rfl) e,c⟩
 |ins C dx fs=>
  obtain⟨d,z,ne,e,mA,⟨od,es,ep,e2,c⟩,r⟩:=x;exact⟨ho _ d,z,ne,k _ _ (.inl rfl) e,mA,⟨od,es,ep,k _ _ (.inr d) e2,c⟩,r⟩
 |own y=>obtain⟨ob,e⟩:=x;exact⟨ob,k _ _ (.inl rfl) e⟩
 |xd fs=>obtain⟨mA,⟨od,es,ep,e,c⟩,r⟩:=x;exact⟨mA,⟨od,es,ep,k _ _ (.inl rfl) e,c⟩,r⟩
 |rng lo hi=>obtain⟨t,u,v,e⟩:=x;exact⟨t,u,v,k _ _ (.inl rfl) e⟩
 |frz ob u ih=>obtain⟨e,q⟩:=x;exact⟨k _ _ (.inl rfl) e,ih q⟩
 |tbl ps=>
  have e:h.get? a=some { cls:=.none,data:=.fields ps }:=x;show h'.get? a=some { cls:=.none,data:=.fields ps };exact k a _ (.inl rfl) e
 |met f y=>
  have e:h.get? a=some (methodObj (.ref f) (.ref y)):=x;show h'.get? a=some (methodObj (.ref f) (.ref y));exact k a _ (.inl rfl) e
 |ext φ=>obtain⟨p,⟨o,e⟩,st⟩:=x;exact⟨st _ _ p λo q=>k _ _ (.inl rfl) q,⟨o,k _ _ (.inl rfl) e⟩,st⟩
theorem HOk.lt(x:HOk P w H h)(e:H a=some o):a<h.objs.size:=(x a o e).lt
def HOk.fresh(x:HOk P w H h)(e:h.objs.size<=a):H a=none:=by
 cases q:H a with
 |none=>rfl
 |some u=>exact absurd (Yu (x.lt q) e) (Qb _)
def HOk.kept(x:HOk P w H h)(k:∀b u,h.get? b=some u->h'.get? b=some u):HOk P w H h':=λa o e=>
 (x a o e).stay (λb u _ q=>k b u q) (λ_ q=>q) λ_ _ q=>q
def HOk.laid(x:HOk P w H h)(k:∀b u,h.get? b=some u->h'.get? b=some u)(hp:h.objs.size<=a)(new:bR P w (upd H a o) h' a o):HOk P w (upd H a o) h':=λb u e=>by
 have hn:=x.fresh hp;by_cases hb:b=a
 .subst hb;rw[aP]at e;cases e;exact new
 .rw[aN hb]at e
  exact(x b u e).stay (λc v _ q=>k c v q) (λc q=>by rw[aN (aR q hn)];exact q) λc xs q=>by rw[aN (aR q hn)];exact q
end
def Rd(H:Hp)(a:Addr)(u:HO):Prop:=H a=some u \/ ∃o,H a=some (.frz o u)
def Rd.ok{u:HO}(r:Rd H a u)(x:HOk P w H h):bR P w H h a u:=by
 rcases r with r|⟨o,r⟩
 .exact x a u r
 .obtain⟨_,q⟩:=x a _ r;exact q
def Mut:Option HO->Prop
 |some (.lst _)=>True
 |some (.dK _)=>True
 |some (.dT _)=>True
 |some (.set _ _)=>True
 |some (.ins _ _ _)=>True
 |some (.ext _)=>True
 |_=>False
section
variable{P:Program}{w:World}{H:Hp}{h h':Heap}{x e:Addr}{o':HO}
def HOk.write(ok:HOk P w H h)(mu:Mut (H x))(he:e=x\/H e=some (.own x))(k:∀b u,b≠e->h.get? b=some u->h'.get? b=some u)(heo:∃u,h'.get? e=some u)
  (new:bR P w (upd H x o') h' x o'):HOk P w (upd H x o') h':=λb u q=>by
 have nown:∀c y,H c=some (.own y)->c≠x:=λc y r z=>by subst z;rw[r]at mu;exact mu
 have ntup:∀c xs,H c=some (.tup xs)->c≠x:=λc xs r z=>by subst z;rw[r]at mu;exact mu
 by_cases hb:b=x
 .subst hb;rw[aP]at q;cases q;exact new
 .rw[aN hb]at q;by_cases hbe:b=e
  .have q':H b=some (.own x):=by
    rcases he with z|z
    .exact absurd (hbe.trans z) hb
    .rw[hbe];exact z
   rw[q]at q';cases q';obtain⟨v,hv⟩:=heo
   exact⟨v,by rw[hbe];exact hv⟩
  .refine(ok b u q).stay (λc v hc r=>k c v ?_ r) (λc r=>by rw[aN (nown c b r)];exact r) λc xs r=>by rw[aN (ntup c xs r)];exact r
   rcases hc with rfl|hc
   .exact hbe
   .rintro rfl;rcases he with z|z
    .exact nown c b hc z
    .rw[hc]at z;cases z;exact hb rfl
end
structure Un(fs ex:List Addr)(H H':Hp)(h h':Heap):Prop where
 keep:∀b o,h.get? b=some o->H b=none->b∉fs->b∉ex->h'.get? b=some o
 slot:∀b o,h.get? b=some o->H b=none->b∈fs->b∉ex->∃sl,h'.get? b=some { o with slots:=sl }
 free:∀b o,h.get? b=some o->H b=none->b∉ex->H' b=none
 there:∀b o,h.get? b=some o->b∉ex->∃o',h'.get? b=some o'
 tups:∀b xs,H b=some (.tup xs)->H' b=some (.tup xs)
 frzs:∀b o u,H b=some (.frz o u)->H' b=some (.frz o u)
 tbls:∀b ps,H b=some (.tbl ps)->∃more,H' b=some (.tbl (ps++more))
section
variable{fs fs' ex ex':List Addr}{H H1 H2:Hp}{h h1 h2 h':Heap}{a x e:Addr}{o:HO}
def Un.any(u:Un fs ex H H1 h h1){ob:Obj}(q:h.get? b=some ob)(n:H b=none)(hx:b∉ex):∃sl,h1.get? b=some { ob with slots:=sl }:=by
 by_cases hb:b∈fs
 .exact u.slot b ob q n hb hx
 .exact⟨ob.slots,u.keep b ob q n hb hx⟩
def Un.trans(a:Un fs ex H H1 h h1)(b:Un fs ex H1 H2 h1 h2):Un fs ex H H2 h h2 where
 keep:=λc ob q n hc hx=>b.keep c ob (a.keep c ob q n hc hx) (a.free c ob q n hx) hc hx
 slot:=λc ob q n hc hx=>by obtain⟨sl,e1⟩:=a.slot c ob q n hc hx;obtain⟨sl',e2⟩:=b.slot c _ e1 (a.free c ob q n hx) hc hx;exact⟨sl',e2⟩
 free:=λc ob q n hx=>by obtain⟨o',e1⟩:=a.there c ob q hx;exact b.free c o' e1 (a.free c ob q n hx) hx
 there:=λc ob q hx=>by obtain⟨o',e1⟩:=a.there c ob q hx;exact b.there c o' e1 hx
 tups:=λc xs q=>b.tups c xs (a.tups c xs q)
 frzs:=λc ob xs q=>b.frzs c ob xs (a.frzs c ob xs q)
 tbls:=λc ps q=>by
  obtain⟨m1,e1⟩:=a.tbls c ps q;obtain⟨m2,e2⟩:=b.tbls c _ e1
  exact⟨m1++m2,by rw[e2,Array.append_assoc]⟩
def Un.kept(k:∀b u,h.get? b=some u->h'.get? b=some u):Un fs ex H H h h':=
 ⟨λb ob q _ _ _=>k b ob q,λb ob q _ _ _=>⟨ob.slots,k b ob q⟩,λ_ _ _ n _=>n,λb ob q _=>⟨ob,k b ob q⟩,λ_ _ q=>q,λ_ _ _ q=>q,λ_ ps q=>⟨#[],by rw[q];simp⟩⟩
def Un.refl:Un fs ex H H h h:=Un.kept λ_ _ q=>q
def Un.laid(k:∀b u,h.get? b=some u->h'.get? b=some u)(hp:h.objs.size<=a)(hn:H a=none):Un fs ex H (upd H a o) h h' where
 keep:=λb u q _ _ _=>k b u q
 slot:=λb u q _ _ _=>⟨u.slots,k b u q⟩
 free:=λb u q n _=>by rw[aN (Yt (Yu (Yn q) hp))];exact n
 there:=λb u q _=>⟨u,k b u q⟩
 tups:=λb xs q=>by rw[aN (aR q hn)];exact q
 frzs:=λb u xs q=>by rw[aN (aR q hn)];exact q
 tbls:=λb ps q=>⟨#[],by rw[aN (aR q hn),q];simp⟩
def Un.write(mu:Mut (H x))(he:e=x\/H e=some (.own x))(k:∀b u,b≠e->h.get? b=some u->h'.get? b=some u)(heo:∃u,h'.get? e=some u):Un fs ex H (upd H x o) h h':=by
 have hx:∀b,H b=none->b≠x:=λb n z=>by subst z;rw[n]at mu;exact mu
 have hb:∀b,H b=none->b≠e:=λb n z=>by
  subst z;rcases he with r|r
  .exact hx b n r
  .rw[n]at r;cases r
 have hm:∀b u,H b=some u->¬Mut (some u)->b≠x:=λb u q nm z=>by subst z;rw[q]at mu;exact nm mu
 refine⟨λb u q n _ _=>k b u (hb b n) q,λb u q n _ _=>⟨u.slots,k b u (hb b n) q⟩,λb u q n _=>by rw[aN (hx b n)];exact n,λb u q _=>?_,
  λb xs q=>by rw[aN (hm b _ q λz=>z)];exact q,λb u xs q=>by rw[aN (hm b _ q λz=>z)];exact q,λb ps q=>⟨#[],by rw[aN (hm b _ q λz=>z),q];simp⟩⟩
 by_cases hbe:b=e
 .subst hbe;exact heo
 .exact⟨u,k b u hbe q⟩
end
def trk(h:Heap)(H:Hp):List Addr:=(List.range h.objs.size).filter λa=>(H a).isSome
def rW(h:Heap)(H:Hp):Heap:=hideAll h (trk h H)
def zw(h:Heap)(H:Hp):(rW h H).objs.size=h.objs.size:=hideAll_size _ _
def AI{o:Obj}(e:h.get? b=some o)(n:H b=none):(rW h H).get? b=some o:=
 hideAll_get _ e λhm=>by have q:(H b).isSome=true:=(Z8.mp hm).2;rw[n]at q;simp at q
def C6{o:Obj}(e:(rW h H).get? b=some o):h.get? b=some o/\H b=none:=by
 have e':h.get? b=some o:=of_hideAll (trk h H) e;refine⟨e',?_⟩;cases q:H b with
 |none=>rfl
 |some x=>
  have hm:b∈trk h H:=Z8.mpr ⟨List.mem_range.mpr (Yn e'),by simp[q]⟩
  have z:(rW h H).get? b=none:=hideAll_none (trk h H) hm;rw[z]at e;cases e
structure Mod(K:Frag)(mg:Str->Option Value)(base:Heap):Prop where
 kin:K.In base
 glob:base.Ns mainGlobals mg
 blt:∃mb,base.Ns builtinsNs mb/\∀x:Str,x ≠ "__name__"->mb x=bootBuiltins x
 nolimit:base.NoLimit
structure Cx where
 prog:Program
 w:World
 K:Frag
 mg:Str->Option Value
 base:Heap
 A:Around
 N:List Str
 s₀:Shared
 H₀:Hp
 env:Env
 outer:List Env
 stack:List Env
 ex:List Addr
 fn:Str->Bool
 calm:Bool
 pn:List (Addr×Obj)
 xe:Value->Shared->Prop
variable{X:Cx}
def frs(l:List Env):List Addr:=l.filterMap (·.frame)
abbrev Cx.fs(X:Cx):List Addr:=frs X.outer
def Vis(sc:Scope)(x:Str):Prop:=sc.names.lookup x=some .local\/sc.names.lookup x=some .cell\/sc.names.lookup x=some .free
def Loc(sc:Scope)(x:Str):Prop:=sc.names.lookup x=some .local\/sc.names.lookup x=some .cell
def Look(env:Env)(h:Heap)(m:Str->Option Value)(x:Str)(u:Value):Prop:=
 (env.kindOf x=some .local/\m x=some u)\/((env.kindOf x=some .cell\/env.kindOf x=some .free)/\∃c,env.cells.lookup x=some c/\h.IsCell c (some u))
structure Cx.Ok(X:Cx):Prop where
 mod:Mod X.K X.mg X.base
 kind:X.env.scope.kind=.function
 glob:X.env.globals=mainGlobals
 blt:X.env.builtins=builtinsNs
 above:X.s₀.heap.objs.size<=X.env.locals
 inj:∀x y c,X.env.cells.lookup x=some c->X.env.cells.lookup y=some c->x=y
 has:∀x,(X.env.kindOf x=some .cell\/X.env.kindOf x=some .free)->∃c,X.env.cells.lookup x=some c
 cab:∀x c,X.fn x=true->X.env.cells.lookup x=some c->X.s₀.heap.objs.size<=c
 hd:X.calm=true->X.A.handled=none
 frames:X.A.frames=some X.stack
 stk:X.stack=X.outer\/(X.stack=X.env::X.outer/\X.env.frame=some X.env.locals)
 exf:∀b∈X.ex,b≠X.env.locals/\∀x c,X.env.cells.lookup x=some c->c≠b
 bs:∀b o,X.base.get? b=some o->X.s₀.heap.get? b=some o/\X.H₀ b=none
 bsz:X.base.objs.size<=X.s₀.heap.objs.size
 noex:∀b o,X.base.get? b=some o->b∉X.ex
 exfs:∀b∈X.ex,b∉X.fs
 funs:X.s₀.heap.FunFrames X.base X.outer
 frf:∀b∈X.fs,X.H₀ b=none
structure Inv(X:Cx)(pins:List (Addr×Obj))(σ:List (Option V))(H:Hp)(s:Shared):Prop where
 ok:X.Ok
 os:s.os=X.s₀.os
 bare:AllBare s.gens
 base:Un X.fs X.ex X.H₀ H X.s₀.heap s.heap
 loc:∃m,s.heap.Ns X.env.locals m/\∀(i:Nat)(x:Str)(v:V),X.N[i]?=some x->σ[i]?=some (some v)->Vis X.env.scope x->∃u,RelV v u/\Look X.env s.heap m x u
 cell:∀x c,X.env.cells.lookup x=some c->∃v,s.heap.IsCell c v
 free:H X.env.locals=none
 freeC:∀x c,X.env.cells.lookup x=some c->H c=none
 pin:∀p∈X.pn++pins,s.heap.get? p.1=some p.2/\H p.1=none/\p.1≠X.env.locals/\p.1∉X.fs/\∀v,p.2.data≠.cell v
 hok:HOk X.prog X.w H s.heap
 len:σ.length=X.N.length
section
variable{X:Cx}{pins:List (Addr×Obj)}{σ:List (Option V)}{H H':Hp}{s:Shared}{h':Heap}
def Cx.Ok.nofr(ok:X.Ok){o:Obj}(e:X.base.get? b=some o):b∉X.fs:=λhb=>by have:=(ok.funs.mem hb).1;rw[e]at this;cases this
theorem Inv.bs(I:Inv X pins σ H s):∀b o,X.base.get? b=some o->s.heap.get? b=some o/\H b=none:=λb o e=>
 ⟨I.base.keep b o (I.ok.bs b o e).1 (I.ok.bs b o e).2 (I.ok.nofr e) (I.ok.noex b o e),I.base.free b o (I.ok.bs b o e).1 (I.ok.bs b o e).2 (I.ok.noex b o e)⟩
def Inv.bk(I:Inv X pins σ H s):∀b o,X.base.get? b=some o->s.heap.get? b=some o:=λb o e=>(I.bs b o e).1
theorem Inv.mod(I:Inv X pins σ H s):Mod X.K X.mg X.base:=I.ok.mod
def Inv.kIn(I:Inv X pins σ H s):X.K.In s.heap:=I.ok.mod.kin.keeps I.bk
theorem Inv.lt(I:Inv X pins σ H s):X.env.locals<s.heap.objs.size:=let ⟨_,hn,_⟩:=I.loc;hn.lt
def Inv.sz(I:Inv X pins σ H s):X.s₀.heap.objs.size<=s.heap.objs.size:=Yv I.ok.above (K8 I.lt)
def Inv.nofs(I:Inv X pins σ H s)(h:s.heap.objs.size<=a):a∉X.fs:=λhb=>by obtain⟨_,o,ho,_⟩:=I.ok.funs.mem hb;exact absurd (Yu (Yn ho) (Yv I.sz h)) (Qb _)
def Inv.cne(I:Inv X pins σ H s):∀x c,X.env.cells.lookup x=some c->c≠X.env.locals:=λx c e z=>by obtain⟨v,o,ho,hd⟩:=I.cell x c e;obtain⟨m,⟨o',es,ep,ho',hd',_⟩,_⟩:=I.loc;rw[z,ho']at ho;cases ho;rw[hd']at hd;cases hd
theorem Inv.funs(I:Inv X pins σ H s):s.heap.FunFrames X.base X.outer:=by
 have all:∀(l:List Env),(∀b∈frs l,b∈X.fs)->X.s₀.heap.FunFrames X.base l->s.heap.FunFrames X.base l:=by
  intro l
  induction l with
  |nil=>intro _ _;trivial
  |cons env r ih=>
   intro hs hl;obtain⟨hk,⟨L,o,hf,hn,ho,hd⟩,hr⟩:=hl
   have hL:L∈X.fs:=hs L (by unfold frs;rw[Uh,hf];exact Z2)
   obtain⟨sl,e⟩:=I.base.slot L o ho (I.ok.frf L hL) hL λz=>I.ok.exfs L z hL
   exact⟨hk,⟨L,_,hf,hn,e,hd⟩,ih (λb hb=>hs b (by unfold frs;rw[Uh,hf];exact Yz _ hb)) hr⟩
 exact all X.outer (λ_ hb=>hb) I.ok.funs
theorem Inv.stack(I:Inv X pins σ H s):s.heap.FunFrames X.base X.stack:=by
 rcases I.ok.stk with e|⟨e,hf⟩
 .rw[e];exact I.funs
 .rw[e];obtain⟨m,hn,_⟩:=I.loc
  refine .cons (by rw[I.ok.kind];decide) hf hn ?_ I.funs
  exact Qu (Yv I.ok.bsz I.ok.above)
def Inv.stkSub(I:Inv X pins σ H s):∀b∈frs X.stack,b∈X.env.locals::X.fs:=λb hb=>by
 rcases I.ok.stk with e|⟨e,hf⟩
 .rw[e]at hb;exact Yz _ hb
 .rw[e]at hb;unfold frs at hb;rw[Uh,hf]at hb;exact hb
def Inv.stkFree(I:Inv X pins σ H s):∀b∈frs X.stack,H b=none:=λb hb=>by
 rcases Yc.mp (I.stkSub b hb) with e|hb
 .rw[e];exact I.free
 .obtain⟨_,o,ho,_⟩:=I.ok.funs.mem hb;exact I.base.free b o ho (I.ok.frf b hb) λz=>I.ok.exfs b z hb
def Inv.step{g':Array GenState}{t':Nat}{d':Drawn}{ch:List Addr}(I:Inv X pins σ H s)
  (hch:∀b∈ch,(b∈X.ex\/X.s₀.heap.objs.size<=b)/\b≠X.env.locals/\(∀x c,X.env.cells.lookup x=some c->c≠b)/\∀p∈X.pn++pins,p.1≠b)
  (keep:∀b o,b≠X.env.locals->b∉X.fs->b∉ch->s.heap.get? b=some o->H b=none->h'.get? b=some o)
  (slot:∀b o,b≠X.env.locals->b∈X.fs->b∉ch->s.heap.get? b=some o->H b=none->∃sl,h'.get? b=some { o with slots:=sl }) (free:∀b o,b∉ch->s.heap.get? b=some o->H b=none->H' b=none)
  (there:∀b o,b∉ch->s.heap.get? b=some o->∃o',h'.get? b=some o')
  (tups:∀b xs,H b=some (.tup xs)->H' b=some (.tup xs)) (frzs:∀b o u,H b=some (.frz o u)->H' b=some (.frz o u)) (tbls:∀b ps,H b=some (.tbl ps)->∃more,H' b=some (.tbl (ps++more)))
  (ns:∀m,s.heap.Ns X.env.locals m->h'.Ns X.env.locals m) (hok:HOk X.prog X.w H' h') (hg:AllBare g'):
  Inv X pins σ H' { s with heap:=h',gens:=g',drawn:=d',toks:=t' }:=by
 have neL:∀b o,X.s₀.heap.get? b=some o->b≠X.env.locals:=λb o e=>Yt (Yu (Yn e) I.ok.above)
 have neC:∀b o,X.s₀.heap.get? b=some o->b∉X.ex->b∉ch:=λb o e hx hb=>by
  rcases(hch b hb).1 with z|z
  .exact hx z
  .exact absurd (Yu (Yn e) z) (Qb _)
 have cellK:∀x c,X.env.cells.lookup x=some c->∀v,s.heap.IsCell c v->h'.IsCell c v:=λx c e v ⟨o,ho,hd⟩=>by
  have nch:c∉ch:=λz=>(hch c z).2.2.1 x c e rfl;by_cases hc:c∈X.fs
  .obtain⟨sl,q⟩:=slot c o (I.cne x c e) hc nch ho (I.freeC x c e);exact⟨_,q,hd⟩
  .exact⟨o,keep c o (I.cne x c e) hc nch ho (I.freeC x c e),hd⟩
 refine⟨I.ok,I.os,hg,⟨λb o e n hb hx=>?_,λb o e n hb hx=>?_,λb o e n hx=>?_,λb o e hx=>?_,λb xs e=>tups b xs (I.base.tups b xs e),λb o xs e=>frzs b o xs (I.base.frzs b o xs e),λb ps e=>?_⟩,?_,λx c e=>?_,?_,λx c e=>?_,λp hp=>?_,hok,I.len⟩
 .exact keep b o (neL b o e) hb (neC b o e hx) (I.base.keep b o e n hb hx) (I.base.free b o e n hx)
 .obtain⟨sl,e1⟩:=I.base.slot b o e n hb hx;obtain⟨sl',e2⟩:=slot b _ (neL b o e) hb (neC b o e hx) e1 (I.base.free b o e n hx);exact⟨sl',e2⟩
 .obtain⟨o',e1⟩:=I.base.there b o e hx;exact free b o' (neC b o e hx) e1 (I.base.free b o e n hx)
 .obtain⟨o',e1⟩:=I.base.there b o e hx;exact there b o' (neC b o e hx) e1
 .obtain⟨m1,e1⟩:=I.base.tbls b ps e;obtain⟨m2,e2⟩:=tbls b _ e1
  exact⟨m1++m2,by rw[e2,Array.append_assoc]⟩
 .obtain⟨m,hn,hl⟩:=I.loc;refine⟨m,ns m hn,λi x v e1 e2 e3=>?_⟩;obtain⟨u,r,l⟩:=hl i x v e1 e2 e3;refine⟨u,r,?_⟩;rcases l with l|⟨k,c,e,z⟩
  .exact .inl l
  .exact .inr ⟨k,c,e,cellK x c e _ z⟩
 .obtain⟨v,z⟩:=I.cell x c e;exact⟨v,cellK x c e v z⟩
 .obtain⟨m,⟨o,_,_,ho,_⟩,_⟩:=I.loc;exact free _ o (λz=>(hch _ z).2.1 rfl) ho I.free
 .obtain⟨v,o,ho,hd⟩:=I.cell x c e;exact free c o (λz=>(hch c z).2.2.1 x c e rfl) ho (I.freeC x c e)
 .obtain⟨e,n,ne,nf,d⟩:=I.pin p hp;have nch:p.1∉ch:=λz=>(hch p.1 z).2.2.2 p hp rfl;exact⟨keep p.1 p.2 ne nf nch e n,free p.1 p.2 nch e n,ne,nf,d⟩
def Inv.un{t':Nat}(I:Inv X pins σ H s)(u:Un X.fs [] H H' s.heap h')(hok:HOk X.prog X.w H' h'):Inv X pins σ H' { s with heap:=h',toks:=t' }:=by
 obtain⟨m,⟨o,es,ep,ho,r⟩,_⟩:=id I.loc
 obtain⟨sl,hL⟩:=u.any ho I.free (by simp)
 exact I.step (g':=s.gens) (d':=s.drawn) (ch:=[]) (λ_ z=>nomatch z) (λb o _ hb _ e n=>u.keep b o e n hb (by simp)) (λb o _ hb _ e n=>u.slot b o e n hb (by simp)) (λb o _ e n=>u.free b o e n (by simp)) (λb o _ e=>u.there b o e (by simp)) u.tups u.frzs u.tbls (λm' hm=>by
  obtain⟨o',es',ep',ho',r'⟩:=hm;rw[ho]at ho';cases ho'
  exact⟨_,es',ep',hL,r'⟩) hok I.bare
def Inv.call{g':Array GenState}{t':Nat}{d':Drawn}{ch:List Addr}(I:Inv X pins σ H s)(u:Un (frs X.stack) ch H H' s.heap h')(hok:HOk X.prog X.w H' h')(hg:AllBare g')
  (hch:∀b∈ch,(b∈X.ex\/X.s₀.heap.objs.size<=b)/\b≠X.env.locals/\(∀x c,X.env.cells.lookup x=some c->c≠b)/\∀p∈X.pn++pins,p.1≠b):
  Inv X pins σ H' { s with heap:=h',gens:=g',drawn:=d',toks:=t' }:=by
 obtain⟨m,⟨o,es,ep,ho,r⟩,_⟩:=id I.loc;obtain⟨sl,hL⟩:=u.any ho I.free λz=>(hch _ z).2.1 rfl
 exact I.step (ch:=ch) hch (λb o hL hb hc e n=>u.keep b o e n (λz=>(Yc.mp (I.stkSub b z)).elim hL hb) hc) (λb o _ _ hc e n=>u.any e n hc) (λb o hc e n=>u.free b o e n hc) (λb o hc e=>u.there b o e hc) u.tups u.frzs u.tbls (λm' hm=>by
  obtain⟨o',es',ep',ho',r'⟩:=hm;rw[ho]at ho';cases ho'
  exact⟨_,es',ep',hL,r'⟩) hok hg
def Inv.turned{t':Nat}{it:Addr}(I:Inv X pins σ H s)(k:∀b o,b≠it->s.heap.get? b=some o->h'.get? b=some o)(hn:H it=none)(hL:it≠X.env.locals)
  (h1:it∈X.ex\/X.s₀.heap.objs.size<=it) (h2:∀x c,X.env.cells.lookup x=some c->c≠it) (h3:∀p∈X.pn++pins,p.1≠it):Inv X pins σ H { s with heap:=h',toks:=t' }:=by
 have nit:∀b u,H b=some u->b≠it:=λb u e z=>by rw[z,hn]at e;cases e
 refine I.step (g':=s.gens) (d':=s.drawn) (ch:=[it]) (λb hb=>?_) (λb o _ _ hc e _=>k b o (λz=>hc (by simp[z])) e) (λb o _ _ hc e _=>⟨o.slots,k b o (λz=>hc (by simp[z])) e⟩) (λ_ _ _ _ n=>n)
  (λb o hc e=>⟨o,k b o (λz=>hc (by simp[z])) e⟩) (λ_ _ e=>e) (λ_ _ _ e=>e) (λb ps e=>⟨#[],by rw[e];simp⟩) (λm hm=>?_) (λb u e=>?_) I.bare
 .have e:b=it:=by simpa using hb
  subst e;exact⟨h1,hL,h2,h3⟩
 .obtain⟨o,es,ep,ho,r⟩:=hm;exact⟨o,es,ep,k _ o (Ne.symm hL) ho,r⟩
 .refine(I.hok b u e).stay (λc v hc q=>k c v ?_ q) (λ_ q=>q) λ_ _ q=>q;rcases hc with z|z
  .rw[z];exact nit b u e
  .exact nit c _ z
def Inv.tok(I:Inv X pins σ H s)(t:Nat):Inv X pins σ H { s with toks:=t }:=I.un (h':=s.heap) (t':=t) Un.refl I.hok
theorem Inv.kept{t':Nat}(I:Inv X pins σ H s)(k:∀b u,s.heap.get? b=some u->h'.get? b=some u):Inv X pins σ H { s with heap:=h',toks:=t' }:=I.un (Un.kept k) (I.hok.kept k)
theorem Inv.laid{t':Nat}(I:Inv X pins σ H s)(k:∀b u,s.heap.get? b=some u->h'.get? b=some u)(hp:s.heap.objs.size<=a)(new:bR X.prog X.w (upd H a o) h' a o):
  Inv X pins σ (upd H a o) { s with heap:=h',toks:=t' }:=I.un (Un.laid k hp (I.hok.fresh hp)) (I.hok.laid k hp new)
theorem Inv.write{x e:Addr}{o:HO}{t':Nat}(I:Inv X pins σ H s)(mu:Mut (H x))(he:e=x\/H e=some (.own x))(k:∀b u,b≠e->s.heap.get? b=some u->h'.get? b=some u)(heo:∃u,h'.get? e=some u)
  (new:bR X.prog X.w (upd H x o) h' x o):Inv X pins σ (upd H x o) { s with heap:=h',toks:=t' }:=I.un (Un.write mu he k heo) (I.hok.write mu he k heo new)
def Inv.pins_of{pins':List (Addr×Obj)}(I:Inv X pins σ H s)(h:∀p∈pins',s.heap.get? p.1=some p.2/\H p.1=none/\p.1≠X.env.locals/\p.1∉X.fs/\∀v,p.2.data≠.cell v):Inv X pins' σ H s:=
 ⟨I.ok,I.os,I.bare,I.base,I.loc,I.cell,I.free,I.freeC,λp hp=>(Yy.mp hp).elim (λz=>I.pin p (Zs _ z)) (h p),I.hok,I.len⟩
def ue{N:List Str}(hN:N.Nodup)(a:N[i]?=some x)(b:N[j]?=some x):i=j:=by obtain⟨h1,e1⟩:=Y9.mp a;obtain⟨h2,e2⟩:=Y9.mp b;exact(List.getElem_inj hN).mp (e1.trans e2.symm)
def qu{M:Model}{A:Around}{E:Value->Shared->Prop}{v:V}{Q:Unit->Shared->Prop}(I:Inv X pins σ H s)(hN:X.N.Nodup)(hi:X.N[i]?=some x)(hx:Loc X.env.scope x)(r:RelV v u)
  (h:∀s',Inv X pins (σ.set i (some v)) H s'->(∃a,Heap.SameBut a s.heap s'.heap/\(a=X.env.locals\/X.env.cells.lookup x=some a))->Q () s') (hf:X.fn x=true\/X.env.scope.names.lookup x=some .local):wpAny M A (storeName X.env x u) Q E s:=by
 obtain⟨m,hn,hl⟩:=id I.loc
 have hcls:(X.env.scope.kind == .class||(X.env.scope.kind == .module&&X.env.locals != X.env.globals))=false:=by rw[I.ok.kind];rfl
 have hiσ:i < σ.length:=by rw[I.len];exact(Y9.mp hi).1
 have cne:=I.cne
 have tracked:∀{a:Addr}{h':Heap},(∃o,s.heap.get? a=some o/\H a=none)->Heap.SameBut a s.heap h'->HOk X.prog X.w H h':=λ{a h'} ha hs b ob e=>by
  obtain⟨_,_,hfree⟩:=ha;refine(I.hok b ob e).stay (λc w' hc q=>(hs.2 c ?_).trans q) (λ_ q=>q) λ_ _ q=>q;rintro rfl;rcases hc with rfl|hc
  .rw[hfree]at e;cases e
  .rw[hfree]at hc;cases hc
 rcases hx with hk|hk
 .refine wpAny_storeName_local hk hn (λh' hn' hs=>?_) hcls;obtain⟨oL,_,_,hoL,_⟩:=id hn
  refine h _ ⟨I.ok,I.os,I.bare,⟨λb o e n hb hx=>?_,λb o e n hb hx=>?_,I.base.free,λb o e hx=>?_,I.base.tups,I.base.frzs,I.base.tbls⟩,⟨_,hn',λj y v' e1 e2 e3=>?_⟩,λy c e=>?_,I.free,I.freeC,λp hp=>?_,tracked ⟨oL,hoL,I.free⟩ hs,by simpa using I.len⟩ ⟨_,hs,.inl rfl⟩
  .exact(hs.2 b (Yt (Yu (Yn e) I.ok.above))).trans (I.base.keep b o e n hb hx)
  .obtain⟨sl,e1⟩:=I.base.slot b o e n hb hx;exact⟨sl,(hs.2 b (Yt (Yu (Yn e) I.ok.above))).trans e1⟩
  .obtain⟨o',e1⟩:=I.base.there b o e hx;exact⟨o',(hs.2 b (Yt (Yu (Yn e) I.ok.above))).trans e1⟩
  .by_cases hj:j=i
   .subst hj;rw[hi]at e1;cases e1;rw[Z4 hiσ]at e2;cases e2
    exact⟨u,r,.inl ⟨hk,by simp⟩⟩
   .rw[Z3 (Ne.symm hj)]at e2;obtain⟨u',r',q⟩:=hl j y v' e1 e2 e3;refine⟨u',r',?_⟩;rcases q with⟨k,e⟩|⟨k,c,e,z⟩
    .refine .inl ⟨k,?_⟩;have:y≠x:=λe=>hj (ue hN e1 (e▸hi));simp[this,e]
    .exact .inr ⟨k,c,e,z.sameBut hs (cne y c e)⟩
  .obtain⟨w',z⟩:=I.cell y c e;exact⟨w',z.sameBut hs (cne y c e)⟩
  .obtain⟨e,n,ne,nf,d⟩:=I.pin p hp;exact⟨(hs.2 p.1 ne).trans e,n,ne,nf,d⟩
 .have hfn:X.fn x=true:=by
   rcases hf with z|z
   .exact z
   .rw[z]at hk;cases hk
  obtain⟨c,hc⟩:=I.ok.has x (.inl hk);obtain⟨w',z⟩:=I.cell x c hc;refine wpAny_storeName_cell I.ok.kind hk hc z (λh' hc' hs=>?_);obtain⟨oc,hoc,hocd⟩:=id z
  refine h { s with heap:=h' } ⟨I.ok,I.os,I.bare,⟨λb o e n hb hx=>?_,λb o e n hb hx=>?_,I.base.free,λb o e hx=>?_,I.base.tups,I.base.frzs,I.base.tbls⟩,⟨m,hn.sameBut hs (Ne.symm (cne x c hc)),λj y v' e1 e2 e3=>?_⟩,λy c' e=>?_,I.free,I.freeC,λp hp=>?_,tracked ⟨oc,hoc,I.freeC x c hc⟩ hs,by simpa using I.len⟩ ⟨c,hs,.inr hc⟩
  .exact(hs.2 b (Yt (Yu (Yn e) (I.ok.cab x c hfn hc)))).trans (I.base.keep b o e n hb hx)
  .obtain⟨sl,e1⟩:=I.base.slot b o e n hb hx;exact⟨sl,(hs.2 b (Yt (Yu (Yn e) (I.ok.cab x c hfn hc)))).trans e1⟩
  .obtain⟨o',e1⟩:=I.base.there b o e hx;exact⟨o',(hs.2 b (Yt (Yu (Yn e) (I.ok.cab x c hfn hc)))).trans e1⟩
  .by_cases hj:j=i
   .subst hj;rw[hi]at e1;cases e1;rw[Z4 hiσ]at e2;cases e2;exact⟨u,r,.inr ⟨.inl hk,c,hc,hc'⟩⟩
   .rw[Z3 (Ne.symm hj)]at e2;obtain⟨u',r',q⟩:=hl j y v' e1 e2 e3;refine⟨u',r',?_⟩;rcases q with q|⟨k,c',e,z'⟩
    .exact .inl q
    .refine .inr ⟨k,c',e,z'.sameBut hs ?_⟩;rintro rfl;exact hj (ue hN e1 (I.ok.inj _ _ _ e hc▸hi))
  .by_cases hcc:c'=c
   .subst hcc;exact⟨_,hc'⟩
   .obtain⟨w2,z2⟩:=I.cell y c' e;exact⟨w2,z2.sameBut hs hcc⟩
  .obtain⟨e,n,ne,nf,d⟩:=I.pin p hp;refine⟨(hs.2 p.1 ?_).trans e,n,ne,nf,d⟩;intro q;rw[q,hoc]at e;have q':oc=p.2:=Za e
   exact d w' (by rw[<- q'];exact hocd)
def kX{M:Model}{A:Around}{E:Value->Shared->Prop}{v:V}{Q:Unit->Shared->Prop}(I:Inv X pins σ H s)(hN:X.N.Nodup)(hi:X.N[i]?=some x)(hx:Loc X.env.scope x)(r:RelV v u)
  (h:∀s',Inv X pins (σ.set i (some v)) H s'->Q () s') (hf:X.fn x=true\/X.env.scope.names.lookup x=some .local):wpAny M A (storeName X.env x u) Q E s:=
 qu I hN hi hx r (λs' I' _=>h s' I') hf
def Inv.call'{s':Shared}{ch:List Addr}(I:Inv X pins σ H s)(ho:s'.os=s.os)(u:Un (frs X.stack) ch H H' s.heap s'.heap)(hok:HOk X.prog X.w H' s'.heap)(hg:AllBare s'.gens)
  (hch:∀b∈ch,(b∈X.ex\/X.s₀.heap.objs.size<=b)/\b≠X.env.locals/\(∀x c,X.env.cells.lookup x=some c->c≠b)/\∀p∈X.pn++pins,p.1≠b):Inv X pins σ H' s':=by
 obtain⟨h',g',d',t',o'⟩:=s';have e:o'=s.os:=ho;subst e;exact I.call (g':=g') (t':=t') (d':=d') u hok hg hch
end
abbrev XK:=Value->Option Addr->Hp->Prop
abbrev St:=List (Option V)
variable{σ:St}
abbrev VK:=V->Hp->Prop
abbrev TE:=St->Hp->VK->Prop
abbrev TT:=St->Hp->(Bool->Hp->Prop)->Prop
abbrev TA:=St->Hp->(List V->Hp->Prop)->Prop
set_option genInjectivity false in
structure Ends where
 nx:St->Hp->Prop
 rt:VK
 bk:St->Hp->Prop:=λ_ _=>False
 ct:St->Hp->Prop:=λ_ _=>False
abbrev TS:=Ends->St->Hp->Prop
def EP(X:Cx)(pins:List (Addr×Obj))(σ:St)(Q:VK)(u:Value)(s':Shared):Prop:=∃v H',Inv X pins σ H' s'/\RelV v u/\Q v H'
def TP(X:Cx)(pins:List (Addr×Obj))(σ:St)(Q:Bool->Hp->Prop)(b:Bool)(s':Shared):Prop:=∃H',Inv X pins σ H' s'/\Q b H'
def AP(X:Cx)(pins:List (Addr×Obj))(σ:St)(Q:List V->Hp->Prop)(us:List Value)(s':Shared):Prop:=∃vs H',Inv X pins σ H' s'/\Vals vs us/\Q vs H'
def SP(X:Cx)(pins:List (Addr×Obj))(D:Ends)(f:Flow)(s':Shared):Prop:=
 match f with
 |.next=>∃σ' H',Inv X pins σ' H' s'/\D.nx σ' H'
 |.brk=>∃σ' H',Inv X pins σ' H' s'/\D.bk σ' H'
 |.cont=>∃σ' H',Inv X pins σ' H' s'/\D.ct σ' H'
 |.ret u=>∃v σ' H',Inv X pins σ' H' s'/\RelV v u/\D.rt v H'
def PE(X:Cx)(e:Expr)(t:TE):Prop:=
 ∀(pins:List (Addr×Obj))(s:Shared)(σ:St)(H:Hp)(Q:VK),Inv X pins σ H s->t σ H Q->wpAny (model X.prog X.w) X.A (eval e X.env) (EP X pins σ Q) X.xe s
def PT(X:Cx)(e:Expr)(t:TT):Prop:=
 ∀(pins:List (Addr×Obj))(s:Shared)(σ:St)(H:Hp)(Q:Bool->Hp->Prop),Inv X pins σ H s->t σ H Q->wpAny (model X.prog X.w) X.A (isTrue e X.env (eval e X.env)) (TP X pins σ Q) X.xe s
def PW(X:Cx)(e:Expr)(t:TT):Prop:=
 ∀(whole:Sem Value)(pins:List (Addr×Obj))(s:Shared)(σ:St)(H:Hp)(Q:Bool->Hp->Prop),Inv X pins σ H s->t σ H Q->wpAny (model X.prog X.w) X.A (isTrue e X.env whole) (TP X pins σ Q) X.xe s
def PW.pt{t:TT}(h:PW X e t):PT X e t:=h _
def PA(X:Cx)(es:List Expr)(t:TA):Prop:=
 ∀(pos:Pos)(pins:List (Addr×Obj))(s:Shared)(σ:St)(H:Hp)(Q:List V->Hp->Prop),Inv X pins σ H s->t σ H Q->wpAny (model X.prog X.w) X.A (spliced (backTo pos (starEach es X.env))) (AP X pins σ Q) X.xe s
def PS(X:Cx)(st:Stmt)(t:TS):Prop:=
 ∀(pins:List (Addr×Obj))(s:Shared)(σ:St)(H:Hp)(D:Ends),Inv X pins σ H s->t D σ H->wpAny (model X.prog X.w) X.A (exec st X.env) (SP X pins D) X.xe s
def PSs(X:Cx)(st:List Stmt)(t:TS):Prop:=
 ∀(pins:List (Addr×Obj))(s:Shared)(σ:St)(H:Hp)(D:Ends),Inv X pins σ H s->t D σ H->wpAny (model X.prog X.w) X.A (execs st X.env) (SP X pins D) X.xe s
def thn{α:Type}{t:Sem α}{Q Q':α->Shared->Prop}{M:Model}{E:Value->Shared->Prop}(h:wpAny M A t Q E s)(hQ:∀a s,Q a s->Q' a s):wpAny M A t Q' E s:=Qv h hQ λ_ _ x=>x
section
variable{X:Cx}
def Iu(i:Nat):TE:=λσ H Q=>∃v,σ[i]?=some (some v)/\Q v H
def tC(v:V):TE:=λ_ H Q=>Q v H
def FE(hN:X.N[i]?=some x)(hv:Vis X.env.scope x)(hd:autoParam ((x == ("__debug__":Str))=false) zz2._auto_1)(hcd:autoParam ((x == ("__classdict__":Str))=false) zz2._auto_1):PE X (.Name x pos) (Iu i):=by
 intro pins s σ H Q I h;obtain⟨v,e,h⟩:=h;obtain⟨m,hn,hl⟩:=I.loc;obtain⟨u,r,l⟩:=hl i x v hN e hv;have fin:EP X pins σ Q u s:=⟨v,H,I,r,h⟩;rcases l with⟨hk,hm⟩|⟨hk,c,hc,hcell⟩
 .exact wpAny_Name (wpAny_loadName_local I.ok.kind hk hn hm fin) hd
 .rcases hk with hk|hk
  .exact wpAny_Name (wpAny_loadName_cell I.ok.kind hk hc hcell fin) hd
  .exact wpAny_Name (wpAny_loadName_free I.ok.kind hk hc hcell fin hcd) hd
def FF{i j pos}:PE X (.Constant (.int i) j pos) (tC (.int i)):=λ_ _ _ H _ I h=>wpAny_Constant_int ⟨.int i,H,I.tok _,⟨_,rfl⟩,h⟩
def Iv{b j pos}:PE X (.Constant (.bool b) j pos) (tC (.bl b)):=λ_ _ _ H _ I h=>Constant_bool ⟨.bl b,H,I,rfl,h⟩
def FG{j pos}:PE X (.Constant .none j pos) (tC .non):=λ_ _ _ H _ I h=>Constant_none ⟨.non,H,I,rfl,h⟩
def FH{x j pos}:PE X (.Constant (.str x) j pos) (tC (.str x)):=λ_ _ _ H _ I h=>Calls.Constant_str ⟨.str x,H,I.tok _,⟨_,rfl⟩,h⟩
def Gl(X:Cx)(x:Str):Prop:=X.env.kindOf x=some .globalImplicit
def rX{E:Value->Shared->Prop}{pos:Pos}{Q:Value->Shared->Prop}(I:Inv X pins σ H s)(hg:Gl X x)(hm:X.mg x=some u)(h:Q u s)
  (hd:autoParam ((x == ("__debug__":Str))=false) zz2._auto_1):wpAny (model X.prog X.w) X.A (eval (.Name x pos) X.env) Q E s:=
 Calls.Name_function_global I.ok.kind hg (Calls.loadGlobal_global (by rw[I.ok.glob];exact I.mod.glob.keeps I.bk) hm h) hd
def lW{E:Value->Shared->Prop}{pos:Pos}{Q:Value->Shared->Prop}(I:Inv X pins σ H s)(hg:Gl X x)(hm:X.mg x=none)(hv:bootBuiltins x=some u)(h:Q u s)
  (hn:autoParam (x ≠ "__name__") zz2._auto_1) (hd:autoParam ((x == ("__debug__":Str))=false) zz2._auto_1):wpAny (model X.prog X.w) X.A (eval (.Name x pos) X.env) Q E s:=by
 obtain⟨mb,h1,h2⟩:=I.mod.blt
 exact Calls.Name_function_global I.ok.kind hg (Calls.loadGlobal_builtin (by rw[I.ok.glob];exact I.mod.glob.keeps I.bk) hm (by rw[I.ok.blt];exact h1.keeps I.bk) ((h2 x hn).trans hv) h) hd
def iG{v:V}(hg:Gl X x)(hm:X.mg x=some u)(r:RelV v u)(hd:autoParam ((x == ("__debug__":Str))=false) zz2._auto_1):PE X (.Name x pos) (tC v):=
 λ_ _ _ H _ I h=>rX I hg hm ⟨v,H,I,r,h⟩ hd
def C7{v:V}(hg:Gl X x)(hm:X.mg x=none)(hv:bootBuiltins x=some u)(r:RelV v u)(hn:autoParam (x ≠ "__name__") zz2._auto_1)(hd:autoParam ((x == ("__debug__":Str))=false) zz2._auto_1):PE X (.Name x pos) (tC v):=
 λ_ _ _ H _ I h=>lW I hg hm hv ⟨v,H,I,r,h⟩ hn hd
variable{a b:Expr}{ta tb:TE}{pos:Pos}
def tB(t:TE):TT:=λσ H Q=>t σ H λx H1=>∃c,x=.bl c/\Q c H1
def FI{t:TE}(h:PE X e t)(he:autoParam (∀whole,isTrue e X.env whole=(do let v <- whole;standAt e.pos;holding [v] (truthy v))) zz5._auto_1):PT X e (tB t):=by intro pins s σ H Q I hw;refine isTrue_plain (thn (h pins s σ H _ I hw) λv s1 zq=>?_) (he _);obtain⟨x,H1,I1,r1,q1⟩:=zq;obtain⟨d,rfl,q⟩:=q1;cases r1;exact Qc ⟨H1,I1,q⟩
variable{tA tB':TT}{rest:List Expr}
def ot(t u:TT):TT:=λσ H Q=>t σ H λc H1=>if c=true then u σ H1 Q else Q false H1
def tOr(t u:TT):TT:=λσ H Q=>t σ H λc H1=>if c=true then Q true H1 else u σ H1 Q
def je(t:TT):TT:=λσ H Q=>t σ H λc H1=>Q (!c) H1
def C8(ha:PT X a tA):PW X (.BoolOp .And [a] pos) tA:=by
 intro wh pins s σ H Q I h;refine isTrue_and (thn (ha pins s σ H Q I h) λc s1 e=>?_);cases c with
 |true=>exact isTrue_and_nil e
 |false=>exact e
def FJ(ha:PT X a tA):PW X (.BoolOp .Or [a] pos) tA:=by
 intro wh pins s σ H Q I h;refine isTrue_or (thn (ha pins s σ H Q I h) λc s1 e=>?_);cases c with
 |false=>exact isTrue_or_nil e
 |true=>exact e
def FK(ha:PT X a tA)(hb:PW X (.BoolOp .And (b::rest) pos) tB'):PW X (.BoolOp .And (a::b::rest) pos) (ot tA tB'):=by
 intro wh pins s σ H Q I h;refine isTrue_and (thn (ha pins s σ H _ I h) λc s1 zq=>?_);obtain⟨H1,I1,q1⟩:=zq;cases c with
 |true=>exact hb wh pins s1 σ H1 Q I1 q1
 |false=>exact⟨H1,I1,q1⟩
def Iw(ha:PT X a tA)(hb:PW X (.BoolOp .Or (b::rest) pos) tB'):PW X (.BoolOp .Or (a::b::rest) pos) (tOr tA tB'):=by
 intro wh pins s σ H Q I h;refine isTrue_or (thn (ha pins s σ H _ I h) λc s1 zq=>?_);obtain⟨H1,I1,q1⟩:=zq;cases c with
 |true=>exact⟨H1,I1,q1⟩
 |false=>exact hb wh pins s1 σ H1 Q I1 q1
def FL(ha:PT X a tA):PT X (.UnaryOp .Not a pos) (je tA):=by intro pins s σ H Q I h;exact isTrue_not (ha pins s σ H (λc H1=>Q (!c) H1) I h)
def Iy(ta tb:TE):TE:=λσ H Q=>ta σ H λx H1=>∃c,x=.bl c/\if c=true then tb σ H1 Q else Q (.bl false) H1
def JS(ta tb:TE):TE:=λσ H Q=>ta σ H λx H1=>∃c,x=.bl c/\if c=true then Q (.bl true) H1 else tb σ H1 Q
def Iz(ta:TE):TE:=λσ H Q=>ta σ H λx H1=>∃c,x=.bl c/\Q (.bl (!c)) H1
def AJ{op}{t:TE}(h:PE X a t):PE X (.BoolOp op [a] pos) t:=λpins s σ H Q I hw=>BoolOp_one (h pins s σ H Q I hw)
def FN(ha:PE X a ta)(hb:PE X (.BoolOp .And (b::rest) pos) tb):PE X (.BoolOp .And (a::b::rest) pos) (Iy ta tb):=by
 intro pins s σ H Q I h;refine BoolOp_and (thn (ha pins s σ H _ I h) λv s1 zq=>?_);obtain⟨x,H1,I1,r1,q1⟩:=zq;obtain⟨c,rfl,q1⟩:=q1;cases r1;refine Qc ?_;cases c with
 |true=>exact hb pins s1 σ H1 Q I1 q1
 |false=>exact⟨.bl false,H1,I1,rfl,q1⟩
def IA(ha:PE X a ta)(hb:PE X (.BoolOp .Or (b::rest) pos) tb):PE X (.BoolOp .Or (a::b::rest) pos) (JS ta tb):=by
 intro pins s σ H Q I h;refine BoolOp_or (thn (ha pins s σ H _ I h) λv s1 zq=>?_);obtain⟨x,H1,I1,r1,q1⟩:=zq;obtain⟨c,rfl,q1⟩:=q1;cases r1;refine Qc ?_;cases c with
 |false=>exact hb pins s1 σ H1 Q I1 q1
 |true=>exact⟨.bl true,H1,I1,rfl,q1⟩
def FO(ha:PE X a ta):PE X (.UnaryOp .Not a pos) (Iz ta):=by intro pins s σ H Q I h;refine UnaryOp_ (thn (ha pins s σ H _ I h) λv s1 zq=>?_);obtain⟨x,H1,I1,r1,q1⟩:=zq;obtain⟨c,rfl,q1⟩:=q1;cases r1;exact not_of (Qc ⟨.bl (!c),H1,I1,rfl,q1⟩)
def tIf(t:TT)(ta tb:TE):TE:=λσ H Q=>t σ H λc H1=>if c=true then ta σ H1 Q else tb σ H1 Q
def AK(hc:PT X c tA)(ha:PE X a ta)(hb:PE X b tb):PE X (.IfExp c a b pos) (tIf tA ta tb):=by
 intro pins s σ H Q I h;refine wpAny_IfExp (thn (hc pins s σ H _ I h) λd s1 zq=>?_);obtain⟨H1,I1,q1⟩:=zq;cases d with
 |true=>exact ha pins s1 σ H1 Q I1 q1
 |false=>exact hb pins s1 σ H1 Q I1 q1
end
def SqL(K:Frag)(H:Hp)(a:Addr)(xs:List V):Prop:=
 Rd H a (.lst xs) \/
  ∃(o:Obj)(its:Array Value)(n:Nat),K.lookup a=some o/\o.cls=.type "list"/\o.dict=none/\o.data=.seq its n/\its.size<=sizeLine/\Vals xs its.toList
def SqT(K:Frag)(H:Hp)(a:Addr)(xs:List V):Prop:=
 Rd H a (.tup xs) \/
  ∃(o:Obj)(its:Array Value)(n:Nat),K.lookup a=some o/\o.cls=.type "tuple"/\o.data=.seq its n/\its.size<=sizeLine/\Vals xs its.toList
def JT:Value->Option V
 |.none=>some .non
 |.bool b=>some (.bl b)
 |.int i _=>some (.int i)
 |.str x _=>some (.str x)
 |.bytes b _=>some (.byt b)
 |.float b _=>some (.flt b)
 |.ref a=>some (.ref a)
 |.type n=>some (.ty n)
 |_=>none
def RelV.abs{x:V}(r:RelV x u):JT u=some x:=by
 cases x with
 |non=>cases r;rfl
 |bl _=>cases r;rfl
 |int _=>obtain⟨t,rfl⟩:=r;rfl
 |str _=>obtain⟨t,rfl⟩:=r;rfl
 |byt _=>obtain⟨t,rfl⟩:=r;rfl
 |flt _=>obtain⟨t,rfl⟩:=r;rfl
 |ref _=>cases r;rfl
 |ty _=>cases r;rfl
def RelV.inj{x y:V}(r:RelV x u)(q:RelV y u):x=y:=Za (r.abs.symm.trans q.abs)
theorem Vals.inj:∀{xs ys:List V}{us:List Value},Vals xs us->Vals ys us->xs=ys
 |_,_,_,.nil,.nil=>rfl
 |_,_,_,.cons r t,.cons r' t'=>by rw[r.inj r',Vals.inj t t']
section
variable{X:Cx}{pins:List (Addr×Obj)}{σ:St}{H:Hp}{s:Shared}{a:Addr}{xs ys:List V}
def SqL.of{K:Frag}(h:H a=some (.lst xs)):SqL K H a xs:=.inl (.inl h)
def SqT.of{K:Frag}(h:H a=some (.tup xs)):SqT K H a xs:=.inl (.inl h)
def Inv.list(I:Inv X pins σ H s)(h:SqL X.K H a xs):∃its:List Value,Vals xs its/\PlainL s.heap a its.toArray/\xs.length<=sizeLine:=by
 rcases h with h|⟨o,its,n,hk,hc,hd,hs,hz,r⟩
 .obtain⟨z,its,n,r,e⟩:=h.ok I.hok;exact⟨its,r,⟨_,n,e,rfl,rfl,rfl⟩,z⟩
 .refine⟨its.toList,r,⟨o,n,I.kIn a o hk,hc,hd,by simpa using hs⟩,?_⟩
  have e:=r.length;simp only[W3]at e;omega
def Inv.tuple(I:Inv X pins σ H s)(h:SqT X.K H a xs):∃its:List Value,Vals xs its/\IsTup s.heap a its.toArray/\xs.length<=sizeLine:=by
 rcases h with h|⟨o,its,n,hk,hc,hs,hz,r⟩
 .obtain⟨z,its,r,p⟩:=h.ok I.hok;exact⟨its,r,p,z⟩
 .refine⟨its.toList,r,⟨o,I.kIn a o hk,hc,n,by simpa using hs⟩,?_⟩
  have e:=r.length;simp only[W3]at e;omega
def Inv.list_inj(I:Inv X pins σ H s)(h:SqL X.K H a xs)(h':SqL X.K H a ys):xs=ys:=by
 obtain⟨its,r,⟨o,n,e,_,_,d⟩,_⟩:=I.list h;obtain⟨its',r',⟨o',n',e',_,_,d'⟩,_⟩:=I.list h';rw[e]at e';cases e';rw[d]at d';injection d' with d1 _
 have:its=its':=by simpa using Q8 Array.toList d1
 subst this;exact r.inj r'
def Inv.tuple_inj(I:Inv X pins σ H s)(h:SqT X.K H a xs)(h':SqT X.K H a ys):xs=ys:=by
 obtain⟨its,r,⟨o,e,_,n,d⟩,_⟩:=I.tuple h;obtain⟨its',r',⟨o',e',_,n',d'⟩,_⟩:=I.tuple h';rw[e]at e';cases e';rw[d]at d';injection d' with d1 _
 have:its=its':=by simpa using Q8 Array.toList d1
 subst this;exact r.inj r'
end
abbrev Cx.wish(X:Cx)(E:Value->Shared->Prop):Cx:={ X with xe:=E }
abbrev Cx.nox(X:Cx):Cx:=X.wish λ_ _=>False
theorem Cx.Ok.wish(ok:X.Ok)(E:Value->Shared->Prop):(X.wish E).Ok:=
 ⟨ok.mod,ok.kind,ok.glob,ok.blt,ok.above,ok.inj,ok.has,ok.cab,ok.hd,ok.frames,ok.stk,ok.exf,ok.bs,ok.bsz,ok.noex,ok.exfs,ok.funs,ok.frf⟩
def Cx.Ok.unwish{E:Value->Shared->Prop}(ok:(X.wish E).Ok):X.Ok:=
 ⟨ok.mod,ok.kind,ok.glob,ok.blt,ok.above,ok.inj,ok.has,ok.cab,ok.hd,ok.frames,ok.stk,ok.exf,ok.bs,ok.bsz,ok.noex,ok.exfs,ok.funs,ok.frf⟩
section
variable{X:Cx}{pins:List (Addr×Obj)}{σ:St}{H:Hp}{s:Shared}{E:Value->Shared->Prop}
theorem Inv.wish(I:Inv X pins σ H s)(E:Value->Shared->Prop):Inv (X.wish E) pins σ H s:=⟨I.ok.wish E,I.os,I.bare,I.base,I.loc,I.cell,I.free,I.freeC,I.pin,I.hok,I.len⟩
theorem Inv.unwish(I:Inv (X.wish E) pins σ H s):Inv X pins σ H s:=⟨I.ok.unwish,I.os,I.bare,I.base,I.loc,I.cell,I.free,I.freeC,I.pin,I.hok,I.len⟩
theorem SP.unwish{D:Ends}{f:Flow}{s':Shared}(h:SP (X.wish E) pins D f s'):SP X pins D f s':=by
 cases f with
 |next=>obtain⟨σ',H',I,q⟩:=h;exact⟨σ',H',I.unwish,q⟩
 |brk=>obtain⟨σ',H',I,q⟩:=h;exact⟨σ',H',I.unwish,q⟩
 |cont=>obtain⟨σ',H',I,q⟩:=h;exact⟨σ',H',I.unwish,q⟩
 |ret u=>obtain⟨v,σ',H',I,r,q⟩:=h;exact⟨v,σ',H',I.unwish,r,q⟩
theorem PSs.nox{st:List Stmt}{t:TS}(h:PSs X.nox st t):PSs X st t:=λpins s σ H D I hw=>
 Qv (h pins s σ H D (I.wish _) hw) (λ_ _ q=>q.unwish) λ_ _ z=>False.elim z
end
section
variable{X:Cx}{st:Stmt}{rest:List Stmt}{t u:TS}{e:Expr}{te:TE}{pos:Pos}
def IB:TS:=λD σ H=>D.nx σ H
def JU(t u:TS):TS:=λD σ H=>t { D with nx:=u D } σ H
def x8:PSs X [] IB:=λ_ _ σ H _ I h=>U5 ⟨σ,H,I,h⟩
def AL(h1:PS X st t)(h2:PSs X rest u):PSs X (st::rest) (JU t u):=by
 intro pins s σ H D I h
 refine wpAny_execs_cons (thn (h1 pins s σ H { D with nx:=u D } I h) λf s1 q=>?_)
 cases f with
 |next=>
  obtain⟨σ',H',I',q⟩:=q;exact h2 pins s1 σ' H' D I' q
 |ret v=>exact q
 |brk=>exact q
 |cont=>exact q
def C9(h1:PS X st t):PSs X [st] t:=by
 intro pins s σ H D I h;refine wpAny_execs_cons (thn (h1 pins s σ H D I h) λf s1 q=>?_);cases f with
 |next=>exact U5 q
 |ret v=>exact q
 |brk=>exact q
 |cont=>exact q
def Inv.quiet(I:Inv X pins σ H s):interactive X.env=false:=by simp[interactive,I.ok.kind]
def IC(te:TE):TS:=λD σ H=>te σ H λ_ H1=>D.nx σ H1
def Dc(he:PE X e te)(hs:autoParam (swapsWith e none pos.line X.env=pure false) zz1._auto_1):PS X (.Expr e pos) (IC te):=by intro pins s σ H D I h;exact wpAny_Expr_any (thn (he pins s σ H _ I h) λv s1 zq=>ex5 zq λx H1 I1 r1 q1=>⟨σ,H1,I1,q1⟩) I.quiet hs
def JV(te:TE):TS:=λD σ H=>te σ H D.rt
def FP(he:PE X e te):PS X (.Return (some e) pos) (JV te):=by intro pins s σ H D I h;exact wpAny_Return_some (thn (he pins s σ H _ I h) λv s1 zq=>ex5 zq λx H1 I1 r1 q1=>⟨x,σ,H1,I1,r1,q1⟩)
def JW(c:TT)(t u:TS):TS:=λD σ H=>c σ H λb H1=>if b=true then t D σ H1 else u D σ H1
def ID{a b:List Stmt}{tc:TT}(hc:PT X c tc)(ha:PSs X a t)(hb:PSs X b u):PS X (.If c a b pos) (JW tc t u):=by
 intro pins s σ H D I h;refine wpAny_If (thn (hc pins s σ H _ I h) λd s1 zq=>?_);obtain⟨H1,I1,q1⟩:=zq;cases d with
 |true=>exact ha pins s1 σ H1 D I1 q1
 |false=>exact hb pins s1 σ H1 D I1 q1
def FQ:TS:=λ_ _ _=>False
def AN:PS X st FQ:=λ_ _ _ _ _ _ h=>h.elim
end
abbrev TG:=V->St->Hp->(St->Hp->Prop)->Prop
abbrev TGs:=List V->St->Hp->(St->Hp->Prop)->Prop
def PG(X:Cx)(target:Expr)(t:TG):Prop:=
 ∀(pins:List (Addr×Obj))(s:Shared)(σ:St)(H:Hp)(v:V)(u:Value)(Q:St->Hp->Prop),Inv X pins σ H s->RelV v u->t v σ H Q->
  wpAny (model X.prog X.w) X.A (assign target X.env u) (λ_ s'=>∃σ' H',Inv X pins σ' H' s'/\Q σ' H') X.xe s
def PGs(X:Cx)(ts:List Expr)(t:TGs):Prop:=
 ∀(pins:List (Addr×Obj))(s:Shared)(σ:St)(H:Hp)(vs:List V)(us:List Value)(Q:St->Hp->Prop),Inv X pins σ H s->Vals vs us->t vs σ H Q->
  wpAny (model X.prog X.w) X.A (assignInOrder ((assignEach ts X.env).map (·.2)) us) (λ_ s'=>∃σ' H',Inv X pins σ' H' s'/\Q σ' H') X.xe s
abbrev De:=V->V->V->Hp->(Hp->Prop)->Prop
def rY(X:Cx)(t:De):Prop:=
 ∀(pins:List (Addr×Obj))(s:Shared)(σ:St)(H:Hp)(o i v:V)(ov iv u:Value)(Q:Hp->Prop),Inv X pins σ H s->RelV o ov->RelV i iv->RelV v u->t o i v H Q->
  wpAny (model X.prog X.w) X.A (setItem ov iv u) (λ_ s'=>∃H',Inv X pins σ H' s'/\Q H') X.xe s
section
variable{X:Cx}{pos:Pos}
def AO(i:Nat):TG:=λv σ H Q=>Q (σ.set i (some v)) H
def Df(hN:X.N.Nodup)(hi:X.N[i]?=some x)(hx:Loc X.env.scope x)(hf:X.fn x=true\/X.env.scope.names.lookup x=some .local):PG X (.Name x pos) (AO i):=by intro pins s σ H v u Q I r h;exact wpAny_assign_Name (kX I hN hi hx r (λs' I'=>⟨_,H,I',h⟩) hf)
def JX:TGs:=λvs σ H Q=>vs=[]/\Q σ H
def IE(t:TG)(u:TGs):TGs:=λvs σ H Q=>∃v r,vs=v::r/\t v σ H λσ' H'=>u r σ' H' Q
def Dg:PGs X [] JX:=by intro pins s σ H vs us Q I r h;obtain⟨e,h⟩:=h;subst e;cases r;exact assignInOrder_nil ⟨σ,H,I,h⟩
theorem AQ{es:List Expr}{t:TG}{u:TGs}(h1:PG X e t)(h2:PGs X es u)
  (hs:autoParam ((assignEach (e::es) X.env).map (·.2)=assign e X.env::(assignEach es X.env).map (·.2)) zz1._auto_1):PGs X (e::es) (IE t u):=by
 intro pins s σ H vs us Q I r h;obtain⟨v,vr,e1,h⟩:=h;subst e1;cases r with
 |cons r rr=>
  rw[hs];refine assignInOrder_cons (thn (h1 pins s σ H _ _ _ I r h) λ_ s1 zq=>?_);obtain⟨σ1,H1,I1,q1⟩:=zq;exact h2 pins s1 σ1 H1 _ _ Q I1 rr q1
def JY(K:Frag)(n:Nat)(t:TGs):TG:=λv σ H Q=>∃a xs,v=.ref a/\SqT K H a xs/\xs.length=n/\t xs σ H Q
def FR{es:List Expr}{k:Nat}{t:TGs}{n:Nat}(hc:X.calm=true)(h:PGs X es t)
  (hn:autoParam ((assignEach es X.env).length=n) zz1._auto_1) (hst:autoParam ((assignEach es X.env).findIdx? (·.1)=none) zz1._auto_1):PG X (.Tuple es k pos) (JY X.K n t):=by
 intro pins s σ H v u Q I r hw;obtain⟨a,xs,e1,hq,hl,hw⟩:=hw;subst e1;cases r;obtain⟨its,rv,ht,hz⟩:=I.tuple hq
 refine assign_Tuple_tuple (I.ok.hd hc) ht (by simp[hn,<- hl,rv.length]) hst λh' hx=>?_
 have I1:Inv X pins σ H { s with heap:=h' }:=I.kept (t':=s.toks) λb o e=>hx b o (Yt (Yn e)) e
 exact h pins _ σ H xs _ Q I1 (by simpa using rv) hw
def JZ(to ti:TE)(t:De):TG:=λv σ H Q=>to σ H λo H1=>ti σ H1 λi H2=>t o i v H2 λH3=>Q σ H3
def FU{o i:Expr}{to ti:TE}{t:De}(ho:PE X o to)(hi:PE X i ti)(hs:rY X t)
  (ha:autoParam (∀v,assign (.Subscript o i pos) X.env v=(do
   let ov <- holding [v] (eval o X.env)
   let iv <- holding [v,ov] (eval i X.env)
   standAt pos
   holding [v,ov,iv] (setItem ov iv v)
   release [v,ov,iv] [])) zz5._auto_1):PG X (.Subscript o i pos) (JZ to ti t):=by
 intro pins s σ H v u Q I r h;rw[ha];refine Y6 (Qr (thn (ho pins s σ H _ I h) λov s1 zq=>?_));obtain⟨x,H1,I1,r1,q1⟩:=zq;refine Y6 (Qr (thn (hi pins s1 σ H1 _ I1 q1) λiv s2 zq=>?_));obtain⟨y,H2,I2,r2,q2⟩:=zq;refine Y6 (Uz (Y6 (Qr (thn (hs pins s2 σ H2 x y v ov iv u _ I2 r1 r2 r q2) λ_ s3 zq=>?_))));obtain⟨H3,I3,q3⟩:=zq;exact wpAny_release ⟨σ,H3,I3,q3⟩
def FW(te:TE)(g:TG):TS:=λD σ H=>te σ H λx H1=>g x σ H1 D.nx
def AR{te:TE}{g:TG}(he:PE X e te)(hg:PG X tg g)(hs:autoParam (swapsWithSole [tg] e pos.line X.env=pure false) zz1._auto_1)(hw:autoParam (swappedStores [tg] e X.env=pure none) zz1._auto_1)
  (h1:autoParam ((assignEach [tg] X.env).map (·.2)=[assign tg X.env]) zz1._auto_1):PS X (.Assign [tg] e pos) (FW te g):=by
 intro pins s σ H D I h;refine wpAny_Assign_stores (thn (he pins s σ H _ I h) λv s1 zq=>?_) hs hw;obtain⟨x,H1,I1,r1,q1⟩:=zq;rw[h1];exact thn (hg pins s1 σ H1 x v _ I1 r1 q1) λ_ s2 q=>q
def FX{te:TE}{pos':Pos}(hN:X.N.Nodup)(hi:X.N[i]?=some x)(hx:Loc X.env.scope x)(he:PE X e te)(hs:autoParam (swapsWith e (some (.Name x pos')) pos.line X.env=pure false) zz1._auto_1)(hf:X.fn x=true\/X.env.scope.names.lookup x=some .local):
  PS X (.Assign [.Name x pos'] e pos) (FW te (AO i)):=by
 intro pins s σ H D I h;refine wpAny_Assign_Name (thn (he pins s σ H _ I h) λv s1 zq=>?_) hs;obtain⟨y,H1,I1,r1,q1⟩:=zq;exact kX I1 hN hi hx r1 (λs2 I2=>⟨_,H1,I2,q1⟩) hf
def J0(i j:Nat)(ta:TA):TS:=λD σ H=>ta σ H λvs H1=>∃v w,vs=[v,w]/\D.nx ((σ.set i (some v)).set j (some w)) H1
theorem FY{y:Str}{a b:Expr}{ta:TA}{px py pt:Pos}{kt k2 pt2}(hc:X.calm=true)(hN:X.N.Nodup)(hi:X.N[i]?=some x)(hj:X.N[j]?=some y)(hij:i≠j)
  (hx:X.env.scope.names.lookup x=some .local) (hy:X.env.scope.names.lookup y=some .local) (ha:PA X [a,b] ta)
  (hw:swappedStores [.Tuple [.Name x px,.Name y py] kt pt] (.Tuple [a,b] k2 pt2) X.env=pure (some [x,y]))
  (hs:autoParam (swapsWithSole [.Tuple [.Name x px,.Name y py] kt pt] (.Tuple [a,b] k2 pt2) pos.line X.env=pure false) zz1._auto_1):
  PS X (.Assign [.Tuple [.Name x px,.Name y py] kt pt] (.Tuple [a,b] k2 pt2) pos) (J0 i j ta):=by
 intro pins s σ H D I h;rw[exec_Assign_arm];refine Y6 (Uz ?_);rw[hs];refine Y6 (Ye ?_)
 rw[Yi (by decide)]
 refine Y6 (Tuple_ (thn (ha _ pins s σ H _ I h) λus s1 zq=>?_));obtain⟨vs,H1,I1,r1,q1⟩:=zq;obtain⟨v,w,e1,q1⟩:=q1;subst e1
 obtain⟨u1,u2,rfl,rv,rw'⟩:∃u1 u2,us=[u1,u2]/\RelV v u1/\RelV w u2:=by
  cases r1 with
  |cons p q=>
   cases q with
   |cons p' q'=>
    cases q';exact⟨_,_,rfl,p,p'⟩
 refine Zd ?_ (by show 2<=sizeLine;decide)
 have I2:Inv X pins σ H1 { s1 with heap:=s1.heap.push { cls:=.type "tuple",data:=.seq [u1,u2].toArray } }:=I1.kept (t':=s1.toks) λb o e=>Y7 _ e
 rw[hw];refine Y6 (Ye ?_)
 show wpAny (model X.prog X.w) X.A (do rule "assign.swapped-stores";let items <- unpackItems (.ref s1.heap.objs.size) 2 none;assignInOrder [λv=>bindName X.env y v,λv=>bindName X.env x v] items.reverse;pure Flow.next) _ _ _
 refine Y6 (Wa (Y6 (unpackItems_tuple (items:=#[u1,u2]) (I.ok.hd hc) (IsTup.new s1.heap _) λh' hx'=>?_)));have I3:=I2.kept (h':=h') (t':=s1.toks) λb o e=>hx' b o (Yt (Yn e)) e;show wpAny _ _ (assignInOrder [λv=>bindName X.env y v,λv=>bindName X.env x v] [u2,u1] >>= λ_=>pure Flow.next) _ _ _;refine Y6 (assignInOrder_cons (wpAny_bindName (kX I3 hN hj (.inl hy) rw' (λs2 I4=>?_) (.inr hy))));refine assignInOrder_cons (wpAny_bindName (kX I4 hN hi (.inl hx) rv (λs3 I5=>assignInOrder_nil (Ye ?_)) (.inr hx)));rw[List.set_comm _ _ (Ne.symm hij)]at I5;exact⟨_,H1,I5,q1⟩
end
section
variable{X:Cx}{pos:Pos}
def FZ(c:TT)(tb:TS):TS:=λD σ H=>∃W:Nat->St->Hp->Prop,(∃m,W m σ H)/\∀m σ H,W m σ H->
 c σ H λb H1=>if b=true then ∃N:St->Hp->Prop,(∀σ' H',N σ' H'->∃m',m'<m/\W m' σ' H')/\tb { D with nx:=N,ct:=N,bk:=D.nx } σ H1 else D.nx σ H1
def AS{body:List Stmt}{tc:TT}{tb:TS}(hp:PassesOwn (model X.prog X.w) X.A X.env X.xe)(hc:PT X c tc)(hb:PSs X body tb):PS X (.While c body [] pos) (FZ tc tb):=by
 intro pins s σ H D I h;obtain⟨W,⟨m0,w0⟩,turn⟩:=h;refine wpAny_While (codeAny_whileLoop (λn s'=>∃σ' H',Inv X pins σ' H' s'/\W n σ' H') ?_ m0 ⟨σ,H,I,w0⟩);rintro n s1 ⟨σ1,H1,I1,w1⟩;refine Wj hp (thn (hc pins s1 σ1 H1 _ I1 (turn n σ1 H1 w1)) λb s2 zq=>?_);obtain⟨H2,I2,q2⟩:=zq;cases b with
 |true=>
  obtain⟨N,hN,q2⟩:=q2;rw[Y8 rfl];refine Wj hp (thn (hb pins s2 σ1 H2 _ I2 q2) λf s3 q3=>?_);cases f with
  |next=>
   obtain⟨σ3,H3,I3,n3⟩:=q3;obtain⟨m',hm,w3⟩:=hN σ3 H3 n3;exact⟨m',hm,σ3,H3,I3,w3⟩
  |cont=>
   obtain⟨σ3,H3,I3,n3⟩:=q3;obtain⟨m',hm,w3⟩:=hN σ3 H3 n3;exact⟨m',hm,σ3,H3,I3,w3⟩
  |brk=>exact q3
  |ret v=>exact q3
 |false=>
  rw[Yi Yl];exact U5 ⟨σ1,H2,I2,q2⟩
end
set_option genInjectivity false in
structure It where
 go:Nat->Hp->Prop
 yld:Nat->Hp->V->Hp->Prop
 stop:Nat->Hp->Prop
def FpOk(X:Cx)(pins:List (Addr×Obj))(H:Hp)(b:Addr):Prop:=
 H b=none/\b≠X.env.locals/\b∉X.fs/\(b∈X.ex\/X.s₀.heap.objs.size<=b)/\(∀x c,X.env.cells.lookup x=some c->c≠b)/\∀p∈X.pn++pins,p.1≠b
def Inv.fpOk{H':Hp}(I:Inv X pins σ H s)(hb:s.heap.objs.size<=b)(hn:H' b=none):FpOk X pins H' b:=by
 refine⟨hn,V4 (Yu I.lt hb),I.nofs hb,.inr (Yv I.sz hb),λx c e z=>?_,λp hp z=>?_⟩
 .obtain⟨v,q⟩:=I.cell x c e
  exact absurd (Yu q.lt (by rw[z];exact hb)) (Qb _)
 .exact absurd (Yu (Yn (I.pin p hp).1) (by rw[z];exact hb)) (Qb _)
def QtH(X:Cx):Prop:=X.A.handled=none \/ ∃a o u,X.A.handled=some (.ref a)/\X.H₀ a=some (.frz o u)/\ZO o
def Cd(qb:Bool)(X:Cx):Prop:=X.calm=true\/(qb=true/\QtH X)
def Cd.cm(h:Cd false X):X.calm=true:=h.elim id λz=>nomatch z.1
def Inv.qt{σ:List (Option V)}(I:Inv X pins σ H s)(h:Cd qb X):X.A.handled=none \/ ∃a,X.A.handled=some (.ref a)/\s.heap.Zat a:=by
 rcases h with h|⟨_,h|⟨a,o,u,e,q,z⟩⟩
 .exact .inl (I.ok.hd h)
 .exact .inl h
 .exact .inr ⟨a,e,o,(I.hok a _ (I.base.frzs a o u q)).1,z⟩
structure Turn(qb:Bool)(P:Program)(w:World)(K:Frag)(tg:Expr)(J:It)(fp:List Addr)(it:Addr)(tn:Nat->Heap->Prop):Prop where
 mem:it∈fp
 obj:∀i h,tn i h->∀b∈fp,∃o,h.get? b=some o/\∀v,o.data≠.cell v
 keep:∀i h h',tn i h->(∀b∈fp,∀o,h.get? b=some o->h'.get? b=some o)->tn i h'
 item:∀(X:Cx),X.prog=P->X.w=w->X.K=K->Cd qb X->∀(i:Nat)(pins:List (Addr×Obj))(s:Shared)(σ:St)(H:Hp)(E:Value->Shared->Prop),Inv X pins σ H s->(∀b∈fp,FpOk X pins H b)->tn i s.heap->J.go i H->
  wpAny (model P w) X.A (pyNext (.ref it)) (λr s1=>∃u,r=some u/\
   wpAny (model P w) X.A (letOwnedTupleGo tg (.ref it) u) (λ_ s2=>∃x H',Inv X pins σ H' s2/\RelV x u/\J.yld i H x H'/\tn (i+1) s2.heap/\∀b∈fp,H' b=none) E s1) E s
 done:∀(X:Cx),X.prog=P->X.w=w->X.K=K->Cd qb X->∀(i:Nat)(pins:List (Addr×Obj))(s:Shared)(σ:St)(H:Hp)(E:Value->Shared->Prop),Inv X pins σ H s->(∀b∈fp,FpOk X pins H b)->tn i s.heap->J.stop i H->
  wpAny (model P w) X.A (pyNext (.ref it)) (λr s1=>r=none/\Inv X pins σ H s1) E s
 self:∀(A:Around)(i:Nat)(s:Shared)(Q:Value->Shared->Prop)(E:Value->Shared->Prop),tn i s.heap->Q (.ref it) s->wpAny (model P w) A (pyIter (.ref it)) Q E s
abbrev TI:=St->Hp->(It->Hp->Prop)->Prop
def Ga(qb:Bool)(X:Cx)(pins:List (Addr×Obj))(σ:St)(tg:Expr)(R:It->Hp->Prop)(itv:Value)(s2:Shared):Prop:=
 ∃(it:Addr)(fp:List Addr)(tn:Nat->Heap->Prop)(J:It)(H':Hp),itv=.ref it/\Inv X pins σ H' s2/\Turn qb X.prog X.w X.K tg J fp it tn/\tn 0 s2.heap/\(∀b∈fp,FpOk X pins H' b)/\R J H'
def PIb(qb:Bool)(X:Cx)(tg iter:Expr)(wi:TI):Prop:=
 ∀(pins:List (Addr×Obj))(s:Shared)(σ:St)(H:Hp)(R:It->Hp->Prop),Inv X pins σ H s->wi σ H R->
  wpAny (model X.prog X.w) X.A (eval iter X.env) (λv s1=>wpAny (model X.prog X.w) X.A (pyIter v) (Ga qb X pins σ tg R) X.xe s1) X.xe s
abbrev PIE:=Ga false
abbrev PI:=PIb false
theorem uf{M:Model}{A:Around}{E:Value->Shared->Prop}{tg:Expr}{it:Addr}{u:Value}{o:Obj}{n:String}{vs:Array Value}{Q:Unit->Shared->Prop}(ho:s.heap.get? it=some o)(hc:o.cls=.type n)(hd:o.data=.fields vs)
    (hn:["enumerate","zip","dict_itemiterator","dict_reverseitemiterator","odict_iterator","itertools.zip_longest","itertools.pairwise"].contains n=false) (hQ:Q () s):wpAny M A (letOwnedTupleGo tg (.ref it) u) Q E s:=by
  unfold letOwnedTupleGo
  cases tg<;>first
    |exact Ye hQ
    | (cases u<;>first
        |exact Ye hQ
        | (refine Y6 (wpAny_load ho ?_)
           rw[hc,hd]
           show wpAny M A (if (["enumerate","zip","dict_itemiterator","dict_reverseitemiterator","odict_iterator","itertools.zip_longest","itertools.pairwise"].contains n&&vs[0]? == some (rawInt _))=true then _ else _) Q E s
           rw[Yi (by intro h;rw[hn,Md]at h;cases h)]
           exact Ye hQ))
def Itl(K:Frag)(a:Addr):It:=
 ⟨λi H=>∃xs x,SqL K H a xs/\xs[i]?=some x,λi H x H'=>H'=H/\∀xs,SqL K H a xs->xs[i]?=some x,λi H=>∃xs,SqL K H a xs/\xs.length<=i⟩
def Itt(K:Frag)(a:Addr):It:=
 ⟨λi H=>∃xs x,SqT K H a xs/\xs[i]?=some x,λi H x H'=>H'=H/\∀xs,SqT K H a xs->xs[i]?=some x,λi H=>∃xs,SqT K H a xs/\xs.length<=i⟩
def Itr(lo:Int)(n:Nat):It:=⟨λi _=>i<n,λi H x H'=>H'=H/\x=.int (lo+i),λi _=>n<=i⟩
def qv{K:Frag}(a it:Addr):Turn false P w K tg (Itl K a) [it] it (λi h=>h.IsListIter it a i) where
 mem:=by simp
 obj:=λi h st b hb=>by
  have e:b=it:=by simpa using hb
  subst e;obtain⟨o,e,c,d⟩:=st
  exact⟨o,e,λv z=>by rw[d]at z;cases z⟩
 keep:=λi h h' st k=>st.at λo e=>k it (by simp) o e
 item:=by
  intro X hP hw hK hc i pins s σ H E I hf st hg;subst hP hw hK;obtain⟨xs,x,hq,hx⟩:=hg;obtain⟨its,rv,p,hz⟩:=I.list hq;obtain⟨u,hu,ru⟩:=rv.get hx
  obtain⟨f0,f1,f2,f3,f4,f5⟩:=hf it (by simp)
  refine wpAny_pyNext_list_item st p.isList (x:=u) (by simpa using hu) λh' st' sb=>?_
  have I1:Inv X pins σ H { s with heap:=h' }:=I.turned (t':=s.toks) (λb o hb e=>(sb.2 b hb).trans e) f0 f1 f3 f4 f5
  obtain⟨o,e,c,d⟩:=id st'
  exact⟨u,rfl,uf (s:={ s with heap:=h' }) e c d (by decide) ⟨x,H,I1,ru,⟨rfl,λys hy=>by rw[I.list_inj hy hq];exact hx⟩,st',λb hb=>(hf b hb).1⟩⟩
 done:=by
  intro X hP hw hK hc i pins s σ H E I hf st hg;subst hP hw hK;obtain⟨xs,hq,hx⟩:=hg;obtain⟨its,rv,p,hz⟩:=I.list hq
  obtain⟨f0,f1,f2,f3,f4,f5⟩:=hf it (by simp)
  have hl:=rv.length
  exact wpAny_pyNext_list_end (I.ok.hd hc.cm) st p.isList (by simp;omega) λh' eb=>⟨rfl,I.turned (t':=s.toks) (λb o hb e=>eb b o hb e) f0 f1 f3 f4 f5⟩
 self:=λ_ _ _ _ _ st h=>wpAny_pyIter_listiter st h
def wF{K:Frag}(a it:Addr):Turn false P w K tg (Itt K a) [it] it (λi h=>h.IsTupleIter it a i) where
 mem:=by simp
 obj:=λi h st b hb=>by
  have e:b=it:=by simpa using hb
  subst e;obtain⟨o,e,c,d⟩:=st
  exact⟨o,e,λv z=>by rw[d]at z;cases z⟩
 keep:=λi h h' st k=>st.at λo e=>k it (by simp) o e
 item:=by
  intro X hP hw hK hc i pins s σ H E I hf st hg;subst hP hw hK;obtain⟨xs,x,hq,hx⟩:=hg;obtain⟨its,rv,p,hz⟩:=I.tuple hq;obtain⟨u,hu,ru⟩:=rv.get hx
  obtain⟨f0,f1,f2,f3,f4,f5⟩:=hf it (by simp)
  refine wpAny_pyNext_tuple_item st (show s.heap.IsTuple a its.toArray from p) (x:=u) (by simpa using hu) λh' st' sb=>?_
  have I1:Inv X pins σ H { s with heap:=h' }:=I.turned (t':=s.toks) (λb o hb e=>(sb.2 b hb).trans e) f0 f1 f3 f4 f5
  obtain⟨o,e,c,d⟩:=id st'
  exact⟨u,rfl,uf (s:={ s with heap:=h' }) e c d (by decide) ⟨x,H,I1,ru,⟨rfl,λys hy=>by rw[I.tuple_inj hy hq];exact hx⟩,st',λb hb=>(hf b hb).1⟩⟩
 done:=by
  intro X hP hw hK hc i pins s σ H E I hf st hg;subst hP hw hK;obtain⟨xs,hq,hx⟩:=hg;obtain⟨its,rv,p,hz⟩:=I.tuple hq
  obtain⟨f0,f1,f2,f3,f4,f5⟩:=hf it (by simp)
  have hl:=rv.length
  exact wpAny_pyNext_tuple_end (I.ok.hd hc.cm) st (show s.heap.IsTuple a its.toArray from p) (by simp;omega) λh' eb=>⟨rfl,I.turned (t':=s.toks) (λb o hb e=>eb b o hb e) f0 f1 f3 f4 f5⟩
 self:=λ_ _ _ _ _ st h=>wpAny_pyIter_tupleiter st h
def wG{K:Frag}(it:Addr)(lo:Int)(n:Nat):Turn qb P w K tg (Itr lo n) [it] it (λi h=>IsRangeIter h it (lo+(i:Nat)*1) ((n:Int)-(i:Nat)) 1) where
 mem:=by simp
 obj:=λi h st b hb=>by
  have e:b=it:=by simpa using hb
  subst e
  exact⟨_,st,λv z=>by
   have z':Data.fields _=Data.cell v:=z
   cases z'⟩
 keep:=λi h h' st k=>k it (by simp) _ st
 item:=by
  intro X hP hw hK hc i pins s σ H E I hf st hg;subst hP hw hK
  obtain⟨f0,f1,f2,f3,f4,f5⟩:=hf it (by simp)
  have hg':(i:Nat)<n:=hg
  refine wpAny_pyNext_range_item st (by omega) λh' st' kk=>?_
  have I1:Inv X pins σ H { s with heap:=h',toks:=s.toks+1 }:=I.turned (λb o hb e=>(kk.2 b hb).trans e) f0 f1 f3 f4 f5
  have st2:IsRangeIter h' it (lo+((i+1:Nat):Int)*1) ((n:Int)-((i+1:Nat):Int)) 1:=by
   have e1:lo+((i+1:Nat):Int)*1=lo+(i:Nat)*1+1:=by omega
   have e2:(n:Int)-((i+1:Nat):Int)=(n:Int)-(i:Nat)-1:=by omega
   rw[e1,e2];exact st'
  refine⟨_,rfl,uf (s:={ s with heap:=h',toks:=s.toks+1 }) (n:="range_iterator") st2 rfl rfl (by decide) ⟨.int (lo+i),H,I1,⟨s.toks,?_⟩,⟨rfl,rfl⟩,st2,λb hb=>(hf b hb).1⟩⟩
  rw[Int.mul_one]
 done:=by
  intro X hP hw hK hc i pins s σ H E I hf st hg;subst hP hw hK
  obtain⟨f0,f1,f2,f3,f4,f5⟩:=hf it (by simp)
  have hg':n<=i:=hg;rcases I.qt hc with hh|⟨ha,hh,z⟩
  .exact wpAny_pyNext_range_end hh st (by omega) λh' eb=>⟨rfl,I.turned (t':=s.toks) (λb o hb e=>eb b o hb e) f0 f1 f3 f4 f5⟩
  .exact zt hh z st (by omega) λh' eb=>⟨rfl,I.turned (t':=s.toks) (λb o hb e=>eb b o hb e) f0 f1 f3 f4 f5⟩
 self:=λ_ _ _ _ _ st h=>wpAny_pyIter_rangeiter st h
section
variable{X:Cx}{tg:Expr}
def IF(K:Frag)(tl:TE):TI:=λσ H R=>tl σ H λx H1=>∃a,x=.ref a/\(∃xs,SqL K H1 a xs)/\R (Itl K a) H1
def J1(K:Frag)(tl:TE):TI:=λσ H R=>tl σ H λx H1=>∃a,x=.ref a/\(∃xs,SqT K H1 a xs)/\R (Itt K a) H1
def Dh{l:Expr}{tl:TE}(hl:PE X l tl):PI X tg l (IF X.K tl):=by
 intro pins s σ H R I h;refine thn (hl pins s σ H _ I h) λv s1 zq=>?_;obtain⟨x,H1,I1,r1,q1⟩:=zq;obtain⟨a,e,⟨xs,hq⟩,q⟩:=q1;subst e;cases r1;obtain⟨its,rv,p,hz⟩:=I1.list hq;refine Qd p.isList ?_;refine⟨s1.heap.objs.size,[s1.heap.objs.size],_,_,H1,rfl,I1.kept (t':=s1.toks) λb o e=>Y7 _ e,qv a _,⟨_,Yg _ rfl,rfl,rfl⟩,λb hb=>?_,q⟩
 have e:b=s1.heap.objs.size:=by simpa using hb
 subst e;exact I1.fpOk (Yd _) (I1.hok.fresh (Yd _))
def Gb{l:Expr}{tl:TE}(hl:PE X l tl):PI X tg l (J1 X.K tl):=by
 intro pins s σ H R I h;refine thn (hl pins s σ H _ I h) λv s1 zq=>?_;obtain⟨x,H1,I1,r1,q1⟩:=zq;obtain⟨a,e,⟨xs,hq⟩,q⟩:=q1;subst e;cases r1;obtain⟨its,rv,p,hz⟩:=I1.tuple hq
 refine Vi (show s1.heap.IsTuple a its.toArray from p) ?_
 refine⟨s1.heap.objs.size,[s1.heap.objs.size],_,_,H1,rfl,I1.kept (t':=s1.toks) λb o e=>Y7 _ e,wF a _,⟨_,Yg _ rfl,rfl,rfl⟩,λb hb=>?_,q⟩
 have e:b=s1.heap.objs.size:=by simpa using hb
 subst e;exact I1.fpOk (Yd _) (I1.hok.fresh (Yd _))
def AU{qb:Bool}{R:It->Hp->Prop}{E:Value->Shared->Prop}{lo hi:Int}{t u v:Tok}{tk:Nat}(I:Inv X pins σ H s)(h1:-(2^62)<=lo)(h2:lo<2^62)(h3:-(2^62)<=hi)(h4:hi<2^62)
  (q:R (Itr lo (hi-lo).toNat) H):wpAny (model X.prog X.w) X.A (pyIter (.ref s.heap.objs.size)) (Ga qb X pins σ tg R) E { s with heap:=s.heap.push { cls:=.type "range",data:=.fields #[.int lo t,.int hi u,.int 1 v] },toks:=tk }:=by
 refine wpAny_pyIter_range (IsRange.new ..) (small_one h1 h2 h3 h4) ?_
 have I1:Inv X pins σ H { s with heap:=s.heap.push { cls:=.type "range",data:=.fields #[.int lo t,.int hi u,.int 1 v] },toks:=tk }:=I.kept λb o e=>Y7 _ e
 refine⟨(s.heap.push { cls:=.type "range",data:=.fields #[.int lo t,.int hi u,.int 1 v] }).objs.size,[(s.heap.push { cls:=.type "range",data:=.fields #[.int lo t,.int hi u,.int 1 v] }).objs.size],_,_,H,rfl,
  I1.kept (t':=tk) λb o e=>Y7 _ e,wG _ lo (hi-lo).toNat,?_,λb hb=>?_,q⟩
 .have e1:lo+((0:Nat):Int)*1=lo:=by simp
  have e2:(((hi-lo).toNat:Nat):Int)-((0:Nat):Int)=Builtin.Range.rangeSize lo hi 1:=by rw[rangeSize_one];split<;>omega
  show IsRangeIter _ _ (lo+((0:Nat):Int)*1) ((((hi-lo).toNat:Nat):Int)-((0:Nat):Int)) 1;rw[e1,e2];exact Yg _ rfl
 .have e:b=(s.heap.push { cls:=.type "range",data:=.fields #[.int lo t,.int hi u,.int 1 v] }).objs.size:=by simpa using hb
  subst e;exact I1.fpOk (Yd _) (I1.hok.fresh (Yd _))
def IG(ta:TA):TI:=λσ H R=>ta σ H λvs H1=>∃j:Int,vs=[.int j]/\-(2^62)<=j/\j<2^62/\R (Itr 0 j.toNat) H1
def zx{a:Expr}{ta:TA}{p:Pos}(hg:Gl X "range")(hm:X.mg "range" = none)(ha:PA X [a] ta)(hs:autoParam (starEach [a] X.env=[(false,eval a X.env)]) zz1._auto_1):PIb qb X tg (.Call (.Name "range" p) [a] [] pos) (IG ta):=by
 intro pins s σ H R I h;refine Call_ (lW I hg hm boot_range (V8 (thn (ha pos pins s σ H _ I h) λus s1 zq=>?_) hs rfl));obtain⟨vs,H1,I1,r1,q1⟩:=zq;obtain⟨j,e,q1,q2,q⟩:=q1;subst e;cases r1 with
 |cons r rr=>
  cases rr;obtain⟨t,rfl⟩:=r
  exact call_range_1 (AU I1 (by omega) (by omega) q1 q2 (by simpa using q))
def J2(wi:TI)(g:TG)(tb:TS):TS:=λD σ H=>wi σ H λJ H1=>∃W:Nat->Nat->St->Hp->Prop,(∃m,W 0 m σ H1)/\∀i m σ H,W i m σ H->
 (J.stop i H/\D.nx σ H)\/(J.go i H/\∃N:St->Hp->Prop,(∀σ' H',N σ' H'->∃m',m'<m/\W (i+1) m' σ' H')/\∀x H',J.yld i H x H'->g x σ H' λσ2 H2=>tb { D with nx:=N,ct:=N,bk:=D.nx } σ2 H2)
def lX(fp:List Addr)(h:Heap):List (Addr×Obj):=fp.filterMap λb=>(h.get? b).map λo=>(b,o)
def fm{o:Obj}(hb:b∈fp)(e:h.get? b=some o):(b,o)∈lX fp h:=List.mem_filterMap.mpr ⟨b,hb,by rw[e];rfl⟩
def zy{p:Addr×Obj}(hp:p∈lX fp h):p.1∈fp/\h.get? p.1=some p.2:=by
 obtain⟨b,hb,e⟩:=List.mem_filterMap.mp hp;cases q:h.get? b with
 |none=>rw[q]at e;cases e
 |some o=>
  rw[q]at e;have e':(b,o)=p:=Za e;subst e';exact⟨hb,q⟩
def Inv.pinned(I:Inv X pins σ H s)(hf:∀b∈fp,FpOk X pins H b)(ho:∀b∈fp,∃o,s.heap.get? b=some o/\∀v,o.data≠.cell v):Inv X (pins++lX fp s.heap) σ H s:=
 I.pins_of λp hp=>(Yy.mp hp).elim (λz=>I.pin p (Z1 _ z)) λz=>by obtain⟨hb,e⟩:=zy z;obtain⟨f0,f1,f2,_⟩:=hf p.1 hb;obtain⟨o,e',d⟩:=ho p.1 hb;rw[e]at e';cases e';exact⟨e,f0,f1,f2,d⟩
def Inv.unpinned{pl:List (Addr×Obj)}(I:Inv X (pins++pl) σ H s):Inv X pins σ H s:=I.pins_of λp hp=>I.pin p (Z1 _ (Zs _ hp))
theorem Gd{iter:Expr}{body:List Stmt}{wi:TI}{g:TG}{tb:TS}{pos:Pos}(hp:PassesOwn (model X.prog X.w) X.A X.env X.xe)(hc:X.calm=true)(hi:PI X tg iter wi)(hg:PG X tg g)(hb:PSs X body tb)
  (hs:autoParam (∀x,foldedSetIterable iter X.env x=pure x) zz5._auto_1):PS X (.For tg iter body [] pos) (J2 wi g tb):=by
 intro pins s σ H D I h;refine wpAny_For (thn (hi pins s σ H _ I h) λv s1 h1=>thn h1 λitv s2 h2=>?_) hs;obtain⟨it,fp,tn,J,H2,e,I2,T,st2,f2,W,⟨m0,w0⟩,turn⟩:=h2;subst e
 -- what stays true of the iterator's objects through the loop
 have stat:∀{H':Hp},(∀b∈fp,H' b=none)->∀b∈fp,FpOk X pins H' b:=λhn b hb=>⟨hn b hb,(f2 b hb).2⟩;refine codeAny_forLoop_any (λn s'=>∃i σ' H',Inv X pins σ' H' s'/\tn i s'.heap/\(∀b∈fp,H' b=none)/\W i n σ' H') ?_ m0 ⟨0,σ,H2,I2,st2,λb hb=>(f2 b hb).1,w0⟩;rintro n s3 ⟨i,σ3,H3,I3,st3,fr3,w3⟩;rcases turn i n σ3 H3 w3 with⟨stop,qn⟩|⟨go,N,hN,step⟩
 .refine Wj hp (thn (T.done X rfl rfl rfl (.inl hc) i pins s3 σ3 H3 X.xe I3 (stat fr3) st3 stop) λr s4 zq=>?_);obtain⟨hr,I4⟩:=zq;subst hr;exact U5 ⟨σ3,H3,I4,qn⟩
 .refine Wj hp (thn (T.item X rfl rfl rfl (.inl hc) i pins s3 σ3 H3 X.xe I3 (stat fr3) st3 go) λr s4 zq=>?_);obtain⟨u,hr,h4⟩:=zq;subst hr;refine Wj hp (thn h4 λ_ s5 zq=>?_);obtain⟨x,H5,I5,r5,y5,st5,fr5⟩:=zq;have I5':=I5.pinned (stat fr5) (T.obj _ _ st5);refine Wj hp (thn (hg _ s5 σ3 H5 x u _ I5' r5 (step x H5 y5)) λ_ s6 zq=>?_);obtain⟨σ6,H6,I6,q6⟩:=zq;refine Wj hp (thn (hb _ s6 σ6 H6 _ I6 q6) λf s7 q7=>?_)
  have again:∀{σ7:St}{H7:Hp},Inv X (pins++lX fp s5.heap) σ7 H7 s7->N σ7 H7->∃m,m<n/\∃i σ' H',Inv X pins σ' H' s7/\tn i s7.heap/\(∀b∈fp,H' b=none)/\W i m σ' H':=λ{σ7 H7} I7 n7=>by obtain⟨m',hm,w7⟩:=hN σ7 H7 n7;refine⟨m',hm,i+1,σ7,H7,I7.unpinned,T.keep _ _ _ st5 λb hb o e=>(I7.pin (b,o) (Z1 _ (Z1 _ (fm hb e)))).1,λb hb=>?_,w7⟩;obtain⟨o,e,d⟩:=T.obj _ _ st5 b hb;exact(I7.pin (b,o) (Z1 _ (Z1 _ (fm hb e)))).2.1
  cases f with
  |next=>obtain⟨σ7,H7,I7,n7⟩:=q7;exact again I7 n7
  |cont=>obtain⟨σ7,H7,I7,n7⟩:=q7;exact again I7 n7
  |brk=>obtain⟨σ7,H7,I7,q7⟩:=q7;exact⟨σ7,H7,I7.unpinned,q7⟩
  |ret v=>obtain⟨x7,σ7,H7,I7,r7,q7⟩:=q7;exact⟨x7,σ7,H7,I7.unpinned,r7,q7⟩
end
abbrev R2:=V->V->Hp->VK->Prop
variable{r:R2}
def OpR(X:Cx)(f:Value->Value->Sem Value)(r:R2):Prop:=
 ∀(pins:List (Addr×Obj))(s:Shared)(σ:St)(H:Hp)(x y:V)(v u:Value)(Q:VK),Inv X pins σ H s->RelV x v->RelV y u->r x y H Q->
  wpAny (model X.prog X.w) X.A (f v u) (EP X pins σ Q) X.xe s
def UnR(X:Cx)(f:Value->Sem Value)(r:V->Hp->VK->Prop):Prop:=
 ∀(pins:List (Addr×Obj))(s:Shared)(σ:St)(H:Hp)(x:V)(v:Value)(Q:VK),Inv X pins σ H s->RelV x v->r x H Q->
  wpAny (model X.prog X.w) X.A (f v) (EP X pins σ Q) X.xe s
def bI(X:Cx)(f:Value)(r:List V->Hp->VK->Prop):Prop:=
 ∀(pins:List (Addr×Obj))(s:Shared)(σ:St)(H:Hp)(xs:List V)(us:List Value)(Q:VK),Inv X pins σ H s->Vals xs us->r xs H Q->
  wpAny (model X.prog X.w) X.A (call f us) (EP X pins σ Q) X.xe s
def tOp(r:R2)(ta tb:TE):TE:=λσ H Q=>ta σ H λx H1=>tb σ H1 λy H2=>r x y H2 Q
def tUn(r:V->Hp->VK->Prop)(ta:TE):TE:=λσ H Q=>ta σ H λx H1=>r x H1 Q
def rI(C:Int->Int->Prop)(g:Int->Int->V):R2:=λx y H Q=>∃i j,x=.int i/\y=.int j/\C i j/\Q (g i j) H
def rI0(g:Int->Int->V):R2:=λx y H Q=>∃i j,x=.int i/\y=.int j/\Q (g i j) H
def rU(g:Int->V):V->Hp->VK->Prop:=λx H Q=>∃i,x=.int i/\Q (g i) H
section
variable{X:Cx}{a b c:Expr}{ta tb tc:TE}{pos:Pos}
def Ge(ha:PE X a ta)(hb:PE X b tb){R:V->V->Hp->Prop}(I:Inv X pins σ H s)
  (h:ta σ H λx H1=>tb σ H1 λy H2=>R x y H2) {Q:Value->Shared->Prop} {f:Value->Value->Sem Value}
  (hf:∀v u s2 x y H2,Inv X pins σ H2 s2->RelV x v->RelV y u->R x y H2->wpAny (model X.prog X.w) X.A (f v u) Q X.xe s2):
  wpAny (model X.prog X.w) X.A (eval a X.env) (λv s₁=>wpAny (model X.prog X.w) X.A (eval b X.env) (λu s₂=>wpAny (model X.prog X.w) X.A (f v u) Q X.xe s₂) X.xe s₁) X.xe s:=by
 refine thn (ha pins s σ H _ I h) λv s1 zq=>?_;obtain⟨x,H1,I1,r1,q1⟩:=zq;refine thn (hb pins s1 σ H1 _ I1 q1) λu s2 zq=>?_;obtain⟨y,H2,I2,r2,q2⟩:=zq;exact hf v u s2 x y H2 I2 r1 r2 q2
def IH{op:Operator}(ho:OpR X (binaryOp op) r)(ha:PE X a ta)(hb:PE X b tb):PE X (.BinOp a op b pos) (tOp r ta tb):=by intro pins s σ H Q I h;exact wpAny_BinOp (Ge ha hb I h λv u s2 x y H2 I2 rx ry q=>ho pins s2 σ H2 x y v u Q I2 rx ry q)
def II{op:UnaryOp}{r:V->Hp->VK->Prop}(ho:UnR X (unaryOp op) r)(ha:PE X a ta):PE X (.UnaryOp op a pos) (tUn r ta):=by intro pins s σ H Q I h;exact UnaryOp_ (thn (ha pins s σ H _ I h) λv s1 zq=>ex5 zq λx H1 I1 r1 q1=>ho pins s1 σ H1 x v Q I1 r1 q1)
def opI{f:Value->Value->Sem Value}{C:Int->Int->Prop}{g:Int->Int->Int}
  (rule:∀(i j:Int)(t u:Tok)(s:Shared)(Q:Value->Shared->Prop)(E:Value->Shared->Prop),C i j->Q (.int (g i j) s.toks) { s with toks:=s.toks+1 }->wpAny (model X.prog X.w) X.A (f (.int i t) (.int j u)) Q E s):
  OpR X f (rI C λi j=>.int (g i j)):=by
 intro pins s σ H x y v u Q I rx ry h;obtain⟨i,j,rfl,rfl,hc,q⟩:=h;obtain⟨t,rfl⟩:=rx;obtain⟨t',rfl⟩:=ry;exact rule i j t t' s _ _ hc ⟨.int (g i j),H,I.tok _,⟨_,rfl⟩,q⟩
def IJ{f:Value->Value->Sem Value}{g:Int->Int->Int}
  (rule:∀(i j:Int)(t u:Tok)(s:Shared)(Q:Value->Shared->Prop)(E:Value->Shared->Prop),Q (.int (g i j) s.toks) { s with toks:=s.toks+1 }->wpAny (model X.prog X.w) X.A (f (.int i t) (.int j u)) Q E s):
  OpR X f (rI0 λi j=>.int (g i j)):=by
 intro pins s σ H x y v u Q I rx ry h;obtain⟨i,j,rfl,rfl,q⟩:=h;obtain⟨t,rfl⟩:=rx;obtain⟨t',rfl⟩:=ry;exact rule i j t t' s _ _ ⟨.int (g i j),H,I.tok _,⟨_,rfl⟩,q⟩
def Di{f:Value->Value->Sem Value}{g:Int->Int->Bool}
  (rule:∀(i j:Int)(t u:Tok)(s:Shared)(Q:Value->Shared->Prop)(E:Value->Shared->Prop),Q (.bool (g i j)) s->wpAny (model X.prog X.w) X.A (f (.int i t) (.int j u)) Q E s):
  OpR X f (rI0 λi j=>.bl (g i j)):=by
 intro pins s σ H x y v u Q I rx ry h;obtain⟨i,j,rfl,rfl,q⟩:=h;obtain⟨t,rfl⟩:=rx;obtain⟨t',rfl⟩:=ry;exact rule i j t t' s _ _ ⟨.bl (g i j),H,I,rfl,q⟩
def IK(i j:Int):Prop:=0<j/\j<1073741824
def IL(i j:Int):Prop:=0<=j/\j<=1000000/\i.natAbs<2^64
def Gf(i j:Int):Prop:=(-(2^64)<i/\i<2^64)\/(-(2^64)<j/\j<2^64)
def Gf.ok{i j:Int}(h:Gf i j):IntMulOk i j:=by
 rcases h with⟨h1,h2⟩|⟨h1,h2⟩
 .exact .of_left (intBits_le_64 h1 h2)
 .exact .of_right (intBits_le_64 h1 h2)
def Gg:OpR X (binaryOp .Add) (rI0 λi j=>.int (i+j)):=IJ λ_ _ _ _ _ _ _ q=>add_int q
def Gh:OpR X (binaryOp .Sub) (rI0 λi j=>.int (i-j)):=IJ λ_ _ _ _ _ _ _ q=>sub_int q
def Gi:OpR X (binaryOp .Mult) (rI Gf λi j=>.int (i*j)):=opI λ_ _ _ _ _ _ _ hc q=>mul_int q hc.ok
def Dj:OpR X (binaryOp .FloorDiv) (rI IK λi j=>.int (i/j)):=opI λi j _ _ _ _ _ hc q=>by
 have h1:(0:Int)<j:=hc.1;have h2:j<1073741824:=hc.2
 exact floordiv_int (by omega) (by rw[Gc i (by omega)];exact q) (.inl (PyProof.noPylong_small (by omega)))
def Gj:OpR X (binaryOp .Mod) (rI (λ_ j=>0<j) λi j=>.int (i%j)):=opI λi j _ _ _ _ _ hc q=>by
 have h1:(0:Int)<j:=hc
 exact mod_int' (by omega) (by rw[Go i (by omega)];exact q)
def Gk:OpR X (binaryOp .Pow) (rI IL λi j=>.int (i^j.toNat)):=opI λ_ _ _ _ _ _ _ hc q=>pow_int_small hc.1 hc.2.1 hc.2.2 q
def Gm:OpR X (binaryOp .LShift) (rI IL λi j=>.int (i*2^j.toNat)):=opI λ_ _ _ _ _ _ _ hc q=>lshift_int_small hc.1 hc.2.1 hc.2.2 q
def unI{f:Value->Sem Value}{g:Int->Int}
  (rule:∀(i:Int)(t:Tok)(s:Shared)(Q:Value->Shared->Prop)(E:Value->Shared->Prop),Q (.int (g i) s.toks) { s with toks:=s.toks+1 }->wpAny (model X.prog X.w) X.A (f (.int i t)) Q E s):
  UnR X f (rU λi=>.int (g i)):=by
 intro pins s σ H x v Q I rx h;obtain⟨i,rfl,q⟩:=h;obtain⟨t,rfl⟩:=rx;exact rule i t s _ _ ⟨.int (g i),H,I.tok _,⟨_,rfl⟩,q⟩
def Gn:UnR X (unaryOp .USub) (rU λi=>.int (-i)):=unI λ_ _ _ _ _ q=>neg_int q
end
def Gp:V->V->Bool
 |.non,.non=>true | .non,.int _=>true | .int _,.non=>true | .non,.bl _=>true | .bl _,.non=>true | .non,.str _=>true | .str _,.non=>true
 |.int _,.int _=>true | .bl _,.bl _=>true | .str _,.str _=>true | .byt _,.byt _=>true
 |.int _,.str _=>true | .str _,.int _=>true | .bl _,.str _=>true | .str _,.bl _=>true
 |_,_=>false
def rEq:R2:=λx y H Q=>Gp x y=true/\Q (.bl (decide (x=y))) H
def rNe:R2:=λx y H Q=>Gp x y=true/\Q (.bl (!decide (x=y))) H
def x9{i j:Int}:decide (V.int i=V.int j)=(i == j):=by rw[Qz];simp
def AV{i j:Bool}:decide (V.bl i=V.bl j)=(i == j):=by rw[Qz];simp
def ya{i j:Str}:decide (V.str i=V.str j)=(i == j):=by rw[Qz];simp
def yb{i j:Array UInt8}:decide (V.byt i=V.byt j)=(i.toList == j.toList):=by rw[Qz];cases i;cases j;simp
section
variable{X:Cx}{a b c:Expr}{ta tb tc:TE}{pos:Pos}
def bw{Q:VK}{k k':Bool}(I:Inv X pins σ H s)(q:Q (.bl k) H)(e:k=k'):EP X pins σ Q (.bool k') s:=by subst e;exact⟨.bl k,H,I,rfl,q⟩
def IM:OpR X (compareOp .Eq) rEq:=by
 intro pins s σ H x y v u Q I rx ry h;obtain⟨hs,q⟩:=h;cases x with
 |non=>
  cases rx;cases y with
  |non=>cases ry;exact PySem.EqNone.eq_none_none (bw I q (by simp))
  |bl j=>cases ry;exact PySem.EqNone.eq_none_bool (bw I q (by simp))
  |int j=>obtain⟨t',rfl⟩:=ry;exact PySem.EqNone.eq_none_int (bw I q (by simp))
  |str j=>obtain⟨t',rfl⟩:=ry;exact PySem.EqNone.eq_none_str (bw I q (by simp))
  |_=>exact absurd (show false=true from hs) Yl
 |bl i=>
  cases rx;cases y with
  |non=>cases ry;exact PySem.EqNone.eq_bool_none (bw I q (by simp))
  |bl j=>cases ry;exact eq_bool (bw I q AV)
  |str j=>obtain⟨t',rfl⟩:=ry;exact PySem.EqMixed.eq_bool_str (bw I q (by simp))
  |_=>exact absurd (show false=true from hs) Yl
 |int i=>
  obtain⟨t,rfl⟩:=rx;cases y with
  |non=>cases ry;exact PySem.EqNone.eq_int_none (bw I q (by simp))
  |int j=>obtain⟨t',rfl⟩:=ry;exact eq_int (bw I q x9)
  |str j=>obtain⟨t',rfl⟩:=ry;exact PySem.EqMixed.eq_int_str (bw I q (by simp))
  |_=>exact absurd (show false=true from hs) Yl
 |str i=>
  obtain⟨t,rfl⟩:=rx;cases y with
  |non=>cases ry;exact PySem.EqNone.eq_str_none (bw I q (by simp))
  |bl j=>cases ry;exact PySem.EqMixed.eq_str_bool (bw I q (by simp))
  |int j=>obtain⟨t',rfl⟩:=ry;exact PySem.EqMixed.eq_str_int (bw I q (by simp))
  |str j=>obtain⟨t',rfl⟩:=ry;exact eq_str (bw I q ya)
  |_=>exact absurd (show false=true from hs) Yl
 |byt i=>
  obtain⟨t,rfl⟩:=rx;cases y with
  |byt j=>obtain⟨t',rfl⟩:=ry;exact eq_bytes (bw I q yb)
  |_=>exact absurd (show false=true from hs) Yl
 |_=>cases y<;>exact absurd (show false=true from hs) Yl
def IP:OpR X (compareOp .NotEq) rNe:=by
 intro pins s σ H x y v u Q I rx ry h;obtain⟨hs,q⟩:=h;cases x with
 |non=>
  cases rx;cases y with
  |non=>cases ry;exact PySem.EqNone.ne_none_none (bw I q (by simp))
  |bl j=>cases ry;exact PySem.EqNone.ne_none_bool (bw I q (by simp))
  |int j=>obtain⟨t',rfl⟩:=ry;exact PySem.EqNone.ne_none_int (bw I q (by simp))
  |str j=>obtain⟨t',rfl⟩:=ry;exact PySem.EqNone.ne_none_str (bw I q (by simp))
  |_=>exact absurd (show false=true from hs) Yl
 |bl i=>
  cases rx;cases y with
  |non=>cases ry;exact PySem.EqNone.ne_bool_none (bw I q (by simp))
  |bl j=>cases ry;exact ne_bool (bw I q (Q8 not AV))
  |str j=>obtain⟨t',rfl⟩:=ry;exact PySem.EqMixed.ne_bool_str (bw I q (by simp))
  |_=>exact absurd (show false=true from hs) Yl
 |int i=>
  obtain⟨t,rfl⟩:=rx;cases y with
  |non=>cases ry;exact PySem.EqNone.ne_int_none (bw I q (by simp))
  |int j=>obtain⟨t',rfl⟩:=ry;exact ne_int (bw I q (Q8 not x9))
  |str j=>obtain⟨t',rfl⟩:=ry;exact PySem.EqMixed.ne_int_str (bw I q (by simp))
  |_=>exact absurd (show false=true from hs) Yl
 |str i=>
  obtain⟨t,rfl⟩:=rx;cases y with
  |non=>cases ry;exact PySem.EqNone.ne_str_none (bw I q (by simp))
  |bl j=>cases ry;exact PySem.EqMixed.ne_str_bool (bw I q (by simp))
  |int j=>obtain⟨t',rfl⟩:=ry;exact PySem.EqMixed.ne_str_int (bw I q (by simp))
  |str j=>obtain⟨t',rfl⟩:=ry;exact ne_str (bw I q (Q8 not ya))
  |_=>exact absurd (show false=true from hs) Yl
 |byt i=>
  obtain⟨t,rfl⟩:=rx;cases y with
  |byt j=>obtain⟨t',rfl⟩:=ry;exact ne_bytes (bw I q (Q8 not yb))
  |_=>exact absurd (show false=true from hs) Yl
 |_=>cases y<;>exact absurd (show false=true from hs) Yl
def IQ:OpR X (compareOp .Lt) (rI0 λi j=>.bl (decide (i<j))):=Di λ_ _ _ _ _ _ _ q=>lt_int q
def IS:OpR X (compareOp .LtE) (rI0 λi j=>.bl (decide (i<=j))):=Di λ_ _ _ _ _ _ _ q=>le_int q
def IT:OpR X (compareOp .Gt) (rI0 λi j=>.bl (decide (j<i))):=Di λ_ _ _ _ _ _ _ q=>gt_int q
def IU:OpR X (compareOp .GtE) (rI0 λi j=>.bl (decide (j<=i))):=Di λ_ _ _ _ _ _ _ q=>ge_int q
def zz:OpR X (compareOp .In) (λx y H Q=>∃i j,x=.str i/\y=.str j/\Q (.bl (!(Builtin.Str.occurrences j i 0 j.length 1).isEmpty)) H):=by intro pins s σ H x y v u Q I rx ry h;obtain⟨i,j,rfl,rfl,q⟩:=h;obtain⟨t,rfl⟩:=rx;obtain⟨t',rfl⟩:=ry;exact in_str (bw I q rfl)
def Gq(b:Expr)(h:autoParam (op≠.In) zz2._auto_1)(h2:autoParam (op≠.NotIn) zz2._auto_1):behindInMarks op b=false:=by
 have e1:(op == CmpOp.In)=false:=by cases op<;>first|rfl|exact absurd rfl h
 have e2:(op == CmpOp.NotIn)=false:=by cases op<;>first|rfl|exact absurd rfl h2
 cases b<;>simp[behindInMarks,e1,e2]
def yc(ho:OpR X (compareOp op) r)(ha:PE X a ta)(hb:PE X b tb)(hm:behindInMarks op b=false):PE X (.Compare a [op] [b] pos) (tOp r ta tb):=by intro pins s σ H Q I h;exact wpAny_Compare1 (Ge ha hb I h λv u s2 x y H2 I2 rx ry q=>ho pins s2 σ H2 x y v u Q I2 rx ry q) hm
def IV(t:TE):TT:=λσ H Q=>t σ H λx H'=>∃k,x=.bl k/\Q k H'
def Dk(ho:OpR X (compareOp op) r)(ha:PE X a ta)(hb:PE X b tb)(hm:behindInMarks op b=false):PT X (.Compare a [op] [b] pos) (IV (tOp r ta tb)):=by
 intro pins s σ H Q I h
 refine wpAny_isTrue_Compare1 (thn (ha pins s σ H _ I h) λv s1 zq=>ex5 zq λx H1 I1 r1 q1=>thn (hb pins s1 σ H1 _ I1 q1) λu s2 zq=>ex5 zq λy H2 I2 r2 q2=>
  thn (ho pins s2 σ H2 x y v u _ I2 r1 r2 q2) λc s3 ⟨z,H3,I3,r3,k,e,q3⟩=>?_) hm
 subst e;cases r3;exact Qc ⟨H3,I3,q3⟩
def Gs(r r':R2)(ta tb tc:TE):TE:=λσ H Q=>ta σ H λx H1=>tb σ H1 λy H2=>r x y H2 λz H3=>∃k,z=.bl k/\
 (if k=true then tc σ H3 λw' H4=>r' y w' H4 Q else Q (.bl false) H3)
theorem AW{op':CmpOp}{r':R2}(ho:OpR X (compareOp op) r)(ho':OpR X (compareOp op') r')(ha:PE X a ta)(hb:PE X b tb)(hc:PE X c tc)
  (hm:lastMarks [op,op'] [b,c]=false:=by with_unfolding_all rfl):PE X (.Compare a [op,op'] [b,c] pos) (Gs r r' ta tb tc):=by
 intro pins s σ H Q I h
 refine Compare_chain (thn (ha pins s σ H _ I h) λv s1 zq=>ex5 zq λx H1 I1 r1 q1=>chain_link (thn (hb pins s1 σ H1 _ I1 q1) λu s2 zq=>ex5 zq λy H2 I2 r2 q2=>
  thn (ho pins s2 σ H2 x y v u _ I2 r1 r2 q2) λd s3 ⟨z,H3,I3,r3,k,e,q3⟩=>?_)) hm
 subst e;cases r3;refine Qc ?_;cases k with
 |false=>exact ite_ff ⟨.bl false,H3,I3,rfl,q3⟩
 |true=>exact ite_tt (chain_last (thn (hc pins s3 σ H3 _ I3 q3) λw' s4 ⟨z',H4,I4,r4,q4⟩=>ho' pins s4 σ H4 y z' u w' Q I4 r2 r4 q4))
def kl:(sizeLine:Nat)<2^63:=by rw[Wq];decide
def wH:OpR X (binaryOp .Add) (λx y H Q=>∃i j,x=.str i/\y=.str j/\i.length+j.length<=sizeLine/\Q (.str (i++j)) H):=by intro pins s σ H x y v u Q I rx ry h;obtain⟨i,j,rfl,rfl,hz,q⟩:=h;obtain⟨t,rfl⟩:=rx;obtain⟨t',rfl⟩:=ry;exact add_str (λt' tk=>⟨.str (i++j),H,I.tok _,⟨_,rfl⟩,q⟩) hz
def Wb{x:V}(r:Vals [x] us):∃u,us=[u]/\RelV x u:=by
 cases r with
 |cons r1 r2=>cases r2;exact⟨_,rfl,r1⟩
def vals2{x y:V}(r:Vals [x,y] us):∃u w',us=[u,w']/\RelV x u/\RelV y w':=by
 cases r with
 |cons r1 r2=>
  cases r2 with
  |cons r3 r4=>cases r4;exact⟨_,_,rfl,r1,r3⟩
def AX:bI X (.builtin "abs") (λxs H Q=>∃i,xs=[.int i]/\Q (.int (if i<0 then -i else i)) H):=by
 intro pins s σ H xs us Q I r h;obtain⟨i,rfl,q⟩:=h;obtain⟨u,rfl,t,rfl⟩:=Wb r
 exact call_abs_int λu tk=>⟨.int (if i<0 then -i else i),H,I.tok _,⟨_,rfl⟩,q⟩
def zA(hc:X.calm=true):bI X (.builtin "max") (λxs H Q=>∃i j,xs=[.int i,.int j]/\Q (.int (if j>i then j else i)) H):=by
 intro pins s σ H xs us Q I r h;obtain⟨i,j,rfl,q⟩:=h;obtain⟨u,w',rfl,⟨t,rfl⟩,⟨t',rfl⟩⟩:=vals2 r;refine max_two_ints (I.ok.hd hc) λh' tk k=>⟨_,H,I.kept k,?_,q⟩;by_cases hj:j>i
 .rw[Y8 hj,Y8 hj];exact⟨_,rfl⟩
 .rw[Yi hj,Yi hj];exact⟨_,rfl⟩
def zB(hc:X.calm=true):bI X (.builtin "min") (λxs H Q=>∃i j,xs=[.int i,.int j]/\Q (.int (if j<i then j else i)) H):=by
 intro pins s σ H xs us Q I r h;obtain⟨i,j,rfl,q⟩:=h;obtain⟨u,w',rfl,⟨t,rfl⟩,⟨t',rfl⟩⟩:=vals2 r;refine min_two_ints (I.ok.hd hc) λh' tk k=>⟨_,H,I.kept k,?_,q⟩;by_cases hj:j<i
 .rw[Y8 hj,Y8 hj];exact⟨_,rfl⟩
 .rw[Yi hj,Yi hj];exact⟨_,rfl⟩
def qw:bI X (.type "int") (λxs H Q=>(∃i,xs=[.int i]/\Q (.int i) H) \/ ∃k,xs=[.bl k]/\Q (.int (if k then 1 else 0)) H):=by
 intro pins s σ H xs us Q I r h;rcases h with⟨i,rfl,q⟩|⟨k,rfl,q⟩
 .obtain⟨u,rfl,t,rfl⟩:=Wb r;exact call_int_int ⟨.int i,H,I,⟨_,rfl⟩,q⟩
 .obtain⟨u,rfl,r1⟩:=Wb r;cases r1
  exact call_int_bool ⟨.int (if k then 1 else 0),H,I.tok _,⟨_,rfl⟩,q⟩
def rZ:bI X (.type "str") (λxs H Q=>∃i,xs=[.int i]/\i.natAbs.log2<1920/\Q (.str (toString i)) H):=by intro pins s σ H xs us Q I r h;obtain⟨i,rfl,hz,q⟩:=h;obtain⟨u,rfl,t,rfl⟩:=Wb r;exact PySem.P.str_of_int hz ⟨.str _,H,I.tok _,⟨_,rfl⟩,q⟩
def uh:bI X (.builtin "divmod") (λxs H Q=>∃i j,xs=[.int i,.int j]/\IK i j/\∀p,H p=none->Q (.ref p) (upd H p (.tup [.int (i/j),.int (i%j)]))):=by
 intro pins s σ H xs us Q I r h;obtain⟨i,j,rfl,⟨h1,h2⟩,q⟩:=h;obtain⟨u,w',rfl,⟨t,rfl⟩,⟨t',rfl⟩⟩:=vals2 r
 refine divmod_int (by omega) ?_ (.inl (PyProof.noPylong_small (by omega)))
 rw[Gc i (by omega),Go i (by omega)]
 have hn:H s.heap.objs.size=none:=I.hok.fresh (Yd _);refine⟨.ref s.heap.objs.size,_,?_,rfl,q _ hn⟩
 refine I.laid (λb o e=>Y7 _ e) (Yd _) ⟨by simp only[Ym,Zf];rw[Wq];decide,[.int (i/j) s.toks,.int (i%j) (s.toks+1)],.cons ⟨_,rfl⟩ (.cons ⟨_,rfl⟩ .nil),?_⟩
 exact⟨_,Yg s.heap rfl,rfl,0,rfl⟩
end
structure ObjM(h:Heap)(x dx C:Addr)(mA:Str->Option Value):Prop where
 obj:h.get? x=some (instObj C dx)
 ns:h.Ns1 dx mA
 ne:dx≠x
def zC{dx:Addr}{mA:Str->Option Value}(n:h.Ns1 dx mA):∃od,h.get? dx=some od/\∀name,lookIn name od=some (mA name):=by
 obtain⟨o,es,ep,ho,hd,hk,_,hm⟩:=n;refine⟨o,ho,λname=>?_⟩;have e:=hm name;unfold nsFind findBy at e;rw[<- Array.find?_toList]at e;unfold lookIn;rw[hd];dsimp only;split
 .rename_i y q;rw[q]at e;exact Q8 some e
 .rename_i q;rw[q]at e
  have a:es.toList.any (·.refKey)=false:=by rw[Qx];intro y hy;obtain⟨z,t,hkey⟩:=hk y (Array.mem_toList_iff.mp hy);simp[DictEntry.refKey,hkey]
  have a':¬es.toList.any (·.refKey)=true:=by rw[a];exact Yl
  rw[Yi a'];exact Q8 some e
def ObjM.look{x dx:Addr}{mA:Str->Option Value}(I:ObjM h x dx C mA):∃od,PySem.W.InstAt h x (instObj C dx) C (some od)/\∀name,lookIn name od=some (mA name):=
 let ⟨od,ho,hl⟩:=zC I.ns
 ⟨od,⟨I.obj,rfl,rfl,ho⟩,hl⟩
section
variable{prog:Program}{w:World}{A:Around}{E:Value->Shared->Prop}{s:Shared}{K:Frag}{x dx C f:Addr}{mA:Str->Option Value}{name:Str}{v:Value}
def get_map{expr:Bool}{Q:Value->Shared->Prop}(X:K.In s.heap)(I:ObjM s.heap x dx C mA)(hg:plainGet K C name=true)(hh:hasDictIn K C=true)
  (ha:findIn K (.ref C) name=some none) (hv:mA name=some v) (hv':handedIn v=true) (h:Q v { s with toks:=s.toks+1 }):
  wpAny (model prog w) A (getAttr (.ref x) name expr) Q E s:=by
 obtain⟨od,J,hl⟩:=I.look
 exact get_value X J (Ui hg).1 (findObj_own hh ha rfl (by rw[hl,hv])) hv' h
def AY{pl:Sem Bool}{Q:Value×List Value->Shared->Prop}(X:K.In s.heap)(I:ObjM s.heap x dx C mA)(hg:plainGet K C name=true)
  (hf:findIn K (.ref C) name=some (some (.ref f))) (ht:isFn K (.ref f)=true) (hv:mA name=none) (h:Q (.ref f,[.ref x]) s):
  wpAny (model prog w) A (getMethod (.ref x) name pl) Q E s:=by
 obtain⟨od,J,hl⟩:=I.look
 exact method_fn X J (Ui hg).1 (Ui hg).2 hf (U6.mp ht) (by show(lookIn name od).map (·.isSome)=some false;rw[hl,hv];rfl) h
def Dl{ns:List Str}{Q:Unit->Shared->Prop}(X:K.In s.heap)(I:ObjM s.heap x dx C mA)
  (hs:findIn K (.ref C) "__setattr__" = some (some (.builtin "object.__setattr__"))) (hp:plainOver K C=true) (ht:takerIn K C name=some none) (hh:hasDictIn K C=true)
  (hw:PySem.Within mA ns) (hsz:ns.length<=sizeLine)
  (h:∀h',ObjM h' x dx C (λy=>if y=name then some v else mA y)->Heap.SameBut dx s.heap h'->Q () { s with heap:=h',toks:=s.toks+2 }):
  wpAny (model prog w) A (setAttr (.ref x) name v) Q E s:=by
 obtain⟨od,J,hl⟩:=I.look
 refine set_plain X J hs (osa_open (s:={ s with toks:=s.toks+1 }) (r:=none) X J hp ht λb=>?_)
 obtain⟨cd,hc,hd'⟩:=any_some hh;have hx:s.heap.get? x=some ⟨.ref C,some dx,.plain,#[]⟩:=I.obj
 refine Y6 (Ye (Y6 (Y6 (wpAny_loadPart hx (Y6 (Looks.here (s:={ s with toks:=s.toks+1 }) (looks_clsIn X hc) ?_))))))
 rw[hd'];refine Ye (a:=some dx) (Y6 (Ye (Y6 ?_)))
 refine wpAny_nsSet1 (s:={ s with toks:=s.toks+1 }) I.ns λh' hn2 hs2=>?_
 obtain⟨oD,esD,epD,hoD,hdD,hcD⟩:=hn2.count (PySem.Within.cons name v hw)
 refine Y6 (wpAny_lookBehind hoD (by rw[hdD];exact pastItsLine_dict (Yv hcD (by rw[Ym];omega))) ?_)
 exact Ye (h _ ⟨(hs2.2 _ (Ne.symm I.ne)).trans I.obj,hn2,I.ne⟩ hs2)
def AZ{R:Result->Shared->Prop}{vs:List Value}{kw:List (Str×Value)}(X:K.In s.heap)(hm:makesIn K C=true)
  (hi:findIn K (.ref C) "__init__" = some (some (.ref f))) (hf:typeIn K (.ref f)=some (.type "function"))
  (h:codeAny (model prog w) (A.under (.builtin "type.__call__" ⟨.ref C::vs,kw⟩)) (.call (.ref f) ⟨.ref (s.heap.objs.size+1)::vs,kw⟩) (InitBack (s.heap.objs.size+1) R)
   { s with heap:=(s.heap.push emptyDict).push (instObj C s.heap.objs.size) }):
  codeAny (model prog w) A (.call (.ref C) ⟨vs,kw⟩) R s:=by
 obtain⟨hh,g,d,t,os⟩:=s;exact make_core (makes_of X hm) (looks_findIn X hi) (λself=>bind_fn X self hf) (.inl rfl) h
end
def ig(f:Str)(v:V):List (Str×V)->List (Str×V)
 |[]=>[(f,v)]
 |(g,x)::r=>if g=f then (g,v)::r else (g,x)::ig f v r
theorem mW(f g:Str)(v:V):∀fs:List (Str×V),(ig f v fs).lookup g=if g=f then some v else fs.lookup g
 |[]=>by
  show List.lookup g [(f,v)]=_;by_cases h:g=f
  .have hb:(g == f)=true:=U6.mpr h;simp only[List.lookup,hb,Y8 h]
  .have hb:(g == f)=false:=Ws.mpr h;simp only[List.lookup,hb,Yi h]
 |(k,x)::r=>by
  have ih:=mW f g v r
  rw[show ig f v ((k,x)::r)=(if k=f then (k,v)::r else (k,x)::ig f v r) from rfl]
  by_cases hk:k=f
  .rw[Y8 hk];by_cases h:g=k
   .have hb:(g == k)=true:=U6.mpr h;simp only[List.lookup,hb,Y8 (h.trans hk)]
   .have hb:(g == k)=false:=Ws.mpr h;simp only[List.lookup,hb,Yi (λe:g=f=>h (e.trans hk.symm))]
  .rw[Yi hk];by_cases h:g=k
   .have hb:(g == k)=true:=U6.mpr h;simp only[List.lookup,hb,Yi (λe:g=f=>hk (h.symm.trans e))]
   .have hb:(g == k)=false:=Ws.mpr h;simp only[List.lookup,hb];exact ih
theorem lY(f:Str)(v:V):∀fs:List (Str×V),f∈(ig f v fs).map (·.1)/\∀g,g∈fs.map (·.1)->g∈(ig f v fs).map (·.1)
 |[]=>⟨by simp[ig],λg h=>by simp at h⟩
 |(k,x)::r=>by
  obtain⟨i1,i2⟩:=lY f v r
  rw[show ig f v ((k,x)::r)=(if k=f then (k,v)::r else (k,x)::ig f v r) from rfl]
  by_cases hk:k=f
  .rw[Y8 hk];subst hk
   exact⟨by simp,λg h=>by simpa using h⟩
  .rw[Yi hk];refine⟨?_,λg h=>?_⟩
   .rw[Yb];exact Yz _ i1
   .rw[Yb]at h ⊢;rcases Yc.mp h with e|e
    .exact Yc.mpr (.inl e)
    .exact Yz _ (i2 g e)
theorem mX(f:Str)(v:V):∀fs:List (Str×V),(ig f v fs).length<=fs.length+1
 |[]=>by simp[ig]
 |(k,x)::r=>by
  have ih:=mX f v r
  rw[show ig f v ((k,x)::r)=(if k=f then (k,v)::r else (k,x)::ig f v r) from rfl]
  by_cases hk:k=f
  .rw[Y8 hk,Ym,Ym];omega
  .rw[Yi hk,Ym,Ym];omega
def jd.some_of{v:V}{o:Option Value}(r:jd (some v) o):∃u,o=some u/\RelV v u:=by
 cases o with
 |none=>exact(show False from r).elim
 |some u=>exact⟨u,rfl,r⟩
def jd.none_of{o:Option Value}(r:jd none o):o=none:=by
 cases o with
 |none=>rfl
 |some u=>exact(show False from r).elim
def zD{v:V}(r:RelV v u):handedIn u=true:=by
 cases v with
 |non=>cases (show u=Value.none from r);rfl
 |bl b=>cases (show u=Value.bool b from r);rfl
 |int i=>obtain⟨t,e⟩:=(show ∃t,u=Value.int i t from r);cases e;rfl
 |str x=>obtain⟨t,e⟩:=(show ∃t,u=Value.str x t from r);cases e;rfl
 |byt b=>obtain⟨t,e⟩:=(show ∃t,u=Value.bytes b t from r);cases e;rfl
 |flt b=>obtain⟨t,e⟩:=(show ∃t,u=Value.float b t from r);cases e;rfl
 |ref a=>cases (show u=Value.ref a from r);rfl
 |ty n=>cases (show u=Value.type n from r);rfl
section
variable{P:Program}{w:World}{H H':Hp}{h h':Heap}{a C dx:Addr}{fs fs':List (Str×V)}
def nT(hok:HOk P w H h)(e:H a=some (.ins C dx fs)):∃mA,ObjM h a dx C mA/\(∀f,jd (fs.lookup f) (mA f))/\PySem.Within mA (fs.map (·.1))/\fs.length<=1000/\H dx=some (.own a):=by
 obtain⟨d,z,ne,ob,mA,n,r,q⟩:=(show bR P w H h a (.ins C dx fs) from hok a _ e)
 exact⟨mA,⟨ob,n,ne⟩,r,q,z,d⟩
end
structure Cls(K:Frag)(C:Addr):Prop where
 pg:plainGet K C Str.empty=true
 hd:hasDictIn K C=true
 po:plainOver K C=true
 sa:findIn K (.ref C) "__setattr__" = some (some (.builtin "object.__setattr__"))
def Cls.get{K:Frag}(c:Cls K C)(f:Str):plainGet K C f=true:=c.pg
def km(K:Frag)(C:Addr)(f:Str):Prop:=findIn K (.ref C) f=some none
def km.taker{K:Frag}{f:Str}(n:km K C f):takerIn K C f=some none:=by
 unfold takerIn
 rw[show findIn K (.ref C) f=some none from n]
 rfl
structure Meth(K:Frag)(C:Addr)(m:Str)(f:Addr):Prop where
 at_:findIn K (.ref C) m=some (some (.ref f))
 fn:isFn K (.ref f)=true
 kp:keepIn K (.ref f)=true
section
variable{X:Cx}{pins:List (Addr×Obj)}{σ:St}{H:Hp}{s:Shared}{a C dx:Addr}{fs:List (Str×V)}{f:Str}{v:V}{A:Around}{E:Value->Shared->Prop}
def wI{b:Bool}{Q:Value->Shared->Prop}(I:Inv X pins σ H s)(e:H a=some (.ins C dx fs))(c:Cls X.K C)(n:km X.K C f)(l:fs.lookup f=some v)
  (h:∀u s',Inv X pins σ H s'->RelV v u->Q u s'):wpAny (model X.prog X.w) A (getAttr (.ref a) f b) Q E s:=by
 obtain⟨mA,O,r,_,_,_⟩:=nT I.hok e
 obtain⟨u,hu,ru⟩:=jd.some_of (v:=v) (o:=mA f) (by rw[<- l];exact r f)
 exact get_map I.kIn O (c.get f) c.hd n hu (zD ru) (h u _ (I.tok _) ru)
def ou{m:Str}{g:Addr}{pl:Sem Bool}{Q:Value×List Value->Shared->Prop}(I:Inv X pins σ H s)(e:H a=some (.ins C dx fs))(c:Cls X.K C)(k:Meth X.K C m g)(l:fs.lookup m=none)
  (h:Q (.ref g,[.ref a]) s):wpAny (model X.prog X.w) A (getMethod (.ref a) m pl) Q E s:=by
 obtain⟨mA,O,r,_,_,_⟩:=nT I.hok e
 have hn:mA m=none:=jd.none_of (by rw[<- l];exact r m)
 exact AY I.kIn O (c.get m) k.at_ k.fn hn h
def wJ{y:V}{Q:Unit->Shared->Prop}(I:Inv X pins σ H s)(e:H a=some (.ins C dx fs))(c:Cls X.K C)(n:km X.K C f)(hl:fs.length<1000)(ry:RelV y u)
  (h:∀s',Inv X pins σ (upd H a (.ins C dx (ig f y fs))) s'->Q () s'):wpAny (model X.prog X.w) A (setAttr (.ref a) f u) Q E s:=by
 obtain⟨mA,O,r,wi,_,ho⟩:=nT I.hok e
 have hz:(fs.map (·.1)).length<=sizeLine:=by rw[Yh,Wq];omega
 refine Dl I.kIn O c.sa c.po n.taker c.hd wi hz λh' O' sb=>h _ ?_
 have hd:∃o,h'.get? dx=some o:=let ⟨o,_,_,e',_⟩:=O'.ns;⟨o,e'⟩
 refine I.write (x:=a) (e:=dx) (by rw[e];exact True.intro) (.inr ho) (λb q hb z=>(sb.2 b hb).trans z) hd ?_
 refine⟨by rw[aN O.ne];exact ho,?_,O.ne,O'.obj,_,O'.ns,λg=>?_,λg hg=>?_⟩
 .have:=mX f y fs;omega
 .show jd ((ig f y fs).lookup g) (if g=f then some u else mA g)
  rw[mW];by_cases q:g=f
  .rw[Y8 q,Y8 q];exact ry
  .rw[Yi q,Yi q];exact r g
 .by_cases q:g=f
  .rw[q];exact(lY f y fs).1
  .refine(lY f y fs).2 g (wi g λz=>hg ?_)
   show(if g=f then some u else mA g)=none
   rw[Yi q];exact z
def Inv.made(I:Inv X pins σ H s):Inv X pins σ (upd (upd H s.heap.objs.size (.own (s.heap.objs.size+1))) (s.heap.objs.size+1) (.ins C s.heap.objs.size []))
  { s with heap:=(s.heap.push emptyDict).push (instObj C s.heap.objs.size) }:=by
 have e1:(s.heap.push emptyDict).get? s.heap.objs.size=some emptyDict:=Yg s.heap rfl
 have e2:((s.heap.push emptyDict).push (instObj C s.heap.objs.size)).get? (s.heap.objs.size+1)=some (instObj C s.heap.objs.size):=by
  have:=Yg (s.heap.push emptyDict) (o:=instObj C s.heap.objs.size) rfl
  rwa [Z5]at this
 have e3:(s.heap.push emptyDict).Ns s.heap.objs.size (λ_=>none):=⟨emptyDict,#[],_,e1,rfl,(λe he=>absurd he (by simp)),λ_=>rfl⟩
 have I1:=I.laid (a:=s.heap.objs.size) (o:=.own (s.heap.objs.size+1)) (h':=s.heap.push emptyDict) (t':=s.toks) (λb u q=>Y7 _ q) (Yd _) ⟨_,e1⟩;refine I1.laid (a:=s.heap.objs.size+1) (o:=.ins C s.heap.objs.size []) (t':=s.toks) (λb u q=>Y7 _ q) (Nat.le_of_eq (Z5 _ _)) ?_;have ne:s.heap.objs.size≠s.heap.objs.size+1:=Yt (Zx _)
 refine⟨by rw[aN ne,aP],Zq _,ne,e2,λ_=>none,(Heap.Ns1.of_empty e3).at λo q=>Y7 _ q,λ_=>True.intro,λy hy=>absurd rfl hy⟩
def Dm{prog:Program}{w:World}{env:Env}{f:Str}{pos:Pos}{s:Shared}{Q:Value->Shared->Prop}(hb:attributeBase e f env (eval e env)=eval e env)
  (h:wpAny (model prog w) A (eval e env) (λo s₁=>wpAny (model prog w) A (getAttr o f true) Q E s₁) E s):wpAny (model prog w) A (eval (.Attribute e f pos) env) Q E s:=
 Attribute_any_ h (by rw[arm_eval_Attribute,hb])
end
def J3(K:Frag)(ta:TE)(f:Str):TE:=λσ H Q=>ta σ H λx H1=>∃a C dx fs v,x=.ref a/\H1 a=some (.ins C dx fs)/\Cls K C/\km K C f/\fs.lookup f=some v/\Q v H1
def J4(K:Frag)(ta tv:TE)(f:Str):TS:=λD σ H=>tv σ H λy H1=>ta σ H1 λx H2=>∃a C dx fs,x=.ref a/\H2 a=some (.ins C dx fs)/\Cls K C/\km K C f/\fs.length<1000/\
 D.nx σ (upd H2 a (.ins C dx (ig f y fs)))
section
variable{X:Cx}{o e value:Expr}{f:Str}{pos pos' tpos:Pos}{ta tv:TE}
def Gu(he:PE X e ta)(hb:attributeBase e f X.env (eval e X.env)=eval e X.env):PE X (.Attribute e f pos) (J3 X.K ta f):=by intro pins s σ H Q I h;refine Dm hb (thn (he pins s σ H _ I h) λu s1 zq=>?_);obtain⟨x,H1,I1,rx,a,C,dx,fs,v,ex,ea,c,n,l,q⟩:=zq;subst ex;obtain rfl:u=Value.ref a:=rx;exact wI I1 ea c n l λu' s2 I2 ru=>⟨v,H1,I2,ru,q⟩
def Gv(ha:PE X o ta)(hv:PE X value tv)(hs:swapsWith value (some (.Attribute o f pos')) pos.line X.env=pure false):PS X (.Assign [.Attribute o f pos'] value pos) (J4 X.K ta tv f):=by intro pins s σ H D I h;refine plainObj_wpAny_Assign_Attribute (thn (hv pins s σ H _ I h) λu s1 zq=>ex5 zq λy H1 I1 ry q=>thn (ha pins s1 σ H1 _ I1 q) λov s2 zq=>?_) hs;obtain⟨x,H2,I2,rx,a,C,dx,fs,ex,ea,c,n,l,q2⟩:=zq;subst ex;obtain rfl:ov=Value.ref a:=rx;exact wJ I2 ea c n l ry λs3 I3=>⟨σ,_,I3,q2⟩
end
section
variable{X:Cx}{pins:List (Addr×Obj)}{σ:St}{H:Hp}{s:Shared}{A:Around}{E:Value->Shared->Prop}{Q:Value->Shared->Prop}{c:Value}{b:Bool}
inductive TyOf(K:Frag)(H:Hp):V->Value->Prop where
 |non:TyOf K H .non (.type "NoneType")
 |bl (x:Bool):TyOf K H (.bl x) (.type "bool")
 |int (i:Int):TyOf K H (.int i) (.type "int")
 |str (x:Str):TyOf K H (.str x) (.type "str")
 |flt (x:UInt64):TyOf K H (.flt x) (.type "float")
 |lst {a:Addr} {xs:List V} (e:H a=some (.lst xs)):TyOf K H (.ref a) (.type "list")
 |frz {a:Addr} {o:Obj} {xs:List V} (e:H a=some (.frz o (.lst xs))):TyOf K H (.ref a) (.type "list")
 |tup {a:Addr} {xs:List V} (e:H a=some (.tup xs)):TyOf K H (.ref a) (.type "tuple")
 |dK {a:Addr} {kvs:List (Key×V)} (e:H a=some (.dK kvs)):TyOf K H (.ref a) (.type "dict")
 |dT {a:Addr} {kvs:List (List Key×V)} (e:H a=some (.dT kvs)):TyOf K H (.ref a) (.type "dict")
 |ins {a C dx:Addr} {fs:List (Str×V)} (e:H a=some (.ins C dx fs)) (cl:Cls K C) (ha:findIn K (.ref C) "__class__" = some (some (.builtin "object.__class__")))
   (hn:specialIn K (.builtin "object.__class__") "__get__" = some (some (.builtin "getset_descriptor.__get__"))) (htk:takesIn K (.builtin "object.__class__")=some true)
   (hm:mroIn K C (.type "object")=some true):TyOf K H (.ref a) (.ref C)
def zE{x:V}{t:Value}(I:Inv X pins σ H s)(rx:RelV x u)(ty:TyOf X.K H x t)(e:kitOne X.K t c=some b)(h:∀tk,Q (.bool b) { s with toks:=tk }):
  wpAny (model X.prog X.w) A (call (.builtin "isinstance") [u,c]) Q E s:=by
 cases ty with
 |non=>cases (show u=Value.none from rx);exact Zt kitx_none I.kIn True.intro e (λz=>nomatch z) h
 |bl y=>cases (show u=Value.bool y from rx);exact Zt kitx_bool I.kIn True.intro e (λz=>nomatch z) h
 |int i=>obtain⟨t,q⟩:=(show ∃t,u=Value.int i t from rx);cases q;exact Zt kitx_int I.kIn True.intro e (λz=>nomatch z) h
 |str y=>obtain⟨t,q⟩:=(show ∃t,u=Value.str y t from rx);cases q;exact Zt kitx_str I.kIn True.intro e (λz=>nomatch z) h
 |flt y=>obtain⟨t,q⟩:=(show ∃t,u=Value.float y t from rx);cases q;exact Zt kitx_float I.kIn True.intro e (λz=>nomatch z) h
 | @lst a xs ea=>
  cases (show u=Value.ref a from rx)
  obtain⟨_,_,n,_,h1⟩:=(show bR X.prog X.w H s.heap a (.lst xs) from I.hok a _ ea)
  exact Zt kitx_list I.kIn ⟨_,h1,rfl⟩ e (λz=>nomatch z) h
 | @frz a ob xs ea=>
  cases (show u=Value.ref a from rx)
  obtain⟨_,_,_,n,_,h1⟩:=(show bR X.prog X.w H s.heap a (.frz ob (.lst xs)) from I.hok a _ ea)
  exact Zt kitx_list I.kIn ⟨_,h1,rfl⟩ e (λz=>nomatch z) h
 | @tup a xs ea=>
  cases (show u=Value.ref a from rx)
  obtain⟨_,_,_,p⟩:=(show bR X.prog X.w H s.heap a (.tup xs) from I.hok a _ ea)
  obtain⟨o,h1,h2,_⟩:=p
  exact Zt kitx_tuple I.kIn ⟨o,h1,h2⟩ e (λz=>nomatch z) h
 | @dK a kvs ea=>
  cases (show u=Value.ref a from rx)
  obtain⟨_,_,vs,_,p⟩:=(show bR X.prog X.w H s.heap a (.dK kvs) from I.hok a _ ea)
  obtain⟨o,es,ep,h1,h2,_⟩:=p
  exact Zt kitx_dict I.kIn ⟨o,h1,h2.1⟩ e (λz=>nomatch z) h
 | @dT a kvs ea=>
  cases (show u=Value.ref a from rx)
  obtain⟨_,_,xs,_,o,es,ep,h1,h2,_⟩:=(show bR X.prog X.w H s.heap a (.dT kvs) from I.hok a _ ea)
  exact Zt kitx_dict I.kIn ⟨o,h1,h2.1⟩ e (λz=>nomatch z) h
 | @ins a C dx fs ea cl ha hn htk hm=>
  cases (show u=Value.ref a from rx)
  obtain⟨mA,O,_⟩:=nT I.hok ea;obtain⟨od,J,_⟩:=O.look
  exact Zt (kitx_own (cl.get _) cl.hd ha hn htk hm) I.kIn J e (λz=>nomatch z) h
end
structure Room(k:Nat)(A:Around):Prop where
 hd:A.handled=none
 dp:A.depth+3*k+5<recursionLimit
 un:A.units+16*k+200<cLine
 gd:A.guards=some []
def Room.mono{k:Nat}(r:Room k A)(h:j<=k):Room j A:=⟨r.hd,by have:=r.dp;omega,by have:=r.un;omega,r.gd⟩
theorem Room.deeper{k:Nat}(r:Room (k+1) A)(env:Env):Room k (A.deeper env):=
 ⟨r.hd,by have:=r.dp;show A.depth+1+3*k+5<_;omega,by have:=r.un;show A.units+3+16*k+200<_;omega,r.gd⟩
def wK{kw:List (Str×Value)}:(A.under (.builtin "type.__call__" ⟨.ref C::us,kw⟩)).depth=A.depth+1:=by first|rfl|simp[Around.under,Code.weight,Code.isCreation,Code.isGuard,Code.isCaller,Code.frames,Code.isFrame,guardIds]
def wL{kw:List (Str×Value)}:(A.under (.builtin "type.__call__" ⟨.ref C::us,kw⟩)).units=A.units+1:=by first|rfl|simp[Around.under,Code.cUnits,Code.frames,Code.isFrame]
def Room.make{k:Nat}(r:Room (k+1) A)(C:Addr)(us:List Value)(kw:List (Str×Value)):Room k (A.under (.builtin "type.__call__" ⟨.ref C::us,kw⟩)):=
 ⟨r.hd,by have:=r.dp;rw[wK];omega,by have:=r.un;rw[wL];omega,by first|exact r.gd|(have:=r.gd;simpa[Around.under,Code.isGuard,guardIds] using this)⟩
theorem Room.depth{k:Nat}(r:Room k A):A.depth<recursionLimit:=by have:=r.dp;omega
theorem Room.units{k:Nat}(r:Room k A):A.units+64<cLine:=by have:=r.un;omega
def Gw:TA:=λ_ H Q=>Q [] H
def IW(ta:TE)(tr:TA):TA:=λσ H Q=>ta σ H λx H1=>tr σ H1 λxs H2=>Q (x::xs) H2
section
variable{X:Cx}{e:Expr}{es:List Expr}{te:TE}{t:TA}{pos:Pos}
def A0:PA X [] Gw:=λ_ _ _ _ H Q I h=>Calls.spliced_nil ⟨[],H,I,.nil,h⟩
def yd(ha:PE X e te)(hr:PA X es t)(hs:autoParam (starEach (e::es) X.env=(false,eval e X.env)::starEach es X.env) zz1._auto_1):PA X (e::es) (IW te t):=by intro pos pins s σ H Q I h;rw[hs];show wpAny _ _ (spliced ((false,eval e X.env)::backTo pos (starEach es X.env))) _ _ s;refine Uq (thn (ha pins s σ H _ I h) λu s1 zq=>?_);obtain⟨x,H1,I1,r1,q1⟩:=zq;exact thn (hr pos pins s1 σ H1 _ I1 q1) λus s2 zq=>ex5 zq λxs H2 I2 r2 q2=>⟨x::xs,H2,I2,.cons r1 r2,q2⟩
def J5(t:TA):TE:=λσ H Q=>t σ H λxs H1=>xs.length<=sizeLine/\∀p,H1 p=none->Q (.ref p) (upd H1 p (.tup xs))
def J6(t:TA):TE:=λσ H Q=>t σ H λxs H1=>xs.length<=sizeLine/\∀p,H1 p=none->Q (.ref p) (upd H1 p (.lst xs))
def Gx{x1}(h:PA X es t):PE X (.Tuple es x1 pos) (J5 t):=by
 intro pins s σ H Q I hq
 refine wpAny_Tuple_spliced (thn (h pos pins s σ H _ I hq) λus s1 ⟨xs,H1,I1,r,z,q⟩=>⟨by rw[<- r.length];exact z,?_⟩)
 have hf:H1 s1.heap.objs.size=none:=I1.hok.fresh (Yd _);refine⟨.ref s1.heap.objs.size,upd H1 s1.heap.objs.size (.tup xs),I1.laid (t':=s1.toks) (λb u e=>Y7 _ e) (Yd _) ?_,rfl,q _ hf⟩;exact⟨z,us,r,⟨_,Yg _ rfl,rfl,_,rfl⟩⟩
def A1(h:PA X es t):PE X (.List es pos) (J6 t):=by
 intro pins s σ H Q I hq
 refine wpAny_List_spliced (thn (h pos pins s σ H _ I hq) λus s1 ⟨xs,H1,I1,r,z,q⟩=>⟨by rw[<- r.length];exact z,?_⟩)
 have hf:H1 s1.heap.objs.size=none:=I1.hok.fresh (Yd _);refine⟨.ref s1.heap.objs.size,upd H1 s1.heap.objs.size (.lst xs),I1.laid (t':=s1.toks) (λb u e=>Y7 _ e) (Yd _) ?_,rfl,q _ hf⟩;exact⟨z,us,0,r,Yg _ rfl⟩
end
abbrev Sp:=List V->Hp->VK->XK->Prop
abbrev CXT:=List Env->Hp->Shared->XK->Value->Shared->Prop
structure Env0(P:Program)(w:World)(K:Frag)(mg:Str->Option Value)(base:Heap)(A:Around)(outer:List Env)(s:Shared)(H:Hp):Prop where
 frames:A.frames=some outer
 mod:Mod K mg base
 bs:∀b o,base.get? b=some o->s.heap.get? b=some o/\H b=none
 bsz:base.objs.size<=s.heap.objs.size
 funs:s.heap.FunFrames base outer
 frf:∀b∈frs outer,H b=none
 hok:HOk P w H s.heap
 bare:AllBare s.gens
def CE(outer:List Env)(P:Program)(w:World)(H:Hp)(s:Shared)(Q:VK)(u:Value)(s':Shared):Prop:=
 ∃v H',s'.os=s.os/\AllBare s'.gens/\Un (frs outer) [] H H' s.heap s'.heap/\HOk P w H' s'.heap/\RelV v u/\Q v H'
def CR(CX:CXT)(outer:List Env)(P:Program)(w:World)(H:Hp)(s:Shared)(Q:VK)(E:XK)(r:Result)(s':Shared):Prop:=
 match r with
 |.ok (.ret u)=>CE outer P w H s Q u s'
 |.ok _=>False
 |.error e=>CX outer H s E e s'
structure FnOk(P:Program)(w:World)(K:Frag)(mg:Str->Option Value)(base:Heap)(CX:CXT)(k:Nat)(f:Addr)(fd:FuncData)(ps:List Str)(sp:Sp):Prop where
 len:∀vs H Q E,sp vs H Q E->vs.length=ps.length
 run:∀(A:Around)(outer:List Env)(s:Shared)(H:Hp)(args:Args)(us:List Value)(vs:List V)(Q:VK)(E:XK),Room k A->Env0 P w K mg base A outer s H->BindsTo s fd args (ps.zip us)->Vals vs us->sp vs H Q E->
  codeAny (model P w) A (.call (.ref f) args) (CR CX outer P w H s Q E) s
theorem FnOk.mono{K:Frag}{CX:CXT}{k:Nat}{f:Addr}{sp:Sp}(F:FnOk P w K mg base CX j f fd ps sp)(h:j<=k):
  FnOk P w K mg base CX k f fd ps sp:=⟨F.len,λA outer s H args us vs Q E hr=>F.run A outer s H args us vs Q E (hr.mono h)⟩
def FnOk.imp{K:Frag}{CX:CXT}{k:Nat}{f:Addr}{sp sp':Sp}(F:FnOk P w K mg base CX k f fd ps sp)
  (h:∀vs H Q E,sp' vs H Q E->sp vs H Q E):FnOk P w K mg base CX k f fd ps sp':=
 ⟨λvs H Q E q=>F.len vs H Q E (h _ _ _ _ q),λA outer s H args us vs Q E hr he hb hv hs=>F.run A outer s H args us vs Q E hr he hb hv (h _ _ _ _ hs)⟩
def Env0.make{K:Frag}{outer:List Env}(e:Env0 P w K mg base A outer s H)(C:Addr)(us:List Value)(kw:List (Str×Value)):
  Env0 P w K mg base (A.under (.builtin "type.__call__" ⟨.ref C::us,kw⟩)) outer s H:=⟨by first|exact e.frames|(simpa[Around.under,Code.envs,Code.isFrame,pushEnvs] using e.frames),e.mod,e.bs,e.bsz,e.funs,e.frf,e.hok,e.bare⟩
section
variable{X:Cx}{pins:List (Addr×Obj)}{σ:St}{H:Hp}{s s':Shared}
def Inv.env0(I:Inv X pins σ H s):Env0 X.prog X.w X.K X.mg X.base X.A X.stack s H:=
 ⟨I.ok.frames,I.ok.mod,I.bs,Yv I.ok.bsz I.sz,I.stack,I.stkFree,I.hok,I.bare⟩
def Inv.after{Q:VK}(I:Inv X pins σ H s)(h:CE X.stack X.prog X.w H s Q u s'):EP X pins σ Q u s':=by
 obtain⟨v,H',os,bare,un,hok,r,q⟩:=h;obtain⟨hh,g,d,t,os'⟩:=s';obtain rfl:os'=s.os:=os
 exact⟨v,H',I.call (h':=hh) (g':=g) (d':=d) (t':=t) (ch:=[]) un hok bare (λb z=>absurd z (by simp)),r,q⟩
end
def IY(sp:Sp)(dvs:List V)(E:XK)(t:TA):TE:=λσ H Q=>t σ H λvs H1=>sp (vs++dvs) H1 Q E
def E8(C:Addr)(m:Str)(sp:Sp)(dvs:List V)(E:XK)(ta:TE)(t:TA):TE:=λσ H Q=>ta σ H λx H1=>∃a dx fs,x=.ref a/\H1 a=some (.ins C dx fs)/\fs.lookup m=none/\
 t σ H1 λvs H2=>sp (x::(vs++dvs)) H2 Q E
def IZ(C:Addr)(sp:Sp)(dvs:List V)(E:XK)(t:TA):TE:=λσ H Q=>t σ H λvs H1=>∀x dx,H1 x=none->H1 dx=none->dx≠x->
 sp (.ref x::(vs++dvs)) (upd (upd H1 dx (.own x)) x (.ins C dx [])) (λv H2=>v=.non/\Q (.ref x) H2) E
def Binds(K:Frag)(fd:FuncData)(ps:List Str)(ds:List Value):Prop:=
 ∀(s:Shared)(us:List Value),K.In s.heap->(us++ds).length=ps.length->BindsTo s fd ⟨us,[]⟩ (ps.zip (us++ds))
def Binds.all{K:Frag}(h:∀us:List Value,us.length=ps.length->bindArgs fd ⟨us,[]⟩=pure (ps.zip us)):Binds K fd ps []:=λs us _ hl=>by rw[Qh]at hl ⊢;exact .of_eq (h us hl)
def Passes(CX:CXT)(X:Cx)(E:XK):Prop:=∀(pins:List (Addr×Obj))(σ:St)(H:Hp)(s:Shared)(e:Value)(s':Shared),Inv X pins σ H s->CX X.stack H s E e s'->X.xe e s'
section
variable{X:Cx}{CX:CXT}{k:Nat}{f C:Addr}{fd:FuncData}{ps:List Str}{sp:Sp}{dvs:List V}{ds:List Value}{E:XK}{x m:Str}{p pos apos:Pos}{e o:Expr}{es:List Expr}{ta:TE}{t:TA}
theorem sd{pins:List (Addr×Obj)}{σ:St}{H:Hp}{s:Shared}{Q:VK}{us:List Value}{vs:List V}(F:FnOk X.prog X.w X.K X.mg X.base CX k f fd ps sp)(hr:Room k X.A)(hb:Binds X.K fd ps ds)(hd:Vals dvs ds)(hx:Passes CX X E)
  (I:Inv X pins σ H s) (r:Vals vs us) (h:sp (vs++dvs) H Q E):wpAny (model X.prog X.w) X.A (call (.ref f) us) (EP X pins σ Q) X.xe s:=by
 have r2:Vals (vs++dvs) (us++ds):=r.append hd
 have hl:(us++ds).length=ps.length:=by rw[<- r2.length];exact F.len _ _ _ _ h
 refine wpAny_call (K9 (F.run X.A X.stack s H ⟨us,[]⟩ (us++ds) (vs++dvs) Q E hr I.env0 (hb s us I.kIn hl) r2 h) λr s' hq=>?_);cases r with
 |error e=>exact hx pins σ H s e s' I hq
 |ok fl=>
  cases fl with
  |ret u=>exact I.after hq
  |next=>exact False.elim hq
  |brk=>exact False.elim hq
  |cont=>exact False.elim hq
def Dn(F:FnOk X.prog X.w X.K X.mg X.base CX k f fd ps sp)(hr:Room k X.A)(hg:Gl X x)(hm:X.mg x=some (.ref f))(hk:keepIn X.K (.ref f)=true)(hb:Binds X.K fd ps ds)(hd:Vals dvs ds)(hx:Passes CX X E)
  (ha:PA X (e::es) t) (hdb:autoParam ((x == ("__debug__":Str))=false) zz2._auto_1) (he:autoParam (starEach (e::es) X.env=(false,eval e X.env)::starEach es X.env) zz1._auto_1) (hpl:autoParam ((backTo pos (starEach es X.env)).any (·.1)=false) zz1._auto_1):
  PE X (.Call (.Name x p) (e::es) [] pos) (IY sp dvs E t):=by
 intro pins s σ H Q I h;refine Wx (rX I hg hm ?_ hdb);refine Ur (h₀:=X.base) I.ok.mod.kin hk (thn (ha pos pins s σ H _ I h) λus s1 zq=>ex5 zq λvs H1 I1 r q=>⟨I1.kIn,?_⟩) he hpl;exact sd F hr hb hd hx I1 r q
def Dp{pl:Sem Bool}(he:PE X o ta)(c:Cls X.K C)(hm:Meth X.K C m f)(F:FnOk X.prog X.w X.K X.mg X.base CX k f fd ps sp)(hr:Room k X.A)(hb:Binds X.K fd ps ds)(hd:Vals dvs ds)(hx:Passes CX X E)(ha:PA X (e::es) t)
  (hst:autoParam (starEach (e::es) X.env=(false,eval e X.env)::starEach es X.env) zz1._auto_1) (hpl:autoParam ((backTo pos (starEach es X.env)).any (·.1)=false) zz1._auto_1)
  (ht:autoParam (eval (.Call (.Attribute o m apos) (e::es) [] pos) X.env=(do
   let ov <- eval o X.env
   standAt apos.atName
   let (f,first) <- holding [ov] (getMethod ov m pl)
   callWith pos f first (backTo pos (starEach (e::es) X.env)) (backToKw pos (keywordEach [] X.env)))) zz1._auto_1):
  PE X (.Call (.Attribute o m apos) (e::es) [] pos) (E8 C m sp dvs E ta t):=by
 intro pins s σ H Q I h;refine methodCall_KW (pl:=pl) (thn (he pins s σ H _ I h) λu s1 zq=>?_) ht;obtain⟨x,H1,I1,rx,a,dx,fs,ex,ea,l,q⟩:=zq;subst ex;obtain rfl:u=Value.ref a:=rx;refine ou I1 ea c hm l ?_
 refine Ur (first:=[.ref a]) (h₀:=X.base) I.ok.mod.kin hm.kp (thn (ha pos pins s1 σ H1 _ I1 q) λus s2 zq=>ex5 zq λvs H2 I2 r q2=>⟨I2.kIn,?_⟩) hst hpl
 exact sd (us:=.ref a::us) (vs:=.ref a::vs) F hr hb hd hx I2 (.cons rfl r) q2
def A3{pl:Sem Bool}(he:PE X o ta)(c:Cls X.K C)(hm:Meth X.K C m f)(F:FnOk X.prog X.w X.K X.mg X.base CX k f fd ps sp)(hr:Room k X.A)(hb:Binds X.K fd ps ds)(hd:Vals dvs ds)(hx:Passes CX X E)
  (ht:autoParam (eval (.Call (.Attribute o m apos) [] [] pos) X.env=(do
   let ov <- eval o X.env
   standAt apos.atName
   let (f,first) <- holding [ov] (getMethod ov m pl)
   callWith pos f first (backTo pos (starEach [] X.env)) (backToKw pos (keywordEach [] X.env)))) zz1._auto_1):
  PE X (.Call (.Attribute o m apos) [] [] pos) (E8 C m sp dvs E ta Gw):=by
 intro pins s σ H Q I h;refine methodCall_KW (pl:=pl) (thn (he pins s σ H _ I h) λu s1 zq=>?_) ht;obtain⟨x,H1,I1,rx,a,dx,fs,ex,ea,l,q⟩:=zq;subst ex;obtain rfl:u=Value.ref a:=rx;refine ou I1 ea c hm l ?_
 exact callWith_K0 (first:=[.ref a]) I1.kIn hm.kp (sd (us:=[.ref a]) (vs:=[.ref a]) F hr hb hd hx I1 (.cons rfl .nil) q)
structure Mk(K:Frag)(C f:Addr):Prop where
 makes:makesIn K C=true
 init:findIn K (.ref C) "__init__" = some (some (.ref f))
 fn:isFn K (.ref f)=true
 kp:keepIn K (.ref C)=true
theorem A4{pins:List (Addr×Obj)}{σ:St}{H:Hp}{s:Shared}{Q:VK}{us:List Value}{vs:List V}(M:Mk X.K C f)(F:FnOk X.prog X.w X.K X.mg X.base CX k f fd ps sp)(hr:Room (k+1) X.A)(hb:Binds X.K fd ps ds)(hd:Vals dvs ds)
  (hx:Passes CX X E) (I:Inv X pins σ H s) (r:Vals vs us)
  (h:∀x dx,H x=none->H dx=none->dx≠x->sp (.ref x::(vs++dvs)) (upd (upd H dx (.own x)) x (.ins C dx [])) (λv H2=>v=.non/\Q (.ref x) H2) E):
  wpAny (model X.prog X.w) X.A (call (.ref C) us) (EP X pins σ Q) X.xe s:=by
 have hq:=h (s.heap.objs.size+1) s.heap.objs.size (I.hok.fresh (Wp _)) (I.hok.fresh (Yd _)) (Yt (Zx _));have I2:=Inv.made (C:=C) I;have r2:Vals (V.ref (s.heap.objs.size+1)::(vs++dvs)) (Value.ref (s.heap.objs.size+1)::(us++ds)):=.cons rfl (r.append hd)
 have hl:(Value.ref (s.heap.objs.size+1)::us++ds).length=ps.length:=by have e:=r2.length;rw[F.len _ _ _ _ hq]at e;exact e.symm
 refine wpAny_call (AZ (f:=f) I.kIn M.makes M.init (U6.mp M.fn) (K9 (F.run _ X.stack _ _ ⟨Value.ref (s.heap.objs.size+1)::us,[]⟩ (Value.ref (s.heap.objs.size+1)::(us++ds)) _ _ E (hr.make C us [])
  (I2.env0.make C us []) (hb _ (Value.ref (s.heap.objs.size+1)::us) I2.kIn hl) r2 hq) λr s' hq'=>?_))
 cases r with
 |error e=>exact hx pins σ _ _ e s' I2 hq'
 |ok fl=>
  cases fl with
  |ret u=>
   obtain⟨v,H',I3,rv,ev,q3⟩:=I2.after hq';subst ev;exact⟨rv,⟨V.ref (s.heap.objs.size+1),H',I3,rfl,q3⟩⟩
  |next=>exact False.elim hq'
  |brk=>exact False.elim hq'
  |cont=>exact False.elim hq'
def A5(M:Mk X.K C f)(F:FnOk X.prog X.w X.K X.mg X.base CX k f fd ps sp)(hr:Room (k+1) X.A)(hg:Gl X x)(hm:X.mg x=some (.ref C))(hb:Binds X.K fd ps ds)(hd:Vals dvs ds)(hx:Passes CX X E)
  (hdb:autoParam ((x == ("__debug__":Str))=false) zz2._auto_1):PE X (.Call (.Name x p) [] [] pos) (IZ C sp dvs E Gw):=by
 intro pins s σ H Q I h;refine Wx (rX I hg hm ?_ hdb);exact callWith_K0 I.kIn M.kp (A4 (us:=[]) M F hr hb hd hx I .nil h)
end
structure FnScope(N P:List Str)(sc:Scope):Prop where
 kind:sc.kind=.function
 co:sc.isCoroutine=false
 gen:sc.isGenerator=false
 nd:N.Nodup
 pre:N.take P.length=P
 par:∀x∈P,sc.names.lookup x=some .local\/sc.names.lookup x=some .cell
 nofree:∀y∈sc.names,y.2≠.free
theorem qA:∀{binds:List (Str×Value)}{m:Str->Option Value},(∀v,(x,v)∉binds)->bindL kindOf binds m x=m x
 |[],_,_=>rfl
 |(n,v)::r,m,h=>by
  unfold bindL;rw[qA λw hw=>h w (Yz _ hw)];split
  .have:x≠n:=by rintro rfl;exact h v Z2
   simp[this]
  .rfl
theorem qB:∀{binds:List (Str×Value)}{m:Str->Option Value},(∀v,(x,v)∉binds)->bindC kindOf binds m x=m x
 |[],_,_=>rfl
 |(n,v)::r,m,h=>by
  unfold bindC;rw[qB λw hw=>h w (Yz _ hw)];split
  .rfl
  .have:x≠n:=by rintro rfl;exact h v Z2
   simp[this]
theorem qC{v:Value}:∀{P:List Str}{vs:List Value}{i:Nat}{m:Str->Option Value},P.Nodup->P[i]?=some x->vs[i]?=some v->kindOf x=some .local->
  bindL kindOf (P.zip vs) m x=some v
 |[],_,_,_,_,h,_,_=>by simp at h
 |_::_,[],_,_,_,_,h,_=>by simp at h
 |p::P,w::vs,0,m,nd,h1,h2,hk=>by simp at h1 h2;subst h1;subst h2;show bindL kindOf ((p,w)::P.zip vs) m p=_;unfold bindL;rw[qA λv hv=>(Wy.mp nd).1 (Wk hv).1,Y8 hk];simp
 |p::P,w::vs,i+1,m,nd,h1,h2,hk=>by
  show bindL kindOf ((p,w)::P.zip vs) m x=_;unfold bindL
  exact qC (i:=i) (Wy.mp nd).2 (by simpa using h1) (by simpa using h2) hk
theorem qD{v:Value}:∀{P:List Str}{vs:List Value}{i:Nat}{m:Str->Option Value},P.Nodup->P[i]?=some x->vs[i]?=some v->kindOf x≠some .local->
  bindC kindOf (P.zip vs) m x=some v
 |[],_,_,_,_,h,_,_=>by simp at h
 |_::_,[],_,_,_,_,h,_=>by simp at h
 |p::P,w::vs,0,m,nd,h1,h2,hk=>by simp at h1 h2;subst h1;subst h2;show bindC kindOf ((p,w)::P.zip vs) m p=_;unfold bindC;rw[qB λv hv=>(Wy.mp nd).1 (Wk hv).1,Yi hk];simp
 |p::P,w::vs,i+1,m,nd,h1,h2,hk=>by
  show bindC kindOf ((p,w)::P.zip vs) m x=_;unfold bindC
  exact qD (i:=i) (Wy.mp nd).2 (by simpa using h1) (by simpa using h2) hk
def start(N:List Str)(vs:List V):St:=vs.map some++List.replicate (N.length-vs.length) none
def p8(CX:CXT)(P:Program)(w:World)(K:Frag)(mg:Str->Option Value)(base:Heap)(N:List Str)(qual:Str)(scope:Scope)(f:Addr)(cd:Value)(A:Around)(outer:List Env)(s:Shared)(H:Hp)(E:XK):Cx where
 prog:=P
 w:=w
 K:=K
 mg:=mg
 base:=base
 A:=A.deeper (envOfC qual scope s.heap.objs.size f cd)
 N:=N
 s₀:=s
 H₀:=H
 env:=envOfC qual scope s.heap.objs.size f cd
 outer:=outer
 stack:=envOfC qual scope s.heap.objs.size f cd::outer
 ex:=[]
 calm:=true
 fn:=λ_=>true
 pn:=[]
 xe:=λe s'=>wpAny (model P w) (A.deeper (envOfC qual scope s.heap.objs.size f cd)) (leaving (envOfC qual scope s.heap.objs.size f cd) e) (λ_ s''=>CX outer H s E e s'') (λe' s''=>CX outer H s E e' s'') s'
def uk{sc:Scope}{n:Nat}(h:sc.names.lookup x=some .cell):∃c,(cellsFrom n sc.names []).lookup x=some c:=by have q:=cellsFrom_some sc.names n [] (.inl h);exact Option.isSome_iff_exists.mp q
theorem zF{CX:CXT}{P:Program}{w:World}{K:Frag}{mg:Str->Option Value}{base:Heap}{N ps:List Str}{qual:Str}{scope:Scope}{f:Addr}{cd:Value}{A:Around}{outer:List Env}{s s1:Shared}{H:Hp}{E:XK}{us:List Value}{vs:List V}
  (S:FnScope N ps scope) (hd:A.handled=none) (e0:Env0 P w K mg base A outer s H) (hl:vs.length=ps.length) (r:Vals vs us)
  (x:InCallC s s.heap.objs.size (bindL (envOfC qual scope s.heap.objs.size f cd).kindOf (ps.zip us) λ_=>none) (cellsFrom (s.heap.objs.size+1) scope.names []) (bindC (envOfC qual scope s.heap.objs.size f cd).kindOf (ps.zip us) λ_=>none) s1):
  Inv (p8 CX P w K mg base N qual scope f cd A outer s H E) [] (start N vs) H s1:=by
 have hpl:ps.length<=N.length:=by have:=Q8 List.length S.pre;rw[Ql]at this;omega
 obtain⟨h1,tk,rfl,hk⟩:=x.done
 have noA:∀b:Addr,b∉(p8 CX P w K mg base N qual scope f cd A outer s H E).ex:=λb z=>absurd (show b∈([]:List Addr) from z) (by simp)
 refine⟨⟨e0.mod,S.kind,rfl,rfl,Yd _,λy z c h1 h2=>?_,λy hy=>?_,λy c _ h=>?_,λ_=>hd,Around.frames_deeper e0.frames,.inr ⟨rfl,rfl⟩,λb z=>absurd z (noA b),e0.bs,e0.bsz,λb _ _=>noA b,λb z=>absurd z (noA b),e0.funs,e0.frf⟩,
  rfl,e0.bare,Un.kept hk,⟨_,x.toInCall.ns,λi y v h1 h2 h3=>?_⟩,λy c h=>⟨_,x.cell y c h⟩,e0.hok.fresh (Yd _),λy c h=>?_,λp hp=>absurd (show p∈([]:List (Addr×Obj)) from hp) (by simp),e0.hok.kept hk,?_⟩
 .exact name_of_addr x.apart (Wt h1) (Wt h2)
 .have hy:scope.names.lookup y=some .cell\/scope.names.lookup y=some .free:=hy;rcases hy with hy|hy
  .exact uk hy
  .exact absurd rfl (S.nofree _ (Wt hy))
 .exact K8 (x.above y c (Wt h))
 .have hi:i<vs.length:=by
   unfold start at h2;by_cases hi:i<vs.length
   .exact hi
   .rw[W6 (by simpa using hi)]at h2
    rw[Wv]at h2;split at h2<;>cases h2
  have ha:vs[i]?=some v:=by
   unfold start at h2
   rw[Z0 (by simpa using hi),Q2]at h2
   cases e:vs[i]? with
   |none=>rw[e]at h2;cases h2
   |some a=>rw[e]at h2;cases h2;rfl
  obtain⟨u,hu,rv⟩:=r.get ha
  have hp:ps[i]?=some y:=by rw[<- S.pre,List.getElem?_take_of_lt (by omega)];exact h1
  have ndP:ps.Nodup:=by rw[<- S.pre];exact S.nd.sublist (List.take_sublist _ _)
  refine⟨u,rv,?_⟩;rcases S.par y (Zh hp) with k|k
  .exact .inl ⟨k,qC ndP hp hu k⟩
  .obtain⟨c,e⟩:=uk (n:=s.heap.objs.size+1) k;refine .inr ⟨.inl k,c,e,?_⟩;have q:=x.cell y c e
   rw[qD ndP hp hu (by show scope.names.lookup y≠_;rw[k];decide)]at q
   exact q
 .exact e0.hok.fresh (K8 (x.above y c (Wt h)))
 .unfold start;show _=N.length;rw[Yq,Yh,V5];omega
theorem I0{CX:CXT}{P:Program}{w:World}{K:Frag}{mg:Str->Option Value}{base:Heap}{k:Nat}{f:Addr}{name qual:Str}{params:Arguments}{body:List Stmt}{scope:Scope}{dV kV doc pm cdv ct oc:Value}{an od:Option Addr}
  {osl:Array (Option Value)} {N ps:List Str} {sp:Sp} (lk:K.lookup f=some ⟨oc,od,.func (fnOf name qual params body scope dV kV doc pm an cdv ct),osl⟩) (hcd:codeIn K cdv qual=true) (S:FnScope N ps scope)
  (len:∀vs H Q E,sp vs H Q E->vs.length=ps.length)
  (hbody:∀(A:Around)(outer:List Env)(s:Shared)(H:Hp)(vs:List V)(Q:VK)(E:XK),Room k (A.deeper (envOfC qual scope s.heap.objs.size f cdv))->sp vs H Q E->
   ∃t,PSs (p8 CX P w K mg base N qual scope f cdv A outer s H E) body t/\t { nx:=λ_ H'=>Q .non H',rt:=Q } (start N vs) H):
  FnOk P w K mg base CX (k+1) f (fnOf name qual params body scope dV kV doc pm an cdv ct) ps sp:=by
 refine⟨len,λA outer s H args us vs Q E hr e0 hb r hsp=>?_⟩;have hl:=len _ _ _ _ hsp;have KX:K.In s.heap:=e0.mod.kin.keeps λb o e=>(e0.bs b o e).1;have lim:s.heap.NoLimit:=e0.mod.nolimit.keeps λb o e=>(e0.bs b o e).1
 have hkind:∀y∈ps.zip us,scope.names.lookup y.1=some .local\/(scope.names.lookup y.1=some .cell/\((cellsFrom (s.heap.objs.size+1) scope.names []).lookup y.1).isSome=true):=λ⟨n,v⟩ hy=>by
  rcases S.par n (Wk hy).1 with q|q
  .exact .inl q
  .exact .inr ⟨q,cellsFrom_some _ _ _ (.inl q)⟩
 refine codeAny_call_function hr.depth (KX _ _ lk) rfl S.co S.gen rfl (codeRec_of KX hcd) (hb _ _ _ _ ?_);refine wpAny_newFunctionEnv_cells S.kind hkind λenv he s1 x=>?_;subst he;refine⟨lim.keeps x.toInCall.keep,codeAny_func ?_⟩;obtain⟨t,ht,hq⟩:=hbody A outer s H vs Q E (hr.deeper _) hsp;have I:Inv (p8 CX P w K mg base N qual scope f cdv A outer s H E) [] (start N vs) H s1:=zF S hr.hd e0 hl r x;refine Qv (ht [] s1 (start N vs) H _ I hq) (λfl s' hs=>?_) λe s' hs=>hs
 have fin:∀{σ':St}{H':Hp}{v:V}{u:Value},Inv (p8 CX P w K mg base N qual scope f cdv A outer s H E) [] σ' H' s'->RelV v u->Q v H'->CE outer P w H s Q u s':=
  λ{σ' H' v u} J rv q=>⟨v,H',J.os,J.bare,J.base,J.hok,rv,q⟩
 cases fl with
 |ret u=>
  obtain⟨v,σ',H',J,rv,q⟩:=hs;exact fin J rv q
 |next=>
  obtain⟨σ',H',J,q⟩:=hs;exact fin (v:=V.non) (u:=Value.none) J rfl q
 |brk=>
  obtain⟨_,_,_,q⟩:=hs;exact False.elim q
 |cont=>
  obtain⟨_,_,_,q⟩:=hs;exact False.elim q
section
variable{X:Cx}{x:Str}{p pos:Pos}{e:Expr}{es:List Expr}{t:TA}{id T:String}{r:List V->Hp->VK->Prop}
def tCB(r:List V->Hp->VK->Prop)(t:TA):TE:=λσ H Q=>t σ H λvs H1=>r vs H1 Q
def um(hc:bI X (.builtin id) r)(hg:Gl X x)(hm:X.mg x=none)(hv:bootBuiltins x=some (.builtin id))(ha:PA X (e::es) t)(hn:autoParam (x ≠ "__name__") zz2._auto_1)(hdb:autoParam ((x == ("__debug__":Str))=false) zz2._auto_1)
  (he:autoParam (starEach (e::es) X.env=(false,eval e X.env)::starEach es X.env) zz1._auto_1) (hpl:autoParam ((backTo pos (starEach es X.env)).any (·.1)=false) zz1._auto_1):PE X (.Call (.Name x p) (e::es) [] pos) (tCB r t):=by
 intro pins s σ H Q I h;refine Wx (lW I hg hm hv ?_ hn hdb);exact PyProof.Rows.callWith_builtin1 (thn (ha pos pins s σ H _ I h) λus s1 zq=>ex5 zq λvs H1 I1 r1 q1=>hc pins s1 σ H1 vs us Q I1 r1 q1) he hpl
def zG(hc:bI X (.type T) r)(hg:Gl X x)(hm:X.mg x=none)(hv:bootBuiltins x=some (.type T))(ha:PA X (e::es) t)(hn:autoParam (x ≠ "__name__") zz2._auto_1)(hdb:autoParam ((x == ("__debug__":Str))=false) zz2._auto_1)
  (he:autoParam (starEach (e::es) X.env=(false,eval e X.env)::starEach es X.env) zz1._auto_1) (hpl:autoParam ((backTo pos (starEach es X.env)).any (·.1)=false) zz1._auto_1):PE X (.Call (.Name x p) (e::es) [] pos) (tCB r t):=by
 intro pins s σ H Q I h;refine Wx (lW I hg hm hv ?_ hn hdb);exact V8 (thn (ha pos pins s σ H _ I h) λus s1 zq=>ex5 zq λvs H1 I1 r1 q1=>hc pins s1 σ H1 vs us Q I1 r1 q1) he hpl
end
end L2
namespace HT
open PySem PyProof.Rows
section
variable{prog:Program}{w:World}{A:Around}{E:Value->Shared->Prop}{s:Shared}
def cat_tup{t b:Addr}{vs ws:List Value}{Q:Value->Shared->Prop}(ht:IsTup s.heap t vs.toArray)(hb:IsTup s.heap b ws.toArray)(hv:vs≠[])
  (h1:ws=[]->Q (.ref t) s) (h2:ws≠[]->Q (.ref s.heap.objs.size) { s with heap:=s.heap.push { cls:=.type "tuple",data:=.seq (vs++ws).toArray } })
  (hsz:vs.length+ws.length<=sizeLine):wpAny (model prog w) A (binaryOp .Add (.ref t) (.ref b)) Q E s:=by
 obtain⟨⟨cls,dd,data,sl⟩,ho,hc,n,hd⟩:=id ht;obtain⟨⟨cls2,dd2,data2,sl2⟩,ho2,hc2,n2,hd2⟩:=id hb;simp only at hc hd hc2 hd2;subst hc hd hc2 hd2
 have e:vs.toArray++ws.toArray=(vs++ws).toArray:=by simp
 by_cases hw:ws=[]
 .exact concat_meets ⟨_,ho,rfl⟩ ⟨_,ho2,rfl⟩ noFill_tuple_add seq_tuple_add Vt Vp (Vj _ _)
   (tuple_addW1 t b vs.toArray ws.toArray n n2 dd dd2 sl sl2 (by simpa using hv) (by simp[hw])) ⟨ho,ho2,h1 hw⟩
 .refine concat_meets ⟨_,ho,rfl⟩ ⟨_,ho2,rfl⟩ noFill_tuple_add seq_tuple_add Vt Vp (Vj _ _)
   (tuple_addW2 t b vs.toArray ws.toArray n n2 dd dd2 sl sl2 (by simpa using hv) (by simpa using hw) (by rw[Ys,Ys];exact hsz)) ⟨ho,ho2,?_⟩
  rw[e];exact h2 hw
def sIx(n d:Nat):Option Int->Nat
 |none=>d
 |some v=>if v<0 then (v+(n:Int)).toNat else min v.toNat n
def sIx_nat(n d k:Nat):sIx n d (some (k:Int))=min k n:=by
 show(if (k:Int)<0 then ((k:Int)+(n:Int)).toNat else min (k:Int).toNat n)=min k n
 rw[Yi (by omega),Vr]
def Gy(n d:Nat)(hd:d<=n)(o:Option Int):sIx n d o<=n:=by
 cases o with
 |none=>exact hd
 |some v=>
  show(if v<0 then (v+(n:Int)).toNat else min v.toNat n)<=n
  by_cases hv:v<0
  .rw[Y8 hv];omega
  .rw[Yi hv];exact Nat.min_le_right _ _
def ye(v:Int)(n d:Nat):(if v<0 then max (v+(n:Int)) 0 else min v (n:Int))=((sIx n d (some v):Nat):Int):=by
 show(if v<0 then max (v+(n:Int)) 0 else min v (n:Int))=(((if v<0 then (v+(n:Int)).toNat else min v.toNat n):Nat):Int)
 by_cases hv:v<0
 .simp only[Y8 hv];omega
 .simp only[Yi hv];omega
def wM(lo hi:Option Int)(n:Nat):Builtin.Slice.sliceAdjust lo hi 1 (n:Int)=(((sIx n 0 lo:Nat):Int),((sIx n n hi:Nat):Int)):=by
 have h1:¬((1:Int)<0):=by omega
 unfold Builtin.Slice.sliceAdjust;simp only[h1,Qy];refine Mf ?_ ?_
 .cases lo with
  |none=>rfl
  |some v=>exact ye v n 0
 .cases hi with
  |none=>rfl
  |some v=>exact ye v n n
def wN(i j:Nat):Builtin.Slice.slicePlaces (i:Int) (j:Int) 1=j-i:=by
 unfold Builtin.Slice.slicePlaces
 have h1:(1:Int)>0:=by omega
 simp only[h1,Zj,Int.ediv_one];split<;>omega
def ow{v:Value}{o:Option Int}{Q:Option Int->Shared->Prop}(p:IsPart v o)(h:Q o s):wpAny (model prog w) A (Builtin.Slice.slicePartIndex v) Q E s:=by
 cases p with
 |none=>exact slicePart_none h
 |int i t=>exact slicePart_int h
def ij{sl:Addr}{vl vu:Value}{lo hi:Option Int}{n:Nat}{Q:Int×Int×Nat->Shared->Prop}(hs:s.heap.IsSliceOf sl vl vu .none)(pl:IsPart vl lo)(pu:IsPart vu hi)
  (h:Q (((sIx n 0 lo:Nat):Int),1,sIx n n hi-sIx n 0 lo) s):wpAny (model prog w) A (Builtin.Slice.sliceApplied (.ref sl) (pure (n:Int))) Q E s:=by
 obtain⟨os,hos,hcs,hds⟩:=id hs;unfold Builtin.Slice.sliceApplied Builtin.Slice.sliceFields;refine Y6 (Y6 (Zk hos hds (x:=vl) rfl (Y6 (Zk hos hds (x:=vu) rfl (Y6 (Zk hos hds (x:=.none) rfl (Ye ?_)))))));refine Y6 (slicePart_none ?_)
 show wpAny _ _ (if ((1:Int) == 0)=true then _ else _) _ _ s
 rw[Yi (by decide)]
 refine Y6 (ow pl (Y6 (ow pu (Y6 (Ye ?_)))))
 show wpAny _ _ (match Builtin.Slice.sliceAdjust lo hi 1 (n:Int) with|(lo,hi)=>pure (lo,(1:Int),Builtin.Slice.slicePlaces lo hi 1)) _ _ s
 rw[wM lo hi n];show wpAny _ _ (pure (((sIx n 0 lo:Nat):Int),(1:Int),Builtin.Slice.slicePlaces ((sIx n 0 lo:Nat):Int) ((sIx n n hi:Nat):Int) 1)) _ _ s;rw[wN];exact Ye h
def A6(xs:Array Value)(i k:Nat):((List.range k).filterMap λ(m:Nat)=>xs[((i:Int)+(m:Int)*1).toNat]?).toArray=((xs.toList.drop i).take k).toArray:=by
 have e:(λ(m:Nat)=>xs[((i:Int)+(m:Int)*1).toNat]?)=λm=>xs[i+m]?:=by
  funext m
  have:((i:Int)+(m:Int)*1).toNat=i+m:=by omega
  rw[this]
 rw[e];have:=pick_run xs i k;rw[List.filterMap_map]at this;have e2:((λx=>xs[x]?)∘λx=>i+x)=λm=>xs[i+m]?:=rfl;rw[e2]at this;rw[this]
theorem getItem_tuple_cut{t sl:Addr}{items:Array Value}{vl vu:Value}{lo hi:Option Int}{Q:Value->Shared->Prop}(ht:IsTup s.heap t items)(hs:s.heap.IsSliceOf sl vl vu .none)(pl:IsPart vl lo)(pu:IsPart vu hi)
  (hw:¬(sIx items.size 0 lo=0/\sIx items.size items.size hi=items.size))
  (h:Q (.ref s.heap.objs.size) { s with heap:=s.heap.push { cls:=.type "tuple",data:=.seq ((items.toList.drop (sIx items.size 0 lo)).take (sIx items.size items.size hi-sIx items.size 0 lo)).toArray } })
  (hsz:items.size<=sizeLine):wpAny (model prog w) A (getItem (.ref t) (.ref sl)) Q E s:=by
 have htake:sizeOk (.seq ((items.toList.drop (sIx items.size 0 lo)).take (sIx items.size items.size hi-sIx items.size 0 lo)).toArray):=by show((items.toList.drop (sIx items.size 0 lo)).take (sIx items.size items.size hi-sIx items.size 0 lo)).toArray.size<=sizeLine;rw[Ys,Ql,Q9,W3];omega
 have hj:sIx items.size items.size hi<=items.size:=Gy _ _ (Yd _) hi;obtain⟨os,hos,hcs,hds⟩:=id hs;have hTs:s.TypeIs (.ref sl) "slice":=⟨os,hos,hcs⟩
 unfold getItem
 try with_reducible refine Qr ?_
 first|refine Y6 (Ye ?_)|skip
 refine Y6 (wpAny_sequenceKey ht.typeIs (by decide) ?_)
 refine Y6 (Q5 (name:=Str.ofString "__getitem__") ht.typeIs W8
  (Qk W8 ht.typeIs entry_tuple_getitem ?_ (args_tuple_getitem _ _)))
 show wpAny _ _ (Builtin.Tuple.tupleItemsOf (.ref t) >>= _) _ _ s;refine Y6 (tupleItemsOf_ ht ?_);refine Y6 (M0 hTs ?_)
 rw[Y8 (by decide)]
 refine Y6 (ij hs pl pu ?_)
 have hno:¬((((sIx items.size 0 lo:Nat):Int) == 0&&(1:Int) == 1&&(sIx items.size items.size hi-sIx items.size 0 lo) == items.size)=true):=by
  intro q;rw[Z9,Z9]at q;have q1:((sIx items.size 0 lo:Nat):Int)=0:=Us q.1.1;have q2:sIx items.size items.size hi-sIx items.size 0 lo=items.size:=Us q.2
  exact hw ⟨by omega,by omega⟩
 show wpAny _ _ (if (((sIx items.size 0 lo:Nat):Int) == 0&&(1:Int) == 1&&(sIx items.size items.size hi-sIx items.size 0 lo) == items.size)=true then _ else _) _ _ s
 rw[Yi hno,A6]
 first
  |exact Y6 (m:=Builtin.Tuple.tupleExact _) (Zd (Ye ⟨_,rfl,Ye h⟩) htake)
  |exact Y6 (m:=Builtin.Tuple.tupleExact _) (Zd (Y6 (Ye (Ye ⟨_,rfl,Ye h⟩))) htake)
  |exact Y6 (Y6 (m:=Builtin.Tuple.tupleExact _) (Zd (Ye (Ye ⟨_,rfl,Ye h⟩)) htake))
  |exact Y6 (Y6 (m:=Builtin.Tuple.tupleExact _) (Zd (Ye ⟨_,rfl,Ye h⟩) htake))
end
end HT
namespace L2
open PySem PySem.Spec PyProof.Rows
variable{us:List Value}{pins:List (Addr×Obj)}{σ:St}{H:Hp}{s:Shared}{u v:Value}{P:Program}{w:World}{xs:List (List Key×Addr×Value)}{a:Addr}{Q:Value→Shared→Prop}{X:Cx}{pos:Pos}
abbrev TO:=St->Hp->(Option Int->Hp->Prop)->Prop
def PO(X:Cx)(e:Option Expr)(t:TO):Prop:=
 ∀(pins:List (Addr×Obj))(s:Shared)(σ:St)(H:Hp)(Q:Option Int->Hp->Prop),Inv X pins σ H s->t σ H Q->
  wpAny (model X.prog X.w) X.A (evalPart e X.env) (λu s'=>∃o H',Inv X pins σ H' s'/\IsPart u o/\Q o H') X.xe s
def Dr:TO:=λ_ H Q=>Q none H
def Ja(t:TE):TO:=λσ H Q=>t σ H λx H1=>∃i,x=.int i/\Q (some i) H1
section
variable{X:Cx}{e:Expr}{te:TE}{lo hi:Option Expr}{tl th:TO}{pos p2:Pos}
def Ds:PO X none Dr:=by intro pins s σ H Q I h;rw[evalPart_none];exact Ye ⟨none,H,I,.none,h⟩
def Dt(h:PE X e te):PO X (some e) (Ja te):=by intro pins s σ H Q I hw;rw[evalPart_some];refine thn (h pins s σ H _ I hw) λu s1 zq=>?_;obtain⟨x,H1,I1,r1,q1⟩:=zq;obtain⟨i,rfl,q⟩:=q1;obtain⟨t,rfl⟩:=r1;exact⟨some i,H1,I1,.int i t,q⟩
def SlR(X:Cx)(r:V->Option Int->Option Int->Hp->VK->Prop):Prop:=
 ∀(pins:List (Addr×Obj))(s:Shared)(σ:St)(H:Hp)(x:V)(v vl vu:Value)(lo hi:Option Int)(sl:Addr)(Q:VK),Inv X pins σ H s->RelV x v->s.heap.IsSliceOf sl vl vu .none->IsPart vl lo->IsPart vu hi->r x lo hi H Q->
  ∃T id,typeLookup (.type T) "__getitem__" = pure (some (.builtin id))/\s.TypeIs v T/\wpAny (model X.prog X.w) X.A (getItem v (.ref sl)) (EP X pins σ Q) X.xe s
def tSl(r:V->Option Int->Option Int->Hp->VK->Prop)(te:TE)(tl th:TO):TE:=λσ H Q=>te σ H λx H1=>tl σ H1 λl H2=>th σ H2 λu H3=>r x l u H3 Q
def A7{r:V->Option Int->Option Int->Hp->VK->Prop}(hr:SlR X r)(he:PE X e te)(hl:PO X lo tl)(hu:PO X hi th):PE X (.Subscript e (.Slice lo hi none p2) pos) (tSl r te tl th):=by
 intro pins s σ H Q I h;refine Subscript_ (thn (he pins s σ H _ I h) λv s1 zq=>?_);obtain⟨x,H1,I1,r1,q1⟩:=zq;refine wpAny_Slice (thn (hl pins s1 σ H1 _ I1 q1) λvl s2 zq=>ex5 zq λl H2 I2 pl q2=>thn (hu pins s2 σ H2 _ I2 q2) λvu s3 zq=>?_);obtain⟨u,H3,I3,pu,q3⟩:=zq;rw[evalPart_none];refine Ye ?_
 have I4:Inv X pins σ H3 { s3 with heap:=s3.heap.push { cls:=.type "slice",data:=.fields #[vl,vu,.none] } }:=I3.kept (t':=s3.toks) λb ob q=>Y7 _ q
 obtain⟨T,id,hT,ht,hg⟩:=hr pins { s3 with heap:=s3.heap.push { cls:=.type "slice",data:=.fields #[vl,vu,.none] } } σ H3 x v vl vu l u s3.heap.objs.size Q I4 r1 (Heap.IsSliceOf.new ..) pl pu q3
 show wpAny (model X.prog X.w) X.A (subscriptTail e (.Slice lo hi none p2) v (.ref s3.heap.objs.size)) (EP X pins σ Q) X.xe { s3 with heap:=s3.heap.push { cls:=.type "slice",data:=.fields #[vl,vu,.none] } }
 exact tail_any (ops:=[.ref s3.heap.objs.size,v]) ht hT hg (by with_unfolding_all rfl)
def uo(xs:List V)(lo hi:Option Int):List V:=(xs.drop (HT.sIx xs.length 0 lo)).take (HT.sIx xs.length xs.length hi-HT.sIx xs.length 0 lo)
def mY(xs:List V)(lo hi:Option Int):(uo xs lo hi).length<=xs.length:=by unfold uo;rw[Ql,Q9];omega
def J7(K:Frag):V->Option Int->Option Int->Hp->VK->Prop:=λx lo hi H Q=>∃a xs,x=.ref a/\SqT K H a xs/\
 ¬(HT.sIx xs.length 0 lo=0/\HT.sIx xs.length xs.length hi=xs.length)/\∀p,H p=none->Q (.ref p) (upd H p (.tup (uo xs lo hi)))
def Gz:SlR X (J7 X.K):=by
 intro pins s σ H x v vl vu lo hi sl Q I rx hs pl pu h;obtain⟨a,xs,rfl,hx,hw,q⟩:=h;cases rx;obtain⟨its,r,ht,hz⟩:=I.tuple hx
 have hlen:its.toArray.size=xs.length:=by rw[Ys];exact r.length.symm
 refine⟨"tuple",_,PyProof.Rows.slot_tuple_getitem.lookup,ht.typeIs,?_⟩
 refine HT.getItem_tuple_cut ht hs pl pu (by rw[hlen];exact hw) ?_ (by rw[hlen];exact hz)
 rw[hlen];refine⟨.ref s.heap.objs.size,_,I.laid (t':=s.toks) (o:=.tup (uo xs lo hi)) (λb ob q=>Y7 _ q) (Yd _) ?_,rfl,q _ (I.hok.fresh (Yd _))⟩;exact⟨Yv (mY xs lo hi) hz,_,(r.drop (HT.sIx xs.length 0 lo)).take (HT.sIx xs.length xs.length hi-HT.sIx xs.length 0 lo),IsTup.new _ _⟩
def Jb(K:Frag):R2:=λx y H Q=>∃a b xs ys,x=.ref a/\y=.ref b/\SqT K H a xs/\SqT K H b ys/\xs≠[]/\xs.length+ys.length<=sizeLine/\
 (ys=[]->Q (.ref a) H)/\(ys≠[]->∀p,H p=none->Q (.ref p) (upd H p (.tup (xs++ys))))
def Vals.nil_iff{xs:List V}(r:Vals xs us):us=[]↔xs=[]:=by
 cases r with
 |nil=>simp
 |cons _ _=>simp
def Du:OpR X (binaryOp .Add) (Jb X.K):=by
 intro pins s σ H x y v u Q I rx ry h;obtain⟨a,b,xs,ys,rfl,rfl,ha,hb,hx,hz,q1,q2⟩:=h;cases rx;cases ry;obtain⟨its,r1,p1,_⟩:=I.tuple ha;obtain⟨its2,r2,p2,_⟩:=I.tuple hb
 refine HT.cat_tup p1 p2 (λz=>hx (r1.nil_iff.mp z)) (λz=>⟨.ref a,H,I,rfl,q1 (r2.nil_iff.mp z)⟩) (λz=>?_) (by rw[<- r1.length,<- r2.length];exact hz)
 refine⟨.ref s.heap.objs.size,_,I.laid (t':=s.toks) (o:=.tup (xs++ys)) (λb ob q=>Y7 _ q) (Yd _) ?_,rfl,q2 (λw=>z (r2.nil_iff.mpr w)) _ (I.hok.fresh (Yd _))⟩
 exact⟨by rw[Yq];exact hz,_,r1.append r2,IsTup.new _ _⟩
end
def ixN(n:Nat)(i:Int):Option Nat:=if 0<=i then (if i<n then some i.toNat else none) else if -(n:Int)<=i then some (i+n).toNat else none
def atI{α:Type}(xs:List α)(i:Int):Option α:=(ixN xs.length i).bind λj=>xs[j]?
def yf{n:Nat}{i:Int}{j:Nat}(h:ixN n i=some j):seqIndex? i n=some j/\j<n/\-(n:Int)<=i/\i<n:=by
 unfold ixN at h;by_cases h0:0<=i
 .rw[Y8 h0]at h;by_cases h1:i<n
  .rw[Y8 h1]at h;have e:i.toNat=j:=Za h
   exact⟨by rw[seqIndex_of h0 h1,e],by omega,by omega,h1⟩
  .rw[Yi h1]at h;cases h
 .rw[Yi h0]at h;by_cases h1:-(n:Int)<=i
  .rw[Y8 h1]at h;have e:(i+n).toNat=j:=Za h
   exact⟨by rw[seqIndex_neg (by omega) h1,e],by omega,h1,by omega⟩
  .rw[Yi h1]at h;cases h
def se{α:Type}{xs:List α}{i:Int}{v:α}(h:atI xs i=some v):∃j,seqIndex? i xs.length=some j/\xs[j]?=some v/\j<xs.length/\-(xs.length:Int)<=i/\i<xs.length:=by
 unfold atI at h;cases e:ixN xs.length i with
 |none=>rw[e]at h;cases h
 |some j=>
  rw[e]at h;obtain⟨h1,h2,h3,h4⟩:=yf e;exact⟨j,h1,h,h2,h3,h4⟩
def Dv{α:Type}{xs:List α}{j:Nat}{v:α}(h:xs[j]?=some v):atI xs (j:Int)=some v:=by
 have hj:j<xs.length:=(Y9.mp h).1
 have e:ixN xs.length (j:Int)=some j:=by
  unfold ixN
  rw[Y8 (by omega),Y8 (by omega)];simp
 unfold atI;rw[e];exact h
def nU(b:Expr):Prop:=∀o i,subscripted b false o i=operate [o,i] (getItem o i)
def IxR(X:Cx)(r:R2):Prop:=
 ∀(value slice:Expr)(pins:List (Addr×Obj))(s:Shared)(σ:St)(H:Hp)(x y:V)(v u:Value)(Q:VK),Inv X pins σ H s->RelV x v->RelV y u->r x y H Q->
  subscripted slice false v u=operate [v,u] (getItem v u)->wpAny (model X.prog X.w) X.A (subscriptTail value slice v u) (EP X pins σ Q) X.xe s
def MtR(X:Cx)(id:String)(r:V->List V->Hp->VK->Prop):Prop:=
 ∀(pins:List (Addr×Obj))(s:Shared)(σ:St)(H:Hp)(x:V)(xs:List V)(v:Value)(us:List Value)(Q:VK),Inv X pins σ H s->RelV x v->Vals xs us->r x xs H Q->
  wpAny (model X.prog X.w) X.A (call (.builtin id) (v::us)) (EP X pins σ Q) X.xe s
section
variable{X:Cx}{a b:Expr}{ta tb:TE}{pos:Pos}
def IxR.or{r r':R2}(h:IxR X r)(h':IxR X r'):IxR X (λx y H Q=>r x y H Q\/r' x y H Q):=by
 intro value slice pins s σ H x y v u Q I rx ry q hs;rcases q with q|q
 .exact h value slice pins s σ H x y v u Q I rx ry q hs
 .exact h' value slice pins s σ H x y v u Q I rx ry q hs
def Jc{r:R2}(hr:IxR X r)(ha:PE X a ta)(hb:PE X b tb)(hs:nU b):PE X (.Subscript a b pos) (tOp r ta tb):=by intro pins s σ H Q I h;exact Subscript_ (Ge ha hb I h λv u s2 x y H2 I2 rx ry q=>hr a b pins s2 σ H2 x y v u Q I2 rx ry q (hs _ _))
def Jd(K:Frag):R2:=λx y H Q=>∃p xs i v,x=.ref p/\y=.int i/\SqL K H p xs/\atI xs i=some v/\Q v H
def Je(K:Frag):R2:=λx y H Q=>∃p xs i v,x=.ref p/\y=.int i/\SqT K H p xs/\atI xs i=some v/\Q v H
def Jf:R2:=λx y H Q=>∃z i c,x=.str z/\y=.int i/\z.length<=sizeLine/\atI z.cps.toList i=some c/\Q (.str ⟨#[c]⟩) H
def Dw:IxR X (Jd X.K):=by
 intro value slice pins s σ H x y v u Q I rx ry h hs;obtain⟨p,xs,i,z,rfl,rfl,hq,he,q⟩:=h;cases rx;obtain⟨t,rfl⟩:=ry;obtain⟨its,r,pl,hz⟩:=I.list hq;obtain⟨j,h1,h2,h3,h4,h5⟩:=se he;obtain⟨w,ew,rw'⟩:=r.get h2;have hl:=r.length;have hn:=kl;have fin:EP X pins σ Q w s:=⟨z,H,I,rw',q⟩;by_cases h0:0<=i
 .have hj:i.toNat=j:=by rw[seqIndex_of h0 h5]at h1;exact Za h1
  exact item_listR pl.isList h0 (by omega) (by rw[hj];simpa using ew) fin hs
 .have hj:(i+(its.toArray.size:Int)).toNat=j:=by
   rw[seqIndex_neg (by omega) h4]at h1
   rw[Ys,<- hl];exact Za h1
  exact subscriptTail_builtinR (x:=w) pl.isList.typeIs slot_list_getitem.lookup
   (wpAny_getItem_list_neg (Q:=λr s'=>r=w/\EP X pins σ Q r s') pl.isList (by omega) (by rw[Ys]<;>omega) (by omega) (by rw[hj];simpa using ew) ⟨rfl,fin⟩) hs
def sf:IxR X (Je X.K):=by
 intro value slice pins s σ H x y v u Q I rx ry h hs;obtain⟨p,xs,i,z,rfl,rfl,hq,he,q⟩:=h;cases rx;obtain⟨t,rfl⟩:=ry;obtain⟨its,r,pl,hz⟩:=I.tuple hq;obtain⟨j,h1,h2,h3,h4,h5⟩:=se he;obtain⟨w,ew,rw'⟩:=r.get h2;have hl:=r.length;have hn:=kl;have fin:EP X pins σ Q w s:=⟨z,H,I,rw',q⟩;exact subscriptTail_builtinR (x:=w) pl.typeIs slot_tuple_getitem.lookup
  (getItem_tuple (j:=j) (Q:=λr s'=>r=w/\EP X pins σ Q r s') pl (by omega) (by omega) (by rw[Ys,<- hl];exact h1) (by simpa using ew) ⟨rfl,fin⟩) hs
def GA:IxR X Jf:=by
 intro value slice pins s σ H x y v u Q I rx ry h hs;obtain⟨z,i,c,rfl,rfl,hz,he,q⟩:=h;obtain⟨t,rfl⟩:=rx;obtain⟨t',rfl⟩:=ry;obtain⟨j,h1,h2,h3,h4,h5⟩:=se he
 have hl:z.cps.toList.length=z.length:=by simp[Str.length]
 rw[hl]at h1 h4 h5;have hn:=kl
 exact tail_any (typeIs_str s z t) slot_str_getitem.lookup (getItem_str (c:=c) (by
  have e1:decide (i < -(2^63:Int))=false:=Yp (by omega)
  have e2:decide (i >= 2^63)=false:=Yp (by omega)
  rw[e1,e2,Bool.or_false]) (by rw[h1];simpa using h2) ⟨.str ⟨#[c]⟩,H,I.tok _,⟨_,rfl⟩,q⟩) hs
def rIx(K:Frag):R2:=λx y H Q=>Jd K x y H Q\/Je K x y H Q\/Jf x y H Q
def GB:IxR X (rIx X.K):=Dw.or (sf.or GA)
def wO(its:List Value)(n j:Nat)(u:Value):Obj.mapSeq (·.setIfInBounds j u) { cls:=.type "list",data:=.seq its.toArray n }={ cls:=.type "list",data:=.seq (its.set j u).toArray n }:=by simp[Obj.mapSeq]
theorem Inv.lst{pins:List (Addr×Obj)}{σ:St}{H:Hp}{s:Shared}{p:Addr}{xs:List V}(I:Inv X pins σ H s)(h:H p=some (.lst xs)):
  ∃(its:List Value)(n:Nat),Vals xs its/\s.heap.get? p=some { cls:=.type "list",data:=.seq its.toArray n }/\xs.length<=sizeLine:=by
 obtain⟨z,its,n,r,e⟩:=I.hok p _ h;exact⟨its,n,r,e,z⟩
def Inv.lstUpd{p:Addr}{xs ys:List V}{its its':List Value}{n n':Nat}{f:Obj->Obj}(I:Inv X pins σ H s)(h:H p=some (.lst xs))
  (ho:s.heap.get? p=some { cls:=.type "list",data:=.seq its.toArray n }) (hf:f { cls:=.type "list",data:=.seq its.toArray n }={ cls:=.type "list",data:=.seq its'.toArray n' }) (r:Vals ys its') (hz:ys.length<=sizeLine) (t:Nat):
  Inv X pins σ (upd H p (.lst ys)) { s with heap:=s.heap.update p f,toks:=t }:=by
 have e:(s.heap.update p f).get? p=some { cls:=.type "list",data:=.seq its'.toArray n' }:=by rw[Qi f ho (by rw[hf]<;>rfl),hf]
 refine I.write (x:=p) (e:=p) (by rw[h];trivial) (.inl rfl) (λb u hb q=>(Z7 _ _ (Ne.symm hb)).trans q) ⟨_,e⟩ ?_
 exact⟨hz,its',n',r,e⟩
def Jg:V->V->V->Hp->(Hp->Prop)->Prop:=λo i v H Q=>∃p xs k j,o=.ref p/\i=.int k/\H p=some (.lst xs)/\ixN xs.length k=some j/\Q (upd H p (.lst (xs.set j v)))
def set_list:rY X Jg:=by
 intro pins s σ H o i v ov iv u Q I ro ri rv h;obtain⟨p,xs,k,j,rfl,rfl,hp,hj,q⟩:=h;cases ro;obtain⟨t,rfl⟩:=ri;obtain⟨its,n,r,ho,hz⟩:=I.lst hp;obtain⟨h1,h2,h3,h4⟩:=yf hj;have hl:=r.length;have hn:=kl
 have I':Inv X pins σ (upd H p (.lst (xs.set j v))) { s with heap:=s.heap.update p (Obj.mapSeq (·.setIfInBounds j u)) }:=
  I.lstUpd hp ho (wO its n j u) (r.set rv j) (by rw[M6];exact hz) s.toks
 by_cases h0:0<=k
 .have hk:k.toNat=j:=by rw[seqIndex_of h0 h4]at h1;exact Za h1
  exact ki_setAt ho h0 (by omega) (by rw[Ys,<- hl];exact h4) (by rw[hk];exact⟨_,I',q⟩)
 .have hk:(k+(its.toArray.size:Int)).toNat=j:=by
   rw[seqIndex_neg (by omega) h3]at h1
   rw[Ys,<- hl];exact Za h1
  exact ki_setBack ho (by omega) (by rw[Ys,<- hl];exact h3) (by omega) (by rw[hk];exact⟨_,I',q⟩)
def sg(lo hi:Option Int)(n:Nat):(sliceBounds lo hi none n).1=((HT.sIx n 0 lo:Nat):Int)/\(sliceBounds lo hi none n).2.1=((HT.sIx n n hi:Nat):Int)/\(sliceBounds lo hi none n).2.2=1:=by
 refine⟨?_,?_,rfl⟩
 .cases lo with
  |none=>simp[sliceBounds,HT.sIx]
  |some i=>
   simp only[sliceBounds,HT.sIx,Vv,show(1:Int)>0 by decide,Zj]
   by_cases h:i<0
   .simp only[h,Zj]<;>omega
   .simp only[h,Qy]<;>omega
 .cases hi with
  |none=>simp[sliceBounds,HT.sIx]
  |some i=>
   simp only[sliceBounds,HT.sIx,Vv,show(1:Int)>0 by decide,Zj]
   by_cases h:i<0
   .simp only[h,Zj]<;>omega
   .simp only[h,Qy]<;>omega
def qa(its:List Value)(lo hi:Option Int):slicePick its.toArray lo hi none=((its.drop (HT.sIx its.length 0 lo)).take (HT.sIx its.length its.length hi-HT.sIx its.length 0 lo)).toArray:=by obtain⟨h1,h2,h3⟩:=sg lo hi its.toArray.size;unfold slicePick;rw[h1,h2,h3];simp only[sliceRange_one,pick_run,Ys]<;>rfl
def J8(K:Frag):V->Option Int->Option Int->Hp->VK->Prop:=λx lo hi H Q=>∃a xs,x=.ref a/\SqL K H a xs/\∀p,H p=none->Q (.ref p) (upd H p (.lst (uo xs lo hi)))
def Dx:SlR X (J8 X.K):=by
 intro pins s σ H x v vl vu lo hi sl Q I rx hs pl pu h;obtain⟨a,xs,rfl,hx,q⟩:=h;cases rx;obtain⟨its,r,ht,hz⟩:=I.list hx;have hlen:=r.length;refine⟨"list",_,slot_list_getitem.lookup,ht.isList.typeIs,?_⟩
 refine wpAny_getItem_list_slice ht.isList hs pl pu .none (by simp) ?_ (by rw[Ys]<;>omega)
 rw[qa,<- hlen];refine⟨.ref s.heap.objs.size,_,I.laid (t':=s.toks) (o:=.lst (uo xs lo hi)) (λb ob q=>Y7 _ q) (Yd _) ?_,rfl,q _ (I.hok.fresh (Yd _))⟩;exact⟨Yv (mY xs lo hi) hz,_,0,(r.drop (HT.sIx xs.length 0 lo)).take (HT.sIx xs.length xs.length hi-HT.sIx xs.length 0 lo),Yg _ rfl⟩
def j0:V->Bool
 |.non=>true
 |.bl _=>true
 |.int _=>true
 |.str _=>true
 |_=>false
def eqV:V->V->Bool
 |.non,.non=>true
 |.bl a,.bl b=>a == b
 |.bl a,.int b=>(if a then 1 else 0) == b
 |.int a,.bl b=>a == (if b then 1 else 0)
 |.int a,.int b=>a == b
 |.str a,.str b=>a == b
 |_,_=>false
def GC{A:Around}{y x:V}(ry:RelV y u)(rx:RelV x v)(fy:j0 y=true)(fx:j0 x=true):SeqAt.EqAt A s u v (eqV y x):=by
 cases y with
 |non=>
  cases ry;cases x with
  |non=>cases rx;exact SeqAt.EqAt.same _
  |bl b=>cases rx;exact SeqAt.EqAt.none_bool b
  |int b=>obtain⟨t,rfl⟩:=rx;exact SeqAt.EqAt.none_int b t
  |str b=>obtain⟨t,rfl⟩:=rx;exact SeqAt.EqAt.none_str b t
  |_=>exact absurd (show false=true from fx) Yl
 |bl a=>
  cases ry;cases x with
  |non=>cases rx;exact SeqAt.EqAt.bool_none a
  |bl b=>cases rx;exact SeqAt.EqAt.bool_bool a b
  |int b=>obtain⟨t,rfl⟩:=rx;exact SeqAt.EqAt.bool_int a b t
  |str b=>obtain⟨t,rfl⟩:=rx;exact SeqAt.EqAt.bool_str a b t
  |_=>exact absurd (show false=true from fx) Yl
 |int a=>
  obtain⟨t',rfl⟩:=ry;cases x with
  |non=>cases rx;exact SeqAt.EqAt.int_none a t'
  |bl b=>cases rx;exact SeqAt.EqAt.int_bool a t' b
  |int b=>obtain⟨t,rfl⟩:=rx;exact SeqAt.EqAt.int_int a t' b t
  |str b=>obtain⟨t,rfl⟩:=rx;exact SeqAt.EqAt.int_str a t' b t
  |_=>exact absurd (show false=true from fx) Yl
 |str a=>
  obtain⟨t',rfl⟩:=ry;cases x with
  |non=>cases rx;exact SeqAt.EqAt.str_none a t'
  |bl b=>cases rx;exact SeqAt.EqAt.str_bool a t' b
  |int b=>obtain⟨t,rfl⟩:=rx;exact SeqAt.EqAt.str_int a t' b t
  |str b=>obtain⟨t,rfl⟩:=rx;exact SeqAt.EqAt.str_str a t' b t
  |_=>exact absurd (show false=true from fx) Yl
 |_=>exact absurd (show false=true from fy) Yl
def eqU(x:V)(u:Value):Bool:=match u with
 |.none=>eqV .non x
 |.bool b=>eqV (.bl b) x
 |.int i _=>eqV (.int i) x
 |.str z _=>eqV (.str z) x
 |_=>false
def A8{x y:V}(r:RelV y u)(f:j0 y=true):eqU x u=eqV y x:=by
 cases y with
 |non=>cases r;rfl
 |bl b=>cases r;rfl
 |int i=>obtain⟨t,rfl⟩:=r;rfl
 |str z=>obtain⟨t,rfl⟩:=r;rfl
 |_=>exact absurd (show false=true from f) Yl
theorem sh{x:V}:∀{xs:List V}{us:List Value},Vals xs us->xs.all j0=true->us.any (eqU x)=xs.any λy=>eqV y x
 |_,_,.nil,_=>rfl
 |y::xs,u::us,.cons r t,f=>by rw[K0,Z9]at f;rw[Qs,Qs,A8 r f.1,sh t f.2]
theorem oy{A:Around}{x:V}(rx:RelV x v)(fx:j0 x=true):∀{xs:List V}{us:List Value},Vals xs us->xs.all j0=true->∀u∈us,SeqAt.EqAt A s u v (eqU x u)
 |_,_,.nil,_=>λu hu=>by cases hu
 |y::xs,u::us,.cons r t,f=>λu' hu=>by
  rw[K0,Z9]at f;rcases Yc.mp hu with rfl|hu
  .rw[A8 r f.1];exact GC r rx f.1 fx
  .exact oy rx fx t f.2 u' hu
def inV(x:V)(xs:List V):Bool:=xs.any λy=>eqV y x
def rIn(K:Frag)(neg:Bool):R2:=λx y H Q=>∃p xs,y=.ref p/\(SqL K H p xs\/SqT K H p xs)/\j0 x=true/\xs.all j0=true/\Q (.bl (if neg then !inV x xs else inV x xs)) H
def zH:OpR X (compareOp .In) (rIn X.K false):=by
 intro pins s σ H x y v u Q I rx ry h;obtain⟨p,xs,rfl,hq,fx,fs,q⟩:=h;cases ry;rcases hq with hq|hq
 .obtain⟨its,r,pl,hz⟩:=I.list hq
  refine SeqAt.in_listAt (eqU x) pl.isList (λw hw=>oy rx fx r fs w (by simpa using hw)) ⟨.bl _,H,I,rfl,?_⟩
  rw[show its.toArray.any (eqU x)=its.any (eqU x) by simp,sh r fs]
  exact q
 .obtain⟨its,r,pl,hz⟩:=I.tuple hq
  refine SeqAt.in_tupleAt (eqU x) pl (λw hw=>oy rx fx r fs w (by simpa using hw)) ⟨.bl _,H,I,rfl,?_⟩
  rw[show its.toArray.any (eqU x)=its.any (eqU x) by simp,sh r fs]
  exact q
def si:bI X (.builtin "len") (λxs H Q=>∃p ys,xs=[.ref p]/\(SqL X.K H p ys\/SqT X.K H p ys)/\Q (.int ys.length) H):=by
 intro pins s σ H xs us Q I r h;obtain⟨p,ys,rfl,hq,q⟩:=h;obtain⟨u,rfl,rx⟩:=Wb r;cases rx;have hn:=kl;rcases hq with hq|hq
 .obtain⟨its,r',pl,hz⟩:=I.list hq;have hlen:=r'.length
  exact Calls.call_len_list pl.isList (by simp only[Ys]<;>omega) ⟨.int ys.length,H,I.tok _,⟨s.toks+1,by rw[Ys,hlen]⟩,q⟩
 .obtain⟨its,r',pl,hz⟩:=I.tuple hq;have hlen:=r'.length
  exact len_tuple pl (by simp only[Ys]<;>omega) ⟨.int ys.length,H,I.tok _,⟨s.toks+1,by rw[Ys,hlen]⟩,q⟩
def sj:bI X (.builtin "len") (λxs H Q=>∃z,xs=[.str z]/\z.length<=sizeLine/\Q (.int z.length) H):=by
 intro pins s σ H xs us Q I r h;obtain⟨z,rfl,hz,q⟩:=h;obtain⟨u,rfl,t,rfl⟩:=Wb r;have hn:=kl
 exact len_str (by omega) ⟨.int z.length,H,I.tok _,⟨_,rfl⟩,q⟩
def sk:bI X (.type "list") (λxs H Q=>∃p ys,xs=[.ref p]/\(SqL X.K H p ys\/SqT X.K H p ys)/\∀l,H l=none->Q (.ref l) (upd H l (.lst ys))):=by
 intro pins s σ H xs us Q I r h;obtain⟨p,ys,rfl,hq,q⟩:=h;obtain⟨u,rfl,rx⟩:=Wb r;cases rx
 have fin:∀(its:List Value),Vals ys its->ys.length<=sizeLine->∀(h':Heap)(c':Nat),(∀b o',s.heap.get? b=some o'->h'.get? b=some o')->
   h'.get? s.heap.objs.size=some { cls:=.type "list",dict:=none,data:=.seq its.toArray c',slots:=#[] }->EP X pins σ Q (.ref s.heap.objs.size) { s with heap:=h' }:=λits r' hz h' c' kp e=>
  ⟨.ref s.heap.objs.size,_,I.laid (t':=s.toks) kp (Yd _) (show bR X.prog X.w _ h' _ (.lst ys) from ⟨hz,its,c',r',e⟩),rfl,q _ (I.hok.fresh (Yd _))⟩
 rcases hq with hq|hq
 .obtain⟨its,r',pl,hz⟩:=I.list hq;have hlen:=r'.length;obtain⟨o,ho,hc,n,hd⟩:=pl.isList
  exact call_list_seq p (.inl rfl) ho hc hd (λh' c' kp e=>fin its r' hz h' c' kp e) (by simp only[Ys]<;>omega)
 .obtain⟨its,r',pl,hz⟩:=I.tuple hq;have hlen:=r'.length;obtain⟨o,ho,hc,n,hd⟩:=pl
  exact call_list_seq p (.inr rfl) ho hc hd (λh' c' kp e=>fin its r' hz h' c' kp e) (by simp only[Ys]<;>omega)
def j5:bI X (.type "tuple") (λxs H Q=>∃p ys,xs=[.ref p]/\((SqL X.K H p ys/\∀l,H l=none->Q (.ref l) (upd H l (.tup ys)))\/(SqT X.K H p ys/\Q (.ref p) H))):=by
 intro pins s σ H xs us Q I r h;obtain⟨p,ys,rfl,h⟩:=h;obtain⟨u,rfl,rx⟩:=Wb r;cases rx;rcases h with⟨hq,q⟩|⟨hq,q⟩
 .obtain⟨its,r',pl,hz⟩:=I.list hq;have hlen:=r'.length
  refine call_tuple_list pl.isList (λh' kp=>?_) (by simp only[Ys]<;>omega)
  have I1:Inv X pins σ H { s with heap:=h' }:=I.kept (t':=s.toks) kp
  have I2:Inv X pins σ (upd H h'.objs.size (.tup ys)) { s with heap:=h'.push { cls:=.type "tuple",data:=.seq its.toArray } }:=
   I1.laid (t':=s.toks) (λb o e=>Y7 _ e) (Yd _) (show bR X.prog X.w _ _ _ (.tup ys) from ⟨hz,its,r',IsTup.new _ _⟩)
  exact⟨.ref h'.objs.size,_,I2,rfl,q _ (I1.hok.fresh (Yd _))⟩
 .obtain⟨its,r',pl,hz⟩:=I.tuple hq;exact call_tuple_same pl ⟨.ref p,H,I,rfl,q⟩
def tyV(K:Frag)(T:String)(x:V)(H:Hp):Prop:=match x with
 |.str _=>T = "str"
 |.int _=>T = "int"
 |.ref p=>(T = "list"/\∃xs,SqL K H p xs)\/(T = "tuple"/\∃o,K.lookup p=some o/\o.cls=.type "tuple"/\o.dict=none) \/
   (T = "dict"/\((∃kvs,H p=some (.dK kvs)) \/ ∃kvs,H p=some (.dT kvs)))\/(T = "set"/\∃S n,H p=some (.set S n))
 |_=>False
theorem A9{T:String}{x:V}(I:Inv X pins σ H s)(r:RelV x v)(ty:tyV X.K T x H):
  s.TypeIs v T/\∀a,v=.ref a->∃ob,s.heap.get? a=some ob/\ob.dict=none:=by
 cases x with
 |str z=>
  obtain⟨t,rfl⟩:=r
  cases (show T = "str" from ty)
  exact⟨typeIs_str s z t,λ_ e=>nomatch e⟩
 |int i=>
  obtain⟨t,rfl⟩:=r
  cases (show T = "int" from ty)
  exact⟨Wz s i t,λ_ e=>nomatch e⟩
 |ref p=>
  cases r;rcases ty with⟨rfl,xs,hq⟩|⟨rfl,o,hk,hc,hd⟩|⟨rfl,hk⟩|⟨rfl,S,n,hk⟩
  .obtain⟨its,_,pl,_⟩:=I.list hq;refine⟨pl.isList.typeIs,λa e=>?_⟩;cases e;obtain⟨o,n,e,c,hd,_⟩:=pl;exact⟨o,e,hd⟩
  .refine⟨⟨o,I.kIn p o hk,hc⟩,λa e=>?_⟩;cases e;exact⟨o,I.kIn _ o hk,hd⟩
  .have z:∃o,s.heap.get? p=some o/\o.ExactDict:=by
    rcases hk with⟨kvs,hk⟩|⟨kvs,hk⟩
    .obtain⟨_,_,_,_,o,_,_,e,ex,_⟩:=I.hok p _ hk;exact⟨o,e,ex⟩
    .obtain⟨_,_,_,_,o,_,_,e,ex,_⟩:=I.hok p _ hk;exact⟨o,e,ex⟩
   obtain⟨o,e,ex⟩:=z;refine⟨⟨o,e,ex.1⟩,λa e2=>?_⟩;cases e2;exact⟨o,e,ex.2.1⟩
  .obtain⟨o,_,_,_,e,ex,_⟩:=I.hok p _ hk;refine⟨⟨o,e,ex.1⟩,λa e2=>?_⟩;cases e2;exact⟨o,e,ex.2.1⟩
 |_=>exact False.elim ty
def J9(K:Frag)(T:String)(r:V->List V->Hp->VK->Prop)(to:TE):TE:=λσ H Q=>to σ H λx H1=>tyV K T x H1/\r x [] H1 Q
def tBM(K:Frag)(T:String)(r:V->List V->Hp->VK->Prop)(to:TE)(t:TA):TE:=λσ H Q=>to σ H λx H1=>tyV K T x H1/\t σ H1 λxs H2=>r x xs H2 Q
variable{o e:Expr}{es:List Expr}{to:TE}{t:TA}{name:Str}{apos cpos:Pos}{T id:String}{r:V->List V->Hp->VK->Prop}
def GD(pa:PlainAttrs T)(slot:Slot T name id)(hty:typeOf (.builtin id)=pure (.type "method_descriptor"))(hm:MtR X id r)(ho:PE X o to)
  (hbase:autoParam (attributeBase o name X.env (eval o X.env)=eval o X.env) zz1._auto_1) (hline:autoParam ((apos.endLine == cpos.line)=true) zz1._auto_1):PE X (.Call (.Attribute o name apos) [] [] cpos) (J9 X.K T r to):=by
 intro pins s σ H Q I h;refine wpAny_Call_method0_late hbase hline (thn (ho pins s σ H _ I h) λv s1 zq=>?_);obtain⟨x,H1,I1,r1,ty,q1⟩:=zq;obtain⟨h1,h2⟩:=A9 I1 r1 ty;exact⟨T,id,pa,slot,hty,h1,h2,Vu rfl (Uj (hm pins s1 σ H1 x [] v [] Q I1 r1 .nil q1))⟩
def E9(pa:PlainAttrs T)(slot:Slot T name id)(hty:typeOf (.builtin id)=pure (.type "method_descriptor"))(hm:MtR X id r)(ho:PE X o to)(ha:PA X (e::es) t)
  (hbase:autoParam (attributeBase o name X.env (eval o X.env)=eval o X.env) zz1._auto_1)
  (hfew:autoParam (((backTo cpos (starEach (e::es) X.env)).all (λx=>!x.1)&&(backToKw cpos (keywordEach [] X.env)).all (λx=>x.1.isSome)
   && decide ((e::es).length+([]:List Keyword).length+(if ([]:List Keyword).isEmpty then 0 else 1)<30))=true) zz1._auto_1)
  (hline:autoParam ((apos.endLine == cpos.line)=true) zz1._auto_1) (hs:autoParam (starEach (e::es) X.env=(false,eval e X.env)::starEach es X.env) zz1._auto_1) (hplain:autoParam ((backTo cpos (starEach es X.env)).any (·.1)=false) zz1._auto_1):
  PE X (.Call (.Attribute o name apos) (e::es) [] cpos) (tBM X.K T r to t):=by
 intro pins s σ H Q I h;refine wpAny_Call_method_late hbase hfew hline rfl (thn (ho pins s σ H _ I h) λv s1 zq=>?_);obtain⟨x,H1,I1,r1,ty,q1⟩:=zq;obtain⟨h1,h2⟩:=A9 I1 r1 ty;refine⟨T,id,pa,slot,hty,h1,h2,?_⟩;have hA:=ha cpos pins s1 σ H1 _ I1 q1;rw[hs]at hA ⊢
 refine Vu (by show(false||(backTo cpos (starEach es X.env)).any (·.1))=false;rw[hplain]<;>rfl) (Calls.evalArgs_plain ?_)
 exact thn hA λus s2 zq=>ex5 zq λvs H2 I2 r2 q2=>hm pins s2 σ H2 x vs v us Q I2 r1 r2 q2
end
def MtM(X:Cx)(id:String)(r:V->List V->Hp->VK->Prop):Prop:=
 ∀(pins:List (Addr×Obj))(s:Shared)(σ:St)(H:Hp)(x:V)(xs:List V)(v:Value)(us:List Value)(Q:VK),Inv X pins σ H s->RelV x v->Vals xs us->r x xs H Q->
  wpAny (model X.prog X.w) X.A (call (.builtin id) (v::us)) (EP X pins σ Q) X.xe s
theorem Vals.one:∀{x:V}{us:List Value},Vals [x] us->∃u,us=[u]/\RelV x u
 |_,_,.cons r .nil=>⟨_,rfl,r⟩
theorem Vals.zero:∀{us:List Value},Vals [] us->us=[]
 |_,.nil=>rfl
theorem Vals.dropLast{xs:List V}(h:Vals xs us):Vals xs.dropLast us.dropLast:=by
 induction h with
 |nil=>exact .nil
 |cons r t ih=>
  cases t with
  |nil=>exact .nil
  |cons q t'=>exact .cons r ih
theorem Vals.rep{xs:List V}(h:Vals xs us):∀k:Nat,Vals (List.replicate k xs).flatten (List.replicate k us).flatten
 |0=>.nil
 |k+1=>by rw[W4,W4,Wm,Wm];exact Vals.append h (Vals.rep h k)
def wQ{α:Type}(l:List α):l.eraseIdx (l.length-1)=l.dropLast:=by
 induction l with
 |nil=>rfl
 |cons a r ih=>
  cases r with
  |nil=>rfl
  |cons b r=>
   have e:(a::b::r).length-1=((b::r).length-1)+1:=by have h1:(a::b::r).length=r.length+2:=rfl;have h2:(b::r).length=r.length+1:=rfl;omega
   rw[e,List.eraseIdx_cons_succ,ih]
   all_goals rfl
theorem foldl_rep(its:List Value):∀(k:Nat)(acc:List Value),
  List.foldl (λx1 x2=>x1++x2) acc.toArray (List.replicate k its.toArray)=(acc++(List.replicate k its).flatten).toArray
 |0,acc=>by simp
 |k+1,acc=>by
  have e:acc.toArray++its.toArray=(acc++its).toArray:=by simp
  have e2:(acc++its)++(List.replicate k its).flatten=acc++(List.replicate (k+1) its).flatten:=by rw[W4,Wm,Qe]
  rw[<- e2,<- foldl_rep its k (acc++its),<- e,W4,M7]
section
variable{X:Cx}{pins:List (Addr×Obj)}{σ:St}{H:Hp}{s:Shared}{l b:Addr}{xs ys zs:List V}
def Inv.lset{its its':List Value}{n:Nat}{f:Array Value->Array Value}{t':Nat}(I:Inv X pins σ H s)(hH:H l=some (.lst xs))
  (e:s.heap.get? l=some { cls:=.type "list",data:=.seq its.toArray n }) (hf:f its.toArray=its'.toArray) (hv:Vals ys its') (hz:ys.length<=sizeLine):
  Inv X pins σ (upd H l (.lst ys)) { s with heap:=s.heap.update l (Obj.mapSeq f),toks:=t' }:=by
 have q:=PySem.IsL.update e f;rw[hf]at q
 refine I.write (x:=l) (e:=l) (by rw[hH];exact trivial) (.inl rfl) (λb' u hb hu=>(Z7 s.heap (Obj.mapSeq f) (Ne.symm hb)).trans hu) ⟨_,q⟩ ?_
 exact⟨hz,its',_,hv,q⟩
def Inv.lnew{its:List Value}{t':Nat}(I:Inv X pins σ H s)(hv:Vals ys its)(hz:ys.length<=sizeLine):
  Inv X pins σ (upd H s.heap.objs.size (.lst ys)) { s with heap:=s.heap.push { cls:=.type "list",data:=.seq its.toArray },toks:=t' }:=
 I.laid (λ_ _ q=>Y7 _ q) (Yd _) ⟨hz,its,0,hv,Yg _ rfl⟩
theorem Inv.fresh(I:Inv X pins σ H s):H s.heap.objs.size=none:=I.hok.fresh (Yd _)
def Inv.lstM(I:Inv X pins σ H s)(hH:H l=some (.lst xs)):xs.length<=sizeLine/\∃(its:List Value)(n:Nat),Vals xs its/\xs.length=its.length/\s.heap.get? l=some { cls:=.type "list",data:=.seq its.toArray n }:=by obtain⟨z,its,n,r,e⟩:=I.hok l _ hH;exact⟨z,its,n,r,r.length,e⟩
def Ba{n:Nat}(h:n<=sizeLine):Builtin.List.listTooLong n=false:=by
 unfold Builtin.List.listTooLong
 exact Yp (by omega)
end
section
variable{X:Cx}
def Dy:V->List V->Hp->VK->Prop:=λx vs H Q=>∃l xs y,x=.ref l/\vs=[y]/\H l=some (.lst xs)/\xs.length<sizeLine/\Q .non (upd H l (.lst (xs++[y])))
def lZ:MtM X "list.append" Dy:=by
 intro pins s σ H x vs v us Q I rx rv h;obtain⟨l,xs,y,rfl,rfl,hH,hz,q⟩:=h;cases rx;obtain⟨u,rfl,ru⟩:=rv.one;obtain⟨z,its,n,r,hl,e⟩:=I.lstM hH
 refine V0 F.slot_list_append ⟨_,e,rfl⟩ F.entry_list_append (F.args_list_append_2 _ _) (PySem.list_append l its.toArray n u (by rw[Ys];omega)) ⟨e,?_⟩
 refine⟨.non,_,I.lset (its':=its++[u]) hH e (by simp) (r.append (.cons ru .nil)) ?_,rfl,q⟩
 rw[Yq,W7];omega
def Ka:V->List V->Hp->VK->Prop:=λx vs H Q=>∃l xs y,x=.ref l/\vs=[]/\H l=some (.lst xs)/\xs[xs.length-1]?=some y/\Q y (upd H l (.lst xs.dropLast))
def GF:MtM X "list.pop" Ka:=by
 intro pins s σ H x vs v us Q I rx rv h;obtain⟨l,xs,y,rfl,rfl,hH,hy,q⟩:=h;cases rx;have hus:=rv.zero;subst hus;obtain⟨z,its,n,r,hl,e⟩:=I.lstM hH;obtain⟨u,hu,ru⟩:=r.get hy
 have hy':its.toArray[its.toArray.size-1]?=some u:=by show its.toArray[its.length-1]?=some u;rw[<- U1,<- hl];exact hu
 refine V0 F.slot_list_pop ⟨_,e,rfl⟩ F.entry_list_pop (F.args_list_pop_1 _) (MeetsSeq.list_pop_last l its.toArray n u hy' (by rw[Ys];omega)) ⟨e,?_⟩
 refine⟨y,_,I.lset (its':=its.dropLast) hH e ?_ r.dropLast ?_,ru,q⟩
 .show its.toArray.eraseIdxIfInBounds (its.toArray.size-1)=its.dropLast.toArray;rw[Ys,List.eraseIdxIfInBounds_toArray,wQ]
 .rw[U7];omega
def Kb:R2:=λx y H Q=>∃l b xs zs,x=.ref l/\y=.ref b/\H l=some (.lst xs)/\H b=some (.lst zs)/\xs.length+zs.length<=sizeLine/\∀p,H p=none->Q (.ref p) (upd H p (.lst (xs++zs)))
def GG:OpR X (binaryOp .Add) Kb:=by
 intro pins s σ H x y v u Q I rx ry h;obtain⟨l,b,xs,zs,rfl,rfl,hH,hB,hz,q⟩:=h;cases rx;cases ry;obtain⟨z,its,n,r,hl,e⟩:=I.lstM hH;obtain⟨z2,its2,n2,r2,hl2,e2⟩:=I.lstM hB
 refine PySem.P.add_list e e2 ?_ (by rw[Ys,Ys];omega)
 have ea:its.toArray++its2.toArray=(its++its2).toArray:=by simp
 rw[ea]
 exact⟨.ref _,_,I.lnew (t':=s.toks) (r.append r2) (by rw[Yq];omega),rfl,q _ I.fresh⟩
def Kc:R2:=λx y H Q=>∃l k xs,x=.ref l/\y=.int k/\H l=some (.lst xs)/\-(2^63)<=k/\k<2^63/\xs.length*k.toNat<=sizeLine/\
 ∀p,H p=none->Q (.ref p) (upd H p (.lst (List.replicate k.toNat xs).flatten))
def len_rep{α:Type}(xs:List α)(k:Nat):(List.replicate k xs).flatten.length=k*xs.length:=by
 induction k with
 |zero=>simp
 |succ k ih=>rw[W4,Wm,Yq,ih,Vk,U8]
def GH:OpR X (binaryOp .Mult) Kc:=by
 intro pins s σ H x y v u Q I rx ry h;obtain⟨l,k,xs,rfl,rfl,hH,h1,h2,hz,q⟩:=h;cases rx;obtain⟨t,rfl⟩:=ry;obtain⟨z,its,n,r,hl,e⟩:=I.lstM hH
 have hlen:its.toArray.size*k.toNat<=sizeLine:=by rw[Ys,<- hl];exact hz
 have hcap:¬its.toArray.size*k.toNat>(2^63-1)/8:=by
  have:(sizeLine:Nat)<=(2^63-1)/8:=by decide
  omega
 have hfit:¬(!Builtin.List.listFitsIndex k)=true:=by rw[fitsIndex_both h1 h2];exact Yl
 have hlong:¬Builtin.List.listTooLong (its.toArray.size*k.toNat)=true:=by rw[Ba hlen];exact Yl
 have hnew:List.foldl (λx1 x2=>x1++x2) #[] (List.replicate (if its.toArray.isEmpty=true then 0 else k.toNat) its.toArray)=(List.replicate k.toNat its).flatten.toArray:=by
  have f0:∀m:Nat,List.foldl (λx1 x2=>x1++x2) #[] (List.replicate m its.toArray)=(List.replicate m its).flatten.toArray:=λm=>by have:=foldl_rep its m [];rw[Wc]at this;exact this
  rw[f0];cases its with
  |nil=>simp
  |cons a r'=>rw[Yi (by simp)]
 refine wpAny_binaryOp_repeat_ref (T:="list") (U:="int") (by decide) ⟨_,e,rfl⟩ (λs'=>Wz s' k t) noFill_list_mul F.fills_int_mul U9 repeat_list F.slot_int_index.lookup
  (V0 U9 (Wz s k t) F.entry_int_rmul (F.args_int_rmul_2 _ _) (int___rmul___int_list k t l its.toArray n)
   ⟨e,rfl,⟨_,e,rfl⟩,V0 F.slot_list_mul ⟨_,e,rfl⟩ F.entry_list_mul (F.args_list_mul_2 _ _) (AutoListH.list___mul___list_int_3 l its.toArray n k t hfit hcap hlong) ⟨e,?_⟩⟩)
 rw[hnew]
 exact⟨.ref _,_,I.lnew (t':=s.toks) (r.rep k.toNat) (by rw[len_rep,Vl];exact hz),rfl,q _ I.fresh⟩
end
section
variable{κ:Type}[DecidableEq κ]
def iH(kvs:List (κ×V))(k:κ):Option V:=(kvs.find? λkv=>decide (kv.1=k)).map (·.2)
def putK(kvs:List (κ×V))(k:κ)(v:V):List (κ×V):=
 if (kvs.any λkv=>decide (kv.1=k))=true then kvs.map (λkv=>if kv.1=k then (kv.1,v) else kv) else kvs++[(k,v)]
def oz{p:κ×V}{r:List (κ×V)}{k:κ}(e:p.1=k):iH (p::r) k=some p.2:=by simp[iH,Zu,e]
def oA{p:κ×V}{r:List (κ×V)}{k:κ}(e:¬p.1=k):iH (p::r) k=iH r k:=by simp[iH,Zu,e]
theorem uq(k:κ):∀kvs:List (κ×V),(kvs.any λkv=>decide (kv.1=k))=(iH kvs k).isSome
 |[]=>rfl
 |p::r=>by
  rw[Qs];by_cases e:p.1=k
  .simp only[oz e,Yr e,Bool.true_or,Option.isSome_some]
  .rw[oA e,Yp e,Bool.false_or];exact uq k r
def ji(kvs:List (κ×V))(k:κ)(v:V):(putK kvs k v).length<=kvs.length+1:=by
 unfold putK;split
 .rw[Yh];omega
 .rw[Yq,Ym,Zf];omega
def jd.isSome_eq{o:Option V}{u:Option Value}(r:jd o u):o.isSome=u.isSome:=by
 cases o with
 |none=>cases u with
  |none=>rfl
  |some _=>exact(show False from r).elim
 |some _=>cases u with
  |none=>exact(show False from r).elim
  |some _=>rfl
theorem jd.getD{o:Option V}{u:Option Value}{d:V}{d':Value}(r:jd o u)(rd:RelV d d'):RelV (o.getD d) (u.getD d'):=by
 cases o with
 |none=>cases u with
  |none=>exact rd
  |some _=>exact(show False from r).elim
 |some _=>cases u with
  |none=>exact(show False from r).elim
  |some _=>exact r
def KV.val{kvs:List (κ×V)}{vs:List (κ×Value)}(r:KV kvs vs)(k:κ):jd (iH kvs k) (valueAt vs k):=by
 unfold KV at r
 induction r with
 |nil=>exact True.intro
 | @cons p q ps qs h t ih=>
  obtain⟨h1,h2⟩:=h;by_cases e:p.1=k
  .have e':q.1=k:=h1.symm.trans e
   have b:valueAt (q::qs) k=some q.2:=by simp[valueAt,Zu,e']
   rw[oz e,b];exact h2
  .have e':¬q.1=k:=λz=>e (h1.trans z)
   have b:valueAt (q::qs) k=valueAt qs k:=by simp[valueAt,Zu,e']
   rw[oA e,b];exact ih
theorem KV.any{kvs:List (κ×V)}{vs:List (κ×Value)}(r:KV kvs vs)(k:κ):(kvs.any λkv=>decide (kv.1=k))=vs.any λkv=>decide (kv.1=k):=by
 unfold KV at r
 induction r with
 |nil=>rfl
 |cons h t ih=>rw[Qs,Qs,ih,h.1]
theorem KV.repl{kvs:List (κ×V)}{vs:List (κ×Value)}(r:KV kvs vs)(k:κ){y:V}(ry:RelV y u):
  KV (kvs.map λkv=>if kv.1=k then (kv.1,y) else kv) (vs.map λkv=>if kv.1=k then (kv.1,u) else kv):=by
 unfold KV at r ⊢
 induction r with
 |nil=>exact .nil
 | @cons p q ps qs h t ih=>
  rw[Yb,Yb];refine .cons ?_ ih;obtain⟨h1,h2⟩:=h;by_cases e:p.1=k
  .rw[Y8 e,Y8 (h1.symm.trans e)];exact⟨h1,ry⟩
  .rw[Yi e,Yi (λz=>e (h1.trans z))];exact⟨h1,h2⟩
def KV.put{kvs:List (κ×V)}{vs:List (κ×Value)}(r:KV kvs vs)(k:κ){y:V}(ry:RelV y u):KV (putK kvs k y) (stored vs k u):=by
 unfold putK stored;rw[r.any k];by_cases e:(vs.any λkv=>decide (kv.1=k))=true
 .rw[Y8 e,Y8 e];exact r.repl k ry
 .rw[Yi e,Yi e];exact Paired.snoc r ⟨rfl,ry⟩
def KV.keys{kvs:List (κ×V)}{vs:List (κ×Value)}(r:KV kvs vs):kvs.map (·.1)=vs.map (·.1):=by
 unfold KV at r
 induction r with
 |nil=>rfl
 |cons h t ih=>rw[Yb,Yb,ih,h.1]
theorem KV.length{kvs:List (κ×V)}{vs:List (κ×Value)}(r:KV kvs vs):kvs.length=vs.length:=Paired.length r
end
def qE{k:Key}(r:RelV (kV k) u):(bf P w).is k u=true:=by
 cases k with
 |inl i=>obtain⟨t,e⟩:=(show ∃t,u=Value.int i t from r);subst e;exact uc P w i t
 |inr x=>obtain⟨t,e⟩:=(show ∃t,u=Value.str x t from r);subst e;exact ud P w x t
theorem qF:∀{ks:List Key}{us:List Value},Vals (ks.map kV) us->ItemsAre (bf P w) ks us
 |[],_,r=>by rw[W5]at r;cases r;exact .nil
 |k::ks,_,r=>by
  rw[Yb]at r;cases r with
  |cons h t=>exact .cons (qE h) (qF t)
abbrev KT(H:Hp):List (List Key×V)->List (List Key×Addr×Value)->Prop:=Paired λp q=>p.1=q.1/\H q.2.1=some (.tup (p.1.map kV))/\RelV p.2 q.2.2
def KT.val{kvs:List (List Key×V)}(r:KT H kvs xs)(k:List Key):jd (iH kvs k) ((atKey xs k).map (·.2)):=by
 induction r with
 |nil=>exact True.intro
 | @cons p q ps qs h t ih=>
  obtain⟨h1,_,h2⟩:=h;by_cases e:p.1=k
  .have e':q.1=k:=h1.symm.trans e
   have b:atKey (q::qs) k=some q.2:=by simp[atKey,Zu,e']
   rw[oz e,b];exact h2
  .have e':¬q.1=k:=λz=>e (h1.trans z)
   have b:atKey (q::qs) k=atKey qs k:=by simp[atKey,Zu,e']
   rw[oA e,b];exact ih
theorem KT.repl{kvs:List (List Key×V)}(r:KT H kvs xs)(k:List Key){y:V}(ry:RelV y u):
  KT H (kvs.map λkv=>if kv.1=k then (kv.1,y) else kv) (xs.map (putAt k u)):=by
 induction r with
 |nil=>exact .nil
 | @cons p q ps qs h t ih=>
  rw[Yb,Yb];refine .cons ?_ ih;obtain⟨h1,h2,h3⟩:=h;unfold putAt;by_cases e:p.1=k
  .rw[Y8 e,Y8 (h1.symm.trans e)];exact⟨h1,h2,ry⟩
  .rw[Yi e,Yi (λz=>e (h1.trans z))];exact⟨h1,h2,h3⟩
def KT.put{kvs:List (List Key×V)}(r:KT H kvs xs)(k:List Key){b:Addr}{y:V}(hb:H b=some (.tup (k.map kV)))(ry:RelV y u):
  KT H (putK kvs k y) (storedH xs k b u):=by
 have e:(kvs.any λkv=>decide (kv.1=k))=(atKey xs k).isSome:=by rw[uq,(r.val k).isSome_eq,Option.isSome_map]
 unfold putK storedH;rw[e];by_cases q:(atKey xs k).isSome=true
 .rw[Y8 q,Y8 q];exact r.repl k ry
 .rw[Yi q,Yi q];exact Paired.snoc r ⟨rfl,hb,ry⟩
def KT.keeps{H':Hp}{kvs:List (List Key×V)}(r:KT H kvs xs)(ht:∀b ys,H b=some (.tup ys)->H' b=some (.tup ys)):KT H' kvs xs:=
 Paired.mapP r λ_ _ z=>⟨z.1,ht _ _ z.2.1,z.2.2⟩
section
variable{P:Program}{w:World}{H:Hp}{h:Heap}{a:Addr}
def Fb{u:HO}(ok:HOk P w H h)(e:Rd H a u):bR P w H h a u:=e.ok ok
def jj{kvs:List (Key×V)}(ok:HOk P w H h)(e:Rd H a (.dK kvs)):kvs.length<=sizeLine/\(a == sysModules)=false/\∃vs,KV kvs vs/\h.DictOf (bf P w) a vs:=
 show bR P w H h a (.dK kvs) from Fb ok e
def Fc{kvs:List (Key×V)}(ok:HOk P w H h)(e:H a=some (.dK kvs)):kvs.length<=sizeLine/\(a == sysModules)=false/\∃vs,KV kvs vs/\h.DictOf (bf P w) a vs:=jj ok (.inl e)
def oB{ks:List Key}(ok:HOk P w H h)(e:H a=some (.tup (ks.map kV))):(tupleKind (bf P w)).is h ks a:=by
 obtain⟨_,its,r,o,h1,h2,n,h3⟩:=(show bR P w H h a (.tup (ks.map kV)) from ok a _ e)
 exact⟨o,its.toArray,n,h1,h2,h3,by simpa using qF r⟩
theorem qG{kvs:List (List Key×V)}(ok:HOk P w H h)(e:Rd H a (.dT kvs)):kvs.length<=sizeLine/\(a == sysModules)=false/\
  ∃xs,KT H kvs xs/\h.DictOfH (tupleKind (bf P w)) a xs:=by
 obtain⟨z,y,xs,r,o,es,ep,h1,h2,h3,h4,h5⟩:=(show bR P w H h a (.dT kvs) from Fb ok e)
 refine⟨z,y,xs,r,o,es,ep,h1,h2,h3,h4,λx hx=>?_,h5⟩
 have all:∀{l:List (List Key×V)}{m:List (List Key×Addr×Value)},KT H l m->∀x∈m,(tupleKind (bf P w)).is h x.1 x.2.1:=by
  intro l m q
  induction q with
  |nil=>intro x hx;exact nomatch hx
  | @cons p q ps qs hq t ih=>
   intro x hx;rcases Yc.mp hx with e|hx
   .subst e
    exact oB ok (by rw[<- hq.1];exact hq.2.1)
   .exact ih x hx
 exact all r x hx
def Jh{kvs:List (List Key×V)}(ok:HOk P w H h)(e:H a=some (.dT kvs)):kvs.length<=sizeLine/\(a == sysModules)=false/\
  ∃xs,KT H kvs xs/\h.DictOfH (tupleKind (bf P w)) a xs:=qG ok (.inl e)
end
def zI(H:Hp)(a:Addr)(y:V)(r:Option V):Prop:=
 (∃kvs k,Rd H a (.dK kvs)/\y=kV k/\r=iH kvs k) \/ ∃kvs k b,Rd H a (.dT kvs)/\y=.ref b/\H b=some (.tup (k.map kV))/\r=iH kvs k
def Dz(H:Hp)(a:Addr)(y v:V)(H':Hp):Prop:=
 (∃kvs k,H a=some (.dK kvs)/\y=kV k/\kvs.length<sizeLine/\H'=upd H a (.dK (putK kvs k v))) \/
 ∃kvs k b,H a=some (.dT kvs)/\y=.ref b/\H b=some (.tup (k.map kV))/\kvs.length<sizeLine/\H'=upd H a (.dT (putK kvs k v))
theorem Dz.k{kvs:List (Key×V)}{k:Key}{v:V}(e:H a=some (.dK kvs))(hl:kvs.length<sizeLine):Dz H a (kV k) v (upd H a (.dK (putK kvs k v))):=.inl ⟨kvs,k,e,rfl,hl,rfl⟩
section
variable{X:Cx}{pins:List (Addr×Obj)}{σ:St}{H:Hp}{s:Shared}{a:Addr}{y v:V}{u r:Value}{o:Option V}{A:Around}{E:Value->Shared->Prop}
def Inv.big(I:Inv X pins σ H s):sysModules<s.heap.objs.size:=by
 have h:mainGlobals<s.heap.objs.size:=(I.mod.glob.keeps I.bk).lt
 exact M1 (by decide) h
def zJ(hu:A.units+1<cLine)(I:Inv X pins σ H s)(g:zI H a y (some v))(ry:RelV y u)(h:∀w' s',Inv X pins σ H s'->RelV v w'->Q w' s'):
  wpAny (model X.prog X.w) A (getItem (.ref a) u) Q E s:=by
 rcases g with⟨kvs,k,e,ey,l⟩|⟨kvs,k,b,e,ey,eb,l⟩
 .subst ey;obtain⟨z,hd,vs,rel,dd⟩:=jj I.hok e
  obtain⟨w',hw,rw'⟩:=jd.some_of (v:=v) (o:=valueAt vs k) (by rw[l];exact rel.val k)
  exact wpAny_getItem_of (qE ry) dd.mapOf hw (h w' _ (I.tok _) rw')
 .subst ey
  cases (show u=Value.ref b from ry)
  obtain⟨z,hd,xs,rel,dd⟩:=qG I.hok e
  obtain⟨w',hw,rw'⟩:=jd.some_of (v:=v) (o:=(atKey xs k).map (·.2)) (by rw[l];exact rel.val k)
  obtain⟨p,hp,hp2⟩:=Option.map_eq_some_iff.mp hw;refine wpAny_getItem_heap (Vm hu) (oB I.hok eb) dd hp ?_;rw[hp2];exact h w' _ (I.tok _) rw'
def Ke(hu:A.units+1<cLine)(I:Inv X pins σ H s)(g:zI H a y o)(ry:RelV y u)(h:∀s',Inv X pins σ H s'->Q (.bool o.isSome) s'):
  wpAny (model X.prog X.w) A (compareOp .In u (.ref a)) Q E s:=by
 rcases g with⟨kvs,k,e,ey,l⟩|⟨kvs,k,b,e,ey,eb,l⟩
 .subst ey;obtain⟨z,hd,vs,rel,dd⟩:=jj I.hok e;refine wpAny_in_of (qE ry) hd dd.mapOf ?_;rw[<- (rel.val k).isSome_eq,<- l];exact h _ (I.tok _)
 .subst ey
  cases (show u=Value.ref b from ry)
  obtain⟨z,hd,xs,rel,dd⟩:=qG I.hok e;refine wpAny_in_heap (Vm hu) (oB I.hok eb) hd dd ?_;have q:=(rel.val k).isSome_eq;rw[Option.isSome_map]at q;rw[<- q,<- l];exact h _ (I.tok _)
def sm{h':Heap}{t':Nat}{ob:HO}(I:Inv X pins σ H s)(mu:Mut (H a))(hs:Heap.SameBut a s.heap h')(he:∃q,h'.get? a=some q)(new:bR X.prog X.w (upd H a ob) h' a ob):
  Inv X pins σ (upd H a ob) { s with heap:=h',toks:=t' }:=
 I.write (x:=a) (e:=a) mu (.inl rfl) (λb q hb z=>(hs.2 b hb).trans z) he new
def Bb{H':Hp}{h':Heap}{kvs:List (Key×V)}{vs:List (Key×Value)}(z:kvs.length<=sizeLine)(hd:(a == sysModules)=false)(rel:KV kvs vs)(dd:h'.DictOf (bf P w) a vs):
  bR P w H' h' a (.dK kvs):=⟨z,hd,vs,rel,dd⟩
def zK{H':Hp}{Q:Unit->Shared->Prop}(hu:A.units+1<cLine)(I:Inv X pins σ H s)(g:Dz H a y v H')(ry:RelV y u)(rv:RelV v r)(h:∀s',Inv X pins σ H' s'->Q () s'):
  wpAny (model X.prog X.w) A (setItem (.ref a) u r) Q E s:=by
 rcases g with⟨kvs,k,e,ey,l,eH⟩|⟨kvs,k,b,e,ey,eb,l,eH⟩
 .subst ey eH;obtain⟨z,hd,vs,rel,dd⟩:=Fc I.hok e
  have hz:vs.length<=sizeLine:=by rw[<- rel.length];exact z
  have hl:(putK kvs k v).length<=sizeLine:=by have:=ji kvs k v;omega
  refine wpAny_setItem_pairs (hsz:=hz) (qE ry) dd λh' dd' hs=>h _ ?_
  have he:∃q,h'.get? a=some q:=let ⟨q,_,_,hq,_⟩:=dd';⟨q,hq⟩
  exact sm I (by rw[e];exact True.intro) hs he (Bb hl hd (rel.put k rv) dd')
 .subst ey eH
  cases (show u=Value.ref b from ry)
  obtain⟨z,hd,xs,rel,dd⟩:=Jh I.hok e
  have hz:xs.length<=sizeLine:=by rw[<- Paired.length rel];exact z
  have hl:(putK kvs k v).length<=sizeLine:=by have:=ji kvs k v;omega
  refine wpAny_setItem_heap (hsz:=hz) (Vm hu) (oB I.hok eb) dd λh' dd' hs=>h _ ?_;obtain⟨q,es,ep,hq,h2,h3,h4,_,h5⟩:=dd'
  refine sm I (by rw[e];exact True.intro) hs ⟨q,hq⟩ ⟨hl,hd,_,(rel.put k eb rv).keeps λc ys ec=>?_,q,es,ep,hq,h2,h3,h4,h5⟩
  rw[aN (Ir ec e (λz=>nomatch z))]
  exact ec
end
section
variable{X:Cx}{pins:List (Addr×Obj)}{σ:St}{H:Hp}{s:Shared}{a:Addr}{kvs:List (Key×V)}{k:Key}{u:Value}{A:Around}{E:Value->Shared->Prop}
def Ji(I:Inv X pins σ H s)(e:Rd H a (.dK kvs))(h:∀t s',Inv X pins σ H s'->Q (.int kvs.length t) s'):wpAny (model X.prog X.w) A (call (.builtin "len") [.ref a]) Q E s:=by
 obtain⟨z,hd,vs,rel,dd⟩:=jj I.hok e
 refine call_len_dict hd dd (by rw[<- rel.length];rw[Wq]at z;omega) ?_
 rw[<- rel.length];exact h _ _ (I.tok _)
end
def uw{y:V}{o:Option V}(I:Inv X pins σ H s)(g:zI H a y o):s.TypeIs (.ref a) "dict":=by
 rcases g with⟨kvs,k,e,_,_⟩|⟨kvs,k,b,e,_,_,_⟩
 .obtain⟨_,_,vs,_,dd⟩:=jj I.hok e;exact dd.typeIs
 .obtain⟨_,_,xs,_,dd⟩:=qG I.hok e;exact dd.typeIs
def ux(h:Heap)(hb:sysModules<h.objs.size):bR P w H (h.push { cls:=.type "dict",data:=.dict #[] }) h.objs.size (.dK []):=
 ⟨Zq _,Ws.mpr (Ne.symm (Yt hb)),[],.nil,Heap.DictOf.new h⟩
def GI:TE:=λ_ H Q=>∀p,H p=none->Q (.ref p) (upd H p (.dK []))
section
variable{X:Cx}{pos:Pos}
def Bc:PE X (.Dict [] [] pos) GI:=λpins s σ H Q I h=>
 wpAny_Dict_empty ⟨.ref s.heap.objs.size,_,I.laid (a:=s.heap.objs.size) (o:=.dK []) (t':=s.toks) (λ_ _ q=>Y7 _ q) (Yd _) (ux s.heap I.big),rfl,h _ (I.hok.fresh (Yd _))⟩
end
def sr:List (TE×TE)->St->Hp->(List (V×V)->Hp->Prop)->Prop
 |[],_,H,Q=>Q [] H
 |(tk,tv)::r,σ,H,Q=>tk σ H λx H1=>tv σ H1 λy H2=>sr r σ H2 λps H3=>Q ((x,y)::ps) H3
abbrev VV:List (V×V)->List (Value×Value)->Prop:=Paired λp q=>RelV p.1 q.1/\RelV p.2 q.2
def PPs(X:Cx)(pos:Pos)(keys:List (Option Expr))(values:List Expr)(trs:List (TE×TE)):Prop:=
 ∀(pins:List (Addr×Obj))(s:Shared)(σ:St)(H:Hp)(Q:List (V×V)->Hp->Prop),Inv X pins σ H s->sr trs σ H Q->
  wpAny (model X.prog X.w) X.A (evalPairs (pairTrees keys values X.env pos)) (λvs s'=>∃ps H',Inv X pins σ H' s'/\VV ps vs/\Q ps H') X.xe s
def DA:PPs X pos [] [] []:=λpins s σ H Q I h=>pairTrees_nil_walk ⟨[],H,I,.nil,h⟩
def Bd{k v:Expr}{ks:List (Option Expr)}{vs:List Expr}{tk tv:TE}{trs:List (TE×TE)}(hk:PE X k tk)(hv:PE X v tv)(hr:PPs X pos ks vs trs):
  PPs X pos (some k::ks) (v::vs) ((tk,tv)::trs):=λpins s σ H Q I h=>
 pairTrees_cons_walk (thn (hk pins s σ H _ I h) λu s1 zq=>ex5 zq λx H1 I1 rx q1=>thn (hv pins s1 σ H1 _ I1 q1) λw2 s2 zq=>ex5 zq λy H2 I2 ry q2=>
  thn (hr pins s2 σ H2 _ I2 q2) λws s3 zq=>ex5 zq λps H3 I3 rel q3=>⟨(x,y)::ps,H3,I3,.cons ⟨rx,ry⟩ rel,q3⟩)
def iI(kvs more:List (Key×V)):List (Key×V):=more.foldl (λacc kv=>putK acc kv.1 kv.2) kvs
def KV.merge:∀{more:List (Key×V)}{rs:List (Key×Value)}{kvs:List (Key×V)}{vs:List (Key×Value)},KV more rs->KV kvs vs->KV (iI kvs more) (merged vs rs):=by
 intro more rs kvs vs r;unfold KV at r
 induction r generalizing kvs vs with
 |nil=>intro q;exact q
 | @cons p q ps qs h t ih=>
  intro r0
  have e:KV (putK kvs p.1 p.2) (stored vs q.1 q.2):=by have:=r0.put p.1 h.2;rw[<- h.1];exact this
  exact ih e
theorem j6:∀(more kvs:List (Key×V)),(iI kvs more).length<=kvs.length+more.length
 |[],kvs=>by show kvs.length<=kvs.length+0;omega
 |p::r,kvs=>by have h1:=j6 r (putK kvs p.1 p.2);have h2:=ji kvs p.1 p.2;show(iI (putK kvs p.1 p.2) r).length<=_;rw[Ym];omega
theorem oC{P:Program}{w:World}:∀{kvs:List (Key×V)}{ws:List (Value×Value)},VV (kvs.map λkv=>(kV kv.1,kv.2)) ws->∃rs,Carries (bf P w) ws rs/\KV kvs rs
 |[],_,r=>by rw[W5]at r;cases r;exact⟨[],True.intro,.nil⟩
 |p::kvs,_,r=>by
  rw[Yb]at r;cases r with
  | @cons a b as bs h t=>
   obtain⟨rs,c,q⟩:=oC (P:=P) (w:=w) t;obtain⟨b1,b2⟩:=b;exact⟨(p.1,b2)::rs,⟨qE h.1,rfl,c⟩,.cons ⟨rfl,h.2⟩ q⟩
def Fd(trs:List (TE×TE)):TE:=λσ H Q=>∀p,H p=none->sr trs σ (upd H p (.dK [])) λps H2=>H2 p=some (.dK [])/\∃kvs:List (Key×V),ps=kvs.map (λkv=>(kV kv.1,kv.2))/\kvs.length<=15/\Q (.ref p) (upd H2 p (.dK (iI [] kvs)))
def DB{keys:List (Option Expr)}{values:List Expr}{trs:List (TE×TE)}(h:PPs X pos keys values trs)(hall:keys.all (·.isSome)=true)(hl:keys.length=values.length)(h0:keys≠[])
  (h15:keys.length<=15):PE X (.Dict keys values pos) (Fd trs):=by
 intro pins s σ H Q I q;have hn:=I.hok.fresh (Yd s.heap.objs.size);have I1:=I.laid (a:=s.heap.objs.size) (o:=.dK []) (h':=s.heap.push { cls:=.type "dict",data:=.dict #[] }) (t':=s.toks) (λ_ _ q=>Y7 _ q) (Yd _) (ux s.heap I.big)
 refine wpAny_Dict_walk (knd:=bf X.prog X.w) hall hl h0 h15 (thn (h pins _ σ _ _ I1 (q _ hn)) λws s2 zq=>?_);obtain⟨ps,H2,I2,rel,e,kvs,ep,lk,q2⟩:=zq;subst ep;obtain⟨rs,c,rk⟩:=oC (P:=X.prog) (w:=X.w) rel;obtain⟨z,hd,vs0,r0,dd⟩:=Fc I2.hok e;cases r0;refine⟨rs,c,dd,λh' dd' hs=>⟨.ref s.heap.objs.size,_,?_,rfl,q2⟩⟩
 have hz:(iI [] kvs).length<=sizeLine:=by have h1:=j6 kvs [];rw[Zf]at h1;rw[Wq];omega
 have he:∃q,h'.get? s.heap.objs.size=some q:=let ⟨q,_,_,hq,_⟩:=dd';⟨q,hq⟩
 exact sm I2 (by rw[e];exact True.intro) hs he (Bb hz hd (rk.merge .nil) dd')
structure M2(X:Cx)(o:Expr)(m:Str)(apos:Pos)(e f:Expr)(cpos:Pos):Prop where
 base:attributeBase o m X.env (eval o X.env)=eval o X.env
 few:((backTo cpos (starEach [e,f] X.env)).all (λx=>!x.1)&&(backToKw cpos (keywordEach [] X.env)).all (λx=>x.1.isSome)
  && decide (([e,f]:List Expr).length+([]:List Keyword).length+(if ([]:List Keyword).isEmpty then 0 else 1)<30))=true
 line:(apos.endLine == cpos.line)=true
 trees:backTo cpos (starEach [e,f] X.env)=[(false,eval e X.env),(false,eval f X.env)]
def IsD(H:Hp)(a:Addr):Prop:=(∃kvs,Rd H a (.dK kvs)) \/ ∃kvs,Rd H a (.dT kvs)
def wR(I:Inv X pins σ H s)(d:IsD H a):
  s.TypeIs (.ref a) "dict"/\(∀b,Value.ref a=.ref b->∃ob,s.heap.get? b=some ob/\ob.dict=none)/\(a == sysModules)=false:=by
 rcases d with⟨kvs,e⟩|⟨kvs,e⟩
 .obtain⟨_,hd,vs,_,dd⟩:=jj I.hok e;refine⟨dd.typeIs,λb q=>?_,hd⟩;cases q;obtain⟨ob,_,_,h1,h2,_⟩:=dd;exact⟨ob,h1,h2.2.1⟩
 .obtain⟨_,hd,xs,_,dd⟩:=qG I.hok e;refine⟨dd.typeIs,λb q=>?_,hd⟩;cases q;obtain⟨ob,_,_,h1,h2,_⟩:=dd;exact⟨ob,h1,h2.2.1⟩
section
variable{X:Cx}{pins:List (Addr×Obj)}{σ:St}{H:Hp}{s:Shared}{a:Addr}{y d:V}{u r:Value}{o:Option V}{A:Around}{E:Value->Shared->Prop}
def GJ(hu:A.units+1<cLine)(I:Inv X pins σ H s)(g:zI H a y o)(ry:RelV y u)(rd:RelV d r)(h:∀w' s',Inv X pins σ H s'->RelV (o.getD d) w'->Q w' s'):
  wpAny (model X.prog X.w) A (call (.builtin "dict.get") [.ref a,u,r]) Q E s:=by
 rcases g with⟨kvs,k,e,ey,l⟩|⟨kvs,k,b,e,ey,eb,l⟩
 .subst ey;obtain⟨z,hd,vs,rel,dd⟩:=jj I.hok e;refine call_meetsIn U2 dd.typeIs PySem.F.entry_dict_get (PySem.F.args_dict_get_3 _ _ _) (meets_dict_get_default (bf X.prog X.w) a (qE ry) hd r) ⟨_,dd.mapOf,h _ _ (I.tok _) ?_⟩;rw[l];exact(rel.val k).getD rd
 .subst ey
  cases (show u=Value.ref b from ry)
  obtain⟨z,hd,xs,rel,dd⟩:=qG I.hok e;refine call_meetsIn U2 dd.typeIs PySem.F.entry_dict_get (PySem.F.args_dict_get_3 _ _ _) (meetsH_dict_get_default (tupleKind (bf X.prog X.w)) a b hd r) ⟨Vm hu,k,xs,oB I.hok eb,dd,h _ _ (I.tok _) ?_⟩;rw[l];exact(rel.val k).getD rd
end
def GK(td ty tx:TE):TE:=λσ H Q=>td σ H λx H1=>∃a,x=.ref a/\IsD H1 a/\ty σ H1 λy H2=>tx σ H2 λz H3=>∃o,zI H3 a y o/\Q (o.getD z) H3
section
variable{X:Cx}{o e f:Expr}{apos cpos:Pos}{td ty tx:TE}
def Be(hu:X.A.units+1<cLine)(ho:PE X o td)(he:PE X e ty)(hf:PE X f tx)(m:M2 X o "get" apos e f cpos):PE X (.Call (.Attribute o "get" apos) [e,f] [] cpos) (GK td ty tx):=by
 intro pins s σ H Q I h;refine K4 m.base m.few m.line PySem.F.plainAttrs_dict U2 PySem.F.type_dict_get (thn (ho pins s σ H _ I h) λu s1 zq=>?_);obtain⟨x,H1,I1,rx,a,ex,d,q1⟩:=zq;subst ex;obtain rfl:u=Value.ref a:=rx;obtain⟨t1,t2,_⟩:=wR I1 d;refine⟨t1,t2,?_⟩;rw[m.trees]
 refine Vu rfl (Calls.evalArgs_plain (Uq (thn (he pins s1 σ H1 _ I1 q1) λiv s2 zq=>ex5 zq λy H2 I2 ry q2=>
  Uq (thn (hf pins s2 σ H2 _ I2 q2) λfv s3 ⟨z,H3,I3,rz,ov,g,q3⟩=>Calls.spliced_nil ?_))))
 exact GJ hu I3 g ry rz λw' s4 I4 rw'=>⟨_,H3,I4,rw',q3⟩
end
end L2
namespace Att
open PySem PySem.W PySem.Calls PyProof.Rows
def nB{P:Params}{h:Heap}:∀(ns:List Int)(vs:List Value),WellAll P h vs (ns.map WData.int)->IntsAre vs ns:=by
 intro ns
 induction ns with
 |nil=>
  intro vs w;rw[W5]at w;cases w;exact .nil
 |cons n ns ih=>
  intro vs w;rw[Yb]at w;cases w with
  |cons a b=>
   cases a;exact .cons _ _ (ih _ b)
theorem zL{l:OpenLaw}{n:Nat}(hn:l.most=some n){P:Params}{h:Heap}{args:List WData}{vals:List Value}
  (hpre:l.row.toRowW.claim.pre args=true) (hwl:WellAll P h vals args):
  ∃a vs ns,vals=[Value.ref a]/\args=[WData.list (ns.map WData.int)]/\h.get? a=some { cls:=.type "list",data:=.seq vs.toArray }/\IntsAre vs ns/\ns.length<=n:=by
 have hsh:WShape.hasAll [] args [.list .int]=true:=(pre_splitW hpre).1;have hc:l.pre.holds [] { args:=args }=true:=(pre_splitW hpre).2;obtain⟨d,r,rfl,h1,h2⟩:=hasAllW_cons hsh;obtain rfl:=hasAllW_nil h2;obtain⟨xs,rfl,h3⟩:=hasW_list h1;obtain⟨ns,rfl⟩:=items_int h3
 have hlen:ns.length<=n:=by
  unfold OpenLaw.pre at hc
  have h4:(WTm.not (.lt (.lit (.int (n:Int))) (.len (.arg 0)))).holds [] { args:=[.list (ns.map .int)] }=true:=by have h4:=(holds_andW hc).1;rw[hn]at h4;exact h4
  have h5:=condW_of h4 (w_not (w_lt w_lit (w_len_list (w_arg rfl))));rw[Yh]at h5;refine Nat.le_of_not_lt λq=>?_
  have q':(n:Int)<((ns.length:Nat):Int):=by omega
  first
   |(rw[Yr q']at h5;exact absurd h5 (by decide))
   |(simp at h5;omega)
 cases hwl with
 |cons w1 w2=>
  cases w2;cases w1 with
  |list ho hall=>exact⟨_,_,ns,rfl,rfl,ho,nB ns _ hall,hlen⟩
def zM(l:OpenLaw)(args:List WData):l.row.toRowW.claim.post args (.bool true) args=true:=
 postW_of (r:=l.row.toRowW) (X:=(true == true))
  (show WShape.has [] (.bool true) .bool=true by first|rfl|decide|simp[WShape.has,WShape.arms,WShape.armsAll])
  (show(WTm.eq .res (.lit (.bool true))).value [] { args:=args,res:=some (.bool true),after:=args }=some (.bool (true == true)) from w_eq_bool (w_res rfl) w_lit) rfl
def attach_call{l:OpenLaw}{n:Nat}{q:Program}{loose:List Str}{XP:(Str->Option Value)->Heap->Prop}{YP:World->Heap->Prop}{d:DefRec}
  (hn:l.most=some n) (hdf:d.params.defaults=[])
  (call:∀(w:World)(s₀ s₁:Shared)(mg mb:Str->Option Value)(fa:Addr)(o:Obj)(pm cd doc:Value)(a:Addr)(vs:List Value)(ns:List Int),
   Ground q loose [] XP w s₀ mg mb s₁.heap->YP w s₁.heap->
   s₁.heap.get? fa=some o->o.data=.func (docDef d.name d.params d.body d.scope pm cd doc)->s₁.heap.CodeRec cd d.name->mg d.name=some (.ref fa)->
   s₁.heap.get? a=some { cls:=.type "list",data:=.seq vs.toArray }->IntsAre vs ns->ns.length<=n->s₁.gens = #[]->
   codeAny (model l.prog w) callerA (.call (.ref fa) ⟨[.ref a],[]⟩) (λr s'=>r=.ok (.ret (.bool true))/\OldK s₁.heap s'.heap/\s'.os=s₁.os/\AllBare s'.gens) s₁):
  WalkO q loose XP YP l.row.toRowW d [] (λf vs=>PySem.call f vs):=by
 intro w s₀ s₁ mg mb G Y fa o pm cd doc dV kV ho hd hcd hD hmg hg args vals as hpre hlay hrd hwl hlo;obtain rfl:dV=.none:=Dflts.none hD hdf;obtain rfl:kV=.none:=Dflts.noKw hD;obtain⟨a,vs,ns,rfl,rfl,hobj,hints,hlen⟩:=zL hn hpre hwl;refine enter_call (K9 (call w s₀ s₁ mg mb fa o pm cd doc a vs ns G Y ho (fd_plain hd) hcd hmg hobj hints hlen hg) λr s' hq=>?_);obtain⟨rfl,h2,h3,h4⟩:=hq
 exact⟨.inl ⟨.bool true,.bool true,[],rfl,λ_=>rfl,.bool true,zM l _,λ_=>⟨List.Pairwise.nil,λ_ hm=>(nomatch hm)⟩⟩,h2,h3,h4⟩
end Att
namespace L2
open PySem PySem.Spec PyProof.Rows
variable{x:Str}
theorem qH:∀{vs:List Value}{ns:List Int},IntsAre vs ns->Vals (ns.map V.int) vs
 |_,_,.nil=>.nil
 |_,_,.cons n t h=>.cons ⟨t,rfl⟩ (qH h)
def Bf(H:Hp):Prop:=∀b,H b=none \/ ∃o xs,H b=some (.frz o (.lst xs))
theorem Bg{P:Program}{w:World}{K:Frag}{mg mb:Str->Option Value}{CX:CXT}{k:Nat}{fa a:Addr}{fd:FuncData}{x:Str}{sp:Sp}{s₁:Shared}{vs:List Value}{ns:List Int}
  (KX:K.In s₁.heap) (hns:s₁.heap.Ns mainGlobals mg) (hb:s₁.heap.Ns builtinsNs mb) (hbb:∀x:Str,x ≠ "__name__"->mb x=bootBuiltins x) (hlim:s₁.heap.NoLimit) (hg:s₁.gens = #[])
  (ha:s₁.heap.get? a=some { cls:=.type "list",data:=.seq vs.toArray }) (hi:IntsAre vs ns) (hl:ns.length<=sizeLine) (hr:Room k callerA)
  (F:∀base:Heap,K.In base->base.Ns mainGlobals mg->FnOk P w K mg base CX k fa fd [x] sp) (hbind:∀(s:Shared)(u:Value),BindsTo s fd ⟨[u],[]⟩ [(x,u)])
  (hsp:∀H:Hp,Bf H->SqL K H a (ns.map V.int)->sp [.ref a] H (λv _=>v=.bl true) λ_ _ _=>False)
  (hCX:∀H e s',CX [] H s₁ (λ_ _ _=>False) e s'->False):
  codeAny (model P w) callerA (.call (.ref fa) ⟨[.ref a],[]⟩) (λr s'=>r=.ok (.ret (.bool true))/\OldK s₁.heap s'.heap/\s'.os=s₁.os/\AllBare s'.gens) s₁:=by
 have rv:=qH hi;have lenV:=hi.length
 -- from an abstract heap in which nothing but the script may be tracked
 have core:∀H:Hp,Bf H->SqL K H a (ns.map V.int)->HOk P w H s₁.heap->(∀b,H b≠none->b=a)->(H a≠none->K.lookup a=none)->
   codeAny (model P w) callerA (.call (.ref fa) ⟨[.ref a],[]⟩) (λr s'=>r=.ok (.ret (.bool true))/\OldK s₁.heap s'.heap/\s'.os=s₁.os/\AllBare s'.gens) s₁:=by
  intro H hO hS hok hA hK;have base_of:∀{b:Addr}{o:Obj},s₁.heap.get? b=some o->H b=none->(rW s₁.heap H).get? b=some o:=λe n=>AI e n
  have noA:∀{b:Addr}{o:Obj}{es:Array DictEntry}{ep:Nat},s₁.heap.get? b=some o->o.data=.dict es ep->H b=none:=λ{b o es ep} e d=>by
   cases q:H b with
   |none=>rfl
   |some u=>
    have e':b=a:=hA b (by rw[q];simp)
    subst e';rw[ha]at e;cases e;have d':Data.seq vs.toArray _=Data.dict es ep:=d;cases d'
  have nsK:∀{b:Addr}{m:Str->Option Value},s₁.heap.Ns b m->(rW s₁.heap H).Ns b m:=λ{b m} ⟨o,es,ep,e,d,r⟩=>⟨o,es,ep,base_of e (noA e d),d,r⟩
  have hKb:K.In (rW s₁.heap H):=λb o e=>base_of (KX b o e) (by
   cases q:H b with
   |none=>rfl
   |some u=>
    have e':b=a:=hA b (by rw[q];simp)
    subst e'
    rw[hK (by rw[q];simp)]at e;cases e)
  have hM:Mod K mg (rW s₁.heap H):=⟨hKb,nsK hns,⟨mb,nsK hb,hbb⟩,let ⟨mc,h1,h2⟩:=hlim;⟨mc,nsK h1,h2⟩⟩
  have e0:Env0 P w K mg (rW s₁.heap H) callerA [] s₁ H:=⟨rfl,hM,λb o e=>C6 e,Nat.le_of_eq (zw _ _),trivial,λb hb=>absurd (show b∈([]:List Addr) from hb) (by simp),hok,.of_eq hg⟩
  refine K9 ((F _ hKb (nsK hns)).run callerA [] s₁ H ⟨[.ref a],[]⟩ [.ref a] [.ref a] _ _ hr e0 (hbind s₁ (.ref a)) (.cons rfl .nil) (hsp H hO hS)) λr s' h=>?_;cases r with
  |error e=>exact(hCX H e s' h).elim
  |ok fl=>
   cases fl with
   |next=>exact False.elim h
   |brk=>exact False.elim h
   |cont=>exact False.elim h
   |ret u=>
    obtain⟨v,H',os,bare,un,hok',r',q⟩:=h;have q':v=.bl true:=q;subst q';obtain rfl:u=Value.bool true:=r';refine⟨rfl,OldK.of_keep λb o e=>?_,os,bare⟩;cases q:H b with
    |none=>exact un.keep b o e q (by intro z;exact absurd (show b∈([]:List Addr) from z) (by simp)) (by simp)
    |some u=>
     rcases hO b with z|⟨ob,xs,z⟩
     .rw[q]at z;cases z
     .have z2:=un.frzs b ob _ z;obtain⟨e1,_⟩:=hok b _ z;obtain⟨e2,_⟩:=hok' b _ z2;rw[e]at e1;cases e1;exact e2
 cases hk:K.lookup a with
 |some o=>
  -- the script is one of the module's own objects
  have e:=KX a o hk;rw[ha]at e;cases e
  refine core (λ_=>none) (λ_=>.inl rfl) (.inr ⟨_,vs.toArray,_,hk,rfl,rfl,rfl,by rw[Ys,lenV];exact hl,by simpa using rv⟩) (λb u z=>by have z':(none:Option HO)=some u:=z;cases z') (λb z=>absurd rfl z) λz=>absurd rfl z
 |none=>
  refine core (λb=>if b=a then some (.frz { cls:=.type "list",data:=.seq vs.toArray } (.lst (ns.map V.int))) else none) (λb=>?_) (.inl (.inr ⟨{ cls:=.type "list",data:=.seq vs.toArray },Y8 rfl⟩)) (λb u z=>?_) (λb z=>?_) λ_=>hk
  .by_cases hb:b=a
   .exact .inr ⟨_,_,Y8 hb⟩
   .exact .inl (Yi hb)
  .by_cases hb:b=a
   .have z':=(Y8 hb).symm.trans z;cases z';subst hb
    exact⟨ha,by rw[Yh];exact hl,vs,_,rv,ha⟩
   .have z':=(Yi hb).symm.trans z;cases z'
  .by_cases hb:b=a
   .exact hb
   .exact absurd (Yi hb) z
def DC{l:PySem.W.OpenLaw}{n k:Nat}{q:Program}{loose:List Str}{XP:(Str->Option Value)->Heap->Prop}{YP:World->Heap->Prop}{d:DefRec}{K:Params->Frag}{CX:World->CXT}{sp:World->Sp}{x:Str}
  (hn:l.most=some n) (hn2:n<=sizeLine) (hdf:d.params.defaults=[]) (hr:Room k callerA)
  (hY:∀(w:World)(h:Heap),YP w h->(K w.params).In h)
  (F:∀(w:World)(mg:Str->Option Value)(fa:Addr)(h:Heap),(K w.params).In h->h.Ns mainGlobals mg->mg d.name=some (.ref fa)->
   ∃fd:FuncData,(∀(s:Shared)(u:Value),BindsTo s fd ⟨[u],[]⟩ [(x,u)])/\
    ∀base:Heap,(K w.params).In base->base.Ns mainGlobals mg->FnOk l.prog w (K w.params) mg base (CX w) k fa fd [x] (sp w))
  (hsp:∀(w:World)(H:Hp)(a:Addr)(ns:List Int),ns.length<=n->Bf H->SqL (K w.params) H a (ns.map V.int)->sp w [.ref a] H (λv _=>v=.bl true) λ_ _ _=>False)
  (hCX:∀(w:World)(H:Hp)(s:Shared)(e:Value)(s':Shared),CX w [] H s (λ_ _ _=>False) e s'->False):
  PySem.W.WalkO q loose XP YP l.row.toRowW d [] (λf vs=>PySem.call f vs):=by
 refine Att.attach_call hn hdf λw s₀ s₁ mg mb fa o pm cd doc a vs ns G Y ho hd hcd hmg hobj hints hlen hg=>?_;have KX:=hY w _ Y;obtain⟨fd,hb,hF⟩:=F w mg fa _ KX G.T.g hmg;exact Bg KX G.T.g G.T.b G.T.builtins G.T.nolimit hg hobj hints (Yv hlen hn2) hr hF hb (λH hO hS=>hsp w H a ns hlen hO hS) λH e s'=>hCX w H s₁ e s'
def inClass(s:Stmt)(j:Nat):Stmt:=match s with
 |.ClassDef _ _ _ body _ _ _ _ _ _ _=>body.getD j (.Pass ⟨0,0,0,0⟩)
 |_=>.Pass ⟨0,0,0,0⟩
def defArgs(s:Stmt):Arguments:=match s with
 |.FunctionDef _ a _ _ _ _ _ _ _ _=>a
 |_=>{ posonlyargs:=[],args:=[],vararg:=none,kwonlyargs:=[],kw_defaults:=[],kwarg:=none,defaults:=[] }
def defBody(s:Stmt):List Stmt:=match s with
 |.FunctionDef _ _ b _ _ _ _ _ _ _=>b
 |_=>[]
def defScope(s:Stmt):Scope:=match s with
 |.FunctionDef _ _ _ _ _ _ sc _ _ _=>sc
 |_=>{ kind:=.function,names:=[],isGenerator:=false,isCoroutine:=false }
abbrev E0:XK:=λ_ _ _=>False
structure Fun(K:Frag)(x qual:Str)(st:Stmt)(f:Addr)(fd:FuncData):Prop where
 ex:∃(oc:Value)(od:Option Addr)(kV doc pm:Value)(an:Option Addr)(cdv ct:Value)(osl:Array (Option Value)),
  fd=fnOf x qual (defArgs st) (defBody st) (defScope st) .none kV doc pm an cdv ct/\K.lookup f=some ⟨oc,od,.func fd,osl⟩/\codeIn K cdv qual=true
 kp:keepIn K (.ref f)=true
section
variable{P:Program}{w:World}{K:Frag}{mg:Str->Option Value}{base:Heap}
def Fun.binds{qual:Str}{st:Stmt}{f:Addr}{fd:FuncData}{ps:List Str}(F:Fun K x qual st f fd)
  (h:∀(kV doc pm:Value)(an:Option Addr)(cdv ct:Value)(us:List Value),us.length=ps.length->bindArgs (fnOf x qual (defArgs st) (defBody st) (defScope st) .none kV doc pm an cdv ct) ⟨us,[]⟩=pure (ps.zip us)):Binds K fd ps []:=by
 obtain⟨oc,od,kV,doc,pm,an,cdv,ct,osl,rfl,lk,hcd⟩:=F.ex;exact .all (h kV doc pm an cdv ct)
def aK{qual:Str}{st:Stmt}{f:Addr}{oc:Value}{od an:Option Addr}{osl:Array (Option Value)}{kV doc pm cdv ct:Value}(l:K.lookup f=some ⟨oc,od,.func (fnOf x qual (defArgs st) (defBody st) (defScope st) .none kV doc pm an cdv ct),osl⟩)
  (c:codeIn K cdv qual=true) (k:keepIn K (.ref f)=true):Fun K x qual st f (fnOf x qual (defArgs st) (defBody st) (defScope st) .none kV doc pm an cdv ct):=⟨⟨oc,od,kV,doc,pm,an,cdv,ct,osl,rfl,l,c⟩,k⟩
end
section
variable{X:Cx}
def pv(i:Nat){pos:Pos}(hN:autoParam (X.N[i]?=some x) zz1._auto_1)(hv:Vis X.env.scope x)(hd:autoParam ((x == ("__debug__":Str))=false) zz2._auto_1)
  (hcd:autoParam ((x == ("__classdict__":Str))=false) zz2._auto_1):PE X (.Name x pos) (Iu i):=FE hN hv hd hcd
end
def qc{A B:Prop}(h:B):if false=true then A else B:=by rw[Yi Yl];exact h
def qf{A B:Prop}(h:A):if true=true then A else B:=by rw[Y8 rfl];exact h
section
variable{X:Cx}
def qI:bI X (.builtin "len") (λxs H Q=>∃a kvs,xs=[V.ref a]/\H a=some (.dK kvs)/\Q (.int kvs.length) H):=by intro pins s σ H xs us Q I r h;obtain⟨a,kvs,rfl,ha,q⟩:=h;obtain⟨u,rfl,ru⟩:=Wb r;cases ru;exact Ji I (.inl ha) λt s' I'=>⟨.int kvs.length,H,I',⟨t,rfl⟩,q⟩
end
end L2
end
set_option autoImplicit false
namespace PD
open PySem
inductive D where
 |non|bl (b:Bool)|int (i:Int)|str (x:Str)
 |tup (xs:List D)|lst (xs:List D)|fz (xs:List D)|dic (kvs:List (Sum Int Str×D))|ref (n:Nat)|ty (n:String)
 /-- a caught exception of an own class;an own class -/
 |exc (c:Str) (f:Option Int)|cls (c:Str)
 deriving Inhabited
inductive SO where
 |lst (xs:List D)|dic (kvs:List (Sum Int Str×D))|ins (c:Str) (fs:List (Str×D))
 /-- a dict that has been walked: read,changed no more -/
 |fdic (kvs:List (Sum Int Str×D))
 /-- a list that has been walked: read,changed no more -/
 |flst (xs:List D)
 deriving Inhabited
abbrev Sto:=List SO
set_option genInjectivity false in
structure XD where
 cls:Str
 arg:D
 deriving Inhabited
def XD.fld(x:XD):Option Int:=match x.arg with | .int i=>some i|_=>none
inductive R(A:Type) where
 |ok (a:A) (S:Sto)|err (x:XD) (S:Sto)|bad
def R.bind{A B:Type}(r:R A)(f:A->Sto->R B):R B:=match r with
 |.ok a S=>f a S | .err x S=>.err x S | .bad=>.bad
def R.bind_ok{A B:Type}(a:A)(S:Sto)(f:A->Sto->R B):(R.ok a S).bind f=f a S:=rfl
def R.bind_err{A B:Type}(x:XD)(S:Sto)(f:A->Sto->R B):(R.err (A:=A) x S).bind f=.err x S:=rfl
def R.bind_bad{A B:Type}(f:A->Sto->R B):(R.bad (A:=A)).bind f=.bad:=rfl
def R.of{A:Type}(S:Sto):Option A->R A
 |some a=>.ok a S|none=>.bad
def R.of_some{A:Type}(S:Sto)(a:A):R.of S (some a)=.ok a S:=rfl
abbrev Rho:=List (Option D)
abbrev EM:=Rho->Sto->R D
abbrev TM:=Rho->Sto->R Bool
abbrev AM:=Rho->Sto->R (List D)
set_option genInjectivity false in
inductive F where
 |nx (r:Rho)|rt (d:D)|bk (r:Rho)|ct (r:Rho)
abbrev SM:=Rho->Sto->R F
abbrev FM:=List D->Sto->R D
def ae(i:Nat):EM:=λr S=>match r[i]? with
 |some (some d)=>.ok d S
 |_=>.bad
def eC(d:D):EM:=λ_ S=>.ok d S
def eUn(f:Sto->D->Option D)(a:EM):EM:=λr S=>(a r S).bind λx S1=>R.of S1 (f S1 x)
def eOp(f:Sto->D->D->Option D)(a b:EM):EM:=λr S=>(a r S).bind λx S1=>(b r S1).bind λy S2=>R.of S2 (f S2 x y)
def g6(f g:Sto->D->D->Option D)(a b c:EM):EM:=λr S=>(a r S).bind λx S1=>(b r S1).bind λy S2=>match f S2 x y with
 |some (.bl true)=>(c r S2).bind λz S3=>R.of S3 (g S3 y z)
 |some (.bl false)=>.ok (.bl false) S2
 |_=>.bad
def kY(a b:EM):EM:=λr S=>(a r S).bind λx S1=>match x with
 |.bl true=>b r S1
 |.bl false=>.ok (.bl false) S1
 |_=>.bad
def eOr(a b:EM):EM:=λr S=>(a r S).bind λx S1=>match x with
 |.bl true=>.ok (.bl true) S1
 |.bl false=>b r S1
 |_=>.bad
def GL(a:EM):EM:=λr S=>(a r S).bind λx S1=>match x with
 |.bl b=>.ok (.bl (!b)) S1
 |_=>.bad
def eIf(t:TM)(a b:EM):EM:=λr S=>(t r S).bind λc S1=>if c=true then a r S1 else b r S1
def ak:AM:=λ_ S=>.ok [] S
def af(a:EM)(t:AM):AM:=λr S=>(a r S).bind λx S1=>(t r S1).bind λxs S2=>.ok (x::xs) S2
def g7(t:AM):EM:=λr S=>(t r S).bind λxs S1=>if xs.length<=sizeLine then .ok (.tup xs) S1 else .bad
def ik(t:AM):EM:=λr S=>(t r S).bind λxs S1=>if xs.length<=sizeLine then .ok (.lst xs) S1 else .bad
def eNew(t:AM):EM:=λr S=>(t r S).bind λxs S1=>if xs.length<=sizeLine then .ok (.ref S1.length) (S1++[.lst xs]) else .bad
def az(f:FM)(t:AM):EM:=λr S=>(t r S).bind λxs S1=>f xs S1
def eB(f:Sto->List D->Option D)(t:AM):EM:=λr S=>(t r S).bind λxs S1=>R.of S1 (f S1 xs)
def eBN(f:Sto->List D->Option SO)(t:AM):EM:=λr S=>(t r S).bind λxs S1=>match f S1 xs with
 |some o=>.ok (.ref S1.length) (S1++[o])
 |none=>.bad
def tV(a:EM):TM:=λr S=>(a r S).bind λx S1=>match x with
 |.bl b=>.ok b S1
 |_=>.bad
def ot(a b:TM):TM:=λr S=>(a r S).bind λc S1=>if c=true then b r S1 else .ok false S1
def tOr(a b:TM):TM:=λr S=>(a r S).bind λc S1=>if c=true then .ok true S1 else b r S1
def je(a:TM):TM:=λr S=>(a r S).bind λc S1=>.ok (!c) S1
def R.nx{A:Type}:R A->R A
 |.err _ _=>.bad
 |r=>r
def eNx(a:EM):EM:=λr S=>(a r S).nx
def tNx(a:TM):TM:=λr S=>(a r S).nx
def aNx(a:AM):AM:=λr S=>(a r S).nx
def bj:SM:=λr S=>.ok (.nx r) S
def qg:SM:=λ_ _=>.bad
def aA(a b:SM):SM:=λr S=>(a r S).bind λf S1=>match f with
 |.nx r1=>b r1 S1
 |g=>.ok g S1
def aX(a:EM):SM:=λr S=>(a r S).bind λx S1=>.ok (.rt x) S1
def Kw:SM:=λ_ S=>.ok (.rt .non) S
def cH(a:EM):SM:=λr S=>(a r S).bind λ_ S1=>.ok (.nx r) S1
def sIf(t:TM)(a b:SM):SM:=λr S=>(t r S).bind λc S1=>if c=true then a r S1 else b r S1
def Kf:SM:=λr S=>.ok (.bk r) S
def Kx:SM:=λr S=>.ok (.ct r) S
set_option genInjectivity false in
inductive G where
 |nm (i:Nat)|tp (gs:List G)
mutual
def G.put:G->D->Rho->Option Rho
 |.nm i,d,r=>some (r.set i (some d))
 |.tp gs,d,r=>match d with
  |.tup xs=>G.puts gs xs r
  |_=>none
def G.puts:List G->List D->Rho->Option Rho
 |[],[],r=>some r
 |g::gs,x::xs,r=>match G.put g x r with
  |some r1=>G.puts gs xs r1
  |none=>none
 |_,_,_=>none
end
def aO(i:Nat)(a:EM):SM:=λr S=>(a r S).bind λx S1=>.ok (.nx (r.set i (some x))) S1
def GN(g:G)(a:EM):SM:=λr S=>(a r S).bind λx S1=>match g.put x r with
 |some r1=>.ok (.nx r1) S1
 |none=>.bad
def DD(i j:Nat)(t:AM):SM:=λr S=>(t r S).bind λxs S1=>match xs with
 |[x,y]=>.ok (.nx ((r.set i (some x)).set j (some y))) S1
 |_=>.bad
def gn(f:Sto->D->D->D->Option Sto)(e o i:EM):SM:=λr S=>(e r S).bind λv S1=>(o r S1).bind λx S2=>(i r S2).bind λy S3=>match f S3 x y v with
 |some S4=>.ok (.nx r) S4
 |none=>.bad
def Ky(f:Sto->D->List D->Option Sto)(o:EM)(t:AM):SM:=λr S=>(o r S).bind λx S1=>(t r S1).bind λys S2=>match f S2 x ys with
 |some S3=>.ok (.nx r) S3
 |none=>.bad
def sNx(a:SM):SM:=λr S=>(a r S).nx
def Kg(c:Str)(t:AM):SM:=λr S=>(t r S).bind λxs S1=>if xs.length<=sizeLine then .err ⟨c,.tup xs⟩ S1 else .bad
def Kz(cs:List Str)(i n:Nat)(b h:SM):SM:=λr S=>match b r S with
 |.err x S1=>if cs.contains x.cls=true then (h ((List.replicate n none).set i (some (.exc x.cls x.fld))) S1).nx.bind λf S2=>match f with
   |.rt d=>.ok (.rt d) S2
   |_=>.bad
  else .bad
 |.ok f S1=>.ok f S1
 |.bad=>.bad
def forL(g:G)(b:SM):List D->SM
 |[]=>λr S=>.ok (.nx r) S
 |x::xs=>λr S=>match g.put x r with
  |none=>.bad
  |some r1=>(b r1 S).bind λf S1=>match f with
   |.nx r2=>forL g b xs r2 S1
   |.ct r2=>forL g b xs r2 S1
   |.bk r2=>.ok (.nx r2) S1
   |.rt d=>.ok (.rt d) S1
def fj(it:AM)(g:G)(b:SM):SM:=λr S=>(it r S).bind λxs S1=>forL g b xs r S1
def cM(t:TM)(b:SM):Nat->SM
 |0=>λ_ _=>.bad
 |n+1=>λr S=>(t r S).bind λc S1=>if c=true then (b r S1).bind λf S2=>match f with
   |.nx r2=>cM t b n r2 S2
   |.ct r2=>cM t b n r2 S2
   |.bk r2=>.ok (.nx r2) S2
   |.rt d=>.ok (.rt d) S2
  else .ok (.nx r) S1
def fG(k:Nat)(caps:List Nat)(r:Rho):Rho:=List.replicate k none++caps.map λi=>(r[i]?).join
def dY(g:G)(t:TM)(e:EM):List D->Rho->Sto->R (List D)
 |[],_,S=>.ok [] S
 |x::xs,r,S=>match g.put x r with
  |none=>.bad
  |some r1=>(t r1 S).bind λc S1=>if c=true then (e r1 S1).bind λy S2=>(dY g t e xs r1 S2).bind λys S3=>.ok (y::ys) S3
    else dY g t e xs r1 S1
def bq(it:AM)(k:Nat)(caps:List Nat)(g:G)(t:TM)(e:EM):EM:=λr S=>(it r S).bind λxs S1=>
 if xs.length<=sizeLine then (dY g t e xs (fG k caps r) S1).bind λys S2=>.ok (.lst ys) S2 else .bad
def bZ:TM:=λ_ S=>.ok true S
def fnM(n:Nat)(b:SM):FM:=λds S=>(b (ds.map some++List.replicate (n-ds.length) none) S).bind λf S1=>match f with
 |.rt d=>.ok d S1
 |.nx _=>.ok .non S1
 |_=>.bad
end PD
namespace PD
open PySem PySem.Spec PyProof.Rows L2
variable{H H' H2:Hp}{a p:Addr}{o:HO}{n:Nat}{r:Rho}{X:Cx}{e tg:Expr}{t:TT}{x:Str}{i:Int}{T:String}{op:CmpOp}{rest es:List Expr}{mt:TM}{ms:AM}{S:Sto}{qb:Bool}{N:List Str}{env:Env}{scope:Scope}{caps:List Nat}{ma:EM}{pins:List (Addr×Obj)}{s:Shared}
set_option genInjectivity false in
structure Wd where
 st:List Addr
 hid:List Addr
variable{w w' w2:Wd}
def Wd.no(w:Wd)(a:Addr):Prop:=a∉w.st/\a∉w.hid
def Wd.add(w:Wd)(p:Addr):Wd:=⟨w.st++[p],w.hid⟩
def Wd.hide(w:Wd)(p:Addr):Wd:=⟨w.st,p::w.hid⟩
def At(w:Wd)(H:Hp)(a:Addr)(o:HO):Prop:=H a=some o/\w.no a
def su(K:Frag)(a:Addr)(vs:List V):Prop:=
 ∃(o:Obj)(its:Array Value)(n:Nat),K.lookup a=some o/\o.cls=.type "tuple"/\o.data=.seq its n/\its.size<=sizeLine/\Vals vs its.toList
def Kh(K:Frag)(a:Addr)(vs:List V):Prop:=
 ∃(o:Obj)(its:Array Value)(n:Nat),K.lookup a=some o/\o.cls=.type "list"/\o.dict=none/\o.data=.seq its n/\its.size<=sizeLine/\Vals vs its.toList
def wU(K:Frag)(w:Wd)(H:Hp)(a:Addr)(vs:List V):Prop:=(∃o,At w H a (.frz o (.lst vs)))\/Kh K a vs
def wU.sq{K:Frag}{vs:List V}(h:wU K w H a vs):SqL K H a vs:=h.elim (λ⟨o,z⟩=>.inl (.inr ⟨o,z.1⟩)) .inr
def ExcAt(a:Addr)(C:Value):Heap->Prop:=λh=>∃o,h.get? a=some o/\o.cls=C
def TabOf(dx:Addr)(od:Obj)(j:Int):Prop:=∀h:Heap,h.get? dx=some od->∃u m,h.Ns dx m/\m "at" = some u/\RelV (.int j) u
def uy(w:Wd)(H:Hp)(f:Option Int)(da:Option Addr):Prop:=∀j,f=some j->∃dx od,da=some dx/\At w H dx (.frz od (.ext (λh=>∃o,h.get? dx=some o)))/\TabOf dx od j
def uy.imp{f:Option Int}{da:Option Addr}(h:uy w H f da)(k:∀a o,At w H a o->At w' H' a o):uy w' H' f da:=λj e=>let ⟨dx,od,a,b,c⟩:=h j e;⟨dx,od,a,k _ _ b,c⟩
mutual
def RD(K:Frag)(w:Wd)(H:Hp):D->V->Prop
 |.non,v=>v=.non
 |.bl b,v=>v=.bl b
 |.int i,v=>v=.int i
 |.str x,v=>v=.str x
 |.tup ds,v=>∃a vs,v=.ref a/\(At w H a (.tup vs)\/su K a vs)/\RDs K w H ds vs
 |.lst ds,v=>∃a vs,v=.ref a/\At w H a (.lst vs)/\RDs K w H ds vs
 |.fz ds,v=>∃a vs,v=.ref a/\wU K w H a vs/\RDs K w H ds vs
 |.dic kvs,v=>∃a us,v=.ref a/\At w H a (.dK us)/\RDk K w H kvs us
 |.ref n,v=>∃a,v=.ref a/\w.st[n]?=some a
 |.ty n,v=>v=.ty n
 |.exc c f,v=>∃a C o,v=.ref a/\nsIn K mainGlobals c=some (some C)/\At w H a (.frz o (.ext (ExcAt a C)))/\ZO o/\uy w H f o.dict
 |.cls c,v=>∃C,nsIn K mainGlobals c=some (some (.ref C))/\v=.ref C
def RDs(K:Frag)(w:Wd)(H:Hp):List D->List V->Prop
 |[],vs=>vs=[]
 |d::ds,vs=>∃v r,vs=v::r/\RD K w H d v/\RDs K w H ds r
def RDk(K:Frag)(w:Wd)(H:Hp):List (Sum Int Str×D)->List (Key×V)->Prop
 |[],us=>us=[]
 |(k,d)::ds,us=>∃v r,us=(k,v)::r/\RD K w H d v/\RDk K w H ds r
end
structure Ext(w:Wd)(H:Hp)(w':Wd)(H':Hp):Prop where
 keep:∀a o,H a=some o->a∉w.st->H' a=some o
 sub:∃l,w'.st=w.st++l/\∀a∈l,H a=none
 hid:∀a,a∈w.hid->a∈w'.hid
 hnew:∀a,a∈w'.hid->a∈w.hid\/H a=none
 frz:∀a o u,H a=some (.frz o u)->H' a=some (.frz o u)
def Ext.refl(w:Wd)(H:Hp):Ext w H w H:=⟨λ_ _ h _=>h,⟨[],by simp,λ_ h=>nomatch h⟩,λ_ h=>h,λ_ h=>.inl h,λ_ _ _ h=>h⟩
def Ext.out(x:Ext w H w' H')(h:H a=some o)(n:a∉w.st):a∉w'.st:=by
 obtain⟨l,e,f⟩:=x.sub;rw[e];intro z;rcases Yy.mp z with z|z
 .exact n z
 .rw[f a z]at h;cases h
theorem Ext.at(x:Ext w H w' H')(h:At w H a o):At w' H' a o:=⟨x.keep a o h.1 h.2.1,x.out h.1 h.2.1,λz=>(x.hnew a z).elim h.2.2 λe=>by rw[h.1]at e;cases e⟩
def Ext.get(x:Ext w H w' H')(h:w.st[n]?=some a):w'.st[n]?=some a:=by obtain⟨l,e,f⟩:=x.sub;rw[e,Z0 (Y9.mp h).1];exact h
def Ext.trans{w1:Wd}{H1:Hp}(x:Ext w H w1 H1)(y:Ext w1 H1 w2 H2)(fr:∀a∈w.st,∃o,H a=some o/\∃o',H1 a=some o'):Ext w H w2 H2:=by
 have hno:∀a,H1 a=none->H a=none:=λa z=>by
  cases e:H a with
  |none=>rfl
  |some o=>
   by_cases hw:a∈w.st
   .obtain⟨_,_,o',e'⟩:=fr a hw;rw[z]at e';cases e'
   .have:=x.keep a o e hw;rw[z]at this;cases this
 refine⟨λa o h n=>y.keep a o (x.keep a o h n) (x.out h n),?_,λa h=>y.hid a (x.hid a h),λa h=>(y.hnew a h).elim (x.hnew a) λz=>.inr (hno a z),λa o u h=>y.frz a o u (x.frz a o u h)⟩;obtain⟨l,e1,f⟩:=x.sub;obtain⟨l2,e2,f2⟩:=y.sub
 refine⟨l++l2,by rw[e2,e1];simp,λa ha=>?_⟩
 rcases Yy.mp ha with z|z
 .exact f a z
 .exact hno a (f2 a z)
section
variable{K:Frag}{w w':Wd}{H H':Hp}
mutual
theorem RD.ext(x:Ext w H w' H'):∀(d:D)(v:V),RD K w H d v->RD K w' H' d v
 |.non,_,h=>h
 |.bl _,_,h=>h
 |.int _,_,h=>h
 |.str _,_,h=>h
 |.tup ds,v,h=>by unfold RD at h ⊢;obtain⟨a,vs,e,p,r⟩:=h;exact⟨a,vs,e,p.imp x.at id,RDs.ext x ds vs r⟩
 |.lst ds,v,h=>by unfold RD at h ⊢;obtain⟨a,vs,e,p,r⟩:=h;exact⟨a,vs,e,x.at p,RDs.ext x ds vs r⟩
 |.fz ds,v,h=>by unfold RD at h ⊢;obtain⟨a,vs,e,p,r⟩:=h;exact⟨a,vs,e,p.imp (λ⟨o,z⟩=>⟨o,x.at z⟩) id,RDs.ext x ds vs r⟩
 |.dic kvs,v,h=>by unfold RD at h ⊢;obtain⟨a,us,e,p,r⟩:=h;exact⟨a,us,e,x.at p,RDk.ext x kvs us r⟩
 |.ref n,v,h=>by unfold RD at h ⊢;obtain⟨a,e,p⟩:=h;exact⟨a,e,x.get p⟩
 |.ty _,_,h=>h
 |.exc c f,v,h=>by unfold RD at h ⊢;obtain⟨a,C,o,e,q,p,z,y⟩:=h;exact⟨a,C,o,e,q,x.at p,z,y.imp λ_ _ p=>x.at p⟩
 |.cls _,_,h=>h
theorem RDs.ext(x:Ext w H w' H'):∀(ds:List D)(vs:List V),RDs K w H ds vs->RDs K w' H' ds vs
 |[],_,h=>h
 |d::ds,vs,h=>by unfold RDs at h ⊢;obtain⟨v,r,e,p,q⟩:=h;exact⟨v,r,e,RD.ext x d v p,RDs.ext x ds r q⟩
theorem RDk.ext(x:Ext w H w' H'):∀(ds:List (Sum Int Str×D))(vs:List (Key×V)),RDk K w H ds vs->RDk K w' H' ds vs
 |[],_,h=>h
 |(k,d)::ds,vs,h=>by unfold RDk at h ⊢;obtain⟨v,r,e,p,q⟩:=h;exact⟨v,r,e,RD.ext x d v p,RDk.ext x ds r q⟩
end
end
def RDf(K:Frag)(w:Wd)(H:Hp)(fs:List (Str×D))(us:List (Str×V)):Prop:=fs.map (·.1)=us.map (·.1)/\RDs K w H (fs.map (·.2)) (us.map (·.2))
def RO(K:Frag)(w:Wd)(H:Hp)(a:Addr):SO->Prop
 |.lst ds=>∃vs,H a=some (.lst vs)/\RDs K w H ds vs
 |.dic kvs=>∃us,H a=some (.dK us)/\RDk K w H kvs us
 |.fdic kvs=>∃o us,H a=some (.frz o (.dK us))/\RDk K w H kvs us
 |.ins c fs=>∃C dx us,nsIn K mainGlobals c=some (some (.ref C))/\H a=some (.ins C dx us)/\RDf K w H fs us
 |.flst ds=>∃o vs,H a=some (.frz o (.lst vs))/\RDs K w H ds vs
structure RS(K:Frag)(w:Wd)(H:Hp)(S:Sto):Prop where
 nd:w.st.Nodup
 len:w.st.length=S.length
 obj:∀(n:Nat)(o:SO),S[n]?=some o->∃a:Addr,w.st[n]?=some a/\RO K w H a o
 hid:∀a∈w.hid,a∉w.st/\∃o,H a=some o
section
variable{K:Frag}{w w':Wd}{H H':Hp}{S:Sto}
def RS.there(s:RS K w H S)(ha:a∈w.st):∃o,H a=some o:=by
 obtain⟨n,hn⟩:=List.mem_iff_getElem?.mp ha
 have hl:n<S.length:=by rw[<- s.len];exact(Y9.mp hn).1
 obtain⟨b,hb,r⟩:=s.obj n S[n] (Yk hl);rw[hn]at hb;cases hb;revert r;cases S[n] with
 |lst ds=>rintro⟨vs,e,_⟩;exact⟨_,e⟩
 |dic kvs=>rintro⟨vs,e,_⟩;exact⟨_,e⟩
 |fdic kvs=>rintro⟨o,vs,e,_⟩;exact⟨_,e⟩
 |ins c fs=>rintro⟨C,dx,us,_,e,_⟩;exact⟨_,e⟩
 |flst ds=>rintro⟨o,vs,e,_⟩;exact⟨_,e⟩
def RS.freshS(s:RS K w H S)(h:H a=none):a∉w.st:=λz=>by obtain⟨o,e⟩:=s.there z;rw[h]at e;cases e
def RS.fresh(s:RS K w H S)(h:H a=none):w.no a:=⟨s.freshS h,λz=>by
 obtain⟨_,o,e⟩:=s.hid a z
 rw[h]at e;cases e⟩
def Ext.trans'{w1:Wd}{H1:Hp}{S1:Sto}(x:Ext w H w1 H1)(y:Ext w1 H1 w2 H2)(s:RS K w H S)(s1:RS K w1 H1 S1):Ext w H w2 H2:=
 x.trans y λa ha=>by
  obtain⟨o,e⟩:=s.there ha;obtain⟨l,el,_⟩:=x.sub
  obtain⟨o',e'⟩:=s1.there (a:=a) (by rw[el];exact Zs _ ha)
  exact⟨o,e,o',e'⟩
def Ext.new(hp:H p=none):Ext w H w (upd H p o):=
 ⟨λa u e _=>by rw[aN (aR e hp)];exact e,⟨[],by simp,λ_ z=>nomatch z⟩,λ_ h=>h,λ_ h=>.inl h,λa o u e=>by rw[aN (aR e hp)];exact e⟩
theorem RO.ext(x:Ext w H w' H'){o:SO}(hk:∀u,H a=some u->H' a=some u)(r:RO K w H a o):RO K w' H' a o:=by
 cases o with
 |lst ds=>obtain⟨vs,e,q⟩:=r;exact⟨vs,hk _ e,RDs.ext x _ _ q⟩
 |dic kvs=>obtain⟨vs,e,q⟩:=r;exact⟨vs,hk _ e,RDk.ext x _ _ q⟩
 |fdic kvs=>obtain⟨o,vs,e,q⟩:=r;exact⟨o,vs,hk _ e,RDk.ext x _ _ q⟩
 |ins c fs=>obtain⟨C,dx,us,n,e,q1,q2⟩:=r;exact⟨C,dx,us,n,hk _ e,q1,RDs.ext x _ _ q2⟩
 |flst ds=>obtain⟨o,vs,e,q⟩:=r;exact⟨o,vs,hk _ e,RDs.ext x _ _ q⟩
theorem RS.new(s:RS K w H S)(hp:H p=none):RS K w (upd H p o) S:=
  ⟨s.nd,s.len,λn so e=>by
    obtain⟨a,ha,r⟩:=s.obj n so e
    exact⟨a,ha,r.ext (Ext.new hp) λu q=>by rw[aN (aR q hp)];exact q⟩,
   λa ha=>by
    obtain⟨h1,u,e⟩:=s.hid a ha
    exact⟨h1,u,by rw[aN (aR e hp)];exact e⟩⟩
def Ext.alloc(hp:H p=none):Ext w H (w.add p) (upd H p o):=
 ⟨λa u e _=>by rw[aN (aR e hp)];exact e,⟨[p],rfl,λa ha=>by
  have:a=p:=by simpa using ha
  subst this;exact hp⟩,λ_ h=>h,λ_ h=>.inl h,λa o u e=>by rw[aN (aR e hp)];exact e⟩
theorem RS.alloc{so:SO}(s:RS K w H S)(hp:H p=none)(r:RO K (w.add p) (upd H p o) p so):RS K (w.add p) (upd H p o) (S++[so]):=by
 have np:=s.freshS hp
 refine⟨?_,by simp[Wd.add,s.len],λn so' e=>?_,λa ha=>?_⟩
 .show(w.st++[p]).Nodup;rw[List.nodup_append]
  exact⟨s.nd,by simp,λa ha b hb=>by
   have:b=p:=by simpa using hb
   subst this;rintro rfl
   exact np ha⟩
 .by_cases hn:n<S.length
  .rw[Z0 hn]at e;obtain⟨a,ha,q⟩:=s.obj n so' e
   exact⟨a,(Ext.alloc (o:=o) hp).get ha,q.ext (Ext.alloc hp) λu z=>by rw[aN (aR z hp)];exact z⟩
  .have hn':n=S.length:=by have:=(Y9.mp e).1;simp at this;omega
   subst hn';simp at e;subst e
   exact⟨p,by show(w.st++[p])[S.length]?=some p;rw[<- s.len];simp,r⟩
 .obtain⟨h1,u,e⟩:=s.hid a ha
  refine⟨?_,u,by rw[aN (aR e hp)];exact e⟩
  show a∉w.st++[p];intro z;rcases Yy.mp z with z|z
  .exact h1 z
  .have:a=p:=by simpa using z
   subst this;rw[hp]at e;cases e
def Ext.mut{u0:HO}(hp:p∈w.st)(h0:H p=some u0)(hu:autoParam (∀o u,u0≠.frz o u) zz8._auto_1):Ext w H w (upd H p o):=
 ⟨λa u e n=>by rw[aN (λz:a=p=>n (z▸hp))];exact e,⟨[],by simp,λ_ z=>nomatch z⟩,λ_ h=>h,λ_ h=>.inl h,λa o u e=>by rw[aN (λz:a=p=>by rw[z,h0]at e;exact hu o u (Za e))];exact e⟩
theorem RS.mut{so:SO}(s:RS K w H S)(hp:w.st[n]?=some p){u0:HO}(h0:H p=some u0)(r:RO K w (upd H p o) p so)(hu:autoParam (∀o u,u0≠.frz o u) zz8._auto_1):RS K w (upd H p o) (S.set n so):=by
 have hm:p∈w.st:=Zh hp
 refine⟨s.nd,by simp[s.len],λm so' e=>?_,λa ha=>?_⟩
 .by_cases hn:m=n
  .subst hn
   have hl:m<S.length:=by rw[<- s.len];exact(Y9.mp hp).1
   rw[Z4 hl]at e;cases e;exact⟨p,hp,r⟩
  .rw[Z3 (Ne.symm hn)]at e;obtain⟨a,ha,q⟩:=s.obj m so' e;refine⟨a,ha,q.ext (Ext.mut hm h0 hu) λu z=>?_⟩
   have:a≠p:=λz=>by subst z;obtain⟨h1,e1⟩:=Y9.mp ha;obtain⟨h2,e2⟩:=Y9.mp hp;exact hn ((List.getElem_inj s.nd).mp (e1.trans e2.symm))
   rw[aN this];exact z
 .obtain⟨h1,u,e⟩:=s.hid a ha
  exact⟨h1,u,by rw[aN (λz:a=p=>h1 (z▸hm))];exact e⟩
end
def RSt(K:Frag)(w:Wd)(H:Hp)(r:Rho)(s:L2.St):Prop:=
 s.length=r.length/\∀(i:Nat)(d:D),r[i]?=some (some d)->∃v,s[i]?=some (some v)/\RD K w H d v
theorem RSt.ext{K:Frag}{s:L2.St}(h:RSt K w H r s)(x:Ext w H w' H'):RSt K w' H' r s:=
 ⟨h.1,λi d e=>let ⟨v,e1,q⟩:=h.2 i d e;⟨v,e1,RD.ext x d v q⟩⟩
theorem RSt.set{K:Frag}{s:L2.St}(h:RSt K w H r s)(i:Nat){d:D}{v:V}(q:RD K w H d v):RSt K w H (r.set i (some d)) (s.set i (some v)):=by
 refine⟨by simp[h.1],λj d' e=>?_⟩
 by_cases hj:j=i
 .subst hj
  have hl:j<r.length:=by have:=(Y9.mp e).1;simpa using this
  rw[Z4 hl]at e;cases e
  exact⟨v,Z4 (by rw[h.1];exact hl),q⟩
 .rw[Z3 (Ne.symm hj)]at e;obtain⟨v',e',q'⟩:=h.2 j d' e
  exact⟨v',by rw[Z3 (Ne.symm hj)];exact e',q'⟩
section
variable{K:Frag}{w:Wd}{H:Hp}
def RDs.nil:RDs K w H [] []:=by unfold RDs;rfl
def RDs.cons{d:D}{v:V}{ds:List D}{vs:List V}(r:RD K w H d v)(q:RDs K w H ds vs):RDs K w H (d::ds) (v::vs):=by unfold RDs;exact⟨v,vs,rfl,r,q⟩
def RDs.nil_inv{vs:List V}(h:RDs K w H [] vs):vs=[]:=by unfold RDs at h;exact h
def RDs.cons_inv{d:D}{ds:List D}{vs:List V}(h:RDs K w H (d::ds) vs):∃v r,vs=v::r/\RD K w H d v/\RDs K w H ds r:=by unfold RDs at h;exact h
def RDs.one_inv{d:D}{vs:List V}(h:RDs K w H [d] vs):∃v,vs=[v]/\RD K w H d v:=by obtain⟨v,r,rfl,h1,h2⟩:=h.cons_inv;rw[h2.nil_inv];exact⟨v,rfl,h1⟩
def RDs.two_inv{d e:D}{vs:List V}(h:RDs K w H [d,e] vs):∃v u,vs=[v,u]/\RD K w H d v/\RD K w H e u:=by obtain⟨v,r,rfl,h1,h2⟩:=h.cons_inv;obtain⟨u,rfl,h3⟩:=h2.one_inv;exact⟨v,u,rfl,h1,h3⟩
theorem RDs.length:∀{ds:List D}{vs:List V},RDs K w H ds vs->vs.length=ds.length
 |[],_,h=>by rw[h.nil_inv];rfl
 |_::_,_,h=>by obtain⟨v,r,rfl,_,q⟩:=h.cons_inv;simp[q.length]
theorem RDs.get:∀{ds:List D}{vs:List V}{i:Nat}{d:D},RDs K w H ds vs->ds[i]?=some d->∃v,vs[i]?=some v/\RD K w H d v
 |[],_,_,_,_,e=>by simp at e
 |_::_,_,0,_,h,e=>by obtain⟨v,r,rfl,p,_⟩:=h.cons_inv;simp at e;subst e;exact⟨v,rfl,p⟩
 |_::ds,_,i+1,d,h,e=>by
  obtain⟨v,r,rfl,_,q⟩:=h.cons_inv
  obtain⟨u,e1,q1⟩:=q.get (i:=i) (d:=d) (by simpa using e)
  exact⟨u,by simpa using e1,q1⟩
theorem RDs.append:∀{ds es:List D}{vs us:List V},RDs K w H ds vs->RDs K w H es us->RDs K w H (ds++es) (vs++us)
 |[],_,_,_,h,q=>by rw[h.nil_inv];exact q
 |_::_,_,_,_,h,q=>by obtain⟨v,r,rfl,p,t⟩:=h.cons_inv;exact .cons p (t.append q)
theorem RDs.take:∀{ds:List D}{vs:List V}(n:Nat),RDs K w H ds vs->RDs K w H (ds.take n) (vs.take n)
 |_,_,0,_=>by simp;exact .nil
 |[],_,_+1,h=>by rw[h.nil_inv];simp;exact .nil
 |_::_,_,n+1,h=>by obtain⟨v,r,rfl,p,t⟩:=h.cons_inv;exact .cons p (t.take n)
theorem RDs.drop:∀{ds:List D}{vs:List V}(n:Nat),RDs K w H ds vs->RDs K w H (ds.drop n) (vs.drop n)
 |_,_,0,h=>h
 |[],_,_+1,h=>by rw[h.nil_inv];simp;exact .nil
 |_::_,_,n+1,h=>by obtain⟨v,r,rfl,_,t⟩:=h.cons_inv;exact t.drop n
theorem RDs.set{d:D}{v:V}(r:RD K w H d v):∀{ds:List D}{vs:List V}(i:Nat),RDs K w H ds vs->RDs K w H (ds.set i d) (vs.set i v)
 |[],_,_,h=>by rw[h.nil_inv];exact .nil
 |_::_,_,0,h=>by obtain⟨_,_,rfl,_,t⟩:=h.cons_inv;exact .cons r t
 |_::_,_,i+1,h=>by obtain⟨_,_,rfl,p,t⟩:=h.cons_inv;exact .cons p (RDs.set r i t)
end
def RX(K:Frag)(w:Wd)(H:Hp)(x:XD)(c:Value)(da:Option Addr):Prop:=nsIn K mainGlobals x.cls=some (some c)/\uy w H x.fld da
def aD{A B:Type}(K:Frag)(E:XK)(rel:Wd->Hp->A->B->Prop)(w:Wd)(H:Hp)(r:R A)(Q:B->Hp->Prop):Prop:=match r with
 |.ok a S'=>∀w' H' b,Ext w H w' H'->rel w' H' a b->RS K w' H' S'->Q b H'
 |.err x S'=>∀w' H' c da,Ext w H w' H'->RS K w' H' S'->RX K w' H' x c da->E c da H'
 |.bad=>False
section
variable{A B A2 B2:Type}{K:Frag}{E:XK}{rel:Wd->Hp->A->B->Prop}{rel2:Wd->Hp->A2->B2->Prop}{w w1:Wd}{H H1:Hp}{S S1:Sto}
def aD.ext{r:R A}{Q:B->Hp->Prop}(h:aD K E rel w H r Q)(x:Ext w H w1 H1)(s:RS K w H S)(s1:RS K w1 H1 S1):aD K E rel w1 H1 r Q:=by
 cases r with
 |ok a S'=>exact λw' H' b y q t=>h w' H' b (x.trans' y s s1) q t
 |err e S'=>exact λw' H' c da y t q=>h w' H' c da (x.trans' y s s1) t q
 |bad=>exact h
theorem aD.bind{r:R A}{f:A->Sto->R A2}{Q':B->Hp->Prop}{Q:B2->Hp->Prop}(h:aD K E rel2 w H (r.bind f) Q)(s:RS K w H S)
  (k:∀a S1 w1 H1 b,Ext w H w1 H1->rel w1 H1 a b->RS K w1 H1 S1->aD K E rel2 w1 H1 (f a S1) Q->Q' b H1):aD K E rel w H r Q':=by
 cases r with
 |ok a S'=>exact λw1 H1 b x q s1=>k a S' w1 H1 b x q s1 (aD.ext (r:=f a S') h x s s1)
 |err e S'=>exact h
 |bad=>exact h
theorem aD.bindAt{w0:Wd}{H0:Hp}{S0:Sto}{r:R A}{f:A->Sto->R A2}{Q':B->Hp->Prop}{Q:B2->Hp->Prop}(h:aD K E rel2 w0 H0 (r.bind f) Q)(x:Ext w0 H0 w H)(s0:RS K w0 H0 S0)(s:RS K w H S)
  (k:∀a S1 w1 H1 b,Ext w H w1 H1->rel w1 H1 a b->RS K w1 H1 S1->aD K E rel2 w0 H0 (f a S1) Q->Q' b H1):aD K E rel w H r Q':=by
 cases r with
 |ok a S'=>exact λw1 H1 b y q s1=>k a S' w1 H1 b y q s1 h
 |err e S'=>exact λw' H' c da y t q=>h w' H' c da (x.trans' y s0 s) t q
 |bad=>exact h
def aD.ret{a:A}{b:B}{Q:B->Hp->Prop}(h:aD K E rel w H (.ok a S) Q)(q:rel w H a b)(s:RS K w H S):Q b H:=h w H b (Ext.refl w H) q s
def aD.at{a:A}{b:B}{Q:B->Hp->Prop}(h:aD K E rel w H (.ok a S) Q)(x:Ext w H w1 H1)(q:rel w1 H1 a b)(s:RS K w1 H1 S):Q b H1:=h w1 H1 b x q s
theorem aD.of{o:Option A}{Q:B->Hp->Prop}(h:aD K E rel w H (R.of S o) Q):∃a,o=some a/\aD K E rel w H (.ok a S) Q:=by
 cases o with
 |some a=>exact⟨a,rfl,h⟩
 |none=>exact h.elim
end
set_option genInjectivity false in
inductive FV where
 |nx (s:L2.St)|rt (v:V)|bk (s:L2.St)|ct (s:L2.St)
def FV.to(D:Ends):FV->Hp->Prop
 |.nx s,H=>D.nx s H
 |.rt v,H=>D.rt v H
 |.bk s,H=>D.bk s H
 |.ct s,H=>D.ct s H
def RF(K:Frag)(w:Wd)(H:Hp):F->FV->Prop
 |.nx r,f=>∃s,f=.nx s/\RSt K w H r s
 |.rt d,f=>∃v,f=.rt v/\RD K w H d v
 |.bk r,f=>∃s,f=.bk s/\RSt K w H r s
 |.ct r,f=>∃s,f=.ct s/\RSt K w H r s
def RB(w:Wd)(H:Hp)(a b:Bool):Prop:=b=a
def uE(K:Frag)(E:XK)(m:EM):TE:=λs H Q=>∃w r S,RSt K w H r s/\RS K w H S/\aD K E (RD K) w H (m r S) Q
def uT(K:Frag)(E:XK)(m:TM):TT:=λs H Q=>∃w r S,RSt K w H r s/\RS K w H S/\aD K E RB w H (m r S) Q
def uA(K:Frag)(E:XK)(m:AM):TA:=λs H Q=>∃w r S,RSt K w H r s/\RS K w H S/\aD K E (RDs K) w H (m r S) Q
def uS(K:Frag)(E:XK)(m:SM):TS:=λD s H=>∃w r S,RSt K w H r s/\RS K w H S/\aD K E (RF K) w H (m r S) (FV.to D)
def ex6{K:Frag}{s:L2.St}{c:Wd->Rho->Sto->Prop}{P:Prop}(z:∃w r S,RSt K w H r s/\RS K w H S/\c w r S)(f:∀w r S,RSt K w H r s->RS K w H S->c w r S->P):P:=by obtain⟨w,r,S,x,y,z⟩:=z;exact f w r S x y z
theorem ex8.{u} {α:Type u} {a:Wd->Rho->Prop} {b:Wd->Rho->α->Rho->Prop} {c:Wd->Rho->α->Rho->Prop} {d:Wd->Rho->α->Rho->Prop} {P:Prop} (z:∃w r e r',a w r/\b w r e r'/\c w r e r'/\d w r e r') (f:∀w r e r',a w r->b w r e r'->c w r e r'->d w r e r'->P):P:=by obtain⟨w,r,e,r',x,y,z,t⟩:=z;exact f w r e r' x y z t
structure Bx(p:Prop):Prop where
 out:p
abbrev SE(X:Cx)(E:XK)(e:Expr)(m:EM):Prop:=Bx (PE X e (uE X.K E m))
abbrev ST(X:Cx)(E:XK)(e:Expr)(m:TM):Prop:=Bx (PT X e (uT X.K E m))
abbrev SW(X:Cx)(E:XK)(e:Expr)(m:TM):Prop:=Bx (PW X e (uT X.K E m))
abbrev SA(X:Cx)(E:XK)(es:List Expr)(m:AM):Prop:=Bx (PA X es (uA X.K E m))
abbrev SS(X:Cx)(E:XK)(st:Stmt)(m:SM):Prop:=Bx (PS X st (uS X.K E m))
abbrev SSs(X:Cx)(E:XK)(st:List Stmt)(m:SM):Prop:=Bx (PSs X st (uS X.K E m))
def bb{t t':TE}(h:PE X e t)(k:∀s H Q,t' s H Q->t s H Q):PE X e t':=λpins s σ H Q I q=>h pins s σ H Q I (k σ H Q q)
def sv{t':TT}(h:PT X e t)(k:∀s H Q,t' s H Q->t s H Q):PT X e t':=λpins s σ H Q I q=>h pins s σ H Q I (k σ H Q q)
def yg{t':TT}(h:PW X e t)(k:∀s H Q,t' s H Q->t s H Q):PW X e t':=λwh pins s σ H Q I q=>h wh pins s σ H Q I (k σ H Q q)
def yh{e:List Expr}{t t':TA}(h:PA X e t)(k:∀s H Q,t' s H Q->t s H Q):PA X e t':=λp pins s σ H Q I q=>h p pins s σ H Q I (k σ H Q q)
def ez{e:Stmt}{t t':TS}(h:PS X e t)(k:∀D s H,t' D s H->t D s H):PS X e t':=λpins s σ H Q I q=>h pins s σ H Q I (k Q σ H q)
def uz{e:List Stmt}{t t':TS}(h:PSs X e t)(k:∀D s H,t' D s H->t D s H):PSs X e t':=λpins s σ H Q I q=>h pins s σ H Q I (k Q σ H q)
section
variable{X:Cx}{E:XK}{a b c:Expr}{ma mb mc:EM}{pos:Pos}
def Bh(i:Nat){pos:Pos}(hN:autoParam (X.N[i]?=some x) zz0._auto_1)(hv:Vis X.env.scope x)(hd:autoParam ((x == ("__debug__":Str))=false) zz3._auto_1)
  (hcd:autoParam ((x == ("__classdict__":Str))=false) zz3._auto_1):SE X E (.Name x pos) (ae i):=⟨
 bb (pv i hN hv hd hcd) λs H Q zq=>ex6 zq λw r S hr hS hp=>by
  unfold ae at hp;split at hp
  .rename_i d e;obtain⟨v,e',q⟩:=hr.2 i d e;exact⟨v,e',hp.ret q hS⟩
  .exact hp.elim⟩
def sx{v:V}{d:D}(h:PE X e (tC v))(q:∀w H,RD X.K w H d v):SE X E e (eC d):=⟨
 bb h λs H Q zq=>ex6 zq λw r S hr hS hp=>hp.ret (q w H) hS⟩
def ay{i j pos}:SE X E (.Constant (.int i) j pos) (eC (.int i)):=sx FF λ_ _=>by unfold RD;rfl
def uB{i j pos}:SE X E (.Constant (.bool i) j pos) (eC (.bl i)):=sx Iv λ_ _=>by unfold RD;rfl
def kn{j pos}:SE X E (.Constant .none j pos) (eC .non):=sx FG λ_ _=>by unfold RD;rfl
def ba{i j pos}:SE X E (.Constant (.str i) j pos) (eC (.str i)):=sx FH λ_ _=>by unfold RD;rfl
def DE{t:Tok}{pos:Pos}(hg:Gl X x)(hm:X.mg x=some (.int i t))(hd:autoParam ((x == ("__debug__":Str))=false) zz3._auto_1):SE X E (.Name x pos) (eC (.int i)):=
 sx (iG hg hm (v:=.int i) ⟨t,rfl⟩ hd) λ_ _=>by unfold RD;rfl
def uC{pos:Pos}(hg:Gl X x)(hm:X.mg x=none)(hv:bootBuiltins x=some (.type T))(hn:autoParam (x ≠ "__name__") zz3._auto_1)(hd:autoParam ((x == ("__debug__":Str))=false) zz3._auto_1):SE X E (.Name x pos) (eC (.ty T)):=
 sx (C7 hg hm hv (v:=.ty T) rfl hn hd) λ_ _=>by unfold RD;rfl
def xO(K:Frag)(E:XK)(f:Sto->D->D->Option D):R2:=λx y H Q=>∃w S d e,RS K w H S/\RD K w H d x/\RD K w H e y/\aD K E (RD K) w H (R.of S (f S d e)) Q
def xU(K:Frag)(E:XK)(f:Sto->D->Option D):V->Hp->VK->Prop:=λx H Q=>∃w S d,RS K w H S/\RD K w H d x/\aD K E (RD K) w H (R.of S (f S d)) Q
def xC(K:Frag)(E:XK)(f:Sto->List D->Option D):List V->Hp->VK->Prop:=λxs H Q=>∃w S ds,RS K w H S/\RDs K w H ds xs/\aD K E (RD K) w H (R.of S (f S ds)) Q
def aJ{op:Operator}{f:Sto->D->D->Option D}(ho:OpR X (binaryOp op) (xO X.K E f))(ha:SE X E a ma)(hb:SE X E b mb):SE X E (.BinOp a op b pos) (eOp f ma mb):=⟨
 bb (IH ho ha.out hb.out) λs H Q zq=>ex6 zq λw r S hr hS hp=>⟨w,r,S,hr,hS,hp.bind hS λd S1 w1 H1 v x1 q1 s1 p1=>
  ⟨w1,r,S1,hr.ext x1,s1,p1.bind s1 λe S2 w2 H2 u x2 q2 s2 p2=>⟨w2,S2,d,e,s2,RD.ext x2 d v q1,q2,p2⟩⟩⟩⟩
def Fe{op:UnaryOp}{f:Sto->D->Option D}(ho:UnR X (unaryOp op) (xU X.K E f))(ha:SE X E a ma):SE X E (.UnaryOp op a pos) (eUn f ma):=⟨
 bb (II ho ha.out) λs H Q zq=>ex6 zq λw r S hr hS hp=>⟨w,r,S,hr,hS,hp.bind hS λd S1 w1 H1 v x1 q1 s1 p1=>⟨w1,S1,d,s1,q1,p1⟩⟩⟩
def iJ{f:Sto->D->D->Option D}(ho:OpR X (compareOp op) (xO X.K E f))(ha:SE X E a ma)(hb:SE X E b mb)(hm:autoParam (behindInMarks op b=false) zz9._auto_1):
  SE X E (.Compare a [op] [b] pos) (eOp f ma mb):=⟨
 bb (yc ho ha.out hb.out hm) λs H Q zq=>ex6 zq λw r S hr hS hp=>⟨w,r,S,hr,hS,hp.bind hS λd S1 w1 H1 v x1 q1 s1 p1=>
  ⟨w1,r,S1,hr.ext x1,s1,p1.bind s1 λe S2 w2 H2 u x2 q2 s2 p2=>⟨w2,S2,d,e,s2,RD.ext x2 d v q1,q2,p2⟩⟩⟩⟩
theorem uD{op':CmpOp}{f g:Sto->D->D->Option D}(ho:OpR X (compareOp op) (xO X.K E f))(ho':OpR X (compareOp op') (xO X.K E g))(ha:SE X E a ma)(hb:SE X E b mb)(hc:SE X E c mc)
  (hm:autoParam (lastMarks [op,op'] [b,c]=false) zz0._auto_1):SE X E (.Compare a [op,op'] [b,c] pos) (g6 f g ma mb mc):=⟨
 bb (AW ho ho' ha.out hb.out hc.out hm) λs H Q zq=>ex6 zq λw r S hr hS hp=>⟨w,r,S,hr,hS,hp.bind hS λd S1 w1 H1 v x1 q1 s1 p1=>
  ⟨w1,r,S1,hr.ext x1,s1,p1.bind s1 λe S2 w2 H2 u x2 q2 s2 p2=>by
   refine⟨w2,S2,d,e,s2,RD.ext x2 d v q1,q2,?_⟩;cases hf:f S2 d e with
   |none=>rw[hf]at p2;exact p2.elim
   |some z=>
    rw[hf]at p2;intro w3 H3 z' x3 q3 s3;cases z with
    |bl k=>
     unfold RD at q3;subst q3;refine⟨k,rfl,?_⟩;cases k with
     |true=>
      refine qf ⟨w3,r,S2,((hr.ext x1).ext x2).ext x3,s3,?_⟩;have p3:=aD.ext p2 x3 s2 s3;refine p3.bind s3 λt S4 w4 H4 u' x4 q4 s4 p4=>⟨w4,S4,e,t,s4,RD.ext x4 e u (RD.ext x3 e u q2),q4,p4⟩
     |false=>exact qc (aD.at p2 x3 (by unfold RD;rfl) s3)
    |_=>exact p2.elim⟩⟩⟩
def mf{op}(h:SE X E a ma):SE X E (.BoolOp op [a] pos) ma:=⟨AJ h.out⟩
def mi(ha:SE X E a ma)(hb:SE X E (.BoolOp .And (b::rest) pos) mb):SE X E (.BoolOp .And (a::b::rest) pos) (kY ma mb):=⟨
 bb (FN ha.out hb.out) λs H Q zq=>ex6 zq λw r S hr hS hp=>⟨w,r,S,hr,hS,hp.bind hS λd S1 w1 H1 v x1 q1 s1 p1=>by
  cases d with
  |bl k=>
   unfold RD at q1;subst q1;refine⟨k,rfl,?_⟩;cases k with
   |true=>exact qf ⟨w1,r,S1,hr.ext x1,s1,p1⟩
   |false=>exact qc (aD.ret p1 (by unfold RD;rfl) s1)
  |_=>exact p1.elim⟩⟩
def Jj(ha:SE X E a ma)(hb:SE X E (.BoolOp .Or (b::rest) pos) mb):SE X E (.BoolOp .Or (a::b::rest) pos) (eOr ma mb):=⟨
 bb (IA ha.out hb.out) λs H Q zq=>ex6 zq λw r S hr hS hp=>⟨w,r,S,hr,hS,hp.bind hS λd S1 w1 H1 v x1 q1 s1 p1=>by
  cases d with
  |bl k=>
   unfold RD at q1;subst q1;refine⟨k,rfl,?_⟩;cases k with
   |false=>exact qc ⟨w1,r,S1,hr.ext x1,s1,p1⟩
   |true=>exact qf (aD.ret p1 (by unfold RD;rfl) s1)
  |_=>exact p1.elim⟩⟩
def GO(ha:SE X E a ma):SE X E (.UnaryOp .Not a pos) (GL ma):=⟨
 bb (FO ha.out) λs H Q zq=>ex6 zq λw r S hr hS hp=>⟨w,r,S,hr,hS,hp.bind hS λd S1 w1 H1 v x1 q1 s1 p1=>by
  cases d with
  |bl k=>
   unfold RD at q1;subst q1
   exact⟨k,rfl,aD.ret p1 (by unfold RD;rfl) s1⟩
  |_=>exact p1.elim⟩⟩
def mZ(hc:ST X E c mt)(ha:SE X E a ma)(hb:SE X E b mb):SE X E (.IfExp c a b pos) (eIf mt ma mb):=⟨
 bb (AK hc.out ha.out hb.out) λs H Q zq=>ex6 zq λw r S hr hS hp=>⟨w,r,S,hr,hS,hp.bind hS λk S1 w1 H1 v x1 q1 s1 p1=>by
  have e:v=k:=q1;subst e;cases v with
  |true=>exact qf ⟨w1,r,S1,hr.ext x1,s1,p1⟩
  |false=>exact qc ⟨w1,r,S1,hr.ext x1,s1,p1⟩⟩⟩
def Ff{s:L2.St}{Q:Bool->Hp->Prop}(h:uT X.K E (tV ma) s H Q):uE X.K E ma s H λx H1=>∃k,x=.bl k/\Q k H1:=by
 obtain⟨w,r,S,hr,hS,hp⟩:=h
 exact⟨w,r,S,hr,hS,hp.bind hS λd S1 w1 H1 v x1 q1 s1 p1=>by
  cases d with
  |bl k=>
   unfold RD at q1;exact⟨k,q1,aD.ret p1 rfl s1⟩
  |_=>exact p1.elim⟩
def fN(h:SE X E a ma)(he:autoParam (∀whole,isTrue a X.env whole=(do let v <- whole;standAt a.pos;holding [v] (truthy v))) zz4._auto_1):ST X E a (tV ma):=⟨
 sv (FI h.out he) λs H Q q=>Ff q⟩
def bC{f:Sto->D->D->Option D}(ho:OpR X (compareOp op) (xO X.K E f))(ha:SE X E a ma)(hb:SE X E b mb)(hm:autoParam (behindInMarks op b=false) zz9._auto_1):
  ST X E (.Compare a [op] [b] pos) (tV (eOp f ma mb)):=⟨
 sv (Dk ho ha.out hb.out hm) λs H Q q=>by
  obtain⟨w,r,S,hr,hS,hp⟩:=Ff q
  exact⟨w,r,S,hr,hS,hp.bind hS λd S1 w1 H1 v x1 q1 s1 p1=>
   ⟨w1,r,S1,hr.ext x1,s1,p1.bind s1 λe S2 w2 H2 u x2 q2 s2 p2=>⟨w2,S2,d,e,s2,RD.ext x2 d v q1,q2,p2⟩⟩⟩⟩
def DF(ha:ST X E a mt):SW X E (.BoolOp .And [a] pos) mt:=⟨C8 ha.out⟩
def Bi(ha:ST X E a mt):SW X E (.BoolOp .Or [a] pos) mt:=⟨FJ ha.out⟩
def GP{mu:TM}(ha:ST X E a mt)(hb:SW X E (.BoolOp .And (b::rest) pos) mu):SW X E (.BoolOp .And (a::b::rest) pos) (PD.ot mt mu):=⟨
 yg (FK ha.out hb.out) λs H Q zq=>ex6 zq λw r S hr hS hp=>⟨w,r,S,hr,hS,hp.bind hS λk S1 w1 H1 v x1 q1 s1 p1=>by
  have e:v=k:=q1;subst e;cases v with
  |true=>exact qf ⟨w1,r,S1,hr.ext x1,s1,p1⟩
  |false=>exact qc (aD.ret p1 rfl s1)⟩⟩
def Fg{mu:TM}(ha:ST X E a mt)(hb:SW X E (.BoolOp .Or (b::rest) pos) mu):SW X E (.BoolOp .Or (a::b::rest) pos) (PD.tOr mt mu):=⟨
 yg (Iw ha.out hb.out) λs H Q zq=>ex6 zq λw r S hr hS hp=>⟨w,r,S,hr,hS,hp.bind hS λk S1 w1 H1 v x1 q1 s1 p1=>by
  have e:v=k:=q1;subst e;cases v with
  |false=>exact qc ⟨w1,r,S1,hr.ext x1,s1,p1⟩
  |true=>exact qf (aD.ret p1 rfl s1)⟩⟩
def Bj(h:SW X E a mt):ST X E a mt:=⟨PW.pt h.out⟩
def ko(ha:ST X E a mt):ST X E (.UnaryOp .Not a pos) (PD.je mt):=⟨
 sv (FL ha.out) λs H Q zq=>ex6 zq λw r S hr hS hp=>⟨w,r,S,hr,hS,hp.bind hS λk S1 w1 H1 v x1 q1 s1 p1=>by
  have e:v=k:=q1;subst e
  exact aD.ret p1 rfl s1⟩⟩
def aj:SA X E [] ak:=⟨yh A0 λs H Q zq=>ex6 zq λw r S hr hS hp=>aD.ret hp RDs.nil hS⟩
def ah(ha:SE X E a ma)(hrr:SA X E es ms)(hs:autoParam (starEach (a::es) X.env=(false,eval a X.env)::starEach es X.env) zz0._auto_1):SA X E (a::es) (af ma ms):=⟨
 yh (yd ha.out hrr.out hs) λs H Q zq=>ex6 zq λw r S hr hS hp=>⟨w,r,S,hr,hS,hp.bind hS λd S1 w1 H1 v x1 q1 s1 p1=>
  ⟨w1,r,S1,hr.ext x1,s1,p1.bind s1 λe S2 w2 H2 u x2 q2 s2 p2=>aD.ret p2 (RDs.cons (RD.ext x2 d v q1) q2) s2⟩⟩⟩
def iK{k}(h:SA X E es ms):SE X E (.Tuple es k pos) (g7 ms):=⟨
 bb (Gx h.out) λs H Q zq=>ex6 zq λw r S hr hS hp=>⟨w,r,S,hr,hS,hp.bind hS λds S1 w1 H1 vs x1 q1 s1 p1=>by
  by_cases hl:ds.length<=sizeLine
  .rw[Y8 hl]at p1
   refine⟨by rw[q1.length];exact hl,λp hp=>?_⟩
   exact aD.at p1 (Ext.new hp) (by unfold RD;exact⟨p,vs,rfl,.inl ⟨aP,s1.fresh hp⟩,RDs.ext (Ext.new hp) _ _ q1⟩) (s1.new hp)
  .rw[Yi hl]at p1;exact p1.elim⟩⟩
def mj(h:SA X E es ms):SE X E (.List es pos) (ik ms):=⟨
 bb (A1 h.out) λs H Q zq=>ex6 zq λw r S hr hS hp=>⟨w,r,S,hr,hS,hp.bind hS λds S1 w1 H1 vs x1 q1 s1 p1=>by
  by_cases hl:ds.length<=sizeLine
  .rw[Y8 hl]at p1
   refine⟨by rw[q1.length];exact hl,λp hp=>?_⟩
   exact aD.at p1 (Ext.new hp) (by unfold RD;exact⟨p,vs,rfl,⟨aP,s1.fresh hp⟩,RDs.ext (Ext.new hp) _ _ q1⟩) (s1.new hp)
  .rw[Yi hl]at p1;exact p1.elim⟩⟩
def RS.lastRef{K:Frag}(s:RS K w H S):RD K (w.add p) H' (.ref S.length) (.ref p):=by
 unfold RD
 exact⟨p,rfl,by show(w.st++[p])[S.length]?=some p;rw[<- s.len];simp⟩
def oE(h:SA X E es ms):SE X E (.List es pos) (eNew ms):=⟨
 bb (A1 h.out) λs H Q zq=>ex6 zq λw r S hr hS hp=>⟨w,r,S,hr,hS,hp.bind hS λds S1 w1 H1 vs x1 q1 s1 p1=>by
  by_cases hl:ds.length<=sizeLine
  .rw[Y8 hl]at p1
   refine⟨by rw[q1.length];exact hl,λp hp=>?_⟩
   exact aD.at p1 (Ext.alloc hp) s1.lastRef (s1.alloc hp ⟨vs,aP,RDs.ext (Ext.alloc hp) _ _ q1⟩)
  .rw[Yi hl]at p1;exact p1.elim⟩⟩
def spM(K:Frag)(n:Nat)(f:FM):Sp:=λvs H Q E=>vs.length=n/\∃w S ds,RS K w H S/\RDs K w H ds vs/\aD K E (RD K) w H (f ds S) Q
variable{CX:CXT}{k n:Nat}{fa:Addr}{fd:FuncData}{ps:List Str}{f:FM}{x:Str}{p:Pos}{es:List Expr}{ms:AM}
def aL{id:String}{f:Sto->List D->Option D}(hc:bI X (.builtin id) (xC X.K E f))(hg:Gl X x)(hm:X.mg x=none)(hv:bootBuiltins x=some (.builtin id))(ha:SA X E (a::es) ms)(hn:autoParam (x ≠ "__name__") zz3._auto_1)(hdb:autoParam ((x == ("__debug__":Str))=false) zz3._auto_1)
  (he:autoParam (starEach (a::es) X.env=(false,eval a X.env)::starEach es X.env) zz0._auto_1) (hpl:autoParam ((backTo pos (starEach es X.env)).any (·.1)=false) zz0._auto_1):SE X E (.Call (.Name x p) (a::es) [] pos) (eB f ms):=⟨
 bb (um hc hg hm hv ha.out hn hdb he hpl) λs H Q zq=>ex6 zq λw r S hr hS hp=>⟨w,r,S,hr,hS,hp.bind hS λds S1 w1 H1 vs x1 q1 s1 p1=>⟨w1,S1,ds,s1,q1,p1⟩⟩⟩
def aS{f:Sto->List D->Option D}(hc:bI X (.type T) (xC X.K E f))(hg:Gl X x)(hm:X.mg x=none)(hv:bootBuiltins x=some (.type T))(ha:SA X E (a::es) ms)(hn:autoParam (x ≠ "__name__") zz3._auto_1)(hdb:autoParam ((x == ("__debug__":Str))=false) zz3._auto_1)
  (he:autoParam (starEach (a::es) X.env=(false,eval a X.env)::starEach es X.env) zz0._auto_1) (hpl:autoParam ((backTo pos (starEach es X.env)).any (·.1)=false) zz0._auto_1):SE X E (.Call (.Name x p) (a::es) [] pos) (eB f ms):=⟨
 bb (zG hc hg hm hv ha.out hn hdb he hpl) λs H Q zq=>ex6 zq λw r S hr hS hp=>⟨w,r,S,hr,hS,hp.bind hS λds S1 w1 H1 vs x1 q1 s1 p1=>⟨w1,S1,ds,s1,q1,p1⟩⟩⟩
variable{st:Stmt}{rest:List Stmt}{m m':SM}
def bT:SSs X E [] bj:=⟨uz x8 λD s H zq=>ex6 zq λw r S hr hS hp=>aD.ret (b:=FV.nx s) hp ⟨s,rfl,hr⟩ hS⟩
def ao(h1:SS X E st m)(h2:SSs X E rest m'):SSs X E (st::rest) (aA m m'):=⟨
 uz (AL h1.out h2.out) λD s H zq=>ex6 zq λw r S hr hS hp=>⟨w,r,S,hr,hS,hp.bind hS λf S1 w1 H1 fv x1 q1 s1 p1=>by
  cases f with
  |nx r1=>obtain⟨s',rfl,q⟩:=q1;exact⟨w1,r1,S1,q,s1,p1⟩
  |rt d=>obtain⟨v,rfl,q⟩:=q1;have z:=aD.ret (Q:=FV.to D) (rel:=RF X.K) (a:=F.rt d) (b:=FV.rt v) p1 ⟨v,rfl,q⟩ s1;exact z
  |bk r1=>obtain⟨s',rfl,q⟩:=q1;have z:=aD.ret (Q:=FV.to D) (rel:=RF X.K) (a:=F.bk r1) (b:=FV.bk s') p1 ⟨s',rfl,q⟩ s1;exact z
  |ct r1=>obtain⟨s',rfl,q⟩:=q1;have z:=aD.ret (Q:=FV.to D) (rel:=RF X.K) (a:=F.ct r1) (b:=FV.ct s') p1 ⟨s',rfl,q⟩ s1;exact z⟩⟩
def ax(h1:SS X E st m):SSs X E [st] m:=⟨C9 h1.out⟩
def eU:SS X E st qg:=⟨ez AN λD s H zq=>ex6 zq λw r S hr hS hp=>hp.elim⟩
def cu(ha:SE X E a ma)(hs:autoParam (swapsWith a none pos.line X.env=pure false) zz0._auto_1):SS X E (.Expr a pos) (cH ma):=⟨
 ez (Dc ha.out hs) λD s H zq=>ex6 zq λw r S hr hS hp=>⟨w,r,S,hr,hS,hp.bind hS λd S1 w1 H1 v x1 q1 s1 p1=>aD.ret (b:=FV.nx s) p1 ⟨s,rfl,hr.ext x1⟩ s1⟩⟩
def aF(ha:SE X E a ma):SS X E (.Return (some a) pos) (aX ma):=⟨
 ez (FP ha.out) λD s H zq=>ex6 zq λw r S hr hS hp=>⟨w,r,S,hr,hS,hp.bind hS λd S1 w1 H1 v x1 q1 s1 p1=>aD.ret (b:=FV.rt v) p1 ⟨v,rfl,q1⟩ s1⟩⟩
def cX{sa sb:List Stmt}(hc:ST X E c mt)(ha:SSs X E sa m)(hb:SSs X E sb m'):SS X E (.If c sa sb pos) (sIf mt m m'):=⟨
 ez (ID hc.out ha.out hb.out) λD s H zq=>ex6 zq λw r S hr hS hp=>⟨w,r,S,hr,hS,hp.bind hS λk S1 w1 H1 v x1 q1 s1 p1=>by
  have e:v=k:=q1;subst e;cases v with
  |true=>exact qf ⟨w1,r,S1,hr.ext x1,s1,p1⟩
  |false=>exact qc ⟨w1,r,S1,hr.ext x1,s1,p1⟩⟩⟩
def aH{i:Nat}{x:Str}{pos':Pos}(hN:X.N.Nodup)(hi:X.N[i]?=some x)(hx:Loc X.env.scope x)(ha:SE X E a ma)(hs:autoParam (swapsWith a (some (.Name x pos')) pos.line X.env=pure false) zz0._auto_1)(hf:autoParam (X.fn x=true\/X.env.scope.names.lookup x=some .local) zz7._auto_1):
  SS X E (.Assign [.Name x pos'] a pos) (aO i ma):=⟨
 ez (FX hN hi hx ha.out hs hf) λD s H zq=>ex6 zq λw r S hr hS hp=>⟨w,r,S,hr,hS,hp.bind hS λd S1 w1 H1 v x1 q1 s1 p1=>
  aD.ret (b:=FV.nx (s.set i (some v))) p1 ⟨_,rfl,(hr.ext x1).set i q1⟩ s1⟩⟩
end
def uG(K:Frag)(g:G):TG:=λv s H Q=>∃w r d r',RSt K w H r s/\RD K w H d v/\g.put d r=some r'/\∀s',RSt K w H r' s'->Q s' H
def uGs(K:Frag)(gs:List G):TGs:=λvs s H Q=>∃w r ds r',RSt K w H r s/\RDs K w H ds vs/\G.puts gs ds r=some r'/\∀s',RSt K w H r' s'->Q s' H
abbrev SG(X:Cx)(e:Expr)(g:G):Prop:=Bx (PG X e (uG X.K g))
abbrev SGs(X:Cx)(es:List Expr)(gs:List G):Prop:=Bx (PGs X es (uGs X.K gs))
def yi{t t':TG}(h:PG X e t)(k:∀v s H Q,t' v s H Q->t v s H Q):PG X e t':=λpins s σ H v u Q I r q=>h pins s σ H v u Q I r (k v σ H Q q)
def uF{e:List Expr}{t t':TGs}(h:PGs X e t)(k:∀v s H Q,t' v s H Q->t v s H Q):PGs X e t':=λpins s σ H v u Q I r q=>h pins s σ H v u Q I r (k v σ H Q q)
theorem jk:∀{gs:List G}{ds:List D}{r r':Rho},G.puts gs ds r=some r'->ds.length=gs.length
 |[],[],_,_,_=>rfl
 |[],_::_,_,_,h=>by simp[G.puts]at h
 |_::_,[],_,_,h=>by simp[G.puts]at h
 |g::gs,d::ds,r,r',h=>by
  unfold G.puts at h;cases e:G.put g d r with
  |none=>rw[e]at h;cases h
  |some r1=>
   rw[e]at h;have:=jk h;simp[this]
section
variable{X:Cx}{E:XK}{a b c:Expr}{ma mb mc:EM}{pos:Pos}
def aM{i:Nat}(hN:X.N.Nodup)(hi:X.N[i]?=some x)(hx:Loc X.env.scope x)(hf:autoParam (X.fn x=true\/X.env.scope.names.lookup x=some .local) zz7._auto_1):SG X (.Name x pos) (.nm i):=⟨
 yi (Df hN hi hx hf) λv s H Q zq=>ex8 zq λw r d r' hr q e k=>by
  unfold G.put at e;cases e
  exact k _ (hr.set i q)⟩
def fT:SGs X [] []:=⟨
 uF Dg λv s H Q zq=>ex8 zq λw r ds r' hr q e k=>by
  cases ds with
  |nil=>
   unfold G.puts at e;cases e;exact⟨q.nil_inv,k s hr⟩
  |cons d ds=>simp[G.puts]at e⟩
theorem bA{g:G}{gs:List G}(h1:SG X e g)(h2:SGs X es gs)
  (hs:autoParam ((assignEach (e::es) X.env).map (·.2)=assign e X.env::(assignEach es X.env).map (·.2)) zz0._auto_1):SGs X (e::es) (g::gs):=⟨
 uF (AQ h1.out h2.out hs) λv s H Q zq=>ex8 zq λw r ds r' hr q e k=>by
  cases ds with
  |nil=>simp[G.puts]at e
  |cons d ds=>
   obtain⟨v1,vs,rfl,q1,q2⟩:=q.cons_inv;unfold G.puts at e;cases e1:G.put g d r with
   |none=>rw[e1]at e;cases e
   |some r1=>
    rw[e1]at e
    exact⟨v1,vs,rfl,w,r,d,r1,hr,q1,e1,λs' hs'=>⟨w,r1,ds,r',hs',q2,e,k⟩⟩⟩
def dF{K:Frag}{vs:List V}(h:At w H p (.tup vs)\/su K p vs):SqT K H p vs:=h.elim (λz=>SqT.of z.1) .inr
theorem iL{k:Nat}{gs:List G}(hc:X.calm=true)(h:SGs X es gs)
  (hn:autoParam ((assignEach es X.env).length=gs.length) zz0._auto_1) (hst:autoParam ((assignEach es X.env).findIdx? (·.1)=none) zz0._auto_1):SG X (.Tuple es k pos) (.tp gs):=⟨
 yi (FR hc h.out hn hst) λv s H Q zq=>ex8 zq λw r d r' hr q e k=>by
  cases d with
  |tup ds=>
   unfold RD at q;obtain⟨p,vs,rfl,h1,q1⟩:=q;unfold G.put at e
   exact⟨p,vs,rfl,dF h1,by rw[q1.length];exact jk e,w,r,ds,r',hr,q1,e,k⟩
  |_=>simp[G.put]at e⟩
theorem GQ{g:G}(ha:SE X E a ma)(hg:SG X tg g)(hs:autoParam (swapsWithSole [tg] a pos.line X.env=pure false) zz0._auto_1)(hw:autoParam (swappedStores [tg] a X.env=pure none) zz0._auto_1)
  (h1:autoParam ((assignEach [tg] X.env).map (·.2)=[assign tg X.env]) zz0._auto_1):SS X E (.Assign [tg] a pos) (GN g ma):=⟨
 ez (AR ha.out hg.out hs hw h1) λD s H zq=>ex6 zq λw r S hr hS hp=>⟨w,r,S,hr,hS,hp.bind hS λd S1 w1 H1 v x1 q1 s1 p1=>by
  cases e:g.put d r with
  |none=>rw[e]at p1;exact p1.elim
  |some r'=>
   rw[e]at p1
   exact⟨w1,r,d,r',hr.ext x1,q1,e,λs' hs'=>aD.ret (b:=FV.nx s') p1 ⟨s',rfl,hs'⟩ s1⟩⟩⟩
theorem GR{i j:Nat}{y:Str}{ms:AM}{px py pt:Pos}{kt k2 pt2}(hc:X.calm=true)(hN:X.N.Nodup)(hi:X.N[i]?=some x)(hj:X.N[j]?=some y)(hij:i≠j)
  (hx:X.env.scope.names.lookup x=some .local) (hy:X.env.scope.names.lookup y=some .local) (ha:SA X E [a,b] ms)
  (hw:autoParam (swappedStores [.Tuple [.Name x px,.Name y py] kt pt] (.Tuple [a,b] k2 pt2) X.env=pure (some [x,y])) zz0._auto_1)
  (hs:autoParam (swapsWithSole [.Tuple [.Name x px,.Name y py] kt pt] (.Tuple [a,b] k2 pt2) pos.line X.env=pure false) zz0._auto_1):
  SS X E (.Assign [.Tuple [.Name x px,.Name y py] kt pt] (.Tuple [a,b] k2 pt2) pos) (DD i j ms):=⟨
 ez (FY hc hN hi hj hij hx hy ha.out hw hs) λD s H zq=>ex6 zq λw r S hr hS hp=>⟨w,r,S,hr,hS,hp.bind hS λds S1 w1 H1 vs x1 q1 s1 p1=>by
  match ds,q1,p1 with
  |[d,e],q1,p1=>
   obtain⟨v,u,rfl,q2,q3⟩:=q1.two_inv;exact⟨v,u,rfl,aD.ret (b:=FV.nx _) p1 ⟨_,rfl,((hr.ext x1).set i q2).set j q3⟩ s1⟩
  |[],_,p1=>exact p1.elim
  |[_],_,p1=>exact p1.elim
  |_::_::_::_,_,p1=>exact p1.elim⟩⟩
def xS(K:Frag)(f:Sto->D->D->D->Option Sto):De:=λo i v H Q=>∃w S x y z S',RS K w H S/\RD K w H x o/\RD K w H y i/\RD K w H z v/\f S x y z=some S'/\∀w' H',Ext w H w' H'->RS K w' H' S'->Q H'
theorem g8{f:Sto->D->D->D->Option Sto}{tpos:Pos}(hf:rY X (xS X.K f))(ha:SE X E a ma)(ho:SE X E b mb)(hi:SE X E c mc)(hs:autoParam (swapsWithSole [.Subscript b c tpos] a pos.line X.env=pure false) zz0._auto_1)(hw:autoParam (swappedStores [.Subscript b c tpos] a X.env=pure none) zz0._auto_1)
  (h1:autoParam ((assignEach [.Subscript b c tpos] X.env).map (·.2)=[assign (.Subscript b c tpos) X.env]) zz0._auto_1)
  (hz:autoParam (∀v,assign (.Subscript b c tpos) X.env v=(do
   let ov <- holding [v] (eval b X.env)
   let iv <- holding [v,ov] (eval c X.env)
   standAt tpos
   holding [v,ov,iv] (setItem ov iv v)
   release [v,ov,iv] [])) zz4._auto_1):SS X E (.Assign [.Subscript b c tpos] a pos) (gn f ma mb mc):=⟨
 ez (AR ha.out (FU ho.out hi.out hf hz) hs hw h1) λD s H zq=>ex6 zq λw r S hr hS hp=>⟨w,r,S,hr,hS,hp.bind hS λd S1 w1 H1 v x1 q1 s1 p1=>
  ⟨w1,r,S1,hr.ext x1,s1,p1.bind s1 λe S2 w2 H2 u x2 q2 s2 p2=>⟨w2,r,S2,(hr.ext x1).ext x2,s2,p2.bind s2 λt S3 w3 H3 y x3 q3 s3 p3=>by
   cases hf:f S3 e t d with
   |none=>rw[hf]at p3;exact p3.elim
   |some S4=>
    rw[hf]at p3
    exact⟨w3,S3,e,t,d,S4,s3,RD.ext x3 _ _ q2,q3,RD.ext x3 _ _ (RD.ext x2 _ _ q1),hf,λw' H' x4 s4=>aD.at (b:=FV.nx s) p3 x4 ⟨s,rfl,(((hr.ext x1).ext x2).ext x3).ext x4⟩ s4⟩⟩⟩⟩⟩
def RI(K:Frag)(w:Wd)(H:Hp)(ds:List D)(J:It):Prop:=∀(i:Nat)(w':Wd)(H':Hp),Ext w H w' H'->
 (i<ds.length->J.go i H'/\∀x H'',J.yld i H' x H''->(H''=H' \/ ∃p o,H' p=none/\H''=upd H' p o)/\∀S,RS K w' H' S->∃d,ds[i]?=some d/\RD K w' H'' d x)/\(ds.length<=i->J.stop i H')
def uI(K:Frag)(E:XK)(m:AM):TI:=λs H Q=>∃w r S,RSt K w H r s/\RS K w H S/\aD K E (RI K) w H (m r S) Q
abbrev SIb(qb:Bool)(X:Cx)(E:XK)(tg iter:Expr)(m:AM):Prop:=Bx (PIb qb X tg iter (uI X.K E m))
abbrev SI(X:Cx)(E:XK)(tg iter:Expr)(m:AM):Prop:=Bx (PI X tg iter (uI X.K E m))
def oF{K:Frag}(h:H'=H \/ ∃p o,H p=none/\H'=upd H p o)(s:RS K w H S):Ext w H w H'/\RS K w H' S:=by
 rcases h with rfl|⟨p,o,hp,rfl⟩
 .exact⟨Ext.refl _ _,s⟩
 .exact⟨Ext.new hp,s.new hp⟩
theorem dZ{iter:Expr}{body:List Stmt}{it:AM}{g:G}{m:SM}(hp:PassesOwn (model X.prog X.w) X.A X.env X.xe)(hc:X.calm=true)(hi:SI X E tg iter it)(hg:SG X tg g)(hb:SSs X E body m)
  (hs:autoParam (∀x,foldedSetIterable iter X.env x=pure x) zz4._auto_1):SS X E (.For tg iter body [] pos) (fj it g m):=⟨
 ez (Gd hp hc hi.out hg.out hb.out hs) λD s H zq=>ex6 zq λw r S hr hS hp=>⟨w,r,S,hr,hS,hp.bind hS λds S1 w1 H1 J x1 q1 s1 p1=>by
  refine⟨λi n s' H'=>n=ds.length-i/\i<=ds.length/\∃w' r' S',Ext w1 H1 w' H'/\RSt X.K w' H' r' s'/\RS X.K w' H' S'/\aD X.K E (RF X.K) w' H' (forL g m (ds.drop i) r' S') (FV.to D),
   ⟨ds.length,by simp,Zq _,w1,r,S1,Ext.refl _ _,hr.ext x1,s1,p1⟩,?_⟩
  rintro i n s2 H2 ⟨rfl,hi.out,w2,r2,S2,x2,hr2,hS2,hp2⟩;by_cases hlt:i<ds.length
  .obtain⟨go,yld⟩:=(q1 i w2 H2 x2).1 hlt
   refine .inr ⟨go,λs' H'=>∃w' r' S',Ext w1 H1 w' H'/\RSt X.K w' H' r' s'/\RS X.K w' H' S'/\aD X.K E (RF X.K) w' H' (forL g m (ds.drop (i+1)) r' S') (FV.to D),
    λs' H' hN=>⟨ds.length-(i+1),by omega,rfl,hlt,hN⟩,λx H3 hy=>?_⟩
   obtain⟨gr,rd⟩:=yld x H3 hy;obtain⟨d,ed,qd⟩:=rd S2 hS2;obtain⟨x3,s3⟩:=oF gr hS2;have x13:Ext w1 H1 w2 H3:=x2.trans' x3 s1 hS2
   have hdrop:ds.drop i=d::ds.drop (i+1):=by rw[Vh hlt];rw[Yk hlt]at ed;cases ed;rfl
   rw[hdrop]at hp2;have hp3:=aD.ext hp2 x3 hS2 s3;unfold forL at hp3;cases e:g.put d r2 with
   |none=>rw[e]at hp3;exact hp3.elim
   |some r3=>
    rw[e]at hp3;refine⟨w2,r2,d,r3,hr2.ext x3,qd,e,λs4 hr4=>⟨w2,r3,S2,hr4,s3,?_⟩⟩;refine aD.bind (rel:=RF X.K) hp3 s3 λf S5 w5 H5 fv x5 q5 s5 p5=>?_;cases f with
    |nx r6=>obtain⟨s6,rfl,q6⟩:=q5;exact⟨w5,r6,S5,x13.trans' x5 s1 s3,q6,s5,p5⟩
    |ct r6=>obtain⟨s6,rfl,q6⟩:=q5;exact⟨w5,r6,S5,x13.trans' x5 s1 s3,q6,s5,p5⟩
    |bk r6=>obtain⟨s6,rfl,q6⟩:=q5;have z:=aD.ret (Q:=FV.to D) (rel:=RF X.K) (a:=F.nx r6) (b:=FV.nx s6) p5 ⟨s6,rfl,q6⟩ s5;exact z
    |rt d6=>obtain⟨v6,rfl,q6⟩:=q5;have z:=aD.ret (Q:=FV.to D) (rel:=RF X.K) (a:=F.rt d6) (b:=FV.rt v6) p5 ⟨v6,rfl,q6⟩ s5;exact z
  .have e:i=ds.length:=by omega
   subst e;rw[M3]at hp2
   exact .inl ⟨(q1 _ w2 H2 x2).2 (Yd _),aD.ret (b:=FV.nx s2) hp2 ⟨s2,rfl,hr2⟩ hS2⟩⟩⟩
def bJ(m:EM)(f:Sto->D->Option (List D)):AM:=λr S=>(m r S).bind λd S1=>R.of S1 (f S1 d)
def Jk:Sto->D->Option (List D)
 |_,.tup ds=>some ds
 |_,_=>none
def Jl:Sto->D->Option (List D)
 |_,.lst ds=>some ds
 |_,.fz ds=>some ds
 |_,_=>none
def eD(t:AM):AM:=λr S=>(t r S).bind λxs S1=>match xs with
 |[.int n]=>if n<2^62/\-(2^62)<=n then .ok ((List.range n.toNat).map λ(i:Nat)=>D.int i) S1 else .bad
 |_=>.bad
def gI{X:Cx}{t t':TI}(h:PIb qb X tg e t)(k:∀s H Q,t' s H Q->t s H Q):PIb qb X tg e t':=λpins s σ H Q I q=>h pins s σ H Q I (k σ H Q q)
def GS(ha:SE X E a ma):SI X E tg a (bJ ma Jk):=⟨
 gI (Gb ha.out) λs H Q zq=>ex6 zq λw r S hr hS hp=>⟨w,r,S,hr,hS,hp.bind hS λd S1 w1 H1 v x1 q1 s1 p1=>by
  cases d with
  |tup ds=>
   unfold RD at q1;obtain⟨p,vs,rfl,h1,q⟩:=q1;refine⟨p,rfl,⟨vs,dF h1⟩,aD.ret p1 ?_ s1⟩;intro i w' H' x';have h1':At w' H' p (.tup vs)\/su X.K p vs:=h1.imp x'.at id;have q':=RDs.ext x' _ _ q
   refine⟨λhi=>⟨⟨vs,vs[i]'(by rw[q.length];exact hi),dF h1',Yk _⟩,λx H'' y=>?_⟩,λhi=>⟨vs,dF h1',by rw[q.length];exact hi⟩⟩
   obtain⟨rfl,y⟩:=y;refine⟨.inl rfl,λS _=>⟨ds[i],Yk hi,?_⟩⟩;obtain⟨v,e,rv⟩:=q'.get (Yk hi);rw[y vs (dF h1')]at e;cases e;exact rv
  |_=>exact p1.elim⟩⟩
def GU(ha:SE X E a ma):SI X E tg a (bJ ma Jl):=⟨
 gI (Dh ha.out) λs H Q zq=>ex6 zq λw r S hr hS hp=>⟨w,r,S,hr,hS,hp.bind hS λd S1 w1 H1 v x1 q1 s1 p1=>by
  have main:∀(ds:List D)(p:Addr)(vs:List V),RDs X.K w1 H1 ds vs->(∀w' H',Ext w1 H1 w' H'->SqL X.K H' p vs)->RI X.K w1 H1 ds (Itl X.K p):=by
   intro ds p vs q sq i w' H' x';have q':=RDs.ext x' _ _ q
   refine⟨λhi=>⟨⟨vs,vs[i]'(by rw[q.length];exact hi),sq _ _ x',Yk _⟩,λx H'' y=>?_⟩,λhi=>⟨vs,sq _ _ x',by rw[q.length];exact hi⟩⟩
   obtain⟨rfl,y⟩:=y;refine⟨.inl rfl,λS _=>⟨ds[i],Yk hi,?_⟩⟩;obtain⟨v,e,rv⟩:=q'.get (Yk hi);rw[y vs (sq _ _ x')]at e;cases e;exact rv
  cases d with
  |lst ds=>
   unfold RD at q1;obtain⟨p,vs,rfl,h1,q⟩:=q1;exact⟨p,rfl,⟨vs,SqL.of h1.1⟩,aD.ret p1 (main ds p vs q λw' H' x'=>SqL.of (x'.at h1).1) s1⟩
  |fz ds=>
   unfold RD at q1;obtain⟨p,vs,rfl,h1,q⟩:=q1;exact⟨p,rfl,⟨vs,h1.sq⟩,aD.ret p1 (main ds p vs q λw' H' x'=>wU.sq (w:=w') (h1.imp (λ⟨o,z⟩=>⟨o,x'.at z⟩) id)) s1⟩
  |_=>exact p1.elim⟩⟩
def bB:Sto->D->Option (List D)
 |_,.tup ds=>some ds
 |_,.lst ds=>some ds
 |_,.fz ds=>some ds
 |_,_=>none
def Jm{t u:TI}(h1:PI X tg e t)(h2:PI X tg e u):PI X tg e (λs H Q=>t s H Q\/u s H Q):=λpins s σ H Q I q=>q.elim (h1 pins s σ H Q I) (h2 pins s σ H Q I)
def dv(ha:SE X E a ma):SI X E tg a (bJ ma bB):=⟨
 gI (Jm (GS ha).out (GU ha).out) λs H Q zq=>ex6 zq λw r S hr hS hp=>by
  unfold bJ at hp;cases e:ma r S with
  |bad=>rw[e]at hp;exact hp.elim
  |err y S'=>rw[e]at hp;exact .inl ⟨w,r,S,hr,hS,by unfold bJ;rw[e];exact hp⟩
  |ok d S'=>
   rw[e]at hp;cases d with
   |tup ds=>exact .inl ⟨w,r,S,hr,hS,by unfold bJ;rw[e];exact hp⟩
   |lst ds=>exact .inr ⟨w,r,S,hr,hS,by unfold bJ;rw[e];exact hp⟩
   |fz ds=>exact .inr ⟨w,r,S,hr,hS,by unfold bJ;rw[e];exact hp⟩
   |_=>exact hp.elim⟩
def jH{p:Pos}(hg:Gl X "range")(hm:X.mg "range" = none)(ha:SA X E [a] ms)(hs:autoParam (starEach [a] X.env=[(false,eval a X.env)]) zz0._auto_1):SIb qb X E tg (.Call (.Name "range" p) [a] [] pos) (eD ms):=⟨
 gI (zx hg hm ha.out hs) λs H Q zq=>ex6 zq λw r S hr hS hp=>⟨w,r,S,hr,hS,hp.bind hS λds S1 w1 H1 vs x1 q1 s1 p1=>by
  rcases ds with _|⟨d,_|⟨d',ds⟩⟩
  .exact p1.elim
  .cases d with
   |int n=>
    obtain⟨v,rfl,q2⟩:=q1.one_inv;unfold RD at q2;subst q2;by_cases hn:n<2^62/\-(2^62)<=n
    .have p2:aD X.K E (RI X.K) w1 H1 (if n<2^62/\-(2^62)<=n then R.ok ((List.range n.toNat).map λ(i:Nat)=>D.int i) S1 else R.bad) Q:=p1
     rw[Y8 hn]at p2;refine⟨n,rfl,hn.2,hn.1,aD.ret p2 ?_ s1⟩;intro i w' H' x'
     refine⟨λhi=>⟨show i<n.toNat by simpa using hi,λx H'' y=>?_⟩,λhi=>show n.toNat<=i by simpa using hi⟩
     obtain⟨rfl,rfl⟩:=y;refine⟨.inl rfl,λS _=>⟨.int i,?_,?_⟩⟩
     .have:i<n.toNat:=by simpa using hi
      simp[this]
     .unfold RD;simp
    .have p2:aD X.K E (RI X.K) w1 H1 (if n<2^62/\-(2^62)<=n then R.ok ((List.range n.toNat).map λ(i:Nat)=>D.int i) S1 else R.bad) Q:=p1
     rw[Yi hn]at p2;exact p2.elim
   |_=>exact p1.elim
  .cases d<;>exact p1.elim⟩⟩
end
section
variable{P:Program}{w:World}{K:Frag}{mg:Str->Option Value}{base:Heap}
def zN{K:Frag}{w:Wd}{ds:List D}{vs:List V}(q:RDs K w H ds vs):RSt K w H (ds.map some++List.replicate (N.length-ds.length) none) (L2.start N vs):=by
 unfold L2.start
 refine⟨by simp[q.length],λi d e=>?_⟩
 by_cases hi:i<ds.length
 .rw[Z0 (by simpa using hi),Q2]at e
  rw[Z0 (by rw[Yh,q.length];exact hi),Q2]
  cases e1:ds[i]? with
  |none=>rw[e1]at e;cases e
  |some d'=>
   rw[e1]at e;cases e;obtain⟨v,ev,rv⟩:=q.get e1
   exact⟨v,by rw[ev];rfl,rv⟩
 .rw[W6 (by simpa using hi),Wv]at e
  split at e<;>cases e
end
section
variable{prog:Program}{w:World}{A:Around}{R:Result->Shared->Prop}{s:Shared}
theorem kZ{elt target iter:Expr}{ifs:List Expr}{scope:Scope}{pos:Pos}{it acc:Value}{env:Env}(I:Nat->Shared->Prop)
  (turn:∀n s,I n s->wpAny (model prog w) A (pyNext it) (λr s1=>match r with
   |none=>R (.ok .next) s1
   |some v=>wpAny (model prog w) A (letOwnedTupleGo target it v) (λ_ s1'=>wpAny (model prog w) A (assign target env v) (λ_ s2=>
     wpAny (model prog w) A (forIn ifs true λc r=>if r=true then do let ok <- isTrue c env (eval c env);pure (ForInStep.yield ok) else pure (ForInStep.yield r)) (λok s3=>
      if ok=true then wpAny (model prog w) A (eval elt env) (λx s4=>
       wpAny (model prog w) A (call (.builtin "list.append") [acc,x]) (λ_ s5=>∃m,m<n/\I m s5) (λ_ _=>False) s4) (λ_ _=>False) s3
      else ∃m,m<n/\I m s3) (λ_ _=>False) s2) (λ_ _=>False) s1') (λ_ _=>False) s1) (λ_ _=>False) s)
  (n:Nat) (h:I n s):
  codeAny (model prog w) A (.compLoop (.ListComp elt [⟨target,iter,ifs,0⟩] scope pos) 0 it acc env) R s:=by
 refine codeAny_loop rfl I (λn s hI=>?_) n h
 show wpAny _ A ((compTurn (.ListComp elt [⟨target,iter,ifs,0⟩] scope pos) 0 it acc env).onRaise (λx=>do noteFrame x env;theTreesLotGoes x)) _ _ s
 refine wpAny_noted ?_;rw[compTurn_list];refine Y6 (Uz (Y6 (Qv (turn n s hI) (λr s1 h1=>?_) λ_ _ h'=>h'.elim)));cases r with
 |none=>exact Ye h1
 |some v=>
  refine Y6 (Qv h1 (λ_ s1' h1'=>?_) λ_ _ h'=>h'.elim);refine Y6 (Qv h1' (λ_ s2 h2=>Y6 (Qv h2 (λok s3 h3=>?_) λ_ _ h'=>h'.elim)) λ_ _ h'=>h'.elim);cases ok with
  |false=>exact Ye ⟨rfl,h3⟩
  |true=>
   exact Y6 (Y6 (Qv h3 (λx s4 h4=>Y6 (Qv h4 (λ_ s5 h5=>Ye (Ye ⟨rfl,h5⟩)) λ_ _ h'=>h'.elim)) λ_ _ h'=>h'.elim))
end
def Bk(X:Cx)(ifs:List Expr)(t:TT):Prop:=
 ∀(pins:List (Addr×Obj))(s:Shared)(σ:L2.St)(H:Hp)(Q:Bool->Hp->Prop),Inv X pins σ H s->t σ H Q->
  wpAny (model X.prog X.w) X.A (forIn ifs true λc r=>if r=true then do let ok <- isTrue c X.env (eval c X.env);pure (ForInStep.yield ok) else pure (ForInStep.yield r)) (TP X pins σ Q) X.xe s
def Bl:Bk X [] (λ_ H Q=>Q true H):=λpins s σ H Q I h=>wpAny_tests_nil ⟨H,I,h⟩
def Bm{c:Expr}(h:PT X c t):Bk X [c] t:=λpins s σ H Q I q=>wpAny_tests_one (h pins s σ H Q I q)
def cxC(X:Cx)(N:List Str)(scope:Scope)(cl:List (Str×Addr))(s0:Shared)(H0:Hp)(ex:List Addr):Cx:=
 { X with N:=N,s₀:=s0,H₀:=H0,env:=compEnvC scope cl s0.heap.objs.size X.env,outer:=X.stack,ex:=ex,fn:=λ_=>false }
def m3(k:Nat)(caps:List Nat)(s:L2.St):L2.St:=List.replicate k none++caps.map λi=>(s[i]?).join
structure CompScope(X:Cx)(N:List Str)(k:Nat)(caps:List Nat)(scope:Scope):Prop where
 kind:scope.kind=.function
 nocell:∀x∈scope.names,x.2≠.cell
 names:∀x∈scope.names,x.2=.local->scope.names.lookup x.1=some .local
 free:∀x∈scope.names,x.2=.free->X.env.kindOf x.1=some .cell\/X.env.kindOf x.1=some .free
 len:N.length=k+caps.length
 cap:∀t i,caps[t]?=some i->∃x,X.N[i]?=some x/\N[k+t]?=some x/\scope.names.lookup x=some .free
theorem eV{A B:Type}[BEq A][LawfulBEq A]:∀{l:List (A×B)}{x:A}{b:B},l.lookup x=some b->(x,b)∈l
 |[],_,_,h=>by simp at h
 |(y,c)::r,x,b,h=>by
  rw[Qm]at h;cases e:x == y with
  |true=>
   rw[e]at h;have:=Us e;subst this;cases h;exact Z2
  |false=>
   rw[e]at h;exact Yz _ (eV h)
theorem kq:∀(names:List (Str×NameKind))(cs:List (Str×Addr)),(∀x∈names,x.2=.free->∃c,env.cells.lookup x.1=some c)->
  ∃cl,(forIn names cs λ(x:Str×NameKind)(r:List (Str×Addr))=>(if x.2 == NameKind.free then do let a <- cellOf env x.1;pure (ForInStep.yield ((x.1,a)::r)) else pure (ForInStep.yield r):Sem (ForInStep (List (Str×Addr)))))=pure cl/\
   (∀p∈cl,p∈cs\/env.cells.lookup p.1=some p.2)/\(∀p∈cs,p∈cl)/\∀x∈names,x.2=.free->∃c,(x.1,c)∈cl
 |[],cs,_=>⟨cs,rfl,λp h=>.inl h,λp h=>h,λx h=>nomatch h⟩
 |(n,k)::r,cs,h=>by
  by_cases hk:k=.free
  .subst hk;obtain⟨c,hc⟩:=h (n,.free) Z2 rfl;obtain⟨cl,e,h1,h2,h3⟩:=kq r ((n,c)::cs) λx hx=>h x (Yz _ hx);refine⟨cl,?_,λp hp=>?_,λp hp=>h2 p (Yz _ hp),λx hx hf=>?_⟩
   .rw[Ua]
    have hco:cellOf env n=pure c:=by unfold cellOf;rw[hc]
    simp only[beq_self_eq_true,Zj,hco,pure_bind];exact e
   .rcases h1 p hp with z|z
    .rcases Yc.mp z with z|z
     .subst z;exact .inr hc
     .exact .inl z
    .exact .inr z
   .rcases Yc.mp hx with z|z
    .subst z;exact⟨c,h2 _ Z2⟩
    .exact h3 x z hf
  .obtain⟨cl,e,h1,h2,h3⟩:=kq r cs λx hx=>h x (Yz _ hx)
   have hb:(k == NameKind.free)=false:=by simpa using hk
   refine⟨cl,?_,h1,h2,λx hx hf=>?_⟩
   .rw[Ua];simp only[hb,Ze,Qy,pure_bind];exact e
   .rcases Yc.mp hx with z|z
    .subst z;exact absurd hf hk
    .exact h3 x z hf
theorem m5(h:∀x∈scope.names,x.2=.free->∃c,env.cells.lookup x.1=some c):
  ∃cl,closureFor scope env=pure cl/\(∀x c,cl.lookup x=some c->env.cells.lookup x=some c)/\∀x∈scope.names,x.2=.free->∃c,cl.lookup x.1=some c:=by
 obtain⟨cl,e,h1,h2,h3⟩:=kq (env:=env) scope.names [] h;refine⟨cl,?_,λx c hx=>?_,λx hx hf=>?_⟩
 .unfold closureFor
  show((forIn scope.names [] λ(x:Str×NameKind)(r:List (Str×Addr))=>(if x.2 == NameKind.free then do let a <- cellOf env x.1;pure (ForInStep.yield ((x.1,a)::r)) else pure (ForInStep.yield r):Sem (ForInStep (List (Str×Addr))))) >>= λl=>pure l)=pure cl
  rw[e,pure_bind]
 .rcases h1 _ (eV hx) with z|z
  .exact nomatch z
  .exact z
 .obtain⟨c,hc⟩:=h3 x hx hf;cases e2:cl.lookup x.1 with
  |some c'=>exact⟨c',rfl⟩
  |none=>
   rw[List.lookup_eq_none_iff]at e2;have:=e2 _ hc;simp at this
def uH{k:NameKind}(h:(relabel scope env).names.lookup x=some k):(x,k)∈scope.names\/(k=.cell/\(x,NameKind.free)∈scope.names):=by
 have m:=eV h;obtain⟨⟨n,j⟩,hn,e⟩:=Yw.mp m;dsimp only at e;split at e
 .rename_i hc;cases e
  have:j=NameKind.free:=by have:=(Z9 _ _ |>.mp (Z9 _ _ |>.mp hc).1).1;simpa using this
  subst this;exact .inr ⟨rfl,hn⟩
 .cases e;exact .inl hn
theorem lg{scope:Scope}{env:Env}{x:Str}:∀{names:List (Str×NameKind)},names.lookup x=some .free->
  ((names.map λ(n,k)=>if (k == NameKind.free&&env.scope.kind == .function&&env.kindOf n == some .cell) then (n,NameKind.cell) else (n,k)).lookup x=some .cell) \/
  ((names.map λ(n,k)=>if (k == NameKind.free&&env.scope.kind == .function&&env.kindOf n == some .cell) then (n,NameKind.cell) else (n,k)).lookup x=some .free)
 |[],h=>by simp at h
 |(n,k)::r,h=>by
  have ih:=@lg scope env x r;simp only[Yb];cases hx:x == n with
  |true=>
   simp only[Qm,hx]at h;cases h;by_cases hc:(NameKind.free == NameKind.free&&env.scope.kind == .function&&env.kindOf n == some .cell)=true
   .left;rw[Y8 hc];simp[Qm,hx]
   .right;rw[Yi hc];simp[Qm,hx]
  |false=>
   simp only[Qm,hx]at h;by_cases hc:(k == NameKind.free&&env.scope.kind == .function&&env.kindOf n == some .cell)=true
   .rw[Y8 hc];simp only[Qm,hx];exact ih h
   .rw[Yi hc];simp only[Qm,hx];exact ih h
section
variable{X:Cx}{pins:List (Addr×Obj)}{σ:L2.St}{H:Hp}{s:Shared}
theorem oG{k:Nat}{cl:List (Str×Addr)}{fp:List Addr}{h':Heap}{m:Str->Option Value}{t:Nat}(I:Inv X pins σ H s)(C:CompScope X N k caps scope)
  (hcl:∀x c,cl.lookup x=some c->X.env.cells.lookup x=some c) (hcf:∀x∈scope.names,x.2=.free->∃c,cl.lookup x.1=some c)
  (hfp:∀b∈fp,FpOk X pins H b/\b<s.heap.objs.size) (hn:h'.Ns s.heap.objs.size m) (hk:∀b o,s.heap.get? b=some o->h'.get? b=some o):
  Inv (cxC X N scope cl s H fp) pins (m3 k caps σ) H { s with heap:=h',toks:=t }:=by
 have hfs:∀b,b∈frs X.stack->b<s.heap.objs.size:=λb hb=>by obtain⟨_,o,ho,_⟩:=I.stack.mem hb;exact Yn ho
 refine⟨⟨I.ok.mod,C.kind,I.ok.glob,I.ok.blt,Yd _,λx y c h1 h2=>I.ok.inj x y c (hcl x c h1) (hcl y c h2),λx hx=>?_,(λx c h=>nomatch h),I.ok.hd,I.ok.frames,.inl rfl,λb hb=>?_,λb o e=>?_,?_,λb o e hb=>?_,λb hb=>?_,I.stack,λb hb=>I.stkFree b hb⟩,
  rfl,I.bare,Un.kept hk,?_,λx c e=>?_,I.hok.fresh (Yd _),λx c e=>I.freeC x c (hcl x c e),λp hp=>?_,I.hok.kept hk,?_⟩
 ·-- has
  have key:∀kk,(kk=NameKind.cell\/kk=NameKind.free)->(relabel scope X.env).names.lookup x=some kk->∃c,cl.lookup x=some c:=λkk hkk hl=>by
   rcases uH hl with z|⟨_,z⟩
   .rcases hkk with q|q
    .subst q;exact absurd rfl (C.nocell _ z)
    .subst q;exact hcf _ z rfl
   .exact hcf _ z rfl
  rcases hx with z|z
  .exact key _ (.inl rfl) z
  .exact key _ (.inr rfl) z
 .obtain⟨f,lt⟩:=hfp b hb;exact⟨Yt lt,λx c e=>f.2.2.2.2.1 x c (hcl x c e)⟩
 .exact I.bs b o e
 .exact Yv I.ok.bsz I.sz
 .obtain⟨f,lt⟩:=hfp b hb;rcases f.2.2.2.1 with z|z
  .exact I.ok.noex b o e z
  .exact absurd (Yu (Yn e) (Yv I.ok.bsz z)) (Qb _)
 .obtain⟨f,lt⟩:=hfp b hb;intro z;rcases Yc.mp (I.stkSub b z) with q|q
  .exact f.2.1 q
  .exact f.2.2.1 q
 .obtain⟨m0,hn0,hl0⟩:=I.loc;refine⟨m,hn,λi x v e1 e2 e3=>?_⟩;unfold m3 at e2;by_cases hi:i<k
  .rw[Z0 (by simpa using hi),Wv]at e2
   split at e2<;>cases e2
  .rw[W6 (by simpa using hi),Q2,V5]at e2
   cases ec:caps[i-k]? with
   |none=>rw[ec]at e2;cases e2
   |some j=>
    rw[ec]at e2;have e2':(σ[j]?).join=some v:=Za e2;obtain⟨y,hy1,hy2,hy3⟩:=C.cap _ _ ec;have e1':N[i]?=some x:=e1
    rw[show k+(i-k)=i by omega]at hy2
    rw[hy2]at e1';have exy:y=x:=Za e1';subst exy;have hfr:(y,NameKind.free)∈scope.names:=eV hy3
    have hsj:σ[j]?=some (some v):=by
     cases q:σ[j]? with
     |none=>rw[q]at e2';cases e2'
     |some o=>rw[q]at e2';rw[show o=some v from e2']
    have kinds:=C.free _ hfr rfl
    have hvis:Vis X.env.scope y:=by
     rcases kinds with z|z
     .exact .inr (.inl z)
     .exact .inr (.inr z)
    obtain⟨u,ru,lk⟩:=hl0 j y v hy1 hsj hvis;refine⟨u,ru,?_⟩;rcases lk with⟨z,_⟩|⟨_,c,hc,hcell⟩
    .rcases kinds with q|q<;>(rw[q]at z;cases z)
    .obtain⟨c',hc'⟩:=hcf _ hfr rfl;have:=hcl _ _ hc';rw[hc]at this;cases this;refine .inr ⟨?_,c,hc',hcell.keeps hk⟩;exact lg (scope:=scope) (env:=X.env) hy3
 .obtain⟨v,z⟩:=I.cell x c (hcl x c e);exact⟨v,z.keeps hk⟩
 .obtain⟨e,n,ne,nf,d⟩:=I.pin p hp;refine⟨hk _ _ e,n,Yt (Yn e),λz=>?_,d⟩;rcases Yc.mp (I.stkSub _ z) with q|q
  .exact ne q
  .exact nf q
 .unfold m3;show _=N.length;rw[C.len];simp
end
def yj(wi:TI)(k:Nat)(caps:List Nat)(g:TG)(tt:TT)(te:TE):TE:=λσ H Q=>wi σ H λJ H1=>∀p,H1 p=none->∃W:Nat->Nat->L2.St->Hp->Prop,(∃m,W 0 m (m3 k caps σ) (upd H1 p (.lst [])))/\∀i m σ' H',W i m σ' H'->
 (J.stop i H'/\Q (.ref p) H')\/(J.go i H'/\∃N:L2.St->Hp->Prop,(∀σ2 H2,N σ2 H2->∃m',m'<m/\W (i+1) m' σ2 H2)/\
  ∀x H3,J.yld i H' x H3->g x σ' H3 λσ4 H4=>tt σ4 H4 λb H5=>if b=true then te σ4 H5 λy H6=>∃ys,H6 p=some (.lst ys)/\ys.length<sizeLine/\N σ4 (upd H6 p (.lst (ys++[y]))) else N σ4 H5)
theorem Bn{elt tg iter:Expr}{ifs:List Expr}{pos:Pos}{k:Nat}{wi:TI}{g:TG}{tt:TT}{te:TE}(hX:Cd qb X)(hxe:∀e s,¬X.xe e s)(C:CompScope X N k caps scope)
  (hi:PIb qb X tg iter wi) (hg:∀cl s0 H0 ex,Cd qb (cxC X N scope cl s0 H0 ex)->PG (cxC X N scope cl s0 H0 ex) tg g) (ht:∀cl s0 H0 ex,Cd qb (cxC X N scope cl s0 H0 ex)->Bk (cxC X N scope cl s0 H0 ex) ifs tt) (he:∀cl s0 H0 ex,Cd qb (cxC X N scope cl s0 H0 ex)->PE (cxC X N scope cl s0 H0 ex) elt te)
  (hs:autoParam (∀x,foldedSetIterable iter X.env x=pure x) zz4._auto_1):PE X (.ListComp elt [⟨tg,iter,ifs,0⟩] scope pos) (yj wi k caps g tt te):=by
 intro pins s σ H Q I h;have noX:∀{α:Type}{t:Sem α}{Q':α->Shared->Prop}{s':Shared},wpAny (model X.prog X.w) X.A t Q' X.xe s'->wpAny (model X.prog X.w) X.A t Q' (λ_ _=>False) s':=λh=>Qv h (λ_ _ x=>x) λe s z=>hxe e s z;obtain⟨cl,hclos,hcl,hcf⟩:=m5 (scope:=scope) (env:=X.env) λx hx hf=>I.ok.has _ (C.free x hx hf);rw[eval_ListComp];refine wpAny_comprehension_free (use:=none) (cl:=cl) rfl hs hclos C.kind C.names ?_;refine thn (hi pins s σ H _ I h) λv s1 h1=>thn h1 λitv s2 h2=>?_;obtain⟨it,fp,tn,J,H2,e,I2,T,st2,f2,q⟩:=h2;subst e
 refine K1 (items:=[]) ?_ (by show 0<=sizeLine;exact Zq _)
 have hp:H2 s2.heap.objs.size=none:=I2.hok.fresh (Yd _);obtain⟨W,⟨m0,w0⟩,turn⟩:=q _ hp
 have I3:Inv X pins σ (upd H2 s2.heap.objs.size (.lst [])) { s2 with heap:=s2.heap.push { cls:=.type "list",data:=.seq ([]:List Value).toArray } }:=
  I2.laid (t':=s2.toks) (λb u e=>Y7 _ e) (Yd _) ⟨Zq _,[],0,.nil,Yg _ rfl⟩
 refine wpAny_newFunctionEnv C.nocell (λx hx=>nomatch hx) (λh4 hn4 hs4=>?_) C.kind
 have ltfp:∀b∈fp,b<s2.heap.objs.size:=λb hb=>by obtain⟨o,ho,_⟩:=T.obj _ _ st2 b hb;exact Yn ho
 have hk4:∀b o,(s2.heap.push { cls:=.type "list",data:=.seq ([]:List Value).toArray }).get? b=some o->h4.get? b=some o:=λb o e=>by
  have ne:b≠(s2.heap.push { cls:=.type "list",data:=.seq ([]:List Value).toArray }).objs.size:=Yt (Yn e)
  rw[hs4.2 b ne];exact Y7 _ e
 have f3:∀b∈fp,FpOk X pins (upd H2 s2.heap.objs.size (.lst [])) b:=λb hb=>by
  obtain⟨a1,a2⟩:=f2 b hb
  exact⟨by rw[aN (Yt (ltfp b hb))];exact a1,a2⟩
 have I4:=oG (N:=N) (k:=k) (caps:=caps) (scope:=scope) (cl:=cl) (fp:=fp) (t:=s2.toks+0) I3 C hcl hcf (λb hb=>⟨f3 b hb,by rw[show({ s2 with heap:=s2.heap.push { cls:=.type "list",data:=.seq ([]:List Value).toArray } }:Shared).heap.objs.size=s2.heap.objs.size+1 from Z5 ..];exact We (ltfp b hb)⟩) hn4 hk4
 have tn4:tn 0 h4:=T.keep _ _ _ st2 λb hb o e=>hk4 b o (Y7 _ e)
 have loop:codeAny (model X.prog X.w) X.A (.compLoop (.ListComp elt [⟨tg,iter,ifs,0⟩] scope pos) 0 (.ref it) (.ref s2.heap.objs.size) (compEnvC scope cl ({ s2 with heap:=s2.heap.push { cls:=.type "list",data:=.seq ([]:List Value).toArray } }:Shared).heap.objs.size X.env))
   (compPost (model X.prog X.w) X.A X.xe none (EP X pins σ Q) (.ref s2.heap.objs.size) ({ s2 with heap:=s2.heap.push { cls:=.type "list",data:=.seq ([]:List Value).toArray } }:Shared).heap.objs.size) { s2 with heap:=h4,toks:=s2.toks+0 }:=by
  generalize hs3:({ s2 with heap:=s2.heap.push { cls:=.type "list",data:=.seq ([]:List Value).toArray } }:Shared)=s3 at *
  have sz3:s2.heap.objs.size<=s3.heap.objs.size:=by rw[<- hs3];show _<=(s2.heap.push _).objs.size;rw[Z5];exact Wp _
  have k23:∀b o,s2.heap.get? b=some o->s3.heap.get? b=some o:=λb o e=>by rw[<- hs3];exact Y7 _ e
  have hos:s3.os=s2.os:=by rw[<- hs3]
  have stat:∀{H':Hp},(∀b∈fp,H' b=none)->∀b∈fp,FpOk (cxC X N scope cl s3 (upd H2 s2.heap.objs.size (.lst [])) fp) pins H' b:=λ{H'} hn b hb=>by
   obtain⟨a1,a2,a3,a4,a5,a6⟩:=f3 b hb;refine⟨hn b hb,Yt (Yu (ltfp b hb) sz3),λz=>?_,.inl hb,λx c e=>a5 x c (hcl x c e),a6⟩;rcases Yc.mp (I2.stkSub b z) with q|q
   .exact a2 q
   .exact a3 q
  have I4':Inv (cxC X N scope cl s3 (upd H2 s2.heap.objs.size (.lst [])) fp) pins (m3 k caps σ) (upd H2 s2.heap.objs.size (.lst [])) { s2 with heap:=h4,toks:=s2.toks+0 }:=by subst hs3;exact I4
  have hX2:Cd qb (cxC X N scope cl s3 (upd H2 s2.heap.objs.size (.lst [])) fp):=by
   rcases hX with z|⟨z,y|⟨a,o,u,e1,e2,e3⟩⟩
   .exact .inl z
   .exact .inr ⟨z,.inl y⟩
   .refine .inr ⟨z,.inr ⟨a,o,u,e1,?_,e3⟩⟩;have q0:=I2.base.frzs a o u e2;show upd H2 s2.heap.objs.size (.lst []) a=_
    rw[aN (λy=>by rw[y,hp]at q0;cases q0)]
    exact q0
  refine kZ (λn s'=>∃i σ' H',Inv (cxC X N scope cl s3 (upd H2 s2.heap.objs.size (.lst [])) fp) pins σ' H' s'/\tn i s'.heap/\(∀b∈fp,H' b=none)/\W i n σ' H') ?_ m0 ⟨0,_,_,I4',tn4,λb hb=>(f3 b hb).1,w0⟩;rintro n s5 ⟨i,σ5,H5,I5,st5,fr5,w5⟩;rcases turn i n σ5 H5 w5 with⟨stop,qn⟩|⟨go,Nn,hN,step⟩
  .refine thn (T.done (cxC X N scope cl s3 (upd H2 s2.heap.objs.size (.lst [])) fp) rfl rfl rfl hX2 i pins s5 σ5 H5 _ I5 (stat fr5) st5 stop) λr s6 zq=>?_;obtain⟨hr,I6⟩:=zq;subst hr;obtain⟨m6,hn6,_⟩:=I6.loc;refine⟨m6,hn6,λh7 hs7=>⟨.ref s2.heap.objs.size,H5,?_,rfl,qn⟩⟩;have u1:Un (frs X.stack) fp H2 (upd H2 s2.heap.objs.size (.lst [])) s2.heap s3.heap:=Un.laid k23 (Yd _) hp;have u2:Un (frs X.stack) fp H2 H5 s2.heap s6.heap:=u1.trans I6.base;have neC:∀b o,s2.heap.get? b=some o->b≠s3.heap.objs.size:=λb o e=>Yt (Yu (Yn e) sz3);have hfree:H5 s3.heap.objs.size=none:=I6.free
   refine I2.call' (s':={ s6 with heap:=h7 }) (ch:=fp) (by rw[<- hos];exact I6.os) ⟨λb o e n hb hx=>?_,λb o e n hb hx=>?_,u2.free,λb o e hx=>?_,u2.tups,u2.frzs,u2.tbls⟩ (λb ob e=>?_) I6.bare λb hb=>?_
   .exact(hs7.2 b (neC b o e)).trans (u2.keep b o e n hb hx)
   .obtain⟨sl,e1⟩:=u2.slot b o e n hb hx;exact⟨sl,(hs7.2 b (neC b o e)).trans e1⟩
   .obtain⟨o',e1⟩:=u2.there b o e hx;exact⟨o',(hs7.2 b (neC b o e)).trans e1⟩
   .refine(I6.hok b ob e).stay (λc v hc z=>(hs7.2 c ?_).trans z) (λ_ z=>z) λ_ _ z=>z;intro y;rcases hc with z|z
    .rw[<- z,y,hfree]at e;cases e
    .rw[y,hfree]at z;cases z
   .obtain⟨a1,a2,a3,a4,a5,a6⟩:=f2 b hb;exact⟨a4,a2,a5,a6⟩
  .refine thn (T.item (cxC X N scope cl s3 (upd H2 s2.heap.objs.size (.lst [])) fp) rfl rfl rfl hX2 i pins s5 σ5 H5 _ I5 (stat fr5) st5 go) λr s6 zq=>?_;obtain⟨u,hr,h6⟩:=zq;subst hr;refine thn h6 λ_ s7 zq=>?_;obtain⟨x,H7,I7,r7,y7,st7,fr7⟩:=zq;have I7':=I7.pinned (stat fr7) (T.obj _ _ st7);refine noX (thn (hg cl s3 _ fp hX2 _ s7 σ5 H7 x u _ I7' r7 (step x H7 y7)) λ_ s8 zq=>?_);obtain⟨σ8,H8,I8,q8⟩:=zq;refine noX (thn (ht cl s3 _ fp hX2 _ s8 σ8 H8 _ I8 q8) λok s9 zq=>?_);obtain⟨H9,I9,q9⟩:=zq
   have again:∀{s':Shared}{σ':L2.St}{H':Hp},Inv (cxC X N scope cl s3 (upd H2 s2.heap.objs.size (.lst [])) fp) (pins++lX fp s7.heap) σ' H' s'->Nn σ' H'->
     ∃m,m<n/\∃i σ' H',Inv (cxC X N scope cl s3 (upd H2 s2.heap.objs.size (.lst [])) fp) pins σ' H' s'/\tn i s'.heap/\(∀b∈fp,H' b=none)/\W i m σ' H':=λ{s' σ' H'} I' n'=>by
    obtain⟨m',hm,w'⟩:=hN σ' H' n';refine⟨m',hm,i+1,σ',H',I'.unpinned,T.keep _ _ _ st7 λb hb o e=>(I'.pin (b,o) (Z1 _ (Z1 _ (fm hb e)))).1,λb hb=>?_,w'⟩;obtain⟨o,e,d⟩:=T.obj _ _ st7 b hb;exact(I'.pin (b,o) (Z1 _ (Z1 _ (fm hb e)))).2.1
   cases ok with
   |false=>exact again I9 q9
   |true=>
    refine noX (thn (he cl s3 _ fp hX2 _ s9 σ8 H9 _ I9 q9) λy s10 zq=>?_);obtain⟨yv,H10,I10,r10,ys,hys,hlt,q10⟩:=zq;refine noX (thn (lZ (X:=cxC X N scope cl s3 (upd H2 s2.heap.objs.size (.lst [])) fp) _ s10 σ8 H10 (.ref s2.heap.objs.size) [yv] _ [y] (λ_ H'=>Nn σ8 H') I10 rfl (.cons r10 .nil) ⟨_,ys,yv,rfl,rfl,hys,hlt,q10⟩) λ_ s11 zq=>?_);obtain⟨_,H11,I11,_,q11⟩:=zq;exact again I11 q11
 exact codeAny_compStart_list loop (T.self X.A 0 _ _ _ tn4 loop)
def cZ(i:Int):Prop:=-(2^64)<i/\i<2^64
noncomputable instance (i:Int):Decidable (cZ i):=by unfold cZ;infer_instance
def aT:Sto->D->D->Option D
 |_,.int i,.int j=>some (.int (i+j))
 |_,.str a,.str b=>if a.length+b.length<=sizeLine then some (.str (a++b)) else none
 |_,.tup a,.tup b=>if a.length+b.length<=sizeLine then some (.tup (a++b)) else none
 |_,.lst a,.lst b=>if a.length+b.length<=sizeLine then some (.lst (a++b)) else none
 |_,_,_=>none
def g9:Sto->D->D->Option D
 |_,.int i,.int j=>some (.int (i-j))
 |_,_,_=>none
def cI:Sto->D->D->Option D
 |_,.int i,.int j=>if cZ i\/cZ j then some (.int (i*j)) else none
 |_,.tup a,.int k=>if -(2^63)<=k/\k<2^63/\a.length*k.toNat<=sizeLine then some (.tup (List.replicate k.toNat a).flatten) else none
 |_,.lst a,.int k=>if -(2^63)<=k/\k<2^63/\a.length*k.toNat<=sizeLine then some (.lst (List.replicate k.toNat a).flatten) else none
 |_,_,_=>none
def lh:Sto->D->D->Option D
 |_,.int i,.int j=>if 0<j/\j<1073741824 then some (.int (i/j)) else none
 |_,_,_=>none
def oMod:Sto->D->D->Option D
 |_,.int i,.int j=>if 0<j then some (.int (i%j)) else none
 |_,_,_=>none
def mm:Sto->D->D->Option D
 |_,.int i,.int j=>if 0<=j/\j<=1000000/\i.natAbs<2^64 then some (.int (i^j.toNat)) else none
 |_,_,_=>none
def wV:Sto->D->D->Option D
 |_,.int i,.int j=>if 0<=j/\j<=1000000/\i.natAbs<2^64 then some (.int (i*2^j.toNat)) else none
 |_,_,_=>none
def wW:Sto->D->Option D
 |_,.int i=>some (.int (-i))
 |_,_=>none
def mq(p:Int->Int->Bool):Sto->D->D->Option D
 |_,.int i,.int j=>some (.bl (p i j))
 |_,_,_=>none
abbrev oLt:=mq λi j=>decide (i<j)
abbrev oLe:=mq λi j=>decide (i<=j)
abbrev oGt:=mq λi j=>decide (j<i)
abbrev oGe:=mq λi j=>decide (j<=i)
def eqS:D->D->Option Bool
 |.int i,.int j=>some (decide (i=j))
 |.bl i,.bl j=>some (decide (i=j))
 |.str i,.str j=>some (decide (i=j))
 |.non,.non=>some true
 |.non,.int _=>some false
 |.int _,.non=>some false
 |.non,.bl _=>some false
 |.bl _,.non=>some false
 |.non,.str _=>some false
 |.str _,.non=>some false
 |.int _,.str _=>some false
 |.str _,.int _=>some false
 |.bl _,.str _=>some false
 |.str _,.bl _=>some false
 |_,_=>none
def oEq:Sto->D->D->Option D:=λ_ a b=>(eqS a b).map .bl
def oNe:Sto->D->D->Option D:=λ_ a b=>(eqS a b).map λc=>.bl (!c)
def il:D->Bool
 |.non=>true
 |.bl _=>true
 |.int _=>true
 |.str _=>true
 |_=>false
def eqF:D->D->Bool
 |.non,.non=>true
 |.bl a,.bl b=>a == b
 |.bl a,.int b=>(if a then 1 else 0) == b
 |.int a,.bl b=>a == (if b then 1 else 0)
 |.int a,.int b=>a == b
 |.str a,.str b=>a == b
 |_,_=>false
def bN(S:Sto):D->Option (List D)
 |.tup a=>some a
 |.lst a=>some a
 |.fz a=>some a
 |.ref n=>match S[n]? with
  |some (.lst a)=>some a
  |some (.flst a)=>some a
  |_=>none
 |_=>none
def oIn(neg:Bool):Sto->D->D->Option D:=λS x y=>match bN S y with
 |some a=>if il x=true/\a.all il=true then some (.bl (if neg then !(a.any λz=>eqF z x) else a.any λz=>eqF z x)) else none
 |none=>none
def oIx:Sto->D->D->Option D:=λS x y=>match bN S x,y with
 |some a,.int i=>atI a i
 |_,_=>none
def cutD(xs:List D)(lo hi:Option Int):List D:=(xs.drop (HT.sIx xs.length 0 lo)).take (HT.sIx xs.length xs.length hi-HT.sIx xs.length 0 lo)
section
variable{X:Cx}{E:XK}
theorem RD.int{K:Frag}{v:V}(q:RD K w H (.int i) v):v=.int i:=by unfold RD at q;exact q
theorem RD.bl{K:Frag}{i:Bool}{v:V}(q:RD K w H (.bl i) v):v=.bl i:=by unfold RD at q;exact q
theorem RD.str{K:Frag}{i:Str}{v:V}(q:RD K w H (.str i) v):v=.str i:=by unfold RD at q;exact q
theorem RD.non{K:Frag}{v:V}(q:RD K w H .non v):v=.non:=by unfold RD at q;exact q
def RD.mkI{K:Frag}:RD K w H (.int i) (.int i):=by unfold RD;rfl
def RD.mkB{K:Frag}{i:Bool}:RD K w H (.bl i) (.bl i):=by unfold RD;rfl
def RD.mkS{K:Frag}{i:Str}:RD K w H (.str i) (.str i):=by unfold RD;rfl
def RD.tupI{K:Frag}{ds:List D}{v:V}(q:RD K w H (.tup ds) v):∃a vs,v=.ref a/\(At w H a (.tup vs)\/su K a vs)/\RDs K w H ds vs:=by unfold RD at q;exact q
def RD.lstI{K:Frag}{ds:List D}{v:V}(q:RD K w H (.lst ds) v):∃a vs,v=.ref a/\At w H a (.lst vs)/\RDs K w H ds vs:=by unfold RD at q;exact q
def RD.fzI{K:Frag}{ds:List D}{v:V}(q:RD K w H (.fz ds) v):∃a vs,v=.ref a/\wU K w H a vs/\RDs K w H ds vs:=by unfold RD at q;exact q
def RD.refI{K:Frag}{v:V}(q:RD K w H (.ref n) v):∃a,v=.ref a/\w.st[n]?=some a:=by unfold RD at q;exact q
def RD.newTup{K:Frag}{ds:List D}{vs:List V}(s:RS K w H S)(hp:H p=none)(q:RDs K w H ds vs):RD K w (upd H p (.tup vs)) (.tup ds) (.ref p):=by unfold RD;exact⟨p,vs,rfl,.inl ⟨aP,s.fresh hp⟩,RDs.ext (Ext.new hp) _ _ q⟩
def RD.newLst{K:Frag}{ds:List D}{vs:List V}(s:RS K w H S)(hp:H p=none)(q:RDs K w H ds vs):RD K w (upd H p (.lst vs)) (.lst ds) (.ref p):=by unfold RD;exact⟨p,vs,rfl,⟨aP,s.fresh hp⟩,RDs.ext (Ext.new hp) _ _ q⟩
def DG{f:Value->Value->Sem Value}{C:Int->Int->Prop}{g:Int->Int->D}{gv:Int->Int->V}{o:Sto->D->D->Option D}(h:OpR X f (rI C gv))(hg:∀K w H i j,RD K w H (g i j) (gv i j))
  (ho:∀S d e z,o S d e=some z->∃i j,d=.int i/\e=.int j/\C i j/\z=g i j):OpR X f (xO X.K E o):=by
 rintro pins s σ H x y v u Q I rx ry ⟨w,S,d,e,hS,qd,qe,p⟩;obtain⟨z,hz,p⟩:=p.of;obtain⟨i,j,rfl,rfl,c,rfl⟩:=ho _ _ _ _ hz;cases qd.int;cases qe.int;exact h pins s σ H _ _ v u Q I rx ry ⟨i,j,rfl,rfl,c,p.ret (hg _ _ _ _ _) hS⟩
def uJ{f:Value->Value->Sem Value}{g:Int->Int->D}{gv:Int->Int->V}{o:Sto->D->D->Option D}(h:OpR X f (rI0 gv))(hg:∀K w H i j,RD K w H (g i j) (gv i j))
  (ho:∀S d e z,o S d e=some z->∃i j,d=.int i/\e=.int j/\z=g i j):OpR X f (xO X.K E o):=by
 rintro pins s σ H x y v u Q I rx ry ⟨w,S,d,e,hS,qd,qe,p⟩;obtain⟨z,hz,p⟩:=p.of;obtain⟨i,j,rfl,rfl,rfl⟩:=ho _ _ _ _ hz;cases qd.int;cases qe.int;exact h pins s σ H _ _ v u Q I rx ry ⟨i,j,rfl,rfl,p.ret (hg _ _ _ _ _) hS⟩
def iM:OpR X (binaryOp .Sub) (xO X.K E g9):=uJ (g:=λi j=>.int (i-j)) Gh (λ_ _ _ _ _=>RD.mkI) λS d e z h=>by
 unfold g9 at h;split at h
 .cases h;exact⟨_,_,rfl,rfl,rfl⟩
 .cases h
def sy:OpR X (binaryOp .FloorDiv) (xO X.K E lh):=DG (g:=λi j=>.int (i/j)) Dj (λ_ _ _ _ _=>RD.mkI) λS d e z h=>by
 unfold lh at h;split at h
 .split at h
  .cases h;exact⟨_,_,rfl,rfl,by assumption,rfl⟩
  .cases h
 .cases h
def mr:OpR X (binaryOp .Mod) (xO X.K E oMod):=DG (g:=λi j=>.int (i%j)) Gj (λ_ _ _ _ _=>RD.mkI) λS d e z h=>by
 unfold oMod at h;split at h
 .split at h
  .cases h;exact⟨_,_,rfl,rfl,by assumption,rfl⟩
  .cases h
 .cases h
def sA:OpR X (binaryOp .Pow) (xO X.K E mm):=DG (g:=λi j=>.int (i^j.toNat)) Gk (λ_ _ _ _ _=>RD.mkI) λS d e z h=>by
 unfold mm at h;split at h
 .split at h
  .cases h;exact⟨_,_,rfl,rfl,by assumption,rfl⟩
  .cases h
 .cases h
def GV:OpR X (binaryOp .LShift) (xO X.K E wV):=DG (g:=λi j=>.int (i*2^j.toNat)) Gm (λ_ _ _ _ _=>RD.mkI) λS d e z h=>by
 unfold wV at h;split at h
 .split at h
  .cases h;exact⟨_,_,rfl,rfl,by assumption,rfl⟩
  .cases h
 .cases h
def lj{p:Int->Int->Bool}{d e z:D}(h:mq p S d e=some z):∃i j,d=.int i/\e=.int j/\z=.bl (p i j):=by
 unfold mq at h;split at h
 .cases h;exact⟨_,_,rfl,rfl,rfl⟩
 .cases h
def yk:OpR X (compareOp .Lt) (xO X.K E oLt):=uJ (g:=λi j=>.bl (decide (i<j))) IQ (λ_ _ _ _ _=>RD.mkB) λS d e z h=>lj h
def uK:OpR X (compareOp .LtE) (xO X.K E oLe):=uJ (g:=λi j=>.bl (decide (i<=j))) IS (λ_ _ _ _ _=>RD.mkB) λS d e z h=>lj h
def yl:OpR X (compareOp .Gt) (xO X.K E oGt):=uJ (g:=λi j=>.bl (decide (j<i))) IT (λ_ _ _ _ _=>RD.mkB) λS d e z h=>lj h
def uL:OpR X (compareOp .GtE) (xO X.K E oGe):=uJ (g:=λi j=>.bl (decide (j<=i))) IU (λ_ _ _ _ _=>RD.mkB) λS d e z h=>lj h
def Bo:UnR X (unaryOp .USub) (xU X.K E wW):=by
 rintro pins s σ H x v Q I rx ⟨w,S,d,hS,qd,p⟩;obtain⟨z,hz,p⟩:=p.of;unfold wW at hz;split at hz
 .cases hz;cases qd.int;exact Gn pins s σ H _ v Q I rx ⟨_,rfl,p.ret RD.mkI hS⟩
 .cases hz
def Bp{K:Frag}{d e:D}{x y:V}{c:Bool}(qd:RD K w H d x)(qe:RD K w H e y)(h:eqS d e=some c):Gp x y=true/\decide (x=y)=c:=by
 unfold eqS at h
 split at h<;>(try (cases h;done))<;>(unfold RD at qd qe;subst qd;subst qe;cases h;refine⟨rfl,?_⟩;simp)
def Jn:OpR X (compareOp .Eq) (xO X.K E oEq):=by
 rintro pins s σ H x y v u Q I rx ry ⟨w,S,d,e,hS,qd,qe,p⟩;obtain⟨z,hz,p⟩:=p.of;unfold oEq at hz;cases h:eqS d e with
 |none=>rw[h]at hz;cases hz
 |some c=>
  rw[h]at hz;cases hz;obtain⟨h1,h2⟩:=Bp qd qe h
  exact IM pins s σ H _ _ v u Q I rx ry ⟨h1,by rw[h2];exact p.ret RD.mkB hS⟩
def Jo:OpR X (compareOp .NotEq) (xO X.K E oNe):=by
 rintro pins s σ H x y v u Q I rx ry ⟨w,S,d,e,hS,qd,qe,p⟩;obtain⟨z,hz,p⟩:=p.of;unfold oNe at hz;cases h:eqS d e with
 |none=>rw[h]at hz;cases hz
 |some c=>
  rw[h]at hz;cases hz;obtain⟨h1,h2⟩:=Bp qd qe h
  exact IP pins s σ H _ _ v u Q I rx ry ⟨h1,by rw[h2];exact p.ret RD.mkB hS⟩
def mw{K:Frag}{d:D}{v:V}{a:List D}(s:RS K w H S)(q:RD K w H d v)(h:bN S d=some a):∃p vs,v=.ref p/\(SqL K H p vs\/SqT K H p vs)/\RDs K w H a vs:=by
 unfold bN at h;split at h
 .cases h;obtain⟨p,vs,e,z,r⟩:=q.tupI;exact⟨p,vs,e,.inr (dF z),r⟩
 .cases h;obtain⟨p,vs,e,z,r⟩:=q.lstI;exact⟨p,vs,e,.inl (SqL.of z.1),r⟩
 .cases h;obtain⟨p,vs,e,z,r⟩:=q.fzI;exact⟨p,vs,e,.inl z.sq,r⟩
 .split at h
  .rename_i n b hn;cases h;obtain⟨p,e,hp⟩:=q.refI;obtain⟨p',hp',vs,hv,r⟩:=s.obj _ _ hn;rw[hp]at hp';cases hp';exact⟨p,vs,e,.inl (SqL.of hv),r⟩
  .rename_i n b hn;cases h;obtain⟨p,e,hp⟩:=q.refI;obtain⟨p',hp',o,vs,hv,r⟩:=s.obj _ _ hn;rw[hp]at hp';cases hp';exact⟨p,vs,e,.inl (.inl (.inr ⟨o,hv⟩)),r⟩
  .cases h
 .cases h
theorem RDs.atI{K:Frag}{a:List D}{vs:List V}{d:D}(r:RDs K w H a vs)(h:atI a i=some d):∃v,L2.atI vs i=some v/\RD K w H d v:=by
 unfold L2.atI at h ⊢;rw[r.length];cases e:ixN a.length i with
 |none=>rw[e]at h;cases h
 |some j=>
  rw[e]at h
  obtain⟨v,ev,rv⟩:=r.get (show a[j]?=some d from h)
  exact⟨v,ev,rv⟩
def cN:IxR X (xO X.K E oIx):=by
 rintro va sl pins s σ H x y v u Q I rx ry ⟨w,S,d,e,hS,qd,qe,p⟩ hsub;obtain⟨z,hz,p'⟩:=p.of;clear p;unfold oIx at hz;split at hz
 .rename_i a i ha;obtain⟨q,vs,rfl,sq,r⟩:=mw hS qd ha;cases qe.int;obtain⟨v',ev,rv⟩:=r.atI hz;exact GB va sl pins s σ H _ _ v u Q I rx ry (sq.elim (λz=>.inl ⟨q,vs,i,v',rfl,rfl,z,ev,p'.ret rv hS⟩) λz=>.inr (.inl ⟨q,vs,i,v',rfl,rfl,z,ev,p'.ret rv hS⟩)) hsub
 .cases hz
def ym{K:Frag}{d:D}{v:V}(q:RD K w H d v)(h:il d=true):j0 v=true:=by
 unfold il at h;split at h
 .cases q.non;rfl
 .cases q.bl;rfl
 .cases q.int;rfl
 .cases q.str;rfl
 .cases h
theorem uM{K:Frag}:∀{ds:List D}{vs:List V},RDs K w H ds vs->ds.all il=true->vs.all j0=true
 |[],_,q,_=>by rw[q.nil_inv];rfl
 |d::ds,_,q,h=>by obtain⟨v,r,rfl,p,t⟩:=q.cons_inv;rw[K0,Z9]at h ⊢;exact⟨ym p h.1,uM t h.2⟩
def GW{K:Frag}{d e:D}{x y:V}(qd:RD K w H d x)(qe:RD K w H e y)(h1:il d=true)(h2:il e=true):eqV x y=eqF d e:=by
 unfold il at h1 h2
 split at h1<;>(try (cases h1;done))<;>split at h2<;>(try (cases h2;done))<;>(unfold RD at qd qe;subst qd;subst qe;rfl)
theorem yn{K:Frag}{d:D}{x:V}(qd:RD K w H d x)(hd:il d=true):∀{ds:List D}{vs:List V},RDs K w H ds vs->ds.all il=true->(vs.any λy=>eqV y x)=ds.any λz=>eqF z d
 |[],_,q,_=>by rw[q.nil_inv];rfl
 |e::ds,_,q,h=>by obtain⟨v,r,rfl,p,t⟩:=q.cons_inv;rw[K0,Z9]at h;rw[Qs,Qs,GW p qd h.1 hd,yn qd hd t h.2]
def Bq:OpR X (compareOp .In) (xO X.K E (oIn false)):=by
 rintro pins s σ H x y v u Q I rx ry ⟨w,S,d,e,hS,qd,qe,p⟩;obtain⟨z,hz,p⟩:=p.of;unfold oIn at hz;split at hz
 .rename_i a ha;split at hz
  .rename_i hf;obtain⟨q,vs,rfl,sq,r⟩:=mw hS qe ha;cases hz;refine zH pins s σ H _ _ v u Q I rx ry ⟨q,vs,rfl,sq,ym qd hf.1,uM r hf.2,?_⟩;have hi:inV x vs=a.any λz=>eqF z d:=yn qd hf.1 r hf.2;simp only[Ze,Qy]at p ⊢;rw[hi];exact p.ret RD.mkB hS
  .cases hz
 .cases hz
end
section
open PySem.SeqAt
open PySem.AutoSeq1 (wpAny_loadPart')
open PySem.MeetsSeq PySem.MeetsSeq2 PySem.MeetsSeq3
def sC(a:Int)(t:Tok)(l:Addr)(items:Array Value)(n:Nat)(dd:Option Addr)(sl:Array (Option Value)):
  Meets (Builtin.«int.__rmul__» ⟨[.int a t,.ref l],[]⟩) (λ_ R s=>s.heap.get? l=some { cls:=.type "tuple",dict:=dd,data:=.seq items n,slots:=sl }/\R (.ok (.ret Value.notImplemented)) s):=
 .of_wp λprog w A R s h=>by obtain⟨hp,g,d,tk,os⟩:=s;obtain⟨hl,h⟩:=h;wp_walk using wpAny_loadPart' hl;exact⟨_,rfl,h⟩
def sD(l:Addr)(items:Array Value)(n:Nat)(k:Int)(t:Tok)(dd:Option Addr)(sl:Array (Option Value))(h1:¬(decide (k < -(2^63))||decide (k >= 2^63))=true)(h2:(items.isEmpty||k == 1)=true):
  Meets (Builtin.«tuple.__mul__» ⟨[.ref l,.int k t],[]⟩) (λ_ R s=>s.heap.get? l=some { cls:=.type "tuple",dict:=dd,data:=.seq items n,slots:=sl }/\R (.ok (.ret (.ref l))) s):=
 .of_wp λprog w A R s h=>by obtain⟨hp,g,d,tk,os⟩:=s;obtain⟨hl,h⟩:=h;have f1:=AutoSeq1.idx_int;wp_walk using wpAny_loadPart' hl;rw[Yi h1];wp_walk using wpAny_loadPart' hl;exact⟨_,rfl,h⟩
def sH(l:Addr)(items:Array Value)(n:Nat)(k:Int)(t:Tok)(dd:Option Addr)(sl:Array (Option Value))(h1:¬(decide (k < -(2^63))||decide (k >= 2^63))=true)(h2:¬(items.isEmpty||k == 1)=true)(h3:(decide (k<=0)||items.isEmpty)=true):
  Meets (Builtin.«tuple.__mul__» ⟨[.ref l,.int k t],[]⟩) (λ_ R s=>s.heap.get? l=some { cls:=.type "tuple",dict:=dd,data:=.seq items n,slots:=sl }/\R (.ok (.ret (Value.ref s.heap.objs.size))) { s with heap:=s.heap.push { cls:=Value.type "tuple",data:=Data.seq #[] },toks:=s.toks }):=
 .of_wp λprog w A R s h=>by obtain⟨hp,g,d,tk,os⟩:=s;obtain⟨hl,h⟩:=h;have f1:=AutoSeq1.idx_int;wp_walk using wpAny_loadPart' hl;rw[Yi h1];wp_walk using wpAny_loadPart' hl;exact⟨_,rfl,h⟩
def sJ(l:Addr)(items:Array Value)(n:Nat)(k:Int)(t:Tok)(dd:Option Addr)(sl:Array (Option Value))(h1:¬(decide (k < -(2^63))||decide (k >= 2^63))=true)(h2:¬(items.isEmpty||k == 1)=true)(h3:¬(decide (k<=0)||items.isEmpty)=true)
  (h4:¬(items.size:Int)*k>(2^63-1)/8) (h5:¬Builtin.Tuple.tupleTooMany ((items.size:Int)*k)=true) (hsz:(List.foldl (λx1 x2=>x1++x2) #[] (List.replicate k.toNat items)).size<=sizeLine):
  Meets (Builtin.«tuple.__mul__» ⟨[.ref l,.int k t],[]⟩) (λ_ R s=>s.heap.get? l=some { cls:=.type "tuple",dict:=dd,data:=.seq items n,slots:=sl }/\R (.ok (.ret (Value.ref s.heap.objs.size))) { s with heap:=s.heap.push { cls:=Value.type "tuple",data:=Data.seq (List.foldl (λx1 x2=>x1++x2) #[] (List.replicate k.toNat items)) },toks:=s.toks }):=
 .of_wp λprog w A R s h=>by obtain⟨hp,g,d,tk,os⟩:=s;obtain⟨hl,h⟩:=h;have f1:=AutoSeq1.idx_int;wp_walk using wpAny_loadPart' hl;rw[Yi h1];wp_walk using wpAny_loadPart' hl;rw[Yi h4];wp_walk using wpAny_loadPart' hl;exact⟨_,rfl,h⟩
end
section
variable{prog:Program}{w:World}{A:Around}{E:Value->Shared->Prop}{s:Shared}
def my:fillsNumberSlot (.type "tuple") "mul" = pure false:=
 PySem.fillsNumberSlot_seq (id:="tuple.__mul__") (r:=some (.builtin "tuple.__rmul__")) F.slot_tuple_mul.lookup (by decide +kernel) F.slot_tuple_rmul.lookup (by decide +kernel)
def sL:seqRepeat? (.type "tuple")=pure (some (.builtin "tuple.__mul__")):=by
 unfold seqRepeat?
 rw[PySem.seqSlot_of (T:="tuple") (name:="__mul__") (id:="tuple.__mul__") F.slot_tuple_mul.lookup (by decide +kernel),PySem.seqSlot_of (T:="tuple") (name:="__rmul__") (id:="tuple.__rmul__") F.slot_tuple_rmul.lookup (by decide +kernel)]
 rfl
def DH{t:Addr}{vs:List Value}{k:Int}{tk:Tok}{Q:Value->Shared->Prop}(ht:IsTup s.heap t vs.toArray)(h1:-(2^63)<=k)(h2:k<2^63)(hz:vs.length*k.toNat<=sizeLine)
  (q1:(vs=[]\/k=1)->Q (.ref t) s) (q2:¬(vs=[]\/k=1)->Q (.ref s.heap.objs.size) { s with heap:=s.heap.push { cls:=.type "tuple",data:=.seq (List.replicate k.toNat vs).flatten.toArray } }):
  wpAny (model prog w) A (binaryOp .Mult (.ref t) (.int k tk)) Q E s:=by
 obtain⟨⟨cls,dd,data,sl⟩,ho,hc,n,hd⟩:=id ht;simp only at hc hd;subst hc hd
 have hk:¬(decide (k < -(2^63))||decide (k >= 2^63))=true:=by simp;omega
 refine wpAny_binaryOp_repeat_ref (T:="tuple") (U:="int") (by decide) ⟨_,ho,rfl⟩ (λs'=>Wz s' k tk) my F.fills_int_mul U9 sL F.slot_int_index.lookup
  (V0 U9 (Wz s k tk) F.entry_int_rmul (F.args_int_rmul_2 _ _) (sC k tk t vs.toArray n dd sl) ⟨ho,rfl,⟨_,ho,rfl⟩,?_⟩)
 have hfold:∀m:Nat,List.foldl (λx1 x2=>x1++x2) #[] (List.replicate m vs.toArray)=(List.replicate m vs).flatten.toArray:=λm=>by have:=foldl_rep vs m [];rw[Wc]at this;exact this
 by_cases c1:vs=[]\/k=1
 .refine V0 F.slot_tuple_mul ⟨_,ho,rfl⟩ K5 (Ut _ _) (sD t vs.toArray n k tk dd sl hk ?_) ⟨ho,q1 c1⟩;rcases c1 with rfl|rfl
  .rfl
  .simp
 .have c2:¬(vs.toArray.isEmpty||k == 1)=true:=by
   intro z;rw[M8]at z;rcases z with z|z
   .exact c1 (.inl (by simpa using z))
   .exact c1 (.inr (by simpa using z))
  by_cases c3:k<=0
  .refine V0 F.slot_tuple_mul ⟨_,ho,rfl⟩ K5 (Ut _ _) (sH t vs.toArray n k tk dd sl hk c2 (by simp[c3])) ⟨ho,?_⟩
   have:=q2 c1
   rw[show k.toNat=0 by omega]at this
   exact this
  .have c4:¬(decide (k<=0)||vs.toArray.isEmpty)=true:=by
    intro z;rw[M8]at z;rcases z with z|z
    .exact c3 (Zn z)
    .exact c1 (.inl (by simpa using z))
   have hmul:((vs.toArray.size:Nat):Int)*k=((vs.length*k.toNat:Nat):Int):=by rw[Ys,Int.natCast_mul,Int.toNat_of_nonneg (by omega)]
   have hs0:(sizeLine:Nat)=2^24:=rfl;refine V0 F.slot_tuple_mul ⟨_,ho,rfl⟩ K5 (Ut _ _) (sJ t vs.toArray n k tk dd sl hk c2 c4 ?_ ?_ ?_) ⟨ho,?_⟩
   .rw[hmul];intro z
    have:((2:Int)^63-1)/8 >= 2^24:=by decide
    omega
   .rw[hmul];unfold Builtin.Tuple.tupleTooMany;simp only[Qf];intro z;have z':((sizeLine:Nat):Int)<((vs.length*k.toNat:Nat):Int):=z;omega
   .rw[hfold,Ys,len_rep,Vl];exact hz
   .rw[hfold];exact q2 c1
end
section
variable{prog:Program}{w:World}{A:Around}{E:Value->Shared->Prop}{s:Shared}
def Br{t b:Addr}{ws:List Value}{Q:Value->Shared->Prop}(ht:IsTup s.heap t ([]:List Value).toArray)(hb:IsTup s.heap b ws.toArray)(h:Q (.ref b) s):wpAny (model prog w) A (binaryOp .Add (.ref t) (.ref b)) Q E s:=by obtain⟨⟨cls,dd,data,sl⟩,ho,hc,n,hd⟩:=id ht;obtain⟨⟨cls2,dd2,data2,sl2⟩,ho2,hc2,n2,hd2⟩:=id hb;simp only at hc hd hc2 hd2;subst hc hd hc2 hd2;exact concat_meets ⟨_,ho,rfl⟩ ⟨_,ho2,rfl⟩ noFill_tuple_add seq_tuple_add Vt Vp (Vj _ _) (tuple_addW0 t b _ ws.toArray n n2 dd dd2 sl sl2 rfl) ⟨ho,ho2,h⟩
open HT in
theorem jU{t sl:Addr}{items:Array Value}{vl vu:Value}{lo hi:Option Int}{Q:Value->Shared->Prop}(ht:IsTup s.heap t items)(hs:s.heap.IsSliceOf sl vl vu .none)(pl:IsPart vl lo)(pu:IsPart vu hi)
  (hw:sIx items.size 0 lo=0/\sIx items.size items.size hi=items.size) (h:Q (.ref t) s):wpAny (model prog w) A (getItem (.ref t) (.ref sl)) Q E s:=by
 obtain⟨os,hos,hcs,hds⟩:=id hs;have hTs:s.TypeIs (.ref sl) "slice":=⟨os,hos,hcs⟩
 unfold getItem
 try with_reducible refine Qr ?_
 first|refine Y6 (Ye ?_)|skip
 refine Y6 (wpAny_sequenceKey ht.typeIs (by decide) ?_)
 refine Y6 (Q5 (name:=Str.ofString "__getitem__") ht.typeIs W8
  (Qk W8 ht.typeIs entry_tuple_getitem ?_ (args_tuple_getitem _ _)))
 show wpAny _ _ (Builtin.Tuple.tupleItemsOf (.ref t) >>= _) _ _ s;refine Y6 (tupleItemsOf_ ht ?_);refine Y6 (M0 hTs ?_)
 rw[Y8 (by decide)]
 refine Y6 (ij hs pl pu ?_)
 have hyes:(((sIx items.size 0 lo:Nat):Int) == 0&&(1:Int) == 1&&(sIx items.size items.size hi-sIx items.size 0 lo) == items.size)=true:=by rw[hw.1,hw.2];simp
 show wpAny _ _ (if (((sIx items.size 0 lo:Nat):Int) == 0&&(1:Int) == 1&&(sIx items.size items.size hi-sIx items.size 0 lo) == items.size)=true then _ else _) _ _ s
 rw[Y8 hyes];obtain⟨ob,hob,hcl,_⟩:=id ht
 have hex:∀{Q':Bool->Shared->Prop},Q' true s->wpAny (model prog w) A.in1 (Builtin.Tuple.tupleIsExact (.ref t)) Q' E s:=λq=>by unfold Builtin.Tuple.tupleIsExact;refine Y6 (M0 ht.typeIs (Ye ?_));exact q
 refine Y6 (hex ?_);rw[Y8 rfl]
 first
  |exact Y6 (Wa (Ye ⟨_,rfl,Ye h⟩))
  |exact Y6 (Wa (Y6 (Ye ⟨_,rfl,Ye h⟩)))
  |exact Y6 (Wa (Y6 (Ye (Ye ⟨_,rfl,Ye h⟩))))
  |exact Y6 (Y6 (Wa (Ye (Ye ⟨_,rfl,Ye h⟩))))
end
section
variable{X:Cx}{E:XK}
def ll{K:Frag}{vs:List V}{ds:List D}(z:At w H p (.tup vs)\/su K p vs)(r:RDs K w H ds vs):RD K w H (.tup ds) (.ref p):=by unfold RD;exact⟨p,vs,rfl,z,r⟩
def bc:OpR X (binaryOp .Add) (xO X.K E aT):=by
 rintro pins s σ H x y v u Q I rx ry ⟨w,S,d,e,hS,qd,qe,p⟩;obtain⟨z,hz,p'⟩:=p.of;clear p;unfold aT at hz;split at hz
 .cases hz;cases qd.int;cases qe.int;exact Gg pins s σ H _ _ v u Q I rx ry ⟨_,_,rfl,rfl,p'.ret RD.mkI hS⟩
 .split at hz
  .cases hz;cases qd.str;cases qe.str
   exact wH pins s σ H _ _ v u Q I rx ry ⟨_,_,rfl,rfl,by assumption,p'.ret RD.mkS hS⟩
  .cases hz
 .split at hz
  .rename_i S' a b hl;cases hz;obtain⟨pa,xs,rfl,za,ra⟩:=qd.tupI;obtain⟨pb,ys,rfl,zb,rb⟩:=qe.tupI;by_cases ha:a=[]
   .subst ha;have hxs:=ra.nil_inv;subst hxs;cases rx;cases ry;obtain⟨its,r1,p1,_⟩:=I.tuple (dF za);obtain⟨its2,r2,p2,_⟩:=I.tuple (dF zb);have:its=[]:=r1.nil_iff.mpr rfl;subst this;exact Br p1 p2 ⟨.ref pb,H,I,rfl,p'.ret (ll zb rb) hS⟩
   .refine Du pins s σ H _ _ v u Q I rx ry ⟨pa,pb,xs,ys,rfl,rfl,dF za,dF zb,λz=>ha ?_,by rw[ra.length,rb.length];exact hl,λz=>?_,λz q hq=>?_⟩
    .have:=ra.length;rw[z]at this;exact Wf.mp this.symm
    .have hb:b=[]:=by have:=rb.length;rw[z]at this;exact Wf.mp this.symm
     subst hb;rw[Qh]at p';exact p'.ret (ll za ra) hS
    .exact p'.at (Ext.new hq) (RD.newTup hS hq (ra.append rb)) (hS.new hq)
  .cases hz
 .split at hz
  .rename_i S' a b hl;cases hz;obtain⟨pa,xs,rfl,za,ra⟩:=qd.lstI;obtain⟨pb,ys,rfl,zb,rb⟩:=qe.lstI
   exact GG pins s σ H _ _ v u Q I rx ry ⟨pa,pb,xs,ys,rfl,rfl,za.1,zb.1,by rw[ra.length,rb.length];exact hl,λq hq=>p'.at (Ext.new hq) (RD.newLst hS hq (ra.append rb)) (hS.new hq)⟩
  .cases hz
 .cases hz
theorem RDs.rep{K:Frag}{ds:List D}{vs:List V}(r:RDs K w H ds vs):∀k:Nat,RDs K w H (List.replicate k ds).flatten (List.replicate k vs).flatten
 |0=>by simp;exact .nil
 |k+1=>by rw[W4,W4,Wm,Wm];exact r.append (RDs.rep r k)
def eL:OpR X (binaryOp .Mult) (xO X.K E cI):=by
 rintro pins s σ H x y v u Q I rx ry ⟨w,S,d,e,hS,qd,qe,p⟩;obtain⟨z,hz,p'⟩:=p.of;clear p;unfold cI at hz;split at hz
 .split at hz
  .cases hz;cases qd.int;cases qe.int
   exact Gi pins s σ H _ _ v u Q I rx ry ⟨_,_,rfl,rfl,by assumption,p'.ret RD.mkI hS⟩
  .cases hz
 .split at hz
  .rename_i S' a k hl;cases hz;obtain⟨pa,xs,rfl,za,ra⟩:=qd.tupI;cases qe.int;cases rx;obtain⟨t,rfl⟩:=ry;obtain⟨its,r1,p1,_⟩:=I.tuple (dF za)
   have e1:its.length=a.length:=by rw[<- r1.length,ra.length]
   refine DH p1 hl.1 hl.2.1 (by rw[e1];exact hl.2.2) (λc=>?_) λc=>?_
   .refine⟨.ref pa,H,I,rfl,?_⟩
    have:(List.replicate k.toNat a).flatten=a:=by
     rcases c with c|c
     .have:a=[]:=by rw[c]at e1;exact Wf.mp e1.symm
      subst this;simp
     .subst c;simp
    rw[this]at p';exact p'.ret (ll za ra) hS
   .have hn:H s.heap.objs.size=none:=I.hok.fresh (Yd _);refine⟨.ref s.heap.objs.size,_,I.laid (t':=s.toks) (o:=.tup (List.replicate k.toNat xs).flatten) (λb ob q=>Y7 _ q) (Yd _) ?_,rfl,p'.at (Ext.new hn) (RD.newTup hS hn (ra.rep _)) (hS.new hn)⟩
    exact⟨by rw[len_rep,Vl,ra.length];exact hl.2.2,_,r1.rep _,IsTup.new _ _⟩
  .cases hz
 .split at hz
  .rename_i S' a k hl;cases hz;obtain⟨pa,xs,rfl,za,ra⟩:=qd.lstI;cases qe.int
   exact GH pins s σ H _ _ v u Q I rx ry ⟨pa,k,xs,rfl,rfl,za.1,hl.1,hl.2.1,by rw[ra.length];exact hl.2.2,λq hq=>p'.at (Ext.new hq) (RD.newLst hS hq (ra.rep _)) (hS.new hq)⟩
  .cases hz
 .cases hz
def bV{a b:Expr}{mb:EM}{pos:Pos}{f:Sto->D->D->Option D}(hr:IxR X (xO X.K E f))(ha:SE X E a ma)(hb:SE X E b mb)(hs:nU b:=by intro _ _;kernel_rfl):SE X E (.Subscript a b pos) (eOp f ma mb):=⟨
 bb (Jc hr ha.out hb.out hs) λs H Q zq=>ex6 zq λw r S hr hS hp=>⟨w,r,S,hr,hS,hp.bind hS λd S1 w1 H1 v x1 q1 s1 p1=>
  ⟨w1,r,S1,hr.ext x1,s1,p1.bind s1 λe S2 w2 H2 u x2 q2 s2 p2=>⟨w2,S2,d,e,s2,RD.ext x2 d v q1,q2,p2⟩⟩⟩⟩
abbrev OM:=Rho->Sto->R (Option Int)
def ROp(w:Wd)(H:Hp)(a b:Option Int):Prop:=b=a
def uO(K:Frag)(E:XK)(m:OM):TO:=λs H Q=>∃w r S,RSt K w H r s/\RS K w H S/\aD K E ROp w H (m r S) Q
def oNo:OM:=λ_ S=>.ok none S
def gJ(a:EM):OM:=λr S=>(a r S).bind λx S1=>match x with
 |.int i=>.ok (some i) S1
 |_=>.bad
abbrev SO'(X:Cx)(E:XK)(e:Option Expr)(m:OM):Prop:=Bx (PO X e (uO X.K E m))
def jI:SO' X E none oNo:=⟨λpins s σ H Q I zq=>ex6 zq λw r S hr hS hp=>Ds pins s σ H Q I (hp.ret rfl hS)⟩
def jJ{a:Expr}(ha:SE X E a ma):SO' X E (some a) (gJ ma):=⟨λpins s σ H Q I zq=>ex6 zq λw r S hr hS hp=>Dt ha.out pins s σ H Q I
 ⟨w,r,S,hr,hS,hp.bind hS λd S1 w1 H1 v x1 q1 s1 p1=>by
  cases d with
  |int i=>cases q1.int;exact⟨i,rfl,p1.ret rfl s1⟩
  |_=>exact p1.elim⟩⟩
def xL(K:Frag)(E:XK)(f:Sto->D->Option Int->Option Int->Option D):V->Option Int->Option Int->Hp->VK->Prop:=λx lo hi H Q=>∃w S d,RS K w H S/\RD K w H d x/\aD K E (RD K) w H (R.of S (f S d lo hi)) Q
def eSl(f:Sto->D->Option Int->Option Int->Option D)(a:EM)(lo hi:OM):EM:=λr S=>(a r S).bind λx S1=>(lo r S1).bind λl S2=>(hi r S2).bind λu S3=>R.of S3 (f S3 x l u)
def qJ{a:Expr}{lo hi:Option Expr}{ml mh:OM}{p2 pos:Pos}{f:Sto->D->Option Int->Option Int->Option D}(hf:SlR X (xL X.K E f))(ha:SE X E a ma)(hl:SO' X E lo ml)(hh:SO' X E hi mh):
  SE X E (.Subscript a (.Slice lo hi none p2) pos) (eSl f ma ml mh):=⟨
 bb (A7 hf ha.out hl.out hh.out) λs H Q zq=>ex6 zq λw r S hr hS hp=>⟨w,r,S,hr,hS,hp.bind hS λd S1 w1 H1 v x1 q1 s1 p1=>
  ⟨w1,r,S1,hr.ext x1,s1,p1.bind s1 λl S2 w2 H2 l' x2 q2 s2 p2=>⟨w2,r,S2,(hr.ext x1).ext x2,s2,p2.bind s2 λu S3 w3 H3 u' x3 q3 s3 p3=>by
   have e1:l'=l:=q2;have e2:u'=u:=q3;subst e1 e2
   exact⟨w3,S3,d,s3,RD.ext x3 _ _ (RD.ext x2 _ _ q1),p3⟩⟩⟩⟩⟩
def iN:Sto->D->Option Int->Option Int->Option D
 |_,.tup a,lo,hi=>some (.tup (cutD a lo hi))
 |_,.lst a,lo,hi=>some (.lst (cutD a lo hi))
 |_,_,_,_=>none
def RDs.cut{K:Frag}{ds:List D}{vs:List V}(r:RDs K w H ds vs)(lo hi:Option Int):RDs K w H (cutD ds lo hi) (uo vs lo hi):=by unfold cutD uo;rw[r.length];exact(r.drop _).take _
def mz:SlR X (xL X.K E iN):=by
 rintro pins s σ H x v vl vu lo hi sl Q I rx hs pl pu ⟨w,S,d,hS,qd,p⟩;obtain⟨z,hz,p'⟩:=p.of;clear p;unfold iN at hz;split at hz
 .rename_i a;cases hz;obtain⟨pa,xs,rfl,za,ra⟩:=qd.tupI;by_cases hw:HT.sIx xs.length 0 lo=0/\HT.sIx xs.length xs.length hi=xs.length
  .cases rx;obtain⟨its,r,ht,hz⟩:=I.tuple (dF za)
   have hlen:its.toArray.size=xs.length:=by rw[Ys];exact r.length.symm
   refine⟨"tuple",_,PyProof.Rows.slot_tuple_getitem.lookup,ht.typeIs,?_⟩
   refine jU ht hs pl pu (by rw[hlen];exact hw) ⟨.ref pa,H,I,rfl,?_⟩
   have e:cutD a lo hi=a:=by unfold cutD;rw[<- ra.length,hw.1,hw.2];rw[List.drop_zero,Nat.sub_zero,ra.length,Va]
   rw[e]at p';exact p'.ret (ll za ra) hS
  .exact Gz pins s σ H _ v vl vu lo hi sl Q I rx hs pl pu ⟨pa,xs,rfl,dF za,hw,λq hq=>p'.at (Ext.new hq) (RD.newTup hS hq (ra.cut lo hi)) (hS.new hq)⟩
 .rename_i a;cases hz;obtain⟨pa,xs,rfl,za,ra⟩:=qd.lstI;exact Dx pins s σ H _ v vl vu lo hi sl Q I rx hs pl pu ⟨pa,xs,rfl,SqL.of za.1,λq hq=>p'.at (Ext.new hq) (RD.newLst hS hq (ra.cut lo hi)) (hS.new hq)⟩
 .cases hz
def cW:Sto->List D->Option D
 |_,[.str x]=>if x.length<=sizeLine then some (.int x.length) else none
 |_,[.dic x]=>some (.int x.length)
 |S,[d]=>match bN S d with
  |some a=>some (.int a.length)
  |none=>match d with
   |.ref n=>match S[n]? with
    |some (.dic kvs)=>some (.int kvs.length)
    |_=>none
   |_=>none
 |_,_=>none
theorem RDk.length{K:Frag}:∀{ds:List (Sum Int Str×D)}{vs:List (Key×V)},RDk K w H ds vs->vs.length=ds.length
 |[],_,h=>by unfold RDk at h;rw[h];rfl
 |(k,d)::ds,_,h=>by unfold RDk at h;obtain⟨v,r,rfl,_,q⟩:=h;simp[RDk.length q]
def d7:bI X (.builtin "len") (xC X.K E cW):=by
 rintro pins s σ H xs us Q I r ⟨w,S,ds,hS,qs,p⟩;obtain⟨z,hz,p'⟩:=p.of;clear p;unfold cW at hz;split at hz
 .split at hz
  .cases hz;obtain⟨v,rfl,q⟩:=qs.one_inv;cases q.str
   exact sj pins s σ H _ us Q I r ⟨_,rfl,by assumption,p'.ret RD.mkI hS⟩
  .cases hz
 .cases hz;obtain⟨v,rfl,q⟩:=qs.one_inv;unfold RD at q;obtain⟨a,uu,rfl,z,rk⟩:=q
  exact qI pins s σ H _ us Q I r ⟨_,_,rfl,z.1,by rw[rk.length];exact p'.ret RD.mkI hS⟩
 .obtain⟨v,rfl,q⟩:=qs.one_inv;split at hz
  .rename_i a ha;cases hz;obtain⟨pp,vs,rfl,sq,ra⟩:=mw hS q ha
   exact si pins s σ H _ us Q I r ⟨pp,vs,rfl,sq,by rw[ra.length];exact p'.ret RD.mkI hS⟩
  .split at hz
   .split at hz
    .rename_i n kvs hn;cases hz;obtain⟨pp,rfl,hp⟩:=q.refI;obtain⟨p2,hp2,vs,hv,rk⟩:=hS.obj _ _ hn;rw[hp]at hp2;cases hp2
     exact qI pins s σ H _ us Q I r ⟨_,_,rfl,hv,by rw[rk.length];exact p'.ret RD.mkI hS⟩
    .cases hz
   .cases hz
 .cases hz
def Bs:Sto->List D->Option D
 |_,[.int i]=>some (.int (if i<0 then -i else i))
 |_,_=>none
def GX:bI X (.builtin "abs") (xC X.K E Bs):=by
 rintro pins s σ H xs us Q I r ⟨w,S,ds,hS,qs,p⟩;obtain⟨z,hz,p'⟩:=p.of;clear p;unfold Bs at hz;split at hz
 .cases hz;obtain⟨v,rfl,q⟩:=qs.one_inv;cases q.int;exact AX pins s σ H _ us Q I r ⟨_,rfl,p'.ret RD.mkI hS⟩
 .cases hz
def uN:Sto->List D->Option D
 |_,[.int i,.int j]=>some (.int (if j>i then j else i))
 |_,_=>none
def Bt(hc:X.calm=true):bI X (.builtin "max") (xC X.K E uN):=by
 rintro pins s σ H xs us Q I r ⟨w,S,ds,hS,qs,p⟩;obtain⟨z,hz,p'⟩:=p.of;clear p;unfold uN at hz;split at hz
 .cases hz;obtain⟨v,u,rfl,q,q'⟩:=qs.two_inv;cases q.int;cases q'.int;exact zA hc pins s σ H _ us Q I r ⟨_,_,rfl,p'.ret RD.mkI hS⟩
 .cases hz
def sM:Sto->List D->Option D
 |_,[.int i,.int j]=>some (.int (if j<i then j else i))
 |_,_=>none
def wX(hc:X.calm=true):bI X (.builtin "min") (xC X.K E sM):=by
 rintro pins s σ H xs us Q I r ⟨w,S,ds,hS,qs,p⟩;obtain⟨z,hz,p'⟩:=p.of;clear p;unfold sM at hz;split at hz
 .cases hz;obtain⟨v,u,rfl,q,q'⟩:=qs.two_inv;cases q.int;cases q'.int;exact zB hc pins s σ H _ us Q I r ⟨_,_,rfl,p'.ret RD.mkI hS⟩
 .cases hz
def nV:Sto->List D->Option D
 |_,[.int i,.int j]=>if 0<j/\j<1073741824 then some (.tup [.int (i/j),.int (i%j)]) else none
 |_,_=>none
def zO:bI X (.builtin "divmod") (xC X.K E nV):=by
 rintro pins s σ H xs us Q I r ⟨w,S,ds,hS,qs,p⟩;obtain⟨z,hz,p'⟩:=p.of;clear p;unfold nV at hz;split at hz
 .split at hz
  .cases hz;obtain⟨v,u,rfl,q,q'⟩:=qs.two_inv;cases q.int;cases q'.int
   exact uh pins s σ H _ us Q I r ⟨_,_,rfl,by assumption,λt ht=>p'.at (Ext.new ht) (RD.newTup hS ht (.cons RD.mkI (.cons RD.mkI .nil))) (hS.new ht)⟩
  .cases hz
 .cases hz
def mB:Sto->List D->Option D
 |_,[.int i]=>some (.int i)
 |_,[.bl b]=>some (.int (if b then 1 else 0))
 |_,_=>none
def wY:bI X (.type "int") (xC X.K E mB):=by
 rintro pins s σ H xs us Q I r ⟨w,S,ds,hS,qs,p⟩;obtain⟨z,hz,p'⟩:=p.of;clear p;unfold mB at hz;split at hz
 .cases hz;obtain⟨v,rfl,q⟩:=qs.one_inv;cases q.int;exact qw pins s σ H _ us Q I r (.inl ⟨_,rfl,p'.ret RD.mkI hS⟩)
 .cases hz;obtain⟨v,rfl,q⟩:=qs.one_inv;cases q.bl;exact qw pins s σ H _ us Q I r (.inr ⟨_,rfl,p'.ret RD.mkI hS⟩)
 .cases hz
def jm:Sto->List D->Option D
 |_,[.tup a]=>some (.tup a)
 |S,[d]=>(bN S d).map .tup
 |_,_=>none
def oH:bI X (.type "tuple") (xC X.K E jm):=by
 rintro pins s σ H xs us Q I r ⟨w,S,ds,hS,qs,p⟩;obtain⟨z,hz,p'⟩:=p.of;clear p;unfold jm at hz;split at hz
 .cases hz;obtain⟨v,rfl,q⟩:=qs.one_inv;obtain⟨pa,vs,rfl,za,ra⟩:=q.tupI;exact j5 pins s σ H _ us Q I r ⟨pa,vs,rfl,.inr ⟨dF za,p'.ret (ll za ra) hS⟩⟩
 .rename_i d hd;obtain⟨v,rfl,q⟩:=qs.one_inv;cases ha:bN S d with
  |none=>rw[ha]at hz;cases hz
  |some a=>
   rw[ha]at hz;cases hz
   have hq:∃pa vs,v=.ref pa/\SqL X.K H pa vs/\RDs X.K w H a vs:=by
    unfold bN at ha;split at ha
    .exact(hd _ rfl).elim
    .cases ha;obtain⟨p,vs,e,z,r⟩:=q.lstI;exact⟨p,vs,e,SqL.of z.1,r⟩
    .cases ha;obtain⟨p,vs,e,z,r⟩:=q.fzI;exact⟨p,vs,e,z.sq,r⟩
    .split at ha
     .rename_i n b hn;cases ha;obtain⟨p,e,hp⟩:=q.refI;obtain⟨p2,hp2,vs,hv,rk⟩:=hS.obj _ _ hn;rw[hp]at hp2;cases hp2;exact⟨p,vs,e,SqL.of hv,rk⟩
     .rename_i n b hn;cases ha;obtain⟨p,e,hp⟩:=q.refI;obtain⟨p2,hp2,o,vs,hv,rk⟩:=hS.obj _ _ hn;rw[hp]at hp2;cases hp2;exact⟨p,vs,e,.inl (.inr ⟨o,hv⟩),rk⟩
     .cases ha
    .cases ha
   obtain⟨pa,vs,rfl,sq,ra⟩:=hq;exact j5 pins s σ H _ us Q I r ⟨pa,vs,rfl,.inl ⟨sq,λt ht=>p'.at (Ext.new ht) (RD.newTup hS ht ra) (hS.new ht)⟩⟩
 .cases hz
def uP:Sto->List D->Option D
 |S,[d]=>(bN S d).map .lst
 |_,_=>none
def DI:bI X (.type "list") (xC X.K E uP):=by
 rintro pins s σ H xs us Q I r ⟨w,S,ds,hS,qs,p⟩;obtain⟨z,hz,p'⟩:=p.of;clear p;unfold uP at hz;split at hz
 .rename_i d;obtain⟨v,rfl,q⟩:=qs.one_inv;cases ha:bN S d with
  |none=>rw[ha]at hz;cases hz
  |some a=>
   rw[ha]at hz;cases hz;obtain⟨pa,vs,rfl,sq,ra⟩:=mw hS q ha;exact sk pins s σ H _ us Q I r ⟨pa,vs,rfl,sq,λt ht=>p'.at (Ext.new ht) (RD.newLst hS ht ra) (hS.new ht)⟩
 .cases hz
end
section
variable{X:Cx}{E:XK}
def boolsOf:List D->Option (List Bool)
 |[]=>some []
 |.bl b::r=>(boolsOf r).map (b :: ·)
 |_::_=>none
def nC:Sto->List D->Option D
 |_,[.lst a]=>(boolsOf a).map λbs=>.bl (bs.all id)
 |_,_=>none
theorem uQ{K:Frag}:∀{ds:List D}{vs:List V}{us:List Value}{bs:List Bool},RDs K w H ds vs->Vals vs us->boolsOf ds=some bs->LSm.BoolsAre us bs
 |[],_,_,_,q,r,h=>by rw[q.nil_inv]at r;cases r;unfold boolsOf at h;cases h;exact .nil
 |d::ds,_,_,bs,q,r,h=>by
  obtain⟨v,vs,rfl,p,t⟩:=q.cons_inv;cases d with
  |bl b=>
   unfold boolsOf at h;cases e:boolsOf ds with
   |none=>rw[e]at h;cases h
   |some cs=>
    rw[e]at h;cases h;cases p.bl;cases r with
    |cons r1 r2=>
     cases r1;exact .cons b (uQ t r2 e)
  |_=>unfold boolsOf at h;cases h
def sN(hc:X.calm=true):bI X (.builtin "all") (xC X.K E nC):=by
 rintro pins s σ H xs us Q I r ⟨w,S,ds,hS,qs,p⟩;obtain⟨z,hz,p'⟩:=p.of;clear p;unfold nC at hz;split at hz
 .rename_i a;cases e:boolsOf a with
  |none=>rw[e]at hz;cases hz
  |some bs=>
   rw[e]at hz;cases hz;obtain⟨v,rfl,q⟩:=qs.one_inv;obtain⟨pa,vs,rfl,za,ra⟩:=q.lstI;obtain⟨u,rfl,ru⟩:=Wb r;cases ru;obtain⟨its,r1,⟨o,n,ho,hcl,hdn,hd⟩,_⟩:=I.list (SqL.of za.1);have hb:=uQ ra r1 e;have hlt:pa<s.heap.objs.size:=Yn ho;have hl:s.heap.IsList pa its.toArray:=⟨o,ho,hcl,n,hd⟩;refine call_all_walk (Qd hl ?_)
   refine⟨s.heap.objs.size,[s.heap.objs.size,pa],[s.heap.objs.size],its.toArray.size,_,_,λi=>(bs[i]?).getD true,rfl,Ub (A:=X.A.in1) (I.ok.hd hc) _ pa (Yt hlt) its.toArray,
    ⟨⟨_,Yg _ rfl,rfl,rfl⟩,hl.push _⟩,λi v s' Q' E' hP hQ=>?_,λh' tk hk=>?_⟩
   .obtain⟨b,e,rfl⟩:=hb.get i v (by simpa using hP)
    simp only[e,Option.getD_some]at hQ;exact Qc hQ
   .have e:((List.range its.toArray.size).all λi=>(bs[i]?).getD true)=bs.all id:=by rw[Ys,hb.length];exact LSm.range_all bs
    rw[e];exact⟨.bl _,H,I.kept (LSm.kept_iter hk),rfl,p'.ret RD.mkB hS⟩
 .cases hz
def tyD(S:Sto):D->Option String
 |.non=>some "NoneType"
 |.bl _=>some "bool"
 |.int _=>some "int"
 |.str _=>some "str"
 |.tup _=>some "tuple"
 |.lst _=>some "list"
 |.fz _=>none
 |.dic _=>some "dict"
 |.ref n=>match S[n]? with
  |some (.lst _)=>some "list"
  |some (.dic _)=>some "dict"
  |_=>none
 |.ty _=>none
 |.exc _ _=>none
 |.cls _=>none
def hJ:List String:=["int","bool","tuple","str","list","dict"]
def kr:Sto->List D->Option D
 |S,[d,.ty T]=>match tyD S d with
  |some t=>if T∈hJ then some (.bl (t == T||(t == "bool" && T == "int"))) else none
  |none=>none
 |_,_=>none
def GY(K:Frag){t:String}(ht:t∈["NoneType","bool","int","str","tuple","list","dict"])(hT:T∈hJ):kitOne K (.type t) (.type T)=some (t == T||(t == "bool" && T == "int")):=by unfold hJ at hT;simp only[Yc,Yx,Zl]at ht hT;rcases ht with rfl|rfl|rfl|rfl|rfl|rfl|rfl<;>rcases hT with rfl|rfl|rfl|rfl|rfl|rfl<;>first|rfl|(with_unfolding_all rfl)|(unfold kitOne kitCls;with_unfolding_all decide)
theorem DJ{K:Frag}{d:D}{v:V}{t:String}(hS:RS K w H S)(q:RD K w H d v)(h:tyD S d=some t)(hk:∀a vs,¬su K a vs\/True):
  (L2.TyOf K H v (.type t) \/ ∃a vs,v=.ref a/\t = "tuple"/\su K a vs)/\t∈["NoneType","bool","int","str","tuple","list","dict"]:=by
 cases d with
 |non=>cases q.non;cases h;exact⟨.inl .non,by simp⟩
 |bl b=>cases q.bl;cases h;exact⟨.inl (.bl b),by simp⟩
 |int i=>cases q.int;cases h;exact⟨.inl (.int i),by simp⟩
 |str x=>cases q.str;cases h;exact⟨.inl (.str x),by simp⟩
 |tup ds=>
  obtain⟨p,vs,rfl,z,_⟩:=q.tupI;cases h
  refine⟨?_,by simp⟩
  rcases z with z|z
  .exact .inl (.tup z.1)
  .exact .inr ⟨p,vs,rfl,rfl,z⟩
 |lst ds=>obtain⟨p,vs,rfl,z,_⟩:=q.lstI;cases h;exact⟨.inl (.lst z.1),by simp⟩
 |fz ds=>cases h
 |dic kvs=>unfold RD at q;obtain⟨p,us,rfl,z,_⟩:=q;cases h;exact⟨.inl (.dK z.1),by simp⟩
 |ref n=>
  obtain⟨p,rfl,hp⟩:=q.refI;unfold tyD at h;simp only at h;cases e:S[n]? with
  |none=>rw[e]at h;cases h
  |some o=>
   rw[e]at h;obtain⟨p',hp',r⟩:=hS.obj n o e;rw[hp]at hp';cases hp';cases o with
   |lst a=>cases h;obtain⟨vs,hv,_⟩:=r;exact⟨.inl (.lst hv),by simp⟩
   |dic a=>cases h;obtain⟨vs,hv,_⟩:=r;exact⟨.inl (.dK hv),by simp⟩
   |fdic a=>cases h
   |ins c fs=>cases h
   |flst a=>cases h
 |ty n=>cases h
 |exc c=>cases h
 |cls c=>cases h
def oI:bI X (.builtin "isinstance") (xC X.K E kr):=by
 rintro pins s σ H xs us Q I r ⟨w,S,ds,hS,qs,p⟩;obtain⟨z,hz,p'⟩:=p.of;clear p;unfold kr at hz;split at hz
 .rename_i d T;split at hz
  .rename_i t ht;split at hz
   .rename_i hT;cases hz;obtain⟨v,u,rfl,q,q'⟩:=qs.two_inv;unfold RD at q';subst q';obtain⟨v1,v2,rfl,rv,rt⟩:=vals2 r
    cases (show v2=Value.type T from rt)
    obtain⟨ty,hm⟩:=DJ hS q ht λ_ _=>.inr trivial;have kk:=GY X.K hm hT;rcases ty with ty|⟨a,vs,rfl,rfl,kt⟩
    .exact zE I rv ty kk λtk=>⟨.bl _,H,I.tok tk,rfl,p'.ret RD.mkB hS⟩
    .cases (show v1=Value.ref a from rv)
     obtain⟨o,its,n,e,hcl,_⟩:=kt
     exact Zt kitx_tuple I.kIn ⟨o,I.kIn _ _ e,hcl⟩ kk (λz=>nomatch z) λtk=>⟨.bl _,H,I.tok tk,rfl,p'.ret RD.mkB hS⟩
   .cases hz
  .cases hz
 .cases hz
def Bu:Sto->D->D->D->Option Sto
 |S,.ref n,.int i,v=>match S[n]? with
  |some (.lst a)=>(ixN a.length i).map λj=>S.set n (.lst (a.set j v))
  |_=>none
 |_,_,_,_=>none
def Bv:rY X (xS X.K Bu):=by
 rintro pins s σ H o i v ov iv u Q I ro ri ru ⟨w,S,x,y,z,S',hS,qx,qy,qz,hf,k⟩;unfold Bu at hf;split at hf
 .rename_i n j;split at hf
  .rename_i a hn;cases e:ixN a.length j with
   |none=>rw[e]at hf;cases hf
   |some m=>
    rw[e]at hf;cases hf;obtain⟨p,rfl,hp⟩:=qx.refI;cases qy.int;obtain⟨p',hp',vs,hv,ra⟩:=hS.obj _ _ hn;rw[hp]at hp';cases hp';have hm:p∈w.st:=Zh hp
    refine set_list pins s σ H _ _ _ ov iv u Q I ro ri ru ⟨p,vs,j,m,rfl,rfl,hv,by rw[ra.length];exact e,k w _ (Ext.mut hm hv) ?_⟩
    exact hS.mut hp hv ⟨_,aP,RDs.ext (Ext.mut hm hv) _ _ (RDs.set qz m ra)⟩
  .cases hf
 .cases hf
def xM(K:Frag)(E:XK)(f:Sto->D->List D->R D):V->List V->Hp->VK->Prop:=λx xs H Q=>∃w S d ds,RS K w H S/\RD K w H d x/\RDs K w H ds xs/\aD K E (RD K) w H (f S d ds) Q
def isL(S:Sto):D->Bool
 |.lst _=>true
 |.fz _=>true
 |.ref n=>match S[n]? with
  |some (.lst _)=>true
  |_=>false
 |_=>false
def Bw{K:Frag}{d:D}{v:V}(hS:RS K w H S)(q:RD K w H d v)(h:isL S d=true):tyV K "list" v H:=by
 cases d with
 |lst ds=>obtain⟨p,vs,rfl,z,_⟩:=q.lstI;exact .inl ⟨rfl,vs,SqL.of z.1⟩
 |fz ds=>obtain⟨p,vs,rfl,z,_⟩:=q.fzI;exact .inl ⟨rfl,vs,z.sq⟩
 |ref n=>
  obtain⟨p,rfl,hp⟩:=q.refI;unfold isL at h;simp only at h;cases e:S[n]? with
  |none=>rw[e]at h;cases h
  |some o=>
   rw[e]at h;cases o with
   |lst a=>
    obtain⟨p',hp',vs,hv,_⟩:=hS.obj n _ e;rw[hp]at hp';cases hp';exact .inl ⟨rfl,vs,SqL.of hv⟩
   |_=>cases h
 |_=>cases h
def sO(f:Sto->D->List D->R D)(o:EM)(t:AM):EM:=λr S=>(o r S).bind λx S1=>if isL S1 x=true then (t r S1).bind λys S2=>f S2 x ys else .bad
def wZ{o e:Expr}{es:List Expr}{mo:EM}{ms:AM}{name:Str}{apos cpos:Pos}{id:String}{f:Sto->D->List D->R D}(pa:PlainAttrs "list")(slot:Slot "list" name id)(hty:typeOf (.builtin id)=pure (.type "method_descriptor"))(hm:MtR X id (xM X.K E f))
  (ho:SE X E o mo) (ha:SA X E (e::es) ms) (hbase:autoParam (attributeBase o name X.env (eval o X.env)=eval o X.env) zz0._auto_1)
  (hfew:autoParam (((backTo cpos (starEach (e::es) X.env)).all (λx=>!x.1)&&(backToKw cpos (keywordEach [] X.env)).all (λx=>x.1.isSome)
   && decide ((e::es).length+([]:List Keyword).length+(if ([]:List Keyword).isEmpty then 0 else 1)<30))=true) zz0._auto_1)
  (hline:autoParam ((apos.endLine == cpos.line)=true) zz0._auto_1) (hs:autoParam (starEach (e::es) X.env=(false,eval e X.env)::starEach es X.env) zz0._auto_1) (hplain:autoParam ((backTo cpos (starEach es X.env)).any (·.1)=false) zz0._auto_1):
  SE X E (.Call (.Attribute o name apos) (e::es) [] cpos) (sO f mo ms):=⟨
 bb (E9 pa slot hty hm ho.out ha.out hbase hfew hline hs hplain) λs H Q zq=>ex6 zq λw r S hr hS hp=>⟨w,r,S,hr,hS,hp.bind hS λd S1 w1 H1 v x1 q1 s1 p1=>by
  by_cases hl:isL S1 d=true
  .rw[Y8 hl]at p1;exact⟨Bw s1 q1 hl,w1,r,S1,hr.ext x1,s1,p1.bind s1 λds S2 w2 H2 us x2 q2 s2 p2=>⟨w2,S2,d,ds,s2,RD.ext x2 _ _ q1,q2,p2⟩⟩
  .rw[Yi hl]at p1
   exact p1.elim⟩⟩
def eX:Sto->D->List D->R D
 |S,.ref n,[v]=>match S[n]? with
  |some (.lst a)=>if a.length<sizeLine then .ok .non (S.set n (.lst (a++[v]))) else .bad
  |_=>.bad
 |_,_,_=>.bad
def mC:MtR X "list.append" (xM X.K E eX):=by
 rintro pins s σ H x xs v us Q I rx rs ⟨w,S,d,ds,hS,qd,qs,p⟩;unfold eX at p;split at p
 .rename_i n y;split at p
  .rename_i a hn;split at p
   .rename_i hl;obtain⟨pp,rfl,hp⟩:=qd.refI;obtain⟨yv,rfl,qy⟩:=qs.one_inv;obtain⟨p',hp',vs,hv,ra⟩:=hS.obj _ _ hn;rw[hp]at hp';cases hp';have hm:pp∈w.st:=Zh hp
    refine lZ pins s σ H _ _ v us Q I rx rs ⟨pp,vs,yv,rfl,rfl,hv,by rw[ra.length];exact hl,p.at (Ext.mut hm hv) (by unfold RD;rfl) ?_⟩
    exact hS.mut hp hv ⟨_,aP,RDs.ext (Ext.mut hm hv) _ _ (ra.append (.cons qy .nil))⟩
   .exact p.elim
  .exact p.elim
 .exact p.elim
end
def Fh:Sum Int Str->PyData
 |.inl i=>.int i
 |.inr x=>.str x
mutual
def toPy:D->Option PyData
 |.non=>some .none
 |.bl b=>some (.bool b)
 |.int i=>some (.int i)
 |.str x=>some (.str x)
 |.tup ds=>(ip ds).map .tuple
 |.lst ds=>(ip ds).map .list
 |.dic kvs=>(oJ kvs).map .dict
 |.fz _=>none
 |.ref _=>none
 |.ty _=>none
 |.exc _ _=>none
 |.cls _=>none
def ip:List D->Option (List PyData)
 |[]=>some []
 |d::ds=>match toPy d,ip ds with
  |some p,some q=>some (p::q)
  |_,_=>none
def oJ:List (Sum Int Str×D)->Option (List (PyData×PyData))
 |[]=>some []
 |(k,d)::r=>match toPy d,oJ r with
  |some p,some q=>some ((Fh k,p)::q)
  |_,_=>none
end
mutual
def noL:D->Bool
 |.tup ds=>DK ds
 |.lst _=>false
 |.dic kvs=>DL kvs
 |_=>true
def DK:List D->Bool
 |[]=>true
 |d::ds=>noL d&&DK ds
def DL:List (Sum Int Str×D)->Bool
 |[]=>true
 |(_,d)::r=>noL d&&DL r
end
section
variable{X:Cx}{E:XK}
mutual
theorem gp{σ:L2.St}(I:Inv X pins σ H s):∀(d:D)(v:V)(u:Value)(p:PyData),RD X.K w H d v->RelV v u->toPy d=some p->∃as,Reads s.heap u p as/\(noL d=true->sysModules∉as)
 |.non,v,u,p,q,r,h=>by cases q.non;cases (show u=Value.none from r);unfold toPy at h;cases h;exact⟨_,.none,λ_ z=>nomatch z⟩
 |.bl b,v,u,p,q,r,h=>by cases q.bl;cases (show u=Value.bool b from r);unfold toPy at h;cases h;exact⟨_,.bool b,λ_ z=>nomatch z⟩
 |.int i,v,u,p,q,r,h=>by cases q.int;obtain⟨t,rfl⟩:=(show ∃t,u=Value.int i t from r);unfold toPy at h;cases h;exact⟨_,.int i t,λ_ z=>nomatch z⟩
 |.str x,v,u,p,q,r,h=>by cases q.str;obtain⟨t,rfl⟩:=(show ∃t,u=Value.str x t from r);unfold toPy at h;cases h;exact⟨_,.str x t,λ_ z=>nomatch z⟩
 |.tup ds,v,u,p,q,r,h=>by
  obtain⟨a,vs,rfl,z,rs⟩:=q.tupI
  cases (show u=Value.ref a from r)
  unfold toPy at h;cases e:ip ds with
  |none=>rw[e]at h;cases h
  |some ps=>
   rw[e]at h;cases h;obtain⟨its,r1,⟨o,ho,hc,n,hd⟩,_⟩:=I.tuple (dF z);obtain⟨as,ra,hn⟩:=jK I ds vs its ps rs r1 e
   exact⟨as,.tuple ho hc hd ra,λz=>hn (by unfold noL at z;exact z)⟩
 |.lst ds,v,u,p,q,r,h=>by
  obtain⟨a,vs,rfl,z,rs⟩:=q.lstI
  cases (show u=Value.ref a from r)
  unfold toPy at h;cases e:ip ds with
  |none=>rw[e]at h;cases h
  |some ps=>
   rw[e]at h;cases h;obtain⟨its,r1,⟨o,n,ho,hc,_,hd⟩,_⟩:=I.list (SqL.of z.1);obtain⟨as,ra,hn⟩:=jK I ds vs its ps rs r1 e
   exact⟨a::as,.list ho hc hd ra,λz=>by unfold noL at z;cases z⟩
 |.dic kvs,v,u,p,q,r,h=>by
  unfold RD at q;obtain⟨a,us,rfl,z,rk⟩:=q
  cases (show u=Value.ref a from r)
  unfold toPy at h;cases e:oJ kvs with
  |none=>rw[e]at h;cases h
  |some ps=>
   rw[e]at h;cases h
   obtain⟨_,hsys,vs,kv,o,es,ep,ho,hex,hd,_,hp,_⟩:=(show bR X.prog X.w H s.heap a (.dK us) from I.hok a _ z.1)
   obtain⟨as,bs,ra,rb,hn⟩:=qK I kvs us vs es.toList ps rk kv hp e;refine⟨a::as++bs,.dict ho hex.1 hd ra rb,λz=>?_⟩;unfold noL at z;intro hm;rcases Yy.mp hm with hm|hm
   .rcases Yc.mp hm with hm|hm
    .rw[<- hm]at hsys;simp at hsys
    .exact(hn z).1 hm
   .exact(hn z).2 hm
 |.fz _,_,_,_,_,_,h=>by unfold toPy at h;cases h
 |.ref _,_,_,_,_,_,h=>by unfold toPy at h;cases h
 |.ty _,_,_,_,_,_,h=>by unfold toPy at h;cases h
 |.exc _ _,_,_,_,_,_,h=>by unfold toPy at h;cases h
 |.cls _,_,_,_,_,_,h=>by unfold toPy at h;cases h
theorem jK{σ:L2.St}(I:Inv X pins σ H s):∀(ds:List D)(vs:List V)(us:List Value)(ps:List PyData),RDs X.K w H ds vs->Vals vs us->ip ds=some ps->∃as,ReadsAll s.heap us ps as/\(DK ds=true->sysModules∉as)
 |[],vs,us,ps,q,r,h=>by
  rw[q.nil_inv]at r;cases r;unfold ip at h;cases h
  exact⟨_,.nil,λ_ z=>nomatch z⟩
 |d::ds,_,us,ps,q,r,h=>by
  obtain⟨v,vs,rfl,p,t⟩:=q.cons_inv;unfold ip at h;cases e1:toPy d with
  |none=>rw[e1]at h;cases h
  |some p1=>
   cases e2:ip ds with
   |none=>rw[e1,e2]at h;cases h
   |some p2=>
    rw[e1,e2]at h;cases h;cases r with
    |cons r1 r2=>
     obtain⟨as,ra,h1⟩:=gp I d v _ p1 p r1 e1;obtain⟨bs,rb,h2⟩:=jK I ds vs _ p2 t r2 e2;refine⟨as++bs,.cons ra rb,λz=>?_⟩;unfold DK at z;rw[Z9]at z;intro hm;rcases Yy.mp hm with hm|hm
     .exact h1 z.1 hm
     .exact h2 z.2 hm
theorem qK{σ:L2.St}(I:Inv X pins σ H s):∀(ds:List (Sum Int Str×D))(us:List (Key×V))(vs:List (Key×Value))(es:List DictEntry)(ps:List (PyData×PyData)),RDk X.K w H ds us->KV us vs->Pairs (bf X.prog X.w) es vs->oJ ds=some ps->
  ∃as bs,ReadsAll s.heap (es.map (·.key)) (ps.map (·.1)) as/\ReadsAll s.heap (es.map (·.val)) (ps.map (·.2)) bs/\(DL ds=true->sysModules∉as/\sysModules∉bs)
 |[],us,vs,es,ps,q,r,hp,h=>by
  unfold RDk at q;subst q;cases r;unfold oJ at h;cases h;cases hp
  exact⟨_,_,.nil,.nil,λ_=>⟨(λz=>nomatch z),(λz=>nomatch z)⟩⟩
 |(k,d)::ds,us,vs,es,ps,q,r,hp,h=>by
  unfold RDk at q;obtain⟨v,ur,rfl,p,t⟩:=q;unfold oJ at h;cases e1:toPy d with
  |none=>rw[e1]at h;cases h
  |some p1=>
   cases e2:oJ ds with
   |none=>rw[e1,e2]at h;cases h
   |some p2=>
    rw[e1,e2]at h;cases h;cases r with
    |cons r1 r2=>
     cases hp with
     |cons hk hv hr=>
      rename_i q0 vr e0 es0;obtain⟨k',v'⟩:=q0;obtain⟨ek,rv⟩:=r1;have ek':k=k':=ek;subst ek';obtain⟨as,ra,h1⟩:=gp I d v _ p1 p rv e1;obtain⟨as2,bs2,ra2,rb2,h2⟩:=qK I ds ur vr es0 p2 t r2 hr e2
      have hkey:∃cs,Reads s.heap e0.key (Fh k) cs/\cs=[]:=by
       rcases bY hk with⟨i,tk,z1,z2⟩|⟨x,tk,z1,z2⟩
       .have z1':k=Sum.inl i:=z1;subst z1';rw[z2];exact⟨_,.int i tk,rfl⟩
       .have z1':k=Sum.inr x:=z1;subst z1';rw[z2];exact⟨_,.str x tk,rfl⟩
      obtain⟨cs,rc,ec⟩:=hkey;subst ec;have hv':e0.val=v':=hv
      refine⟨[]++as2,as++bs2,.cons rc ra2,.cons (by show Reads s.heap e0.val p1 as;rw[hv'];exact ra) rb2,λz=>?_⟩
      unfold DL at z;rw[Z9]at z
      refine⟨by rw[Wc];exact(h2 z.2).1,λhm=>?_⟩
      rcases Yy.mp hm with hm|hm
      .exact h1 z.1 hm
      .exact(h2 z.2).2 hm
end
end
section
variable{K:Frag}{w:Wd}{H:Hp}
structure Mv(w:Wd)(H:Hp)(w2:Wd)(H2:Hp):Prop where
 st:∀(n:Nat)(a:Addr),w.st[n]?=some a->w2.st[n]?=some a
 at_:∀a o,At w H a o->At w2 H2 a o
mutual
theorem RD.mv(x:Mv w H w2 H2):∀(d:D)(v:V),RD K w H d v->RD K w2 H2 d v
 |.non,_,h=>h
 |.bl _,_,h=>h
 |.int _,_,h=>h
 |.str _,_,h=>h
 |.tup ds,v,h=>by unfold RD at h ⊢;obtain⟨a,vs,e,p,r⟩:=h;exact⟨a,vs,e,p.imp (x.at_ _ _) id,RDs.mv x ds vs r⟩
 |.lst ds,v,h=>by unfold RD at h ⊢;obtain⟨a,vs,e,p,r⟩:=h;exact⟨a,vs,e,x.at_ _ _ p,RDs.mv x ds vs r⟩
 |.fz ds,v,h=>by unfold RD at h ⊢;obtain⟨a,vs,e,p,r⟩:=h;exact⟨a,vs,e,p.imp (λ⟨o,z⟩=>⟨o,x.at_ _ _ z⟩) id,RDs.mv x ds vs r⟩
 |.dic kvs,v,h=>by unfold RD at h ⊢;obtain⟨a,us,e,p,r⟩:=h;exact⟨a,us,e,x.at_ _ _ p,RDk.mv x kvs us r⟩
 |.ref n,v,h=>by unfold RD at h ⊢;obtain⟨a,e,p⟩:=h;exact⟨a,e,x.st n a p⟩
 |.ty _,_,h=>h
 |.exc c f,v,h=>by unfold RD at h ⊢;obtain⟨a,C,o,e,q,p,z,y⟩:=h;exact⟨a,C,o,e,q,x.at_ _ _ p,z,y.imp x.at_⟩
 |.cls _,_,h=>h
theorem RDs.mv(x:Mv w H w2 H2):∀(ds:List D)(vs:List V),RDs K w H ds vs->RDs K w2 H2 ds vs
 |[],_,h=>h
 |d::ds,vs,h=>by unfold RDs at h ⊢;obtain⟨v,r,e,p,q⟩:=h;exact⟨v,r,e,RD.mv x d v p,RDs.mv x ds r q⟩
theorem RDk.mv(x:Mv w H w2 H2):∀(ds:List (Sum Int Str×D))(vs:List (Key×V)),RDk K w H ds vs->RDk K w2 H2 ds vs
 |[],_,h=>h
 |(k,d)::ds,vs,h=>by unfold RDk at h ⊢;obtain⟨v,r,e,p,q⟩:=h;exact⟨v,r,e,RD.mv x d v p,RDk.mv x ds r q⟩
end
theorem RO.mv(x:Mv w H w2 H2){o:SO}(hk:∀u,H a=some u->H2 a=some u)(r:RO K w H a o):RO K w2 H2 a o:=by
 cases o with
 |lst ds=>obtain⟨vs,e,q⟩:=r;exact⟨vs,hk _ e,RDs.mv x _ _ q⟩
 |dic kvs=>obtain⟨vs,e,q⟩:=r;exact⟨vs,hk _ e,RDk.mv x _ _ q⟩
 |fdic kvs=>obtain⟨o,vs,e,q⟩:=r;exact⟨o,vs,hk _ e,RDk.mv x _ _ q⟩
 |ins c fs=>obtain⟨C,dx,us,n,e,q1,q2⟩:=r;exact⟨C,dx,us,n,hk _ e,q1,RDs.mv x _ _ q2⟩
 |flst ds=>obtain⟨o,vs,e,q⟩:=r;exact⟨o,vs,hk _ e,RDs.mv x _ _ q⟩
theorem RSt.mv{s:L2.St}(x:Mv w H w2 H2)(h:RSt K w H r s):RSt K w2 H2 r s:=
 ⟨h.1,λi d e=>let ⟨v,e1,q⟩:=h.2 i d e;⟨v,e1,RD.mv x d v q⟩⟩
theorem Ext.hide(hp:H p=none):Ext w H (w.hide p) (upd H p o):=
 ⟨λa u e _=>by rw[aN (aR e hp)];exact e,⟨[],by simp[Wd.hide],λ_ z=>nomatch z⟩,λa h=>Yz _ h,λa h=>(Yc.mp h).elim (λe=>.inr (e▸hp)) .inl,λa o u e=>by rw[aN (aR e hp)];exact e⟩
def Wd.unhide(w:Wd)(p:Addr):Wd:=⟨w.st,w.hid.filter λa=>decide (a≠p)⟩
def Wd.mem_unhide(h:a∈(w.unhide p).hid):a∈w.hid/\a≠p:=⟨(Z8.mp h).1,Zn (Z8.mp h).2⟩
def Mv.write(hp:p∈w.hid):Mv w H w (upd H p o):=
 ⟨λ_ _ z=>z,λa u h=>⟨by rw[aN (λz:a=p=>h.2.2 (z▸hp))];exact h.1,h.2⟩⟩
theorem Mv.unhide:Mv w H (w.unhide p) H:=
 ⟨λ_ _ z=>z,λa u h=>⟨h.1,h.2.1,λz=>h.2.2 (Wd.mem_unhide z).1⟩⟩
theorem RS.hide(s:RS K w H S)(hp:H p=none):RS K (w.hide p) (upd H p o) S:=by
 refine⟨s.nd,s.len,λn so e=>?_,λa ha=>?_⟩
 .obtain⟨a,ha,r⟩:=s.obj n so e
  exact⟨a,ha,r.ext (Ext.hide hp) λu z=>by rw[aN (aR z hp)];exact z⟩
 .rcases Yc.mp ha with z|z
  .subst z;exact⟨s.freshS hp,o,aP⟩
  .obtain⟨h1,u,e⟩:=s.hid a z
   exact⟨h1,u,by rw[aN (aR e hp)];exact e⟩
theorem RS.write(s:RS K w H S)(hp:p∈w.hid):RS K w (upd H p o) S:=by
 have np:=(s.hid p hp).1;refine⟨s.nd,s.len,λn so e=>?_,λa ha=>?_⟩
 .obtain⟨a,ha,r⟩:=s.obj n so e;have:a≠p:=λz=>np (z▸Zh ha)
  exact⟨a,ha,r.mv (Mv.write hp) λu z=>by rw[aN this];exact z⟩
 .obtain⟨h1,u,e⟩:=s.hid a ha;by_cases z:a=p
  .subst z;exact⟨h1,o,aP⟩
  .exact⟨h1,u,by rw[aN z];exact e⟩
theorem RS.unhide(s:RS K w H S):RS K (w.unhide p) H S:=
 ⟨s.nd,s.len,λn so e=>by
  obtain⟨a,ha,r⟩:=s.obj n so e
  exact⟨a,ha,r.mv Mv.unhide λu z=>z⟩,λa ha=>s.hid a (Wd.mem_unhide ha).1⟩
def yo{s:L2.St}(k:Nat)(caps:List Nat)(h:RSt K w H r s):RSt K w H (fG k caps r) (m3 k caps s):=by
 unfold fG m3
 refine⟨by simp,λi d e=>?_⟩
 by_cases hi:i<k
 .rw[Z0 (by simpa using hi),Wv]at e
  split at e<;>cases e
 .rw[W6 (by simpa using hi),Q2,V5]at e
  rw[W6 (by simpa using hi),Q2,V5]
  cases ec:caps[i-k]? with
  |none=>rw[ec]at e;cases e
  |some j=>
   rw[ec]at e;have e':(r[j]?).join=some d:=Za e
   have hj:r[j]?=some (some d):=by
    cases q:r[j]? with
    |none=>rw[q]at e';cases e'
    |some o=>rw[q]at e';rw[show o=some d from e']
   obtain⟨v,ev,rv⟩:=h.2 j d hj
   exact⟨v,by show some ((s[j]?).join)=some (some v);rw[ev];rfl,rv⟩
end
abbrev SIf(X:Cx)(E:XK)(ifs:List Expr)(m:TM):Prop:=Bx (Bk X ifs (uT X.K E m))
def eE{E:XK}:SIf X E [] bZ:=⟨λpins s σ H Q I zq=>ex6 zq λw r S hr hS hp=>Bl pins s σ H Q I (hp.ret rfl hS)⟩
def sP{E:XK}{c:Expr}{m:TM}(h:ST X E c m):SIf X E [c] m:=⟨Bm h.out⟩
theorem By{E:XK}{elt tg iter:Expr}{ifs:List Expr}{pos:Pos}{k:Nat}{it:AM}{g:G}{mt:TM}{me:EM}(hX:Cd qb X)(hxe:∀e s,¬X.xe e s)(C:CompScope X N k caps scope)
  (hi:SIb qb X E tg iter it) (hg:∀cl s0 H0 ex,Cd qb (cxC X N scope cl s0 H0 ex)->SG (cxC X N scope cl s0 H0 ex) tg g) (ht:∀cl s0 H0 ex,Cd qb (cxC X N scope cl s0 H0 ex)->SIf (cxC X N scope cl s0 H0 ex) E ifs mt) (he:∀cl s0 H0 ex,Cd qb (cxC X N scope cl s0 H0 ex)->SE (cxC X N scope cl s0 H0 ex) E elt me)
  (hs:autoParam (∀x,foldedSetIterable iter X.env x=pure x) zz4._auto_1):SE X E (.ListComp elt [⟨tg,iter,ifs,0⟩] scope pos) (bq it k caps g mt me):=⟨
 bb (Bn hX hxe C hi.out (g:=uG X.K g) (λcl s0 H0 ex z=>(hg cl s0 H0 ex z).out) (tt:=uT X.K E mt) (λcl s0 H0 ex z=>(ht cl s0 H0 ex z).out) (te:=uE X.K E me) (λcl s0 H0 ex z=>(he cl s0 H0 ex z).out) hs) λs H Q zq=>ex6 zq λw r S hr hS hp=>⟨w,r,S,hr,hS,hp.bind hS λds S1 w1 H1 J x1 q1 s1 p1=>by
  intro p hp;have hr1:=hr.ext x1;have pno:p∉w1.hid:=(s1.fresh hp).2
  have hz:ds.length<=sizeLine:=by
   rcases Nat.lt_or_ge sizeLine ds.length with z|z
   .rw[Yi (by omega)]at p1;exact p1.elim
   .exact z
  rw[Y8 hz]at p1
  -- the list is made at p,which is hidden
  refine⟨λi n s' H'=>n=ds.length-i/\i<=ds.length/\∃w' r' S' ys vs,Ext w1 H1 w' H'/\p∈w'.hid/\RSt X.K w' H' r' s'/\RS X.K w' H' S'/\H' p=some (.lst vs)/\RDs X.K w' H' ys vs/\ys.length<=i/\
    aD X.K E (RD X.K) w1 H1 ((dY g mt me (ds.drop i) r' S').bind λzs S2=>R.ok (.lst (ys++zs)) S2) Q,
   ⟨ds.length,by simp,Zq _,w1.hide p,fG k caps r,S1,[],[],Ext.hide hp,Z2,(yo k caps hr1).ext (Ext.hide hp),s1.hide hp,aP,.nil,Yd _,p1⟩,?_⟩
  rintro i n s2 H2 ⟨rfl,hi.out,w2,r2,S2,ys,vs,x2,hph,hr2,hS2,hpv,ry,hyl,hp2⟩;have hpn:p∉w2.st:=(hS2.hid p hph).1;by_cases hlt:i<ds.length
  .obtain⟨go,yld⟩:=(q1 i w2 H2 x2).1 hlt
   refine .inr ⟨go,λs' H'=>∃w' r' S' ys vs,Ext w1 H1 w' H'/\p∈w'.hid/\RSt X.K w' H' r' s'/\RS X.K w' H' S'/\H' p=some (.lst vs)/\RDs X.K w' H' ys vs/\ys.length<=i+1/\
     aD X.K E (RD X.K) w1 H1 ((dY g mt me (ds.drop (i+1)) r' S').bind λzs S2=>R.ok (.lst (ys++zs)) S2) Q,
    λs' H' hN=>⟨ds.length-(i+1),by omega,rfl,hlt,hN⟩,λx H3 hy=>?_⟩
   obtain⟨gr,rd⟩:=yld x H3 hy;obtain⟨d,ed,qd⟩:=rd S2 hS2;obtain⟨x3,s3⟩:=oF gr hS2
   have hdrop:ds.drop i=d::ds.drop (i+1):=by rw[Vh hlt];rw[Yk hlt]at ed;cases ed;rfl
   rw[hdrop]at hp2;have hpv3:H3 p=some (.lst vs):=x3.keep _ _ hpv hpn;have ry3:=RDs.ext x3 _ _ ry;have x13:Ext w1 H1 w2 H3:=x2.trans' x3 s1 hS2;unfold dY at hp2;cases e:g.put d r2 with
   |none=>rw[e]at hp2;exact hp2.elim
   |some r3=>
    rw[e]at hp2;refine⟨w2,r2,d,r3,hr2.ext x3,qd,e,λs4 hr4=>⟨w2,r3,S2,hr4,s3,?_⟩⟩
    -- hp2:(mt r3 S2).bind .. |>.bind ..
    have hass:∀{A B C:Type}(r:R A)(f:A->Sto->R B)(h:B->Sto->R C),(r.bind f).bind h=r.bind λa S=>(f a S).bind h:=λr f h=>by cases r<;>rfl
    simp only[hass]at hp2;refine aD.bindAt (rel:=RB) hp2 x13 s1 s3 λc S5 w5 H5 c' x5 q5 s5 p5=>?_;have ec:c'=c:=q5;subst ec;have x15:Ext w1 H1 w5 H5:=x13.trans' x5 s1 s3;have hph5:p∈w5.hid:=x5.hid p hph;have hpv5:H5 p=some (.lst vs):=x5.keep _ _ hpv3 hpn;cases c' with
    |false=>
     refine qc ⟨w5,r3,S5,ys,vs,x15,hph5,hr4.ext x5,s5,hpv5,RDs.ext x5 _ _ ry3,K6 hyl,p5⟩
    |true=>
     refine qf ⟨w5,r3,S5,hr4.ext x5,s5,?_⟩;have p5':aD X.K E (RD X.K) w1 H1 (((me r3 S5).bind λy S2=>(dY g mt me (ds.drop (i+1)) r3 S2).bind λys S3=>R.ok (y::ys) S3).bind λzs S2=>R.ok (D.lst (ys++zs)) S2) Q:=p5;simp only[hass]at p5';refine aD.bindAt (rel:=RD X.K) p5' x15 s1 s5 λy S6 w6 H6 yv x6 q6 s6 p6=>?_;have x16:Ext w1 H1 w6 H6:=x15.trans' x6 s1 s5;have hph6:p∈w6.hid:=x6.hid p hph5;have hpn5:p∉w5.st:=(s5.hid p hph5).1;have hpn6:p∉w6.st:=(s6.hid p hph6).1;have hpv6:H6 p=some (.lst vs):=x6.keep _ _ hpv5 hpn5;have ry6:=RDs.ext x6 _ _ (RDs.ext x5 _ _ ry3)
     refine⟨vs,hpv6,by rw[ry6.length];omega,w6,r3,S6,ys++[y],vs++[yv],⟨λa o h n=>?_,x16.sub,x16.hid,x16.hnew,λa o u h=>by have z:=x16.frz a o u h;rw[aN (λe:a=p=>by rw[e,hpv6]at z;cases z)];exact z⟩,hph6,(hr4.ext x5).ext x6 |>.mv (Mv.write hph6),s6.write hph6,aP,(RDs.mv (Mv.write hph6) _ _ ry6).append (.cons (RD.mv (Mv.write hph6) _ _ q6) .nil),by simp;omega,?_⟩
     .have:a≠p:=aR h hp;rw[aN this];exact x16.keep a o h n
     .have he2:∀zs:List D,(ys++[y])++zs=ys++y::zs:=λzs=>by simp
      simp only[he2];exact p6
  .have e:i=ds.length:=by omega
   subst e;rw[M3]at hp2;refine .inl ⟨(q1 _ w2 H2 x2).2 (Yd _),?_⟩;have hp3:aD X.K E (RD X.K) w1 H1 (R.ok (D.lst (ys++[])) S2) Q:=hp2;rw[Qh]at hp3;refine aD.at hp3 (w1:=w2.unhide p) ⟨x2.keep,x2.sub,λa h=>Z8.mpr ⟨x2.hid a h,Yr λz=>pno (z▸h)⟩,λa h=>x2.hnew a (Wd.mem_unhide h).1,x2.frz⟩ ?_ hS2.unhide;unfold RD
   exact⟨p,vs,rfl,⟨hpv,hpn,λz=>(Wd.mem_unhide z).2 rfl⟩,RDs.mv Mv.unhide _ _ ry⟩⟩⟩
def dw{E:XK}{elt tg iter:Expr}{ifs:List Expr}{pos:Pos}{k:Nat}{it:AM}{g:G}{mt:TM}{me:EM}(hX:X.calm=true)(hxe:∀e s,¬X.xe e s)(C:CompScope X N k caps scope)
  (hi:SI X E tg iter it) (hg:∀cl s0 H0 ex,SG (cxC X N scope cl s0 H0 ex) tg g) (ht:∀cl s0 H0 ex,SIf (cxC X N scope cl s0 H0 ex) E ifs mt) (he:∀cl s0 H0 ex,SE (cxC X N scope cl s0 H0 ex) E elt me)
  (hs:autoParam (∀x,foldedSetIterable iter X.env x=pure x) zz4._auto_1):SE X E (.ListComp elt [⟨tg,iter,ifs,0⟩] scope pos) (bq it k caps g mt me):=By (qb:=false) (.inl hX) hxe C hi (λa b c d _=>hg a b c d) (λa b c d _=>ht a b c d) (λa b c d _=>he a b c d) hs
abbrev KD:=Sum Int Str
def kx:D->Option KD
 |.int i=>some (.inl i)
 |.str x=>some (.inr x)
 |_=>none
def putD(kvs:List (KD×D))(k:KD)(d:D):List (KD×D):=
 if kvs.any (λkv=>decide (kv.1=k)) then kvs.map (λkv=>if kv.1=k then (kv.1,d) else kv) else kvs++[(k,d)]
def kz(kvs more:List (KD×D)):List (KD×D):=more.foldl (λacc kv=>putD acc kv.1 kv.2) kvs
def m7:List (D×D)->Option (List (KD×D))
 |[]=>some []
 |(k,v)::r=>match kx k,m7 r with
  |some k',some r'=>some ((k',v)::r')
  |_,_=>none
def pM:List (EM×EM)->Rho->Sto->R (List (D×D))
 |[],_,S=>.ok [] S
 |(a,b)::t,r,S=>(a r S).bind λx S1=>(b r S1).bind λy S2=>(pM t r S2).bind λps S3=>.ok ((x,y)::ps) S3
def jn(ms:List (EM×EM)):EM:=λr S=>(pM ms r S).bind λps S1=>match m7 ps with
 |some kvs=>if kvs.length<=15 then .ok (.ref S1.length) (S1++[.dic (kz [] kvs)]) else .bad
 |none=>.bad
section
variable{K:Frag}{w:Wd}{H:Hp}
def RDk.nil:RDk K w H [] []:=by unfold RDk;rfl
def RDk.cons{k:KD}{d:D}{v:V}{ds:List (KD×D)}{vs:List (Key×V)}(r:RD K w H d v)(q:RDk K w H ds vs):RDk K w H ((k,d)::ds) ((k,v)::vs):=by unfold RDk;exact⟨v,vs,rfl,r,q⟩
def RDk.nil_inv{vs:List (Key×V)}(h:RDk K w H [] vs):vs=[]:=by unfold RDk at h;exact h
def RDk.cons_inv{k:KD}{d:D}{ds:List (KD×D)}{vs:List (Key×V)}(h:RDk K w H ((k,d)::ds) vs):∃v r,vs=(k,v)::r/\RD K w H d v/\RDk K w H ds r:=by unfold RDk at h;exact h
theorem RDk.append:∀{ds es:List (KD×D)}{vs us:List (Key×V)},RDk K w H ds vs->RDk K w H es us->RDk K w H (ds++es) (vs++us)
 |[],_,_,_,h,q=>by rw[h.nil_inv];exact q
 |(_,_)::_,_,_,_,h,q=>by obtain⟨v,r,rfl,p,t⟩:=h.cons_inv;exact .cons p (RDk.append t q)
theorem RDk.any:∀{ds:List (KD×D)}{vs:List (Key×V)}(k:KD),RDk K w H ds vs->(ds.any λkv=>decide (kv.1=k))=(vs.any λkv=>decide (kv.1=k))
 |[],_,_,h=>by rw[h.nil_inv];rfl
 |(_,_)::_,_,k,h=>by obtain⟨v,r,rfl,p,t⟩:=h.cons_inv;rw[Qs,Qs,RDk.any k t]
theorem RDk.repl{d:D}{v:V}(r:RD K w H d v):∀{ds:List (KD×D)}{vs:List (Key×V)}(k:KD),RDk K w H ds vs->RDk K w H (ds.map λkv=>if kv.1=k then (kv.1,d) else kv) (vs.map λkv=>if kv.1=k then (kv.1,v) else kv)
 |[],_,_,h=>by rw[h.nil_inv];exact .nil
 |(j,_)::_,_,k,h=>by
  obtain⟨v',r',rfl,p,t⟩:=h.cons_inv;simp only[Yb];by_cases hj:j=k
  .rw[Y8 hj,Y8 hj];exact .cons r (RDk.repl r k t)
  .rw[Yi hj,Yi hj];exact .cons p (RDk.repl r k t)
def RDk.put{ds:List (KD×D)}{vs:List (Key×V)}{d:D}{v:V}(q:RDk K w H ds vs)(k:KD)(r:RD K w H d v):RDk K w H (putD ds k d) (putK vs k v):=by
 unfold putD putK;rw[q.any k];split
 .exact q.repl r k
 .exact q.append (.cons r .nil)
theorem RDk.merge:∀{more:List (KD×D)}{mvs:List (Key×V)}{ds:List (KD×D)}{vs:List (Key×V)},RDk K w H more mvs->RDk K w H ds vs->RDk K w H (kz ds more) (iI vs mvs)
 |[],_,_,_,h,q=>by rw[h.nil_inv];exact q
 |(k,d)::r,_,ds,vs,h,q=>by obtain⟨v',r',rfl,p,t⟩:=h.cons_inv;show RDk K w H (kz (putD ds k d) r) (iI (putK vs k v') r');exact RDk.merge t (q.put k p)
def lp{d:D}{v:V}{k:KD}(q:RD K w H d v)(h:kx d=some k):v=kV k:=by
 cases d with
 |int i=>cases q.int;cases h;rfl
 |str x=>cases q.str;cases h;rfl
 |_=>cases h
def RPs(K:Frag)(w:Wd)(H:Hp):List (D×D)->List (V×V)->Prop
 |[],vs=>vs=[]
 |(a,b)::r,vs=>∃x y t,vs=(x,y)::t/\RD K w H a x/\RD K w H b y/\RPs K w H r t
theorem uR:∀{ps:List (D×D)}{vs:List (V×V)}{kvs:List (KD×D)},RPs K w H ps vs->m7 ps=some kvs->∃us:List (Key×V),vs=us.map (λkv=>(kV kv.1,kv.2))/\RDk K w H kvs us
 |[],_,_,h,e=>by have h':_=[]:=h;subst h';unfold m7 at e;cases e;exact⟨[],rfl,.nil⟩
 |(a,b)::r,_,kvs,h,e=>by
  obtain⟨u,v,t,rfl,h1,h2,h3⟩:=h;unfold m7 at e;cases e1:kx a with
  |none=>rw[e1]at e;cases e
  |some k=>
   cases e2:m7 r with
   |none=>rw[e1,e2]at e;cases e
   |some r'=>
    rw[e1,e2]at e;cases e;obtain⟨us,rfl,q⟩:=uR h3 e2
    exact⟨(k,v)::us,by rw[lp h1 e1];rfl,.cons h2 q⟩
end
section
variable{X:Cx}{E:XK}{pos:Pos}
def uPs(K:Frag)(E:XK)(ms:List (EM×EM)):List (TE×TE):=ms.map λp=>(uE K E p.1,uE K E p.2)
theorem Fi{A2 B2:Type}{K:Frag}{rel2:Wd->Hp->A2->B2->Prop}{w0:Wd}{H0:Hp}{S0:Sto}{Q:B2->Hp->Prop}(s0:RS K w0 H0 S0):∀(ms:List (EM×EM)){w:Wd}{H:Hp}{S:Sto}{r:Rho}{s:L2.St}{f:List (D×D)->Sto->R A2}{Q':List (V×V)->Hp->Prop},RSt K w H r s->RS K w H S->Ext w0 H0 w H->
  aD K E rel2 w0 H0 ((pM ms r S).bind f) Q->(∀ps S1 w1 H1 vs,Ext w H w1 H1->RPs K w1 H1 ps vs->RS K w1 H1 S1->aD K E rel2 w0 H0 (f ps S1) Q->Q' vs H1)->sr (uPs K E ms) s H Q'
 |[],w,H,S,r,s,f,Q',hr,hS,x,hp,k=>k [] S w H [] (Ext.refl _ _) rfl hS hp
 |(a,b)::t,w,H,S,r,s,f,Q',hr,hS,x,hp,k=>by
  have hass:∀{A B C:Type}(r:R A)(f:A->Sto->R B)(h:B->Sto->R C),(r.bind f).bind h=r.bind λa S=>(f a S).bind h:=λr f h=>by cases r<;>rfl
  unfold pM at hp;rw[hass]at hp;refine⟨w,r,S,hr,hS,aD.bindAt (rel:=RD K) hp x s0 hS λd S1 w1 H1 u x1 q1 s1 p1=>?_⟩;rw[hass]at p1;have x01:=x.trans' x1 s0 hS;refine⟨w1,r,S1,hr.ext x1,s1,aD.bindAt (rel:=RD K) p1 x01 s0 s1 λe S2 w2 H2 v x2 q2 s2 p2=>?_⟩;rw[hass]at p2;have x02:=x01.trans' x2 s0 s1
  exact Fi s0 t ((hr.ext x1).ext x2) s2 x02 p2 λps S3 w3 H3 vs x3 q3 s3 p3=>
   k ((d,e)::ps) S3 w3 H3 ((u,v)::vs) ((x1.trans' x2 hS s1).trans' x3 hS s2) ⟨u,v,vs,rfl,RD.ext x3 _ _ (RD.ext x2 _ _ q1),RD.ext x3 _ _ q2,q3⟩ s3 p3
abbrev SPs(X:Cx)(E:XK)(pos:Pos)(keys:List (Option Expr))(values:List Expr)(ms:List (EM×EM)):Prop:=Bx (PPs X pos keys values (uPs X.K E ms))
def nW:SPs X E pos [] [] []:=⟨DA⟩
def jo{k v:Expr}{ks:List (Option Expr)}{vs:List Expr}{mk mv:EM}{ms:List (EM×EM)}(hk:SE X E k mk)(hv:SE X E v mv)(hr:SPs X E pos ks vs ms):SPs X E pos (some k::ks) (v::vs) ((mk,mv)::ms):=⟨Bd hk.out hv.out hr.out⟩
theorem zP{keys:List (Option Expr)}{values:List Expr}{ms:List (EM×EM)}{m:EM}{s:L2.St}{H:Hp}{Q:VK}{fin:List (KD×D)->Sto->R D}
  (hm:∀r S,m r S=(pM ms r S).bind λps S1=>match m7 ps with|some kvs=>if kvs.length<=15 then fin kvs S1 else .bad|none=>.bad)
  (hfin:∀(kvs:List (KD×D))(us:List (Key×V))(w0 w:Wd)(H0 H:Hp)(S0 S:Sto)(p:Addr),H0 p=none->RS X.K w0 H0 S0->RS X.K w H S->Ext w0 H0 w H->p∈w.hid->RDk X.K w H (kz [] kvs) (iI [] us)->aD X.K E (RD X.K) w0 H0 (fin kvs S) Q->Q (.ref p) (upd H p (.dK (iI [] us))))
  (h:uE X.K E m s H Q):Fd (uPs X.K E ms) s H Q:=by
 obtain⟨w,r,S,hr,hS,hp⟩:=h;rw[hm]at hp;intro p hpn;refine Fi hS ms (hr.ext (Ext.hide hpn)) (hS.hide hpn) (Ext.hide hpn) hp λps S1 w1 H1 vs x1 q1 s1 p1=>?_;have hh:p∈w1.hid:=x1.hid p Z2;have hx:Ext w H w1 H1:=(Ext.hide hpn).trans' x1 hS (hS.hide hpn);refine⟨x1.keep p _ aP ((hS.hide (o:=HO.dK []) hpn).hid p Z2).1,?_⟩;cases e:m7 ps with
 |none=>rw[e]at p1;exact p1.elim
 |some kvs=>
  rw[e]at p1;obtain⟨us,rfl,rk⟩:=uR q1 e;have hl:=rk.length;by_cases hz:kvs.length<=15
  .have p2:aD X.K E (RD X.K) w H (if kvs.length<=15 then fin kvs S1 else R.bad) Q:=p1
   rw[Y8 hz]at p2
   exact⟨us,rfl,by rw[hl];exact hz,hfin kvs us w w1 H H1 S S1 p hpn hS s1 hx hh (rk.merge .nil) p2⟩
  .have p2:aD X.K E (RD X.K) w H (if kvs.length<=15 then fin kvs S1 else R.bad) Q:=p1
   rw[Yi hz]at p2;exact p2.elim
end
def w8(m:AM)(n:Nat):Prop:=∀r S ds S',m r S=.ok ds S'->ds.length=n
def au:w8 ak 0:=λr S ds S' h=>by unfold ak at h;cases h;rfl
def ai{a:EM}{t:AM}(h:w8 t n):w8 (af a t) (n+1):=λr S ds S' e=>by
 unfold af at e;cases e1:a r S with
 |bad=>rw[e1]at e;cases e
 |err x S1=>rw[e1]at e;cases e
 |ok d S1=>
  rw[e1]at e;cases e2:t r S1 with
  |bad=>simp only[R.bind_ok,e2,R.bind_bad]at e;cases e
  |err x S2=>simp only[R.bind_ok,e2,R.bind_err]at e;cases e
  |ok es S2=>
   simp only[R.bind_ok,e2]at e;cases e;simp[h r S1 es _ e2]
section
variable{X:Cx}{E:XK}
def qL{pos:Pos}(hm:∃t,X.mg x=some (.int i t))(hg:Gl X x)(hd:autoParam ((x == ("__debug__":Str))=false) zz3._auto_1):SE X E (.Name x pos) (eC (.int i)):=by obtain⟨t,e⟩:=hm;exact DE hg e hd
end
def sQ(N0 N:List Str)(k:Nat)(scope:Scope):List Nat->Nat->Bool
 |[],_=>true
 |i::r,t=>(match N0[i]?,N[k+t]? with
  |some x,some y=>x == y&&scope.names.lookup x == some .free
  |_,_=>false)&&sQ N0 N k scope r (t+1)
theorem oK{N0:List Str}{k:Nat}:∀{caps:List Nat}{t0:Nat},sQ N0 N k scope caps t0=true->∀(t i:Nat),caps[t]?=some i->∃x,N0[i]?=some x/\N[k+(t0+t)]?=some x/\scope.names.lookup x=some .free
 |[],_,_,_,_,h=>by simp at h
 |j::r,t0,h,t,i,e=>by
  unfold sQ at h;rw[Z9]at h;cases t with
  |zero=>
   simp at e;subst e;have h1:=h.1;cases e1:N0[j]? with
   |none=>rw[e1]at h1;cases h1
   |some x=>
    cases e2:N[k+t0]? with
    |none=>rw[e1,e2]at h1;cases h1
    |some y=>
     rw[e1,e2]at h1;simp only[Z9]at h1;have hxy:x=y:=Us h1.1;subst hxy
     exact⟨x,rfl,by simpa using e2,Us h1.2⟩
  |succ t=>
   obtain⟨x,a,b,c⟩:=oK h.2 t i (by simpa using e)
   exact⟨x,a,by rw[show t0+(t+1)=t0+1+t by omega];exact b,c⟩
def gq{X:Cx}{N:List Str}{k:Nat}{caps:List Nat}(h1:scope.kind=.function)(h2:scope.names.all (λx=>x.2 != .cell)=true)(h3:scope.names.all (λx=>x.2 != .local||scope.names.lookup x.1 == some .local)=true)
  (h4:scope.names.all (λx=>x.2 != .free||X.env.kindOf x.1 == some .cell||X.env.kindOf x.1 == some .free)=true) (h5:N.length=k+caps.length) (h6:sQ X.N N k scope caps 0=true):CompScope X N k caps scope:=by
 refine⟨h1,λx hx z=>?_,λx hx z=>?_,λx hx z=>?_,h5,λt i e=>?_⟩
 .have:=Zy.mp h2 x hx;rw[z]at this;simp at this
 .have:=Zy.mp h3 x hx;rw[z]at this;simpa using this
 .have:=Zy.mp h4 x hx;rw[z]at this;simpa using this
 .obtain⟨x,a,b,c⟩:=oK h6 t i e
  exact⟨x,a,by simpa using b,c⟩
theorem GZ{f:FM}(h:∀ns:List Int,ns.length<=63->∃S,f [.fz (ns.map .int)] []=.ok (.bl true) S)(K:Frag)(H:Hp)(a:Addr)(ns:List Int)(hn:ns.length<=63)(ho:Bf H)(hs:SqL K H a (ns.map V.int)):
  spM K 1 f [.ref a] H (λv _=>v=.bl true) λ_ _ _=>False:=by
 obtain⟨S,e⟩:=h ns hn
 have hfz:wU K ⟨[],[]⟩ H a (ns.map V.int):=by
  rcases hs with(hs|⟨o,hs⟩)|hs
  .rcases ho a with z|⟨o,xs,z⟩
   .rw[z]at hs;cases hs
   .rw[z]at hs;cases hs
  .exact .inl ⟨o,hs,(λz=>nomatch z),(λz=>nomatch z)⟩
  .exact .inr hs
 have hints:∀l:List Int,RDs K ⟨[],[]⟩ H (l.map D.int) (l.map V.int):=λl=>by
  induction l with
  |nil=>exact .nil
  |cons i l ih=>exact .cons RD.mkI ih
 refine⟨rfl,⟨[],[]⟩,[],[.fz (ns.map .int)],⟨List.nodup_nil,rfl,λn o z=>?_,(λa z=>nomatch z)⟩,.cons (by unfold RD;exact⟨a,_,rfl,hfz,hints ns⟩) .nil,?_⟩
 .simp at z
 .rw[e];intro w' H' b x q s;unfold RD at q;exact q
end PD
namespace PD
open PySem L2
variable{S:Sto}
def d8{i j:Int}(h:cZ i\/cZ j):cI S (.int i) (.int j)=some (.int (i*j)):=Y8 h
def G0{i:Nat}(h:i<1000):wV S (.int 1) (.int i)=some (.int (2^i)):=by
 have:wV S (.int 1) (.int i)=some (.int (1*2^((i:Int)).toNat)):=Y8 ⟨by omega,by omega,by decide⟩
 rw[this,Vr,Int.one_mul]
def Bz{i j:Int}(h:0<=j/\j<=1000000/\i.natAbs<2^64):mm S (.int i) (.int j)=some (.int (i^j.toNat)):=Y8 h
def w9:mm S (.int 10) (.int 12)=some (.int 1000000000000):=by
 rw[Bz ⟨by decide,by decide,by decide⟩]
 have e:(10:Int)^(12:Int).toNat=1000000000000:=by decide
 rw[e]
def oM{A:Type}{xs:List A}{i:Nat}(h:i<xs.length):atI xs (i:Int)=some xs[i]:=Dv (Yk h)
end PD
namespace PySem
def Heap.ZatD(h:Heap)(e:Addr)(dx:Option Addr):Prop:=∃o,h.get? e=some o/\ZO o/\o.dict=dx
end PySem
namespace L2
open PySem PySem.Spec PyProof.Rows
def Fly(l:List Env)(H':Hp)(h hs:Heap)(ea:Addr)(cls:Value)(da:Option Addr):Prop:=
 ∃(B:Heap)(a0:Value),Heap.FlyingW B l ea cls a0 hs/\(∀b o,h.get? b=some o->b∉frs l->∃o',B.get? b=some o')/\(∀b u,H' b=some u->∃o',B.get? b=some o')/\hs.ZatD ea da
def CX1(P:Program)(w:World):CXT:=λouter H s E e s'=>
 ∃ea cls da H',e=.ref ea/\s'.os=s.os/\AllBare s'.gens/\Un (frs outer) [] H H' s.heap s'.heap/\HOk P w H' s'.heap/\Fly outer H' s.heap s'.heap ea cls da/\E cls da H'
end L2
namespace PD
open PySem PySem.Spec PyProof.Rows L2
section
variable{X:Cx}{E:XK}
theorem aD.nx{A B:Type}{K:Frag}{rel:Wd->Hp->A->B->Prop}{w:Wd}{H:Hp}{r:R A}{Q:B->Hp->Prop}(h:aD K E rel w H r.nx Q):aD K E0 rel w H r Q:=by
 cases r with
 |ok a S=>exact h
 |err x S=>exact h.elim
 |bad=>exact h
end
section
variable{P:Program}{w:World}{K:Frag}{mg:Str->Option Value}{base:Heap}{N:List Str}{qual:Str}{scope:Scope}{f:Addr}{cdv:Value}{A:Around}{outer:List Env}{s:Shared}{H:Hp}{E:XK}
def gj{X:Cx}:Passes (CX1 X.prog X.w) X E0:=λ_ _ _ _ _ _ _ ⟨_,_,_,_,_,_,_,_,_,_,z⟩=>z.elim
end
variable{x:Str}{st:Stmt}{f:Addr}{fd:FuncData}
def spN(K:Frag)(n:Nat)(f:FM):Sp:=λvs H Q _=>vs.length=n/\∃w S ds,RS K w H S/\RDs K w H ds vs/\aD K E0 (RD K) w H (f ds S) Q
structure DefN(P:Program)(w:World)(K:Frag)(mg:Str->Option Value)(base:Heap)(x:Str)(k n:Nat)(f:FM):Prop where
 ex:∃(fa:Addr)(fd:FuncData)(ps:List Str),mg x=some (.ref fa)/\keepIn K (.ref fa)=true/\Binds K fd ps []/\FnOk P w K mg base (CX1 P w) k fa fd ps (spN K n f)
structure DefR(P:Program)(w:World)(K:Frag)(mg:Str->Option Value)(base:Heap)(x:Str)(k n:Nat)(f:FM):Prop where
 ex:∃(fa:Addr)(fd:FuncData)(ps:List Str),mg x=some (.ref fa)/\keepIn K (.ref fa)=true/\Binds K fd ps []/\FnOk P w K mg base (CX1 P w) k fa fd ps (spM K n f)
section
variable{X:Cx}{E:XK}{x:Str}{k n:Nat}{f:FM}{a:Expr}{es:List Expr}{ms:AM}{p pos:Pos}
theorem aB(D:DefN X.prog X.w X.K X.mg X.base x k n f)(hr:Room k X.A)(hg:Gl X x)(ha:SA X E0 (a::es) ms)(hn:w8 ms n)(hdb:autoParam ((x == ("__debug__":Str))=false) zz3._auto_1)
  (he:autoParam (starEach (a::es) X.env=(false,eval a X.env)::starEach es X.env) zz0._auto_1) (hpl:autoParam ((backTo pos (starEach es X.env)).any (·.1)=false) zz0._auto_1):
  SE X E0 (.Call (.Name x p) (a::es) [] pos) (az f ms):=by
 obtain⟨fa,fd,ps,hm,hk,hb,F⟩:=D.ex;refine⟨bb (Dn F hr hg hm hk hb (dvs:=[]) .nil gj ha.out hdb he hpl) λs H Q zq=>?_⟩;obtain⟨w,r,S,hr,hS,hp⟩:=zq;refine⟨w,r,S,hr,hS,?_⟩;have hp':aD X.K E0 (RD X.K) w H ((ms r S).bind λxs S1=>f xs S1) Q:=hp;cases e:ms r S with
 |bad=>rw[e]at hp';exact hp'.elim
 |err y S'=>rw[e]at hp';exact hp'
 |ok ds S'=>
  rw[e]at hp';intro w1 H1 vs x1 q1 s1;rw[Qh]
  exact⟨by rw[q1.length];exact hn r S ds S' e,w1,S',ds,s1,q1,aD.ext (r:=f ds S') hp' x1 hS s1⟩
end
section
variable{P:Program}{w:World}{K:Frag}{mg:Str->Option Value}{base:Heap}
theorem sR{qual:Str}{N ps:List Str}{k:Nat}{m:SM}(F:Fun K x qual st f fd)(S:FnScope N ps (defScope st))
  (hbody:∀(cdv:Value)(A:Around)(outer:List Env)(s:Shared)(H:Hp)(E:XK),Room k (A.deeper (envOfC qual (defScope st) s.heap.objs.size f cdv))->
   SSs (p8 (CX1 P w) P w K mg base N qual (defScope st) f cdv A outer s H E).nox E0 (defBody st) m):FnOk P w K mg base (CX1 P w) (k+1) f fd ps (spN K ps.length (fnM N.length m)):=by
 obtain⟨oc,od,kV,doc,pm,an,cdv,ct,osl,rfl,lk,hcd⟩:=F.ex;refine I0 lk hcd S (λvs H Q E h=>h.1) λA outer s H vs Q E hr h=>?_;obtain⟨hl,u,T,ds,hT,q,p⟩:=h;refine⟨_,(hbody cdv A outer s H E hr).out.nox,u,_,T,zN q,hT,?_⟩;refine aD.bind (rel:=RF K) p hT λg S1 w1 H1 fv x1 q1 s1 p1=>?_;cases g with
 |nx r=>obtain⟨s',rfl,_⟩:=q1;have z:=aD.ret (Q:=Q) (rel:=RD K) (a:=D.non) (b:=V.non) p1 (by unfold RD;rfl) s1;exact z
 |rt d=>obtain⟨v,rfl,q2⟩:=q1;have z:=aD.ret (Q:=Q) (rel:=RD K) (a:=d) (b:=v) p1 q2 s1;exact z
 |bk r=>exact p1.elim
 |ct r=>exact p1.elim
def aI{m:SM}(N ps:List Str)(k k1 n0 n1:Nat)(hk:k1=k+1)(h0:n0=ps.length)(h1:n1=N.length)(F:Fun K x x st f fd)(hm:mg x=some (.ref f))(hb:Binds K fd ps [])(S:FnScope N ps (defScope st))
  (hbody:∀(cdv:Value)(A:Around)(outer:List Env)(s:Shared)(H:Hp)(E:XK),Room k (A.deeper (envOfC x (defScope st) s.heap.objs.size f cdv))->
   SSs (p8 (CX1 P w) P w K mg base N x (defScope st) f cdv A outer s H E).nox E0 (defBody st) m):DefN P w K mg base x k1 n0 (fnM n1 m):=by
 subst hk h0 h1;exact⟨f,fd,ps,hm,F.kp,hb,sR F S hbody⟩
def DM{m:SM}(N ps:List Str)(k k1 n0 n1:Nat)(hk:k1=k+1)(h0:n0=ps.length)(h1:n1=N.length)(F:Fun K x x st f fd)(S:FnScope N ps (defScope st))
  (hbody:∀(cdv:Value)(A:Around)(outer:List Env)(s:Shared)(H:Hp)(E:XK),Room k (A.deeper (envOfC x (defScope st) s.heap.objs.size f cdv))->
   SSs (p8 (CX1 P w) P w K mg base N x (defScope st) f cdv A outer s H E).nox E0 (defBody st) m):FnOk P w K mg base (CX1 P w) k1 f fd ps (spN K n0 (fnM n1 m)):=by
 subst hk h0 h1;exact sR F S hbody
end
end PD
namespace L2
open PySem PySem.Spec PyProof.Rows
section
variable{X:Cx}{pins:List (Addr×Obj)}{σ:St}{H:Hp}{s:Shared}
abbrev Cx.with(X:Cx)(p:List (Addr×Obj))(W:Value->Shared->Prop):Cx:={ X with pn:=p,xe:=W }
end
section
variable{prog:Program}{w:World}{A:Around}{E:Value->Shared->Prop}{s:Shared}{K:Frag}{ea C:Addr}{ox:Obj}{od:Option Obj}
structure ExK(K:Frag)(C:Addr):Prop where
 ga:findIn K (.ref C) "__getattribute__" = some (some (.builtin "BaseException.__getattribute__"))
 gh:findIn K (.ref C) "__getattr__" = some none
 cl:findIn K (.ref C) "__class__" = some (some (.builtin "object.__class__"))
 bs:mroIn K C (.type "BaseException")=some true
 ob:mroIn K C (.type "object")=some true
 is:(clsIn K C).isSome=true
end
end L2
namespace PD
open PySem PySem.Spec PyProof.Rows L2
structure Cls(K:Frag)(cs ks:List Str)(isa:Str->Str->Bool):Prop where
 gt:specialIn K (.builtin "object.__class__") "__get__" = some (some (.builtin "getset_descriptor.__get__"))
 tk:takesIn K (.builtin "object.__class__")=some true
 ex:∀c∈cs,∃C,nsIn K mainGlobals c=some (some (.ref C))/\ExK K C/\kitOne K (.ref C) (.type "ValueError")=some true
 isa:∀c∈cs,∀k∈ks,∃C D,nsIn K mainGlobals c=some (some C)/\nsIn K mainGlobals k=some (some D)/\kitOne K C D=some (isa c k)
section
variable{X:Cx}{E:XK}
def intsOf:List D->Option (List Int)
 |[]=>some []
 |.int b::r=>(intsOf r).map (b :: ·)
 |_::_=>none
def uU:Sto->List D->Option D
 |S,[d]=>match bN S d with
  |some a=>(intsOf a).map λns=>.int ns.sum
  |none=>none
 |_,_=>none
theorem uV:∀{ds:List D}{ns:List Int},intsOf ds=some ns->ns.length=ds.length
 |[],_,h=>by unfold intsOf at h;cases h;rfl
 |d::ds,ns,h=>by
  cases d with
  |int i=>
   unfold intsOf at h;cases e:intsOf ds with
   |none=>rw[e]at h;cases h
   |some cs=>rw[e]at h;cases h;simp[uV e]
  |_=>unfold intsOf at h;cases h
theorem sS{K:Frag}{w:Wd}{H:Hp}:∀{ds:List D}{vs:List V}{us:List Value}{ns:List Int},RDs K w H ds vs->Vals vs us->intsOf ds=some ns->∀(i:Nat)(v:Value),us[i]?=some v->∃t,v=.int ((ns[i]?).getD 0) t
 |[],_,_,_,q,r,h,i,v,e=>by rw[q.nil_inv]at r;cases r;simp at e
 |d::ds,_,_,ns,q,r,h,i,v,e=>by
  obtain⟨y,vs,rfl,p,t⟩:=q.cons_inv;cases d with
  |int b=>
   unfold intsOf at h;cases e':intsOf ds with
   |none=>rw[e']at h;cases h
   |some cs=>
    rw[e']at h;cases h;cases p.int;cases r with
    |cons r1 r2=>
     cases i with
     |zero=>
      obtain⟨t,rfl⟩:=r1;simp at e
      exact⟨t,by simp[e]⟩
     |succ i=>
      have z:=sS t r2 e' i v (by simpa using e)
      simpa using z
  |_=>unfold intsOf at h;cases h
theorem m8(ns:List Int):∀k,k<=ns.length->preSum (λi=>(ns[i]?).getD 0) k=(ns.take k).sum
 |0,_=>by simp[preSum]
 |k+1,h=>by have hk:k<ns.length:=h;show preSum _ k+(ns[k]?).getD 0=_;rw[m8 ns k (K8 hk),Um,List.sum_append,Yk hk];simp
def BA(hc:X.calm=true):bI X (.builtin "sum") (xC X.K E uU):=by
 rintro pins s σ H xs us Q I r ⟨w,S,ds,hS,qs,p⟩;obtain⟨z,hz,p'⟩:=p.of;clear p;unfold uU at hz;split at hz
 .rename_i d;cases ea:bN S d with
  |none=>rw[ea]at hz;cases hz
  |some a=>
   rw[ea]at hz;simp only at hz;cases e:intsOf a with
   |none=>rw[e]at hz;cases hz
   |some ns=>
    rw[e]at hz;cases hz;obtain⟨v,rfl,q⟩:=qs.one_inv;obtain⟨pa,vs,rfl,sq,ra⟩:=mw hS q ea;obtain⟨u,rfl,ru⟩:=Wb r;cases ru;have hlen:=uV e
    have fin:∀n,n=ns.length->preSum (λi=>(ns[i]?).getD 0) n=ns.sum:=λn hn=>by rw[hn,m8 ns _ (Yd _),Va]
    rcases sq with sq|sq
    .obtain⟨its,r1,⟨o,n,ho,hcl,hdn,hd⟩,_⟩:=I.list sq;have hlt:pa<s.heap.objs.size:=Yn ho;have hl:s.heap.IsList pa its.toArray:=⟨o,ho,hcl,n,hd⟩;refine call_sum_walkG (Qd hl ?_)
     refine⟨s.heap.objs.size,[s.heap.objs.size,pa],[s.heap.objs.size],its.toArray.size,_,_,λi=>(ns[i]?).getD 0,rfl,Ub (A:=X.A.in1) (I.ok.hd hc) _ pa (Yt hlt) its.toArray,
      ⟨⟨_,Yg _ rfl,rfl,rfl⟩,hl.push _⟩,λb hb=>?_,λi v hP=>sS ra r1 e i v (by simpa using hP),λh' tk t' hk=>?_⟩
     .simp only[Yc,Yx,Zl]at hb;rw[Z5];rcases hb with rfl|rfl
      .exact Zx _
      .exact We hlt
     .rw[fin _ (by rw[hlen,<- ra.length,r1.length];simp)]
      exact⟨.int _,H,I.kept (LSm.kept_iter hk),⟨t',rfl⟩,p'.ret RD.mkI hS⟩
    .obtain⟨its,r1,⟨o,ho,hcl,n,hd⟩,_⟩:=I.tuple sq;have hlt:pa<s.heap.objs.size:=Yn ho;have hl:s.heap.IsTuple pa its.toArray:=⟨o,ho,hcl,n,hd⟩;refine call_sum_walkG (Vi hl ?_)
     refine⟨s.heap.objs.size,[s.heap.objs.size,pa],[s.heap.objs.size],its.toArray.size,_,_,λi=>(ns[i]?).getD 0,rfl,Walks.tuple (A:=X.A.in1) (I.ok.hd hc) _ pa (Yt hlt) its.toArray,
      ⟨⟨_,Yg _ rfl,rfl,rfl⟩,hl.push _⟩,λb hb=>?_,λi v hP=>sS ra r1 e i v (by simpa using hP),λh' tk t' hk=>?_⟩
     .simp only[Yc,Yx,Zl]at hb;rw[Z5];rcases hb with rfl|rfl
      .exact Zx _
      .exact We hlt
     .rw[fin _ (by rw[hlen,<- ra.length,r1.length];simp)]
      exact⟨.int _,H,I.kept (LSm.kept_iter hk),⟨t',rfl⟩,p'.ret RD.mkI hS⟩
 .cases hz
end
theorem gK(t:TM)(b:SM):∀(n k:Nat)(r:Rho)(S:Sto),cM t b n r S≠.bad->cM t b (n+k) r S=cM t b n r S
 |0,k,r,S,h=>absurd rfl h
 |n+1,k,r,S,h=>by
  rw[show n+1+k=(n+k)+1 by omega]
  unfold cM at h ⊢;cases e:t r S with
  |bad=>rfl
  |err x S1=>rfl
  |ok c S1=>
   rw[e]at h;simp only[R.bind_ok]at h ⊢;cases c with
   |false=>rfl
   |true=>
    simp only[Zj]at h ⊢;cases e2:b r S1 with
    |bad=>rfl
    |err x S2=>rfl
    |ok f S2=>
     rw[e2]at h;simp only[R.bind_ok]at h ⊢;cases f with
     |nx r2=>exact gK t b n k r2 S2 h
     |ct r2=>exact gK t b n k r2 S2 h
     |bk r2=>rfl
     |rt d=>rfl
open Classical in
def sWh(t:TM)(b:SM):SM:=λr S=>if h:∃n,cM t b n r S≠.bad then cM t b h.choose r S else .bad
def BB{t:TM}{b:SM}{r:Rho}{S:Sto}(n:Nat)(h:cM t b n r S≠.bad):sWh t b r S=cM t b n r S:=by
 have hx:∃n,cM t b n r S≠.bad:=⟨n,h⟩;unfold sWh;rw[dif_pos hx];have hc:=hx.choose_spec;rcases Nat.le_total n hx.choose with z|z
 .obtain⟨k,e⟩:=Nat.exists_eq_add_of_le z;rw[e];exact gK t b n k r S h
 .obtain⟨k,e⟩:=Nat.exists_eq_add_of_le z;have:=gK t b hx.choose k r S hc;rw[<- e]at this;exact this.symm
section
variable{X:Cx}{E:XK}{c:Expr}{body:List Stmt}{mt:TM}{m:SM}{pos:Pos}
def uW(hp:PassesOwn (model X.prog X.w) X.A X.env X.xe)(hc:ST X E c mt)(hb:SSs X E body m):SS X E (.While c body [] pos) (sWh mt m):=⟨
 ez (AS hp hc.out hb.out) λD s H zq=>ex6 zq λw r S hr hS hp=>by
  have h0:∃n,aD X.K E (RF X.K) w H (cM mt m n r S) (FV.to D):=by
   have hp':aD X.K E (RF X.K) w H (sWh mt m r S) (FV.to D):=hp;unfold sWh at hp';split at hp'
   .exact⟨_,hp'⟩
   .exact hp'.elim
  obtain⟨n0,hp0⟩:=h0;refine⟨λn s' H'=>∃w' r' S',RSt X.K w' H' r' s'/\RS X.K w' H' S'/\aD X.K E (RF X.K) w' H' (cM mt m n r' S') (FV.to D),⟨n0,w,r,S,hr,hS,hp0⟩,?_⟩;rintro n s1 H1 ⟨w1,r1,S1,hr1,hS1,hp1⟩;cases n with
  |zero=>exact hp1.elim
  |succ n=>
   unfold cM at hp1;refine⟨w1,r1,S1,hr1,hS1,hp1.bind hS1 λk S2 w2 H2 v x2 q2 s2 p2=>?_⟩;have e:v=k:=q2;subst e;cases v with
   |false=>exact qc (aD.ret (b:=FV.nx s1) p2 ⟨s1,rfl,hr1.ext x2⟩ s2)
   |true=>
    refine qf ⟨λs' H'=>∃w' r' S',RSt X.K w' H' r' s'/\RS X.K w' H' S'/\aD X.K E (RF X.K) w' H' (cM mt m n r' S') (FV.to D),λs' H' hN=>⟨n,Zx n,hN⟩,?_⟩;simp only[Zj]at p2;refine⟨w2,r1,S2,hr1.ext x2,s2,aD.bind (rel:=RF X.K) p2 s2 λf S5 w5 H5 fv x5 q5 s5 p5=>?_⟩;cases f with
    |nx r6=>obtain⟨s6,rfl,q6⟩:=q5;exact⟨w5,r6,S5,q6,s5,p5⟩
    |ct r6=>obtain⟨s6,rfl,q6⟩:=q5;exact⟨w5,r6,S5,q6,s5,p5⟩
    |bk r6=>obtain⟨s6,rfl,q6⟩:=q5;have z:=aD.ret (Q:=FV.to D) (rel:=RF X.K) (a:=F.nx r6) (b:=FV.nx s6) p5 ⟨s6,rfl,q6⟩ s5;exact z
    |rt d6=>obtain⟨v6,rfl,q6⟩:=q5;have z:=aD.ret (Q:=FV.to D) (rel:=RF X.K) (a:=F.rt d6) (b:=FV.rt v6) p5 ⟨v6,rfl,q6⟩ s5;exact z⟩
end
section
variable{X:Cx}{E:XK}
def eqP(a b:D):Option Bool:=match eqS a b with
 |some c=>some c
 |none=>match toPy a,toPy b with
  |some p,some q=>if SeqAt.shaped p=true/\SeqAt.shaped q=true then some (PyData.eqv p q) else none
  |_,_=>none
def fO:Sto->D->D->Option D:=λ_ a b=>(eqP a b).map .bl
def lq:Sto->D->D->Option D:=λ_ a b=>(eqP a b).map λc=>.bl (!c)
def qM{a b:D}{c:Bool}(h:eqP a b=some c):eqS a b=some c \/ ∃p q,toPy a=some p/\toPy b=some q/\SeqAt.shaped p=true/\SeqAt.shaped q=true/\c=PyData.eqv p q:=by
 unfold eqP at h;split at h
 .rename_i c' e;cases h;exact .inl e
 .split at h
  .rename_i p q e1 e2;split at h
   .rename_i hs;cases h;exact .inr ⟨p,q,e1,e2,hs.1,hs.2,rfl⟩
   .cases h
  .cases h
def fP{k:Nat}(hr:Room k X.A):OpR X (compareOp .Eq) (xO X.K E fO):=by
 rintro pins s σ H x y v u Q I rx ry ⟨w,S,d,e,hS,qd,qe,p⟩;obtain⟨z,hz,p⟩:=p.of;unfold fO at hz;cases h:eqP d e with
 |none=>rw[h]at hz;cases hz
 |some c=>
  rw[h]at hz;cases hz;rcases qM h with h|⟨a,b,e1,e2,s1,s2,rfl⟩
  .exact Jn pins s σ H x y v u Q I rx ry ⟨w,S,d,e,hS,qd,qe,by unfold oEq;rw[h];exact p⟩
  .obtain⟨as,r1,_⟩:=gp I d x v a qd rx e1;obtain⟨bs,r2,_⟩:=gp I e y u b qe ry e2;exact eq_dataH r1 r2 s1 s2 hr.units ⟨.bl _,H,I,rfl,p.ret RD.mkB hS⟩
def sU{k:Nat}(hr:Room k X.A):OpR X (compareOp .NotEq) (xO X.K E lq):=by
 rintro pins s σ H x y v u Q I rx ry ⟨w,S,d,e,hS,qd,qe,p⟩;obtain⟨z,hz,p⟩:=p.of;unfold lq at hz;cases h:eqP d e with
 |none=>rw[h]at hz;cases hz
 |some c=>
  rw[h]at hz;cases hz;rcases qM h with h|⟨a,b,e1,e2,s1,s2,rfl⟩
  .exact Jo pins s σ H x y v u Q I rx ry ⟨w,S,d,e,hS,qd,qe,by unfold oNe;rw[h];exact p⟩
  .obtain⟨as,r1,_⟩:=gp I d x v a qd rx e1;obtain⟨bs,r2,_⟩:=gp I e y u b qe ry e2;exact ne_dataH r1 r2 s1 s2 hr.units ⟨.bl _,H,I,rfl,p.ret RD.mkB hS⟩
end
def DN{f:FM}(h:∀ns:List Int,ns.length<=63->∃S,f [.fz (ns.map .int)] []=.ok (.bl true) S)(K:Frag)(H:Hp)(a:Addr)(ns:List Int)(hn:ns.length<=63)(ho:Bf H)(hs:SqL K H a (ns.map V.int)):
  spN K 1 f [.ref a] H (λv _=>v=.bl true) λ_ _ _=>False:=GZ h K H a ns hn ho hs
def G1{P:Program}{w:World}{l:List Env}{H:Hp}{s s':Shared}{e:Value}(h:CX1 P w l H s (λ_ _ _=>False) e s'):False:=by obtain⟨_,_,_,_,_,_,_,_,_,_,z⟩:=h;exact z
end PD
namespace SQ
open PySem PySem.Spec PyProof.Rows
open Sem (wp)
variable{h h':Heap}{it a l z i1 i2 l1 l2:Addr}{i:Nat}{xs:Array Value}
def nm:Bool->String
 |true=>"tuple_iterator"
 |false=>"list_iterator"
def Is:Bool->Heap->Addr->Array Value->Prop
 |true,h,a,xs=>h.IsTuple a xs
 |false,h,a,xs=>h.IsList a xs
def It(k:Bool)(h:Heap)(it a:Addr)(i:Nat):Prop:=∃o,h.get? it=some o/\o.cls=.type (nm k)/\o.data=.fields #[.ref a,.int i 0]
def It.move{k:Bool}(x:It k h it a i)(q:∀o,h.get? it=some o->h'.get? it=some o):It k h' it a i:=let ⟨o,e,r⟩:=x;⟨o,q o e,r⟩
def Is.move{k:Bool}(x:Is k h a xs)(q:∀o,h.get? a=some o->h'.get? a=some o):Is k h' a xs:=by
 cases k with
 |true=>obtain⟨o,e,r⟩:=x;exact⟨o,q o e,r⟩
 |false=>obtain⟨o,e,r⟩:=x;exact⟨o,q o e,r⟩
def Is.obj{k:Bool}(x:Is k h a xs):∃o,h.get? a=some o/\(o.cls=.type "tuple" \/ o.cls=.type "list")/\∃n,o.data=.seq xs n:=by
 cases k with
 |true=>obtain⟨o,e,c,n,d⟩:=x;exact⟨o,e,.inl c,n,d⟩
 |false=>obtain⟨o,e,c,n,d⟩:=x;exact⟨o,e,.inr c,n,d⟩
section
variable{prog:Program}{w:World}{A:Around}{E:Value->Shared->Prop}{s:Shared}
theorem iter{k:Bool}{t:Addr}{items}{Q:Value->Shared->Prop}(ht:Is k s.heap t items)
  (hQ:Q (.ref s.heap.objs.size) { s with heap:=s.heap.push { cls:=.type (nm k),data:=.fields #[.ref t,.int 0 0] } }):wpAny (model prog w) A (pyIter (.ref t)) Q E s:=by
 cases k with
 |true=>exact Vi ht hQ
 |false=>exact Qd ht hQ
def BC{items}{x:Value}{Q:Value->Shared->Prop}(hit:s.heap.IsTupleIter it l i)(hl:s.heap.IsTuple l items)(hx:items[i]?=some x)
  (hQ:∀h',h'.IsTupleIter it l (i+1)->Heap.SameBut it s.heap h'->Q x { s with heap:=h' }):wpAny (model prog w) A (Builtin.SmallTypes.nextOf (.ref it)) Q E s:=by
 obtain⟨o,ho,hc,hd⟩:=id hit;obtain⟨ol,hol,_,nl,hdl⟩:=hl;unfold Builtin.SmallTypes.nextOf;refine Y6 (Q5 (name:=Str.ofString "__next__") hit.typeIs Wl (Qk Wl hit.typeIs F.entry_tuple_iterator_next ?_ (F.args_tuple_iterator_next_1 _)))
 show wpAny _ _ (field (.ref it) 0 >>= _) _ _ s;refine Y6 (Zk ho hd (x:=.ref l) rfl ?_);show wpAny _ _ (if (Value.ref l == Value.none)=true then _ else _) _ _ s
 rw[Yi (show ¬((Value.ref l == Value.none)=true) from Yl)];show wpAny _ _ (field (.ref it) 1 >>= _) _ _ s;refine Y6 (Zk ho hd (x:=.int i 0) rfl ?_)
 show wpAny _ _ (seqItems? (.ref l) >>= _) _ _ s;refine Y6 (Zg hol hdl ?_);simp only[Vr,hx]
 refine Y6 (wpAny_setField ho hd (by simp) (Ye ⟨x,rfl,Ye (hQ _ ?_ (Wu ..))⟩));exact⟨_,Qi _ ho (U0 (Up hd _)),(Obj.cls_mapFields ..).trans hc,by rw[Up hd];simp[rawInt]⟩
def DO{items}{Q:Value->Shared->Prop}(hh:A.handled=none)(hit:s.heap.IsTupleIter it l i)(hl:s.heap.IsTuple l items)(hx:items[i]?=none)
  (hE:∀h' e,Heap.ExtBut it s.heap h'->(∃o,h'.get? e=some o/\o.cls=.type "StopIteration")->E (.ref e) { s with heap:=h' }):wpAny (model prog w) A (Builtin.SmallTypes.nextOf (.ref it)) Q E s:=by
 obtain⟨o,ho,hc,hd⟩:=id hit;obtain⟨ol,hol,_,nl,hdl⟩:=hl;unfold Builtin.SmallTypes.nextOf;refine Y6 (Q5 (name:=Str.ofString "__next__") hit.typeIs Wl (Qk Wl hit.typeIs F.entry_tuple_iterator_next ?_ (F.args_tuple_iterator_next_1 _)))
 show wpAny _ _ (field (.ref it) 0 >>= _) _ _ s;refine Y6 (Zk ho hd (x:=.ref l) rfl ?_);show wpAny _ _ (if (Value.ref l == Value.none)=true then _ else _) _ _ s
 rw[Yi (show ¬((Value.ref l == Value.none)=true) from Yl)];show wpAny _ _ (field (.ref it) 1 >>= _) _ _ s;refine Y6 (Zk ho hd (x:=.int i 0) rfl ?_)
 show wpAny _ _ (seqItems? (.ref l) >>= _) _ _ s;refine Y6 (Zg hol hdl ?_);simp only[Vr,hx]
 refine Y6 (Wa (Y6 (wpAny_setField ho hd (by simp) ?_)));show wpAny _ _ (newExc (.type "StopIteration") [] >>= _) _ _ _;refine Y6 ?_
 simp only[newExc,newTuple];refine Y6 (Zd ?_ (by size_fits));refine Y6 (m:=firstArgMember _ _) (Vf (a:=Value.none) (by first|rfl|(simp only[firstArgMember];rfl)) ?_)
 refine Zd ?_ (by size_fits);simp only[raiseNew];refine Y6 (wpAny_handled ?_);first|rw[show A.in1.handled=none from hh]|rw[hh]
 refine Y6 (Ye (wpAny_throw ?_));exact hE _ _ (((Wu ..).extBut.push _).push _) ⟨_,Yg _ rfl,rfl⟩
theorem next{k:Bool}{items}{x:Value}{Q:Value->Shared->Prop}(hit:It k s.heap it l i)(hl:Is k s.heap l items)(hx:items[i]?=some x)
  (hQ:∀h',It k h' it l (i+1)->Heap.SameBut it s.heap h'->Q x { s with heap:=h' }):wpAny (model prog w) A (Builtin.SmallTypes.nextOf (.ref it)) Q E s:=by
 cases k with
 |true=>exact BC hit hl hx hQ
 |false=>exact wpAny_nextOf_list_item hit hl hx hQ
theorem ends{k:Bool}{items}{Q:Value->Shared->Prop}(hh:A.handled=none)(hit:It k s.heap it l i)(hl:Is k s.heap l items)(hx:items[i]?=none)
  (hE:∀h' e,Heap.ExtBut it s.heap h'->(∃o,h'.get? e=some o/\o.cls=.type "StopIteration")->E (.ref e) { s with heap:=h' }):wpAny (model prog w) A (Builtin.SmallTypes.nextOf (.ref it)) Q E s:=by
 cases k with
 |true=>exact DO hh hit hl hx hE
 |false=>exact wpAny_nextOf_list_end hh hit hl hx hE
structure Apart(z TI TO i1 i2 l1 l2:Addr):Prop where
 a:TI≠z/\TO≠z/\i1≠z/\i2≠z/\TI≠TO/\TI≠i1/\TI≠i2
 b:TO≠i1/\TO≠i2/\i1≠i2
 c:l1≠z/\l1≠TO/\l1≠i1/\l1≠i2
 d:l2≠z/\l2≠TO/\l2≠i1/\l2≠i2
def sb{t b:Addr}{o:Obj}(hs:Heap.SameBut t h h')(n:b≠t)(e:h.get? b=some o):h'.get? b=some o:=(hs.2 b n).trans e
def BD{k m:Bool}{TI TO:Addr}{k1 k2:Nat}{xs ys:Array Value}{x y a b:Value}{Q:Value->Shared->Prop}(D:Apart z TI TO i1 i2 l1 l2)
  (hz:IsZip s.heap z TI TO .none) (hTI:IsPair s.heap TI (.ref i1) (.ref i2)) (hTO:IsPair s.heap TO a b)
  (h1:It k s.heap i1 l1 k1) (h2:It m s.heap i2 l2 k2) (hl1:Is k s.heap l1 xs) (hl2:Is m s.heap l2 ys) (hx:xs[k1]?=some x) (hy:ys[k2]?=some y)
  (hQ:∀h',IsZip h' z TI TO (rawInt s.heap.objs.size)->IsPair h' TO x y->It k h' i1 l1 (k1+1)->It m h' i2 l2 (k2+1)->IsPair h' s.heap.objs.size x y->h'.objs.size=s.heap.objs.size+1->
   (∀c o,c∉[z,TI,TO,i1,i2]->s.heap.get? c=some o->h'.get? c=some o)->IsPair h' TI (.ref i1) (.ref i2)->Q (.ref s.heap.objs.size) { s with heap:=h' }):
  wpAny (model prog w) A (Builtin.«zip.__next__» ⟨[.ref z],[]⟩) (λfin s'=>∃v,fin=.done (.ret v)/\Q v s') E s:=by
 obtain⟨⟨nTIz,nTOz,n1z,n2z,nTITO,nTI1,nTI2⟩,⟨nTO1,nTO2,n12⟩,⟨p1,p2,p3,p4⟩,⟨q1,q2,q3,q4⟩⟩:=D;show wpAny _ _ (field (.ref z) 2 >>= _) _ _ _;refine Y6 (Zk hz rfl (x:=.bool false) rfl ?_);show wpAny _ _ (field (.ref z) 3 >>= _) _ _ _;refine Y6 (Zk hz rfl (x:=.ref TI) rfl ?_);refine Y6 (Zg hTI rfl ?_);show wpAny _ _ (Builtin.SmallTypes.ownedTupleIsFree (.ref z) >>= _) _ _ _;refine Y6 ?_;unfold Builtin.SmallTypes.ownedTupleIsFree;refine Y6 (Zk hz rfl (x:=.none) rfl (Ye ?_));simp only[Zj]
 refine Y6 (Wa ?_);refine Y6 (Zk hz rfl (x:=.ref TO) rfl ?_);refine Y6 (Wi hz (by simp) λh₁ hz₁ s1=>?_)
 replace hz₁:IsZip h₁ z TI TO .ellipsis:=hz₁;refine Y6 ?_;simp only[List.zipIdx_cons,List.zipIdx_nil,Ua,List.forIn_nil];refine Y6 (Y6 (K2 ?_));show wpAny _ _ (Builtin.SmallTypes.nextOf (.ref i1) >>= _) _ _ _
 refine Y6 (next (h1.move λo=>sb s1 n1z) (hl1.move λo=>sb s1 p1) hx λh₂ h1₂ s2=>Ye ?_)
 have hTO₂:IsPair h₂ TO a b:=sb s2 nTO1 (sb s1 nTOz hTO);refine Y6 (Zg hTO₂ rfl ?_);refine Y6 (Uc hTO₂ λh₃ hTO₃ s3=>?_);replace hTO₃:IsPair h₃ TO x b:=hTO₃;refine Y6 (W9 (Ye ?_));refine Y6 (Y6 (K2 ?_));show wpAny _ _ (Builtin.SmallTypes.nextOf (.ref i2) >>= _) _ _ _
 refine Y6 (next (h2.move λo e=>sb s3 nTO2.symm (sb s2 n12.symm (sb s1 n2z e))) (hl2.move λo e=>sb s3 q2 (sb s2 q3 (sb s1 q1 e))) hy λh₄ h2₄ s4=>Ye ?_)
 have hTO₄:IsPair h₄ TO x b:=sb s4 nTO2 hTO₃;refine Y6 (Zg hTO₄ rfl ?_);refine Y6 (Uc hTO₄ λh₅ hTO₅ s5=>?_);replace hTO₅:IsPair h₅ TO x y:=hTO₅;refine Y6 (W9 (Ye (Ye ?_)));refine Y6 (Zg hTO₅ rfl ?_);refine Y6 (wpAny_newTuple ?_)
 have hsz:h₅.objs.size=s.heap.objs.size:=by rw[s5.1,s4.1,s3.1,s2.1,s1.1]
 have k5:∀c o,c≠z->c≠TO->c≠i1->c≠i2->s.heap.get? c=some o->h₅.get? c=some o:=λc o c1 c2 c3 c4 e=>sb s5 c2 (sb s4 c4 (sb s3 c2 (sb s2 c3 (sb s1 c1 e))));have hz₅:IsZip h₅ z TI TO .ellipsis:=sb s5 nTOz.symm (sb s4 n2z.symm (sb s3 nTOz.symm (sb s2 n1z.symm hz₁)));have h1₅:It k h₅ i1 l1 (k1+1):=h1₂.move λo e=>sb s5 nTO1.symm (sb s4 n12 (sb s3 nTO1.symm e));have h2₅:It m h₅ i2 l2 (k2+1):=h2₄.move λo e=>sb s5 nTO2.symm e;have zlt:z<h₅.objs.size:=Yn hz₅;show wpAny _ _ (Builtin.SmallTypes.ownedTupleHandOut (.ref z) (.ref h₅.objs.size) >>= _) _ _ _;refine Y6 ?_;unfold Builtin.SmallTypes.ownedTupleHandOut;have hz₆:IsZip (h₅.push { cls:=.type "tuple",data:=.seq #[x,y] }) z TI TO .ellipsis:=Y7 _ hz₅
 refine Y6 (Wi hz₆ (by simp) λh₇ hz₇ s7=>?_);replace hz₇:IsZip h₇ z TI TO (rawInt h₅.objs.size):=hz₇
 refine Wi hz₇ (by simp) λh₈ hz₈ s8=>?_;replace hz₈:IsZip h₈ z TI TO (rawInt h₅.objs.size):=hz₈
 have up:∀c o,c≠z->h₅.get? c=some o->h₈.get? c=some o:=λc o c1 e=>sb s8 c1 (sb s7 c1 (Y7 _ e));have hT₈:IsPair h₈ h₅.objs.size x y:=sb s8 (V4 zlt) (sb s7 (V4 zlt) (Yg _ rfl))
 have hz8:h₈.objs.size=h₅.objs.size+1:=by rw[s8.1,s7.1,Z5]
 rw[hsz]at hz₈ hT₈ hz8;refine Ye ⟨_,rfl,?_⟩;show Q (.ref h₅.objs.size) _;rw[hsz];refine hQ h₈ hz₈ (up _ _ nTOz hTO₅) (h1₅.move λo e=>up _ o n1z e) (h2₅.move λo e=>up _ o n2z e) hT₈ hz8 (λc o hc e=>?_) (up _ _ nTIz (k5 _ _ nTIz nTITO nTI1 nTI2 hTI));simp only[Yc,Yx,Zl,not_or]at hc;exact up c o hc.1 (k5 c o hc.1 hc.2.2.1 hc.2.2.2.1 hc.2.2.2.2 e)
theorem DP{k m:Bool}{TI TO:Addr}{k1 k2:Nat}{xs ys:Array Value}{a b:Value}{Q:Fin->Shared->Prop}(hh:A.handled=none)(D:Apart z TI TO i1 i2 l1 l2)
  (hz:IsZip s.heap z TI TO .none) (hTI:IsPair s.heap TI (.ref i1) (.ref i2)) (hTO:IsPair s.heap TO a b)
  (h1:It k s.heap i1 l1 k1) (h2:It m s.heap i2 l2 k2) (hl1:Is k s.heap l1 xs) (hl2:Is m s.heap l2 ys) (hend:xs[k1]?=none\/ys[k2]?=none)
  (hE:∀h' e,(∀c o,c∉[z,TI,TO,i1,i2]->s.heap.get? c=some o->h'.get? c=some o)->(∃o,h'.get? e=some o/\o.cls=.type "StopIteration")->E (.ref e) { s with heap:=h' }):
  wpAny (model prog w) A (Builtin.«zip.__next__» ⟨[.ref z],[]⟩) Q E s:=by
 obtain⟨⟨nTIz,nTOz,n1z,n2z,nTITO,nTI1,nTI2⟩,⟨nTO1,nTO2,n12⟩,⟨p1,p2,p3,p4⟩,⟨q1,q2,q3,q4⟩⟩:=D;show wpAny _ _ (field (.ref z) 2 >>= _) _ _ _;refine Y6 (Zk hz rfl (x:=.bool false) rfl ?_);show wpAny _ _ (field (.ref z) 3 >>= _) _ _ _;refine Y6 (Zk hz rfl (x:=.ref TI) rfl ?_);refine Y6 (Zg hTI rfl ?_);show wpAny _ _ (Builtin.SmallTypes.ownedTupleIsFree (.ref z) >>= _) _ _ _;refine Y6 ?_;unfold Builtin.SmallTypes.ownedTupleIsFree;refine Y6 (Zk hz rfl (x:=.none) rfl (Ye ?_));simp only[Zj]
 refine Y6 (Wa ?_);refine Y6 (Zk hz rfl (x:=.ref TO) rfl ?_);refine Y6 (Wi hz (by simp) λh₁ hz₁ s1=>?_)
 replace hz₁:IsZip h₁ z TI TO .ellipsis:=hz₁;refine Y6 ?_;simp only[List.zipIdx_cons,List.zipIdx_nil,Ua,List.forIn_nil];refine Y6 (Y6 (K2 ?_));show wpAny _ _ (Builtin.SmallTypes.nextOf (.ref i1) >>= _) _ _ _;cases hx:xs[k1]? with
 |none=>
  refine Y6 (ends hh (h1.move λo=>sb s1 n1z) (hl1.move λo=>sb s1 p1) hx λh₂ e s2 he=>?_);obtain⟨oe,hoe,hce⟩:=he;have hz₂:IsZip h₂ z TI TO .ellipsis:=s2 _ _ n1z.symm hz₁
  have hez:e≠z:=λx=>by subst x;rw[hz₂]at hoe;cases hoe;simp at hce
  refine Wi hz₂ (by simp) λh₃ _ s3=>hE h₃ e (λc o hc x=>?_) ⟨oe,sb s3 hez hoe,hce⟩
  simp only[Yc,Yx,Zl,not_or]at hc;exact sb s3 hc.1 (s2 _ _ hc.2.2.2.1 (sb s1 hc.1 x))
 |some x=>
  have hy:ys[k2]?=none:=hend.resolve_left λh=>by rw[hx]at h;cases h
  refine Y6 (next (h1.move λo=>sb s1 n1z) (hl1.move λo=>sb s1 p1) hx λh₂ h1₂ s2=>Ye ?_)
  have hTO₂:IsPair h₂ TO a b:=sb s2 nTO1 (sb s1 nTOz hTO);refine Y6 (Zg hTO₂ rfl ?_);refine Y6 (Uc hTO₂ λh₃ hTO₃ s3=>?_);refine Y6 (W9 (Ye ?_));refine Y6 (Y6 (K2 ?_));show wpAny _ _ (Builtin.SmallTypes.nextOf (.ref i2) >>= _) _ _ _;refine Y6 (ends hh (h2.move λo e=>sb s3 nTO2.symm (sb s2 n12.symm (sb s1 n2z e))) (hl2.move λo e=>sb s3 q2 (sb s2 q3 (sb s1 q1 e))) hy λh₄ e s4 he=>?_);obtain⟨oe,hoe,hce⟩:=he;have hz₄:IsZip h₄ z TI TO .ellipsis:=s4 _ _ n2z.symm (sb s3 nTOz.symm (sb s2 n1z.symm hz₁))
  have hez:e≠z:=λx=>by subst x;rw[hz₄]at hoe;cases hoe;simp at hce
  refine Wi hz₄ (by simp) λh₅ _ s5=>hE h₅ e (λc o hc x=>?_) ⟨oe,sb s5 hez hoe,hce⟩
  simp only[Yc,Yx,Zl,not_or]at hc;exact sb s5 hc.1 (s4 _ _ hc.2.2.2.2 (sb s3 hc.2.2.1 (sb s2 hc.2.2.2.1 (sb s1 hc.1 x))))
def zip_next{k m:Bool}{TI TO:Addr}{k1 k2:Nat}{xs ys:Array Value}{x y a b:Value}{Q:Option Value->Shared->Prop}(D:Apart z TI TO i1 i2 l1 l2)
  (hz:IsZip s.heap z TI TO .none) (hTI:IsPair s.heap TI (.ref i1) (.ref i2)) (hTO:IsPair s.heap TO a b)
  (h1:It k s.heap i1 l1 k1) (h2:It m s.heap i2 l2 k2) (hl1:Is k s.heap l1 xs) (hl2:Is m s.heap l2 ys) (hx:xs[k1]?=some x) (hy:ys[k2]?=some y)
  (hQ:∀h',IsZip h' z TI TO (rawInt s.heap.objs.size)->IsPair h' TO x y->It k h' i1 l1 (k1+1)->It m h' i2 l2 (k2+1)->IsPair h' s.heap.objs.size x y->h'.objs.size=s.heap.objs.size+1->
   (∀c o,c∉[z,TI,TO,i1,i2]->s.heap.get? c=some o->h'.get? c=some o)->IsPair h' TI (.ref i1) (.ref i2)->Q (some (.ref s.heap.objs.size)) { s with heap:=h' }):wpAny (model prog w) A (pyNext (.ref z)) Q E s:=by
 have hT:s.TypeIs (.ref z) "zip":=⟨_,hz,rfl⟩;unfold pyNext
 exact Y6 (wpAny_attempt (Q5 (name:=Str.ofString "__next__") hT Ud (Qk Ud hT F.entry_zip_next (BD D hz hTI hTO h1 h2 hl1 hl2 hx hy λh' a1 a2 a3 a4 a5 a6 a7 a8=>Ye (hQ h' a1 a2 a3 a4 a5 a6 a7 a8)) (F.args_zip_next_1 _))))
def zip_stop{k m:Bool}{TI TO:Addr}{k1 k2:Nat}{xs ys:Array Value}{a b:Value}{Q:Option Value->Shared->Prop}(hh:A.handled=none)(D:Apart z TI TO i1 i2 l1 l2)
  (hz:IsZip s.heap z TI TO .none) (hTI:IsPair s.heap TI (.ref i1) (.ref i2)) (hTO:IsPair s.heap TO a b)
  (h1:It k s.heap i1 l1 k1) (h2:It m s.heap i2 l2 k2) (hl1:Is k s.heap l1 xs) (hl2:Is m s.heap l2 ys) (hend:xs[k1]?=none\/ys[k2]?=none)
  (hQ:∀h',(∀c o,c∉[z,TI,TO,i1,i2]->s.heap.get? c=some o->h'.get? c=some o)->Q none { s with heap:=h' }):wpAny (model prog w) A (pyNext (.ref z)) Q E s:=by
 have hT:s.TypeIs (.ref z) "zip":=⟨_,hz,rfl⟩;unfold pyNext
 refine Y6 (wpAny_attempt (Q5 (name:=Str.ofString "__next__") hT Ud (Qk Ud hT F.entry_zip_next (DP hh D hz hTI hTO h1 h2 hl1 hl2 hend λh' e hk he=>?_) (F.args_zip_next_1 _))))
 obtain⟨o,ho,hc⟩:=he;refine Y6 (wpAny_isInstance (T:="StopIteration") (b:=true) ⟨o,ho,hc⟩ isSubtype_stop ?_);exact Ye (hQ _ hk)
end
abbrev z1(k:Bool)(h:Heap)(l1:Addr):Heap:=h.push { cls:=.type (nm k),data:=.fields #[.ref l1,.int 0 0] }
abbrev z2(k m:Bool)(h:Heap)(l1 l2:Addr):Heap:=(z1 k h l1).push { cls:=.type (nm m),data:=.fields #[.ref l2,.int 0 0] }
abbrev z3(k m:Bool)(h:Heap)(l1 l2:Addr):Heap:=(z2 k m h l1 l2).push { cls:=.type "tuple",data:=.seq #[.ref h.objs.size,.ref (z1 k h l1).objs.size] }
abbrev z4(k m:Bool)(h:Heap)(l1 l2:Addr):Heap:=(z3 k m h l1 l2).push { cls:=.type "tuple",data:=.seq #[.none,.none] }
abbrev z5(k m:Bool)(h:Heap)(l1 l2:Addr):Heap:=(z4 k m h l1 l2).push { cls:=.type "zip",data:=.fields #[.none,.bool false,.bool false,.ref (z2 k m h l1 l2).objs.size,.ref (z3 k m h l1 l2).objs.size] }
def zQ(k m:Bool)(l1 l2:Addr)(xs ys:Array Value):
  Meets (Builtin.«zip.__new__» ⟨[.type "zip",.ref l1,.ref l2],[]⟩) (λ_ R s=>Is k s.heap l1 xs/\Is m s.heap l2 ys/\R (.ok (.ret (.ref (z4 k m s.heap l1 l2).objs.size))) { s with heap:=z5 k m s.heap l1 l2 }):=
 .of_wp λprog w A R s h=>by
  obtain⟨hp,g,d,tk,os⟩:=s;obtain⟨hl1,hl2,h⟩:=h;have hsub:=sub_zip;have hL1:Is k (Shared.heap ⟨hp,g,d,tk,os⟩) l1 xs:=hl1;have hL2:Is m (Shared.heap ⟨hp.push { cls:=.type (nm k),data:=.fields #[.ref l1,.int 0 0] },g,d,tk,os⟩) l2 ys:=hl2.move λo e=>Y7 _ e
  wp_walk using iter hL1,iter hL2
  exact⟨_,rfl,h⟩
section
variable{prog:Program}{w:World}{A:Around}{E:Value->Shared->Prop}{s:Shared}
def call_zip{k m:Bool}{ys:Array Value}{Q:Value->Shared->Prop}(hl1:Is k s.heap l1 xs)(hl2:Is m s.heap l2 ys)
  (h:∀h',IsZip h' (s.heap.objs.size+4) (s.heap.objs.size+2) (s.heap.objs.size+3) .none->IsPair h' (s.heap.objs.size+2) (.ref s.heap.objs.size) (.ref (s.heap.objs.size+1))->
   IsPair h' (s.heap.objs.size+3) .none .none->It k h' s.heap.objs.size l1 0->It m h' (s.heap.objs.size+1) l2 0->h'.objs.size=s.heap.objs.size+5->
   (∀c o,s.heap.get? c=some o->h'.get? c=some o)->Q (.ref (s.heap.objs.size+4)) { s with heap:=h' }):wpAny (model prog w) A (call (.type "zip") [.ref l1,.ref l2]) Q E s:=by
 refine callType_new F.called_zip (by decide) (F.typeCall_zip_2 _ _) (F.newCall_zip_2 _ _) (λobj=>F.args_object_init_3 obj _ _) F.entry_zip_new (zQ k m l1 l2 xs ys) ⟨hl1,hl2,?_⟩
 have e1:(z1 k s.heap l1).objs.size=s.heap.objs.size+1:=Z5 ..
 have e2:(z2 k m s.heap l1 l2).objs.size=s.heap.objs.size+2:=by rw[Z5,e1]
 have e3:(z3 k m s.heap l1 l2).objs.size=s.heap.objs.size+3:=by rw[Z5,e2]
 have e4:(z4 k m s.heap l1 l2).objs.size=s.heap.objs.size+4:=by rw[Z5,e3]
 have e5:(z5 k m s.heap l1 l2).objs.size=s.heap.objs.size+5:=by rw[Z5,e4]
 have g5:(z5 k m s.heap l1 l2).get? (z4 k m s.heap l1 l2).objs.size=some _:=Yg _ rfl;have g4:(z5 k m s.heap l1 l2).get? (z3 k m s.heap l1 l2).objs.size=some _:=Y7 _ (Yg _ rfl);have g3:(z5 k m s.heap l1 l2).get? (z2 k m s.heap l1 l2).objs.size=some _:=Y7 _ (Y7 _ (Yg _ rfl));have g2:(z5 k m s.heap l1 l2).get? (z1 k s.heap l1).objs.size=some _:=Y7 _ (Y7 _ (Y7 _ (Yg _ rfl)));have g1:(z5 k m s.heap l1 l2).get? s.heap.objs.size=some _:=Y7 _ (Y7 _ (Y7 _ (Y7 _ (Yg _ rfl))));show _/\_;rw[e2,e3,e4]at g5;rw[e1,e2]at g3;rw[e3]at g4;rw[e1]at g2;rw[e4];exact⟨⟨_,g5,rfl⟩,h _ g5 g3 g4 ⟨_,g1,rfl,rfl⟩ ⟨_,g2,rfl,rfl⟩ e5 λc o x=>Y7 _ (Y7 _ (Y7 _ (Y7 _ (Y7 _ x))))⟩
end
end SQ
namespace L2
open PySem PySem.Spec PyProof.Rows
section
variable{X:Cx}{pins:List (Addr×Obj)}{σ:St}{H:Hp}{s:Shared}{h':Heap}
def Inv.turnedS{t':Nat}{fp:List Addr}(I:Inv X pins σ H s)(k:∀b o,b∉fp->s.heap.get? b=some o->h'.get? b=some o)(hf:∀b∈fp,FpOk X pins H b):Inv X pins σ H { s with heap:=h',toks:=t' }:=by
 refine I.step (g':=s.gens) (d':=s.drawn) (ch:=fp) (λb hb=>?_) (λb o _ _ hc e _=>k b o hc e) (λb o _ _ hc e _=>⟨o.slots,k b o hc e⟩) (λ_ _ _ _ n=>n)
  (λb o hc e=>⟨o,k b o hc e⟩) (λ_ _ e=>e) (λ_ _ _ e=>e) (λb ps e=>⟨#[],by rw[e];simp⟩) (λm hm=>?_) (λb u e=>?_) I.bare
 .obtain⟨f0,f1,f2,f3,f4,f5⟩:=hf b hb;exact⟨f3,f1,f4,f5⟩
 .obtain⟨o,es,ep,ho,r⟩:=hm;exact⟨o,es,ep,k _ o (λz=>(hf _ z).2.1 rfl) ho,r⟩
 .refine(I.hok b u e).stay (λc v hc q=>k c v (λz=>?_) q) (λ_ q=>q) λ_ _ q=>q;have hn:=(hf c z).1;rcases hc with y|y
  .rw[y,e]at hn;cases hn
  .rw[y]at hn;cases hn
def Inv.turnedP{t':Nat}{fp:List Addr}{x y:V}{u v:Value}(I:Inv X pins σ H s)(hf:∀b∈fp,FpOk X pins H b)(hlt:∀b∈fp,b<s.heap.objs.size)(rx:RelV x u)(ry:RelV y v)
  (k:∀b o,b∉fp->s.heap.get? b=some o->h'.get? b=some o) (hp:IsPair h' s.heap.objs.size u v):Inv X pins σ (upd H s.heap.objs.size (.tup [x,y])) { s with heap:=h',toks:=t' }:=by
 have I1:Inv X pins σ (upd H s.heap.objs.size (.tup [x,y])) { s with heap:=s.heap.push { cls:=.type "tuple",data:=.seq #[u,v] },toks:=t' }:=
  I.laid (t':=t') (λb u e=>Y7 _ e) (Yd _) ⟨by show 2<=sizeLine;decide,[u,v],.cons rx (.cons ry .nil),⟨_,Yg _ rfl,rfl,_,rfl⟩⟩
 refine Inv.turnedS (s:={ s with heap:=s.heap.push { cls:=.type "tuple",data:=.seq #[u,v] },toks:=t' }) (fp:=fp) (t':=t') (h':=h') I1 (λb o hb e=>?_) λb hb=>?_
 .rcases Heap.get?_push_cases e with⟨rfl,rfl⟩|e
  .exact hp
  .exact k b o hb e
 .obtain⟨f0,f1⟩:=hf b hb
  exact⟨by rw[aN (Yt (hlt b hb))];exact f0,f1⟩
def yp{fp:List Addr}(hf:∀b∈fp,FpOk X pins H b)(hlt:∀b∈fp,b<s.heap.objs.size){o:HO}:∀b∈fp,upd H s.heap.objs.size o b=none:=λb hb=>by rw[aN (Yt (hlt b hb))];exact(hf b hb).1
end
def SqK(K:Frag):Bool->Hp->Addr->List V->Prop
 |true,H,a,xs=>SqT K H a xs
 |false,H,a,xs=>SqL K H a xs
def Inv.sqk{X:Cx}{pins:List (Addr×Obj)}{σ:St}{H:Hp}{s:Shared}{k:Bool}{a:Addr}{xs:List V}(I:Inv X pins σ H s)(h:SqK X.K k H a xs):∃its:List Value,Vals xs its/\SQ.Is k s.heap a its.toArray/\xs.length<=sizeLine:=by
 cases k with
 |true=>obtain⟨its,r,p,z⟩:=I.tuple h;exact⟨its,r,show s.heap.IsTuple a its.toArray from p,z⟩
 |false=>obtain⟨its,r,p,z⟩:=I.list h;exact⟨its,r,p.isList,z⟩
def Inv.sqk_inj{X:Cx}{pins:List (Addr×Obj)}{σ:St}{H:Hp}{s:Shared}{k:Bool}{a:Addr}{xs ys:List V}(I:Inv X pins σ H s)(h:SqK X.K k H a xs)(h2:SqK X.K k H a ys):xs=ys:=by
 cases k with
 |true=>exact I.tuple_inj h h2
 |false=>exact I.list_inj h h2
def Itz(K:Frag)(k m:Bool)(a b:Addr):It:=
  ⟨λi H=>∃xs ys x y,SqK K k H a xs/\SqK K m H b ys/\xs[i]?=some x/\ys[i]?=some y,
   λi H v H'=>∃p x y,v=.ref p/\H p=none/\H'=upd H p (.tup [x,y])/\∀xs ys,SqK K k H a xs->SqK K m H b ys->xs[i]?=some x/\ys[i]?=some y,
   λi H=>∃xs ys,SqK K k H a xs/\SqK K m H b ys/\(xs.length<=i\/ys.length<=i)⟩
structure Zst(k m:Bool)(z TI TO i1 i2 a b:Addr)(i:Nat)(h:Heap):Prop where
 hz:IsZip h z TI TO .none
 hTI:IsPair h TI (.ref i1) (.ref i2)
 hTO:∃u v,IsPair h TO u v
 h1:SQ.It k h i1 a i
 h2:SQ.It m h i2 b i
structure Znd(z TI TO i1 i2:Addr):Prop where
 a:TI≠z/\TO≠z/\i1≠z/\i2≠z/\TI≠TO/\TI≠i1/\TI≠i2
 b:TO≠i1/\TO≠i2/\i1≠i2
def BE{P:Program}{w:World}{K:Frag}{es:List Expr}{n:Nat}{pos:Pos}{k m:Bool}(z TI TO i1 i2 a b:Addr)(N:Znd z TI TO i1 i2)(na:a∉[z,TI,TO,i1,i2])(nb:b∉[z,TI,TO,i1,i2]):
  Turn false P w K (.Tuple es n pos) (Itz K k m a b) [z,TI,TO,i1,i2] z (Zst k m z TI TO i1 i2 a b) where
 mem:=by simp
 obj:=λi h st c hc=>by
  obtain⟨hz,hTI,⟨u,v,hTO⟩,⟨o1,e1,c1,d1⟩,⟨o2,e2,c2,d2⟩⟩:=st;simp only[Yc,Yx,Zl]at hc;rcases hc with rfl|rfl|rfl|rfl|rfl
  .exact⟨_,hz,λv z=>by cases z⟩
  .exact⟨_,hTI,λv z=>by cases z⟩
  .exact⟨_,hTO,λv z=>by cases z⟩
  .exact⟨_,e1,λv z=>by rw[d1]at z;cases z⟩
  .exact⟨_,e2,λv z=>by rw[d2]at z;cases z⟩
 keep:=λi h h' ⟨hz,hTI,⟨u,v,hTO⟩,h1,h2⟩ q=>⟨q z (by simp) _ hz,q TI (by simp) _ hTI,⟨u,v,q TO (by simp) _ hTO⟩,h1.move λo e=>q i1 (by simp) o e,h2.move λo e=>q i2 (by simp) o e⟩
 item:=by
  intro X hP hw hK hc i pins s σ H E I hf st hg;subst hP hw hK;obtain⟨xs,ys,x,y,hq,hr,hx,hy⟩:=hg;obtain⟨us,ru,pu,_⟩:=I.sqk hq;obtain⟨vs,rv,pv,_⟩:=I.sqk hr;obtain⟨u,hu,rxu⟩:=ru.get hx;obtain⟨v,hv,ryv⟩:=rv.get hy;obtain⟨hz,hTI,⟨u0,v0,hTO⟩,h1,h2⟩:=st;simp only[Yc,Yx,Zl,not_or]at na nb;have D:SQ.Apart z TI TO i1 i2 a b:=⟨N.a,N.b,⟨na.1,na.2.2.1,na.2.2.2.1,na.2.2.2.2⟩,⟨nb.1,nb.2.2.1,nb.2.2.2.1,nb.2.2.2.2⟩⟩
  have hlt:∀c∈[z,TI,TO,i1,i2],c<s.heap.objs.size:=λc hc=>by
   simp only[Yc,Yx,Zl]at hc;rcases hc with rfl|rfl|rfl|rfl|rfl
   .exact Yn hz
   .exact Yn hTI
   .exact Yn hTO
   .obtain⟨_,e,_⟩:=h1;exact Yn e
   .obtain⟨_,e,_⟩:=h2;exact Yn e
  refine SQ.zip_next D hz hTI hTO h1 h2 pu pv (x:=u) (y:=v) (by simpa using hu) (by simpa using hv) λh' a1 a2 a3 a4 a5 a6 a7 a8=>⟨_,rfl,?_⟩
  refine wpAny_letOwnedTupleGo_zip (s:={ s with heap:=h' }) a1 λh2' hz' hs'=>?_
  have up:∀c o,c≠z->h'.get? c=some o->h2'.get? c=some o:=λc o n e=>SQ.sb hs' n e;obtain⟨⟨nTIz,nTOz,n1z,n2z,_⟩,_⟩:=id N
  refine⟨.ref s.heap.objs.size,_,I.turnedP (t':=s.toks) (h':=h2') hf hlt rxu ryv (λc o hc e=>up c o (λq=>hc (by simp[q])) (a7 c o hc e)) (up _ _ (V4 (Yn hz)) a5),rfl,
   ⟨_,x,y,rfl,I.fresh,rfl,λxs' ys' q1 q2=>⟨by rw[I.sqk_inj q1 hq];exact hx,by rw[I.sqk_inj q2 hr];exact hy⟩⟩,
   ⟨hz',up _ _ nTIz a8,⟨_,_,up _ _ nTOz a2⟩,a3.move λo e=>up _ o n1z e,a4.move λo e=>up _ o n2z e⟩,yp hf hlt⟩
 done:=by
  intro X hP hw hK hc i pins s σ H E I hf st hg;subst hP hw hK;obtain⟨xs,ys,hq,hr,hx⟩:=hg;obtain⟨us,ru,pu,_⟩:=I.sqk hq;obtain⟨vs,rv,pv,_⟩:=I.sqk hr;obtain⟨hz,hTI,⟨u0,v0,hTO⟩,h1,h2⟩:=st;simp only[Yc,Yx,Zl,not_or]at na nb;have D:SQ.Apart z TI TO i1 i2 a b:=⟨N.a,N.b,⟨na.1,na.2.2.1,na.2.2.2.1,na.2.2.2.2⟩,⟨nb.1,nb.2.2.1,nb.2.2.2.1,nb.2.2.2.2⟩⟩;have l1:=ru.length;have l2:=rv.length
  refine SQ.zip_stop (I.ok.hd hc.cm) D hz hTI hTO h1 h2 pu pv (hx.imp (λq=>by simp;omega) λq=>by simp;omega) λh' kk=>⟨rfl,I.turnedS (t':=s.toks) kk hf⟩
 self:=λ_ _ _ _ _ st h=>wpAny_pyIter_zip st.hz h
section
variable{X:Cx}{es:List Expr}{n:Nat}{tp:Pos}
def boot_zip:bootBuiltins "zip" = some (.type "zip"):=by decide +kernel
def G2(n:Nat):Znd (n+4) (n+2) (n+3) n (n+1):=by
 have h:((n+2≠n+4/\n+3≠n+4/\n≠n+4/\n+1≠n+4/\n+2≠n+3/\n+2≠n/\n+2≠n+1)/\(n+3≠n/\n+3≠n+1/\n≠n+1)):=by omega
 exact⟨h.1,h.2⟩
def qN(n a:Nat)(h:a<n):a∉[n+4,n+2,n+3,n,n+1]:=by intro hc;simp only[Yc,Yx,Zl]at hc;omega
def qO(n c:Nat)(hc:c∈[n+4,n+2,n+3,n,n+1]):n<=c:=by simp only[Yc,Yx,Zl]at hc;omega
def Ki(K:Frag)(ta:TA):TI:=λσ H R=>ta σ H λvs H1=>∃a b k m,vs=[.ref a,.ref b]/\(∃xs,SqK K k H1 a xs)/\(∃ys,SqK K m H1 b ys)/\R (Itz K k m a b) H1
theorem G3{a b:Expr}{ta:TA}{p pos:Pos}(hg:Gl X "zip")(hm:X.mg "zip" = none)(ha:PA X [a,b] ta)(hs:autoParam (starEach [a,b] X.env=[(false,eval a X.env),(false,eval b X.env)]) zz0._auto_1)(hs2:autoParam (starEach [b] X.env=[(false,eval b X.env)]) zz0._auto_1):
  PI X (.Tuple es n tp) (.Call (.Name "zip" p) [a,b] [] pos) (Ki X.K ta):=by
 intro pins s σ H R I h
 refine Call_ (lW I hg hm boot_zip (V8 (thn (ha pos pins s σ H _ I h) λus s1 zq=>?_) (by rw[hs,hs2]) (by rw[hs2];rfl)))
 obtain⟨vs,H1,I1,r1,q1⟩:=zq;obtain⟨a,b,k,m,e,⟨xs,hx⟩,⟨ys,hy⟩,q⟩:=q1;subst e;cases r1 with
 |cons r rr=>
  cases rr with
  |cons r' rr=>
   cases rr;cases r;cases r';obtain⟨us,ru,pu,_⟩:=I1.sqk hx;obtain⟨vs,rv,pv,_⟩:=I1.sqk hy;refine SQ.call_zip pu pv λh' a1 a2 a3 a4 a5 a6 a7=>?_
   have I2:Inv X pins σ H1 { s1 with heap:=h' }:=I1.kept (t':=s1.toks) a7
   obtain⟨oa,ea,_⟩:=pu.obj;obtain⟨ob,eb,_⟩:=pv.obj;have la:=Yn ea;have lb:=Yn eb
   refine wpAny_pyIter_zip (s:={ s1 with heap:=h' }) a1 ⟨_,[s1.heap.objs.size+4,s1.heap.objs.size+2,s1.heap.objs.size+3,s1.heap.objs.size,s1.heap.objs.size+1],_,_,H1,rfl,I2,
    BE (k:=k) (m:=m) _ _ _ _ _ a b (G2 _) (qN _ a la) (qN _ b lb),⟨a1,a2,⟨_,_,a3⟩,a4,a5⟩,λc hc=>?_,q⟩
   exact I1.fpOk (qO _ c hc) (I1.hok.fresh (qO _ c hc))
end
end L2
namespace PD
open PySem PySem.Spec PyProof.Rows L2
def xa:D->Option (List D)
 |.tup ds=>some ds
 |.lst ds=>some ds
 |.fz ds=>some ds
 |_=>none
def nD:List D->List D->List D
 |x::xs,y::ys=>.tup [x,y]::nD xs ys
 |_,_=>[]
def DQ(t:AM):AM:=λr S=>(t r S).bind λxs S1=>match xs with
 |[a,b]=>match xa a,xa b with
  |some us,some vs=>.ok (nD us vs) S1
  |_,_=>.bad
 |_=>.bad
theorem lr:∀(us vs:List D)(i:Nat),(i<(nD us vs).length↔i<us.length/\i<vs.length)/\∀x y,us[i]?=some x->vs[i]?=some y->(nD us vs)[i]?=some (.tup [x,y])
 |[],vs,i=>by simp[nD]
 |_::_,[],i=>by simp[nD]
 |u::us,v::vs,0=>by simp[nD]
 |u::us,v::vs,i+1=>by have ih:=lr us vs i;simp only[nD,Ym,Q6,Nat.add_lt_add_iff_right];exact ih
def BF{K:Frag}{w:Wd}{H:Hp}{d:D}{ds:List D}{v:V}(e:xa d=some ds)(q:RD K w H d v):∃p k vs,v=.ref p/\RDs K w H ds vs/\∀w' H',Ext w H w' H'->SqK K k H' p vs:=by
 cases d with
 |tup us=>
  cases e;unfold RD at q;obtain⟨p,vs,rfl,h1,q⟩:=q;exact⟨p,true,vs,rfl,q,λw' H' x'=>dF (h1.imp x'.at id)⟩
 |lst us=>
  cases e;unfold RD at q;obtain⟨p,vs,rfl,h1,q⟩:=q;exact⟨p,false,vs,rfl,q,λw' H' x'=>SqL.of (x'.at h1).1⟩
 |fz us=>
  cases e;unfold RD at q;obtain⟨p,vs,rfl,h1,q⟩:=q;exact⟨p,false,vs,rfl,q,λw' H' x'=>wU.sq (w:=w') (h1.imp (λ⟨o,z⟩=>⟨o,x'.at z⟩) id)⟩
 |_=>cases e
section
variable{X:Cx}{E:XK}{a b:Expr}{pos:Pos}
theorem G4{es:List Expr}{n:Nat}{tp:Pos}{ms:AM}{p:Pos}(hg:Gl X "zip")(hm:X.mg "zip" = none)(ha:SA X E [a,b] ms)(hs:autoParam (starEach [a,b] X.env=[(false,eval a X.env),(false,eval b X.env)]) zz0._auto_1)(hs2:autoParam (starEach [b] X.env=[(false,eval b X.env)]) zz0._auto_1):
  SI X E (.Tuple es n tp) (.Call (.Name "zip" p) [a,b] [] pos) (DQ ms):=⟨
 gI (G3 hg hm ha.out hs hs2) λs H Q zq=>ex6 zq λw r S hr hS hp=>⟨w,r,S,hr,hS,hp.bind hS λds S1 w1 H1 vs x1 q1 s1 p1=>by
  match ds,q1,p1 with
  |[d,e],q1,p1=>
   obtain⟨v,u,rfl,q2,q3⟩:=q1.two_inv
   change aD X.K E (RI X.K) w1 H1 (match xa d,xa e with|some us,some vs=>R.ok (nD us vs) S1|_,_=>R.bad) Q at p1
   cases e1:xa d with
   |none=>rw[e1]at p1;exact p1.elim
   |some us=>
    cases e2:xa e with
    |none=>rw[e1,e2]at p1;exact p1.elim
    |some vs=>
     rw[e1,e2]at p1;obtain⟨pa,k,xs,rfl,ra,sa⟩:=BF e1 q2;obtain⟨pb,m,ys,rfl,rb,sbb⟩:=BF e2 q3;refine⟨pa,pb,k,m,rfl,⟨xs,sa _ _ (Ext.refl _ _)⟩,⟨ys,sbb _ _ (Ext.refl _ _)⟩,aD.ret p1 ?_ s1⟩;intro i w' H' x';have ra':=RDs.ext x' _ _ ra;have rb':=RDs.ext x' _ _ rb;have la:=ra.length;have lb:=rb.length;refine⟨λhi=>?_,λhi=>⟨xs,ys,sa _ _ x',sbb _ _ x',?_⟩⟩
     .obtain⟨h1,h2⟩:=(lr us vs i).1.mp hi
      refine⟨⟨xs,ys,xs[i]'(by omega),ys[i]'(by omega),sa _ _ x',sbb _ _ x',Yk _,Yk _⟩,λv H'' y=>?_⟩
      obtain⟨p,x,y,rfl,hp,rfl,q⟩:=y;obtain⟨qx,qy⟩:=q xs ys (sa _ _ x') (sbb _ _ x');obtain⟨x0,ex,rx⟩:=ra'.get (Yk h1);obtain⟨y0,ey,ry⟩:=rb'.get (Yk h2);rw[qx]at ex;cases ex;rw[qy]at ey;cases ey;refine⟨.inr ⟨p,_,hp,rfl⟩,λS hS=>⟨_,(lr us vs i).2 _ _ (Yk h1) (Yk h2),?_⟩⟩;unfold RD;refine⟨p,[x,y],rfl,.inl ⟨aP,hS.fresh hp⟩,?_⟩;unfold RDs RDs RDs;exact⟨x,[y],rfl,RD.ext (Ext.new hp) _ _ rx,y,[],rfl,RD.ext (Ext.new hp) _ _ ry,rfl⟩
     .have:=(lr us vs i).1;omega
  |[],_,p1=>exact p1.elim
  |[_],_,p1=>exact p1.elim
  |_::_::_::_,_,p1=>exact p1.elim⟩⟩
end
def zR(x:Int):List Int->List Int
 |[]=>[x]
 |y::r=>if x<=y then x::y::r else y::zR x r
def gu:List Int->List Int
 |[]=>[]
 |x::r=>zR x (gu r)
theorem mD(x:Int):∀l:List Int,(zR x l).Perm (x::l)
 |[]=>.refl _
 |y::r=>by
  unfold zR;split
  .exact .refl _
  .exact((mD x r).cons y).trans (.swap x y r)
theorem fq:∀l:List Int,(gu l).Perm l
 |[]=>.refl _
 |x::r=>(mD x _).trans ((fq r).cons x)
theorem m9(x:Int):∀l:List Int,l.Pairwise (· <= ·)->(zR x l).Pairwise (· <= ·)
 |[],_=>Wg _ _
 |y::r,h=>by
  obtain⟨h1,h2⟩:=Qn.mp h;unfold zR;split
  .rename_i hxy
   exact Qn.mpr ⟨λz hz=>by
    rcases Yc.mp hz with rfl|hz
    .exact hxy
    .exact Int.le_trans hxy (h1 z hz),h⟩
  .rename_i hxy
   exact Qn.mpr ⟨λz hz=>by
    rcases Yc.mp ((mD x r).mem_iff.mp hz) with rfl|hz
    .omega
    .exact h1 z hz,m9 x r h2⟩
theorem dN:∀l:List Int,(gu l).Pairwise (· <= ·)
 |[]=>.nil
 |x::r=>m9 x _ (dN r)
theorem ng:∀{a b:List Int},a.Perm b->a.Pairwise (· <= ·)->b.Pairwise (· <= ·)->a=b
 |[],b,p,_,_=>p.nil_eq
 |x::r,[],p,_,_=>absurd p.length_eq (by simp)
 |x::r,y::t,p,h1,h2=>by
  obtain⟨a1,a2⟩:=Qn.mp h1;obtain⟨b1,b2⟩:=Qn.mp h2
  have e:x=y:=by
   have hx:x∈y::t:=p.mem_iff.mp (.head _);have hy:y∈x::r:=p.mem_iff.mpr (.head _);rcases Yc.mp hx with h|h
   .exact h
   .rcases Yc.mp hy with h'|h'
    .exact h'.symm
    .exact Int.le_antisymm (a1 y h') (b1 x h)
  subst e;rw[ng (List.Perm.cons_inv p) a2 b2]
end PD
namespace SQ
open PySem PySem.Spec PyProof.Rows
section
variable{prog:Program}{w:World}{A:Around}{E:Value->Shared->Prop}{s:Shared}
theorem uX{l:Addr}{vs:List Value}{Q:List Value->Shared->Prop}(hl:s.heap.IsTuple l vs.toArray)
  (h:Q vs { s with heap:=(s.heap.push (seqObj "list" #[] 0)).update s.heap.objs.size (Obj.mapSeq (· ++ vs.toArray)) }) (hsz:vs.length<=sizeLine):wpAny (model prog w) A (collect (.ref l)) Q E s:=by
 obtain⟨o,ho,hc,n,hd⟩:=id hl;unfold collect;refine Y6 (wpAny_runValue (Q4 entry_proto_collect' ?_))
 show wpAny _ _ (do again (.builtin "list.__iadd__" ⟨[<- newList [],.ref l],[]⟩)) _ _ s;refine Y6 (K1 (Ye ⟨Code.quiet_builtin _ (by decide +kernel),Q4 entry_list_iadd' ?_⟩))
 show wpAny _ _ (Builtin.List.listExtendWith (.ref s.heap.objs.size) (.ref l) (.ref s.heap.objs.size)) _ _ { s with heap:=s.heap.push (seqObj "list" #[] 0) };unfold Builtin.List.listExtendWith
 have ho':(s.heap.push (seqObj "list" #[] 0)).get? l=some o:=Y7 _ ho
 refine Y6 (M0 (T:="tuple") ⟨o,ho',hc⟩ ?_)
 have ht:(Value.type "tuple" == Value.type "tuple")=true:=by rfl
 rw[Y8 (by rw[ht];simp)];refine Y6 (listItems_at ho' hd ?_);refine Y6 (listItems_at (xs:=#[]) (n:=0) (Yg _ rfl) rfl ?_);rw[Yi (by simp)]
 refine Y6 (listUpdate_at (xs:=#[]) (n:=0) (Yg _ rfl) rfl ?_ (Zq _) (by show(#[]++vs.toArray).size<=sizeLine+1;simp only[Array.size_append,Ys,Zf];omega));refine Ye ?_
 show wpAny (model prog w) A (do
   let o <- load s.heap.objs.size
   match o.data with
   |.seq xs _=>pure xs.toList
   |_=>unsupported "internal:collect") Q E { s with heap:=(s.heap.push (seqObj "list" #[] 0)).update s.heap.objs.size (Obj.mapSeq (· ++ vs.toArray)) }
 refine Y6 (wpAny_load (get?_update_seq (Yg _ rfl) _) ?_);show wpAny _ _ (pure ((#[]:Array Value)++vs.toArray).toList) Q E _
 rw[show((#[]:Array Value)++vs.toArray).toList=vs by simp];exact Ye h
theorem collects{k:Bool}{l:Addr}{vs:List Value}{Q:List Value->Shared->Prop}(hl:Is k s.heap l vs.toArray)
  (h:Q vs { s with heap:=(s.heap.push (seqObj "list" #[] 0)).update s.heap.objs.size (Obj.mapSeq (· ++ vs.toArray)) }) (hsz:vs.length<=sizeLine):wpAny (model prog w) A (collect (.ref l)) Q E s:=by
 cases k with
 |true=>exact uX hl h hsz
 |false=>exact collect_list hl h hsz
end
end SQ
namespace PD
open PySem PySem.Spec PyProof.Rows L2
section
variable{X:Cx}{E:XK}
theorem iq{K:Frag}{w:Wd}{H:Hp}:∀{ds:List D}{vs:List V}{us:List Value}{ns:List Int},RDs K w H ds vs->Vals vs us->intsOf ds=some ns->IntsAre us ns
 |[],_,_,_,q,r,h=>by rw[q.nil_inv]at r;cases r;unfold intsOf at h;cases h;exact .nil
 |d::ds,_,_,ns,q,r,h=>by
  obtain⟨y,vs,rfl,p,t⟩:=q.cons_inv;cases d with
  |int b=>
   unfold intsOf at h;cases e':intsOf ds with
   |none=>rw[e']at h;cases h
   |some cs=>
    rw[e']at h;cases h;cases p.int;cases r with
    |cons r1 r2=>
     obtain⟨t',rfl⟩:=r1;exact .cons _ _ (iq t r2 e')
  |_=>unfold intsOf at h;cases h
theorem yq:∀{us:List Value}{ns:List Int},IntsAre us ns->Vals (ns.map .int) us
 |_,_,.nil=>.nil
 |_,_,.cons _ _ h=>.cons ⟨_,rfl⟩ (yq h)
theorem uY{K:Frag}{w:Wd}{H:Hp}:∀ns:List Int,RDs K w H (ns.map .int) (ns.map .int)
 |[]=>.nil
 |n::ns=>.cons (by unfold RD;rfl) (uY ns)
def kA(neg:Bool):Sto->D->D->Option D:=λ_ a b=>match b with
 |.non=>match a with
  |.non=>some (.bl (!neg))
  |.int _=>some (.bl neg)
  |.bl _=>some (.bl neg)
  |.str _=>some (.bl neg)
  |.tup _=>some (.bl neg)
  |.lst _=>some (.bl neg)
  |.ref _=>some (.bl neg)
  |.dic _=>some (.bl neg)
  |_=>none
 |_=>none
def xb{neg:Bool}{S:Sto}{a b z:D}(h:kA neg S a b=some z):b=.non/\((a=.non/\z=.bl (!neg))\/(z=.bl neg/\∀(K:Frag)(w:Wd)(H:Hp)(v:V),RD K w H a v->v≠.non)):=by
 cases b<;>first|(cases h;done)|skip
 refine⟨rfl,?_⟩;cases a with
 |non=>cases h;exact .inl ⟨rfl,rfl⟩
 |int i=>cases h;exact .inr ⟨rfl,λK w H v q z=>by cases q.int;cases z⟩
 |bl i=>cases h;exact .inr ⟨rfl,λK w H v q z=>by cases q.bl;cases z⟩
 |str i=>cases h;exact .inr ⟨rfl,λK w H v q z=>by cases q.str;cases z⟩
 |tup i=>cases h;exact .inr ⟨rfl,λK w H v q z=>by obtain⟨p,vs,e,_⟩:=q.tupI;rw[e]at z;cases z⟩
 |lst i=>cases h;exact .inr ⟨rfl,λK w H v q z=>by obtain⟨p,vs,e,_⟩:=q.lstI;rw[e]at z;cases z⟩
 |ref i=>cases h;exact .inr ⟨rfl,λK w H v q z=>by obtain⟨p,e,_⟩:=q.refI;rw[e]at z;cases z⟩
 |dic i=>cases h;exact .inr ⟨rfl,λK w H v q z=>by unfold RD at q;obtain⟨p,vs,e,_⟩:=q;rw[e]at z;cases z⟩
 |_=>cases h
def zS{v:Value}(hb:∀id,v≠.builtin id):plainIs v .none=true:=by cases v<;>first|rfl|(exact absurd rfl (hb _))
def DR{x:V}{v:Value}(r:RelV x v):∀id,v≠.builtin id:=by
 intro id e;subst e
 cases x<;>first|(cases r;done)|(obtain⟨_,e⟩:=r;cases e;done)|skip
def zT{x:V}{v:Value}(r:RelV x v)(h:x≠.non):v≠.none:=by
 intro e;subst e
 cases x<;>first|(exact h rfl)|(cases r;done)|(obtain⟨_,e⟩:=r;cases e;done)|skip
def qP:OpR X (compareOp .Is) (xO X.K E (kA false)):=by
 rintro pins s σ H x y v u Q I rx ry ⟨w,S,d,e,hS,qd,qe,p⟩;obtain⟨z,hz,p⟩:=p.of;obtain⟨rfl,h⟩:=xb hz
 have ey:y=.non:=by unfold RD at qe;exact qe
 subst ey;cases ry;rcases h with⟨rfl,rfl⟩|⟨rfl,h⟩
 .have ex:x=.non:=by unfold RD at qd;exact qd
  subst ex;cases rx;exact wpAny_is_self rfl ⟨.bl true,H,I,rfl,p.ret RD.mkB hS⟩
 .have hx:=h _ _ _ _ qd;exact wpAny_is_other (zS (DR rx)) (zT rx hx) ⟨.bl false,H,I,rfl,p.ret RD.mkB hS⟩
end
section
variable{X:Cx}{E:XK}{a b:Expr}{es:List Expr}{ms:AM}{x:Str}{p pos:Pos}
def qQ(S:Sto)(d:D):Option PyData:=match d with
 |.ref n=>match S[n]? with
  |some (.lst xs)=>(ip xs).map .list
  |_=>none
 |d=>toPy d
def qR{pins:List (Addr×Obj)}{σ:L2.St}{H:Hp}{s:Shared}{w:Wd}{S:Sto}(I:Inv X pins σ H s)(hS:RS X.K w H S){d:D}{v:V}{u:Value}{p:PyData}(q:RD X.K w H d v)(r:RelV v u)(h:qQ S d=some p):∃as,Reads s.heap u p as:=by
 unfold qQ at h;split at h
 .rename_i n;split at h
  .rename_i xs hn;obtain⟨pp,rfl,hp⟩:=q.refI;obtain⟨p',hp',vs,hv,ra⟩:=hS.obj _ _ hn;rw[hp]at hp';cases hp'
   cases (show u=Value.ref pp from r)
   cases e:ip xs with
   |none=>rw[e]at h;cases h
   |some ps=>
    rw[e]at h;cases h;obtain⟨its,r1,⟨o,n,ho,hc,_,hd⟩,_⟩:=I.list (SqL.of hv);obtain⟨as,ra,hn⟩:=jK I xs vs its ps ra r1 e;exact⟨pp::as,.list ho hc hd ra⟩
  .cases h
 .obtain⟨as,ra,_⟩:=gp I _ _ _ _ q r h;exact⟨as,ra⟩
def DS(S:Sto)(a b:D):Option Bool:=match eqP a b with
 |some c=>some c
 |none=>match qQ S a,qQ S b with
  |some p,some q=>if SeqAt.shaped p=true/\SeqAt.shaped q=true then some (PyData.eqv p q) else none
  |_,_=>none
def G5:Sto->D->D->Option D:=λS a b=>(DS S a b).map .bl
def xc{S:Sto}{a b:D}{c:Bool}(h:DS S a b=some c):eqP a b=some c \/ ∃p q,qQ S a=some p/\qQ S b=some q/\SeqAt.shaped p=true/\SeqAt.shaped q=true/\c=PyData.eqv p q:=by
 unfold DS at h;split at h
 .rename_i c' e;cases h;exact .inl e
 .split at h
  .rename_i p q e1 e2;split at h
   .rename_i hs;cases h;exact .inr ⟨p,q,e1,e2,hs.1,hs.2,rfl⟩
   .cases h
  .cases h
def G6{k:Nat}(hr:Room k X.A):OpR X (compareOp .Eq) (xO X.K E G5):=by
 rintro pins s σ H x y v u Q I rx ry ⟨w,S,d,e,hS,qd,qe,p⟩;obtain⟨z,hz,p⟩:=p.of;unfold G5 at hz;cases h:DS S d e with
 |none=>rw[h]at hz;cases hz
 |some c=>
  rw[h]at hz;cases hz;rcases xc h with h|⟨a,b,e1,e2,s1,s2,rfl⟩
  .exact fP hr pins s σ H x y v u Q I rx ry ⟨w,S,d,e,hS,qd,qe,by unfold fO;rw[h];exact p⟩
  .obtain⟨as,r1⟩:=qR I hS qd rx e1;obtain⟨bs,r2⟩:=qR I hS qe ry e2;exact eq_dataH r1 r2 s1 s2 hr.units ⟨.bl _,H,I,rfl,p.ret RD.mkB hS⟩
end
variable{X:Cx}{caps:List Nat}
def zU{E:XK}{k:Nat}{it:AM}{g:G}{mt:TM}{me:EM}:∀s H Q,uE X.K E (bq it k caps g mt me) s H Q->yj (uI X.K E it) k caps (uG X.K g) (uT X.K E mt) (uE X.K E me) s H Q:=
 λs H Q zq=>ex6 zq λw r S hr hS hp=>⟨w,r,S,hr,hS,hp.bind hS λds S1 w1 H1 J x1 q1 s1 p1=>by
  intro p hp;have hr1:=hr.ext x1;have pno:p∉w1.hid:=(s1.fresh hp).2
  have hz:ds.length<=sizeLine:=by
   rcases Nat.lt_or_ge sizeLine ds.length with z|z
   .rw[Yi (by omega)]at p1;exact p1.elim
   .exact z
  rw[Y8 hz]at p1
  -- the list is made at p,which is hidden
  refine⟨λi n s' H'=>n=ds.length-i/\i<=ds.length/\∃w' r' S' ys vs,Ext w1 H1 w' H'/\p∈w'.hid/\RSt X.K w' H' r' s'/\RS X.K w' H' S'/\H' p=some (.lst vs)/\RDs X.K w' H' ys vs/\ys.length<=i/\
    aD X.K E (RD X.K) w1 H1 ((dY g mt me (ds.drop i) r' S').bind λzs S2=>R.ok (.lst (ys++zs)) S2) Q,
   ⟨ds.length,by simp,Zq _,w1.hide p,fG k caps r,S1,[],[],Ext.hide hp,Z2,(yo k caps hr1).ext (Ext.hide hp),s1.hide hp,aP,.nil,Yd _,p1⟩,?_⟩
  rintro i n s2 H2 ⟨rfl,hi.out,w2,r2,S2,ys,vs,x2,hph,hr2,hS2,hpv,ry,hyl,hp2⟩;have hpn:p∉w2.st:=(hS2.hid p hph).1;by_cases hlt:i<ds.length
  .obtain⟨go,yld⟩:=(q1 i w2 H2 x2).1 hlt
   refine .inr ⟨go,λs' H'=>∃w' r' S' ys vs,Ext w1 H1 w' H'/\p∈w'.hid/\RSt X.K w' H' r' s'/\RS X.K w' H' S'/\H' p=some (.lst vs)/\RDs X.K w' H' ys vs/\ys.length<=i+1/\
     aD X.K E (RD X.K) w1 H1 ((dY g mt me (ds.drop (i+1)) r' S').bind λzs S2=>R.ok (.lst (ys++zs)) S2) Q,
    λs' H' hN=>⟨ds.length-(i+1),by omega,rfl,hlt,hN⟩,λx H3 hy=>?_⟩
   obtain⟨gr,rd⟩:=yld x H3 hy;obtain⟨d,ed,qd⟩:=rd S2 hS2;obtain⟨x3,s3⟩:=oF gr hS2
   have hdrop:ds.drop i=d::ds.drop (i+1):=by rw[Vh hlt];rw[Yk hlt]at ed;cases ed;rfl
   rw[hdrop]at hp2;have hpv3:H3 p=some (.lst vs):=x3.keep _ _ hpv hpn;have ry3:=RDs.ext x3 _ _ ry;have x13:Ext w1 H1 w2 H3:=x2.trans' x3 s1 hS2;unfold dY at hp2;cases e:g.put d r2 with
   |none=>rw[e]at hp2;exact hp2.elim
   |some r3=>
    rw[e]at hp2;refine⟨w2,r2,d,r3,hr2.ext x3,qd,e,λs4 hr4=>⟨w2,r3,S2,hr4,s3,?_⟩⟩
    -- hp2:(mt r3 S2).bind .. |>.bind ..
    have hass:∀{A B C:Type}(r:R A)(f:A->Sto->R B)(h:B->Sto->R C),(r.bind f).bind h=r.bind λa S=>(f a S).bind h:=λr f h=>by cases r<;>rfl
    simp only[hass]at hp2;refine aD.bindAt (rel:=RB) hp2 x13 s1 s3 λc S5 w5 H5 c' x5 q5 s5 p5=>?_;have ec:c'=c:=q5;subst ec;have x15:Ext w1 H1 w5 H5:=x13.trans' x5 s1 s3;have hph5:p∈w5.hid:=x5.hid p hph;have hpv5:H5 p=some (.lst vs):=x5.keep _ _ hpv3 hpn;cases c' with
    |false=>
     refine qc ⟨w5,r3,S5,ys,vs,x15,hph5,hr4.ext x5,s5,hpv5,RDs.ext x5 _ _ ry3,K6 hyl,p5⟩
    |true=>
     refine qf ⟨w5,r3,S5,hr4.ext x5,s5,?_⟩;have p5':aD X.K E (RD X.K) w1 H1 (((me r3 S5).bind λy S2=>(dY g mt me (ds.drop (i+1)) r3 S2).bind λys S3=>R.ok (y::ys) S3).bind λzs S2=>R.ok (D.lst (ys++zs)) S2) Q:=p5;simp only[hass]at p5';refine aD.bindAt (rel:=RD X.K) p5' x15 s1 s5 λy S6 w6 H6 yv x6 q6 s6 p6=>?_;have x16:Ext w1 H1 w6 H6:=x15.trans' x6 s1 s5;have hph6:p∈w6.hid:=x6.hid p hph5;have hpn5:p∉w5.st:=(s5.hid p hph5).1;have hpn6:p∉w6.st:=(s6.hid p hph6).1;have hpv6:H6 p=some (.lst vs):=x6.keep _ _ hpv5 hpn5;have ry6:=RDs.ext x6 _ _ (RDs.ext x5 _ _ ry3)
     refine⟨vs,hpv6,by rw[ry6.length];omega,w6,r3,S6,ys++[y],vs++[yv],⟨λa o h n=>?_,x16.sub,x16.hid,x16.hnew,λa o u h=>by have z:=x16.frz a o u h;rw[aN (λe:a=p=>by rw[e,hpv6]at z;cases z)];exact z⟩,hph6,(hr4.ext x5).ext x6 |>.mv (Mv.write hph6),s6.write hph6,aP,(RDs.mv (Mv.write hph6) _ _ ry6).append (.cons (RD.mv (Mv.write hph6) _ _ q6) .nil),by simp;omega,?_⟩
     .have:a≠p:=aR h hp;rw[aN this];exact x16.keep a o h n
     .have he2:∀zs:List D,(ys++[y])++zs=ys++y::zs:=λzs=>by simp
      simp only[he2];exact p6
  .have e:i=ds.length:=by omega
   subst e;rw[M3]at hp2;refine .inl ⟨(q1 _ w2 H2 x2).2 (Yd _),?_⟩;have hp3:aD X.K E (RD X.K) w1 H1 (R.ok (D.lst (ys++[])) S2) Q:=hp2;rw[Qh]at hp3;refine aD.at hp3 (w1:=w2.unhide p) ⟨x2.keep,x2.sub,λa h=>Z8.mpr ⟨x2.hid a h,Yr λz=>pno (z▸h)⟩,λa h=>x2.hnew a (Wd.mem_unhide h).1,x2.frz⟩ ?_ hS2.unhide;unfold RD
   exact⟨p,vs,rfl,⟨hpv,hpn,λz=>(Wd.mem_unhide z).2 rfl⟩,RDs.mv Mv.unhide _ _ ry⟩⟩
theorem DT{elt tg iter:Expr}{ifs:List Expr}{scope:Scope}{pos pos' spos:Pos}{N:List Str}{i0:Nat}{x0:Str}{k:Nat}{wi:TI}{g:TG}{tt:TT}{te:TE}(hN:X.N.Nodup)(hi0:X.N[i0]?=some x0)(hx0:Loc X.env.scope x0)(hX:X.calm=true)(hxe:∀e s,¬X.xe e s)(C:CompScope X N k caps scope)
  (hi:PI X tg iter wi) (hg:∀cl s0 H0 ex,PG (cxC X N scope cl s0 H0 ex) tg g) (ht:∀cl s0 H0 ex,Bk (cxC X N scope cl s0 H0 ex) ifs tt) (he:∀cl s0 H0 ex,PE (cxC X N scope cl s0 H0 ex) elt te)
  (hs:autoParam (∀x,foldedSetIterable iter X.env x=pure x) zz4._auto_1) (hsw:autoParam (swapsWith (.ListComp elt [⟨tg,iter,ifs,0⟩] scope pos) (some (.Name x0 pos')) spos.line X.env=pure true) zz0._auto_1) (hf0:autoParam (X.fn x0=true\/X.env.scope.names.lookup x0=some .local) zz7._auto_1):PS X (.Assign [.Name x0 pos'] (.ListComp elt [⟨tg,iter,ifs,0⟩] scope pos) spos) (FW (yj wi k caps g tt te) (AO i0)):=by
 intro pins s σ H D I h;have h:yj wi k caps g tt te σ H (λv H1=>D.nx (σ.set i0 (some v)) H1):=h;have noX:∀{α:Type}{t:Sem α}{Q':α->Shared->Prop}{s':Shared},wpAny (model X.prog X.w) X.A t Q' X.xe s'->wpAny (model X.prog X.w) X.A t Q' (λ_ _=>False) s':=λh=>Qv h (λ_ _ x=>x) λe s z=>hxe e s z;obtain⟨cl,hclos,hcl,hcf⟩:=m5 (scope:=scope) (env:=X.env) λx hx hf=>I.ok.has _ (C.free x hx hf);rw[exec_Assign_Name_used _ _ _ _ hsw];refine Y6 (Uz (Y6 ?_))
 show wpAny _ X.A (do let _ <- comprehension (.ListComp elt [⟨tg,iter,ifs,0⟩] scope pos) scope X.env _ (newList []) false (eval iter X.env) (some (assign (.Name x0 pos') X.env))) _ _ s
 refine Y6 (Qv (wpAny_comprehension_free (use:=some (assign (.Name x0 pos') X.env)) (Q:=λ_ s'=>∃σ' H',Inv X pins σ' H' s'/\D.nx σ' H') (cl:=cl) rfl hs hclos C.kind C.names ?_) (λ_ s' hq=>Ye (Ye hq)) λ_ _ e=>e);refine thn (hi pins s σ H _ I h) λv s1 h1=>thn h1 λitv s2 h2=>?_;obtain⟨it,fp,tn,J,H2,e,I2,T,st2,f2,q⟩:=h2;subst e
 refine K1 (items:=[]) ?_ (by show 0<=sizeLine;exact Zq _)
 have hp:H2 s2.heap.objs.size=none:=I2.hok.fresh (Yd _);obtain⟨W,⟨m0,w0⟩,turn⟩:=q _ hp
 have I3:Inv X pins σ (upd H2 s2.heap.objs.size (.lst [])) { s2 with heap:=s2.heap.push { cls:=.type "list",data:=.seq ([]:List Value).toArray } }:=
  I2.laid (t':=s2.toks) (λb u e=>Y7 _ e) (Yd _) ⟨Zq _,[],0,.nil,Yg _ rfl⟩
 refine wpAny_newFunctionEnv C.nocell (λx hx=>nomatch hx) (λh4 hn4 hs4=>?_) C.kind
 have ltfp:∀b∈fp,b<s2.heap.objs.size:=λb hb=>by obtain⟨o,ho,_⟩:=T.obj _ _ st2 b hb;exact Yn ho
 have hk4:∀b o,(s2.heap.push { cls:=.type "list",data:=.seq ([]:List Value).toArray }).get? b=some o->h4.get? b=some o:=λb o e=>by
  have ne:b≠(s2.heap.push { cls:=.type "list",data:=.seq ([]:List Value).toArray }).objs.size:=Yt (Yn e)
  rw[hs4.2 b ne];exact Y7 _ e
 have f3:∀b∈fp,FpOk X pins (upd H2 s2.heap.objs.size (.lst [])) b:=λb hb=>by
  obtain⟨a1,a2⟩:=f2 b hb
  exact⟨by rw[aN (Yt (ltfp b hb))];exact a1,a2⟩
 have I4:=oG (N:=N) (k:=k) (caps:=caps) (scope:=scope) (cl:=cl) (fp:=fp) (t:=s2.toks+0) I3 C hcl hcf (λb hb=>⟨f3 b hb,by rw[show({ s2 with heap:=s2.heap.push { cls:=.type "list",data:=.seq ([]:List Value).toArray } }:Shared).heap.objs.size=s2.heap.objs.size+1 from Z5 ..];exact We (ltfp b hb)⟩) hn4 hk4
 have tn4:tn 0 h4:=T.keep _ _ _ st2 λb hb o e=>hk4 b o (Y7 _ e)
 have loop:codeAny (model X.prog X.w) X.A (.compLoop (.ListComp elt [⟨tg,iter,ifs,0⟩] scope pos) 0 (.ref it) (.ref s2.heap.objs.size) (compEnvC scope cl ({ s2 with heap:=s2.heap.push { cls:=.type "list",data:=.seq ([]:List Value).toArray } }:Shared).heap.objs.size X.env))
   (compPost (model X.prog X.w) X.A X.xe (some (assign (.Name x0 pos') X.env)) (λ_ s'=>∃σ' H',Inv X pins σ' H' s'/\D.nx σ' H') (.ref s2.heap.objs.size) ({ s2 with heap:=s2.heap.push { cls:=.type "list",data:=.seq ([]:List Value).toArray } }:Shared).heap.objs.size) { s2 with heap:=h4,toks:=s2.toks+0 }:=by
  generalize hs3:({ s2 with heap:=s2.heap.push { cls:=.type "list",data:=.seq ([]:List Value).toArray } }:Shared)=s3 at *
  have sz3:s2.heap.objs.size<=s3.heap.objs.size:=by rw[<- hs3];show _<=(s2.heap.push _).objs.size;rw[Z5];exact Wp _
  have k23:∀b o,s2.heap.get? b=some o->s3.heap.get? b=some o:=λb o e=>by rw[<- hs3];exact Y7 _ e
  have hos:s3.os=s2.os:=by rw[<- hs3]
  have stat:∀{H':Hp},(∀b∈fp,H' b=none)->∀b∈fp,FpOk (cxC X N scope cl s3 (upd H2 s2.heap.objs.size (.lst [])) fp) pins H' b:=λ{H'} hn b hb=>by
   obtain⟨a1,a2,a3,a4,a5,a6⟩:=f3 b hb;refine⟨hn b hb,Yt (Yu (ltfp b hb) sz3),λz=>?_,.inl hb,λx c e=>a5 x c (hcl x c e),a6⟩;rcases Yc.mp (I2.stkSub b z) with q|q
   .exact a2 q
   .exact a3 q
  have I4':Inv (cxC X N scope cl s3 (upd H2 s2.heap.objs.size (.lst [])) fp) pins (m3 k caps σ) (upd H2 s2.heap.objs.size (.lst [])) { s2 with heap:=h4,toks:=s2.toks+0 }:=by subst hs3;exact I4
  refine kZ (λn s'=>∃i σ' H',Inv (cxC X N scope cl s3 (upd H2 s2.heap.objs.size (.lst [])) fp) pins σ' H' s'/\tn i s'.heap/\(∀b∈fp,H' b=none)/\W i n σ' H') ?_ m0 ⟨0,_,_,I4',tn4,λb hb=>(f3 b hb).1,w0⟩;rintro n s5 ⟨i,σ5,H5,I5,st5,fr5,w5⟩;rcases turn i n σ5 H5 w5 with⟨stop,qn⟩|⟨go,Nn,hN,step⟩
  .refine thn (T.done (cxC X N scope cl s3 (upd H2 s2.heap.objs.size (.lst [])) fp) rfl rfl rfl (.inl hX) i pins s5 σ5 H5 _ I5 (stat fr5) st5 stop) λr s6 zq=>?_;obtain⟨hr,I6⟩:=zq;subst hr;obtain⟨m6,hn6,_⟩:=I6.loc;have u1:Un (frs X.stack) fp H2 (upd H2 s2.heap.objs.size (.lst [])) s2.heap s3.heap:=Un.laid k23 (Yd _) hp;have u2:Un (frs X.stack) fp H2 H5 s2.heap s6.heap:=u1.trans I6.base;have neC:∀b o,s2.heap.get? b=some o->b≠s3.heap.objs.size:=λb o e=>Yt (Yu (Yn e) sz3);have hfree:H5 s3.heap.objs.size=none:=I6.free
   have IX:Inv X pins σ H5 s6:=by
    refine I2.call' (s':=s6) (ch:=fp) (by rw[<- hos];exact I6.os) ⟨λb o e n hb hx=>?_,λb o e n hb hx=>?_,u2.free,λb o e hx=>?_,u2.tups,u2.frzs,u2.tbls⟩ (λb ob e=>?_) I6.bare λb hb=>?_
    .exact u2.keep b o e n hb hx
    .obtain⟨sl,e1⟩:=u2.slot b o e n hb hx;exact⟨sl,e1⟩
    .obtain⟨o',e1⟩:=u2.there b o e hx;exact⟨o',e1⟩
    .exact I6.hok b ob e
    .obtain⟨a1,a2,a3,a4,a5,a6⟩:=f2 b hb;exact⟨a4,a2,a5,a6⟩
   have lC:∀b o,s2.heap.get? b=some o->b≠s3.heap.objs.size:=neC;have nL:X.env.locals≠s3.heap.objs.size:=Yt (Yu I2.lt sz3)
   have nc:∀x c,X.env.cells.lookup x=some c->c≠s3.heap.objs.size:=λx c e=>by obtain⟨v,o,ho,_⟩:=I2.cell x c e;exact neC c o ho
   show wpAny _ X.A (assign (.Name x0 pos') X.env (.ref s2.heap.objs.size)) _ _ _;refine wpAny_assign_Name (qu IX hN hi0 hx0 (v:=.ref s2.heap.objs.size) rfl (λs8 I8 ⟨a,sa,ha⟩=>⟨m6,hn6.sameBut sa ?_,λh9 hs9=>⟨_,H5,?_,qn⟩⟩) hf0)
   .rcases ha with ha|ha
    .rw[ha];exact Ne.symm nL
    .exact Ne.symm (nc _ _ ha)
   .exact I8.turned (t':=s8.toks) (it:=s3.heap.objs.size) (λb o n e=>(hs9.2 b n).trans e) hfree (Ne.symm nL) (.inr (Yv I2.sz sz3)) nc λp hp=>neC p.1 p.2 (I2.pin p hp).1
  .refine thn (T.item (cxC X N scope cl s3 (upd H2 s2.heap.objs.size (.lst [])) fp) rfl rfl rfl (.inl hX) i pins s5 σ5 H5 _ I5 (stat fr5) st5 go) λr s6 zq=>?_;obtain⟨u,hr,h6⟩:=zq;subst hr;refine thn h6 λ_ s7 zq=>?_;obtain⟨x,H7,I7,r7,y7,st7,fr7⟩:=zq;have I7':=I7.pinned (stat fr7) (T.obj _ _ st7);refine noX (thn (hg cl s3 _ fp _ s7 σ5 H7 x u _ I7' r7 (step x H7 y7)) λ_ s8 zq=>?_);obtain⟨σ8,H8,I8,q8⟩:=zq;refine noX (thn (ht cl s3 _ fp _ s8 σ8 H8 _ I8 q8) λok s9 zq=>?_);obtain⟨H9,I9,q9⟩:=zq
   have again:∀{s':Shared}{σ':L2.St}{H':Hp},Inv (cxC X N scope cl s3 (upd H2 s2.heap.objs.size (.lst [])) fp) (pins++lX fp s7.heap) σ' H' s'->Nn σ' H'->
     ∃m,m<n/\∃i σ' H',Inv (cxC X N scope cl s3 (upd H2 s2.heap.objs.size (.lst [])) fp) pins σ' H' s'/\tn i s'.heap/\(∀b∈fp,H' b=none)/\W i m σ' H':=λ{s' σ' H'} I' n'=>by
    obtain⟨m',hm,w'⟩:=hN σ' H' n';refine⟨m',hm,i+1,σ',H',I'.unpinned,T.keep _ _ _ st7 λb hb o e=>(I'.pin (b,o) (Z1 _ (Z1 _ (fm hb e)))).1,λb hb=>?_,w'⟩;obtain⟨o,e,d⟩:=T.obj _ _ st7 b hb;exact(I'.pin (b,o) (Z1 _ (Z1 _ (fm hb e)))).2.1
   cases ok with
   |false=>exact again I9 q9
   |true=>
    refine noX (thn (he cl s3 _ fp _ s9 σ8 H9 _ I9 q9) λy s10 zq=>?_);obtain⟨yv,H10,I10,r10,ys,hys,hlt,q10⟩:=zq;refine noX (thn (lZ (X:=cxC X N scope cl s3 (upd H2 s2.heap.objs.size (.lst [])) fp) _ s10 σ8 H10 (.ref s2.heap.objs.size) [yv] _ [y] (λ_ H'=>Nn σ8 H') I10 rfl (.cons r10 .nil) ⟨_,ys,yv,rfl,rfl,hys,hlt,q10⟩) λ_ s11 zq=>?_);obtain⟨_,H11,I11,_,q11⟩:=zq;exact again I11 q11
 exact codeAny_compStart_list loop (T.self X.A 0 _ _ _ tn4 loop)
def DU{E:XK}{elt tg iter:Expr}{ifs:List Expr}{scope:Scope}{pos pos' spos:Pos}{N:List Str}{k i0:Nat}{x0:Str}{it:AM}{g:G}{mt:TM}{me:EM}(hN:X.N.Nodup)(hi0:X.N[i0]?=some x0)(hx0:Loc X.env.scope x0)(hX:X.calm=true)(hxe:∀e s,¬X.xe e s)(C:CompScope X N k caps scope)
  (hi:SI X E tg iter it) (hg:∀cl s0 H0 ex,SG (cxC X N scope cl s0 H0 ex) tg g) (ht:∀cl s0 H0 ex,SIf (cxC X N scope cl s0 H0 ex) E ifs mt) (he:∀cl s0 H0 ex,SE (cxC X N scope cl s0 H0 ex) E elt me)
  (hs:autoParam (∀x,foldedSetIterable iter X.env x=pure x) zz4._auto_1) (hsw:autoParam (swapsWith (.ListComp elt [⟨tg,iter,ifs,0⟩] scope pos) (some (.Name x0 pos')) spos.line X.env=pure true) zz0._auto_1) (hf0:autoParam (X.fn x0=true\/X.env.scope.names.lookup x0=some .local) zz7._auto_1):
  SS X E (.Assign [.Name x0 pos'] (.ListComp elt [⟨tg,iter,ifs,0⟩] scope pos) spos) (aO i0 (bq it k caps g mt me)):=⟨
 ez (DT hN hi0 hx0 hX hxe C hi.out (g:=uG X.K g) (λcl s0 H0 ex=>(hg cl s0 H0 ex).out) (tt:=uT X.K E mt) (λcl s0 H0 ex=>(ht cl s0 H0 ex).out) (te:=uE X.K E me) (λcl s0 H0 ex=>(he cl s0 H0 ex).out) hs hsw hf0) λD s H zq=>ex6 zq λw r S hr hS hp=>
  zU s H _ ⟨w,r,S,hr,hS,hp.bind hS λd S1 w1 H1 v x1 q1 s1 p1=>aD.ret (b:=FV.nx (s.set i0 (some v))) p1 ⟨_,rfl,(hr.ext x1).set i0 q1⟩ s1⟩⟩
def bS(S:Sto):D->Option (List (KD×D))
 |.dic kvs=>some kvs
 |.ref n=>match S[n]? with
  |some (.dic kvs)=>some kvs
  |some (.fdic kvs)=>some kvs
  |_=>none
 |_=>none
def ft(kvs:List (KD×D))(k:KD):Option D:=(kvs.find? λkv=>decide (kv.1=k)).map (·.2)
section
variable{K:Frag}{w:Wd}{H:Hp}{S:Sto}
def kB{d:D}{v:V}{kvs:List (KD×D)}(hS:RS K w H S)(q:RD K w H d v)(h:bS S d=some kvs):∃p us,v=.ref p/\Rd H p (.dK us)/\RDk K w H kvs us:=by
 unfold bS at h;split at h
 .cases h;unfold RD at q;obtain⟨p,us,rfl,z,r⟩:=q;exact⟨p,us,rfl,.inl z.1,r⟩
 .rename_i n;obtain⟨p,rfl,hp⟩:=q.refI;split at h
  .rename_i e;cases h;obtain⟨p',hp',us,hv,r⟩:=hS.obj _ _ e;rw[hp]at hp';cases hp';exact⟨p,us,rfl,.inl hv,r⟩
  .rename_i e;cases h;obtain⟨p',hp',o,us,hv,r⟩:=hS.obj _ _ e;rw[hp]at hp';cases hp';exact⟨p,us,rfl,.inr ⟨o,hv⟩,r⟩
  .cases h
 .cases h
theorem RDk.get(k:KD):∀{ds:List (KD×D)}{us:List (Key×V)},RDk K w H ds us->(∀d,ft ds k=some d->∃v,iH us k=some v/\RD K w H d v)/\(ft ds k=none->iH us k=none)
 |[],us,q=>by
  rw[q.nil_inv]
  exact⟨λd h=>(by cases h),λ_=>rfl⟩
 |(j,d)::ds,_,q=>by
  obtain⟨v,r,rfl,p,t⟩:=q.cons_inv;by_cases hj:j=k
  .have e1:ft ((j,d)::ds) k=some d:=by unfold ft;rw[Zu];simp[hj]
   have e2:iH ((j,v)::r) k=some v:=by unfold iH;rw[Zu];simp[hj]
   rw[e1,e2]
   exact⟨λd' h=>by cases h;exact⟨v,rfl,p⟩,λh=>by cases h⟩
  .have e1:ft ((j,d)::ds) k=ft ds k:=by unfold ft;rw[Zu];simp[hj]
   have e2:iH ((j,v)::r) k=iH r k:=by unfold iH;rw[Zu];simp[hj]
   rw[e1,e2];exact RDk.get k t
def RDk.getO{ds:List (KD×D)}{us:List (Key×V)}(q:RDk K w H ds us)(k:KD):(iH us k).isSome=(ft ds k).isSome:=by
 obtain⟨h1,h2⟩:=q.get k;cases e:ft ds k with
 |none=>rw[h2 e];rfl
 |some d=>obtain⟨v,hv,_⟩:=h1 d e;rw[hv];rfl
end
section
variable{X:Cx}{E:XK}
def Jp{f:Value->Value->Sem Value}{o o1 o2:Sto->D->D->Option D}(h1:OpR X f (xO X.K E o1))(h2:OpR X f (xO X.K E o2))(h:∀S x y,o S x y=o1 S x y\/o S x y=o2 S x y):OpR X f (xO X.K E o):=by
 rintro pins s σ H x y v u Q I rx ry ⟨w,S,d,e,hS,qd,qe,p⟩;rcases h S d e with z|z
 .exact h1 pins s σ H x y v u Q I rx ry ⟨w,S,d,e,hS,qd,qe,z▸p⟩
 .exact h2 pins s σ H x y v u Q I rx ry ⟨w,S,d,e,hS,qd,qe,z▸p⟩
def Jq{o o1 o2:Sto->D->D->Option D}(h1:IxR X (xO X.K E o1))(h2:IxR X (xO X.K E o2))(h:∀S x y,o S x y=o1 S x y\/o S x y=o2 S x y):IxR X (xO X.K E o):=by
 rintro va sl pins s σ H x y v u Q I rx ry ⟨w,S,d,e,hS,qd,qe,p⟩ hsub;rcases h S d e with z|z
 .exact h1 va sl pins s σ H x y v u Q I rx ry ⟨w,S,d,e,hS,qd,qe,z▸p⟩ hsub
 .exact h2 va sl pins s σ H x y v u Q I rx ry ⟨w,S,d,e,hS,qd,qe,z▸p⟩ hsub
def Room.hu{k:Nat}{A:Around}(r:Room k A):A.units+1<cLine:=by have:=r.un;omega
def DV(neg:Bool):Sto->D->D->Option D:=λS x y=>match bS S y,kx x with
 |some kvs,some k=>some (.bl (if neg then !(ft kvs k).isSome else (ft kvs k).isSome))
 |_,_=>none
def xf(neg:Bool):Sto->D->D->Option D:=λS x y=>if (bN S y).isSome then oIn neg S x y else DV neg S x y
def G7{k:Nat}(hr:Room k X.A):OpR X (compareOp .In) (xO X.K E (DV false)):=by
 rintro pins s σ H x y v u Q I rx ry ⟨w,S,d,e,hS,qd,qe,p⟩;obtain⟨z,hz,p⟩:=p.of;unfold DV at hz;split at hz
 .rename_i kvs k e1 e2;cases hz;obtain⟨pp,us,rfl,rd,rk⟩:=kB hS qe e1;cases ry;have ex:=lp qd e2;subst ex;refine Ke (Room.hu hr) I (.inl ⟨us,k,rd,rfl,rfl⟩) rx λs' I'=>⟨.bl _,H,I',rfl,?_⟩;rw[rk.getO k];exact p.ret RD.mkB hS
 .cases hz
def G8{k:Nat}(hr:Room k X.A):OpR X (compareOp .In) (xO X.K E (xf false)):=Jp Bq (G7 hr) λS x y=>by
 unfold xf;cases (bN S y).isSome with
 |true=>exact .inl rfl
 |false=>exact .inr rfl
def BG:Sto->D->D->Option D:=λS x y=>match bS S x,kx y with
 |some kvs,some k=>ft kvs k
 |_,_=>none
def fH:Sto->D->D->Option D:=λS x y=>if (bN S x).isSome then oIx S x y else BG S x y
def G9{k:Nat}(hr:Room k X.A):IxR X (xO X.K E BG):=by
 rintro va sl pins s σ H x y v u Q I rx ry ⟨w,S,d,e,hS,qd,qe,p⟩ hsub;obtain⟨z,hz,p⟩:=p.of;unfold BG at hz;split at hz
 .rename_i kvs k e1 e2;obtain⟨pp,us,rfl,rd,rk⟩:=kB hS qd e1;cases rx;have ey:=lp qe e2;subst ey;obtain⟨vv,hv,rv⟩:=(rk.get k).1 z hz;have g:zI H pp (kV k) (some vv):=.inl ⟨us,k,rd,rfl,hv.symm⟩;have hT:=uw I g;have h2:wpAny (model X.prog X.w) X.A (getItem (.ref pp) u) (EP X pins σ Q) X.xe s:=zJ (Room.hu hr) I g ry λw' s' I' r'=>⟨vv,H,I',r',p.ret rv hS⟩;unfold subscriptTail;refine Y6 ?_;rw[getitemInPython_of_ne hT.not_modules];refine Y6 (wpAny_specialOf hT PySem.F.slot_dict_getitem.lookup ?_)
  have fin:wpAny (model X.prog X.w) X.A (subscripted sl false (.ref pp) u) (λr s₃=>wpAny (model X.prog X.w) X.A (letTemporaryGo va (.ref pp) r >>= λ_=>pure r) (EP X pins σ Q) X.xe s₃) X.xe s:=by rw[hsub];exact wpAny_operating (Qv h2 (λr s₃ h₃=>Y6 (wpAny_letTemporaryGo (Ye h₃))) λ_ _ x=>x)
  first|exact Ye (Y6 fin)|exact Y6 (Ye (Y6 fin))|exact Y6 fin
 .cases hz
def kC{k:Nat}(hr:Room k X.A):IxR X (xO X.K E fH):=Jq cN (G9 hr) λS x y=>by
 unfold fH;cases (bN S x).isSome with
 |true=>exact .inl rfl
 |false=>exact .inr rfl
def oN:Sto->D->D->D->Option Sto
 |S,.ref n,y,v=>match S[n]? with
  |some (.dic kvs)=>match kx y with
   |some k=>if kvs.length<sizeLine then some (S.set n (.dic (putD kvs k v))) else none
   |none=>none
  |_=>none
 |_,_,_,_=>none
def lu(S:Sto):D->Bool
 |.ref n=>match S[n]? with
  |some (.dic _)=>true
  |_=>false
 |_=>false
def dh:Sto->D->D->D->Option Sto:=λS x y v=>if lu S x then oN S x y v else Bu S x y v
def DW{k:Nat}(hr:Room k X.A):rY X (xS X.K oN):=by
 rintro pins s σ H o i v ov iv u Q I ro ri ru ⟨w,S,x,y,z,S',hS,qx,qy,qz,hf,kk⟩;unfold oN at hf;split at hf
 .rename_i n;split at hf
  .rename_i kvs hn;split at hf
   .rename_i ky hk;split at hf
    .rename_i hl;cases hf;obtain⟨pp,rfl,hp⟩:=qx.refI;cases ro;obtain⟨p',hp',us,hv,rk⟩:=hS.obj _ _ hn;rw[hp]at hp';cases hp';have ey:=lp qy hk;subst ey;have hm:pp∈w.st:=Zh hp
     have hul:us.length<sizeLine:=by rw[rk.length];exact hl
     refine zK (Room.hu hr) I (Dz.k hv hul) ri ru λs' I'=>⟨_,I',kk w _ (Ext.mut hm hv) (hS.mut hp hv ⟨_,aP,?_⟩)⟩;exact RDk.ext (Ext.mut hm hv) _ _ (rk.put ky qz)
    .cases hf
   .cases hf
  .cases hf
 .cases hf
def Jr{f f1 f2:Sto->D->D->D->Option Sto}(h1:rY X (xS X.K f1))(h2:rY X (xS X.K f2))(h:∀S x y v,f S x y v=f1 S x y v\/f S x y v=f2 S x y v):rY X (xS X.K f):=by
 rintro pins s σ H o i v ov iv u Q I ro ri ru ⟨w,S,x,y,z,S',hS,qx,qy,qz,hf,kk⟩;rcases h S x y z with e|e
 .exact h1 pins s σ H o i v ov iv u Q I ro ri ru ⟨w,S,x,y,z,S',hS,qx,qy,qz,e▸hf,kk⟩
 .exact h2 pins s σ H o i v ov iv u Q I ro ri ru ⟨w,S,x,y,z,S',hS,qx,qy,qz,e▸hf,kk⟩
def fU{k:Nat}(hr:Room k X.A):rY X (xS X.K dh):=Jr (DW hr) Bv λS x y v=>by
 unfold dh;cases lu S x with
 |true=>exact .inl rfl
 |false=>exact .inr rfl
def fk(o a b:EM):EM:=λr S=>(o r S).bind λd S1=>if (bS S1 d).isSome=true then (a r S1).bind λy S2=>(b r S2).bind λz S3=>(match bS S3 d,kx y with
  |some kvs,some k=>R.ok ((ft kvs k).getD z) S3
  |_,_=>R.bad) else R.bad
def yr{o e f:Expr}{m:Str}{apos cpos:Pos}(h1:attributeBase o m X.env (eval o X.env)=eval o X.env)(h2:((backTo cpos (starEach [e,f] X.env)).all (λx=>!x.1)&&(backToKw cpos (keywordEach [] X.env)).all (λx=>x.1.isSome)
  && decide (([e,f]:List Expr).length+([]:List Keyword).length+(if ([]:List Keyword).isEmpty then 0 else 1)<30))=true) (h3:(apos.endLine == cpos.line)=true) (h4:backTo cpos (starEach [e,f] X.env)=[(false,eval e X.env),(false,eval f X.env)]):M2 X o m apos e f cpos:=⟨h1,h2,h3,h4⟩
def nX{o e f:Expr}{mo ma mb:EM}{apos cpos:Pos}{k:Nat}(hr:Room k X.A)(ho:SE X E o mo)(ha:SE X E e ma)(hb:SE X E f mb)(m:M2 X o "get" apos e f cpos):SE X E (.Call (.Attribute o "get" apos) [e,f] [] cpos) (fk mo ma mb):=⟨
 bb (Be (Room.hu hr) ho.out ha.out hb.out m) λs H Q zq=>ex6 zq λw r S hrr hS hp=>⟨w,r,S,hrr,hS,hp.bind hS λd S1 w1 H1 v x1 q1 s1 p1=>by
  cases hd:bS S1 d with
  |none=>rw[hd]at p1;exact p1.elim
  |some kvs=>
   rw[hd]at p1;obtain⟨pp,us,rfl,rd,rk⟩:=kB s1 q1 hd;refine⟨pp,rfl,.inl ⟨us,rd⟩,w1,r,S1,hrr.ext x1,s1,aD.bind (rel:=RD X.K) p1 s1 λy S2 w2 H2 vy x2 q2 s2 p2=>⟨w2,r,S2,(hrr.ext x1).ext x2,s2,aD.bind (rel:=RD X.K) p2 s2 λz S3 w3 H3 vz x3 q3 s3 p3=>?_⟩⟩;have q1':=RD.ext x3 _ _ (RD.ext x2 _ _ q1);have q2':=RD.ext x3 _ _ q2;cases hd3:bS S3 d with
   |none=>rw[hd3]at p3;exact p3.elim
   |some kvs3=>
    cases hk:kx y with
    |none=>rw[hd3,hk]at p3;exact p3.elim
    |some ky=>
     rw[hd3,hk]at p3;obtain⟨pp3,us3,e3,rd3,rk3⟩:=kB s3 q1' hd3;cases e3;have ey:=lp q2' hk;subst ey;refine⟨iH us3 ky,.inl ⟨us3,ky,rd3,rfl,rfl⟩,?_⟩;obtain⟨g1,g2⟩:=rk3.get ky;have p4:aD X.K E (RD X.K) w3 H3 (R.ok ((ft kvs3 ky).getD z) S3) Q:=p3;cases hg:ft kvs3 ky with
     |none=>rw[hg]at p4;rw[g2 hg];exact aD.ret p4 q3 s3
     |some dd=>rw[hg]at p4;obtain⟨vd,hv,rv⟩:=g1 dd hg;rw[hv];exact aD.ret p4 rv s3⟩⟩
end
end PD
namespace L2
open PySem PySem.Spec PyProof.Rows
variable{X:Cx}{s:Shared}
def oO{P:Program}{w:World}{k:Key}{u:Value}(h:(bf P w).is k u=true):RelV (kV k) u:=by
 rw[wD]at h;cases k with
 |inl i=>obtain⟨t,e⟩:=Value.isInt_shape (k:=i) (v:=u) h;exact⟨t,e⟩
 |inr x=>obtain⟨t,e⟩:=Value.isStrOf_shape (x:=x) (v:=u) h;exact⟨t,e⟩
def KV.getI{kvs:List (Key×V)}{vs:List (Key×Value)}(r:KV kvs vs){i:Nat}{k:Key}{x:V}(h:kvs[i]?=some (k,x)):∃v,vs[i]?=some (k,v)/\RelV x v:=by
 unfold KV at r
 induction r generalizing i with
 |nil=>simp at h
 |cons hd tl ih=>
  cases i with
  |zero=>
   simp at h;rename_i p q _ _;obtain⟨e,rv⟩:=hd;subst h
   exact⟨q.2,by simp;exact Mf e.symm rfl,rv⟩
  |succ i=>simpa using ih (by simpa using h)
def Iti(a:Addr)(o:Obj)(us:List (Key×V)):It:=
  ⟨λi H=>H a=some (.frz o (.dK us))/\∃kv,us[i]?=some kv,
   λi H v H'=>∃p k x,v=.ref p/\H p=none/\H'=upd H p (.tup [kV k,x])/\us[i]?=some (k,x),
   λi H=>H a=some (.frz o (.dK us))/\us.length<=i⟩
def BH{pins:List (Addr×Obj)}{σ:St}{H:Hp}{a:Addr}{o:Obj}{us:List (Key×V)}{es:Array DictEntry}{ep:Nat}(I:Inv X pins σ H s)(h:H a=some (.frz o (.dK us)))(ed:o.data=.dict es ep):
  ∃vs,KV us vs/\s.heap.DictAt (bf X.prog X.w) a vs ep/\(a == sysModules)=false:=by
 obtain⟨e,z,hd,vs,rel,⟨o',es',ep',ho,hx,hdat,k1,k2,k3⟩⟩:s.heap.get? a=some o/\bR X.prog X.w H s.heap a (.dK us):=I.hok a _ h;rw[e]at ho;cases ho;rw[ed]at hdat;cases hdat;exact⟨vs,rel,⟨o,es,e,hx,ed,k1,k2,k3⟩,hd⟩
def sV:entryFor table "dict_itemiterator.__iter__" = some Builtin.«dict_keyiterator.__iter__»:=
 entryFor_alias (id':="dict_keyiterator.__iter__") (by kernel_rfl) (by first|rfl|decide +kernel|(unfold String.splitOn;simp +decide [String.splitOnAux])) (by decide +kernel) (by kernel_rfl)
def uZ{prog:Program}{w:World}{A:Around}{E:Value->Shared->Prop}{it d:Addr}{i n ep:Nat}{ok ov:Value}{Q:Value->Shared->Prop}(hz:IsItemIter s.heap it d i n ep ok ov)(h:Q (.ref it) s):wpAny (model prog w) A (pyIter (.ref it)) Q E s:=by
 have hT:s.TypeIs (.ref it) "dict_itemiterator":=⟨_,hz,rfl⟩
 refine wpAny_pyIter_slot hT F.slot_dict_itemiterator_iter (Qk F.slot_dict_itemiterator_iter hT sV ?_ (F.args_dict_itemiterator_iter_1 _));show wpAny _ _ (ret (.ref it)) _ _ s;exact Ye ⟨_,rfl,"dict_itemiterator",_,hT,F.slot_dict_itemiterator_next.lookup,h⟩
def xg{P:Program}{w:World}{K:Frag}{es:List Expr}{n:Nat}{pos:Pos}(it a:Addr)(o:Obj)(us:List (Key×V))(ee:Array DictEntry)(ep:Nat)(ed:o.data=.dict ee ep)(na:a≠it):
  Turn false P w K (.Tuple es n pos) (Iti a o us) [it] it (λi h=>∃ok ov,IsItemIter h it a i us.length ep ok ov) where
 mem:=by simp
 obj:=λi h ⟨ok,ov,st⟩ c hc=>by
  simp only[Yc,Yx,Zl]at hc;subst hc
  exact⟨_,st,λv z=>by cases z⟩
 keep:=λi h h' ⟨ok,ov,st⟩ q=>⟨ok,ov,q it (by simp) _ st⟩
 item:=by
  intro X hP hw hK hc i pins s σ H E I hf ⟨ok,ov,st⟩ hg;subst hP hw hK;obtain⟨ha,⟨k,x⟩,hx⟩:=hg;obtain⟨vs,rel,dd,_⟩:=BH I ha ed;obtain⟨v,hv,rv⟩:=rel.getI hx;have hl:=rel.length;rw[hl]at st
  have hlt:∀c∈[it],c<s.heap.objs.size:=λc hc=>by simp only[Yc,Yx,Zl]at hc;subst hc;exact Yn st
  refine wpAny_pyNext_items_item st dd hv λkey h' hk a1 a2 a3 a4=>⟨_,rfl,?_⟩
  refine wpAny_letOwnedTupleGo_items (s:={ s with heap:=h' }) a1 λh2' hz' hs'=>?_
  have up:∀c ob,c≠it->h'.get? c=some ob->h2'.get? c=some ob:=λc ob n q=>SQ.sb hs' n q
  refine⟨.ref s.heap.objs.size,_,I.turnedP (t':=s.toks) (h':=h2') hf hlt (oO hk) rv (λc ob hc q=>up c ob (λr=>hc (by simp[r])) (a4 c ob (λr=>hc (by simp[r])) q)) (up _ _ (V4 (Yn st)) a2),rfl,
   ⟨_,k,x,rfl,I.fresh,rfl,hx⟩,⟨_,_,by rw[hl];exact hz'⟩,yp hf hlt⟩
 done:=by
  intro X hP hw hK hc i pins s σ H E I hf ⟨ok,ov,st⟩ hg;subst hP hw hK;obtain⟨ha,hx⟩:=hg;obtain⟨vs,rel,dd,_⟩:=BH I ha ed;have hl:=rel.length;rw[hl]at st
  exact wpAny_pyNext_items_end (I.ok.hd hc.cm) st dd (by simp;omega) λh' eb=>⟨rfl,I.turnedS (t':=s.toks) (λb ob hb q=>eb b ob (λr=>hb (by simp[r])) q) hf⟩
 self:=λ_ _ _ _ _ ⟨_,_,st⟩ h=>uZ st h
def Inv.freeze{pins:List (Addr×Obj)}{σ:St}{H:Hp}{a:Addr}{us:List (Key×V)}(I:Inv X pins σ H s)(h:H a=some (.dK us)):∃o,Inv X pins σ (upd H a (.frz o (.dK us))) s:=by
 obtain⟨z,hd,vs,rel,⟨o,es,ep,ho,r⟩⟩:bR X.prog X.w H s.heap a (.dK us):=I.hok a _ h
 have I2:Inv X pins σ (upd H a (.frz o (.dK us))) { s with heap:=s.heap,toks:=s.toks }:=I.write (x:=a) (e:=a) (by rw[h];exact True.intro) (.inl rfl) (λb u _ q=>q) ⟨o,ho⟩ ⟨ho,z,hd,vs,rel,⟨o,es,ep,ho,r⟩⟩
 exact⟨o,I2⟩
def Ha(td:TE):TI:=λσ H R=>td σ H λx H1=>∃a us,x=.ref a/\((H1 a=some (.dK us)/\∀o,R (Iti a o us) (upd H1 a (.frz o (.dK us)))) \/ ∃o,H1 a=some (.frz o (.dK us))/\R (Iti a o us) H1)
def BI{es:List Expr}{n:Nat}{tp:Pos}{d:Expr}{td:TE}{apos pos:Pos}(hd:PE X d td)(hbase:autoParam (attributeBase d "items" X.env (eval d X.env)=eval d X.env) zz0._auto_1)(hline:autoParam ((apos.endLine == pos.line)=true) zz0._auto_1)
  (hfew:autoParam (((backTo pos (starEach [] X.env)).all (λx=>!x.1)&&(backToKw pos (keywordEach [] X.env)).all (λx=>x.1.isSome)&&decide (([]:List Expr).length+([]:List Keyword).length+(if ([]:List Keyword).isEmpty then 0 else 1)<30))=true) zz0._auto_1):
  PI X (.Tuple es n tp) (.Call (.Attribute d "items" apos) [] [] pos) (Ha td):=by
 intro pins s σ H R I h;refine K4 (T:="dict") (id:="dict.items") hbase hfew hline F.plainAttrs_dict F.slot_dict_items F.type_dict_items (thn (hd pins s σ H _ I h) λu s1 zq=>?_)
 obtain⟨x,H1,I1,rx,a,us,ex,q1⟩:=zq;subst ex;obtain rfl:u=Value.ref a:=rx
 have main:∀(H2:Hp)(o:Obj),Inv X pins σ H2 s1->H2 a=some (.frz o (.dK us))->R (Iti a o us) H2->s1.TypeIs (.ref a) "dict"/\(∀b,Value.ref a=.ref b->∃ob,s1.heap.get? b=some ob/\ob.dict=none)/\
   wpAny (model X.prog X.w) X.A (callWith pos (.builtin "dict.items") [.ref a] (backTo pos (starEach [] X.env)) []) (λv s2=>wpAny (model X.prog X.w) X.A (pyIter v) (PIE X pins σ (.Tuple es n tp) R) X.xe s2) X.xe s1:=λH2 o I2 hH2 q=>by
  obtain⟨t1,t2,t3⟩:=wR I2 (a:=a) (.inl ⟨us,.inr ⟨o,hH2⟩⟩);refine⟨t1,t2,?_⟩;obtain⟨eo,z,hdd,vs,rel,⟨o',ee,ep,ho,hx,hdat,k1,k2,k3⟩⟩:s1.heap.get? a=some o/\bR X.prog X.w H2 s1.heap a (.dK us):=I2.hok a _ hH2;rw[eo]at ho;cases ho;have dat:s1.heap.DictAt (bf X.prog X.w) a vs ep:=⟨o,ee,eo,hx,hdat,k1,k2,k3⟩;show wpAny _ _ (callWith pos (.builtin "dict.items") [.ref a] [] []) _ _ s1
  refine method_meetsIn F.slot_dict_items F.entry_dict_items rfl (Uj ⟨rfl,t1,F.args_dict_items_1 _,_,meets_dict_items (bf X.prog X.w) a t3,⟨vs,dat.dictOf⟩,?_⟩)
  have I3:Inv X pins σ H2 { s1 with heap:=s1.heap.push { cls:=.type "dict_items",data:=.fields #[.ref a] } }:=I2.kept (t':=s1.toks) λb u e=>Y7 _ e
  refine wpAny_pyIter_items (s:={ s1 with heap:=s1.heap.push { cls:=.type "dict_items",data:=.fields #[.ref a] } }) ⟨_,Yg _ rfl,rfl,rfl⟩ (dat.push _) ?_
  have hl:=rel.length;have la:a<s1.heap.objs.size:=Yn eo
  have sz:({ s1 with heap:=s1.heap.push { cls:=.type "dict_items",data:=.fields #[.ref a] } }:Shared).heap.objs.size=s1.heap.objs.size+1:=Z5 ..
  refine⟨_,[_],_,_,H2,rfl,I3.kept (t':=s1.toks) λb u e=>Y7 _ e,xg _ a o us ee ep hdat (by rw[sz];exact Yt (We la)),⟨.none,.none,by rw[hl];exact Yg _ rfl⟩,λc hc=>?_,q⟩
  have ec:c=({ s1 with heap:=s1.heap.push { cls:=.type "dict_items",data:=.fields #[.ref a] } }:Shared).heap.objs.size:=by simpa using hc
  subst ec;exact I3.fpOk (Yd _) (I3.hok.fresh (Yd _))
 rcases q1 with⟨hH,q⟩|⟨o,hH,q⟩
 .obtain⟨o,I2⟩:=I1.freeze hH;exact main _ o I2 aP (q o)
 .exact main _ o I1 hH q
end L2
namespace PD
open PySem PySem.Spec PyProof.Rows L2
variable{w:Wd}{H:Hp}
def kD:KD->D
 |.inl i=>.int i
 |.inr x=>.str x
def pairD(kv:KD×D):D:=.tup [kD kv.1,kv.2]
def eN(m:EM):AM:=λr S=>(m r S).bind λd S1=>match d with
 |.ref n=>match S1[n]? with
  |some (.dic kvs)=>.ok (kvs.map pairD) (S1.set n (.fdic kvs))
  |some (.fdic kvs)=>.ok (kvs.map pairD) S1
  |_=>.bad
 |_=>.bad
theorem RDk.getI{K:Frag}:∀{ds:List (KD×D)}{us:List (Key×V)}{i:Nat}{k:KD}{d:D},RDk K w H ds us->ds[i]?=some (k,d)->∃v,us[i]?=some (k,v)/\RD K w H d v
 |[],_,_,_,_,_,h=>by simp at h
 |(j,e)::ds,_,i,k,d,q,h=>by
  obtain⟨v,r,rfl,p,t⟩:=q.cons_inv;cases i with
  |zero=>simp at h;obtain⟨rfl,rfl⟩:=h;exact⟨v,by simp,p⟩
  |succ i=>simpa using RDk.getI t (by simpa using h)
def Hb{K:Frag}(k:KD):RD K w H (kD k) (kV k):=by
 cases k with
 |inl i=>unfold kD RD;rfl
 |inr x=>unfold kD RD;rfl
def u3{K:Frag}{a:Addr}{o:Obj}{kvs:List (KD×D)}{us:List (Key×V)}(hst:∀w' H',Ext w H w' H'->H' a=some (.frz o (.dK us)))(rk:RDk K w H kvs us):RI K w H (kvs.map pairD) (Iti a o us):=by
 intro i w' H' x';have rk':=RDk.ext x' _ _ rk;have hl:=rk.length;have ha:=hst w' H' x'
 refine⟨λhi=>?_,λhi=>⟨ha,by rw[Yh]at hi;omega⟩⟩
 rw[Yh]at hi
 refine⟨⟨ha,us[i]'(by omega),Yk _⟩,λv H'' y=>?_⟩
 obtain⟨p,k,x,rfl,hp,rfl,hx⟩:=y
 obtain⟨v2,e2,r2⟩:=rk'.getI (i:=i) (k:=kvs[i].1) (d:=kvs[i].2) (by rw[Yk hi])
 rw[hx]at e2;cases e2
 refine⟨.inr ⟨p,_,hp,rfl⟩,λS hS=>⟨pairD kvs[i],by simp[hi],?_⟩⟩
 unfold pairD RD;refine⟨p,[kV kvs[i].1,x],rfl,.inl ⟨aP,hS.fresh hp⟩,?_⟩;unfold RDs RDs RDs;exact⟨_,_,rfl,Hb _,_,_,rfl,RD.ext (Ext.new hp) _ _ r2,rfl⟩
section
variable{X:Cx}{E:XK}
theorem jq{es:List Expr}{n:Nat}{tp:Pos}{d:Expr}{md:EM}{apos pos:Pos}(ha:SE X E d md)(hbase:autoParam (attributeBase d "items" X.env (eval d X.env)=eval d X.env) zz0._auto_1)(hline:autoParam ((apos.endLine == pos.line)=true) zz0._auto_1)
  (hfew:autoParam (((backTo pos (starEach [] X.env)).all (λx=>!x.1)&&(backToKw pos (keywordEach [] X.env)).all (λx=>x.1.isSome)&&decide (([]:List Expr).length+([]:List Keyword).length+(if ([]:List Keyword).isEmpty then 0 else 1)<30))=true) zz0._auto_1):
  SI X E (.Tuple es n tp) (.Call (.Attribute d "items" apos) [] [] pos) (eN md):=⟨
 gI (BI ha.out hbase hline hfew) λs H Q zq=>ex6 zq λw r S hr hS hp=>⟨w,r,S,hr,hS,hp.bind hS λd S1 w1 H1 v x1 q1 s1 p1=>by
  cases d with
  |ref m=>
   obtain⟨pp,rfl,hp⟩:=q1.refI;have hm:pp∈w1.st:=Zh hp;cases e:S1[m]? with
   |none=>simp only[e]at p1;exact p1.elim
   |some ob=>
    obtain⟨p',hp',ro⟩:=s1.obj _ _ e;rw[hp]at hp';cases hp';cases ob with
    |dic kvs=>
     simp only[e]at p1;obtain⟨us,hv,rk⟩:=ro;refine⟨pp,us,rfl,.inl ⟨hv,λo=>?_⟩⟩;have rk':=RDk.ext (Ext.mut hm hv (o:=.frz o (.dK us))) _ _ rk;exact aD.at p1 (Ext.mut hm hv) (u3 (λw' H' x'=>x'.frz _ _ _ aP) rk') (s1.mut hp hv ⟨o,us,aP,rk'⟩)
    |fdic kvs=>
     simp only[e]at p1;obtain⟨o,us,hv,rk⟩:=ro;exact⟨pp,us,rfl,.inr ⟨o,hv,aD.ret p1 (u3 (λw' H' x'=>x'.frz _ _ _ hv) rk) s1⟩⟩
    |lst xs=>simp only[e]at p1;exact p1.elim
    |ins c fs=>simp only[e]at p1;exact p1.elim
    |flst xs=>simp only[e]at p1;exact p1.elim
  |_=>exact p1.elim⟩⟩
end
def TupAt(K:Frag)(mg:Str->Option Value)(x:Str)(is:List Int):Prop:=∃a,mg x=some (.ref a)/\su K a (is.map .int)
section
variable{X:Cx}{E:XK}
theorem rdi{K:Frag}:∀is:List Int,RDs K w H (is.map .int) (is.map .int)
 |[]=>.nil
 |i::is=>.cons (by unfold RD;rfl) (rdi is)
def yt{x:Str}{is:List Int}{pos:Pos}(h:TupAt X.K X.mg x is)(hg:Gl X x)(hd:autoParam ((x == ("__debug__":Str))=false) zz3._auto_1):SE X E (.Name x pos) (eC (.tup (is.map .int))):=by
 obtain⟨a,hm,k⟩:=h
 exact sx (iG hg hm (v:=.ref a) rfl hd) λ_ _=>by unfold RD;exact⟨a,_,rfl,.inr k,rdi is⟩
end
def DX{K:Frag}{h:Heap}{mg:Str->Option Value}(X:K.In h)(G:h.Ns mainGlobals mg){x:Str}{a:Addr}{od:Option Addr}{n:Nat}{sl:Array (Option Value)}{i j:Int}{t1 t2:Tok}(hn:nsIn K mainGlobals x=some (some (.ref a)))(hl:K.lookup a=some ⟨.type "tuple",od,.seq #[.int i t1,.int j t2] n,sl⟩):TupAt K mg x [i,j]:=
 ⟨a,Yj X G hn,_,_,n,hl,rfl,rfl,by show 2<=sizeLine;decide,.cons ⟨t1,rfl⟩ (.cons ⟨t2,rfl⟩ .nil)⟩
section
variable{K:Frag}{w:Wd}{H:Hp}
def Mv.adopt{p:Addr}{o:HO}(hh:p∈w.hid):Mv w H ((w.unhide p).add p) (upd H p o):=
  ⟨λn a h=>by
      show(w.st++[p])[n]?=some a
      rw[Z0 (Y9.mp h).1];exact h,
   λa u h=>⟨by rw[aN (λz:a=p=>h.2.2 (z▸hh))];exact h.1,λz=>by
      rcases Yy.mp z with z|z
      · exact h.2.1 z
      · exact h.2.2 (by rw[Yo.mp z];exact hh),λz=>h.2.2 (Wd.mem_unhide z).1⟩⟩
theorem RS.adopt{p:Addr}{o:HO}{so:SO}{S:Sto}(s:RS K w H S)(hh:p∈w.hid)(r:RO K ((w.unhide p).add p) (upd H p o) p so):RS K ((w.unhide p).add p) (upd H p o) (S++[so]):=by
 have np:=(s.hid p hh).1
 refine⟨?_,by simp[Wd.add,Wd.unhide,s.len],λn so' e=>?_,λa ha=>?_⟩
 .show(w.st++[p]).Nodup;rw[List.nodup_append]
  exact⟨s.nd,by simp,λa ha b hb=>by
   have:b=p:=by simpa using hb
   subst this;rintro rfl
   exact np ha⟩
 .by_cases hn:n<S.length
  .rw[Z0 hn]at e;obtain⟨a,ha,q⟩:=s.obj n so' e;have ne:a≠p:=λz=>np (z▸Zh ha)
   exact⟨a,(Mv.adopt (H:=H) (o:=o) hh).st n a ha,q.mv (Mv.adopt hh) λu z=>by rw[aN ne];exact z⟩
  .have hn':n=S.length:=by have:=(Y9.mp e).1;simp at this;omega
   subst hn';simp at e;subst e
   exact⟨p,by show(w.st++[p])[S.length]?=some p;rw[<- s.len];simp,r⟩
 .obtain⟨h1,h2⟩:=Wd.mem_unhide ha;obtain⟨h3,u,e⟩:=s.hid a h1
  refine⟨?_,u,by rw[aN h2];exact e⟩
  show a∉w.st++[p];intro z;rcases Yy.mp z with z|z
  .exact h3 z
  .exact h2 (by simpa using z)
end
section
variable{X:Cx}{E:XK}{pos:Pos}
def nY{keys:List (Option Expr)}{values:List Expr}{ms:List (EM×EM)}(h:SPs X E pos keys values ms)(hall:autoParam (keys.all (·.isSome)=true) zz0._auto_1)(hl:autoParam (keys.length=values.length) zz0._auto_1)(h0:keys≠[]:=by intro z;cases z)(h15:autoParam (keys.length<=15) zz3._auto_1):
  SE X E (.Dict keys values pos) (jn ms):=⟨
 bb (DB h.out hall hl h0 h15) λs H Q q=>zP (keys:=keys) (values:=values) (m:=jn ms) (fin:=λkvs S1=>R.ok (D.ref S1.length) (S1++[SO.dic (kz [] kvs)])) (λr S=>rfl) (λkvs us w0 w H0 H S0 S p hp s0 s x hh rk p1=>by
  have hpn:=(s.hid p hh).1
  refine aD.at p1 (w1:=(w.unhide p).add p) ⟨λa o h n=>by rw[aN (aR h hp)];exact x.keep a o h n,?_,λa h=>Z8.mpr ⟨x.hid a h,Yr λz=>(s0.fresh hp).2 (z▸h)⟩,λa h=>x.hnew a (Wd.mem_unhide h).1,λa o u h=>by rw[aN (aR h hp)];exact x.frz a o u h⟩ ?_ (s.adopt hh ⟨_,aP,RDk.mv (Mv.adopt hh) _ _ rk⟩)
  .obtain⟨l,e,f⟩:=x.sub
   exact⟨l++[p],by show w.st++[p]=_;rw[e,Qe],λa ha=>(Yy.mp ha).elim (f a) λz=>by rw[Yo.mp z];exact hp⟩
  .unfold RD
   exact⟨p,rfl,by show(w.st++[p])[S.length]?=some p;rw[<- s.len];simp⟩) q⟩
def yu:EM:=λ_ S=>.ok (.ref S.length) (S++[.dic []])
def sW:SE X E (.Dict [] [] pos) yu:=⟨
 bb Bc λs H Q zq=>ex6 zq λw r S hr hS hp=>λp hpn=>aD.at hp (Ext.alloc hpn) hS.lastRef (hS.alloc hpn ⟨[],aP,RDk.nil⟩)⟩
end
def di:Int->List Int->Int
 |m,[]=>m
 |m,x::r=>di (if x<m then x else m) r
theorem lx:∀(l:List Int)(m:Int),(di m l<=m/\∀x∈l,di m l<=x)/\(di m l=m\/di m l∈l)
 |[],m=>⟨⟨Mb _,λx h=>nomatch h⟩,.inl rfl⟩
 |x::r,m=>by
  obtain⟨⟨h1,h2⟩,h3⟩:=lx r (if x<m then x else m)
  show(di (if x<m then x else m) r<=m/\∀y∈x::r,di (if x<m then x else m) r<=y)/\(di (if x<m then x else m) r=m\/di (if x<m then x else m) r∈x::r)
  generalize di (if x<m then x else m) r=z at *
  by_cases hx:x<m
  .rw[Y8 hx]at h1 h3
   refine⟨⟨by omega,λy hy=>?_⟩,.inr ?_⟩
   .rcases Yc.mp hy with e|hy
    .rw[e];exact h1
    .exact h2 y hy
   .rcases h3 with e|h3
    .rw[e];exact .head _
    .exact .tail _ h3
  .rw[Yi hx]at h1 h3;refine⟨⟨h1,λy hy=>?_⟩,?_⟩
   .rcases Yc.mp hy with e|hy
    .rw[e];omega
    .exact h2 y hy
   .rcases h3 with e|h3
    .exact .inl e
    .exact .inr (.tail _ h3)
def nh(S:Sto):D->Option (List D)
 |.lst a=>some a
 |.ref n=>match S[n]? with
  |some (.lst a)=>some a
  |_=>none
 |_=>none
def BJ:Sto->List D->Option D
 |S,[d]=>match nh S d with
  |some a=>match intsOf a with
   |some (n::ns)=>some (.int (di n ns))
   |_=>none
  |none=>none
 |_,_=>none
def BK:Sto->List D->Option D:=λS ds=>if ds.length=1 then BJ S ds else sM S ds
section
variable{X:Cx}{E:XK}
def qh{prog:Program}{w:World}{A:Around}{Ex:Value->Shared->Prop}{s:Shared}{l:Addr}{vs:List Value}{ns:List Int}{Q:Value->Shared->Prop}(hh:A.handled=none)(hl:s.heap.IsList l vs.toArray)(hi:IntsAre vs ns)(hne:0<ns.length)
  (h:∀h' M (t:Tok) tk,(∀b o,s.heap.get? b=some o->h'.get? b=some o)->M∈ns->(∀a,a∈ns->M<=a)->Q (.int M t) { s with heap:=h',toks:=tk }):wpAny (model prog w) A (call (.builtin "min") [.ref l]) Q Ex s:=by
 obtain⟨xs,e⟩:=hi.allInts.items
 have hns:ns=xs.toList.map (·.1):=(by rw[<- hi.numsOf,<- nums_intItems,<- e])
 have hsz:0<xs.size:=(by have h3:=hne;rw[hns,Yh,W3]at h3;exact h3)
 rw[e]at hl;refine min_intList hh hl hsz λv h' tk hv hk=>?_;obtain⟨t,rfl⟩:=intItems_at hv;obtain⟨h1,h2⟩:=argBest_lt (numAt xs) (xs.size-1);refine h _ _ t tk hk ?_ λa ha=>?_
 .rw[hns,numAt_eq];exact getD_mem (by rw[Yh,W3];omega)
 .rw[hns]at ha;obtain⟨j,hj,rfl⟩:=mem_getD ha;rw[Yh,W3]at hj;rw[<- numAt_eq];exact h2 j (by omega)
def oP{K:Frag}{S:Sto}{d:D}{v:V}{a:List D}(s:RS K w H S)(q:RD K w H d v)(h:nh S d=some a):∃p vs,v=.ref p/\SqL K H p vs/\RDs K w H a vs:=by
 unfold nh at h;split at h
 .cases h;obtain⟨p,vs,e,z,r⟩:=q.lstI;exact⟨p,vs,e,SqL.of z.1,r⟩
 .rename_i n;split at h
  .rename_i e;cases h;obtain⟨p,rfl,hp⟩:=q.refI;obtain⟨p',hp',vs,hv,r⟩:=s.obj _ _ e;rw[hp]at hp';cases hp';exact⟨p,vs,rfl,SqL.of hv,r⟩
  .cases h
 .cases h
def DY(hc:X.calm=true):bI X (.builtin "min") (xC X.K E BJ):=by
 rintro pins s σ H xs us Q I r ⟨w,S,ds,hS,qs,p⟩;obtain⟨z,hz,p'⟩:=p.of;clear p;unfold BJ at hz;split at hz
 .rename_i d;obtain⟨v,rfl,q⟩:=qs.one_inv;split at hz
  .rename_i a ha;split at hz
   .rename_i n ns hns;cases hz;obtain⟨pa,vs,rfl,sq,ra⟩:=oP hS q ha;obtain⟨u,rfl,rx⟩:=Wb r;cases rx;obtain⟨its,r',pl,hz⟩:=I.list sq
    refine qh (I.ok.hd hc) pl.isList (iq ra r' hns) (by simp) λh' M t tk hk h1 h2=>?_
    have eM:M=di n ns:=by
     obtain⟨⟨a1,a2⟩,a3⟩:=lx ns n
     have b1:=h2 (di n ns) (by rcases a3 with e|h;rw[e];exact .head _;exact .tail _ h)
     have b2:di n ns<=M:=by
      rcases Yc.mp h1 with e|h
      .rw[e];exact a1
      .exact a2 M h
     omega
    subst eM
    exact⟨.int _,H,I.kept (t':=tk) hk,⟨t,rfl⟩,p'.ret (by unfold RD;rfl) hS⟩
   .cases hz
  .cases hz
 .cases hz
def Fj{f:Value}{g g1 g2:Sto->List D->Option D}(h1:bI X f (xC X.K E g1))(h2:bI X f (xC X.K E g2))(h:∀S ds,g S ds=g1 S ds\/g S ds=g2 S ds):bI X f (xC X.K E g):=by
 rintro pins s σ H xs us Q I r ⟨w,S,ds,hS,qs,p⟩;rcases h S ds with z|z
 .exact h1 pins s σ H xs us Q I r ⟨w,S,ds,hS,qs,z▸p⟩
 .exact h2 pins s σ H xs us Q I r ⟨w,S,ds,hS,qs,z▸p⟩
def DZ(hc:X.calm=true):bI X (.builtin "min") (xC X.K E BK):=Fj (DY hc) (wX hc) λS ds=>by
 unfold BK;split
 .exact .inl rfl
 .exact .inr rfl
end
end PD
namespace PD
open PySem PySem.Spec PyProof.Rows L2
open AutoSeq1 (wpAny_loadPart')
open MeetsSeq MeetsSeq2 MeetsSeq3 SeqRoads2 PySem.SeqAt
variable{xs ys:List Int}
def ltZ:List Int->List Int->Bool
 |[],[]=>false
 |[],_::_=>true
 |_::_,[]=>false
 |x::xs,y::ys=>if x=y then ltZ xs ys else decide (x<y)
def ltZ_eq{x y:Int}(h:x=y):ltZ (x::xs) (y::ys)=ltZ xs ys:=Y8 h
def fw{x y:Int}(h:¬x=y):ltZ (x::xs) (y::ys)=decide (x<y):=Yi h
def yw{A:Around}{s:Shared}{a b:Int}{t u:Tok}(prog:Program)(w:World){E:Value->Shared->Prop}{Q:Value->Shared->Prop}(h:Q (.bool (decide (a<b))) s):wpAny (model prog w) A (richCompare .Lt (.int a t) (.int b u)) Q E s:=
 richCompare_gives (op:=.Lt) (Wz s _ t) (Wz s _ u) F.slot_int_lt F.entry_int_lt (F.args_int_lt_2 _ _) (gives_int_lt _ _ t u) (λx=>nomatch x) h
theorem sX(l b:Addr)(items items2:Array Value)(n n2:Nat)(dd dd2:Option Addr)(sl sl2:Array (Option Value))(hx:IntsAre items.toList xs)(hy:IntsAre items2.toList ys):
  Meets (Builtin.«tuple.__lt__» ⟨[.ref l,.ref b],[]⟩)
   (λA R s=>s.heap.get? l=some { cls:=.type "tuple",dict:=dd,data:=.seq items n,slots:=sl }/\s.heap.get? b=some { cls:=.type "tuple",dict:=dd2,data:=.seq items2 n2,slots:=sl2 }/\
    R (.ok (.ret (.bool (ltZ xs ys)))) s):=
 .of_wp λprog w A R s h=>by
  obtain⟨hp,g,d,tk,os⟩:=s;obtain⟨hl,hb,h⟩:=h;have f2:=AutoSeq1.sub_tuple_tuple
  wp_walk using wpAny_loadPart' hl,wpAny_loadPart' hb,wpAny_forIn_list _ (λrest b s'=>b.1=none/\s'=⟨hp,g,d,tk,os⟩/\∃(as bs:List Value)(xs ys:List Int),rest=as.zip bs/\IntsAre as xs/\IntsAre bs ys/\as.length+items2.size=bs.length+items.size/\
   R (.ok (.ret (.bool (ltZ xs ys)))) ⟨hp,g,d,tk,os⟩) _
  case turn=>
   rintro⟨y,x⟩ rest b s' ⟨hb',rfl,as,bs,xs,ys,hz,h1,h2,hlen,hR⟩;cases h1 with
   |nil=>cases hz
   |cons a t h1=>
    cases h2 with
    |nil=>cases hz
    |cons c u h2=>
     cases hz;refine Y6 (EqAt.int_int a t c u prog w _ _ ?_);by_cases hac:a=c
     .have e:(a == c)=true:=by simp[hac]
      rw[e]
      wp_walk
      refine⟨rfl,rfl,_,_,_,_,rfl,h1,h2,by simp only[Ym]at hlen;omega,?_⟩
      rw[ltZ_eq hac]at hR;exact hR
     .have e:(a == c)=false:=by simp[hac]
      rw[fw hac]at hR;rw[e];simp only[Bool.not_false,Zj];refine Y6 (Wa ?_);refine Y6 (yw prog w ?_)
      wp_walk
      exact⟨_,rfl,hR⟩
  case fin=>
   rintro⟨b1,b2⟩ s' ⟨hb',rfl,as,bs,xs,ys,hz,h1,h2,hlen,hR⟩;simp only at hb';subst hb'
   have e:ltZ xs ys=decide (items.size<items2.size):=by
    cases h1 with
    |nil=>
     cases h2 with
     |nil=>simp only[Zf]at hlen;unfold ltZ;exact(Yp (by omega)).symm
     |cons c u h2=>simp only[Zf,Ym]at hlen;unfold ltZ;exact(Yr (by omega)).symm
    |cons a t h1=>
     cases h2 with
     |nil=>simp only[Zf,Ym]at hlen;unfold ltZ;exact(Yp (by omega)).symm
     |cons c u h2=>cases hz
   rw[e]at hR
   wp_walk
   exact⟨_,rfl,by simpa[Builtin.Tuple.tupleCompareSizes] using hR⟩
  case h=>
   exact⟨rfl,rfl,_,_,_,_,rfl,hx,hy,by simp[U8],h⟩
def D0{A:Around}{s:Shared}{l b:Addr}{items items2:Array Value}(hl:s.heap.IsTuple l items)(hb:s.heap.IsTuple b items2)(hx:IntsAre items.toList xs)(hy:IntsAre items2.toList ys)(hu:A.units<cLine)(prog:Program)(w:World){E:Value->Shared->Prop}{Q:Value->Shared->Prop}
  (h:Q (.bool (ltZ xs ys)) s):wpAny (model prog w) A (richCompare .Lt (.ref l) (.ref b)) Q E s:=by
 obtain⟨⟨cls,dd,data,sl⟩,ho,hc,n,hd⟩:=id hl;obtain⟨⟨cls2,dd2,data2,sl2⟩,ho2,hc2,n2,hd2⟩:=id hb;simp only at hc hd hc2 hd2;subst hc hd hc2 hd2;exact richCompare_meets_room (op:=.Lt) ⟨_,ho,rfl⟩ ⟨_,ho2,rfl⟩ F.slot_tuple_lt F.entry_tuple_lt (F.args_tuple_lt_2 _ _) (sX l b items items2 n n2 dd dd2 sl sl2 hx hy)
  ⟨ho,ho2,show Value.bool (ltZ xs ys)≠Value.notImplemented/\Q (.bool (ltZ xs ys)) s from ⟨(λx=>nomatch x),h⟩⟩ hu
end PD
namespace PD
open PySem PySem.Spec PyProof.Rows L2
def zV(prog:Program)(w:World)(A:Around)(h0:Heap)(P:Nat->Value->Prop)(bt:Nat->Nat->Bool):Prop:=
 ∀(i j:Nat)(vi vj:Value)(s:Shared)(Q:Value->Shared->Prop)(E:Value->Shared->Prop),(∀b o,h0.get? b=some o->s.heap.get? b=some o)->P i vi->P j vj->Q (.bool (bt i j)) s->wpAny (model prog w) A (richCompare .Lt vi vj) Q E s
abbrev qS(vs:Array Value)(c:Nat):Obj:={ cls:=.type "list",dict:=none,data:=.seq vs c,slots:=#[] }
section
variable{prog:Program}{w:World}{A:Around}{R:Result->Shared->Prop}{I:Addr}{fp wr:List Addr}{n:Nat}{P:Nat->Value->Prop}{St:Nat->Heap->Prop}{h0:Heap}{bt:Nat->Nat->Bool}{S:Addr}{kw:List (Str×Value)}
theorem zW(W:Walks prog w A.in1 I fp wr n P St)(hcmp:zV prog w A.in1 h0 P bt)(hSf:S∉fp)(hw:∀b∈wr,h0.get? b=none)(hS0:h0.get? S=none):
  ∀(k j:Nat)(s:Shared)(vb:Value)(c:Nat),n-(j+1)=k->j+1<=n->St (j+1) s.heap->P (argBest bt j) vb->s.heap.get? S=some (qS #[vb,vb] c)->(∀b o,h0.get? b=some o->s.heap.get? b=some o)->
  (∀v h' tk,P (argBest bt (n-1)) v->(∀b o,h0.get? b=some o->h'.get? b=some o)->R (.ok (.ret v)) { s with heap:=h',toks:=tk })->
  codeAny (model prog w) A (.builtin "min.loop" ⟨[.ref I,.none,.ref S],kw⟩) R s:=by
 have hSw:S∉wr:=λh=>hSf (W.sub _ h)
 have nw:∀{b:Addr}{o:Obj},h0.get? b=some o->b∉wr:=λe h=>by rw[hw _ h]at e;cases e
 have nS:∀{b:Addr}{o:Obj},h0.get? b=some o->S≠b:=λe h=>by rw[<- h,hS0]at e;cases e
 have hname:(toString "min" ++ toString ".loop":String) = "min.loop":=by decide
 intro k
 induction k with
 |zero=>
  intro j s vb c hk hj hst hPb hS hkp hR
  have hin:j+1=n:=by omega
  refine Q4 Vw ?_;rw[Zr Qa _];show wpAny _ A.in1 (seqItems? (.ref S) >>= _) _ _ s;refine Y6 (Zg hS rfl ?_);show wpAny _ A.in1 (tryCatch (pyNext (.ref I)) _ >>= _) _ _ s;refine Y6 (Qw (W.done s _ _ (hin▸hst) λh' tk hk'=>?_));show wpAny _ A.in1 (updateSeq S (λ_=>#[]) >>= _) _ _ _;refine Y6 ?_;refine V1 (hk' S _ hSw hS) rfl (Y6 (W9 (Ye ?_)))
  exact hR vb _ tk (by rw[<- hin];exact hPb) λb o e=>(Z7 _ _ (nS e)).trans (hk' b o (nw e) (hkp b o e))
 |succ k ih=>
  intro j s vb c hk hj hst hPb hS hkp hR
  have hlt:j+1<n:=by omega
  refine Q4 Vw ?_;rw[Zr Qa _];show wpAny _ A.in1 (seqItems? (.ref S) >>= _) _ _ s;refine Y6 (Zg hS rfl ?_);show wpAny _ A.in1 (tryCatch (pyNext (.ref I)) _ >>= _) _ _ s;refine Y6 (Qw (W.item (j+1) s _ _ hlt hst λv h' tk hP hst' hk'=>?_));have hS':=hk' S _ hSw hS;have hkp':∀b o,h0.get? b=some o->h'.get? b=some o:=λb o e=>hk' b o (nw e) (hkp b o e);show wpAny _ A.in1 (tryCatch (holding [v,v] (richCompare .Lt v vb >>= _)) _ >>= _) _ _ _;refine Y6 (Qw (Qr (Y6 (hcmp (j+1) (argBest bt j) v vb _ _ _ hkp' hP hPb ?_))));refine Y6 (Qr (Qc ?_));refine Y6 (W9 (Ye ?_));cases hb:bt (j+1) (argBest bt j) with
  |true=>
   simp only[Zj];refine Y6 ?_;refine V1 hS' rfl (Y6 (W9 ?_));rw[hname]
   refine Ye ⟨Qt Qa _,ih (j+1) _ v _ (by omega) hlt (W.frame _ _ _ hst' λb hbf o e=>(Z7 _ _ (λh:S=b=>hSf (by rw[h];exact hbf))).trans e) (by simp only[argBest,hb,Zj];exact hP) (Qi _ hS' rfl)
    (λb o e=>(Z7 _ _ (nS e)).trans (hkp' b o e)) λv' h'' tk'' hP' hk''=>hR v' h'' tk'' hP' hk''⟩
  |false=>
   simp only[Ze,Qy];refine Y6 (W9 ?_);rw[hname]
   exact Ye ⟨Qt Qa _,ih (j+1) _ vb c (by omega) hlt hst' (by simp only[argBest,hb,Ze,Qy];exact hPb) hS' hkp' λv' h'' tk'' hP' hk''=>hR v' h'' tk'' hP' hk''⟩
def oQ(W:Walks prog w A.in1 I fp wr n P St)(hcmp:zV prog w A.in1 h0 P bt)(hSf:S∉fp)(hw:∀b∈wr,h0.get? b=none)(hS0:h0.get? S=none)(hn:0<n){s:Shared}{c:Nat}(hst:St 0 s.heap)
  (hS:s.heap.get? S=some (qS #[] c)) (hkp:∀b o,h0.get? b=some o->s.heap.get? b=some o)
  (hR:∀v h' tk,P (argBest bt (n-1)) v->(∀b o,h0.get? b=some o->h'.get? b=some o)->R (.ok (.ret v)) { s with heap:=h',toks:=tk }):
  codeAny (model prog w) A (.builtin "min.loop" ⟨[.ref I,.none,.ref S],kw⟩) R s:=by
 have hSw:S∉wr:=λh=>hSf (W.sub _ h)
 have nw:∀{b:Addr}{o:Obj},h0.get? b=some o->b∉wr:=λe h=>by rw[hw _ h]at e;cases e
 have nS:∀{b:Addr}{o:Obj},h0.get? b=some o->S≠b:=λe h=>by rw[<- h,hS0]at e;cases e
 have hname:(toString "min" ++ toString ".loop":String) = "min.loop":=by decide
 refine Q4 Vw ?_;rw[Zr Qa _];show wpAny _ A.in1 (seqItems? (.ref S) >>= _) _ _ s;refine Y6 (Zg hS rfl ?_);show wpAny _ A.in1 (tryCatch (pyNext (.ref I)) _ >>= _) _ _ s;refine Y6 (Qw (W.item 0 s _ _ hn hst λv h' tk hP hst' hk'=>?_));have hS':=hk' S _ hSw hS;have hkp':∀b o,h0.get? b=some o->h'.get? b=some o:=λb o e=>hk' b o (nw e) (hkp b o e);show wpAny _ A.in1 (updateSeq S (λ_=>#[v,v]) >>= _) _ _ _;refine Y6 ?_;refine V1 hS' rfl ?_;rw[hname]
 exact Ye ⟨Qt Qa _,zW W hcmp hSf hw hS0 _ 0 _ v _ rfl hn (W.frame _ _ _ hst' λb hbf o e=>(Z7 _ _ (λh:S=b=>hSf (by rw[h];exact hbf))).trans e) hP (Qi _ hS' rfl)
  (λb o e=>(Z7 _ _ (nS e)).trans (hkp' b o e)) λv' h'' tk'' hP' hk''=>hR v' h'' tk'' hP' hk''⟩
def zX{d:Value}{nm:Str}(W:Walks prog w A.in1 I fp wr 0 P St)(hSf:S∉fp){s:Shared}{c:Nat}(hst:St 0 s.heap)(hS:s.heap.get? S=some (qS #[] c))
  (hR:∀h' tk,(∀b o,b∉wr->s.heap.get? b=some o->h'.get? b=some o)->R (.ok (.ret d)) { s with heap:=h',toks:=tk }):
  codeAny (model prog w) A (.builtin "min.loop" ⟨[.ref I,.none,.ref S],[(nm,d)]⟩) R s:=by
 refine Q4 Vw ?_;rw[Zr Qa _];show wpAny _ A.in1 (seqItems? (.ref S) >>= _) _ _ s;refine Y6 (Zg hS rfl ?_);show wpAny _ A.in1 (tryCatch (pyNext (.ref I)) _ >>= _) _ _ s;refine Y6 (Qw (W.done s _ _ hst λh' tk hk'=>?_));show wpAny _ A.in1 (rule _ >>= _) _ _ _;refine Y6 (Wa (Ye ?_));exact hR h' tk hk'
theorem ly{id:String}{b:Builtin}{args:List Value}{Q:Value->Shared->Prop}{E:Value->Shared->Prop}{s:Shared}(hk:builtinKind id=none)(hp:plainId id=true)
  (hb:entryFor table id=some b) (ha:argsOk id ⟨args,kw⟩)
  (hc:wpAny (model prog w) A.in1 (b ⟨args,kw⟩) (λfin s'=>match fin with
   |.done f=>(match (Except.ok f:Result) with | .ok (.ret v)=>Q v s' | .ok _=>False | .error e=>E e s')
   |.again c'=>c'.quiet=true/\codeAny (model prog w) A c' (λr s'=>match r with | .ok (.ret v)=>Q v s' | .ok _=>False | .error e=>E e s') s') E s):
  wpAny (model prog w) A (call (.builtin id) args kw) Q E s:=by
 refine wpAny_call (codeAny_call_builtin hp hb ?_);simp only[checkBuiltinCall,hk];cases hsig:Manifest.signature? id with
 |none=>exact Ye hc
 |some sig=>
  have h2:Bind.checkArgs id sig ⟨args,kw⟩=pure ():=by simpa only[argsOk,hsig] using ha
  simp only[h2];exact Ye hc
def mE(a d:Value):argsOk "min" ⟨[a],[("default",d)]⟩:=by unfold argsOk;kernel_rfl
end
def jr(m:List Int)(l:List (List Int)):List Int:=l.foldl (λm x=>if ltZ x m=true then x else m) m
def hU:List D->Option (List (List Int))
 |[]=>some []
 |.tup a::r=>match intsOf a,hU r with
  |some n,some ns=>some (n::ns)
  |_,_=>none
 |_::_=>none
def yx(h:Heap)(us:List Value)(ns:List (List Int)):Prop:=us.length=ns.length/\∀(i:Nat)(v:Value),us[i]?=some v->∃a items,v=.ref a/\h.IsTuple a items/\IntsAre items.toList (ns.getD i [])
theorem qT(ns:List (List Int)):∀k:Nat,k<ns.length->argBest (λi j=>ltZ (ns.getD i []) (ns.getD j [])) k<=k/\ns.getD (argBest (λi j=>ltZ (ns.getD i []) (ns.getD j [])) k) []=jr (ns.getD 0 []) ((ns.drop 1).take k)
 |0,h=>⟨Yd _,rfl⟩
 |k+1,h=>by
  obtain⟨h1,h2⟩:=qT ns k (by omega)
  have hd:(ns.drop 1)[k]?=some (ns.getD (k+1) []):=by rw[Uu,U8 1 k,Zm,Yk h];rfl
  have ht:(ns.drop 1).take (k+1)=(ns.drop 1).take k++[ns.getD (k+1) []]:=by rw[Um,hd];rfl
  rw[ht];unfold jr at h2 ⊢;rw[List.foldl_append,<- h2];simp only[argBest,M7,List.foldl_nil];by_cases hb:ltZ (ns.getD (k+1) []) (ns.getD (argBest (λi j=>ltZ (ns.getD i []) (ns.getD j [])) k) [])=true
  .rw[Y8 hb,Y8 hb];exact⟨Yd _,rfl⟩
  .rw[Yi hb,Yi hb];exact⟨by omega,rfl⟩
theorem qU:∀{ds:List D}{ns:List Int},intsOf ds=some ns->ds=ns.map .int
 |[],ns,h=>by unfold intsOf at h;cases h;rfl
 |d::r,ns,h=>by
  unfold intsOf at h;split at h
  .rename_i e;cases e
  .rename_i b r' e;cases e;cases e:intsOf r with
   |none=>rw[e]at h;cases h
   |some cs=>rw[e]at h;cases h;rw[qU e];rfl
  .cases h
section
variable{X:Cx}{E:XK}{pins:List (Addr×Obj)}{σ:L2.St}{H:Hp}{s:Shared}
theorem oR{w:Wd}(I:Inv X pins σ H s):∀{ds:List D}{vs:List V}{us:List Value}{ns:List (List Int)},RDs X.K w H ds vs->Vals vs us->hU ds=some ns->yx s.heap us ns/\∀(i:Nat)(v:Value),us[i]?=some v->∃y,RelV y v/\RD X.K w H (.tup ((ns.getD i []).map .int)) y
 |[],_,_,_,q,r,h=>by
  rw[q.nil_inv]at r;cases r;unfold hU at h;cases h
  exact⟨⟨rfl,λi v h=>by simp at h⟩,λi v h=>by simp at h⟩
 |d::ds,_,_,ns,q,r,h=>by
  obtain⟨y,vs,rfl,p,t⟩:=q.cons_inv;unfold hU at h;split at h
  .rename_i e;cases e
  .rename_i a r' eq;cases eq;split at h
   .rename_i n ns' e1 e2;cases h;cases r with
    |cons rv rr=>
     obtain⟨⟨l,g⟩,g2⟩:=oR I t rr e2;obtain⟨pa,xs,rfl,za,ra⟩:=p.tupI;obtain⟨its,r1,p1,_⟩:=I.tuple (dF za);cases rv
     refine⟨⟨by simp[l],λi v hv=>?_⟩,λi v hv=>?_⟩
     .cases i with
      |zero=>cases hv;exact⟨pa,its.toArray,rfl,p1,by simpa using iq ra r1 e1⟩
      |succ i=>exact g i v (by simpa using hv)
     .cases i with
      |zero=>cases hv;exact⟨.ref pa,rfl,by have:=qU e1;subst this;exact p⟩
      |succ i=>exact g2 i v (by simpa using hv)
   .cases h
  .cases h
end
section
variable{prog:Program}{w:World}{A:Around}{E:Value->Shared->Prop}{s:Shared}
def qV{h0:Heap}{us:List Value}{ns:List (List Int)}(t:yx h0 us ns)(hu:A.units<cLine):zV prog w A h0 (λi v=>us.toArray[i]?=some v) λi j=>ltZ (ns.getD i []) (ns.getD j []):=by
 intro i j vi vj s Q E hk hi hj h
 obtain⟨a,xs,rfl,ta,ia⟩:=t.2 i vi (by simpa using hi)
 obtain⟨b,ys,rfl,tb,ib⟩:=t.2 j vj (by simpa using hj)
 exact D0 (ta.at λo e=>hk _ o e) (tb.at λo e=>hk _ o e) ia ib hu prog w h
def qW{l:Addr}{us:List Value}{bt:Nat->Nat->Bool}{kw:List (Str×Value)}{df:Option Value}{Q:Value->Shared->Prop}(hh:A.handled=none)(hl:s.heap.IsList l us.toArray)(hne:0<us.length)
  (ha:argsOk "min" ⟨[.ref l],kw⟩) (hb:Builtin.Builtins.bindParams "min" ["key","default"] 0 ⟨[],kw⟩=pure [none,df])
  (hcmp:zV prog w A.in1 s.heap (λi v=>us.toArray[i]?=some v) bt)
  (h:∀v h' tk,us[argBest bt (us.length-1)]?=some v->(∀b o,s.heap.get? b=some o->h'.get? b=some o)->Q v { s with heap:=h',toks:=tk }):
  wpAny (model prog w) A (call (.builtin "min") [.ref l] kw) Q E s:=by
 have hname:(toString "min" ++ toString ".loop":String) = "min.loop":=by decide
 have hlt:l<s.heap.objs.size:=by obtain⟨_,e,_⟩:=hl;exact Yn e
 refine ly F.kind_min F.plain_min F.entry_min ha ?_;show wpAny _ A.in1 (Builtin.Builtins.bindParams "min" ["key","default"] 0 ⟨[],kw⟩ >>= _) _ _ s
 refine Y6 (Vf hb ?_);refine Y6 (Ye ?_);refine Y6 (Qd hl ?_);refine Y6 (Zd ?_);have hsz:(s.heap.push { cls:=.type "list_iterator",data:=.fields #[.ref l,.int 0 0] }).objs.size=s.heap.objs.size+1:=Z5 ..
 have W:=Ub (prog:=prog) (w:=w) (A:=A.in1) hh s.heap.objs.size l (Yt hlt) us.toArray
 have hSf:s.heap.objs.size+1∉[s.heap.objs.size,l]:=λhm=>by
  rcases Yc.mp hm with e|hm
  .exact absurd e (Vb _)
  .rcases Yc.mp hm with e|hm
   .exact Qb _ (Vs (e▸hlt:s.heap.objs.size+1<s.heap.objs.size))
   .cases hm
 rw[hname];refine Ye ⟨Qt Qa _,?_⟩;show codeAny _ A (.builtin "min.loop" ⟨[.ref s.heap.objs.size,.none,.ref (s.heap.push _).objs.size],_⟩) _ _
 rw[hsz]
 refine oQ (h0:=s.heap) W hcmp hSf (λb hb=>?_) (Qu (Wp _)) (by simpa using hne) (W.frame _ _ _ ⟨⟨_,Yg _ rfl,rfl,rfl⟩,hl.push _⟩ λb _ o e=>Y7 _ e) (by rw[<- hsz];exact Yg _ rfl)
  (λb o e=>Y7 _ (Y7 _ e)) λv h' tk hP hk=>h v h' tk (by simpa using hP) hk
 .simp at hb;rw[hb];exact Qu (Yd _)
def xh{l:Addr}{d:Value}{Q:Value->Shared->Prop}(hh:A.handled=none)(hl:s.heap.IsList l #[])
  (h:∀h' tk,(∀b o,s.heap.get? b=some o->h'.get? b=some o)->Q d { s with heap:=h',toks:=tk }):
  wpAny (model prog w) A (call (.builtin "min") [.ref l] [("default",d)]) Q E s:=by
 have hname:(toString "min" ++ toString ".loop":String) = "min.loop":=by decide
 have hlt:l<s.heap.objs.size:=by obtain⟨_,e,_⟩:=hl;exact Yn e
 refine ly F.kind_min F.plain_min F.entry_min (mE _ _) ?_;show wpAny _ A.in1 (Builtin.Builtins.bindParams "min" ["key","default"] 0 ⟨[],[("default",d)]⟩ >>= _) _ _ s
 refine Y6 (Vf (show Builtin.Builtins.bindParams "min" ["key","default"] 0 ⟨[],[("default",d)]⟩=pure [none,some d] from rfl) ?_)
 refine Y6 (Ye ?_);refine Y6 (Qd hl ?_);refine Y6 (Zd ?_);have hsz:(s.heap.push { cls:=.type "list_iterator",data:=.fields #[.ref l,.int 0 0] }).objs.size=s.heap.objs.size+1:=Z5 ..
 have W:=Ub (prog:=prog) (w:=w) (A:=A.in1) hh s.heap.objs.size l (Yt hlt) #[]
 have hSf:s.heap.objs.size+1∉[s.heap.objs.size,l]:=λhm=>by
  rcases Yc.mp hm with e|hm
  .exact absurd e (Vb _)
  .rcases Yc.mp hm with e|hm
   .exact Qb _ (Vs (e▸hlt:s.heap.objs.size+1<s.heap.objs.size))
   .cases hm
 rw[hname];refine Ye ⟨Qt Qa _,?_⟩;show codeAny _ A (.builtin "min.loop" ⟨[.ref s.heap.objs.size,.none,.ref (s.heap.push _).objs.size],[("default",d)]⟩) _ _
 rw[hsz]
 refine zX W hSf (W.frame _ _ _ ⟨⟨_,Yg _ rfl,rfl,rfl⟩,hl.push _⟩ λb _ o e=>Y7 _ e) (by rw[<- hsz];exact Yg _ rfl) λh' tk hk=>h h' tk λb o e=>hk b o (λhm=>?_) (Y7 _ (Y7 _ e))
 simp at hm;exact absurd (hm▸Yn e) (Qb _)
end
section
variable{prog:Program}{w:World}{A:Around}{E:Value->Shared->Prop}{s:Shared}
def BL{x y:Value}{bt:Nat->Nat->Bool}{Q:Value->Shared->Prop}(hh:A.handled=none)
  (hcmp:zV prog w A.in1 s.heap (λi v=>([x,y]:List Value).toArray[i]?=some v) bt)
  (h:∀h' tk,(∀b o,s.heap.get? b=some o->h'.get? b=some o)->Q (if bt 1 0=true then y else x) { s with heap:=h',toks:=tk }):
  wpAny (model prog w) A (call (.builtin "min") [x,y]) Q E s:=by
 have hname:(toString "min" ++ toString ".loop":String) = "min.loop":=by decide
 refine ly F.kind_min F.plain_min F.entry_min (F.args_min2 _ _) ?_;show wpAny _ A.in1 (Builtin.Builtins.bindParams "min" ["key","default"] 0 ⟨[],[]⟩ >>= _) _ _ s
 refine Y6 (Vf (show Builtin.Builtins.bindParams "min" ["key","default"] 0 ⟨[],[]⟩=pure [none,none] from rfl) ?_)
 show wpAny _ A.in1 (newTuple [x,y] >>= _) _ _ s;refine Y6 (Zd ?_);have hT:(s.heap.push { cls:=.type "tuple",data:=.seq ([x,y]:List Value).toArray }).IsTuple s.heap.objs.size ([x,y]:List Value).toArray:=⟨_,Yg _ rfl,rfl,0,rfl⟩
 refine Y6 (Vi hT ?_);refine Y6 (Zd ?_);have hsz:(s.heap.push { cls:=.type "tuple",data:=.seq ([x,y]:List Value).toArray }).objs.size=s.heap.objs.size+1:=Z5 ..
 have W:=Walks.tuple (prog:=prog) (w:=w) (A:=A.in1) hh (s.heap.objs.size+1) s.heap.objs.size (Yt (Zx _)) ([x,y]:List Value).toArray
 have hSf:s.heap.objs.size+2∉[s.heap.objs.size+1,s.heap.objs.size]:=λhm=>by
  rcases Yc.mp hm with e|hm
  .exact absurd e (Vb _)
  .rcases Yc.mp hm with e|hm
   .exact absurd e (V4 (We (Zx _)))
   .cases hm
 rw[hname];refine Ye ⟨Qt Qa _,?_⟩
 have hsz2:∀o:Obj,((s.heap.push { cls:=.type "tuple",data:=.seq ([x,y]:List Value).toArray }).push o).objs.size=s.heap.objs.size+2:=λo=>by rw[Z5,hsz]
 show codeAny _ A (.builtin "min.loop" ⟨[.ref (s.heap.push { cls:=.type "tuple",data:=.seq ([x,y]:List Value).toArray }).objs.size,.none,.ref ((s.heap.push { cls:=.type "tuple",data:=.seq ([x,y]:List Value).toArray }).push _).objs.size],[]⟩) _ _
 rw[hsz2,hsz]
 refine oQ (h0:=s.heap) W hcmp hSf (λb hb=>?_) (Qu (K6 (Wp _))) (Ue _) (W.frame _ _ _ ⟨⟨_,by rw[<- hsz];exact Yg _ rfl,rfl,rfl⟩,hT.push _⟩ λb _ o e=>Y7 _ e) (by rw[<- hsz2];exact Yg _ rfl)
  (λb o e=>Y7 _ (Y7 _ (Y7 _ e))) λv h' tk hP hk=>?_
 .rcases Yc.mp hb with e|hb
  .rw[e];exact Qu (Wp _)
  .cases hb
 .have hv:v=if bt 1 0=true then y else x:=by
   have hP':([x,y]:List Value).toArray[argBest bt 1]?=some v:=hP;by_cases hb:bt 1 0=true
   .have e:argBest bt 1=1:=by simp[argBest,hb]
    rw[e]at hP';rw[Y8 hb];cases hP';rfl
   .have e:argBest bt 1=0:=by simp[argBest,hb]
    rw[e]at hP';rw[Yi hb];cases hP';rfl
  rw[hv];exact h h' tk hk
end
theorem u4:∀(l:List Int)(m x:Int),di m (l++[x])=if x<di m l then x else di m l
 |[],m,x=>rfl
 |y::l,m,x=>u4 l (if y<m then y else m) x
theorem qX(ns:List Int):∀k:Nat,k<ns.length->ns.getD (argBest (λi j=>decide (ns.getD i 0<ns.getD j 0)) k) 0=di (ns.getD 0 0) ((ns.drop 1).take k)
 |0,h=>rfl
 |k+1,h=>by
  have h2:=qX ns k (by omega)
  have hd:(ns.drop 1)[k]?=some (ns.getD (k+1) 0):=by rw[Uu,U8 1 k,Zm,Yk h];rfl
  have ht:(ns.drop 1).take (k+1)=(ns.drop 1).take k++[ns.getD (k+1) 0]:=by rw[Um,hd];rfl
  rw[ht,u4,<- h2];simp only[argBest];by_cases hb:ns.getD (k+1) 0<ns.getD (argBest (λi j=>decide (ns.getD i 0<ns.getD j 0)) k) 0
  .rw[Y8 (Yr hb),Y8 hb]
  .rw[Yi (by simpa using hb),Yi hb]
theorem kE:∀{vs:List Value}{ns:List Int},IntsAre vs ns->∀(i:Nat)(v:Value),vs[i]?=some v->∃t,v=.int (ns.getD i 0) t
 |_,_,.nil,i,v,h=>by simp at h
 |_,_,.cons n t r,0,v,h=>by cases h;exact⟨t,rfl⟩
 |_,_,.cons n t r,i+1,v,h=>kE r i v (by simpa using h)
def u5:Sto->List D->Option D
 |_,[.tup a,.tup b]=>match intsOf a,intsOf b with
  |some n,some m=>some (if ltZ m n=true then .tup (m.map .int) else .tup (n.map .int))
  |_,_=>none
 |_,_=>none
def qY:Sto->List D->Option D
 |S,[.tup a,.tup b]=>u5 S [.tup a,.tup b]
 |S,ds=>BK S ds
def ni:Sto->List D->Option D
 |S,[d]=>match nh S d with
  |some []=>some .non
  |some (x::a)=>match hU (x::a),intsOf (x::a) with
   |some (n::ns),_=>some (.tup ((jr n ns).map .int))
   |none,some (n::ns)=>some (.int (di n ns))
   |_,_=>none
  |none=>none
 |_,_=>none
def yy(X:Cx)(f:Value)(kw:List (Str×Value))(r:List V->Hp->VK->Prop):Prop:=
 ∀(pins:List (Addr×Obj))(s:Shared)(σ:L2.St)(H:Hp)(xs:List V)(us:List Value)(Q:VK),Inv X pins σ H s->Vals xs us->r xs H Q->
  wpAny (model X.prog X.w) X.A (call f us kw) (EP X pins σ Q) X.xe s
def D1{α:Type}{us:List α}(h:us.length=2):∃x y,us=[x,y]:=by
 rcases us with _|⟨x,_|⟨y,_|⟨z,r⟩⟩⟩
 .simp at h
 .simp at h
 .exact⟨x,y,rfl⟩
 .simp at h
section
variable{X:Cx}{E:XK}
def D2{k:Nat}(hc:X.calm=true)(hr:Room k X.A):bI X (.builtin "min") (xC X.K E u5):=by
 rintro pins s σ H xs us Q I r ⟨w,S,ds,hS,qs,p⟩;obtain⟨z,hz,p'⟩:=p.of;clear p;unfold u5 at hz;split at hz
 .rename_i a b;split at hz
  .rename_i n m e1 e2;cases hz
   have e:hU [.tup a,.tup b]=some [n,m]:=by simp only[hU,e1,e2]
   obtain⟨t,g⟩:=oR I qs r e;obtain⟨x,y,rfl⟩:∃x y,us=[x,y]:=D1 t.1
   refine BL (I.ok.hd hc) (qV t (by have:=hr.un;show X.A.units+1<cLine;omega)) λh' tk hk=>?_
   have e0:ltZ (([n,m]:List (List Int)).getD 1 []) (([n,m]:List (List Int)).getD 0 [])=ltZ m n:=rfl;rw[e0];by_cases hb:ltZ m n=true
   .rw[Y8 hb]at p' ⊢;obtain⟨v,rv,rd⟩:=g 1 y rfl;exact⟨v,H,I.kept (t':=tk) hk,rv,p'.ret rd hS⟩
   .rw[Yi hb]at p' ⊢;obtain⟨v,rv,rd⟩:=g 0 x rfl;exact⟨v,H,I.kept (t':=tk) hk,rv,p'.ret rd hS⟩
  .cases hz
 .cases hz
def D3{k:Nat}(hc:X.calm=true)(hr:Room k X.A):bI X (.builtin "min") (xC X.K E qY):=Fj (D2 hc hr) (DZ hc) λS ds=>by
 unfold qY;split
 .exact .inl rfl
 .exact .inr rfl
def yz{k:Nat}(hc:X.calm=true)(hr:Room k X.A):yy X (.builtin "min") [("default",.none)] (xC X.K E ni):=by
 rintro pins s σ H xs us Q I r ⟨w,S,ds,hS,qs,p⟩;obtain⟨z,hz,p'⟩:=p.of;clear p;unfold ni at hz;split at hz
 .rename_i d;obtain⟨v,rfl,q⟩:=qs.one_inv;obtain⟨u,rfl,rx⟩:=Wb r;split at hz
  .rename_i ha;cases hz;obtain⟨pa,vs,rfl,sq,ra⟩:=oP hS q ha;cases rx;obtain⟨its,r',pl,_⟩:=I.list sq;rw[ra.nil_inv]at r';cases r'
   exact xh (I.ok.hd hc) pl.isList λh' tk hk=>⟨.non,H,I.kept (t':=tk) hk,rfl,p'.ret (by unfold RD;rfl) hS⟩
  .rename_i x a ha;obtain⟨pa,vs,rfl,sq,ra⟩:=oP hS q ha;cases rx;obtain⟨its,r',pl,_⟩:=I.list sq;split at hz
   .rename_i n ns e;cases hz;obtain⟨t,g⟩:=oR I ra r' e
    have hl:its.length=ns.length+1:=by rw[t.1];rfl
    refine qW (df:=some .none) (I.ok.hd hc) pl.isList (by omega) (mE _ _) rfl (qV t (by have:=hr.un;show X.A.units+1<cLine;omega)) λv h' tk hv hk=>?_
    obtain⟨y,ry,rd⟩:=g _ v hv
    obtain⟨_,b2⟩:=qT (n::ns) (its.length-1) (by rw[hl];exact Zx _)
    have b3:jr ((n::ns).getD 0 []) (((n::ns).drop 1).take (its.length-1))=jr n ns:=by rw[hl];show jr n (ns.take ns.length)=jr n ns;rw[Va]
    rw[b2,b3]at rd;exact⟨y,H,I.kept (t':=tk) hk,ry,p'.ret rd hS⟩
   .rename_i n ns _ e;cases hz;have ia:=iq ra r' e;have hl:its.length=(n::ns).length:=ia.length
    have hcmp:zV X.prog X.w X.A.in1 s.heap (λi v=>its.toArray[i]?=some v) (λi j=>decide ((n::ns).getD i 0<(n::ns).getD j 0)):=by
     intro i j vi vj s1 Q1 E1 hk hi hj h
     obtain⟨t1,rfl⟩:=kE ia i vi (by simpa using hi)
     obtain⟨t2,rfl⟩:=kE ia j vj (by simpa using hj)
     exact yw X.prog X.w h
    refine qW (df:=some .none) (I.ok.hd hc) pl.isList (by rw[hl];exact Ue _) (mE _ _) rfl hcmp λv h' tk hv hk=>?_
    obtain⟨t1,rfl⟩:=kE ia _ v hv
    have b:=qX (n::ns) (its.length-1) (by rw[hl];exact Zx _)
    have b3:di ((n::ns).getD 0 0) (((n::ns).drop 1).take (its.length-1))=di n ns:=by rw[hl];show di n (ns.take ns.length)=di n ns;rw[Va]
    rw[b3]at b;refine⟨.int (di n ns),H,I.kept (t':=tk) hk,⟨t1,?_⟩,p'.ret RD.mkI hS⟩;rw[b]
   .cases hz
  .cases hz
 .cases hz
variable{a:Expr}{ms:AM}{x:Str}{p pos kp:Pos}{id:String}{nm:Str}
def zY{r:List V->Hp->VK->Prop}{t:TA}{j:Nat}{cp:Pos}(hc:yy X (.builtin id) [(nm,.none)] r)(hg:Gl X x)(hm:X.mg x=none)(hv:bootBuiltins x=some (.builtin id))(ha:PA X [a] t)(hn:autoParam (x ≠ "__name__") zz2._auto_1)(hdb:autoParam ((x == ("__debug__":Str))=false) zz2._auto_1)
  (he:autoParam (backTo pos (starEach [a] X.env)=(false,eval a X.env)::backTo pos (starEach [] X.env)) zz1._auto_1) (hpl:autoParam ((backTo pos (starEach [a] X.env)).any (·.1)=false) zz1._auto_1):PE X (.Call (.Name x p) [a] [⟨some nm,.Constant .none j cp,kp⟩] pos) (tCB r t):=by
 intro pins s σ H Q I h;refine Wx (lW I hg hm hv ?_ hn hdb);refine callWith_kw (thn (ha pos pins s σ H _ I h) λus s1 zq=>ex5 zq λvs H1 I1 r1 q1=>kws_cons ?_) he hpl;exact Constant_none (kws_nil (hc pins s1 σ H1 vs us Q I1 r1 q1))
def mF{f:Sto->List D->Option D}{j:Nat}{cp:Pos}(hc:yy X (.builtin id) [(nm,.none)] (xC X.K E f))(hg:Gl X x)(hm:X.mg x=none)(hv:bootBuiltins x=some (.builtin id))(ha:SA X E [a] ms)(hn:autoParam (x ≠ "__name__") zz3._auto_1)(hdb:autoParam ((x == ("__debug__":Str))=false) zz3._auto_1)
  (he:autoParam (backTo pos (starEach [a] X.env)=(false,eval a X.env)::backTo pos (starEach [] X.env)) zz0._auto_1) (hpl:autoParam ((backTo pos (starEach [a] X.env)).any (·.1)=false) zz0._auto_1):SE X E (.Call (.Name x p) [a] [⟨some nm,.Constant .none j cp,kp⟩] pos) (eB f ms):=⟨
 bb (zY hc hg hm hv ha.out hn hdb he hpl) λs H Q zq=>ex6 zq λw r S hr hS hp=>⟨w,r,S,hr,hS,hp.bind hS λds S1 w1 H1 vs x1 q1 s1 p1=>⟨w1,S1,ds,s1,q1,p1⟩⟩⟩
end
end PD
namespace SQ
open PySem PySem.Spec PyProof.Rows
section
variable{prog:Program}{w:World}{A:Around}{E:Value->Shared->Prop}{s:Shared}
def qi{h:Heap}{a:Addr}{vs:List Value}{n:Nat}{out:Array Value}(ho:h.get? a=some (seqObj "list" vs.toArray n)):(∃n',(sortedHeap h a vs out).get? a=some (seqObj "list" out n'))/\∀b o,b≠a->h.get? b=some o->(sortedHeap h a vs out).get? b=some o:=by
 unfold sortedHeap;obtain⟨k,g⟩:∃k,(h.update a (Obj.mapSeq λ_=>#[])).get? a=some (seqObj "list" #[] k):=⟨_,get?_update_seq ho _⟩
 refine⟨⟨_,get?_update_seq (Y7 _ (Y7 _ g)) _⟩,λb o hb e=>?_⟩;exact((Wu ..).2 b hb).trans (Y7 _ (Y7 _ (((Wu ..).2 b hb).trans e)))
def nj{s:Shared}{vs:List Value}{ns:List Int}{Q:Value->Shared->Prop}(hI:IntsAre vs ns)(hz:vs.length<64)
  (h:∀(h':Heap)(out:Array Value)(ns':List Int)(n:Nat),(∀b o,s.heap.get? b=some o->h'.get? b=some o)->h'.get? s.heap.objs.size=some (seqObj "list" out n)->IntsAre out.toList ns'->ns'.Perm ns->ns'.Pairwise (· <= ·)->Q (.ref s.heap.objs.size) { s with heap:=h' }):
  wpAny (model prog w) A (do
   let l <- newList vs
   let _ <- holding [l] (call (.builtin "list.sort") [l] [])
   ret l) (λfin s'=>∃v,fin=.done (.ret v)/\Q v s') E s:=by
 refine Y6 (K1 ?_ (by rw[Wq];omega))
 have g:(s.heap.push (seqObj "list" vs.toArray 0)).get? s.heap.objs.size=some (seqObj "list" vs.toArray 0):=Yg _ rfl
 refine Y6 (Qr (Qk slot_list_sort ⟨_,g,rfl⟩ entry_list_sort (list_sort_tree g hI hz λout ns' a1 a2 a3=>⟨_,rfl,?_⟩) (args_list_sort _)));obtain⟨⟨n,g1⟩,g2⟩:=qi (out:=out) g;exact Ye ⟨_,rfl,h _ out ns' n (λb o e=>g2 b o (Yt (Yn e)) (Y7 _ e)) g1 a1 a2 a3⟩
def sorted_seq{k:Bool}{l:Addr}{vs:List Value}{ns:List Int}{Q:Value->Shared->Prop}(hl:Is k s.heap l vs.toArray)(hI:IntsAre vs ns)(hz:vs.length<64)
  (h:∀(a:Addr)(h':Heap)(out:Array Value)(ns':List Int)(n:Nat),s.heap.objs.size<=a->(∀b o,s.heap.get? b=some o->h'.get? b=some o)->h'.get? a=some (seqObj "list" out n)->IntsAre out.toList ns'->ns'.Perm ns->ns'.Pairwise (· <= ·)->Q (.ref a) { s with heap:=h' }):
  wpAny (model prog w) A (call (.builtin "sorted") [.ref l]) Q E s:=by
 refine Calls.call_function_entry kind_sorted plain_sorted entry_sorted (args_sorted1 _) ?_;unfold Builtin.«sorted»;refine Y6 (m:=checkCount "sorted" 1 1 _) (Ye ?_)
 refine Y6 (collects hl ?_ (by rw[Wq];omega))
 have kp:∀b o,s.heap.get? b=some o->((s.heap.push (seqObj "list" #[] 0)).update s.heap.objs.size (Obj.mapSeq (· ++ vs.toArray))).get? b=some o:=λb o e=>
  ((Wu ..).2 b (Yt (Yn e))).trans (Y7 _ e)
 refine nj (s:={ s with heap:=(s.heap.push (seqObj "list" #[] 0)).update s.heap.objs.size (Obj.mapSeq (· ++ vs.toArray)) }) hI hz λh' out ns' n k1 k2 a1 a2 a3=>h _ h' out ns' n ?_ (λb o e=>k1 b o (kp b o e)) k2 a1 a2 a3
 show s.heap.objs.size<=((s.heap.push (seqObj "list" #[] 0)).update s.heap.objs.size (Obj.mapSeq (· ++ vs.toArray))).objs.size
 rw[Heap.size_update,size_push'];exact Wp _
def sorted_src{T:String}{r d:Addr}{n:Nat}{P:Nat->Value->Prop}{OK:Heap->Prop}{ns:List Int}{Q:Value->Shared->Prop}(K:KdlSrc prog w T r d n P OK)(hh:A.handled=none)(hok:OK s.heap)(hn:n<64)
  (hI:∀vs:List Value,vs.length=n->(∀j v,vs[j]?=some v->P j v)->IntsAre vs ns)
  (h:∀(h1:Heap)(tk:Nat),(∀b o,s.heap.get? b=some o->h1.get? b=some o)->∀(h2:Heap)(out:Array Value)(ns':List Int)(n:Nat),(∀b o,h1.get? b=some o->h2.get? b=some o)->h2.get? h1.objs.size=some (seqObj "list" out n)->IntsAre out.toList ns'->ns'.Perm ns->ns'.Pairwise (· <= ·)->Q (.ref h1.objs.size) { s with heap:=h2,toks:=tk }):
  wpAny (model prog w) A (call (.builtin "sorted") [.ref r]) Q E s:=by
 refine Calls.call_function_entry kind_sorted plain_sorted entry_sorted (args_sorted1 _) ?_;unfold Builtin.«sorted»;refine Y6 (m:=checkCount "sorted" 1 1 _) (Ye ?_)
 refine Y6 (kdu_collect (A:=A.in1) K hh hok (by rw[Wq];omega) λh' tk acc hk hacc=>?_)
 have hl:acc.toList.length=n:=by rw[W3];exact hacc.1
 have hi:=hI acc.toList hl λj v e=>hacc.2 j v (by rw[<- U1];exact e)
 refine nj (s:={ s with heap:=h',toks:=tk }) hi (by omega) λh2 out ns' n k1 k2 a1 a2 a3=>h h' tk hk h2 out ns' n k1 k2 a1 a2 a3
end
end SQ
namespace PD
open PySem PySem.Spec PyProof.Rows L2
variable{s:Shared}
def ir:List (KD×D)->Option (List Int)
 |[]=>some []
 |(.inl i,_)::r=>(ir r).map (i :: ·)
 |_=>none
def nk(S:Sto)(d:D):Option (List Int):=match bN S d with
 |some a=>intsOf a
 |none=>match bS S d with
  |some kvs=>ir kvs
  |none=>none
def u6:Sto->List D->Option D
 |S,[d]=>match nk S d with
  |some ns=>if ns.length<64 then some (.lst ((gu ns).map .int)) else none
  |none=>none
 |_,_=>none
section
variable{X:Cx}{E:XK}
theorem qZ:∀{kvs:List (KD×D)}{ns:List Int},ir kvs=some ns->ns.length=kvs.length
 |[],_,h=>by unfold ir at h;cases h;rfl
 |(.inl i,_)::r,ns,h=>by
  unfold ir at h;cases e:ir r with
  |none=>rw[e]at h;cases h
  |some m=>rw[e]at h;cases h;simp[qZ e]
 |(.inr i,_)::r,ns,h=>by unfold ir at h;cases h
theorem u7:∀{kvs:List (KD×D)}{ns:List Int},ir kvs=some ns->∀(j:Nat)(k:KD)(d:D),kvs[j]?=some (k,d)->∃i,ns[j]?=some i/\k=.inl i
 |[],_,h,j,k,d,e=>by simp at e
 |(.inl i,x)::r,ns,h,j,k,d,e=>by
  unfold ir at h;cases e':ir r with
  |none=>rw[e']at h;cases h
  |some m=>
   rw[e']at h;cases h;cases j with
   |zero=>simp at e;exact⟨i,rfl,e.1.symm⟩
   |succ j=>exact u7 e' j k d (by simpa using e)
 |(.inr i,_)::r,ns,h,j,k,d,e=>by unfold ir at h;cases h
theorem oS:∀(vs:List Value)(ns:List Int),vs.length=ns.length->(∀(j:Nat)(v:Value),vs[j]?=some v->∃i t,ns[j]?=some i/\v=.int i t)->IntsAre vs ns
 |[],[],_,_=>.nil
 |v::vs,n::ns,hl,h=>by
  obtain⟨i,t,e,rfl⟩:=h 0 v rfl;cases e
  exact .cons _ _ (oS vs ns (by simpa using hl) λj v e=>h (j+1) v (by simpa using e))
 |[],_::_,hl,_=>by simp at hl
 |_::_,[],hl,_=>by simp at hl
theorem RDk.at{K:Frag}{w:Wd}{H:Hp}:∀{ds:List (KD×D)}{us:List (Key×V)},RDk K w H ds us->∀(j:Nat)(k:Key)(v:V),us[j]?=some (k,v)->∃d,ds[j]?=some (k,d)
 |[],_,h,j,k,v,e=>by rw[h.nil_inv]at e;simp at e
 |(k0,d)::ds,_,h,j,k,v,e=>by
  obtain⟨v0,r,rfl,_,t⟩:=h.cons_inv;cases j with
  |zero=>simp at e;exact⟨d,by simp[e.1]⟩
  |succ j=>exact t.at j k v (by simpa using e)
def BM(hc:X.calm=true):bI X (.builtin "sorted") (xC X.K E u6):=by
 rintro pins s σ H xs us Q I r ⟨w,S,ds,hS,qs,p⟩;obtain⟨z,hz,p'⟩:=p.of;clear p;unfold u6 at hz;split at hz
 .rename_i d;obtain⟨v,rfl,q⟩:=qs.one_inv;split at hz
  .rename_i ns hns;split at hz
   .rename_i hlt;cases hz
    -- the list that comes
    have last:∀(s1:Shared)(a:Addr)(h2:Heap)(tk:Nat)(out:Array Value)(ns':List Int)(n:Nat),Inv X pins σ H s1->s1.heap.objs.size<=a->(∀b o,s1.heap.get? b=some o->h2.get? b=some o)->h2.get? a=some (seqObj "list" out n)->IntsAre out.toList ns'->ns'.Perm ns->ns'.Pairwise (· <= ·)->EP X pins σ Q (.ref a) { s1 with heap:=h2,toks:=tk }:=λs1 a h2 tk out ns' n I1 la k1 k2 a1 a2 a3=>by
     have en:ns'=gu ns:=ng (a2.trans (fq ns).symm) a3 (dN ns);subst en;have hf:H a=none:=I1.hok.fresh la
     have hz:((gu ns).map V.int).length<=sizeLine:=by rw[Yh,(fq ns).length_eq,Wq];omega
     refine⟨.ref a,_,I1.laid (t':=tk) (a:=a) (o:=.lst ((gu ns).map V.int)) k1 la ⟨hz,out.toList,n,yq a1,by rw[Array.toArray_toList];exact k2⟩,rfl,?_⟩
     exact p'.at (Ext.new hf) (RD.newLst hS hf (uY _)) (hS.new hf)
    unfold nk at hns;split at hns
    .rename_i a ha;obtain⟨pa,vs,rfl,sq,ra⟩:=mw hS q ha;obtain⟨u,rfl,rx⟩:=Wb r;cases rx
     have main:∀(k:Bool)(its:List Value),Vals vs its->SQ.Is k s.heap pa its.toArray->wpAny (model X.prog X.w) X.A (call (.builtin "sorted") [.ref pa]) (EP X pins σ Q) X.xe s:=λk its rv pl=>by
      have hI:=iq ra rv hns;have hl:its.length=ns.length:=hI.length
      exact SQ.sorted_seq pl hI (by omega) λa h' out ns' n la k1 k2 a1 a2 a3=>last s a h' s.toks out ns' n I la k1 k2 a1 a2 a3
     rcases sq with hq|hq
     .obtain⟨its,r',pl,hz⟩:=I.list hq;exact main false its r' pl.isList
     .obtain⟨its,r',pl,hz⟩:=I.tuple hq;exact main true its r' pl
    .split at hns
     .rename_i kvs hd;obtain⟨pp,us',rfl,rd,rk⟩:=kB hS q hd;obtain⟨u,rfl,rx⟩:=Wb r;cases rx;obtain⟨hl,hm,vs,rel,dd⟩:=jj I.hok rd;obtain⟨ep,hat⟩:=dd.dictAt;have e1:=rel.length;have e2:=rk.length;have e3:=qZ hns
      refine SQ.sorted_src (ns:=ns) (kdl_dict (knd:=bf X.prog X.w) (kvs:=vs) (ep:=ep) hm) (I.ok.hd hc) hat (by omega) (λws hw hv=>?_) λh1 tk hk h2 out ns' n k1 k2 a1 a2 a3=>?_
      .refine oS ws ns (by omega) λj u hu=>?_
       obtain⟨k,x,hx,hkey⟩:=hv j u hu
       obtain⟨y,hy⟩:∃y,us'[j]?=some (k,y):=by
        have e:=Q8 (λl:List Key=>l[j]?) rel.keys;simp only[Q2,hx,Zv]at e;cases hu':us'[j]? with
        |none=>rw[hu']at e;cases e
        |some q=>rw[hu']at e;cases e;exact⟨q.2,rfl⟩
       obtain⟨d',hd'⟩:=rk.at j k y hy;obtain⟨i,hi,rfl⟩:=u7 hns j k d' hd';have:=oO hkey;obtain⟨t,rfl⟩:∃t,u=.int i t:=this;exact⟨i,t,hi,rfl⟩
      .exact last { s with heap:=h1,toks:=tk } _ h2 tk out ns' n (I.kept (t':=tk) hk) (Yd _) k1 k2 a1 a2 a3
     .cases hns
   .cases hz
  .cases hz
 .cases hz
end
def yA(prog:Program)(w:World)(A:Around)(h0:Heap)(P:Nat->Value->Prop)(bt:Nat->Nat->Bool):Prop:=
 ∀(i j:Nat)(vi vj:Value)(s:Shared)(Q:Value->Shared->Prop)(E:Value->Shared->Prop),(∀b o,h0.get? b=some o->s.heap.get? b=some o)->P i vi->P j vj->Q (.bool (bt i j)) s->wpAny (model prog w) A (richCompare .Gt vi vj) Q E s
section
variable{prog:Program}{w:World}{A:Around}{R:Result->Shared->Prop}{I:Addr}{fp wr:List Addr}{n:Nat}{P:Nat->Value->Prop}{St:Nat->Heap->Prop}{h0:Heap}{bt:Nat->Nat->Bool}{S:Addr}{kw:List (Str×Value)}
theorem zZ(W:Walks prog w A.in1 I fp wr n P St)(hcmp:yA prog w A.in1 h0 P bt)(hSf:S∉fp)(hw:∀b∈wr,h0.get? b=none)(hS0:h0.get? S=none):
  ∀(k j:Nat)(s:Shared)(vb:Value)(c:Nat),n-(j+1)=k->j+1<=n->St (j+1) s.heap->P (argBest bt j) vb->s.heap.get? S=some (qS #[vb,vb] c)->(∀b o,h0.get? b=some o->s.heap.get? b=some o)->
  (∀v h' tk,P (argBest bt (n-1)) v->(∀b o,h0.get? b=some o->h'.get? b=some o)->R (.ok (.ret v)) { s with heap:=h',toks:=tk })->
  codeAny (model prog w) A (.builtin "max.loop" ⟨[.ref I,.none,.ref S],kw⟩) R s:=by
 have hSw:S∉wr:=λh=>hSf (W.sub _ h)
 have nw:∀{b:Addr}{o:Obj},h0.get? b=some o->b∉wr:=λe h=>by rw[hw _ h]at e;cases e
 have nS:∀{b:Addr}{o:Obj},h0.get? b=some o->S≠b:=λe h=>by rw[<- h,hS0]at e;cases e
 have hname:(toString "max" ++ toString ".loop":String) = "max.loop":=by decide
 intro k
 induction k with
 |zero=>
  intro j s vb c hk hj hst hPb hS hkp hR
  have hin:j+1=n:=by omega
  refine Q4 Vx ?_;rw[Zr Qo _];show wpAny _ A.in1 (seqItems? (.ref S) >>= _) _ _ s;refine Y6 (Zg hS rfl ?_);show wpAny _ A.in1 (tryCatch (pyNext (.ref I)) _ >>= _) _ _ s;refine Y6 (Qw (W.done s _ _ (hin▸hst) λh' tk hk'=>?_));show wpAny _ A.in1 (updateSeq S (λ_=>#[]) >>= _) _ _ _;refine Y6 ?_;refine V1 (hk' S _ hSw hS) rfl (Y6 (W9 (Ye ?_)))
  exact hR vb _ tk (by rw[<- hin];exact hPb) λb o e=>(Z7 _ _ (nS e)).trans (hk' b o (nw e) (hkp b o e))
 |succ k ih=>
  intro j s vb c hk hj hst hPb hS hkp hR
  have hlt:j+1<n:=by omega
  refine Q4 Vx ?_;rw[Zr Qo _];show wpAny _ A.in1 (seqItems? (.ref S) >>= _) _ _ s;refine Y6 (Zg hS rfl ?_);show wpAny _ A.in1 (tryCatch (pyNext (.ref I)) _ >>= _) _ _ s;refine Y6 (Qw (W.item (j+1) s _ _ hlt hst λv h' tk hP hst' hk'=>?_));have hS':=hk' S _ hSw hS;have hkp':∀b o,h0.get? b=some o->h'.get? b=some o:=λb o e=>hk' b o (nw e) (hkp b o e);show wpAny _ A.in1 (tryCatch (holding [v,v] (richCompare .Gt v vb >>= _)) _ >>= _) _ _ _;refine Y6 (Qw (Qr (Y6 (hcmp (j+1) (argBest bt j) v vb _ _ _ hkp' hP hPb ?_))));refine Y6 (Qr (Qc ?_));refine Y6 (W9 (Ye ?_));cases hb:bt (j+1) (argBest bt j) with
  |true=>
   simp only[Zj];refine Y6 ?_;refine V1 hS' rfl (Y6 (W9 ?_));rw[hname]
   refine Ye ⟨Qt Qo _,ih (j+1) _ v _ (by omega) hlt (W.frame _ _ _ hst' λb hbf o e=>(Z7 _ _ (λh:S=b=>hSf (by rw[h];exact hbf))).trans e) (by simp only[argBest,hb,Zj];exact hP) (Qi _ hS' rfl)
    (λb o e=>(Z7 _ _ (nS e)).trans (hkp' b o e)) λv' h'' tk'' hP' hk''=>hR v' h'' tk'' hP' hk''⟩
  |false=>
   simp only[Ze,Qy];refine Y6 (W9 ?_);rw[hname]
   exact Ye ⟨Qt Qo _,ih (j+1) _ vb c (by omega) hlt hst' (by simp only[argBest,hb,Ze,Qy];exact hPb) hS' hkp' λv' h'' tk'' hP' hk''=>hR v' h'' tk'' hP' hk''⟩
def xi(W:Walks prog w A.in1 I fp wr n P St)(hcmp:yA prog w A.in1 h0 P bt)(hSf:S∉fp)(hw:∀b∈wr,h0.get? b=none)(hS0:h0.get? S=none)(hn:0<n){c:Nat}(hst:St 0 s.heap)
  (hS:s.heap.get? S=some (qS #[] c)) (hkp:∀b o,h0.get? b=some o->s.heap.get? b=some o)
  (hR:∀v h' tk,P (argBest bt (n-1)) v->(∀b o,h0.get? b=some o->h'.get? b=some o)->R (.ok (.ret v)) { s with heap:=h',toks:=tk }):
  codeAny (model prog w) A (.builtin "max.loop" ⟨[.ref I,.none,.ref S],kw⟩) R s:=by
 have hSw:S∉wr:=λh=>hSf (W.sub _ h)
 have nw:∀{b:Addr}{o:Obj},h0.get? b=some o->b∉wr:=λe h=>by rw[hw _ h]at e;cases e
 have nS:∀{b:Addr}{o:Obj},h0.get? b=some o->S≠b:=λe h=>by rw[<- h,hS0]at e;cases e
 have hname:(toString "max" ++ toString ".loop":String) = "max.loop":=by decide
 refine Q4 Vx ?_;rw[Zr Qo _];show wpAny _ A.in1 (seqItems? (.ref S) >>= _) _ _ s;refine Y6 (Zg hS rfl ?_);show wpAny _ A.in1 (tryCatch (pyNext (.ref I)) _ >>= _) _ _ s;refine Y6 (Qw (W.item 0 s _ _ hn hst λv h' tk hP hst' hk'=>?_));have hS':=hk' S _ hSw hS;have hkp':∀b o,h0.get? b=some o->h'.get? b=some o:=λb o e=>hk' b o (nw e) (hkp b o e);show wpAny _ A.in1 (updateSeq S (λ_=>#[v,v]) >>= _) _ _ _;refine Y6 ?_;refine V1 hS' rfl ?_;rw[hname]
 exact Ye ⟨Qt Qo _,zZ W hcmp hSf hw hS0 _ 0 _ v _ rfl hn (W.frame _ _ _ hst' λb hbf o e=>(Z7 _ _ (λh:S=b=>hSf (by rw[h];exact hbf))).trans e) hP (Qi _ hS' rfl)
  (λb o e=>(Z7 _ _ (nS e)).trans (hkp' b o e)) λv' h'' tk'' hP' hk''=>hR v' h'' tk'' hP' hk''⟩
def z7{d:Value}{nm:Str}(W:Walks prog w A.in1 I fp wr 0 P St)(hSf:S∉fp){c:Nat}(hst:St 0 s.heap)(hS:s.heap.get? S=some (qS #[] c))
  (hR:∀h' tk,(∀b o,b∉wr->s.heap.get? b=some o->h'.get? b=some o)->R (.ok (.ret d)) { s with heap:=h',toks:=tk }):
  codeAny (model prog w) A (.builtin "max.loop" ⟨[.ref I,.none,.ref S],[(nm,d)]⟩) R s:=by
 refine Q4 Vx ?_;rw[Zr Qo _];show wpAny _ A.in1 (seqItems? (.ref S) >>= _) _ _ s;refine Y6 (Zg hS rfl ?_);show wpAny _ A.in1 (tryCatch (pyNext (.ref I)) _ >>= _) _ _ s;refine Y6 (Qw (W.done s _ _ hst λh' tk hk'=>?_));show wpAny _ A.in1 (rule _ >>= _) _ _ _;refine Y6 (Wa (Ye ?_));exact hR h' tk hk'
def rg(a d:Value):argsOk "max" ⟨[a],[("default",d)]⟩:=by unfold argsOk;kernel_rfl
end
section
variable{prog:Program}{w:World}{A:Around}{E:Value->Shared->Prop}{s:Shared}
def z8{l:Addr}{us:List Value}{bt:Nat->Nat->Bool}{kw:List (Str×Value)}{df:Option Value}{Q:Value->Shared->Prop}(hh:A.handled=none)(hl:s.heap.IsList l us.toArray)(hne:0<us.length)
  (ha:argsOk "max" ⟨[.ref l],kw⟩) (hb:Builtin.Builtins.bindParams "max" ["key","default"] 0 ⟨[],kw⟩=pure [none,df])
  (hcmp:yA prog w A.in1 s.heap (λi v=>us.toArray[i]?=some v) bt)
  (h:∀v h' tk,us[argBest bt (us.length-1)]?=some v->(∀b o,s.heap.get? b=some o->h'.get? b=some o)->Q v { s with heap:=h',toks:=tk }):
  wpAny (model prog w) A (call (.builtin "max") [.ref l] kw) Q E s:=by
 have hname:(toString "max" ++ toString ".loop":String) = "max.loop":=by decide
 have hlt:l<s.heap.objs.size:=by obtain⟨_,e,_⟩:=hl;exact Yn e
 refine ly F.kind_max F.plain_max F.entry_max ha ?_;show wpAny _ A.in1 (Builtin.Builtins.bindParams "max" ["key","default"] 0 ⟨[],kw⟩ >>= _) _ _ s
 refine Y6 (Vf hb ?_);refine Y6 (Ye ?_);refine Y6 (Qd hl ?_);refine Y6 (Zd ?_);have hsz:(s.heap.push { cls:=.type "list_iterator",data:=.fields #[.ref l,.int 0 0] }).objs.size=s.heap.objs.size+1:=Z5 ..
 have W:=Ub (prog:=prog) (w:=w) (A:=A.in1) hh s.heap.objs.size l (Yt hlt) us.toArray
 have hSf:s.heap.objs.size+1∉[s.heap.objs.size,l]:=λhm=>by
  rcases Yc.mp hm with e|hm
  .exact absurd e (Vb _)
  .rcases Yc.mp hm with e|hm
   .exact Qb _ (Vs (e▸hlt:s.heap.objs.size+1<s.heap.objs.size))
   .cases hm
 rw[hname];refine Ye ⟨Qt Qo _,?_⟩;show codeAny _ A (.builtin "max.loop" ⟨[.ref s.heap.objs.size,.none,.ref (s.heap.push _).objs.size],_⟩) _ _
 rw[hsz]
 refine xi (h0:=s.heap) W hcmp hSf (λb hb=>?_) (Qu (Wp _)) (by simpa using hne) (W.frame _ _ _ ⟨⟨_,Yg _ rfl,rfl,rfl⟩,hl.push _⟩ λb _ o e=>Y7 _ e) (by rw[<- hsz];exact Yg _ rfl)
  (λb o e=>Y7 _ (Y7 _ e)) λv h' tk hP hk=>h v h' tk (by simpa using hP) hk
 .simp at hb;rw[hb];exact Qu (Yd _)
def xj{l:Addr}{d:Value}{Q:Value->Shared->Prop}(hh:A.handled=none)(hl:s.heap.IsList l #[])
  (h:∀h' tk,(∀b o,s.heap.get? b=some o->h'.get? b=some o)->Q d { s with heap:=h',toks:=tk }):
  wpAny (model prog w) A (call (.builtin "max") [.ref l] [("default",d)]) Q E s:=by
 have hname:(toString "max" ++ toString ".loop":String) = "max.loop":=by decide
 have hlt:l<s.heap.objs.size:=by obtain⟨_,e,_⟩:=hl;exact Yn e
 refine ly F.kind_max F.plain_max F.entry_max (rg _ _) ?_;show wpAny _ A.in1 (Builtin.Builtins.bindParams "max" ["key","default"] 0 ⟨[],[("default",d)]⟩ >>= _) _ _ s
 refine Y6 (Vf (show Builtin.Builtins.bindParams "max" ["key","default"] 0 ⟨[],[("default",d)]⟩=pure [none,some d] from rfl) ?_)
 refine Y6 (Ye ?_);refine Y6 (Qd hl ?_);refine Y6 (Zd ?_);have hsz:(s.heap.push { cls:=.type "list_iterator",data:=.fields #[.ref l,.int 0 0] }).objs.size=s.heap.objs.size+1:=Z5 ..
 have W:=Ub (prog:=prog) (w:=w) (A:=A.in1) hh s.heap.objs.size l (Yt hlt) #[]
 have hSf:s.heap.objs.size+1∉[s.heap.objs.size,l]:=λhm=>by
  rcases Yc.mp hm with e|hm
  .exact absurd e (Vb _)
  .rcases Yc.mp hm with e|hm
   .exact Qb _ (Vs (e▸hlt:s.heap.objs.size+1<s.heap.objs.size))
   .cases hm
 rw[hname];refine Ye ⟨Qt Qo _,?_⟩;show codeAny _ A (.builtin "max.loop" ⟨[.ref s.heap.objs.size,.none,.ref (s.heap.push _).objs.size],[("default",d)]⟩) _ _
 rw[hsz]
 refine z7 W hSf (W.frame _ _ _ ⟨⟨_,Yg _ rfl,rfl,rfl⟩,hl.push _⟩ λb _ o e=>Y7 _ e) (by rw[<- hsz];exact Yg _ rfl) λh' tk hk=>h h' tk λb o e=>hk b o (λhm=>?_) (Y7 _ (Y7 _ e))
 simp at hm;exact absurd (hm▸Yn e) (Qb _)
end
def D4{A:Around}{a b:Int}{t u:Tok}(prog:Program)(w:World){E:Value->Shared->Prop}{Q:Value->Shared->Prop}(h:Q (.bool (decide (b<a))) s):wpAny (model prog w) A (richCompare .Gt (.int a t) (.int b u)) Q E s:=
 richCompare_gives (op:=.Gt) (Wz s _ t) (Wz s _ u) F.slot_int_gt F.entry_int_gt (F.args_int_gt_2 _ _) (gives_int_gt _ _ t u) (λx=>nomatch x) h
def gH:Int->List Int->Int
 |m,[]=>m
 |m,x::r=>gH (if m<x then x else m) r
theorem sY:∀(l:List Int)(m:Int),(m<=gH m l/\∀x∈l,x<=gH m l)/\(gH m l=m\/gH m l∈l)
 |[],m=>⟨⟨Mb _,λx h=>nomatch h⟩,.inl rfl⟩
 |x::r,m=>by
  obtain⟨⟨h1,h2⟩,h3⟩:=sY r (if m<x then x else m)
  show(m<=gH (if m<x then x else m) r/\∀y∈x::r,y<=gH (if m<x then x else m) r)/\(gH (if m<x then x else m) r=m\/gH (if m<x then x else m) r∈x::r)
  generalize gH (if m<x then x else m) r=z at *
  by_cases hx:m<x
  .rw[Y8 hx]at h1 h3
   refine⟨⟨by omega,λy hy=>?_⟩,.inr ?_⟩
   .rcases Yc.mp hy with e|hy
    .rw[e];exact h1
    .exact h2 y hy
   .rcases h3 with e|h3
    .rw[e];exact .head _
    .exact .tail _ h3
  .rw[Yi hx]at h1 h3;refine⟨⟨h1,λy hy=>?_⟩,?_⟩
   .rcases Yc.mp hy with e|hy
    .rw[e];omega
    .exact h2 y hy
   .rcases h3 with e|h3
    .exact .inl e
    .exact .inr (.tail _ h3)
theorem u9:∀(l:List Int)(m x:Int),gH m (l++[x])=if gH m l<x then x else gH m l
 |[],m,x=>rfl
 |y::l,m,x=>u9 l (if m<y then y else m) x
theorem rh(ns:List Int):∀k:Nat,k<ns.length->ns.getD (argBest (λi j=>decide (ns.getD j 0<ns.getD i 0)) k) 0=gH (ns.getD 0 0) ((ns.drop 1).take k)
 |0,h=>rfl
 |k+1,h=>by
  have h2:=rh ns k (by omega)
  have hd:(ns.drop 1)[k]?=some (ns.getD (k+1) 0):=by rw[Uu,U8 1 k,Zm,Yk h];rfl
  have ht:(ns.drop 1).take (k+1)=(ns.drop 1).take k++[ns.getD (k+1) 0]:=by rw[Um,hd];rfl
  rw[ht,u9,<- h2];simp only[argBest];by_cases hb:ns.getD (argBest (λi j=>decide (ns.getD j 0<ns.getD i 0)) k) 0<ns.getD (k+1) 0
  .rw[Y8 (Yr hb),Y8 hb]
  .rw[Yi (by simpa using hb),Yi hb]
def vc:Sto->List D->Option D
 |S,[d]=>match nh S d with
  |some []=>some .non
  |some (x::a)=>match intsOf (x::a) with
   |some (n::ns)=>some (.int (gH n ns))
   |_=>none
  |none=>none
 |_,_=>none
section
variable{X:Cx}{E:XK}
def D5{k:Nat}(hc:X.calm=true)(hr:Room k X.A):yy X (.builtin "max") [("default",.none)] (xC X.K E vc):=by
 rintro pins s σ H xs us Q I r ⟨w,S,ds,hS,qs,p⟩;obtain⟨z,hz,p'⟩:=p.of;clear p;unfold vc at hz;split at hz
 .rename_i d;obtain⟨v,rfl,q⟩:=qs.one_inv;obtain⟨u,rfl,rx⟩:=Wb r;split at hz
  .rename_i ha;cases hz;obtain⟨pa,vs,rfl,sq,ra⟩:=oP hS q ha;cases rx;obtain⟨its,r',pl,_⟩:=I.list sq;rw[ra.nil_inv]at r';cases r'
   exact xj (I.ok.hd hc) pl.isList λh' tk hk=>⟨.non,H,I.kept (t':=tk) hk,rfl,p'.ret (by unfold RD;rfl) hS⟩
  .rename_i x a ha;obtain⟨pa,vs,rfl,sq,ra⟩:=oP hS q ha;cases rx;obtain⟨its,r',pl,_⟩:=I.list sq;split at hz
   .rename_i n ns e;cases hz;have ia:=iq ra r' e;have hl:its.length=(n::ns).length:=ia.length
    have hcmp:yA X.prog X.w X.A.in1 s.heap (λi v=>its.toArray[i]?=some v) (λi j=>decide ((n::ns).getD j 0<(n::ns).getD i 0)):=by
     intro i j vi vj s1 Q1 E1 hk hi hj h
     obtain⟨t1,rfl⟩:=kE ia i vi (by simpa using hi)
     obtain⟨t2,rfl⟩:=kE ia j vj (by simpa using hj)
     exact D4 X.prog X.w h
    refine z8 (df:=some .none) (I.ok.hd hc) pl.isList (by rw[hl];exact Ue _) (rg _ _) rfl hcmp λv h' tk hv hk=>?_
    obtain⟨t1,rfl⟩:=kE ia _ v hv
    have b:=rh (n::ns) (its.length-1) (by rw[hl];exact Zx _)
    have b3:gH ((n::ns).getD 0 0) (((n::ns).drop 1).take (its.length-1))=gH n ns:=by rw[hl];show gH n (ns.take ns.length)=gH n ns;rw[Va]
    rw[b3]at b;refine⟨.int (gH n ns),H,I.kept (t':=tk) hk,⟨t1,?_⟩,p'.ret RD.mkI hS⟩;rw[b]
   .cases hz
  .cases hz
 .cases hz
end
end PD
namespace L2
open PySem PySem.Spec PyProof.Rows
def Inv.freezeL{X:Cx}{pins:List (Addr×Obj)}{σ:St}{H:Hp}{s:Shared}{a:Addr}{vs:List V}(I:Inv X pins σ H s)(h:H a=some (.lst vs)):∃o,Inv X pins σ (upd H a (.frz o (.lst vs))) s:=by
 obtain⟨z,its,n,r,e⟩:bR X.prog X.w H s.heap a (.lst vs):=I.hok a _ h
 have I2:Inv X pins σ (upd H a (.frz _ (.lst vs))) { s with heap:=s.heap,toks:=s.toks }:=I.write (x:=a) (e:=a) (by rw[h];exact True.intro) (.inl rfl) (λb u _ q=>q) ⟨_,e⟩ ⟨e,z,its,n,r,e⟩
 exact⟨_,I2⟩
section
variable{X:Cx}{tg:Expr}
def Kj(K:Frag)(td:TE):TI:=λσ H R=>td σ H λx H1=>∃a vs,x=.ref a/\((H1 a=some (.lst vs)/\∀o,R (Itl K a) (upd H1 a (.frz o (.lst vs)))) \/ ∃o,H1 a=some (.frz o (.lst vs))/\R (Itl K a) H1)
def Hc{d:Expr}{td:TE}(hd:PE X d td):PI X tg d (Kj X.K td):=by
 intro pins s σ H R I h;refine thn (hd pins s σ H _ I h) λu s1 zq=>?_;obtain⟨x,H1,I1,rx,a,vs,ex,q1⟩:=zq;subst ex;obtain rfl:u=Value.ref a:=rx
 have main:∀(H2:Hp)(o:Obj),Inv X pins σ H2 s1->H2 a=some (.frz o (.lst vs))->R (Itl X.K a) H2->wpAny (model X.prog X.w) X.A (pyIter (.ref a)) (PIE X pins σ tg R) X.xe s1:=λH2 o I2 hH2 q=>by
  obtain⟨its,rv,p,hz⟩:=I2.list (xs:=vs) (.inl (.inr ⟨o,hH2⟩));refine Qd p.isList ?_;refine⟨s1.heap.objs.size,[s1.heap.objs.size],_,_,H2,rfl,I2.kept (t':=s1.toks) λb o e=>Y7 _ e,qv a _,⟨_,Yg _ rfl,rfl,rfl⟩,λb hb=>?_,q⟩
  have e:b=s1.heap.objs.size:=by simpa using hb
  subst e;exact I2.fpOk (Yd _) (I2.hok.fresh (Yd _))
 rcases q1 with⟨hH,q⟩|⟨o,hH,q⟩
 .obtain⟨o,I2⟩:=I1.freezeL hH;exact main _ o I2 aP (q o)
 .exact main _ o I1 hH q
end
end L2
namespace PD
open PySem PySem.Spec PyProof.Rows L2
def xk(m:EM):AM:=λr S=>(m r S).bind λd S1=>match d with
 |.ref n=>match S1[n]? with
  |some (.lst xs)=>.ok xs (S1.set n (.flst xs))
  |some (.flst xs)=>.ok xs S1
  |_=>.bad
 |_=>.bad
def BN{K:Frag}{w:Wd}{H:Hp}{a:Addr}{o:Obj}{ds:List D}{vs:List V}(hst:∀w' H',Ext w H w' H'->H' a=some (.frz o (.lst vs)))(q:RDs K w H ds vs):RI K w H ds (Itl K a):=by
 intro i w' H' x';have q':=RDs.ext x' _ _ q;have sq:SqL K H' a vs:=.inl (.inr ⟨o,hst w' H' x'⟩)
 refine⟨λhi=>⟨⟨vs,vs[i]'(by rw[q.length];exact hi),sq,Yk _⟩,λx H'' y=>?_⟩,λhi=>⟨vs,sq,by rw[q.length];exact hi⟩⟩
 obtain⟨rfl,y⟩:=y;refine⟨.inl rfl,λS _=>⟨ds[i],Yk hi,?_⟩⟩;obtain⟨v,e,rv⟩:=q'.get (Yk hi);rw[y vs sq]at e;cases e;exact rv
section
variable{X:Cx}{E:XK}
def BO{tg:Expr}{d:Expr}{md:EM}(ha:SE X E d md):SI X E tg d (xk md):=⟨
 gI (Hc ha.out) λs H Q zq=>ex6 zq λw r S hr hS hp=>⟨w,r,S,hr,hS,hp.bind hS λd S1 w1 H1 v x1 q1 s1 p1=>by
  cases d with
  |ref m=>
   obtain⟨pp,rfl,hp⟩:=q1.refI;have hm:pp∈w1.st:=Zh hp;cases e:S1[m]? with
   |none=>simp only[e]at p1;exact p1.elim
   |some ob=>
    obtain⟨p',hp',ro⟩:=s1.obj _ _ e;rw[hp]at hp';cases hp';cases ob with
    |lst xs=>
     simp only[e]at p1;obtain⟨vs,hv,rk⟩:=ro;refine⟨pp,vs,rfl,.inl ⟨hv,λo=>?_⟩⟩;have rk':=RDs.ext (Ext.mut hm hv (o:=.frz o (.lst vs))) _ _ rk;exact aD.at p1 (Ext.mut hm hv) (BN (λw' H' x'=>x'.frz _ _ _ aP) rk') (s1.mut hp hv ⟨o,vs,aP,rk'⟩)
    |flst xs=>
     simp only[e]at p1;obtain⟨o,vs,hv,rk⟩:=ro;exact⟨pp,vs,rfl,.inr ⟨o,hv,aD.ret p1 (BN (λw' H' x'=>x'.frz _ _ _ hv) rk) s1⟩⟩
    |dic xs=>simp only[e]at p1;exact p1.elim
    |fdic xs=>simp only[e]at p1;exact p1.elim
    |ins c fs=>simp only[e]at p1;exact p1.elim
  |_=>exact p1.elim⟩⟩
end
end PD
namespace L2
open PySem PySem.Spec PyProof.Rows
def BP(v a:Addr):Heap->Prop:=λh=>h.get? v=some { cls:=.type "dict_values",data:=.fields #[.ref a] }
section
variable{X:Cx}
def Js(td:TE):TE:=λσ H Q=>td σ H λx H1=>∃a us,x=.ref a/\Rd H1 a (.dK us)/\∀v,H1 v=none->Q (.ref v) (upd H1 v (.ext (BP v a)))
def D6{d:Expr}{td:TE}{apos pos:Pos}(hd:PE X d td)(hbase:autoParam (attributeBase d "values" X.env (eval d X.env)=eval d X.env) zz0._auto_1)(hline:autoParam ((apos.endLine == pos.line)=true) zz0._auto_1)
  (hfew:autoParam (((backTo pos (starEach [] X.env)).all (λx=>!x.1)&&(backToKw pos (keywordEach [] X.env)).all (λx=>x.1.isSome)&&decide (([]:List Expr).length+([]:List Keyword).length+(if ([]:List Keyword).isEmpty then 0 else 1)<30))=true) zz0._auto_1):
  PE X (.Call (.Attribute d "values" apos) [] [] pos) (Js td):=by
 intro pins s σ H Q I h;refine K4 (T:="dict") (id:="dict.values") hbase hfew hline F.plainAttrs_dict F.slot_dict_values F.type_dict_values (thn (hd pins s σ H _ I h) λu s1 zq=>?_)
 obtain⟨x,H1,I1,rx,a,us,ex,rd,q⟩:=zq;subst ex;obtain rfl:u=Value.ref a:=rx;obtain⟨t1,t2,t3⟩:=wR I1 (a:=a) (.inl ⟨us,rd⟩);obtain⟨z,hdd,vs,rel,dd⟩:=jj I1.hok rd;refine⟨t1,t2,?_⟩;show wpAny _ _ (callWith pos (.builtin "dict.values") [.ref a] [] []) _ _ s1
 refine method_meetsIn F.slot_dict_values F.entry_dict_values rfl (Uj ⟨rfl,t1,F.args_dict_values_1 _,_,meets_dict_values (bf X.prog X.w) a t3,⟨vs,dd⟩,?_⟩);refine⟨.ref s1.heap.objs.size,_,I1.laid (t':=s1.toks) (a:=s1.heap.objs.size) (o:=.ext (BP s1.heap.objs.size a)) (λb u e=>Y7 _ e) (Yd _) ⟨Yg _ rfl,⟨_,Yg _ rfl⟩,λh1 h2 e1 k=>k _ e1⟩,rfl,q _ (I1.hok.fresh (Yd _))⟩
def yB{us:List (Key×V)}{vs:List (Key×Value)}{ns:List Int}(r:KV us vs)(h:us.map (·.2)=ns.map V.int)(i:Nat)(k:Key)(v:Value)(e:vs[i]?=some (k,v)):∃t,v=.int ((ns[i]?).getD 0) t:=by
 unfold KV at r
 induction r generalizing i ns with
 |nil=>simp at e
 | @cons p q ps qs hd tl ih=>
  cases ns with
  |nil=>simp at h
  |cons n ns=>
   rw[Yb,Yb]at h;injection h with h1 h2;cases i with
   |zero=>
    simp at e;obtain⟨_,rv⟩:=hd;rw[h1]at rv;obtain⟨t,z⟩:=rv;rw[e]at z
    exact⟨t,by simpa using z⟩
   |succ i=>simpa using ih h2 i (by simpa using e)
def Hd{H:Hp}{a t:Addr}{u o:HO}(r:Rd H a u)(ht:H t=none):Rd (upd H t o) a u:=by
 rcases r with e|⟨x,e⟩
 .exact .inl (by rw[aN (aR e ht)];exact e)
 .exact .inr ⟨x,by rw[aN (aR e ht)];exact e⟩
def D7{pins:List (Addr×Obj)}{σ:St}{H:Hp}{s:Shared}{v a:Addr}(I:Inv X pins σ H s)(h:H v=some (.ext (BP v a))):s.heap.get? v=some { cls:=.type "dict_values",data:=.fields #[.ref a] }:=(show bR X.prog X.w H s.heap v (.ext (BP v a)) from I.hok v _ h).1
def Aa(hc:X.calm=true):bI X (.builtin "min") (λxs H Q=>∃v a us,∃(n:Int)(ns:List Int),xs=[.ref v]/\H v=some (.ext (BP v a))/\Rd H a (.dK us)/\us.map (·.2)=(n::ns).map V.int/\Q (.int (PD.di n ns)) H):=by
 intro pins s σ H xs us Q I r h;obtain⟨v,a,ku,n,ns,rfl,hv,rd,hn,q⟩:=h;obtain⟨u,rfl,rx⟩:=Wb r;cases rx;obtain⟨z,hdd,vs,rel,dd⟩:=jj I.hok rd;obtain⟨ep,dat⟩:=dd.dictAt;have vw:=D7 I hv
 have la:a<s.heap.objs.size:=by obtain⟨o,es,ho,_⟩:=dat;exact Yn ho
 have hl:vs.length=(n::ns).length:=by rw[<- rel.length,<- Yh (f:=(·.2)),hn,Yh]
 refine call_min_walk (wpAny_pyIter_values (knd:=bf X.prog X.w) (d:=a) ⟨_,vw,rfl,rfl⟩ dat ?_)
 refine⟨s.heap.objs.size,[s.heap.objs.size,a],[s.heap.objs.size],vs.length,_,_,_,rfl,Walks.dictValues (knd:=bf X.prog X.w) (A:=X.A.in1) (I.ok.hd hc) _ a (Yt la) vs ep,⟨⟨_,Yg _ rfl,rfl,rfl⟩,dat.push _⟩,λb hb=>?_,by rw[hl];exact Ue _,CmpOf.ints_lt (λi=>((n::ns)[i]?).getD 0) (λi w' hP=>?_),λw' h' tk hP hk=>?_⟩
 .simp only[Yc,Yx,Zl]at hb;rw[Z5];rcases hb with rfl|rfl
  .exact Zx _
  .exact We la
 .obtain⟨k,e⟩:=hP;exact yB rel hn i k w' e
 .obtain⟨k,e⟩:=hP;obtain⟨t,rfl⟩:=yB rel hn _ k w' e;obtain⟨b1,b2⟩:=argBest_lt (λi=>((n::ns)[i]?).getD 0) (vs.length-1);generalize argBest (λi j=>decide (((n::ns)[i]?).getD 0<((n::ns)[j]?).getD 0)) (vs.length-1)=m at *
  have hm:m<(n::ns).length:=by rw[hl]at b1;have:0<(n::ns).length:=Ue _;omega
  have e1:((n::ns)[m]?).getD 0∈n::ns:=by rw[Yk hm];exact M4 hm
  have e2:∀x∈n::ns,((n::ns)[m]?).getD 0<=x:=λx hx=>by
   obtain⟨j,hj,rfl⟩:=List.mem_iff_getElem.mp hx
   have:=b2 j (by rw[hl];omega)
   rw[Yk hj]at this;exact this
  have eM:((n::ns)[m]?).getD 0=PD.di n ns:=by
   obtain⟨⟨a1,a2⟩,a3⟩:=PD.lx ns n
   have c1:=e2 (PD.di n ns) (by rcases a3 with e|h;rw[e];exact .head _;exact .tail _ h)
   have c2:PD.di n ns<=((n::ns)[m]?).getD 0:=by
    rcases Yc.mp e1 with e|h
    .rw[e];exact a1
    .exact a2 _ h
   omega
  rw[eM];exact⟨.int _,H,I.kept (LSm.kept_iter hk),⟨t,rfl⟩,q⟩
end
end L2
namespace PD
open PySem PySem.Spec PyProof.Rows L2
variable{w:Wd}{H:Hp}{c:Str}{C:Addr}
def nq:List (KD×D)->Option (List Int)
 |[]=>some []
 |(_,.int i)::r=>(nq r).map (i :: ·)
 |_=>none
def ve:Sto->D->Option D:=λS d=>match bS S d with
 |some kvs=>match nq kvs with
  |some (n::ns)=>some (.int (di n ns))
  |_=>none
 |none=>none
section
variable{X:Cx}{E:XK}
theorem yC:∀{kvs:List (KD×D)}{us:List (Key×V)}{ns:List Int},RDk X.K w H kvs us->nq kvs=some ns->us.map (·.2)=ns.map V.int
 |[],us,ns,q,h=>by cases h;rw[q.nil_inv];rfl
 |(k,d)::r,us,ns,q,h=>by
  obtain⟨v,r',rfl,q1,q2⟩:=q.cons_inv;cases d with
  |int i=>
   unfold nq at h;cases e:nq r with
   |none=>rw[e]at h;cases h
   |some ms=>
    rw[e]at h;cases h;cases q1.int;rw[Yb,Yb,yC q2 e]
  |_=>cases h
variable{d:Expr}{md:EM}{x:Str}{p pos0 apos pos:Pos}
def D8(hc:X.calm=true)(hg:Gl X "min")(hm:X.mg "min" = none)(ha:SE X E d md)(hbase:autoParam (attributeBase d "values" X.env (eval d X.env)=eval d X.env) zz0._auto_1)(hline:autoParam ((apos.endLine == pos.line)=true) zz0._auto_1)
  (hfew:autoParam (((backTo pos (starEach [] X.env)).all (λx=>!x.1)&&(backToKw pos (keywordEach [] X.env)).all (λx=>x.1.isSome)&&decide (([]:List Expr).length+([]:List Keyword).length+(if ([]:List Keyword).isEmpty then 0 else 1)<30))=true) zz0._auto_1)
  (he:autoParam (starEach [.Call (.Attribute d "values" apos) [] [] pos] X.env=[(false,eval (.Call (.Attribute d "values" apos) [] [] pos) X.env)]) zz0._auto_1):
  SE X E (.Call (.Name "min" p) [.Call (.Attribute d "values" apos) [] [] pos] [] pos0) (eUn ve md):=⟨
 bb (um (Aa hc) hg hm boot_min (yd (D6 ha.out hbase hline hfew) A0 he) (by decide +kernel) (by decide +kernel) he rfl) λs H Q zq=>ex6 zq λw r S hr hS hp=>⟨w,r,S,hr,hS,hp.bind hS λdd S1 w1 H1 v x1 q1 s1 p1=>by
  obtain⟨z,hz,p⟩:=p1.of;unfold ve at hz;split at hz
  .rename_i kvs ed;split at hz
   .rename_i n ns ev;cases hz;obtain⟨pp,us,rfl,rd,rk⟩:=kB s1 q1 ed;exact⟨pp,us,rfl,rd,λt ht=>⟨t,pp,us,n,ns,rfl,aP,Hd rd ht,yC rk ev,p.at (Ext.new ht) RD.mkI (s1.new ht)⟩⟩
   .cases hz
  .cases hz⟩⟩
end
def j7(f:Str)(v:D):List (Str×D)->List (Str×D)
 |[]=>[(f,v)]
 |(g,x)::r=>if g=f then (g,v)::r else (g,x)::j7 f v r
section
variable{K:Frag}{w w':Wd}{H H':Hp}
theorem RDf.nil:RDf K w H [] []:=⟨rfl,.nil⟩
theorem RDf.ext{fs:List (Str×D)}{us:List (Str×V)}(x:Ext w H w' H')(q:RDf K w H fs us):RDf K w' H' fs us:=⟨q.1,RDs.ext x _ _ q.2⟩
theorem RDf.get(f:Str):∀{fs:List (Str×D)}{us:List (Str×V)},RDf K w H fs us->(∀d,fs.lookup f=some d->∃v,us.lookup f=some v/\RD K w H d v)/\(fs.lookup f=none->us.lookup f=none)
 |[],us,q=>by
  have:us=[]:=by have:=Q8 List.length q.1;simpa using this.symm
  rw[this]
  exact⟨λd h=>(by cases h),λ_=>rfl⟩
 |(g,d)::fs,us,q=>by
  obtain⟨q1,q2⟩:=q;cases us with
  |nil=>cases q1
  |cons u us=>
   rw[Yb,Yb]at q1 q2;injection q1 with e1 e2;obtain⟨v,r,e,p,t⟩:=q2.cons_inv
   injection e with e3 e4;subst e4;obtain⟨h1,h2⟩:=RDf.get f (fs:=fs) (us:=us) ⟨e2,t⟩
   have eg:u.1=g:=e1.symm;rw[<- e3]at p;obtain⟨ug,uv⟩:=u
   cases (show ug=g from eg)
   rw[Qm,Qm];cases hg:f == g with
   |true=>exact⟨λd' h=>by cases h;exact⟨uv,rfl,p⟩,λh=>by cases h⟩
   |false=>exact⟨h1,h2⟩
theorem RDf.put(f:Str){d:D}{v:V}(hd:RD K w H d v):∀{fs:List (Str×D)}{us:List (Str×V)},RDf K w H fs us->RDf K w H (j7 f d fs) (ig f v us)
 |[],us,q=>by
  have:us=[]:=by have:=Q8 List.length q.1;simpa using this.symm
  rw[this];exact⟨rfl,.cons hd .nil⟩
 |(g,e)::fs,us,q=>by
  obtain⟨q1,q2⟩:=q;cases us with
  |nil=>cases q1
  |cons u us=>
   rw[Yb,Yb]at q1 q2;injection q1 with e1 e2;obtain⟨v',r,e',p,t⟩:=q2.cons_inv
   injection e' with e3 e4;subst e4;rw[<- e3]at p;obtain⟨ug,uv⟩:=u
   cases (show ug=g from e1.symm)
   unfold j7 ig;by_cases hg:g=f
   .rw[Y8 hg,Y8 hg]
    exact⟨by rw[Yb,Yb,e2],.cons hd t⟩
   .rw[Yi hg,Yi hg];obtain⟨a,b⟩:=RDf.put f hd (fs:=fs) (us:=us) ⟨e2,t⟩
    exact⟨by rw[Yb,Yb,a],.cons p b⟩
def RDf.len{fs:List (Str×D)}{us:List (Str×V)}(q:RDf K w H fs us):us.length=fs.length:=by have:=Q8 List.length q.1;simpa using this.symm
end
def ClsI(K:Frag)(c:Str):Prop:=∃C,nsIn K mainGlobals c=some (some (.ref C))/\L2.Cls K C
def NoA(K:Frag)(c f:Str):Prop:=∃C,nsIn K mainGlobals c=some (some (.ref C))/\km K C f
structure MetN(P:Program)(w:World)(K:Frag)(mg:Str->Option Value)(base:Heap)(c m:Str)(k n:Nat)(f:FM):Prop where
 ex:∃(C fa:Addr)(fd:FuncData)(ps:List Str),nsIn K mainGlobals c=some (some (.ref C))/\L2.Cls K C/\Meth K C m fa/\Binds K fd ps []/\FnOk P w K mg base (CX1 P w) k fa fd ps (spN K n f)
structure MakN(P:Program)(w:World)(K:Frag)(mg:Str->Option Value)(base:Heap)(c:Str)(k:Nat)(f:FM):Prop where
 ex:∃(C fa:Addr)(fd:FuncData)(ps:List Str),nsIn K mainGlobals c=some (some (.ref C))/\mg c=some (.ref C)/\Mk K C fa/\Binds K fd ps []/\FnOk P w K mg base (CX1 P w) k fa fd ps (spN K 1 f)
def iu(c:Str)(S:Sto):D->Option (Nat×List (Str×D))
 |.ref n=>match S[n]? with
  |some (.ins c' fs)=>if c'=c then some (n,fs) else none
  |_=>none
 |_=>none
def iw(c f:Str)(a:EM):EM:=λr S=>(a r S).bind λx S1=>match iu c S1 x with
 |some (_,fs)=>R.of S1 (fs.lookup f)
 |none=>.bad
def j8(c f:Str)(o v:EM):SM:=λr S=>(v r S).bind λy S1=>(o r S1).bind λx S2=>match iu c S2 x with
 |some (n,fs)=>if fs.length<1000 then .ok (.nx r) (S2.set n (.ins c (j7 f y fs))) else .bad
 |none=>.bad
def kG(c m:Str)(f:FM)(o:EM)(t:AM):EM:=λr S=>(o r S).bind λx S1=>match iu c S1 x with
 |some (_,fs)=>if fs.lookup m=none then (t r S1).bind λds S2=>f (x::ds) S2 else .bad
 |none=>.bad
def Ab(c:Str)(f:FM):EM:=λ_ S=>(f [.ref S.length] (S++[.ins c []])).bind λd S1=>match d with
 |.non=>.ok (.ref S.length) S1
 |_=>.bad
def xl{K:Frag}{S:Sto}{d:D}{v:V}{n:Nat}{fs:List (Str×D)}(hS:RS K w H S)(q:RD K w H d v)(h:iu c S d=some (n,fs)):∃p C dx us,v=.ref p/\w.st[n]?=some p/\d=.ref n/\S[n]?=some (.ins c fs)/\nsIn K mainGlobals c=some (some (.ref C))/\H p=some (.ins C dx us)/\RDf K w H fs us:=by
 unfold iu at h;split at h
 .rename_i m;split at h
  .rename_i c' fs' e;split at h
   .rename_i hc;subst hc;cases h;obtain⟨p,rfl,hp⟩:=q.refI;obtain⟨p',hp',C,dx,us,ns,hv,r⟩:=hS.obj _ _ e;rw[hp]at hp';cases hp';exact⟨p,C,dx,us,rfl,hp,rfl,e,ns,hv,r⟩
   .cases h
  .cases h
 .cases h
section
variable{X:Cx}{E:XK}{c f m x:Str}{a b o v:Expr}{ma mo mv:EM}{es:List Expr}{ms:AM}{k n:Nat}{F:FM}{p pos apos tpos:Pos}
def eY(hc:ClsI X.K c)(hn:NoA X.K c f)(ha:SE X E a ma)(hb:autoParam (attributeBase a f X.env (eval a X.env)=eval a X.env) zz0._auto_1):SE X E (.Attribute a f pos) (iw c f ma):=⟨
 bb (Gu ha.out hb) λs H Q zq=>ex6 zq λw r S hr hS hp=>⟨w,r,S,hr,hS,hp.bind hS λd S1 w1 H1 u x1 q1 s1 p1=>by
  cases e:iu c S1 d with
  |none=>simp only[e]at p1;exact p1.elim
  |some z=>
   obtain⟨n,fs⟩:=z;simp only[e]at p1;obtain⟨y,hy,p⟩:=p1.of;obtain⟨pp,C,dx,us,rfl,hpp,rfl,hs,ns,hv,rf⟩:=xl s1 q1 e;obtain⟨C1,n1,c1⟩:=hc;obtain⟨C2,n2,c2⟩:=hn;rw[ns]at n1 n2;cases n1;cases n2;obtain⟨vv,h1,h2⟩:=(rf.get f).1 y hy
   exact⟨pp,C,dx,us,vv,rfl,hv,c1,c2,h1,p.ret h2 s1⟩⟩⟩
def oT(hc:ClsI X.K c)(hn:NoA X.K c f)(ho:SE X E o mo)(hv:SE X E v mv)(hs:autoParam (swapsWith v (some (.Attribute o f tpos)) pos.line X.env=pure false) zz0._auto_1):SS X E (.Assign [.Attribute o f tpos] v pos) (j8 c f mo mv):=⟨
 ez (Gv ho.out hv.out hs) λD s H zq=>ex6 zq λw r S hr hS hp=>⟨w,r,S,hr,hS,hp.bind hS λy S1 w1 H1 vy x1 q1 s1 p1=>⟨w1,r,S1,hr.ext x1,s1,p1.bind s1 λd S2 w2 H2 u x2 q2 s2 p2=>by
  cases e:iu c S2 d with
  |none=>simp only[e]at p2;exact p2.elim
  |some z=>
   obtain⟨n,fs⟩:=z;simp only[e]at p2;by_cases hl:fs.length<1000
   .rw[Y8 hl]at p2;obtain⟨pp,C,dx,us,rfl,hpp,rfl,hs,ns,hv,rf⟩:=xl s2 q2 e;obtain⟨C1,n1,c1⟩:=hc;obtain⟨C2,n2,c2⟩:=hn;have n1':=n1;rw[ns]at n1 n2;cases n1;cases n2;have hm:pp∈w2.st:=Zh hpp
    refine⟨pp,C,dx,us,rfl,hv,c1,c2,by rw[rf.len];exact hl,?_⟩
    have rf':RDf X.K w2 (upd H2 pp (.ins C dx (ig f vy us))) (j7 f y fs) (ig f vy us):=RDf.ext (Ext.mut hm hv) (rf.put f (RD.ext x2 _ _ q1));exact aD.at (b:=FV.nx s) p2 (Ext.mut hm hv) ⟨s,rfl,((hr.ext x1).ext x2).ext (Ext.mut hm hv)⟩ (s2.mut hpp hv ⟨C,dx,_,n1',aP,rf'⟩)
   .rw[Yi hl]at p2;exact p2.elim⟩⟩⟩
theorem vf{sp:Sp}{r:Rho}{S:Sto}{Q:VK}{s:L2.St}(ns:nsIn X.K mainGlobals c=some (some (.ref C)))(hn:w8 ms n)(hr:RSt X.K w H r s)(hS:RS X.K w H S)(hp:aD X.K E (RD X.K) w H (kG c m F mo ms r S) Q)
  (hsp:∀(vs:List V)(H2:Hp),vs.length=n+1->(∃w2 S2 ds,RS X.K w2 H2 S2/\RDs X.K w2 H2 ds vs/\aD X.K E (RD X.K) w2 H2 (F ds S2) Q)->sp vs H2 Q E):
  aD X.K E (RD X.K) w H (mo r S) λx H1=>∃a dx fs,x=.ref a/\H1 a=some (.ins C dx fs)/\fs.lookup m=none/\uA X.K E ms s H1 λvs H2=>sp (x::(vs++[])) H2 Q E:=by
 refine aD.bind (r:=mo r S) hp hS λd S1 w1 H1 u x1 q1 s1 p1=>?_;cases e:iu c S1 d with
 |none=>simp only[e]at p1;exact p1.elim
 |some z=>
  obtain⟨i,fs⟩:=z;simp only[e]at p1;by_cases hl:fs.lookup m=none
  .rw[Y8 hl]at p1;obtain⟨pp,C',dx,us,rfl,hpp,rfl,hs,ns',hv,rf⟩:=xl s1 q1 e;rw[ns]at ns';cases ns';refine⟨pp,dx,us,rfl,hv,(rf.get m).2 hl,w1,r,S1,hr.ext x1,s1,?_⟩;cases ea:ms r S1 with
   |bad=>rw[ea]at p1;exact p1.elim
   |err y S'=>rw[ea]at p1;exact p1
   |ok ds S'=>
    rw[ea]at p1;intro w2 H2 vs x2 q2 s2;rw[Qh]
    exact hsp _ _ (by rw[Ym,q2.length,hn r S1 ds S' ea]) ⟨w2,S',.ref i::ds,s2,.cons (RD.ext x2 _ _ q1) q2,aD.ext (r:=F (.ref i::ds) S') p1 x2 s1 s2⟩
  .rw[Yi hl]at p1;exact p1.elim
def lz{pl:Sem Bool}(M:MetN X.prog X.w X.K X.mg X.base c m k (n+1) F)(hr:Room k X.A)(ho:SE X E0 o mo)(ha:SA X E0 (a::es) ms)(hn:w8 ms n)
  (hst:autoParam (starEach (a::es) X.env=(false,eval a X.env)::starEach es X.env) zz0._auto_1) (hpl:autoParam ((backTo pos (starEach es X.env)).any (·.1)=false) zz0._auto_1)
  (ht:autoParam (eval (.Call (.Attribute o m apos) (a::es) [] pos) X.env=(do
   let ov <- eval o X.env
   standAt apos.atName
   let (g,first) <- holding [ov] (getMethod ov m pl)
   callWith pos g first (backTo pos (starEach (a::es) X.env)) (backToKw pos (keywordEach [] X.env)))) zz1._auto_1):SE X E0 (.Call (.Attribute o m apos) (a::es) [] pos) (kG c m F mo ms):=by
 obtain⟨C,fa,fd,ps,ns,hc,hm,hb,Fo⟩:=M.ex;exact⟨bb (Dp ho.out hc hm Fo hr hb (dvs:=[]) .nil gj ha.out hst hpl ht) λs H Q zq=>ex6 zq λw r S hr hS hp=>⟨w,r,S,hr,hS,vf ns hn hr hS hp λvs H2 hl h=>⟨hl,h⟩⟩⟩
theorem oU{pl:Sem Bool}(M:MetN X.prog X.w X.K X.mg X.base c m k 1 F)(hr:Room k X.A)(ho:SE X E0 o mo)
  (ht:autoParam (eval (.Call (.Attribute o m apos) [] [] pos) X.env=(do
   let ov <- eval o X.env
   standAt apos.atName
   let (g,first) <- holding [ov] (getMethod ov m pl)
   callWith pos g first (backTo pos (starEach [] X.env)) (backToKw pos (keywordEach [] X.env)))) zz1._auto_1):SE X E0 (.Call (.Attribute o m apos) [] [] pos) (kG c m F mo ak):=by
 obtain⟨C,fa,fd,ps,ns,hc,hm,hb,Fo⟩:=M.ex;refine⟨bb (A3 ho.out hc hm Fo hr hb (dvs:=[]) .nil gj ht) λs H Q zq=>ex6 zq λw r S hr hS hp=>⟨w,r,S,hr,hS,?_⟩⟩;have z:=vf (n:=0) (sp:=spN X.K 1 F) (E:=E0) ns au hr hS hp λvs H2 hl h=>⟨hl,h⟩;cases e:mo r S with
 |bad=>rw[e]at z;exact z
 |err y S'=>rw[e]at z;exact z
 |ok d S'=>
  rw[e]at z;intro w1 H1 u x1 q1 s1;obtain⟨a,dx,fs,e1,e2,e3,w2,r2,S2,_,s2,pp⟩:=z w1 H1 u x1 q1 s1;exact⟨a,dx,fs,e1,e2,e3,aD.ret (a:=([]:List D)) (b:=([]:List V)) pp .nil s2⟩
def BQ(M:MakN X.prog X.w X.K X.mg X.base c k F)(hr:Room (k+1) X.A)(hg:Gl X c)(hdb:autoParam ((c == ("__debug__":Str))=false) zz3._auto_1):SE X E0 (.Call (.Name c p) [] [] pos) (Ab c F):=by
 obtain⟨C,fa,fd,ps,ns,hmg,hm,hb,Fo⟩:=M.ex;refine⟨bb (A5 hm Fo hr hg hmg hb (dvs:=[]) .nil gj hdb) λs H Q zq=>?_⟩;obtain⟨w,r,S,hr,hS,hp⟩:=zq;intro y dx hy hdx hne
 have hy':(upd H dx (.own y)) y=none:=by rw[aN (Ne.symm hne)];exact hy
 have s0:RS X.K w (upd H dx (.own y)) S:=hS.new hdx;have s1:RS X.K (w.add y) (upd (upd H dx (.own y)) y (.ins C dx [])) (S++[.ins c []]):=s0.alloc hy' ⟨C,dx,[],ns,aP,.nil⟩;have x1:Ext w H (w.add y) (upd (upd H dx (.own y)) y (.ins C dx [])):=(Ext.new hdx).trans' (Ext.alloc hy') hS s0
 have hp1:aD X.K E0 (RD X.K) (w.add y) (upd (upd H dx (.own y)) y (.ins C dx [])) ((F [.ref S.length] (S++[.ins c []])).bind λd S1=>match d with
  |.non=>.ok (.ref S.length) S1
  |_=>.bad) Q:=aD.ext hp x1 hS s1
 refine⟨rfl,w.add y,S++[.ins c []],[.ref S.length],s1,.cons s0.lastRef .nil,?_⟩;refine aD.bind (r:=F [.ref S.length] (S++[.ins c []])) hp1 s1 λd S2 w2 H2 u x2 q2 s2 p2=>?_;cases d with
 |non=>
  refine⟨?_,aD.ret p2 (RD.ext x2 _ _ s0.lastRef) s2⟩;unfold RD at q2;exact q2
 |_=>exact p2.elim
end
section
variable{P:Program}{w:World}{K:Frag}{mg:Str->Option Value}{base:Heap}
def jL{x q:Str}{st:Stmt}{f:Addr}{fd:FuncData}{m:SM}(N ps:List Str)(k k1 n0 n1:Nat)(hk:k1=k+1)(h0:n0=ps.length)(h1:n1=N.length)(F:Fun K x q st f fd)(ns:nsIn K mainGlobals c=some (some (.ref C)))(hc:L2.Cls K C)(hm:Meth K C x f)(hb:Binds K fd ps [])(S:FnScope N ps (defScope st))
  (hbody:∀(cdv:Value)(A:Around)(outer:List Env)(s:Shared)(H:Hp)(E:XK),Room k (A.deeper (envOfC q (defScope st) s.heap.objs.size f cdv))->
   SSs (p8 (CX1 P w) P w K mg base N q (defScope st) f cdv A outer s H E).nox E0 (defBody st) m):MetN P w K mg base c x k1 n0 (fnM n1 m):=by
 subst hk h0 h1;exact⟨C,f,fd,ps,ns,hc,hm,hb,sR F S hbody⟩
def BR{q:Str}{st:Stmt}{f:Addr}{fd:FuncData}{m:SM}(N ps:List Str)(k k1 n1:Nat)(hk:k1=k+1)(h0:1=ps.length)(h1:n1=N.length)(F:Fun K "__init__" q st f fd)(ns:nsIn K mainGlobals c=some (some (.ref C)))(hmg:mg c=some (.ref C))(hm:Mk K C f)(hb:Binds K fd ps [])(S:FnScope N ps (defScope st))
  (hbody:∀(cdv:Value)(A:Around)(outer:List Env)(s:Shared)(H:Hp)(E:XK),Room k (A.deeper (envOfC q (defScope st) s.heap.objs.size f cdv))->
   SSs (p8 (CX1 P w) P w K mg base N q (defScope st) f cdv A outer s H E).nox E0 (defBody st) m):MakN P w K mg base c k1 (fnM n1 m):=by
 subst hk h1;have z:=sR F S hbody;rw[<- h0]at z;exact⟨C,f,fd,ps,ns,hmg,hm,hb,z⟩
end
def Fl:Sto->D->R D
 |S,.ref n=>match S[n]? with
  |some (.lst a)=>match a[a.length-1]? with
   |some y=>.ok y (S.set n (.lst a.dropLast))
   |none=>.bad
  |_=>.bad
 |_,_=>.bad
def Fm(o:EM):EM:=λr S=>(o r S).bind λx S1=>Fl S1 x
section
variable{X:Cx}{E:XK}{o:Expr}{mo:EM}{apos cpos:Pos}
def BS{K:Frag}{ds:List D}{vs:List V}(q:RDs K w H ds vs):RDs K w H ds.dropLast vs.dropLast:=by rw[List.dropLast_eq_take,List.dropLast_eq_take,q.length];exact q.take _
def D9(ho:SE X E o mo)(hbase:autoParam (attributeBase o "pop" X.env (eval o X.env)=eval o X.env) zz0._auto_1)(hline:autoParam ((apos.endLine == cpos.line)=true) zz0._auto_1):SE X E (.Call (.Attribute o "pop" apos) [] [] cpos) (Fm mo):=⟨
 bb (GD Ww PySem.F.slot_list_pop PySem.F.type_list_pop GF ho.out hbase hline) λs H Q zq=>ex6 zq λw r S hr hS hp=>⟨w,r,S,hr,hS,hp.bind hS λd S1 w1 H1 v x1 q1 s1 p1=>by
  unfold Fl at p1;split at p1
  .rename_i n;split at p1
   .rename_i a hn;split at p1
    .rename_i y hy;obtain⟨pp,rfl,hpp⟩:=q1.refI;obtain⟨p',hp',vs,hv,ra⟩:=s1.obj _ _ hn;rw[hpp]at hp';cases hp';have hm:pp∈w1.st:=Zh hpp;obtain⟨yv,hyv,ry⟩:=ra.get hy
     refine⟨?_,pp,vs,yv,rfl,rfl,hv,by rw[ra.length];exact hyv,aD.at p1 (Ext.mut hm hv) (RD.ext (Ext.mut hm hv) _ _ ry) ?_⟩
     .exact Bw s1 (d:=.ref n) (by unfold RD;exact⟨pp,rfl,hpp⟩) (by simp only[isL,hn])
     .exact s1.mut hpp hv ⟨_,aP,RDs.ext (Ext.mut hm hv) _ _ (BS ra)⟩
    .exact p1.elim
   .exact p1.elim
  .exact p1.elim⟩⟩
end
def dO:Sto->List D->Option D
 |_,[.int i]=>if i.natAbs.log2<1920 then some (.str (toString i)) else none
 |_,_=>none
def xm(neg:Bool):Sto->D->D->Option D
 |_,.str i,.str j=>some (.bl (if neg then !(!(Builtin.Str.occurrences j i 0 j.length 1).isEmpty) else !(Builtin.Str.occurrences j i 0 j.length 1).isEmpty))
 |S,x,y=>oIn neg S x y
def strsOf:List D->Option (List Str)
 |[]=>some []
 |.str x::r=>(strsOf r).map (x :: ·)
 |_=>none
def ix:Sto->D->List D->R D
 |S,.str x,[.lst a]=>match strsOf a with
  |some ys=>if (ys.map (·.length)).sum+ys.length*x.length<=16777216 then .ok (.str (Txt.join x ys)) S else .bad
  |none=>.bad
 |_,_,_=>.bad
def xn:Sto->D->List D->R D
 |S,.str x,[.int i]=>if PadOk i=true then .ok (.str (Txt.zfill x i)) S else .bad
 |_,_,_=>.bad
def dy:Sto->D->List D->R D
 |S,.str x,[.str y]=>.ok (.bl (Txt.startswith x y)) S
 |_,_,_=>.bad
section
variable{X:Cx}{E:XK}
def dG:bI X (.type "str") (xC X.K E dO):=by
 rintro pins s σ H xs us Q I r ⟨w,S,ds,hS,qs,p⟩;obtain⟨z,hz,p'⟩:=p.of;clear p;unfold dO at hz;split at hz
 .split at hz
  .rename_i hl;cases hz;obtain⟨v,rfl,q⟩:=qs.one_inv;cases q.int;exact rZ pins s σ H _ us Q I r ⟨_,rfl,hl,p'.ret RD.mkS hS⟩
  .cases hz
 .cases hz
def He:OpR X (compareOp .In) (xO X.K E (xm false)):=by
 rintro pins s σ H x y v u Q I rx ry ⟨w,S,d,e,hS,qd,qe,p⟩;unfold xm at p;split at p
 .rename_i i j;cases qd.str;cases qe.str;exact zz pins s σ H _ _ v u Q I rx ry ⟨i,j,rfl,rfl,p.ret RD.mkB hS⟩
 .exact Bq pins s σ H x y v u Q I rx ry ⟨w,S,_,_,hS,qd,qe,p⟩
theorem yD{K:Frag}:∀{ds:List D}{vs:List V}{its:List Value}{ys:List Str},RDs K w H ds vs->Vals vs its->strsOf ds=some ys->StrsAre its ys
 |[],vs,its,ys,q,r,e=>by cases q.nil_inv;cases r;cases e;exact .nil
 |d::ds,vs,its,ys,q,r,e=>by
  obtain⟨v,vs',rfl,q1,q2⟩:=q.cons_inv;cases r with
  |cons r1 r2=>
   cases d with
   |str x=>
    cases e2:strsOf ds with
    |none=>unfold strsOf at e;rw[e2]at e;cases e
    |some zs=>
     unfold strsOf at e;rw[e2]at e;cases e;cases q1.str;obtain⟨t,rfl⟩:=r1;exact .cons _ _ (yD q2 r2 e2)
   |_=>unfold strsOf at e;cases e
def nZ:MtR X "str.join" (xM X.K E ix):=by
 rintro pins s σ H x xs v us Q I rx rs ⟨w,S,d,ds,hS,qd,qs,p⟩;unfold ix at p;split at p
 .rename_i x0 a;split at p
  .rename_i ys hy;split at p
   .rename_i hl;cases qd.str;obtain⟨yv,rfl,qy⟩:=qs.one_inv;obtain⟨pa,vs,rfl,za,ra⟩:=qy.lstI;obtain⟨t,rfl⟩:=rx;obtain⟨u,rfl,ru⟩:=Wb rs;cases ru;obtain⟨its,r1,⟨o,n,ho,hcl,hdn,hd⟩,_⟩:=I.list (SqL.of za.1);have hli:s.heap.IsList pa its.toArray:=⟨o,ho,hcl,n,hd⟩;exact join_list hli (yD ra r1 hy) hl λt' k=>⟨.str _,H,I.tok _,⟨_,rfl⟩,p.ret RD.mkS hS⟩
   .exact p.elim
  .exact p.elim
 .exact p.elim
def BU:MtR X "str.zfill" (xM X.K E xn):=by
 rintro pins s σ H x xs v us Q I rx rs ⟨w,S,d,ds,hS,qd,qs,p⟩;unfold xn at p;split at p
 .rename_i x0 i;split at p
  .rename_i hl;cases qd.str;obtain⟨yv,rfl,qy⟩:=qs.one_inv;cases qy.int;obtain⟨t,rfl⟩:=rx;obtain⟨u,rfl,ru⟩:=Wb rs;obtain⟨t2,rfl⟩:=ru;exact SC.zfill hl λt' k=>⟨.str _,H,I.tok _,⟨_,rfl⟩,p.ret RD.mkS hS⟩
  .exact p.elim
 .exact p.elim
def rj:MtR X "str.startswith" (xM X.K E dy):=by
 rintro pins s σ H x xs v us Q I rx rs ⟨w,S,d,ds,hS,qd,qs,p⟩;unfold dy at p;split at p
 .rename_i x0 y0;cases qd.str;obtain⟨yv,rfl,qy⟩:=qs.one_inv;cases qy.str;obtain⟨t,rfl⟩:=rx;obtain⟨u,rfl,ru⟩:=Wb rs;obtain⟨t2,rfl⟩:=ru;exact SC.startswith ⟨.bl _,H,I,rfl,p.ret RD.mkB hS⟩
 .exact p.elim
def fV(f:Sto->D->List D->R D)(o:EM)(t:AM):EM:=λr S=>(o r S).bind λx S1=>match x with
 |.str _=>(t r S1).bind λys S2=>f S2 x ys
 |_=>.bad
theorem js{o e:Expr}{es:List Expr}{mo:EM}{ms:AM}{name:Str}{apos cpos:Pos}{id:String}{f:Sto->D->List D->R D}(pa:PlainAttrs "str")(slot:Slot "str" name id)(hty:typeOf (.builtin id)=pure (.type "method_descriptor"))(hm:MtR X id (xM X.K E f))
  (ho:SE X E o mo) (ha:SA X E (e::es) ms) (hbase:autoParam (attributeBase o name X.env (eval o X.env)=eval o X.env) zz0._auto_1)
  (hfew:autoParam (((backTo cpos (starEach (e::es) X.env)).all (λx=>!x.1)&&(backToKw cpos (keywordEach [] X.env)).all (λx=>x.1.isSome)
   && decide ((e::es).length+([]:List Keyword).length+(if ([]:List Keyword).isEmpty then 0 else 1)<30))=true) zz0._auto_1)
  (hline:autoParam ((apos.endLine == cpos.line)=true) zz0._auto_1) (hs:autoParam (starEach (e::es) X.env=(false,eval e X.env)::starEach es X.env) zz0._auto_1) (hplain:autoParam ((backTo cpos (starEach es X.env)).any (·.1)=false) zz0._auto_1):
  SE X E (.Call (.Attribute o name apos) (e::es) [] cpos) (fV f mo ms):=⟨
 bb (E9 pa slot hty hm ho.out ha.out hbase hfew hline hs hplain) λs H Q zq=>ex6 zq λw r S hr hS hp=>⟨w,r,S,hr,hS,hp.bind hS λd S1 w1 H1 v x1 q1 s1 p1=>by
  cases d with
  |str z=>
   cases q1.str;exact⟨rfl,w1,r,S1,hr.ext x1,s1,aD.bind (f:=λys S2=>f S2 (.str z) ys) p1 s1 λds S2 w2 H2 us x2 q2 s2 p2=>⟨w2,S2,.str z,ds,s2,RD.mkS,q2,p2⟩⟩
  |_=>exact p1.elim⟩⟩
end
end PD
namespace L2
open PySem PySem.Spec PyProof.Rows
section
open Builtin Builtin.Str
theorem BV{prog:Program}{w:World}{A:Around}{E:Value->Shared->Prop}{s:Shared}{x y:Str}{t u:Tok}{Q:Value->Shared->Prop}(hy:(y.length == 0)=false)(hsz:x.length<=sizeLine)(hsz2:(partsBetween x (occurrences x y 0 x.length (x.length+1)) y.length).length<=sizeLine)
  (hq:∀(l:List (Str×Tok))(k:Nat),l.map (·.1)=Txt.split x y->Q (.ref s.heap.objs.size) { s with heap:=s.heap.push { cls:=.type "list",data:=.seq (strValues l).toArray },toks:=k }):
  wpAny (model prog w) A (call (.builtin "str.split") [.str x t,.str y u]) Q E s:=by
 have go {C:PySem.Spec} (m:Meets («str.split» ⟨[.str x t,.str y u],[]⟩) C):=V0 (prog:=prog) (w:=w) (A:=A) (E:=E) (s:=s) (Q:=Q) (rest:=[.str y u]) F.slot_str_split (typeIs_str s x t) F.entry_str_split (F.args_str_split_2 _ _) m;cases c1:(decide (x.length<y.length)||decide (strKind x<strKind y)) with
 |true=>exact go (meets_str_split_cannot_occur x y t u c1) (hq [(x,t)] s.toks (Y8 c1).symm)
 |false=>
  cases c2:(occurrences x y 0 x.length (x.length+1)).isEmpty with
  |true=>exact go (meets_str_split_not_found x y t u c1 hy c2) (hq [(x,t)] s.toks ((Yi (Uk c1)).trans (Y8 c2)).symm)
  |false=>
   refine go (meets_str_split_sep x y t u c1 hy c2 hsz hsz2) ?_;have e:=strsFrom_eq s.toks (partsBetween x (occurrences x y 0 x.length (x.length+1)) y.length);have k:=hq (numbered s.toks (partsBetween x (occurrences x y 0 x.length (x.length+1)) y.length)) (s.toks+(partsBetween x (occurrences x y 0 x.length (x.length+1)) y.length).length) ((numbered_texts _ _).trans ((Yi (Uk c1)).trans (Yi (Uk c2))).symm);rw[<- e]at k;exact k
end
def Its(x:Str):It:=⟨λi _=>i<x.cps.size,λi H v H'=>H'=H/\∃c,x.cps[i]?=some c/\v=.str ⟨#[c]⟩,λi _=>x.cps.size<=i⟩
def xo{P:Program}{w:World}{K:Frag}{tg:Expr}(it:Addr)(x:Str)(t:Tok):Turn false P w K tg (Its x) [it] it (λi h=>h.IsStrIter it "str_ascii_iterator" x t i) where
 mem:=by simp
 obj:=λi h st b hb=>by
  have e:b=it:=by simpa using hb
  subst e;obtain⟨o,ho,_,hd⟩:=st
  exact⟨o,ho,λv z=>by rw[hd]at z;cases z⟩
 keep:=λi h h' ⟨o,ho,r⟩ k=>⟨o,k it (by simp) _ ho,r⟩
 item:=by
  intro X hP hw hK hc i pins s σ H E I hf st hg;subst hP hw hK
  obtain⟨f0,f1,f2,f3,f4,f5⟩:=hf it (by simp)
  have hg':i<x.cps.size:=hg;refine wpAny_pyNext_ascii_item st (Wn hg') λh' st' kk=>?_
  have I1:Inv X pins σ H { s with heap:=h',toks:=s.toks+1 }:=I.turned (λb o hb e=>(kk.2 b hb).trans e) f0 f1 f3 f4 f5
  obtain⟨o,ho,hcl,hd⟩:=id st'
  exact⟨_,rfl,uf (s:={ s with heap:=h',toks:=s.toks+1 }) (n:="str_ascii_iterator") ho hcl hd (by decide) ⟨.str ⟨#[x.cps[i]]⟩,H,I1,⟨s.toks,rfl⟩,⟨rfl,_,Wn hg',rfl⟩,st',λb hb=>(hf b hb).1⟩⟩
 done:=by
  intro X hP hw hK hc i pins s σ H E I hf st hg;subst hP hw hK
  obtain⟨f0,f1,f2,f3,f4,f5⟩:=hf it (by simp)
  have hg':x.cps.size<=i:=hg;exact wpAny_pyNext_ascii_end (I.ok.hd hc.cm) st (Array.getElem?_eq_none hg') λh' eb=>⟨rfl,I.turned (t':=s.toks) (λb o hb e=>eb b o hb e) f0 f1 f3 f4 f5⟩
 self:=λ_ _ _ _ _ st h=>wpAny_pyIter_striter_ascii st h
def Ac{P:Program}{w:World}{K:Frag}{tg:Expr}(it:Addr)(x:Str)(t:Tok):Turn false P w K tg (Its x) [it] it (λi h=>h.IsStrIter it "str_iterator" x t i) where
 mem:=by simp
 obj:=λi h st b hb=>by
  have e:b=it:=by simpa using hb
  subst e;obtain⟨o,ho,_,hd⟩:=st
  exact⟨o,ho,λv z=>by rw[hd]at z;cases z⟩
 keep:=λi h h' ⟨o,ho,r⟩ k=>⟨o,k it (by simp) _ ho,r⟩
 item:=by
  intro X hP hw hK hc i pins s σ H E I hf st hg;subst hP hw hK
  obtain⟨f0,f1,f2,f3,f4,f5⟩:=hf it (by simp)
  have hg':i<x.cps.size:=hg;refine wpAny_pyNext_wide_item st (Wn hg') λh' st' kk=>?_
  have I1:Inv X pins σ H { s with heap:=h',toks:=s.toks+1 }:=I.turned (λb o hb e=>(kk.2 b hb).trans e) f0 f1 f3 f4 f5
  obtain⟨o,ho,hcl,hd⟩:=id st'
  exact⟨_,rfl,uf (s:={ s with heap:=h',toks:=s.toks+1 }) (n:="str_iterator") ho hcl hd (by decide) ⟨.str ⟨#[x.cps[i]]⟩,H,I1,⟨s.toks,rfl⟩,⟨rfl,_,Wn hg',rfl⟩,st',λb hb=>(hf b hb).1⟩⟩
 done:=by
  intro X hP hw hK hc i pins s σ H E I hf st hg;subst hP hw hK
  obtain⟨f0,f1,f2,f3,f4,f5⟩:=hf it (by simp)
  have hg':x.cps.size<=i:=hg;exact wpAny_pyNext_wide_end (I.ok.hd hc.cm) st (Array.getElem?_eq_none hg') λh' eb=>⟨rfl,I.turned (t':=s.toks) (λb o hb e=>eb b o hb e) f0 f1 f3 f4 f5⟩
 self:=λ_ _ _ _ _ st h=>wpAny_pyIter_striter_wide st h
section
variable{X:Cx}{tg:Expr}
def Kk(tl:TE):TI:=λσ H R=>tl σ H λv H1=>∃x,v=.str x/\R (Its x) H1
def Hf{l:Expr}{tl:TE}(hl:PE X l tl):PI X tg l (Kk tl):=by
 intro pins s σ H R I h;refine thn (hl pins s σ H _ I h) λv s1 zq=>?_;obtain⟨y,H1,I1,r1,q1⟩:=zq;obtain⟨x,e,q⟩:=q1;subst e;obtain⟨t,rfl⟩:=r1;cases ha:x.cps.all (· < 128) with
 |true=>
  refine wpAny_pyIter_ascii ha ?_;refine⟨s1.heap.objs.size,[s1.heap.objs.size],_,_,H1,rfl,I1.kept (t':=s1.toks) λb o e=>Y7 _ e,xo _ x t,⟨_,Yg _ rfl,rfl,rfl⟩,λb hb=>?_,q⟩
  have e:b=s1.heap.objs.size:=by simpa using hb
  subst e;exact I1.fpOk (Yd _) (I1.hok.fresh (Yd _))
 |false=>
  refine wpAny_pyIter_wide ha ?_;refine⟨s1.heap.objs.size,[s1.heap.objs.size],_,_,H1,rfl,I1.kept (t':=s1.toks) λb o e=>Y7 _ e,Ac _ x t,⟨_,Yg _ rfl,rfl,rfl⟩,λb hb=>?_,q⟩
  have e:b=s1.heap.objs.size:=by simpa using hb
  subst e;exact I1.fpOk (Yd _) (I1.hok.fresh (Yd _))
end
end L2
namespace PD
open PySem PySem.Spec PyProof.Rows L2
variable{w:World}{H:Hp}{a:Expr}{ma:EM}{x:Str}{pos:Pos}{h base:Heap}{mg:Str→Option Value}{P:Program}{n:Nat}{f:FM}
def j9:Sto->List D->Option D
 |_,[.str x]=>if x.length<=640 then (intText? x).map .int else none
 |S,ds=>mB S ds
def oV:Sto->D->List D->R D
 |S,.str x,[.str y]=>if (y.length == 0)=false/\x.length<=sizeLine/\(Builtin.Str.partsBetween x (Builtin.Str.occurrences x y 0 x.length (x.length+1)) y.length).length<=sizeLine/\(Txt.split x y).length<=sizeLine then .ok (.lst ((Txt.split x y).map .str)) S else .bad
 |_,_,_=>.bad
def xp:Sto->D->Option Int->Option Int->Option D
 |_,.str x,lo,hi=>if x.length<=sizeLine then some (.str (Txt.slice x lo hi)) else none
 |S,d,lo,hi=>iN S d lo hi
def chs(x:Str):List D:=x.cps.toList.map λc=>.str ⟨#[c]⟩
def yE:Sto->D->Option (List D)
 |_,.str x=>some (chs x)
 |_,_=>none
section
variable{X:Cx}{E:XK}
def sZ:bI X (.type "int") (xC X.K E j9):=by
 rintro pins s σ H xs us Q I r ⟨w,S,ds,hS,qs,p⟩;by_cases hd:∃x,ds=[.str x]
 .obtain⟨x,rfl⟩:=hd;obtain⟨z,hz,p'⟩:=p.of;clear p;unfold j9 at hz;simp only at hz;split at hz
  .rename_i hl;cases hn:intText? x with
   |none=>rw[hn]at hz;cases hz
   |some n=>
    rw[hn]at hz;cases hz;obtain⟨v,rfl,q⟩:=qs.one_inv;cases q.str;obtain⟨u,rfl,ru⟩:=Wb r;obtain⟨t,rfl⟩:=ru;exact PySem.W.KIN.call_text hn hl ⟨.int n,H,I.tok _,⟨_,rfl⟩,p'.ret RD.mkI hS⟩
  .cases hz
 .have e:j9 S ds=mB S ds:=by
   unfold j9;split
   .exact(hd ⟨_,rfl⟩).elim
   .rfl
  rw[e]at p;exact wY pins s σ H xs us Q I r ⟨w,S,ds,hS,qs,p⟩
theorem oW{K:Frag}{w:Wd}:∀ys:List Str,RDs K w H (ys.map .str) (ys.map V.str)
 |[]=>by unfold RDs;trivial
 |y::ys=>RDs.cons RD.mkS (oW ys)
theorem rl:∀l:List (Str×Tok),Vals ((l.map (·.1)).map V.str) (strValues l)
 |[]=>.nil
 |p::l=>.cons ⟨p.2,rfl⟩ (rl l)
def BW:MtR X "str.split" (xM X.K E oV):=by
 rintro pins s σ H x xs v us Q I rx rs ⟨w,S,d,ds,hS,qd,qs,p⟩;unfold oV at p;split at p
 .rename_i x0 y0;split at p
  .rename_i hl;cases qd.str;obtain⟨yv,rfl,qy⟩:=qs.one_inv;cases qy.str;obtain⟨t,rfl⟩:=rx;obtain⟨u,rfl,ru⟩:=Wb rs;obtain⟨t2,rfl⟩:=ru;refine BV hl.1 hl.2.1 hl.2.2.1 λl k e=>?_;have hf:H s.heap.objs.size=none:=I.hok.fresh (Yd _);refine⟨.ref s.heap.objs.size,_,I.laid (t':=k) (o:=.lst ((Txt.split x0 y0).map V.str)) (λb ob q=>Y7 _ q) (Yd _) ?_,rfl,p.at (Ext.new hf) (RD.newLst hS hf (oW _)) (hS.new hf)⟩
   exact⟨by rw[Yh];exact hl.2.2.2,_,0,by rw[<- e];exact rl l,Yg _ rfl⟩
  .exact p.elim
 .exact p.elim
def Hg:SlR X (xL X.K E xp):=by
 rintro pins s σ H x v vl vu lo hi sl Q I rx hs pl pu ⟨w,S,d,hS,qd,p⟩;by_cases hd:∃z,d=.str z
 .obtain⟨z,rfl⟩:=hd;obtain⟨y,hy,p'⟩:=p.of;clear p;unfold xp at hy;simp only at hy;split at hy
  .rename_i hl;cases hy;cases qd.str;obtain⟨t,rfl⟩:=rx;refine⟨"str",_,F.slot_str_getitem.lookup,typeIs_str _ _ _,?_⟩
   have done:∀{l u:Option (Int×Tok)},s.heap.IsSlice sl l u none->l.map (·.1)=lo->u.map (·.1)=hi->wpAny (model X.prog X.w) X.A (getItem (.str z t) (.ref sl)) (EP X pins σ Q) X.xe s:=λ{l u} h1 h2 h3=>by subst h2;subst h3;exact wpAny_getItem_str_slice (l:=l) (u:=u) (st:=none) h1 rfl (post_val_or_str ⟨Yv (Txt.slice_le z _ _) hl,λt' k=>⟨.str _,H,I.tok _,⟨_,rfl⟩,p'.ret RD.mkS hS⟩⟩)
   obtain⟨o,h1,h2,h3⟩:=hs;cases pl with
   |none=>
    cases pu with
    |none=>exact done (l:=none) (u:=none) ⟨o,h1,h2,h3⟩ rfl rfl
    |int j uj=>exact done (l:=none) (u:=some (j,uj)) ⟨o,h1,h2,h3⟩ rfl rfl
   |int i ui=>
    cases pu with
    |none=>exact done (l:=some (i,ui)) (u:=none) ⟨o,h1,h2,h3⟩ rfl rfl
    |int j uj=>exact done (l:=some (i,ui)) (u:=some (j,uj)) ⟨o,h1,h2,h3⟩ rfl rfl
  .cases hy
 .have e:xp S d lo hi=iN S d lo hi:=by
   unfold xp;split
   .exact(hd ⟨_,rfl⟩).elim
   .rfl
  rw[e]at p;exact mz pins s σ H x v vl vu lo hi sl Q I rx hs pl pu ⟨w,S,d,hS,qd,p⟩
def Hh{tg:Expr}(ha:SE X E a ma):SI X E tg a (bJ ma yE):=⟨
 gI (Hf ha.out) λs H Q zq=>ex6 zq λw r S hr hS hp=>⟨w,r,S,hr,hS,hp.bind hS λd S1 w1 H1 v x1 q1 s1 p1=>by
  cases d with
  |str x=>
   cases q1.str;refine⟨x,rfl,aD.ret p1 ?_ s1⟩;intro i w' H' x'
   refine⟨λhi=>⟨by unfold chs at hi;rw[Yh]at hi;exact hi,λy H'' h=>?_⟩,λhi=>by unfold chs at hi;rw[Yh]at hi;exact hi⟩
   obtain⟨rfl,c,hc,rfl⟩:=h;refine⟨.inl rfl,λS _=>⟨.str ⟨#[c]⟩,?_,RD.mkS⟩⟩;unfold chs;rw[Q2,U1,hc];rfl
  |_=>exact p1.elim⟩⟩
end
section
variable{X:Cx}{E:XK}
def Jt{y:Str}(hm:∃t,X.mg x=some (.str y t))(hg:Gl X x)(hd:autoParam ((x == ("__debug__":Str))=false) zz3._auto_1):SE X E (.Name x pos) (eC (.str y)):=by obtain⟨t,hm⟩:=hm;exact sx (iG hg hm (v:=.str y) ⟨t,rfl⟩ hd) λ_ _=>RD.mkS
end
def dP:PyData->Option D
 |.int i=>some (.int i)
 |.str x=>some (.str x)
 |.bool b=>some (.bl b)
 |.none=>some .non
 |_=>none
def TabI(K:Frag)(mg:Str->Option Value)(x:Str)(T:List (Int×PyData)):Prop:=∃a,mg x=some (.ref a)/\KTD.keyedLook (λb=>K.lookup b) a T=true
def Ea{K:Frag}(X:K.In h)(G:h.Ns mainGlobals mg){a:Addr}{T:List (Int×PyData)}(hn:nsIn K mainGlobals x=some (some (.ref a)))(hl:KTD.keyedLook (λb=>K.lookup b) a T=true):TabI K mg x T:=⟨a,Yj X G hn,hl⟩
def vg(T:List (Int×PyData))(mb:EM):EM:=λr S=>(mb r S).bind λy S1=>match y with
 |.int k=>R.of S1 ((KTD.datumAt k T).bind dP)
 |_=>.bad
theorem vh{κ:Type}[DecidableEq κ]{h₀:Heap}{k:κ}{P:Value->Prop}:∀{T:List (κ×KTD.Dat)},(∀d,KTD.datumAt k T=some d->KTD.Opened h₀ P d)->KTD.EachL h₀ k P T
 |[],_=>trivial
 |[(x,d)],h=>λe=>h d (by show(if decide (k=x)=true then some d else _)=_;rw[Y8 (by simp[e])])
 |(x,d)::p::T,h=>by
  show if decide (k=x)=true then KTD.Opened h₀ P d else KTD.EachL h₀ k P (p::T)
  by_cases e:k=x
  .rw[Y8 (by simp[e])]
   exact h d (by show(if decide (k=x)=true then some d else _)=_;rw[Y8 (by simp[e])])
  .rw[Yi (by simp[e])]
   exact vh λd' hd=>h d' (by show(if decide (k=x)=true then some d else _)=_;rw[Yi (by simp[e])];exact hd)
def Ad{h₀:Heap}{P:Value->Prop}{d:PyData}{z:D}(e:dP d=some z)(h:∀v u,(∀K w H,RD K w H z v)->RelV v u->P u):KTD.Opened h₀ P (.flat d):=by
 unfold dP at e;split at e
 .cases e;exact KTD.opened_int λt=>h (.int _) _ (λ_ _ _=>RD.mkI) ⟨t,rfl⟩
 .cases e;exact KTD.opened_str λt=>h (.str _) _ (λ_ _ _=>RD.mkS) ⟨t,rfl⟩
 .cases e;exact KTD.opened_bool (h (.bl _) _ (λ_ _ _=>RD.mkB) rfl)
 .cases e;exact KTD.opened_none (h .non _ (λ_ _ _=>by unfold RD;rfl) rfl)
 .cases e
section
variable{X:Cx}{E:XK}{b:Expr}{mb:EM}{pos p1:Pos}{x:Str}
def Eb{T:List (Int×PyData)}(h:TabI X.K X.mg x T)(hg:Gl X x)(hb:SE X E b mb)(hs:nU b:=by intro _ _;kernel_rfl)(hd:autoParam ((x == ("__debug__":Str))=false) zz3._auto_1):SE X E (.Subscript (.Name x p1) b pos) (vg T mb):=by
 obtain⟨a,hm,hl⟩:=h;refine⟨λpins s σ H Q I zq=>ex6 zq λw r S hr hS hp=>Subscript_ (thn (iG (pos:=p1) hg hm (v:=.ref a) rfl hd pins s σ H (λv H1=>v=.ref a/\H1=H) I ⟨rfl,rfl⟩) λv s1 zq=>?_)⟩;obtain⟨v',H1,I1,r1,e1,e2⟩:=zq;subst e1 e2;cases r1
 refine thn (hb.out pins s1 σ H1 (λy H2=>∃w S d,RS X.K w H2 S/\RD X.K w H2 d y/\aD X.K E (RD X.K) w H2 (match d with | .int k=>R.of S ((KTD.datumAt k T).bind dP)|_=>.bad) Q) I1 ⟨w,r,S,hr,hS,hp.bind hS λd S1 w1 H2 v x1 q1 s1 p1=>⟨w1,S1,d,s1,q1,p1⟩⟩) λu s2 zq=>?_
 obtain⟨y,H2,I2,r2,w2,S2,d,hS2,qd,p⟩:=zq;cases d with
 |int k=>
  simp only at p;obtain⟨z,hz,p'⟩:=p.of;cases hdat:KTD.datumAt k T with
  |none=>rw[hdat]at hz;cases hz
  |some c=>
   rw[hdat]at hz;cases qd.int;obtain⟨t,rfl⟩:=r2
   refine KTD.item_keyed (KTD.keyed_of_look (h:=s2.heap) (λb o e=>I2.kIn b o e) hl) (λ_ _ e=>e) (by rw[<- Qp,hdat];rfl) (vh λd' hd'=>?_) (hs _ _) (by intro _;with_unfolding_all rfl)
   rw[KTD.datumAt_asDat,hdat]at hd';cases hd';exact Ad hz λv u q rv=>⟨v,H2,I2.tok _,rv,p'.ret (q _ _ _) hS2⟩
 |_=>exact p.elim
end
def lkF:Option Addr->Value->Bool
 |none,_=>true
 |some a,.ref b=>b == a
 |some _,_=>false
def Hi{d:Option Addr}{v:Value}(h:lkF d v=true):∀a,d=some a->v=.ref a:=by
 intro a e;subst e;cases v with
 |ref b=>rw[Us (show(b == a)=true from h)]
 |_=>cases h
theorem BX(prog:Program)(w:World){δ:Type}{R:δ->Value->Prop}{es:List DictEntry}{D:List (Str×δ)}(h:KTD.Rows R es D):es.map (·.hash)=D.map (λp=>hashStr w p.1)->
  (∀e∈es,∃k,(PySem.strKind prog w).is k e.key=true/\e.hash=(PySem.strKind prog w).hash k)/\∃kvs:List (Str×Value),Pairs (PySem.strKind prog w) es kvs/\kvs.map (·.1)=D.map (·.1)/\∀k,(∀d,KTD.datumAt k D=some d->∃v,valueAt kvs k=some v/\R d v)/\(KTD.datumAt k D=none->valueAt kvs k=none):=by
 induction h with
 |nil=>exact λ_=>⟨(λ_ h=>(nomatch h)),[],.nil,rfl,λk=>⟨λd h=>(by cases h),λ_=>rfl⟩⟩
 | @cons e x t d es D hkey hv _ ih=>
  intro hh;rw[Yb,Yb]at hh;injection hh with h1 h2;obtain⟨hk,kvs,hp,hm,hf⟩:=ih h2
  have hi:(PySem.strKind prog w).is x e.key=true:=by rw[hkey];exact strKind_is prog w x t
  refine⟨λe' he'=>?_,(x,e.val)::kvs,.cons hi rfl hp,by rw[Yb,Yb,hm],λk=>?_⟩
  .cases he' with
   |head=>exact⟨x,hi,h1⟩
   |tail _ he'=>exact hk e' he'
  .by_cases hx:k=x
   .subst hx
    have e1:KTD.datumAt k ((k,d)::D)=some d:=by show(if decide (k=k)=true then some d else _)=_;rw[Y8 (by simp)]
    have e2:valueAt ((k,e.val)::kvs) k=some e.val:=by simp[valueAt]
    rw[e1,e2]
    exact⟨λd' h'=>by cases h';exact⟨_,rfl,hv⟩,λh'=>by cases h'⟩
   .have e1:KTD.datumAt k ((x,d)::D)=KTD.datumAt k D:=by show(if decide (k=x)=true then some d else _)=_;rw[Yi (by simp[hx])]
    have e2:valueAt ((x,e.val)::kvs) k=valueAt kvs k:=by have:¬x=k:=λz=>hx z.symm;simp[valueAt,this]
    rw[e1,e2];exact hf k
structure TabF(K:Frag)(mg:Str->Option Value)(w:World)(x:Str)(L:List (Str×Option Str)):Prop where
 ex:∃(a:Addr)(D:List (Str×Option Addr)),mg x=some (.ref a)/\KTD.tabLook lkF (λb=>K.lookup b) a D=true/\KTD.hashesOf (λb=>K.lookup b) a=D.map (λp=>hashStr w p.1)/\(D.map (·.1)).Nodup/\
  D.map (λp=>(p.1,p.2.map λq=>some (Value.ref q)))=L.map λp=>(p.1,p.2.map mg)
def yF{K:Frag}(X:K.In h)(G:h.Ns mainGlobals mg){w:World}{a:Addr}{D:List (Str×Option Addr)}{L:List (Str×Option Str)}(hn:nsIn K mainGlobals x=some (some (.ref a)))
  (hl:KTD.tabLook lkF (λb=>K.lookup b) a D=true) (hh:KTD.hashesOf (λb=>K.lookup b) a=D.map (λp=>hashStr w p.1)) (hd:(D.map (·.1)).Nodup) (hL:D.map (λp=>(p.1,p.2.map λq=>some (Value.ref q)))=L.map λp=>(p.1,p.2.map mg)):TabF K mg w x L:=
 ⟨a,D,Yj X G hn,hl,hh,hd,hL⟩
theorem oX:∀{D:List (Str×Option Addr)}{L:List (Str×Option Str)},D.map (λp=>(p.1,p.2.map λq=>some (Value.ref q)))=L.map (λp=>(p.1,p.2.map mg))->∀k:Str,
  (KTD.inKeys k D=KTD.inKeys k L)/\∀n,KTD.datumAt k L=some (some n)->∃a,KTD.datumAt k D=some (some a)/\mg n=some (.ref a)
 |[],[],_,k=>⟨rfl,λn h=>by cases h⟩
 |[],_::_,h,_=>by cases h
 |_::_,[],h,_=>by cases h
 |(x,d)::D,(y,o)::L,h,k=>by
  rw[Yb,Yb]at h;injection h with h1 h2;injection h1 with h3 h4;obtain rfl:x=y:=h3
  obtain⟨i1,i2⟩:=oX h2 k;by_cases hx:k=x
  .subst hx
   have e1:KTD.datumAt k ((k,d)::D)=some d:=by show(if decide (k=k)=true then some d else _)=_;rw[Y8 (by simp)]
   have e2:KTD.datumAt k ((k,o)::L)=some o:=by show(if decide (k=k)=true then some o else _)=_;rw[Y8 (by simp)]
   rw[<- Qp,<- Qp,e1,e2];refine⟨rfl,λn hn=>?_⟩;cases hn;cases d with
   |none=>cases h4
   |some q=>
    have h5:some (some (Value.ref q))=some (mg n):=h4;injection h5 with h6;exact⟨q,rfl,h6.symm⟩
  .have e1:KTD.datumAt k ((x,d)::D)=KTD.datumAt k D:=by show(if decide (k=x)=true then some d else _)=_;rw[Yi (by simp[hx])]
   have e2:KTD.datumAt k ((x,o)::L)=KTD.datumAt k L:=by show(if decide (k=x)=true then some o else _)=_;rw[Yi (by simp[hx])]
   rw[<- Qp,<- Qp,e1,e2,Qp,Qp];exact⟨i1,i2⟩
section
variable{X:Cx}{E:XK}{pos p1:Pos}{x:Str}
theorem yG{pins:List (Addr×Obj)}{s:Shared}{σ:L2.St}{a:Addr}{D:List (Str×Option Addr)}(I:Inv X pins σ H s)(hl:KTD.tabLook lkF (λb=>X.K.lookup b) a D=true)(hh:KTD.hashesOf (λb=>X.K.lookup b) a=D.map (λp=>hashStr X.w p.1))(hn:(D.map (·.1)).Nodup):
  (a == sysModules)=false/\∃kvs:List (Str×Value),s.heap.DictOf (PySem.strKind X.prog X.w) a kvs/\∀k,(∀q,KTD.datumAt k D=some (some q)->valueAt kvs k=some (.ref q))/\(valueAt kvs k).isSome=KTD.inKeys k D:=by
 obtain⟨h0,o,es,ep,ho,hc,hd,hr⟩:=KTD.tab_of_look (R:=λ(d:Option Addr)(v:Value)=>∀q,d=some q->v=.ref q) (λd v q=>Hi q) (h:=s.heap) (λb o e=>I.kIn b o e) hl
 have hh':es.toList.map (·.hash)=D.map (λp=>hashStr X.w p.1):=by
  rw[<- hh];unfold KTD.hashesOf;unfold KTD.tabLook at hl;split at hl
  .rename_i o' ho'
   have:o'=o:=by have h1:=I.kIn a o' ho';rw[h1]at ho;cases ho;rfl
   subst this;simp only[ho',hd]
  .simp at hl
 obtain⟨hk,kvs,hp,hm,hf⟩:=BX X.prog X.w hr hh'
 refine⟨h0,kvs,⟨o,es,ep,ho,hc,hd,λe he=>hk e (by simpa using he),hp,by rw[hm];exact hn⟩,λk=>⟨λq hq=>?_,?_⟩⟩
 .obtain⟨v,hv,hr⟩:=(hf k).1 _ hq;rw[hv,hr q rfl]
 .rw[<- Qp];cases hd:KTD.datumAt k D with
  |none=>rw[(hf k).2 hd];rfl
  |some d=>
   obtain⟨v,hv,_⟩:=(hf k).1 d hd;rw[hv];rfl
def Ae(L:List (Str×Option Str))(ma:EM):EM:=λr S=>(ma r S).bind λy S1=>match y with
 |.str k=>.ok (.bl (KTD.inKeys k L)) S1
 |_=>.bad
def Kl(a:Addr)(L:List (Str×Option Str)):R2:=λx y H Q=>y=.ref a/\∃k,x=.str k/\Q (.bl (KTD.inKeys k L)) H
def BY{L:List (Str×Option Str)}(h:TabF X.K X.mg X.w x L)(hg:Gl X x)(ha:SE X E a ma)(hm:autoParam (behindInMarks .In (.Name x p1)=false) zz0._auto_1)(hd:autoParam ((x == ("__debug__":Str))=false) zz3._auto_1):SE X E (.Compare a [.In] [.Name x p1] pos) (Ae L ma):=by
 obtain⟨q,D,hmg,hl,hh,hn,hL⟩:=h.ex
 have ho:OpR X (compareOp .In) (Kl q L):=by
  rintro pins s σ H x y v u Q I rx ry ⟨rfl,k,rfl,z⟩;cases ry;obtain⟨t,rfl⟩:=rx;obtain⟨h0,kvs,hD,hk⟩:=yG I hl hh hn
  exact wpAny_in_of (strKind_is X.prog X.w k t) h0 hD.mapOf (by rw[(hk k).2,(oX hL k).1];exact⟨.bl _,H,I.tok _,rfl,z⟩)
 refine⟨bb (yc ho ha.out (iG hg hmg (v:=.ref q) rfl hd) hm) λs H Q zq=>?_⟩;obtain⟨w,r,S,hr,hS,hp⟩:=zq
 exact⟨w,r,S,hr,hS,hp.bind hS λd S1 w1 H1 v x1 q1 s1 p1=>⟨rfl,by
  cases d with
  |str k=>cases q1.str;exact⟨k,rfl,aD.ret p1 RD.mkB s1⟩
  |_=>exact p1.elim⟩⟩
abbrev Dsp:=List (Str×Option (Str×FM))
def Dsp.nm(T:Dsp):List (Str×Option Str):=T.map λp=>(p.1,p.2.map (·.1))
def vk(T:Dsp)(mb:EM)(ms:AM):EM:=λr S=>(mb r S).bind λy S1=>match y with
 |.str key=>match KTD.datumAt key T with
  |some (some nf)=>(ms r S1).bind λxs S2=>nf.2 xs S2
  |_=>.bad
 |_=>.bad
structure DspR(P:Program)(w:World)(K:Frag)(mg:Str->Option Value)(base:Heap)(k n:Nat)(T:Dsp):Prop where
 all:∀key nf,KTD.datumAt key T=some (some nf)->DefR P w K mg base nf.1 k n nf.2
def yH{K:Frag}{k:Nat}:DspR P w K mg base k n []:=⟨λ_ _ h=>by cases h⟩
def Hj{K:Frag}{k:Nat}{T:Dsp}{x:Str}(h:DspR P w K mg base k n T):DspR P w K mg base k n ((x,none)::T):=⟨λkey nf e=>by
 have e':(if decide (key=x)=true then some none else KTD.datumAt key T)=some (some nf):=e
 split at e'
 .cases e'
 .exact h.all key nf e'⟩
def gL{K:Frag}{k:Nat}{T:Dsp}{x nm:Str}(d:DefR P w K mg base nm k n f)(h:DspR P w K mg base k n T):DspR P w K mg base k n ((x,some (nm,f))::T):=⟨λkey nf e=>by
 have e':(if decide (key=x)=true then some (some (nm,f)) else KTD.datumAt key T)=some (some nf):=e
 split at e'
 .cases e';exact d
 .exact h.all key nf e'⟩
def DefR.up{K:Frag}{nm:Str}{k k':Nat}(d:DefR P w K mg base nm k n f)(h:k<=k'):DefR P w K mg base nm k' n f:=by obtain⟨fa,fd,ps,hm,hk,hb,F⟩:=d.ex;exact⟨fa,fd,ps,hm,hk,hb,F.mono h⟩
theorem Fn{key:Str}{nf:Str×FM}:∀{T:Dsp},KTD.datumAt key T=some (some nf)->KTD.datumAt key T.nm=some (some nf.1)
 |[],h=>by cases h
 |(x,o)::T,h=>by
  have h':(if decide (key=x)=true then some o else KTD.datumAt key T)=some (some nf):=h
  show(if decide (key=x)=true then some (o.map (·.1)) else KTD.datumAt key (Dsp.nm T))=_
  split at h'
  .rename_i c;cases h';rw[Y8 c];rfl
  .rename_i c;rw[Yi c];exact Fn h'
theorem yI{b:Expr}{es:List Expr}{mb:EM}{ms:AM}{T:Dsp}{k:Nat}{p2:Pos}(D:DspR X.prog X.w X.K X.mg X.base k n T)(h:TabF X.K X.mg X.w x T.nm)(hx:Passes (CX1 X.prog X.w) X E)(hr:Room k X.A)(hg:Gl X x)(hb:SE X E b mb)(ha:SA X E (a::es) ms)(hn:w8 ms n)
  (hs:nU b:=by intro _ _;kernel_rfl) (hdb:autoParam ((x == ("__debug__":Str))=false) zz3._auto_1)
  (hc:autoParam (eval (.Call (.Subscript (.Name x p1) b p2) (a::es) [] pos) X.env=(do callWith pos (<- eval (.Subscript (.Name x p1) b p2) X.env) [] (backTo pos (starEach (a::es) X.env)) (backToKw pos (keywordEach [] X.env)))) zz0._auto_1)
  (he:autoParam (starEach (a::es) X.env=(false,eval a X.env)::starEach es X.env) zz0._auto_1) (hpl:autoParam ((backTo pos (starEach es X.env)).any (·.1)=false) zz0._auto_1):
  SE X E (.Call (.Subscript (.Name x p1) b p2) (a::es) [] pos) (vk T mb ms):=by
 obtain⟨q0,L,hmg,hl,hh,hnd,hL⟩:=h.ex;refine⟨λpins s σ H Q I ⟨w,r,S,hrr,hS,hp⟩=>Call_ (Subscript_ (thn (iG (pos:=p1) hg hmg (v:=.ref q0) rfl hdb pins s σ H (λv H1=>v=.ref q0/\H1=H) I ⟨rfl,rfl⟩) λv s1 zq=>?_)) hc⟩;obtain⟨v',H1,I1,r1,e1,e2⟩:=zq;subst e1 e2;cases r1
 refine thn (hb.out pins s1 σ H1 (λy H2=>∃w S d,RSt X.K w H2 r σ/\RS X.K w H2 S/\RD X.K w H2 d y/\aD X.K E (RD X.K) w H2 (match d with
  |.str key=>match KTD.datumAt key T with
   |some (some nf)=>(ms r S).bind λxs S2=>nf.2 xs S2
   |_=>.bad
  |_=>.bad) Q) I1 ⟨w,r,S,hrr,hS,hp.bind hS λd S1 w1 H2 v x1 q1 s1 p1=>⟨w1,S1,d,hrr.ext x1,s1,q1,p1⟩⟩) λu s2 ⟨y,H2,I2,r2,w2,S2,d,hr2,hS2,qd,p⟩=>?_
 cases d with
 |str key=>
  simp only at p;cases hdat:KTD.datumAt key T with
  |none=>rw[hdat]at p;exact p.elim
  |some o=>
   cases o with
   |none=>rw[hdat]at p;exact p.elim
   |some nf=>
    rw[hdat]at p;simp only at p;obtain⟨fa,fd,ps,hm,hk,hbd,F⟩:=(D.all key nf hdat).ex;obtain⟨q,hq,hmq⟩:=(oX hL key).2 _ (Fn hdat);rw[hm]at hmq;cases hmq;obtain⟨h0,kvs,hD,hkv⟩:=yG I2 hl hh hnd;cases qd.str;obtain⟨t,rfl⟩:=r2
    refine subscriptTail_builtin hD.typeIs slot_dict_getitem.lookup (wpAny_getItem_of (strKind_is X.prog X.w key t) hD.mapOf ((hkv key).1 _ hq) ?_) (hs _ _) (by intro _;with_unfolding_all rfl)
    have I3:Inv X pins σ H2 { s2 with toks:=s2.toks+1 }:=I2.tok _
    refine Ur (first:=[]) (h₀:=X.base) I.ok.mod.kin hk (thn (ha.out pos pins _ σ H2 _ I3 (show uA X.K E ms σ H2 (λvs H1=>spM X.K n nf.2 (vs++[]) H1 Q E) from ⟨w2,r,S2,hr2,hS2,?_⟩)) λus s4 zq=>ex5 zq λvs H4 I4 r4 q4=>⟨I4.kIn,sd F hr hbd .nil hx I4 r4 q4⟩) he hpl
    cases e:ms r S2 with
    |bad=>rw[e]at p;exact p.elim
    |err y S'=>rw[e]at p;exact p
    |ok ds S'=>
     rw[e]at p;intro w1 H1 vs x1 q1 s1;rw[Qh]
     exact⟨by rw[q1.length];exact hn r S2 ds S' e,w1,S',ds,s1,q1,aD.ext (r:=nf.2 ds S') p x1 hS2 s1⟩
 |_=>exact p.elim
def Af(a b:EM):EM:=λr S=>(a r S).bind λx S1=>match x with
 |.str z=>if z.length<=sizeLine then (if z.length=0 then b r S1 else .ok (.str z) S1) else .bad
 |_=>.bad
def Hk{b:Expr}{mb:EM}(ha:SE X E a ma)(hb:SE X E b mb):SE X E (.BoolOp .Or [a,b] pos) (Af ma mb):=by
 refine⟨λpins s σ H Q I zq=>ex6 zq λw r S hr hS hp=>BoolOp_or (thn (ha.out pins s σ H (λy H2=>∃w S d,RSt X.K w H2 r σ/\RS X.K w H2 S/\RD X.K w H2 d y/\aD X.K E (RD X.K) w H2 (match d with
  |.str z=>if z.length<=sizeLine then (if z.length=0 then mb r S else .ok (.str z) S) else .bad
  |_=>.bad) Q) I ⟨w,r,S,hr,hS,hp.bind hS λd S1 w1 H2 v x1 q1 s1 p1=>⟨w1,S1,d,hr.ext x1,s1,q1,p1⟩⟩) λu s2 ⟨y,H2,I2,r2,w2,S2,d,hr2,hS2,qd,p⟩=>?_)⟩
 cases d with
 |str z=>
  simp only at p;cases qd.str;obtain⟨t,rfl⟩:=r2;by_cases hl:z.length<=sizeLine
  .rw[Y8 hl]at p;have h63:=kl
   refine PySem.P.truthy_str (by omega) ?_
   have I3:Inv X pins σ H2 { s2 with toks:=s2.toks+1+1 }:=I2.tok _
   by_cases h0:z.length=0
   .rw[Y8 h0]at p;rw[h0];exact(AJ hb.out) pins _ σ H2 Q I3 ⟨w2,r,S2,hr2,hS2,p⟩
   .rw[Yi h0]at p
    have e:((z.length:Int) != 0)=true:=by rw[bne_iff_ne];omega
    rw[e];exact⟨.str z,H2,I3,⟨t,rfl⟩,p.ret RD.mkS hS2⟩
  .rw[Yi hl]at p;exact p.elim
 |_=>exact p.elim
def TupS(K:Frag)(mg:Str->Option Value)(x:Str)(ss:List Str):Prop:=∃a,mg x=some (.ref a)/\su K a (ss.map .str)
def Hl{ss:List Str}(h:TupS X.K X.mg x ss)(hg:Gl X x)(hd:autoParam ((x == ("__debug__":Str))=false) zz3._auto_1):SE X E (.Name x pos) (eC (.tup (ss.map .str))):=by
 obtain⟨a,hm,k⟩:=h
 exact sx (iG hg hm (v:=.ref a) rfl hd) λ_ _=>by unfold RD;exact⟨a,_,rfl,.inr k,oW ss⟩
def BZ{K:Frag}(X:K.In h)(G:h.Ns mainGlobals mg){x:Str}{a:Addr}{od:Option Addr}{sl:Array (Option Value)}{i j:Str}{t1 t2:Tok}(hn:nsIn K mainGlobals x=some (some (.ref a)))(hl:K.lookup a=some ⟨.type "tuple",od,.seq #[.str i t1,.str j t2] n,sl⟩):TupS K mg x [i,j]:=
 ⟨a,Yj X G hn,_,_,n,hl,rfl,rfl,by show 2<=sizeLine;decide,.cons ⟨t1,rfl⟩ (.cons ⟨t2,rfl⟩ .nil)⟩
end
section
variable{X:Cx}{body:List Stmt}{m:SM}{h₀:ExceptHandler}{hs:List ExceptHandler}{pos:Pos}
def Ec(hb:SSs X.nox E0 body m):SS X.nox E0 (.Try body (h₀::hs) [] [] pos) m:=⟨by
 intro pins s σ H D I hp;refine wpAny_Try_except (Qv (hb.out pins s σ H D I hp) (λf s' q=>?_) λ_ _ z=>False.elim z);cases f with
 |next=>obtain⟨σ',H',J,q⟩:=q;exact x8 (X:=X.nox) pins s' σ' H' D J q
 |brk=>exact q
 |cont=>exact q
 |ret u=>exact q⟩
end
def fNx(f:FM):FM:=λds S=>(f ds S).nx
theorem DefN.nx{K:Frag}{k:Nat}(D:DefN P w K mg base x k n f):DefR P w K mg base x k n (fNx f):=by obtain⟨fa,fd,ps,a,b,c,F⟩:=D.ex;exact⟨fa,fd,ps,a,b,c,F.imp λvs H Q E ⟨l,w,S,ds,hS,q,p⟩=>⟨l,w,S,ds,hS,q,aD.nx p⟩⟩
def B0:Sum Int Str->D
 |.inl i=>.int i
 |.inr x=>.str x
def oY:Sto->List D->Option D
 |S,[d]=>match bS S d with
  |some kvs=>some (.lst (kvs.map λp=>B0 p.1))
  |none=>uP S [d]
 |_,_=>none
section
variable{X:Cx}{E:XK}
def Ed{K:Frag}{w:Wd}(k:Sum Int Str):RD K w H (B0 k) (kV k):=by
 cases k with
 |inl i=>exact RD.mkI
 |inr x=>exact RD.mkS
theorem yJ{K:Frag}{w:Wd}:∀{kvs:List (Sum Int Str×D)}{us:List (Key×V)},RDk K w H kvs us->RDs K w H (kvs.map λp=>B0 p.1) (us.map λp=>kV p.1)
 |[],_,h=>by rw[h.nil_inv];exact .nil
 |(k,d)::ds,_,h=>by obtain⟨v,r,rfl,_,q⟩:=h.cons_inv;exact .cons (Ed k) (yJ q)
theorem vm:∀(vs:List V)(a:List Value),a.length=vs.length->(∀(j:Nat) v,a[j]?=some v->∃x,vs[j]?=some x/\RelV x v)->Vals vs a
 |[],[],_,_=>.nil
 |[],_::_,h,_=>by cases h
 |_::_,[],h,_=>by cases h
 |x::vs,v::a,h,hk=>by
  obtain⟨x',e,r⟩:=hk 0 v rfl;cases e
  exact .cons r (vm vs a (by simpa using h) λj v' e=>hk (j+1) v' (by simpa using e))
def B1(hh:X.A.handled=none):bI X (.type "list") (xC X.K E oY):=by
 rintro pins s σ H xs us Q I r ⟨w,S,ds,hS,qs,p⟩
 match ds,qs,p with
 |[],qs,p=>exact p.elim
 |_::_::_,qs,p=>exact p.elim
 |[d],qs,p=>
  have hf:oY S [d]=match bS S d with|some kvs=>some (.lst (kvs.map λp=>B0 p.1))|none=>uP S [d]:=rfl
  rw[hf]at p;cases hd:bS S d with
  |none=>
   rw[hd]at p;exact DI (E:=E) pins s σ H xs us Q I r ⟨w,S,[d],hS,qs,p⟩
  |some kvs=>
   rw[hd]at p;obtain⟨v,rfl,q⟩:=qs.one_inv;obtain⟨pp,us',rfl,rd,rk⟩:=kB hS q hd;obtain⟨u,rfl,rx⟩:=Wb r;cases rx;obtain⟨hl,hm,vs,rel,dd⟩:=jj I.hok rd;obtain⟨ep,hat⟩:=dd.dictAt;have e1:=rel.length;have fr:H s.heap.objs.size=none:=I.hok.fresh (Yd _)
   refine kdl_call (kdl_dict (knd:=bf X.prog X.w) (kvs:=vs) (ep:=ep) hm) hh hat (by omega) λh' tk acc c' kp e ha=>?_
   have hV:Vals (us'.map λp=>kV p.1) acc.toList:=vm _ _ (by rw[Yh];have:=ha.1;simp;omega) λj v hv=>by
    obtain⟨k,x,hx,hkey⟩:=ha.2 j v (by simpa using hv)
    have e:=Q8 (λl:List Key=>l[j]?) rel.keys;simp only[Q2,hx,Zv]at e;cases hu':us'[j]? with
    |none=>rw[hu']at e;cases e
    |some q=>rw[hu']at e;cases e;exact⟨kV q.1,by rw[Q2,hu'];rfl,oO hkey⟩
   refine⟨.ref s.heap.objs.size,_,I.laid (t':=tk) kp (Yd _) (show bR X.prog X.w _ h' _ (.lst (us'.map λp=>kV p.1)) from ⟨by rw[Yh];omega,acc.toList,c',hV,e⟩),rfl,?_⟩
   exact aD.at p (Ext.new fr) (RD.newLst hS fr (yJ rk)) (hS.new fr)
end
def vL{X:Cx}{E:XK}(i:Nat)(hN:X.N[i]?=some x:=by kernel_rfl)(hv:X.env.scope.names.lookup x=some .local:=by kernel_rfl)(hd:(x == ("__debug__":Str))=false:=by decide +kernel)(hcd:(x == ("__classdict__":Str))=false:=by decide +kernel):SE X E (.Name x pos) (ae i):=Bh i hN (Or.inl hv) hd hcd
def vC{X:Cx}{E:XK}(i:Nat)(hN:X.N[i]?=some x:=by kernel_rfl)(hv:X.env.scope.names.lookup x=some .cell:=by kernel_rfl)(hd:(x == ("__debug__":Str))=false:=by decide +kernel)(hcd:(x == ("__classdict__":Str))=false:=by decide +kernel):SE X E (.Name x pos) (ae i):=Bh i hN (Or.inr (Or.inl hv)) hd hcd
def fsk{N P:List Str}{sc:Scope}(a:sc.kind=.function:=by kernel_rfl)(b:sc.isCoroutine=false:=by kernel_rfl)(c:sc.isGenerator=false:=by kernel_rfl)(d:N.Nodup:=by decide +kernel)(e:N.take P.length=P:=by rfl)(f:∀x∈P,sc.names.lookup x=some .local\/sc.names.lookup x=some .cell:=by decide +kernel)(g:∀y∈sc.names,y.2≠.free:=by decide +kernel):FnScope N P sc:=⟨a,b,c,d,e,f,g⟩
end PD
def Y0{α:Sort _}{a b:α}(h:a=b:=by kernel_rfl):a=b:=h
def Y2{α:Sort _}{a b:α}{p:Prop}(h:a=b:=by kernel_rfl):a=b\/p:=Or.inl h
def Y3{α:Sort _}{a b:α}{p q:Prop}(h:a=b:=by kernel_rfl):p\/a=b\/q:=Or.inr (Or.inl h)
def Y5{p:Prop}[Decidable p](h:p:=by decide +kernel):p:=h
open L2 in
def Y1{X:Cx}{x:PySem.Str}(h:Gl X x:=by unfold Gl;kernel_rfl):Gl X x:=h
namespace Lw
open PySem PySem.Spec PyProof.Rows L2 PD
variable{b n i m κ δ:Nat}{S S1 S2 S3 S0:Sto}{e a o:EM}{tl r r1 ρ:Rho}{xs K u p ys A B:List Int}{it t:AM}{caps:List Nat}{x c w:Str}{v q s y g:Int}{T W:List (Int×Int)}{f C:Addr}{nf:Str×FM}{ps:List (Nat×Int)}{l:List (Str×Str)}{fd:FuncData}
def nml_ASKED_OF_A_NUMBER:List (Str×Option Str):=[("comes",some "comes_text"),("ways",some "ways_text"),("signs",some "signs_text"),("near",some "near_text")]
def nml_ASKED_ALONE:List (Str×Option Str):=[("row",some "row_text"),("total",none),("even",some "even_text"),("swing",some "swing_text"),("every",some "every_text")]
def tab_MARK_OF:List (Int×PyData):=[((1:Int),.str "+"),((0:Int),.str "."),((-1:Int),.str "-")]
def raisedX:List Str:=[]
def askedX:List Str:=[]
def isaX(c k:Str):Bool:=c == k||k == "PlusError"
abbrev bK:Stmt:=inClass (top 50) 0
def gM:SM:=(aA (j8 "Keeper" "numbers" (ae 0) (g7 ak)) (j8 "Keeper" "earlier" (ae 0) (eNew ak)))
def cG:FM:=fnM 1 gM
abbrev cc:Stmt:=inClass (top 75) 0
def i5:SM:=(j8 "Desk" "keeper" (ae 0) (Ab "Keeper" cG))
def dj:FM:=fnM 1 i5
abbrev cf:Stmt:=inClass (top 50) 4
def i6:SM:=(aA (sIf (tV (eOp G5 (iw "Keeper" "earlier" (ae 0)) (ik ak))) qg bj) (aA (j8 "Keeper" "numbers" (ae 0) (Fm (iw "Keeper" "earlier" (ae 0)))) (aX (eB cW (af (iw "Keeper" "numbers" (ae 0)) ak)))))
def eF:FM:=fnM 1 i6
abbrev cg:Stmt:=inClass (top 50) 1
def i7:SM:=(aA (cH (sO eX (iw "Keeper" "earlier" (ae 0)) (af (iw "Keeper" "numbers" (ae 0)) ak))) (aA (j8 "Keeper" "numbers" (ae 0) (ae 1)) (aX (eB cW (af (ae 1) ak)))))
def bU:FM:=fnM 2 i7
abbrev gN:Stmt:=top 14
def kH:SM:=(aX (kY (eB kr (af (ae 0) (af (eC (.ty "int")) ak))) (GL (eB kr (af (ae 0) (af (eC (.ty "bool")) ak))))))
def bL:FM:=fnM 1 kH
abbrev dQ:Stmt:=top 18
def fQ:SM:=(sIf (PD.je (tV (az bL (af (ae 0) ak)))) qg bj)
def bu:FM:=fnM 1 fQ
abbrev cv:Stmt:=top 19
def fI:SM:=(aA (cH (az bu (af (ae 1) ak))) (sIf (tV (eOp oLt (ae 1) (ae 0))) qg bj))
def bQ:FM:=fnM 2 fI
abbrev cB:Stmt:=inClass (top 50) 2
def jt:SM:=(aA (cH (az bQ (af (eC (.int 1)) (af (ae 1) ak)))) (aA (sIf (tV (eOp fO (eB cW (af (iw "Keeper" "numbers" (ae 0)) ak)) (eC (.int (16))))) qg bj) (aX (kG "Keeper" "change" bU (ae 0) (af (eOp aT (iw "Keeper" "numbers" (ae 0)) (g7 (af (ae 1) ak))) ak)))))
def cO:FM:=fnM 2 jt
abbrev dn:Stmt:=inClass (top 50) 5
def lD:SM:=(aX (iw "Keeper" "numbers" (ae 0)))
def eZ:FM:=fnM 1 lD
abbrev cj:Stmt:=inClass (top 50) 3
def i8:SM:=(aA (sIf (tV (eOp fO (iw "Keeper" "numbers" (ae 0)) (g7 ak))) qg bj) (aX (kG "Keeper" "change" bU (ae 0) (af (eSl iN (iw "Keeper" "numbers" (ae 0)) oNo (gJ (eUn wW (eC (.int 1))))) ak))))
def eG:FM:=fnM 1 i8
abbrev fW:Stmt:=top 29
def nr:SM:=(aA (aO 1 (eOp lh (eB cW (af (ae 0) ak)) (eC (.int 2)))) (aX (g7 (af (eSl iN (ae 0) oNo (gJ (ae 1))) (af (eSl iN (ae 0) (gJ (ae 1)) oNo) ak)))))
def bo:FM:=fnM 2 nr
abbrev jM:Stmt:=top 16
def ju:SM:=(aA (sIf (PD.tOr (PD.je (tV (eB kr (af (ae 0) (af (eC (.ty "tuple")) ak))))) (tV (eOp oGt (eB cW (af (ae 0) ak)) (eC (.int (16)))))) (aX (eC (.bl false))) bj) (aX (eB nC (af (bq (bJ (ae 0) bB) 1 [] (.nm 0) bZ (kY (az bL (af (ae 0) ak)) (eOp oGe (ae 0) (eC (.int 1))))) ak))))
def fJ:FM:=fnM 1 ju
abbrev fC:Stmt:=top 17
def iO:SM:=(sIf (PD.je (tV (az fJ (af (ae 0) ak)))) qg bj)
def aW:FM:=fnM 1 iO
abbrev bO:Stmt:=top 20
def eQ:SM:=(aA (cH (az aW (af (ae 0) ak))) (cH (az bu (af (ae 1) ak))))
def aG:FM:=fnM 2 eQ
abbrev iP:Stmt:=top 26
def rm:SM:=(aA (aO 3 yu) (aA (fj (eN (ae 0)) (.tp [(.nm 4),(.nm 5)]) (fj (bJ (ae 2) bB) (.nm 6) (aA (aO 7 (eOp aT (ae 4) (eOp cI (ae 6) (ae 1)))) (gn dh (eOp aT (fk (ae 3) (ae 7) (eC (.int 0))) (ae 5)) (ae 3) (ae 7))))) (aX (ae 3))))
def gk:FM:=fnM 8 rm
abbrev gP:Stmt:=top 27
def oZ:SM:=(aA (aO 2 (jn [((eC (.int 0)),(eC (.int 1)))])) (aA (fj (bJ (ae 0) bB) (.nm 3) (aO 2 (az gk (af (ae 2) (af (ae 3) (af (ae 1) ak)))))) (aX (ae 2))))
def de:FM:=fnM 4 oZ
abbrev fD:Stmt:=top 31
def lE:SM:=(aA (cH (az aG (af (ae 0) (af (ae 1) ak)))) (aA (aO 2 (bq (bJ (az bo (af (ae 0) ak)) bB) 1 [] (.nm 0) bZ (az de (af (ae 0) (af (eC (.tup (([(-1),(1)]:List Int).map .int))) ak))))) (aX (eB uU (af (bq (eN (eOp fH (ae 2) (eC (.int 0)))) 2 [2,1] (.tp [(.nm 0),(.nm 1)]) bZ (eOp cI (ae 1) (fk (eOp fH (ae 2) (eC (.int 1))) (eOp g9 (ae 3) (ae 0)) (eC (.int 0))))) ak)))))
def F_many_met_n:FM:=fnM 3 lE
abbrev cC:Stmt:=top 64
def jv:SM:=(aX (eIf (tV (eOp oGt (az F_many_met_n (af (ae 0) (af (ae 1) ak))) (eC (.int 0)))) (eC (.str "yes")) (eC (.str "no"))))
def cP:FM:=fnM 2 jv
abbrev dR:Stmt:=top 30
def i9:SM:=(aA (cH (az aW (af (ae 0) ak))) (aX (eB jm (af (bq (bJ (az bo (af (ae 0) ak)) bB) 1 [] (.nm 0) bZ (eB jm (af (eB u6 (af (az de (af (ae 0) (af (eC (.tup (([(-1),(1)]:List Int).map .int))) ak))) ak)) ak))) ak))))
def dm:FM:=fnM 1 i9
abbrev jN:Stmt:=top 35
def vn:SM:=(aA (aO 2 (az dm (af (ae 0) ak))) (aA (aO 3 (eNew ak)) (aA (aO 4 (eC (.int 0))) (aA (aO 5 (eOp g9 (eB cW (af (eOp oIx (ae 2) (eC (.int 1))) ak)) (eC (.int 1)))) (aA (sWh (PD.ot (tV (eOp oLt (ae 4) (eB cW (af (eOp oIx (ae 2) (eC (.int 0))) ak)))) (tV (eOp oGe (ae 5) (eC (.int 0))))) (aA (aO 6 (eOp aT (eOp oIx (eOp oIx (ae 2) (eC (.int 0))) (ae 4)) (eOp oIx (eOp oIx (ae 2) (eC (.int 1))) (ae 5)))) (aA (cH (sO eX (ae 3) (af (g7 (af (ae 4) (af (ae 5) (af (ae 6) ak)))) ak))) (sIf (tV (eOp oLt (ae 6) (ae 1))) (aO 4 (eOp aT (ae 4) (eC (.int 1)))) (aO 5 (eOp g9 (ae 5) (eC (.int 1)))))))) (aX (ae 3)))))))
def e6:FM:=fnM 7 vn
abbrev iQ:Stmt:=top 37
def rn:SM:=(aA (cH (az aG (af (ae 0) (af (ae 1) ak)))) (aX (eB ni (af (bq (xk (az e6 (af (ae 0) (af (ae 1) ak)))) 3 [1] (.tp [(.nm 0),(.nm 1),(.nm 2)]) (tV (eOp oGe (ae 2) (ae 3))) (ae 2)) ak))))
def F_above_n:FM:=fnM 2 rn
abbrev eI:Stmt:=top 39
def jw:SM:=(aX (az F_above_n (af (ae 0) (af (eC (.int 0)) ak))))
def F_unevenness_n:FM:=fnM 1 jw
abbrev cQ:Stmt:=top 61
def ka:SM:=(aX (eB dO (af (az F_unevenness_n (af (ae 0) ak)) ak)))
def dq:FM:=fnM 1 ka
abbrev cw:Stmt:=top 43
def fK:SM:=(aA (aO 2 (eC (.int 0))) (aA (fj (bJ (eB u6 (af (ae 0) ak)) bB) (.nm 3) (aA (sIf (tV (eOp oGt (ae 3) (eOp aT (eOp cI (ae 1) (ae 2)) (eC (.int 1))))) (aX (ae 2)) bj) (aO 2 (eOp aT (ae 2) (ae 3))))) (aX (eC .non))))
def bh:FM:=fnM 4 fK
abbrev cJ:Stmt:=top 44
def gw:SM:=(aA (cH (az aW (af (ae 0) ak))) (aX (eOp (kA false) (az bh (af (ae 0) (af (eC (.int (2))) ak))) (eC .non))))
def F_every_by_parts_n:FM:=fnM 1 gw
abbrev cK:Stmt:=top 45
def gx:SM:=(aA (cH (az aW (af (ae 0) ak))) (aX (eOp (kA false) (az bh (af (ae 0) (af (eC (.int (1))) ak))) (eC .non))))
def F_every_by_signs_n:FM:=fnM 1 gx
abbrev cD:Stmt:=top 63
def jx:SM:=(aA (sIf (tV (az F_every_by_signs_n (af (ae 0) ak))) (aX (eC (.str "signs"))) bj) (aX (eIf (tV (az F_every_by_parts_n (af (ae 0) ak))) (eC (.str "parts")) (eC (.str "no")))))
def cR:FM:=fnM 1 jx
abbrev iR:Stmt:=top 36
def rp:SM:=(aA (cH (az aG (af (ae 0) (af (ae 1) ak)))) (aX (eB vc (af (bq (xk (az e6 (af (ae 0) (af (ae 1) ak)))) 3 [1] (.tp [(.nm 0),(.nm 1),(.nm 2)]) (tV (eOp oLe (ae 2) (ae 3))) (ae 2)) ak))))
def F_below_n:FM:=fnM 2 rp
abbrev dz:Stmt:=top 67
def iy:SM:=(aX (eIf (tV (eOp (kA false) (ae 0) (eC .non))) (eC (.str "none")) (eB dO (af (ae 0) ak))))
def ck:FM:=fnM 1 iy
abbrev cS:Stmt:=top 68
def kc:SM:=(aX (eOp aT (eOp aT (az ck (af (az F_below_n (af (ae 0) (af (ae 1) ak))) ak)) (eC (.str " "))) (az ck (af (az F_above_n (af (ae 0) (af (ae 1) ak))) ak))))
def dr:FM:=fnM 2 kc
abbrev eR:Stmt:=top 59
def o5:SM:=(aX (eIf (tV (eOp lq (ae 0) (g7 ak))) (fV ix (eC (.str " ")) (af (bq (bJ (ae 0) bB) 1 [] (.nm 0) bZ (eB dO (af (ae 0) ak))) ak)) (eC (.str "none"))))
def eO:FM:=fnM 1 o5
abbrev dC:Stmt:=top 32
def iz:SM:=(aA (aO 2 yu) (aA (fj (eN (ae 0)) (.tp [(.nm 3),(.nm 4)]) (fj (bJ (eC (.tup (([(-1),(1)]:List Int).map .int))) bB) (.nm 5) (aA (aO 6 (eOp aT (ae 3) (eOp cI (ae 5) (ae 1)))) (aA (aO 7 (eOp aT (ae 4) (g7 (af (ae 5) ak)))) (gn dh (eB qY (af (ae 7) (af (fk (ae 2) (ae 6) (ae 7)) ak))) (ae 2) (ae 6)))))) (aX (ae 2))))
def cn:FM:=fnM 8 iz
abbrev fX:Stmt:=top 33
def nt:SM:=(aA (aO 1 (jn [((eC (.int 0)),(g7 ak))])) (aA (fj (bJ (ae 0) bB) (.nm 2) (aO 1 (az cn (af (ae 1) (af (ae 2) ak))))) (aX (ae 1))))
def eS:FM:=fnM 3 nt
abbrev e8:Stmt:=top 34
def kd:SM:=(aA (cH (az aG (af (ae 0) (af (ae 1) ak)))) (aA (aO 2 (bq (bJ (az bo (af (ae 0) ak)) bB) 1 [] (.nm 0) bZ (az eS (af (ae 0) ak)))) (aA (aO 3 (bq (eN (eOp fH (ae 2) (eC (.int 0)))) 2 [2,1] (.tp [(.nm 0),(.nm 1)]) (tV (eOp (xf false) (eOp g9 (ae 3) (ae 0)) (eOp fH (ae 2) (eC (.int 1))))) (eOp aT (ae 1) (eOp fH (eOp fH (ae 2) (eC (.int 1))) (eOp g9 (ae 3) (ae 0)))))) (aX (eB ni (af (ae 3) ak))))))
def F_first_met_n:FM:=fnM 4 kd
abbrev fE:Stmt:=top 55
def lF:SM:=(aA (aO 1 (eC (.str ""))) (aA (aO 2 (ae 0)) (aA (sWh (tV (eOp oGe (ae 2) (eOp mm (eC (.int 10)) (eC (.int 60))))) (aA (aO 1 (eOp aT (fV xn (eB dO (af (eOp oMod (ae 2) (eOp mm (eC (.int 10)) (eC (.int 60)))) ak)) (af (eC (.int (60))) ak)) (ae 1))) (aO 2 (eOp lh (ae 2) (eOp mm (eC (.int 10)) (eC (.int 60))))))) (aX (eOp aT (eB dO (af (ae 2) ak)) (ae 1))))))
def dS:FM:=fnM 3 lF
abbrev fY:Stmt:=top 15
def nu:SM:=(aX (kY (eB kr (af (ae 0) (af (eC (.ty "tuple")) ak))) (kY (eOp fO (eB cW (af (ae 0) ak)) (ae 1)) (eB nC (af (bq (bJ (ae 0) bB) 1 [] (.nm 0) bZ (az bL (af (ae 0) ak))) ak)))))
def fL:FM:=fnM 2 nu
abbrev fc:Stmt:=top 21
def ke:SM:=(aA (cH (az aW (af (ae 1) ak))) (aX (kY (az fL (af (ae 0) (af (eB cW (af (ae 1) ak)) ak))) (eB nC (af (bq (bJ (ae 0) bB) 1 [] (.nm 0) bZ (g6 oLe oLe (eUn wW (eC (.int 1))) (ae 0) (eC (.int 1)))) ak)))))
def d9:FM:=fnM 2 ke
abbrev eJ:Stmt:=top 22
def jy:SM:=(sIf (PD.je (tV (az d9 (af (ae 1) (af (ae 0) ak))))) qg bj)
def dH:FM:=fnM 2 jy
abbrev jO:Stmt:=top 56
def vo:SM:=(aA (cH (az dH (af (ae 0) (af (ae 1) ak)))) (aX (fV ix (eC (.str " ")) (af (bq (DQ (af (ae 0) (af (ae 1) ak))) 2 [] (.tp [(.nm 0),(.nm 1)]) bZ (eOp aT (vg tab_MARK_OF (ae 1)) (az dS (af (ae 0) ak)))) ak))))
def ef:FM:=fnM 2 vo
abbrev cE:Stmt:=top 66
def jz:SM:=(aA (aO 2 (az F_first_met_n (af (ae 0) (af (ae 1) ak)))) (aX (eIf (tV (eOp (kA false) (ae 2) (eC .non))) (eC (.str "none")) (az ef (af (ae 0) (af (ae 2) ak))))))
def cT:FM:=fnM 3 jz
abbrev dD:Stmt:=top 47
def iA:SM:=(aA (aO 2 yu) (aA (fj (eN (ae 0)) (.tp [(.nm 3),(.nm 4)]) (fj (bJ (eC (.tup (([(-1),(1)]:List Int).map .int))) bB) (.nm 5) (aA (aO 6 (eOp aT (ae 3) (eOp cI (ae 5) (ae 1)))) (aA (aO 7 (eB uN (af (ae 4) (af (eB Bs (af (ae 6) ak)) ak)))) (gn dh (eB sM (af (ae 7) (af (fk (ae 2) (ae 6) (ae 7)) ak))) (ae 2) (ae 6)))))) (aX (ae 2))))
def cq:FM:=fnM 8 iA
abbrev dU:Stmt:=top 48
def ja:SM:=(aA (cH (az aW (af (ae 0) ak))) (aA (aO 1 (jn [((eC (.int 0)),(eC (.int 0)))])) (aA (fj (bJ (ae 0) bB) (.nm 2) (aO 1 (az cq (af (ae 1) (af (ae 2) ak))))) (aX (eUn ve (ae 1))))))
def F_least_swing_n:FM:=fnM 3 ja
abbrev cF:Stmt:=top 62
def jA:SM:=(aX (eB dO (af (az F_least_swing_n (af (ae 0) ak)) ak)))
def cU:FM:=fnM 1 jA
abbrev cV:Stmt:=top 65
def kf:SM:=(aX (eB dO (af (az F_many_met_n (af (ae 0) (af (ae 1) ak))) ak)))
def dt:FM:=fnM 2 kf
abbrev dE:Stmt:=top 72
def iB:SM:=(aA (aO 1 (eIf (tV (fV dy (ae 0) (af (eC (.str "-")) ak))) (eSl xp (ae 0) (gJ (eC (.int 1))) oNo) (ae 0))) (aA (sIf (tV (fV dy (ae 1) (af (eC (.str "0")) ak))) (aX (eOp fO (ae 0) (eC (.str "0")))) bj) (aX (kY (g6 oLe oLe (eC (.int 1)) (eB cW (af (ae 1) ak)) (eC (.int (30)))) (eB nC (af (bq (bJ (ae 1) yE) 1 [] (.nm 0) bZ (eOp (xm false) (ae 0) (eC (.str "0123456789")))) ak))))))
def bM:FM:=fnM 2 iB
abbrev iS:Stmt:=top 73
def rq:SM:=(aA (sIf (tV (eOp fO (eB cW (af (ae 0) ak)) (eC (.int 1)))) (aX (eOr (eOp (oIn false) (eOp oIx (ae 0) (eC (.int 0))) (eC (.tup ((["take","back"]:List Str).map .str)))) (Ae nml_ASKED_ALONE (eOp oIx (ae 0) (eC (.int 0)))))) bj) (aA (sIf (PD.tOr (tV (eOp lq (eB cW (af (ae 0) ak)) (eC (.int 2)))) (PD.je (tV (az bM (af (eOp oIx (ae 0) (eC (.int 1))) ak))))) (aX (eC (.bl false))) bj) (aA (sIf (tV (eOp fO (eOp oIx (ae 0) (eC (.int 0))) (eC (.str "put")))) (aX (eOp oGe (eB j9 (af (eOp oIx (ae 0) (eC (.int 1))) ak)) (eC (.int 1)))) bj) (aX (Ae nml_ASKED_OF_A_NUMBER (eOp oIx (ae 0) (eC (.int 0))))))))
def iC:FM:=fnM 1 rq
abbrev dg:Stmt:=top 74
def gQ:SM:=(aA (sIf (PD.je (tV (eB kr (af (ae 0) (af (eC (.ty "str")) ak))))) qg bj) (aA (aO 1 (fV oV (ae 0) (af (eC (.str " ")) ak))) (aA (sIf (PD.je (tV (az iC (af (ae 1) ak)))) qg bj) (aX (ae 1)))))
def bp:FM:=fnM 2 gQ
abbrev du:Stmt:=inClass (top 75) 1
def eK:Dsp:=[("row",some ("row_text",fNx eO)),("total",none),("even",some ("even_text",fNx dq)),("swing",some ("swing_text",fNx cU)),("every",some ("every_text",fNx cR))]
def cx:Dsp:=[("comes",some ("comes_text",fNx cP)),("ways",some ("ways_text",fNx dt)),("signs",some ("signs_text",fNx cT)),("near",some ("near_text",fNx dr))]
def lG:SM:=(aA (aO 2 (az bp (af (ae 1) ak))) (aA (sIf (tV (eOp fO (eOp oIx (ae 2) (eC (.int 0))) (eC (.str "put")))) (aX (eB dO (af (kG "Keeper" "put" cO (iw "Desk" "keeper" (ae 0)) (af (eB j9 (af (eOp oIx (ae 2) (eC (.int 1))) ak)) ak)) ak))) bj) (aA (sIf (tV (eOp fO (eOp oIx (ae 2) (eC (.int 0))) (eC (.str "take")))) (aX (eB dO (af (kG "Keeper" "take" eG (iw "Desk" "keeper" (ae 0)) ak) ak))) bj) (aA (sIf (tV (eOp fO (eOp oIx (ae 2) (eC (.int 0))) (eC (.str "back")))) (aX (eB dO (af (kG "Keeper" "back" eF (iw "Desk" "keeper" (ae 0)) ak) ak))) bj) (aA (aO 3 (kG "Keeper" "row" eZ (iw "Desk" "keeper" (ae 0)) ak)) (aA (sIf (tV (eOp fO (eB cW (af (ae 2) ak)) (eC (.int 1)))) (aX (vk eK (eOp oIx (ae 2) (eC (.int 0))) (af (ae 3) ak))) bj) (aX (vk cx (eOp oIx (ae 2) (eC (.int 0))) (af (ae 3) (af (eB j9 (af (eOp oIx (ae 2) (eC (.int 1))) ak)) ak))))))))))
def bP:FM:=fnM 4 lG
abbrev gR:Stmt:=top 77
def iT:SM:=(aA (aO 2 (eOp aT (eOp cI (eC (.int 7919)) (ae 1)) (eC (.int 13)))) (aA (sIf (tV (eOp oLt (ae 1) (eB cW (af (ae 0) ak)))) (aO 2 (eOp oIx (ae 0) (ae 1))) bj) (aA (sIf (tV (eOp fO (eOp oMod (ae 2) (eC (.int 2))) (eC (.int 0)))) (aX (eNew (af (eOp lh (ae 2) (eC (.int 2))) ak))) bj) (aA (aO 3 (eC (.int 0))) (aA (fj (eD (af (eC (.int 16)) ak)) (.nm 4) (aA (aO 5 (eOp oMod (eOp aT (eOp aT (eOp cI (eOp oMod (ae 2) (eC (.int 2147483647))) (eC (.int 48271))) (eOp cI (eC (.int 7919)) (ae 4))) (eC (.int 1))) (eC (.int 2147483647)))) (aA (aO 5 (eOp oMod (eOp cI (ae 5) (ae 5)) (eC (.int 2147483629)))) (aO 3 (eOp aT (eOp cI (ae 3) (eC (.int 2147483647))) (eOp oMod (eOp cI (ae 5) (eOp aT (ae 5) (eC (.int 13)))) (eC (.int 2147483647)))))))) (aX (eNew (af (ae 3) ak))))))))
def eP:FM:=fnM 6 iT
abbrev fe:Stmt:=top 84
def kg:SM:=(aA (DD 2 3 (af (az F_first_met_n (af (ae 0) (af (ae 1) ak))) (af (az F_many_met_n (af (ae 0) (af (ae 1) ak))) ak))) (aA (aO 4 (eOp aT (eC (.str " ")) (eB dO (af (ae 1) ak)))) (aA (aO 5 (jn [((eOp aT (eC (.str "comes")) (ae 4)),(eOp oIx (ik (af (eC (.str "no")) (af (eC (.str "yes")) ak))) (eB mB (af (eOp oGt (ae 3) (eC (.int 0))) ak)))),((eOp aT (eC (.str "ways")) (ae 4)),(eB dO (af (ae 3) ak)))])) (aA (gn dh (eIf (tV (eOp (kA false) (ae 2) (eC .non))) (eC (.str "none")) (az ef (af (ae 0) (af (ae 2) ak)))) (ae 5) (eOp aT (eC (.str "signs")) (ae 4))) (aA (aO 6 (ik (af (az F_below_n (af (ae 0) (af (ae 1) ak))) (af (az F_above_n (af (ae 0) (af (ae 1) ak))) ak)))) (aA (gn dh (fV ix (eC (.str " ")) (af (bq (bJ (ae 6) bB) 1 [] (.nm 0) bZ (eIf (tV (eOp (kA false) (ae 0) (eC .non))) (eC (.str "none")) (eB dO (af (ae 0) ak)))) ak)) (ae 5) (eOp aT (eC (.str "near")) (ae 4))) (aA (gn dh (eB dO (af (az F_unevenness_n (af (ae 0) ak)) ak)) (ae 5) (eC (.str "even"))) (aA (gn dh (eB dO (af (az F_least_swing_n (af (ae 0) ak)) ak)) (ae 5) (eC (.str "swing"))) (aA (gn dh (eC (.str "no")) (ae 5) (eC (.str "every"))) (aA (sIf (tV (az F_every_by_parts_n (af (ae 0) ak))) (gn dh (eOp oIx (ik (af (eC (.str "parts")) (af (eC (.str "signs")) ak))) (eB mB (af (az F_every_by_signs_n (af (ae 0) ak)) ak))) (ae 5) (eC (.str "every"))) bj) (aX (ae 5))))))))))))
def eh:FM:=fnM 7 kg
abbrev fZ:Stmt:=top 78
def jB:SM:=(aA (GN (.tp [(.nm 2),(.nm 3)]) (eB nV (af (eOp oIx (ae 0) (eC (.int 0))) (af (ae 1) ak)))) (aA (gn Bu (ae 2) (ae 0) (eC (.int 0))) (aX (ae 3))))
def aY:FM:=fnM 4 jB
abbrev ff:Stmt:=top 80
def kh:SM:=(aA (aO 2 (eB uU (af (ae 1) ak))) (aA (aO 3 (eOp g9 (az aY (af (ae 0) (af (eC (.int 30)) ak))) (eC (.int 15)))) (aA (aO 4 (ik (af (eC (.int 0)) (af (ae 2) (af (eOp g9 (eC (.int 0)) (ae 2)) (af (eOp g9 (ae 2) (eC (.int 2))) (af (ae 3) (af (eOp aT (eOp aT (ae 2) (eC (.int 1))) (eOp cI (ae 3) (ae 3))) (af (ae 3) (af (eOp g9 (ae 2) (eOp cI (eC (.int 2)) (eOp oIx (eOp aT (ae 1) (g7 (af (eC (.int 1)) ak))) (eC (.int 0))))) (af (ae 3) ak))))))))))) (aX (eOp oIx (ae 4) (az aY (af (ae 0) (af (eC (.int 9)) ak))))))))
def ei:FM:=fnM 5 kh
abbrev gS:Stmt:=top 79
def o6:SM:=(aA (aO 2 (az aY (af (ae 0) (af (eOp aT (ae 1) (eC (.int 1))) ak)))) (aA (aO 3 (az aY (af (ae 0) (af (eC (.int 6)) ak)))) (aA (aO 4 (eOp aT (eC (.int 1)) (az aY (af (ae 0) (af (eC (.int 9)) ak))))) (aA (aO 5 (eNew ak)) (aA (fj (eD (af (ae 2) ak)) (.nm 6) (aA (aO 7 (eOp aT (eC (.int 1)) (az aY (af (ae 0) (af (eC (.int 12)) ak))))) (cH (sO eX (ae 5) (af (eOp oIx (ik (af (ae 7) (af (ae 7) (af (ae 4) (af (eOp wV (eC (.int 1)) (ae 6)) (af (eOp aT (ae 4) (eOp cI (ae 6) (ae 7))) (af (eOp aT (eOp cI (eOp mm (eC (.int 10)) (eC (.int 12))) (ae 7)) (ae 4)) ak))))))) (ae 3)) ak))))) (aX (eB jm (af (ae 5) ak))))))))
def gy:FM:=fnM 8 o6
abbrev gb:Stmt:=top 83
def nv:SM:=(aX (kG "Desk" "say" bP (ae 0) (af (ae 1) ak)))
def cb:FM:=fnM 3 nv
abbrev mG:Stmt:=top 85
def Fp:SM:=(aA (fj (eD (af (eB uN (af (eC (.int 1)) (af (eB sM (af (eB cW (af (ae 0) ak)) (af (eC (.int 3)) ak))) ak))) ak)) (.nm 1) (aA (aO 2 (az eP (af (ae 0) (af (ae 1) ak)))) (aA (aO 3 (az gy (af (ae 2) (af (eC (.int 10)) ak)))) (aA (aO 4 (Ab "Desk" dj)) (aA (fj (bJ (ae 3) bB) (.nm 5) (cH (kG "Desk" "say" bP (ae 4) (af (eOp aT (eC (.str "put ")) (eB dO (af (ae 5) ak))) ak)))) (aA (fj (eD (af (eC (.int 2)) ak)) (.nm 6) (aA (aO 7 (az eh (af (ae 3) (af (az ei (af (ae 2) (af (ae 3) ak))) ak)))) (aA (aO 8 (eB oY (af (ae 7) ak))) (aA (aO 9 (az aY (af (ae 2) (af (eB cW (af (ae 8) ak)) ak)))) (fj (bJ (eOp aT (eSl iN (ae 8) (gJ (ae 9)) oNo) (eSl iN (ae 8) oNo (gJ (ae 9)))) bB) (.nm 10) (sIf (tV (eOp lq (az cb (af (ae 4) (af (ae 10) ak))) (eOp fH (ae 7) (ae 10)))) (aX (eC (.bl false))) bj)))))) (sIf (tV (eOp lq (az cb (af (ae 4) (af (eC (.str "row")) ak))) (Af (fV ix (eC (.str " ")) (af (bq (bJ (ae 3) bB) 1 [] (.nm 0) bZ (eB dO (af (ae 0) ak))) ak)) (eC (.str "none"))))) (aX (eC (.bl false))) bj))))))) (aX (eC (.bl true))))
def yK:FM:=fnM 11 Fp
structure Gr(b:Nat)(S S':Sto):Prop where
 bx:∃n,S'[b]?=some (.lst [.int n])
 oth:∀i,i≠b->i<S.length->S'[i]?=S[i]?
 len:S.length<=S'.length
theorem Gr.trans(x:Gr b S S1)(y:Gr b S1 S2):Gr b S S2:=
 ⟨y.bx,λi h l=>(y.oth i h (Yu l x.len)).trans (x.oth i h l),Yv x.len y.len⟩
def Gr.self(x:Gr b S S1):Gr b S1 S1:=⟨x.bx,λ_ _ _=>rfl,Yd _⟩
def Gr.more(x:Gr b S S1)(l:Sto):Gr b S (S1++l):=by
 obtain⟨n,hn⟩:=x.bx;have hb:b<S1.length:=(Y9.mp hn).1
 refine⟨⟨n,by rw[Z0 hb];exact hn⟩,λi h hl=>?_,by rw[Yq];have:=x.len;omega⟩
 rw[Z0 (Yu hl x.len)];exact x.oth i h hl
def Ee{n many:Int}(h:S[b]?=some (.lst [.int n]))(h0:0<many)(h1:many<1073741824):aY [.ref b,.int many] S=.ok (.int (n%many)) (S.set b (.lst [.int (n/many)])):=by simp[aY,fnM,jB,aA,GN,gn,aX,eB,eOp,ae,eC,af,ak,R.bind,R.of,oIx,bN,h,atI,ixN,nV,h0,h1,G.put,G.puts,Bu]
def iU(h:Gr b S S){many:Int}(h0:0<many)(h1:many<1073741824):∃q S',aY [.ref b,.int many] S=.ok (.int q) S'/\0<=q/\q<many/\Gr b S S':=by
 obtain⟨n,hn⟩:=h.bx;have hb:b<S.length:=(Y9.mp hn).1
 refine⟨_,_,Ee hn h0 h1,M9 _ (by omega),Uv _ h0,⟨n/many,by simp[hb]⟩,λi hi _=>?_,by simp⟩
 rw[Z3 (Ne.symm hi)]
abbrev n8:SM:=(aA (aO 5 (eOp oMod (eOp aT (eOp aT (eOp cI (eOp oMod (ae 2) (eC (.int 2147483647))) (eC (.int 48271))) (eOp cI (eC (.int 7919)) (ae 4))) (eC (.int 1))) (eC (.int 2147483647)))) (aA (aO 5 (eOp oMod (eOp cI (ae 5) (ae 5)) (eC (.int 2147483629)))) (aO 3 (eOp aT (eOp cI (ae 3) (eC (.int 2147483647))) (eOp oMod (eOp cI (ae 5) (eOp aT (ae 5) (eC (.int 13)))) (eC (.int 2147483647)))))))
def B3(S:Sto)(a b:Option D)(h n j:Int)(r5:Option D):∃(n':Int)(x:Int),n8 [a,b,some (.int h),some (.int n),some (.int j),r5] S=.ok (.nx [a,b,some (.int h),some (.int n'),some (.int j),some (.int x)]) S:=by
 have s1:cZ 48271:=by decide
 have s2:cZ 7919:=by decide
 have s3:cZ 2147483647:=by decide
 have h1:∀y:Int,cZ (y%2147483647):=λy=>by
  have:=M9 y (show(2147483647:Int)≠0 by decide)
  have:=Uv y (show(0:Int)<2147483647 by decide)
  exact⟨by omega,by omega⟩
 have h2:∀y:Int,cZ (y%2147483629):=λy=>by
  have:=M9 y (show(2147483629:Int)≠0 by decide)
  have:=Uv y (show(0:Int)<2147483629 by decide)
  exact⟨by omega,by omega⟩
 refine⟨n*2147483647+((h%2147483647*48271+7919*j+1)%2147483647*((h%2147483647*48271+7919*j+1)%2147483647)%2147483629)*((h%2147483647*48271+7919*j+1)%2147483647*((h%2147483647*48271+7919*j+1)%2147483647)%2147483629+13)%2147483647,(h%2147483647*48271+7919*j+1)%2147483647*((h%2147483647*48271+7919*j+1)%2147483647)%2147483629,?_⟩;simp only[n8,aA,aO,eOp,ae,eC,R.bind,R.of,oMod,aT,Q7,Q6,Zb,Zi,d8 (.inr s1),d8 (.inl s2),d8 (.inr s3),d8 (.inl (h1 _)),d8 (.inl (h2 _)),Int.reduceLT,Zj]
theorem vp(h:Int):∀(l:List Nat)(S:Sto)(a b:Option D)(n:Int)(j r5:Option D),∃(n':Int)(j' r5':Option D),
  forL (.nm 4) n8 (l.map λ(i:Nat)=>D.int i) [a,b,some (.int h),some (.int n),j,r5] S=.ok (.nx [a,b,some (.int h),some (.int n'),j',r5']) S
 |[],S,a,b,n,j,r5=>⟨n,j,r5,rfl⟩
 |i::l,S,a,b,n,j,r5=>by obtain⟨n1,x,e1⟩:=B3 S a b h n i r5;obtain⟨n',j',r5',e⟩:=vp h l S a b n1 (some (.int i)) (some (.int x));refine⟨n',j',r5',?_⟩;rw[Yb,forL];simp only[G.put,Zb,Zi,e1,R.bind_ok];exact e
def Hm(ns:List Int)(k:Nat)(S:Sto):∃v:Int,eP [.fz (ns.map .int),.int k] S=.ok (.ref S.length) (S++[.lst [.int v]]):=by
 have hz:(1:Nat)<=sizeLine:=by decide
 have s2:cZ 7919:=by decide
 have rest:∀c:Int,∃v:Int,(aA (sIf (tV (eOp fO (eOp oMod (ae 2) (eC (.int 2))) (eC (.int 0)))) (aX (eNew (af (eOp lh (ae 2) (eC (.int 2))) ak))) bj) (aA (aO 3 (eC (.int 0))) (aA (fj (eD (af (eC (.int 16)) ak)) (.nm 4) n8) (aX (eNew (af (ae 3) ak)))))) [some (.fz (ns.map .int)),some (.int k),some (.int c),none,none,none] S=.ok (.rt (.ref S.length)) (S++[.lst [.int v]]):=λc=>by
  by_cases hc:c%2=0
  .refine⟨c/2,?_⟩;simp[aA,aO,sIf,aX,bj,tV,eNew,eB,az,eOp,ae,eC,af,ak,R.bind,R.of,oMod,fO,eqP,eqS,hc,lh,hz]
  .obtain⟨n',j',r5',e⟩:=vp c (List.range 16) S (some (.fz (ns.map .int))) (some (.int k)) 0 none none;refine⟨n',?_⟩;have hr:(16:Int).toNat=16:=rfl;simp only[aA,aO,sIf,aX,bj,tV,eNew,eB,az,eOp,ae,eC,af,ak,R.bind,R.of,oMod,fO,eqP,eqS,hc,fj,eD,hz,Q7,Q6,Zb,Zi,Int.reduceLT,Zj,M5,Zv,Ze,Qy,Int.reduceLE,and_self,Int.reducePow,Int.reduceNeg,hr,e,Ym,Zf,Nat.reduceAdd]
 by_cases hk:k<ns.length
 .obtain⟨v,e⟩:=rest (ns.getD k 0);refine⟨v,?_⟩
  have hi:atI (ns.map D.int) (k:Int)=some (.int (ns.getD k 0)):=by simp[atI,ixN,hk]
  have hk':(k:Int)<(ns.length:Int):=by omega
  unfold eP fnM iT;simp only[Yb,W5,Ym,Zf,Nat.reduceAdd,Nat.reduceSub,List.replicate,Wh,Wc];rw[aA];simp only[aO,eOp,ae,eC,R.bind,R.of,aT,d8 (.inl s2),Q7,Q6,Zb,Zi];rw[aA];simp only[sIf,aO,bj,tV,eB,eOp,ae,eC,af,ak,R.bind,R.of,oIx,bN,mq,cW,Yh,hk',decide_true,Zj,hi,Q7,Q6,Zb,Zi,Zv];rw[e]
 .obtain⟨v,e⟩:=rest (7919*(k:Int)+13);refine⟨v,?_⟩
  have hk':¬(k:Int)<(ns.length:Int):=by omega
  unfold eP fnM iT;simp only[Yb,W5,Ym,Zf,Nat.reduceAdd,Nat.reduceSub,List.replicate,Wh,Wc];rw[aA];simp only[aO,eOp,ae,eC,R.bind,R.of,aT,d8 (.inl s2),Q7,Q6,Zb,Zi];rw[aA];simp only[sIf,aO,bj,tV,eB,eOp,ae,eC,af,ak,R.bind,R.of,oIx,bN,mq,cW,Yh,hk',M5,Ze,Qy,Q7,Q6,Zb,Zi,Zv];rw[e]
def Ef:D->Bool
 |.fz _=>false
 |.ref _=>false
 |.ty _=>false
 |.exc _ _=>false
 |.cls _=>false
 |_=>true
def isI:D->Bool
 |.int _=>true
 |_=>false
def o7{d:D}(h:Ef d=true):bL [d] S=.ok (.bl (isI d)) S:=by cases d<;>first|(cases h;done)|(simp[bL,fnM,kH,aX,kY,GL,eB,ae,eC,af,ak,R.bind,R.of,kr,tyD,hJ,isI])
def yL:D->Bool
 |.int i=>decide (1<=i)
 |_=>false
theorem gU{A:Type}(f:A->Bool):∀xs:List A,boolsOf (xs.map λx=>D.bl (f x))=some (xs.map f)
 |[]=>rfl
 |x::xs=>by rw[Yb,boolsOf,gU f xs];rfl
theorem rA{f:D->Bool}:∀(xs:List D)(r0:Option D)(S:Sto),(∀x∈xs,e (some x::tl) S=.ok (.bl (f x)) S)->dY (.nm 0) bZ e xs (r0::tl) S=.ok (xs.map λx=>D.bl (f x)) S
 |[],_,_,_=>rfl
 |x::xs,r0,S,h=>by have h1:=h x Z2;have h2:=rA xs (some x) S λy hy=>h y (Yz _ hy);rw[dY];simp only[G.put,Zb,bZ,R.bind_ok,Zj,h1,h2,Yb]
def rB:D->Bool
 |.tup xs=>decide (xs.length<=16)&&xs.all yL
 |_=>false
def Hn(d:D):Prop:=Ef d=true/\∀xs,d=.tup xs->(∀x∈xs,Ef x=true)/\xs.length<=1000
def Ho{x:D}(h:Ef x=true):(kY (az bL (af (ae 0) ak)) (eOp oGe (ae 0) (eC (.int 1)))) [some x] S=.ok (.bl (yL x)) S:=by
 have:=o7 (S:=S) h
 cases x<;>first|(cases h;done)|(simp[kY,az,eOp,ae,eC,af,ak,R.bind,R.of,this,isI,yL,mq])
def vq{d:D}(h:Hn d):fJ [d] S=.ok (.bl (rB d)) S:=by
 cases d with
 |tup xs=>
  obtain⟨hs,hl⟩:=h.2 xs rfl;have hc:=rA (tl:=[]) (f:=yL) xs none S λx hx=>Ho (hs x hx)
  have z:xs.length<=sizeLine:=Yv hl (by decide)
  by_cases h16:xs.length<=16
  .have h16':¬(16:Int)<(xs.length:Int):=by omega
   simp only[fJ,fnM,ju,aA,sIf,aX,bj,PD.tOr,PD.je,tV,eB,bq,bJ,bB,fG,eOp,ae,eC,af,ak,R.bind,R.of,kr,tyD,cW,bN,mq,nC,Yb,W5,Ym,Zf,List.replicate,Wh,Wc,Qh,Nat.reduceAdd,Nat.reduceSub,Q7,h16',M5,Ze,Qy,z,Zj,hc,gU,Zv,rB,h16,decide_true,Ve];simp[hJ];simp[z,hc,gU,nC,R.of,R.bind,aX,eB,af]
  .have h16':(16:Int)<(xs.length:Int):=by omega
   simp[fJ,fnM,ju,aA,sIf,aX,bj,PD.tOr,PD.je,tV,eB,eOp,ae,eC,af,ak,R.bind,R.of,kr,tyD,cW,bN,mq,hJ,rB,h16,h16']
 |_=>first|(cases h.1;done)|(simp[fJ,fnM,ju,aA,sIf,aX,bj,PD.tOr,PD.je,tV,eB,eOp,ae,eC,af,ak,R.bind,R.of,kr,tyD,hJ,rB])
def Hq{i j:Int}:lq S (.int i) (.int j)=some (.bl (!decide (i=j))):=rfl
def xq{i j:Int}:fO S (.int i) (.int j)=some (.bl (decide (i=j))):=rfl
def aq{a b:SM}(h:a r S=.ok (.nx r1) S1):aA a b r S=b r1 S1:=by unfold aA;rw[h];rfl
def Row(xs:List Int):Prop:=(∀x∈xs,1<=x)/\xs.length<=16
def Ag(h:xs.length<=1000):Hn (.tup (xs.map .int)):=⟨rfl,λys e=>by
 cases e
 refine⟨λx hx=>?_,by rw[Yh];exact h⟩
 obtain⟨i,_,rfl⟩:=Yw.mp hx
 rfl⟩
def Row.okay(h:Row xs):Hn (.tup (xs.map .int)):=Ag (by have:=h.2;omega)
def Row.is(h:Row xs):rB (.tup (xs.map .int))=true:=by
 unfold rB;rw[Z9]
 refine⟨by rw[Yh];exact Yr h.2,Zy.mpr λx hx=>?_⟩
 obtain⟨i,hi,rfl⟩:=Yw.mp hx;exact Yr (h.1 i hi)
def iV{g:PD.G}{b:SM}{xs:List D}(h:it r S=.ok xs S1):fj it g b r S=forL g b xs r S1:=by unfold fj;rw[h,R.bind_ok]
def aQ{b:SM}{ds:List D}{d:D}(hρ:ds.map some++List.replicate (n-ds.length) none = ρ)(h:b ρ S=.ok (.rt d) S1):fnM n b ds S=.ok d S1:=by unfold fnM;rw[hρ,h,R.bind_ok]
def kI{b:SM}{ds:List D}{ρ':Rho}(hρ:ds.map some++List.replicate (n-ds.length) none = ρ)(h:b ρ S=.ok (.nx ρ') S1):fnM n b ds S=.ok .non S1:=by unfold fnM;rw[hρ,h,R.bind_ok]
def fF{a b:SM}{d:D}(h:a r S=.ok (.rt d) S1):aA a b r S=.ok (.rt d) S1:=by unfold aA;rw[h,R.bind_ok]
def aC{d:D}(h:a r S=.ok d S1):aO i a r S=.ok (.nx (r.set i (some d))) S1:=by unfold aO;rw[h,R.bind_ok]
def aE{d:D}(h:a r S=.ok d S1):aX a r S=.ok (.rt d) S1:=by unfold aX;rw[h,R.bind_ok]
def jC{t:TM}{a b:SM}(h:t r S=.ok true S1):sIf t a b r S=a r S1:=by unfold sIf;rw[h,R.bind_ok];exact Y8 rfl
def cA{t:TM}{a b:SM}(h:t r S=.ok false S1):sIf t a b r S=b r S1:=by unfold sIf;rw[h,R.bind_ok];exact Yi Yl
def bW{d:D}(h:a r S=.ok d S1):cH a r S=.ok (.nx r) S1:=by unfold cH;rw[h,R.bind_ok]
def bG{g:PD.G}{b:SM}{x:D}{xs:List D}{r2:Rho}(hp:g.put x r=some r1)(h:b r1 S=.ok (.nx r2) S1):forL g b (x::xs) r S=forL g b xs r2 S1:=by rw[forL];simp only[hp,h,R.bind_ok]
def aw{f:FM}{xs:List D}(h:t r S=.ok xs S1):az f t r S=f xs S1:=by unfold az;rw[h,R.bind_ok]
def et{g:PD.G}{b:SM}{d:D}{xs:List D}(h:a r S=.ok d S1)(hi:bB S1 d=some xs):fj (bJ a bB) g b r S=forL g b xs r S1:=iV (by unfold bJ;rw[h,R.bind_ok,hi];rfl)
def Eg{g:PD.G}{b:SM}{x:D}{xs:List D}{d:D}(hp:g.put x r=some r1)(h:b r1 S=.ok (.rt d) S1):forL g b (x::xs) r S=.ok (.rt d) S1:=by rw[forL];simp only[hp,h,R.bind_ok]
def av{f:Sto->D->D->Option D}{b:EM}{x y z:D}(h1:a r S=.ok x S1)(h2:b r S1=.ok y S2)(h3:f S2 x y=some z):eOp f a b r S=.ok z S2:=by unfold eOp;rw[h1,R.bind_ok,h2,R.bind_ok,h3];rfl
def aZ{f:Sto->List D->Option D}{xs:List D}{z:D}(h1:t r S=.ok xs S1)(h3:f S1 xs=some z):eB f t r S=.ok z S1:=by unfold eB;rw[h1,R.bind_ok,h3];rfl
def ag{x:D}{xs:List D}(h1:a r S=.ok x S1)(h2:t r S1=.ok xs S2):af a t r S=.ok (x::xs) S2:=by unfold af;rw[h1,R.bind_ok,h2,R.bind_ok]
def br{b:Bool}(h:a r S=.ok (.bl b) S1):tV a r S=.ok b S1:=by unfold tV;rw[h,R.bind_ok]
def gW{a:TM}{b:Bool}(h:a r S=.ok b S1):PD.je a r S=.ok (!b) S1:=by unfold PD.je;rw[h,R.bind_ok]
def tj{f:Sto->D->List D->R D}{x:D}{ys:List D}(h1:o r S=.ok x S1)(hl:isL S1 x=true)(h2:t r S1=.ok ys S2):sO f o t r S=f S2 x ys:=by unfold sO;rw[h1,R.bind_ok,Y8 hl,h2,R.bind_ok]
def o8{t:TM}{b:EM}(h:t r S=.ok true S1):eIf t a b r S=a r S1:=by unfold eIf;rw[h,R.bind_ok];exact Y8 rfl
def lH{t:TM}{b:EM}(h:t r S=.ok false S1):eIf t a b r S=b r S1:=by unfold eIf;rw[h,R.bind_ok];exact Yi Yl
def Ju{n:Int}(h0:0<=n)(h:n<=100000):n<2^62/\-(2^62)<=n:=⟨by omega,by omega⟩
def ny{m:Int}(h:t r S=.ok [.int m] S1)(h0:0<=m)(h1:m<=100000):eD t r S=.ok ((List.range m.toNat).map λ(i:Nat)=>D.int i) S1:=by have hr:=Ju h0 h1;simp only[eD,h,R.bind,Y8 hr]
def o9(h:t r S=.ok [.int (n:Int)] S1)(hn:n<=100000):eD t r S=.ok ((List.range n).map λ(i:Nat)=>D.int i) S1:=
 ny h (Int.natCast_nonneg n) (Int.ofNat_le.mpr hn)
theorem kJ:∀xs:List Int,intsOf (xs.map .int)=some xs
 |[]=>rfl
 |x::xs=>by rw[Yb,intsOf,kJ xs];rfl
def Hr:uU S [.tup (xs.map .int)]=some (.int xs.sum):=by simp only[uU,bN,kJ,Zv]
theorem comp_map{A:Type}{enc out:A->D}:∀(xs:List A)(r0:Option D),(∀x∈xs,e (some (enc x)::tl) S=.ok (out x) S)->dY (.nm 0) bZ e (xs.map enc) (r0::tl) S=.ok (xs.map out) S
 |[],_,_=>rfl
 |x::xs,r0,h=>by have h1:=h x Z2;have h2:=comp_map (out:=out) xs (some (enc x)) λy hy=>h y (Yz _ hy);rw[Yb,dY];simp only[G.put,Zb,bZ,R.bind_ok,Zj,h1,h2,Yb]
def gm{A:Type}{enc out:A->D}(xs:List A)(hi:it r S=.ok (xs.map enc) S)(hl:xs.length<=sizeLine)(hc:caps.map (λi=>(r[i]?).join)=tl)(h:∀x∈xs,e (some (enc x)::tl) S=.ok (out x) S):bq it 1 caps (.nm 0) bZ e r S=.ok (.lst (xs.map out)) S:=by
 unfold bq
 rw[hi,R.bind_ok,Y8 (by rw[Yh];exact hl)]
 have:fG 1 caps r=none::tl:=by unfold fG;rw[hc];rfl
 rw[this,comp_map (out:=out) xs none h,R.bind_ok]
theorem pd{A:Type}{x1 x2:A->D}{out:A->D}:∀(xs:List A)(r0 r1:Option D),(∀x∈xs,e (some (x1 x)::some (x2 x)::tl) S=.ok (out x) S)->dY (.tp [.nm 0,.nm 1]) bZ e (xs.map λx=>.tup [x1 x,x2 x]) (r0::r1::tl) S=.ok (xs.map out) S
 |[],_,_,_=>rfl
 |x::xs,r0,r1,h=>by have h1:=h x Z2;have h2:=pd (out:=out) xs (some (x1 x)) (some (x2 x)) λy hy=>h y (Yz _ hy);rw[Yb,dY];simp only[G.put,G.puts,Zb,Zi,bZ,R.bind_ok,Zj,h1,h2,Yb]
def Ah{A:Type}{x1 x2:A->D}{out:A->D}(xs:List A)(hi:it r S=.ok (xs.map λx=>.tup [x1 x,x2 x]) S)(hl:xs.length<=sizeLine)(hc:caps.map (λi=>(r[i]?).join)=tl)(h:∀x∈xs,e (some (x1 x)::some (x2 x)::tl) S=.ok (out x) S):bq it 2 caps (.tp [.nm 0,.nm 1]) bZ e r S=.ok (.lst (xs.map out)) S:=by
 unfold bq
 rw[hi,R.bind_ok,Y8 (by rw[Yh];exact hl)]
 have:fG 2 caps r=none::none::tl:=by unfold fG;rw[hc];rfl
 rw[this,pd (out:=out) xs none none h,R.bind_ok]
def pe{d:D}{xs:List D}(h:r[i]?=some (some d))(hx:bB S d=some xs):bJ (ae i) bB r S=.ok xs S:=by unfold bJ ae;rw[h];show R.bind (.ok d S) _=_;rw[R.bind_ok,hx];rfl
def aa{d:D}(h:r[i]?=some (some d)):ae i r S=.ok d S:=by unfold ae;rw[h]
def iW{xs:List D}(h:t r S=.ok xs S1)(hl:xs.length<=sizeLine):g7 t r S=.ok (.tup xs) S1:=by unfold g7;rw[h,R.bind_ok,Y8 hl]
def lI{xs:List D}(h:t r S=.ok xs S1)(hl:xs.length<=sizeLine):ik t r S=.ok (.lst xs) S1:=by unfold ik;rw[h,R.bind_ok,Y8 hl]
def pf{b:EM}(h:a r S=.ok (.bl true) S1):kY a b r S=b r S1:=by unfold kY;rw[h,R.bind_ok]
def B4{b:EM}(h:a r S=.ok (.bl false) S1):kY a b r S=.ok (.bl false) S1:=by unfold kY;rw[h,R.bind_ok]
def Jv{b:EM}(h:a r S=.ok (.bl true) S1):eOr a b r S=.ok (.bl true) S1:=by unfold eOr;rw[h,R.bind_ok]
def Jw{b:EM}(h:a r S=.ok (.bl false) S1):eOr a b r S=b r S1:=by unfold eOr;rw[h,R.bind_ok]
def Fq{a b:TM}(h:a r S=.ok true S1):PD.tOr a b r S=.ok true S1:=by unfold PD.tOr;rw[h,R.bind_ok];exact Y8 rfl
def Fs{a b:TM}(h:a r S=.ok false S1):PD.tOr a b r S=b r S1:=by unfold PD.tOr;rw[h,R.bind_ok];exact Yi Yl
def lJ{A:Type}{f:A->Bool}{xs:List A}:nC S [.lst (xs.map λx=>D.bl (f x))]=some (.bl (xs.all f)):=by show Option.map (λbs=>D.bl (bs.all id)) (boolsOf (xs.map λx=>D.bl (f x)))=_;rw[gU,Zv,List.all_map];rfl
theorem vt{A:Type}(f:A->Int):∀xs:List A,intsOf (xs.map λx=>D.int (f x))=some (xs.map f)
 |[]=>rfl
 |x::xs=>by rw[Yb,intsOf,vt f xs];rfl
def Hs{A:Type}{f:A->Int}{xs:List A}:uU S [.lst (xs.map λx=>D.int (f x))]=some (.int (xs.map f).sum):=by simp only[uU,bN,vt,Zv]
def z1:(1:Nat)<=sizeLine:=by decide
def tm{a b:List D}(h:a.length+b.length<=sizeLine):aT S (.tup a) (.tup b)=some (.tup (a++b)):=Y8 h
def Ht{a b:List D}(h:a.length+b.length<=sizeLine):aT S (.lst a) (.lst b)=some (.lst (a++b)):=Y8 h
def Ft{lo hi:OM}{x d:D}{l u:Option Int}(h1:a r S=.ok x S1)(h2:lo r S1=.ok l S2)(h3:hi r S2=.ok u S3)(h4:iN S3 x l u=some d):eSl iN a lo hi r S=.ok d S3:=by unfold eSl;rw[h1,R.bind_ok,h2,R.bind_ok,h3,R.bind_ok,h4];rfl
def jD{i:Int}(h:a r S=.ok (.int i) S1):gJ a r S=.ok (some i) S1:=by unfold gJ;rw[h,R.bind_ok]
section
open PySem.NumText
def nm(n:Nat):Str:=Str.ofString (toString (n:Int))
def vx(h:¬m<10):Nat.toDigits 10 m=Nat.toDigits 10 (m/10)++[Nat.digitChar (m%10)]:=by
 have hm:m%10<10:=Nat.mod_lt m (by decide)
 have t:Nat.toDigits 10 (m/10)++Nat.toDigits 10 (m%10)=Nat.toDigits 10 (10*(m/10)+m%10):=Nat.toDigits_append_toDigits (by decide) (by omega) hm
 rw[Vq hm]at t
 rw[t,show 10*(m/10)+m%10=m by omega]
def dch:∀d:Nat,d<10->48<=(Nat.digitChar d).toNat/\(Nat.digitChar d).toNat<=57/\(1<=d->49<=(Nat.digitChar d).toNat):=by decide
def tq(m:Nat):(∀c∈Nat.toDigits 10 m,48<=c.toNat/\c.toNat<=57)/\(∃c r,Nat.toDigits 10 m=c::r/\(1<=m->49<=c.toNat)):=by
 induction m using Nat.strongRecOn with
 |_ m ih=>
  by_cases h:m<10
  .rw[Vq h];have:=dch m h
   exact⟨λc hc=>by rw[Yo.mp hc];exact⟨this.1,this.2.1⟩,_,_,rfl,this.2.2⟩
  .rw[vx h]
   obtain⟨h1,c,r,e,h2⟩:=ih (m/10) (by omega)
   have:=dch (m%10) (Nat.mod_lt m (by decide))
   refine⟨λd hd=>?_,c,r++[Nat.digitChar (m%10)],by rw[e];rfl,λ_=>h2 (by omega)⟩
   rcases Yy.mp hd with z|z
   .exact h1 d z
   .rw[Yo.mp z];exact⟨this.1,this.2.1⟩
theorem yM:∀(k m:Nat),m<10^(k+1)->(Nat.toDigits 10 m).length<=k+1
 |k,m,hm=>by
  by_cases h:m<10
  .rw[Vq h];simp
  .cases k with
   |zero=>exact absurd hm (by simpa using h)
   |succ k=>
    rw[vx h,Yq,W7]
    have:=yM k (m/10) (by rw[Uf]at hm;omega)
    omega
def ph(n:Nat):(nm n).cps.toList=(Nat.toDigits 10 n).map Char.toNat:=PySem.W.KIN.signs_num n
def kK(n:Nat):AllDigits (nm n).cps.toList:=λc hc=>by rw[ph]at hc;obtain⟨d,hd,rfl⟩:=Yw.mp hc;exact(tq n).1 d hd
def yN(h:1<=n):∃c r,(nm n).cps.toList=c::r/\49<=c/\c<=57:=by
 obtain⟨h1,c,r,e,h2⟩:=tq n
 exact⟨c.toNat,r.map Char.toNat,by rw[ph,e];rfl,h2 h,(h1 c (by rw[e];exact .head _)).2⟩
def B5(n:Nat):digitsVal (nm n).cps.toList=n:=by rw[ph];exact PySem.W.KIN.val_back n
def gz{k:Nat}(h:n<10^(k+1)):(nm n).length<=k+1:=by
 have e:(nm n).length=(nm n).cps.toList.length:=by simp[Str.length]
 rw[e,ph,Yh];exact yM k n h
def tu(n:Nat):1<=(nm n).length:=by
 have e:(nm n).length=(nm n).cps.toList.length:=by simp[Str.length]
 obtain⟨_,c,r,h,_⟩:=tq n;rw[e,ph,h];simp
def jl:List (List Nat)->List Nat
 |[]=>[]
 |[x]=>x
 |x::y::r=>x++32::jl (y::r)
theorem rC:∀(x x' a b:List Nat),32∉x->32∉x'->x++32::a=x'++32::b->x=x'/\a=b
 |[],[],a,b,_,_,e=>⟨rfl,by injection e⟩
 |[],c::q,a,b,_,h,e=>by
  injection e with e1 e2
  exact absurd (show 32∈c::q by rw[<- e1];exact .head _) h
 |c::p,[],a,b,h,_,e=>by
  injection e with e1 e2
  exact absurd (show 32∈c::p by rw[e1];exact .head _) h
 |c::p,d::q,a,b,h,h',e=>by
  injection e with e1 e2;obtain⟨h1,h2⟩:=rC p q a b (λz=>h (.tail _ z)) (λz=>h' (.tail _ z)) e2
  exact⟨by rw[e1,h1],h2⟩
theorem yO:∀(A B:List (List Nat)),A≠[]->B≠[]->(∀x∈A,32∉x)->(∀x∈B,32∉x)->jl A=jl B->A=B
 |[],_,h,_,_,_,_=>absurd rfl h
 |_::_,[],_,h,_,_,_=>absurd rfl h
 |[x],[y],_,_,_,_,e=>by have e':x=y:=e;rw[e']
 |[x],y::z::r,_,_,hA,hB,e=>by
  have e':x=y++32::jl (z::r):=e
  exact absurd (show 32∈x by rw[e'];simp) (hA x (.head _))
 |x::y::r,[z],_,_,hA,hB,e=>by
  have e':x++32::jl (y::r)=z:=e
  exact absurd (show 32∈z by rw[<- e'];simp) (hB z (.head _))
 |x::y::r,x'::y'::r',_,_,hA,hB,e=>by
  have e':x++32::jl (y::r)=x'++32::jl (y'::r'):=e;have hx:=hA x (.head _);have hx':=hB x' (.head _);have hd:=rC x x' _ _ hx hx' e'
  rw[hd.1,yO (y::r) (y'::r') (by simp) (by simp) (λz hz=>hA z (.tail _ hz)) (λz hz=>hB z (.tail _ hz)) hd.2]
def jE:(" ":Str)=⟨#[32]⟩:=by decide
theorem gA:∀ws:List Str,(Str.join (" ":Str) ws).cps.toList=jl (ws.map λw=>w.cps.toList)
 |[]=>rfl
 |[x]=>rfl
 |x::y::r=>by
  have ih:=gA (y::r);show((x.cps++(" ":Str).cps)++(Str.join (" ":Str) (y::r)).cps).toList=_
  rw[jE];simp only[Vg,Yb,jl];rw[<- jE,ih];simp
def pj(ws:List Str):Txt.join (" ":Str) ws=Str.join (" ":Str) ws:=StrLaws.glued_eq_join _ _
def gc{y:Str}(h:x.cps.toList=y.cps.toList):x=y:=by obtain⟨⟨a⟩⟩:=x;obtain⟨⟨b⟩⟩:=y;cases h;rfl
def kL{ws:List Str}(h0:ws≠[])(hf:∀w∈ws,32∉w.cps.toList):Txt.split (Txt.join (" ":Str) ws) (" ":Str)=ws:=by
 have e1:=StrLaws.join_split (Txt.join (" ":Str) ws) (" ":Str)
 have e2:∀p∈Txt.split (Txt.join (" ":Str) ws) (" ":Str),32∉p.cps.toList:=by rw[jE];exact StrLaws.split_free _ 32
 have e3:=split_pos (Txt.join (" ":Str) ws) (" ":Str)
 generalize Txt.split (Txt.join (" ":Str) ws) (" ":Str)=vs at e1 e2 e3
 rw[pj]at e1;have e4:=Q8 (λz:Str=>z.cps.toList) e1;simp only[gA]at e4
 have e5:=yO _ _ (by intro z;rw[List.map_eq_nil_iff]at z;rw[z]at e3;cases e3) (by intro z;rw[List.map_eq_nil_iff]at z;exact h0 z) (λx hx=>by
  obtain⟨p,hp,rfl⟩:=Yw.mp hx;exact e2 p hp) (λx hx=>by
  obtain⟨p,hp,rfl⟩:=Yw.mp hx;exact hf p hp) e4
 clear e1 e2 e3 e4 h0 hf
 induction vs generalizing ws with
 |nil=>cases ws with
  |nil=>rfl
  |cons _ _=>cases e5
 |cons v vs ih=>cases ws with
  |nil=>cases e5
  |cons w ws=>
   rw[Yb,Yb]at e5;injection e5 with h1 h2;rw[gc h1,ih h2]
theorem xr:∀A:List (List Nat),(jl A).length=(A.map List.length).sum+(A.length-1)
 |[]=>rfl
 |[x]=>by simp[jl]
 |x::y::r=>by have:=xr (y::r);simp only[jl,Yq,Ym,this,Yb,Zp];omega
end
def gf{f:Sto->D->List D->R D}{ys:List D}(h1:o r S=.ok (.str x) S1)(h2:t r S1=.ok ys S2):fV f o t r S=f S2 (.str x) ys:=by unfold fV;rw[h1,R.bind_ok];show(t r S1).bind _=_;rw[h2,R.bind_ok]
def xt{f:Sto->D->Option Int->Option Int->Option D}{lo hi:OM}{x z:D}{l u:Option Int}(h1:a r S=.ok x S1)(h2:lo r S1=.ok l S2)(h3:hi r S2=.ok u S3)(h4:f S3 x l u=some z):eSl f a lo hi r S=.ok z S3:=by unfold eSl;rw[h1,R.bind_ok,h2,R.bind_ok,h3,R.bind_ok,h4];rfl
def Eh:mm S (.int 10) (.int 60)=some (.int 1000000000000000000000000000000000000000000000000000000000000):=by
 rw[Bz ⟨by decide,by decide,by decide⟩]
 have e:(10:Int)^(60:Int).toNat=1000000000000000000000000000000000000000000000000000000000000:=by decide
 rw[e]
def tw(h:n<1000000000000000000000000000000000000000000000000000000000000):dO S [.int (n:Int)]=some (.str (nm n)):=by
 have hl:(n:Int).natAbs.log2<1920:=by
  rw[Uw];by_cases h0:n=0
  .subst h0;decide
  .rw[Nat.log2_lt h0];exact M1 h Y5
 exact Y8 hl
def B6(h:x.length<=sizeLine):cW S [.str x]=some (.int (x.length:Int)):=Y8 h
def Hu{lo hi:Option Int}(h:x.length<=sizeLine):xp S (.str x) lo hi=some (.str (Txt.slice x lo hi)):=Y8 h
def n9{n:Int}(h:x.length<=640)(hn:intText? x=some n):j9 S [.str x]=some (.int n):=by
 show(if x.length<=640 then (intText? x).map D.int else none)=_
 rw[Y8 h,hn];rfl
def Hv{c:Nat}(h:48<=c/\c<=57)(S:Sto):xm false S (.str ⟨#[c]⟩) (.str "0123456789")=some (.bl true):=by
 show some (D.bl (!(Builtin.Str.occurrences ("0123456789":Str) ⟨#[c]⟩ 0 ("0123456789":Str).length 1).isEmpty))=_
 rw[StrLaws.found_one]
 have:c=48\/c=49\/c=50\/c=51\/c=52\/c=53\/c=54\/c=55\/c=56\/c=57:=by omega
 rcases this with rfl|rfl|rfl|rfl|rfl|rfl|rfl|rfl|rfl|rfl<;>kernel_rfl
theorem kM{A:Type}(f:A->Str):∀ws:List A,strsOf (ws.map λa=>D.str (f a))=some (ws.map f)
 |[]=>rfl
 |w::ws=>by rw[Yb,strsOf,kM f ws];rfl
def Wo(K:List Int):List Int->Int->Prop
 |[],v=>v=0
 |x::xs,v=>∃q∈K,Wo K xs (v-x*q)
def Kd(K:List Int):Prop:=∀q∈K,q = -1\/q=0\/q=1
theorem Fu(hK:Kd K):∀{xs:List Int}{v:Int},(∀x∈xs,1<=x)->Wo K xs v->-xs.sum<=v/\v<=xs.sum
 |[],v,_,h=>by have:v=0:=h;simp[this]
 |x::xs,v,hx,⟨q,hq,h⟩=>by have h1:=Fu hK (λy hy=>hx y (.tail _ hy)) h;have h2:=hx x (.head _);rw[Zp];rcases hK q hq with rfl|rfl|rfl<;>omega
abbrev KS:List Int:=[-1,1]
def kdS:Kd KS:=λq hq=>by simp only[KS,Yc,Yx,Zl]at hq;omega
def wor:List Int->List Int->Int
 |x::xs,q::p=>x*q+wor xs p
 |_,_=>0
def ext(K:List Int)(f:List (List Int)):List (List Int):=f.flatMap λp=>K.map λk=>p++[k]
def allL(K:List Int):Nat->List (List Int)
 |0=>[[]]
 |n+1=>ext K (allL K n)
theorem aU:∀(n:Nat)(p:List Int),p∈allL K n↔p.length=n/\∀q∈p,q∈K
 |0,p=>by
  simp only[allL,Yo];constructor
  .rintro rfl;exact⟨rfl,λq h=>nomatch h⟩
  .rintro⟨h,_⟩;exact Wf.mp h
 |n+1,p=>by
  simp only[allL,ext,Vy,Yw];constructor
  .rintro⟨p',h',k,hk,rfl⟩;obtain⟨h1,h2⟩:=(aU n p').mp h'
   refine⟨by simp[h1],λq hq=>?_⟩
   rcases Yy.mp hq with hq|hq
   .exact h2 q hq
   .rw[Yo.mp hq];exact hk
  .rintro⟨h1,h2⟩
   have hne:p≠[]:=λh=>by rw[h]at h1;cases h1
   refine⟨p.dropLast,(aU n _).mpr ⟨by rw[U7,h1];rfl,λq hq=>h2 q ((List.dropLast_sublist p).subset hq)⟩,p.getLast hne,h2 _ (List.getLast_mem hne),Uo hne⟩
theorem xu:∀(xs:List Int)(v:Int),Wo K xs v↔∃p,(p.length=xs.length/\∀q∈p,q∈K)/\wor xs p=v
 |[],v=>by
  constructor
  .intro h;exact⟨[],⟨rfl,λq h=>nomatch h⟩,(show v=0 from h).symm⟩
  .rintro⟨p,⟨h,_⟩,e⟩;cases Wf.mp h;exact e.symm
 |x::xs,v=>by
  constructor
  .rintro⟨q,hq,h⟩;obtain⟨p,⟨h1,h2⟩,e⟩:=(xu xs _).mp h
   refine⟨q::p,⟨by simp[h1],λr hr=>?_⟩,by show x*q+wor xs p=v;omega⟩
   rcases Yc.mp hr with rfl|hr
   .exact hq
   .exact h2 r hr
  .rintro⟨p,⟨h1,h2⟩,e⟩;cases p with
   |nil=>cases h1
   |cons q p=>
    refine⟨q,h2 q (.head _),(xu xs _).mpr ⟨p,⟨by simpa using h1,λr hr=>h2 r (.tail _ hr)⟩,?_⟩⟩
    have e':x*q+wor xs p=v:=e;omega
def tD:Wo K xs v↔∃p∈allL K xs.length,wor xs p=v:=by
 rw[xu];constructor
 .rintro⟨p,h,e⟩;exact⟨p,(aU _ _).mpr h,e⟩
 .rintro⟨p,h,e⟩;exact⟨p,(aU _ _).mp h,e⟩
theorem yP(K:List Int):∀f:List (List Int),(ext K f).length=f.length*K.length
 |[]=>by simp[ext]
 |p::f=>by have:=yP K f;simp only[ext,Qg,Yq,Yh,Ym]at this ⊢;rw[this,Vk];omega
theorem vA(K:List Int):∀n,(allL K n).length=K.length^n
 |0=>rfl
 |n+1=>by rw[allL,yP,vA K n,Uf]
abbrev tupI(xs:List Int):D:=.tup (xs.map .int)
def lK{b:EM}{d y z:D}{kvs kvs':List (KD×D)}{k:KD}(ho:o r S=.ok d S1)(hd:bS S1 d=some kvs)(ha:a r S1=.ok y S2)(hb:b r S2=.ok z S3)(hd3:bS S3 d=some kvs')(hk:kx y=some k):fk o a b r S=.ok ((ft kvs' k).getD z) S3:=by unfold fk;rw[ho,R.bind_ok];simp only[hd,Option.isSome_some,Zj,ha,R.bind_ok,hb,hd3,hk]
def lL{f:Sto->D->D->D->Option Sto}{i:EM}{S4:Sto}{v x y:D}(he:e r S=.ok v S1)(ho:o r S1=.ok x S2)(hi:i r S2=.ok y S3)(hf:f S3 x y v=some S4):gn f e o i r S=.ok (.nx r) S4:=by unfold gn;rw[he,R.bind_ok,ho,R.bind_ok,hi,R.bind_ok,hf]
def fS(K:List Int)(x:Int)(f:List Int):List Int:=f.flatMap λw=>K.map λq=>w+q*x
def pT(T:List (Int×Int))(k c:Int):List (Int×Int):=if T.any (λe=>decide (e.1=k)) then T.map (λe=>if e.1=k then (e.1,c) else e) else T++[(k,c)]
def gT(T:List (Int×Int))(k:Int):Int:=((T.find? λe=>decide (e.1=k)).map (·.2)).getD 0
def sumH(h:Int->Int)(T:List (Int×Int)):Int:=(T.map λe=>h e.1*e.2).sum
def Keys(T:List (Int×Int)):Prop:=T.Pairwise λa b=>a.1≠b.1
def dW(h:Int->Int)(e:Int×Int)(T:List (Int×Int)):sumH h (e::T)=h e.1*e.2+sumH h T:=by simp[sumH]
theorem lM(h:Int->Int):∀(A B:List (Int×Int)),sumH h (A++B)=sumH h A+sumH h B
 |[],B=>by simp[sumH]
 |e::A,B=>by rw[Wh,dW,dW,lM h A B];omega
def B7{k:Int}(h:T.any (λe=>decide (e.1=k))=false):gT T k=0:=by
 unfold gT
 have:(T.find? λe=>decide (e.1=k))=none:=by rw[List.find?_eq_none];intro e he hd;rw[Qx]at h;exact h e he hd
 rw[this];rfl
def B8{k c:Int}(h:∀e∈T,e.1≠k):T.map (λe=>if e.1=k then (e.1,c) else e)=T:=by
 induction T with
 |nil=>rfl
 |cons e T ih=>
  rw[Yb,Yi (h e (.head _)),ih λe he=>h e (.tail _ he)]
def tE(e:Int×Int)(T:List (Int×Int))(k:Int):gT (e::T) k=if e.1=k then e.2 else gT T k:=by
 unfold gT;rw[Zu];by_cases h:e.1=k
 .simp[h]
 .simp[h]
theorem vB(h:Int->Int){k c:Int}:∀{T:List (Int×Int)},Keys T->T.any (λe=>decide (e.1=k))=true->sumH h (T.map λe=>if e.1=k then (e.1,c) else e)=sumH h T+h k*(c-gT T k)
 |[],_,ha=>by simp at ha
 |e::T,hk,ha=>by
  have hk':=Qn.mp hk;rw[Yb,dW,dW,tE];by_cases he:e.1=k
  .rw[Y8 he,Y8 he,B8 λe' he' h=>hk'.1 e' he' (by rw[he,h])]
   simp only;rw[he,Int.mul_sub];omega
  .have ha':T.any (λe=>decide (e.1=k))=true:=by simp only[Qs,he,M5,Bool.false_or]at ha;exact ha
   rw[Yi he,Yi he,vB h hk'.2 ha'];omega
def Ei(h:Int->Int)(hk:Keys T)(k c:Int):sumH h (pT T k (gT T k+c))=sumH h T+h k*c:=by
 unfold pT;cases ha:T.any (λe=>decide (e.1=k)) with
 |true=>
  rw[Y8 rfl,vB h hk ha,show gT T k+c-gT T k=c by omega]
 |false=>
  rw[Yi Yl,lM,B7 ha,dW];simp[sumH]
def Ej(hk:Keys T)(k c:Int):Keys (pT T k c):=by
 unfold pT;cases ha:T.any (λe=>decide (e.1=k)) with
 |true=>
  rw[Y8 rfl];unfold Keys;rw[K7];refine List.Pairwise.imp (λ{a b} h=>?_) hk;split<;>split<;>exact h
 |false=>
  rw[Yi Yl];refine List.pairwise_append.mpr ⟨hk,Wg _ _,λa ha' b hb=>?_⟩;rw[Yo.mp hb];rw[Qx]at ha;have:=ha a ha';simpa using this
def B9(T:List (Int×Int))(k c v:Int):(∃e∈pT T k c,e.1=v)↔(∃e∈T,e.1=v)\/v=k:=by
 unfold pT;cases ha:T.any (λe=>decide (e.1=k)) with
 |true=>
  rw[Y8 rfl];constructor
  .rintro⟨e,he,rfl⟩;obtain⟨e',he',rfl⟩:=Yw.mp he;refine .inl ⟨e',he',?_⟩;split<;>rfl
  .rintro(⟨e,he,rfl⟩|rfl)
   .exact⟨_,Yw.mpr ⟨e,he,rfl⟩,by split<;>rfl⟩
   .rw[Vz]at ha;obtain⟨e,he,hd⟩:=ha
    exact⟨_,Yw.mpr ⟨e,he,rfl⟩,by split<;>exact Zn hd⟩
 |false=>
  rw[Yi Yl];constructor
  .rintro⟨e,he,rfl⟩;rcases Yy.mp he with he|he
   .exact .inl ⟨e,he,rfl⟩
   .rw[Yo.mp he];exact .inr rfl
  .rintro(⟨e,he,rfl⟩|rfl)
   .exact⟨e,Zs _ he,rfl⟩
   .exact⟨(v,c),Z1 _ (Yo.mpr rfl),rfl⟩
def tF(T:List (Int×Int))(k c:Int):(pT T k c).length<=T.length+1:=by unfold pT;split<;>simp
structure Hist(T:List (Int×Int))(f:List Int):Prop where
 keys:Keys T
 mem:∀v,(∃e∈T,e.1=v)↔v∈f
 sum:∀h:Int->Int,sumH h T=(f.map h).sum
 len:T.length<=f.length
def Hist.zero:Hist [(0,1)] [0]:=⟨Wg _ _,λv=>by simp[eq_comm],λh=>by simp[sumH],Yd _⟩
theorem vD:∀(a b:List Int),(a++b).sum=a.sum+b.sum
 |[],b=>by simp
 |x::a,b=>by rw[Wh,Zp,Zp,vD a b];omega
structure HistC(T:List (Int×Int))(L:List (Int×Int)):Prop where
 keys:Keys T
 mem:∀v,(∃e∈T,e.1=v)↔∃e∈L,e.1=v
 sum:∀h:Int->Int,sumH h T=sumH h L
 len:T.length<=L.length
theorem HistC.nil:HistC [] []:=⟨List.Pairwise.nil,λv=>by simp,λh=>rfl,Yd _⟩
def HistC.put{L:List (Int×Int)}(h:HistC T L)(k c:Int):HistC (pT T k (gT T k+c)) (L++[(k,c)]):=by
 refine⟨Ej h.keys _ _,λv=>?_,λf=>?_,Yv (tF _ _ _) (by have:=h.len;simp;omega)⟩
 .rw[B9,h.mem v];constructor
  .rintro(⟨e,he,e1⟩|rfl)
   .exact⟨e,Zs _ he,e1⟩
   .exact⟨(v,c),Z1 _ (Yo.mpr rfl),rfl⟩
  .rintro⟨e,he,rfl⟩;rcases Yy.mp he with he|he
   .exact .inl ⟨e,he,rfl⟩
   .rw[Yo.mp he];exact .inr rfl
 .rw[Ei f h.keys,h.sum f,lM,dW];simp[sumH]
def fR(K:List Int)(x:Int)(T:List (Int×Int)):List (Int×Int):=T.flatMap λe=>K.map λq=>(e.1+q*x,e.2)
theorem rD(K:List Int)(x:Int)(h:Int->Int):∀T:List (Int×Int),sumH h (fR K x T)=sumH (λy=>(K.map λq=>h (y+q*x)).sum) T
 |[]=>rfl
 |e::T=>by
  have ih:=rD K x h T;unfold fR at ih ⊢;rw[Qg,lM,dW,ih];congr 1
  have:∀l:List Int,sumH h (l.map λq=>(e.1+q*x,e.2))=(l.map λq=>h (e.1+q*x)).sum*e.2:=λl=>by
   induction l with
   |nil=>simp[sumH]
   |cons q l ih=>rw[Yb,dW,Yb,Zp,ih,Int.add_mul]
  exact this K
theorem Ca(K:List Int)(x:Int)(h:Int->Int):∀f:List Int,((fS K x f).map h).sum=(f.map λy=>(K.map λq=>h (y+q*x)).sum).sum
 |[]=>rfl
 |w::f=>by have ih:=Ca K x h f;unfold fS at ih ⊢;rw[Qg,W0,vD,ih,Yb,Zp,Zo];rfl
def Hw{x:Int}{f:List Int}:v∈fS K x f↔∃w∈f,∃q∈K,w+q*x=v:=by simp only[fS,Vy,Yw]
theorem xv(K:List Int)(x:Int):∀f:List Int,(fS K x f).length=f.length*K.length
 |[]=>by simp[fS]
 |w::f=>by have:=xv K x f;simp only[fS,Qg,Yq,Yh,Ym]at this ⊢;rw[this,Vk];omega
theorem jk(K:List Int)(x:Int):∀T:List (Int×Int),(fR K x T).length=T.length*K.length
 |[]=>by simp[fR]
 |w::f=>by have:=jk K x f;simp only[fR,Qg,Yq,Yh,Ym]at this ⊢;rw[this,Vk];omega
def Hist.step{x:Int}{T':List (Int×Int)}{f:List Int}(h:Hist T f)(h':HistC T' (fR K x T)):Hist T' (fS K x f):=by
 refine⟨h'.keys,λv=>?_,λg=>?_,?_⟩
 .rw[h'.mem v,Hw];simp only[fR,Vy,Yw];constructor
  .rintro⟨e,⟨e0,he0,q,hq,rfl⟩,rfl⟩;exact⟨e0.1,(h.mem _).mp ⟨e0,he0,rfl⟩,q,hq,rfl⟩
  .rintro⟨w,hw,q,hq,rfl⟩;obtain⟨e0,he0,rfl⟩:=(h.mem w).mpr hw;exact⟨_,⟨e0,he0,q,hq,rfl⟩,rfl⟩
 .rw[h'.sum g,rD,h.sum,Ca]
 .have:=h'.len;rw[jk]at this;rw[xv];exact Yv this (Vc _ h.len)
theorem xw{k:Int}:∀{T:List (Int×Int)},Keys T->sumH (λy=>if y=k then 1 else 0) T=gT T k
 |[],_=>rfl
 |e::T,hk=>by
  have hk':=Qn.mp hk;rw[dW,tE];by_cases he:e.1=k
  .rw[Y8 he,Y8 he,xw hk'.2,B7 (by
    rw[Qx];intro e' he' hd
    exact hk'.1 e' he' (by rw[he,Zn hd]))]
   omega
  .rw[Yi he,Yi he,xw hk'.2];omega
theorem yQ(k:Int):∀f:List Int,(f.map λy=>if y=k then (1:Int) else 0).sum=(f.filter λy=>decide (y=k)).length
 |[]=>rfl
 |w::f=>by
  rw[Yb,Zp,yQ k f,Vd];by_cases h:w=k
  .simp[h];omega
  .simp[h]
def Hist.get{f:List Int}(h:Hist T f)(k:Int):gT T k=((f.filter λy=>decide (y=k)).length:Int):=by rw[<- xw h.keys,h.sum,yQ]
theorem iD:∀(xs p:List Int)(x q:Int),p.length=xs.length->wor (xs++[x]) (p++[q])=wor xs p+q*x
 |[],[],x,q,_=>by show x*q+0=0+q*x;rw[Int.mul_comm];omega
 |y::xs,r::p,x,q,h=>by
  show y*r+wor (xs++[x]) (p++[q])=y*r+wor xs p+q*x
  rw[iD xs p x q (by simpa using h)];omega
 |[],_::_,_,_,h=>by cases h
 |_::_,[],_,_,h=>by cases h
def wsL(K:List Int)(xs:List Int):List Int:=(allL K xs.length).map (wor xs)
def Cb(K xs:List Int)(x:Int):wsL K (xs++[x])=fS K x (wsL K xs):=by
 unfold wsL fS;rw[Yq,Ym,Zf];show(ext K (allL K xs.length)).map _=_;unfold ext;rw[List.map_flatMap,List.flatMap_map]
 have:∀l:List (List Int),(∀p∈l,p.length=xs.length)->(l.flatMap λp=>(K.map λk=>p++[k]).map (wor (xs++[x])))=l.flatMap λp=>K.map λq=>wor xs p+q*x:=λl=>by
  induction l with
  |nil=>intro _;rfl
  |cons p l ih=>
   intro h;rw[Qg,Qg,ih λp hp=>h p (.tail _ hp),Zo];congr 1;refine Q0 λk _=>?_;exact iD xs p x k (h p (.head _))
 exact this _ λp hp=>((aU _ p).mp hp).1
def leZ(x y:List Int):Prop:=ltZ y x=false
theorem tG:∀x:List Int,ltZ x x=false
 |[]=>rfl
 |a::x=>(ltZ_eq rfl).trans (tG x)
def jF(x:List Int):leZ x x:=tG x
theorem vE:∀{x y:List Int},ltZ x y=true->ltZ y x=false
 |[],[],h=>rfl
 |[],_::_,_=>rfl
 |_::_,[],h=>by cases h
 |a::x,b::y,h=>by
  by_cases e:a=b
  .rw[ltZ_eq e]at h;rw[ltZ_eq e.symm];exact vE h
  .rw[fw e]at h;have h:=Zn h;rw[fw (λz=>e z.symm)]
   exact Yp (by omega)
theorem vF:∀{x y:List Int},leZ x y->leZ y x->x=y
 |[],[],_,_=>rfl
 |[],_::_,_,h=>by cases h
 |_::_,[],h,_=>by cases h
 |a::x,b::y,h1,h2=>by
  unfold leZ at h1 h2;by_cases e:a=b
  .rw[ltZ_eq e.symm]at h1;rw[ltZ_eq e]at h2;rw[e,vF h1 h2]
  .rw[fw (λz=>e z.symm)]at h1;rw[fw e]at h2;have h1:=V2 h1;have h2:=V2 h2;omega
theorem fA:∀{x y z:List Int},leZ x y->leZ y z->leZ x z
 |[],y,[],_,_=>rfl
 |[],y,_::_,_,_=>rfl
 |_::_,[],_,h,_=>by cases h
 |_::_,_::_,[],_,h=>by cases h
 |a::x,b::y,c::z,h1,h2=>by
  unfold leZ at h1 h2 ⊢;by_cases e1:b=a
  .rw[ltZ_eq e1]at h1;by_cases e2:c=b
   .rw[ltZ_eq e2]at h2;rw[ltZ_eq (e2.trans e1)];exact fA (x:=x) (y:=y) h1 h2
   .rw[fw e2]at h2
    rw[fw (λe=>e2 (by rw[e,e1]))]
    rw[<- e1];exact h2
  .rw[fw e1]at h1;have h1:=V2 h1;by_cases e2:c=b
   .rw[fw (λe=>e1 (by rw[<- e2,e]))]
    exact Yp (by omega)
   .rw[fw e2]at h2;have h2:=V2 h2
    rw[fw (by omega)]
    exact Yp (by omega)
def rE{x y:List Int}(h:ltZ x y=true):leZ x y:=vE h
theorem yR:∀{x y:List Int}(u v:List Int),x.length=y.length->ltZ (x++u) (y++v)=if x=y then ltZ u v else ltZ x y
 |[],[],u,v,_=>by simp
 |[],_::_,_,_,h=>by cases h
 |_::_,[],_,_,h=>by cases h
 |a::x,b::y,u,v,h=>by
  have ih:=yR u v (show x.length=y.length by simpa using h)
  rw[Wh,Wh];by_cases e:a=b
  .subst e;rw[ltZ_eq rfl,ltZ_eq rfl,ih];by_cases e2:x=y
   .rw[Y8 e2,Y8 (by rw[e2])]
   .rw[Yi e2,Yi (λz=>e2 (List.cons.inj z).2)]
  .rw[fw e,fw e,Yi (λz=>e (List.cons.inj z).1)]
def yS{x y v:List Int}(hl:x.length=y.length)(h1:leZ x y)(h2:leZ u v):leZ (x++u) (y++v):=by
 unfold leZ at *;rw[yR v u hl.symm];by_cases e:y=x
 .rw[Y8 e];exact h2
 .rw[Yi e];exact h1
theorem yT:∀(l:List (List Int))(m:List Int),(jr m l=m\/jr m l∈l)/\leZ (jr m l) m/\∀y∈l,leZ (jr m l) y
 |[],m=>⟨.inl rfl,jF _,λy h=>nomatch h⟩
 |x::l,m=>by
  obtain⟨h1,h2,h3⟩:=yT l (if ltZ x m=true then x else m)
  have e:jr m (x::l)=jr (if ltZ x m=true then x else m) l:=rfl
  rw[e];by_cases hx:ltZ x m=true
  .rw[Y8 hx]at h1 h2 h3 ⊢;refine⟨.inr ?_,fA h2 (rE hx),λy hy=>?_⟩
   .rcases h1 with h1|h1
    .rw[h1];exact .head _
    .exact .tail _ h1
   .rcases Yc.mp hy with rfl|hy
    .exact h2
    .exact h3 y hy
  .rw[Yi hx]at h1 h2 h3 ⊢
   have hx':leZ m x:=by unfold leZ;simpa using hx
   refine⟨?_,h2,λy hy=>?_⟩
   .rcases h1 with h1|h1
    .exact .inl h1
    .exact .inr (.tail _ h1)
   .rcases Yc.mp hy with rfl|hy
    .exact fA h2 hx'
    .exact h3 y hy
abbrev TF:=List (Int×List Int)
def pF(T:TF)(k:Int)(c:List Int):TF:=if T.any (λe=>decide (e.1=k)) then T.map (λe=>if e.1=k then (e.1,c) else e) else T++[(k,c)]
def gF(T:TF)(k:Int):Option (List Int):=(T.find? λe=>decide (e.1=k)).map (·.2)
def KeysF(T:TF):Prop:=T.Pairwise λa b=>a.1≠b.1
def tH{T:TF}{k:Int}{c:List Int}{e:Int×List Int}:e∈pF T k c↔e=(k,c)\/(e∈T/\e.1≠k):=by
 unfold pF;cases ha:T.any (λe=>decide (e.1=k)) with
 |true=>
  rw[Y8 rfl,Yw];constructor
  .rintro⟨d,hd,rfl⟩;by_cases h:d.1=k
   .rw[Y8 h,h];exact .inl rfl
   .rw[Yi h];exact .inr ⟨hd,h⟩
  .rintro(rfl|⟨he,h⟩)
   .rw[Vz]at ha;obtain⟨d,hd,z⟩:=ha;have z:=Zn z
    exact⟨d,hd,by rw[Y8 z,z]⟩
   .exact⟨e,he,by rw[Yi h]⟩
 |false=>
  rw[Yi Yl,Yy,Yo];rw[Qx]at ha;constructor
  .rintro(h|h)
   .exact .inr ⟨h,λz=>ha e h (Yr z)⟩
   .exact .inl h
  .rintro(h|⟨h,_⟩)
   .exact .inr h
   .exact .inl h
def Ek{T:TF}(hk:KeysF T)(k:Int)(c:List Int):KeysF (pF T k c):=by
 unfold pF;cases ha:T.any (λe=>decide (e.1=k)) with
 |true=>
  rw[Y8 rfl];unfold KeysF;rw[K7];refine List.Pairwise.imp (λ{a b} h=>?_) hk;split<;>split<;>exact h
 |false=>
  rw[Yi Yl];refine List.pairwise_append.mpr ⟨hk,Wg _ _,λa ha' b hb=>?_⟩;rw[Yo.mp hb];rw[Qx]at ha;have:=ha a ha';simpa using this
def Hx(T:TF)(k:Int)(c:List Int):(pF T k c).length<=T.length+1:=by unfold pF;split<;>simp
def og{T:TF}{k:Int}(h:gF T k=some u):(k,u)∈T:=by
 unfold gF at h;cases hf:T.find? λe=>decide (e.1=k) with
 |none=>rw[hf]at h;cases h
 |some d=>
  rw[hf]at h;have h1:=List.find?_some hf
  have h1:d.1=k:=by simpa using h1
  have h2:=List.mem_of_find?_eq_some hf;cases h;rw[<- h1];exact h2
def yU{T:TF}{k:Int}(h:gF T k=none):∀e∈T,e.1≠k:=by
 unfold gF at h;cases hf:T.find? λe=>decide (e.1=k) with
 |some d=>rw[hf]at h;cases h
 |none=>
  rw[List.find?_eq_none]at hf;exact λe he z=>hf e he (Yr z)
def min2(a b:List Int):List Int:=if ltZ b a=true then b else a
structure FT(T L:TF):Prop where
 keys:KeysF T
 mem:∀v,(∃e∈T,e.1=v)↔∃e∈L,e.1=v
 least:∀e∈T,e∈L/\∀d∈L,d.1=e.1->leZ e.2 d.2
 len:T.length<=L.length
theorem FT.nil:FT [] []:=⟨List.Pairwise.nil,λv=>by simp,(λe h=>nomatch h),Yd _⟩
def FT.put{T L:TF}(h:FT T L)(k:Int)(v:List Int):FT (pF T k (min2 v ((gF T k).getD v))) (L++[(k,v)]):=by
 refine⟨Ek h.keys _ _,λx=>?_,λe he=>?_,Yv (Hx _ _ _) (by have:=h.len;simp;omega)⟩
 .constructor
  .rintro⟨e,he,rfl⟩;rcases tH.mp he with rfl|⟨he,_⟩
   .exact⟨(k,v),Z1 _ (Yo.mpr rfl),rfl⟩
   .obtain⟨d,hd,z⟩:=(h.mem _).mp ⟨e,he,rfl⟩;exact⟨d,Zs _ hd,z⟩
  .rintro⟨d,hd,rfl⟩;by_cases hk:d.1=k
   .exact⟨_,tH.mpr (.inl rfl),hk.symm⟩
   .rcases Yy.mp hd with hd|hd
    .obtain⟨e,he,z⟩:=(h.mem _).mpr ⟨d,hd,rfl⟩
     exact⟨e,tH.mpr (.inr ⟨he,by rw[z];exact hk⟩),z⟩
    .rw[Yo.mp hd]at hk;exact absurd rfl hk
 .rcases tH.mp he with rfl|⟨he,hk⟩
  .cases hg:gF T k with
   |none=>
    have e0:min2 v ((none:Option (List Int)).getD v)=v:=Yi (by rw[Vv,tG];decide)
    rw[e0];refine⟨Z1 _ (Yo.mpr rfl),λd hd hz=>?_⟩;rcases Yy.mp hd with hd|hd
    .obtain⟨e,he,z⟩:=(h.mem _).mpr ⟨d,hd,rfl⟩;exact absurd (z.trans hz) (yU hg e he)
    .rw[Yo.mp hd];exact jF _
   |some u=>
    have hu:=og hg;obtain⟨l1,l2⟩:=h.least _ hu
    rw[show min2 v ((some u).getD v)=min2 v u from rfl]
    unfold min2;by_cases hx:ltZ u v=true
    .rw[Y8 hx];refine⟨Zs _ l1,λd hd hz=>?_⟩;rcases Yy.mp hd with hd|hd
     .exact l2 d hd hz
     .rw[Yo.mp hd];exact rE hx
    .rw[Yi hx]
     have hx':leZ v u:=by unfold leZ;simpa using hx
     refine⟨Z1 _ (Yo.mpr rfl),λd hd hz=>?_⟩;rcases Yy.mp hd with hd|hd
     .exact fA hx' (l2 d hd hz)
     .rw[Yo.mp hd];exact jF _
  .obtain⟨l1,l2⟩:=h.least e he;refine⟨Zs _ l1,λd hd hz=>?_⟩;rcases Yy.mp hd with hd|hd
   .exact l2 d hd hz
   .rw[Yo.mp hd]at hz;exact absurd hz.symm hk
structure Firsts(T:TF)(xs:List Int):Prop where
 keys:KeysF T
 mem:∀v,(∃e∈T,e.1=v)↔∃p∈allL KS xs.length,wor xs p=v
 least:∀e∈T,(e.2∈allL KS xs.length/\wor xs e.2=e.1)/\∀p∈allL KS xs.length,wor xs p=e.1->leZ e.2 p
 len:T.length<=2^xs.length
def Firsts.zero:Firsts [(0,[])] []:=by
 refine⟨Wg _ _,λv=>?_,λe he=>?_,Yd _⟩
 .constructor
  .rintro⟨e,he,rfl⟩;rw[Yo.mp he];exact⟨[],Yo.mpr rfl,rfl⟩
  .rintro⟨p,hp,rfl⟩;have hp:p=[]:=Yo.mp hp;rw[hp];exact⟨_,Yo.mpr rfl,rfl⟩
 .rw[Yo.mp he];refine⟨⟨Yo.mpr rfl,rfl⟩,λp hp _=>?_⟩;have hp:p=[]:=Yo.mp hp;rw[hp];exact jF _
def ki(x:Int)(T:TF):TF:=T.flatMap λe=>KS.map λq=>(e.1+q*x,e.2++[q])
def jP{x:Int}{T:TF}{d:Int×List Int}:d∈ki x T↔∃e∈T,∃q∈KS,(e.1+q*x,e.2++[q])=d:=by simp only[ki,Vy,Yw]
theorem rF(x:Int):∀T:TF,(ki x T).length=T.length*2
 |[]=>rfl
 |e::T=>by have:=rF x T;simp only[ki,Qg,Yq,Yh,Ym,Zf]at this ⊢;rw[this];omega
def vG(h:p∈allL KS (n+1)):∃p0 q,p=p0++[q]/\p0∈allL KS n/\q∈KS:=by
 obtain⟨h1,h2⟩:=(aU _ p).mp h
 have hne:p≠[]:=λe=>by rw[e]at h1;cases h1
 refine⟨p.dropLast,p.getLast hne,(Uo hne).symm,(aU _ _).mpr ⟨by rw[U7,h1];rfl,λy hy=>h2 y (List.dropLast_subset _ hy)⟩,h2 _ (List.getLast_mem hne)⟩
def vH(h:p∈allL KS n)(hq:q∈KS):p++[q]∈allL KS (n+1):=by
 obtain⟨h1,h2⟩:=(aU _ p).mp h
 refine(aU _ _).mpr ⟨by rw[Yq,h1];rfl,λy hy=>?_⟩
 rcases Yy.mp hy with hy|hy
 .exact h2 y hy
 .rw[Yo.mp hy];exact hq
def Firsts.step{T T':TF}{x:Int}(h:Firsts T xs)(h':FT T' (ki x T)):Firsts T' (xs++[x]):=by
 have hn:(xs++[x]).length=xs.length+1:=by simp
 refine⟨h'.keys,λv=>?_,λe he=>?_,?_⟩
 .rw[h'.mem v,hn];constructor
  .rintro⟨d,hd,rfl⟩;obtain⟨e,he,q,hq,rfl⟩:=jP.mp hd;obtain⟨⟨a1,a2⟩,_⟩:=h.least e he
   exact⟨e.2++[q],vH a1 hq,by rw[iD _ _ _ _ ((aU _ _).mp a1).1,a2]⟩
  .rintro⟨p,hp,rfl⟩;obtain⟨p0,q,rfl,hp0,hq⟩:=vG hp;obtain⟨e,he,z⟩:=(h.mem _).mpr ⟨p0,hp0,rfl⟩
   exact⟨_,jP.mpr ⟨e,he,q,hq,rfl⟩,by rw[iD _ _ _ _ ((aU _ _).mp hp0).1,z]⟩
 .rw[hn];obtain⟨l1,l2⟩:=h'.least e he;obtain⟨d,hd,q,hq,rfl⟩:=jP.mp l1;obtain⟨⟨a1,a2⟩,_⟩:=h.least d hd
  refine⟨⟨vH a1 hq,by rw[iD _ _ _ _ ((aU _ _).mp a1).1,a2]⟩,λp hp hw=>?_⟩
  obtain⟨p0,r,rfl,hp0,hr⟩:=vG hp;rw[iD _ _ _ _ ((aU _ _).mp hp0).1]at hw;obtain⟨c,hc,z⟩:=(h.mem _).mpr ⟨p0,hp0,rfl⟩;obtain⟨⟨c1,c2⟩,c3⟩:=h.least c hc
  have i1:=l2 (c.1+r*x,c.2++[r]) (jP.mpr ⟨c,hc,r,hr,rfl⟩) (by rw[z];exact hw)
  exact fA i1 (yS (((aU _ _).mp c1).1.trans ((aU _ _).mp hp0).1.symm) (c3 p0 hp0 z.symm) (jF _))
 .have:=h'.len;rw[rF]at this;rw[hn,Uf];have:=h.len;omega
def aV(T:List (Int×Int)):List (KD×D):=T.map λe=>(.inl e.1,.int e.2)
def Cc(T:List (Int×Int))(k:Int):(aV T).any (λkv=>decide (kv.1=.inl k))=T.any λe=>decide (e.1=k):=by
 unfold aV;rw[List.any_map];congr 1;funext e;show decide ((Sum.inl e.1:KD)=.inl k)=decide (e.1=k);rw[Qq]
 exact⟨V3,λh=>by rw[h]⟩
def vI(T:List (Int×Int))(k c:Int):putD (aV T) (.inl k) (.int c)=aV (pT T k c):=by
 unfold putD pT;rw[Cc];cases T.any λe=>decide (e.1=k) with
 |true=>
  rw[Y8 rfl,Y8 rfl];unfold aV;rw[Zo,Zo];refine Q0 λe _=>?_;simp only[Function.comp];by_cases h:e.1=k
  .rw[Y8 (by rw[h]),Y8 h]
  .rw[Yi (λz=>h (V3 z)),Yi h]
 |false=>
  rw[Yi Yl,Yi Yl];simp[aV]
def vJ(T:List (Int×Int))(k:Int):(ft (aV T) (.inl k)).getD (.int 0)=.int (gT T k):=by
 unfold ft gT aV;rw[Me]
 have e:((λkv:KD×D=>decide (kv.1=.inl k))∘λe:Int×Int=>((.inl e.1:KD),D.int e.2))=λe=>decide (e.1=k):=by
  funext e;show decide ((Sum.inl e.1:KD)=.inl k)=decide (e.1=k);rw[Qq]
  exact⟨V3,λh=>by rw[h]⟩
 rw[e];cases T.find? λe=>decide (e.1=k)<;>rfl
def dAt(S:Sto)(n:Nat)(T:List (Int×Int)):Prop:=S[n]?=some (.dic (aV T))\/S[n]?=some (.fdic (aV T))
def dAt.dic(h:dAt S n T):bS S (.ref n)=some (aV T):=by rcases h with h|h<;>simp[bS,h]
def dAt.seq(h:dAt S n T):bN S (.ref n)=none:=by rcases h with h|h<;>simp[bN,h]
def dAt.lt(h:dAt S n T):n<S.length:=by rcases h with h|h<;>exact(Y9.mp h).1
abbrev stI:SM:=(aA (aO 7 (eOp aT (ae 4) (eOp cI (ae 6) (ae 1)))) (gn dh (eOp aT (fk (ae 3) (ae 7) (eC (.int 0))) (ae 5)) (ae 3) (ae 7)))
abbrev stO:SM:=(fj (bJ (ae 2) bB) (.nm 6) (aA (aO 7 (eOp aT (ae 4) (eOp cI (ae 6) (ae 1)))) (gn dh (eOp aT (fk (ae 3) (ae 7) (eC (.int 0))) (ae 5)) (ae 3) (ae 7))))
abbrev Km:SM:=(aO 2 (az gk (af (ae 2) (af (ae 3) (af (ae 1) ak)))))
def sml(h:-1<=q/\q<=1):cZ q:=⟨by omega,by omega⟩
def Hy{x w c:Int}(hq:-1<=q/\q<=1)(hm:S[m]?=some (.dic (aV W)))(hz:W.length<1000)(r0 r2 r7:Option D):
  stI [r0,some (.int x),r2,some (.ref m),some (.int w),some (.int c),some (.int q),r7] S=.ok (.nx [r0,some (.int x),r2,some (.ref m),some (.int w),some (.int c),some (.int q),some (.int (w+q*x))]) (S.set m (.dic (aV (pT W (w+q*x) (gT W (w+q*x)+c))))):=by
 have hd:bS S (.ref m)=some (aV W):=by simp[bS,hm]
 have z:(1000:Nat)<=sizeLine:=by decide
 refine(aq (aC (av (aa rfl) (av (aa rfl) (aa rfl) (d8 (.inl (sml hq)))) rfl))).trans ?_
 have hg:fk (ae 3) (ae 7) (eC (.int 0)) [r0,some (.int x),r2,some (.ref m),some (.int w),some (.int c),some (.int q),some (.int (w+q*x))] S=.ok (.int (gT W (w+q*x))) S:=by rw[<- vJ];exact lK (aa rfl) hd (aa rfl) rfl hd rfl
 refine lL (av hg (aa rfl) rfl) (aa rfl) (aa rfl) ?_
 have h1:lu S (.ref m)=true:=by simp[lu,hm]
 unfold dh;rw[Y8 h1];unfold oN;simp only[hm,kx]
 rw[Y8 (by simp[aV];omega),vI]
theorem vK{x w c:Int}(r0 r2:Option D):∀(K:List Int)(S:Sto)(W L:List (Int×Int))(r6 r7:Option D),(∀q∈K,-1<=q/\q<=1)->S[m]?=some (.dic (aV W))->HistC W L->L.length+K.length<=1000->
  ∃(W':List (Int×Int))(r6' r7':Option D),forL (.nm 6) stI (K.map .int) [r0,some (.int x),r2,some (.ref m),some (.int w),some (.int c),r6,r7] S=.ok (.nx [r0,some (.int x),r2,some (.ref m),some (.int w),some (.int c),r6',r7']) (S.set m (.dic (aV W')))/\HistC W' (L++K.map λq=>(w+q*x,c))
 |[],S,W,L,r6,r7,_,hm,h,_=>⟨W,r6,r7,by
  have hml:m<S.length:=(Y9.mp hm).1
  have:S.set m (.dic (aV W))=S:=by have e:=(Y9.mp hm).2;rw[<- e];exact Qj hml
  rw[this];rfl,by simpa using h⟩
 |q::K,S,W,L,r6,r7,hK,hm,h,hz=>by
  rw[Ym]at hz;have hml:m<S.length:=(Y9.mp hm).1
  have e1:=Hy (S:=S) (x:=x) (w:=w) (c:=c) (hK q (.head _)) hm (by have:=h.len;omega) r0 r2 r7
  obtain⟨W',a6,a7,e2,h2⟩:=vK r0 r2 K (S.set m (.dic (aV (pT W (w+q*x) (gT W (w+q*x)+c))))) (pT W (w+q*x) (gT W (w+q*x)+c)) (L++[(w+q*x,c)]) (some (.int q)) (some (.int (w+q*x))) (λq hq=>hK q (.tail _ hq)) (Z4 hml) (h.put (w+q*x) c) (by simp;omega)
  rw[Wr]at e2;refine⟨W',a6,a7,(bG (r1:=[r0,some (.int x),r2,some (.ref m),some (.int w),some (.int c),some (.int q),r7]) rfl e1).trans e2,?_⟩;rw[Yb];simpa using h2
theorem vM{x:Int}(hK:∀q∈K,-1<=q/\q<=1)(r0:Option D):∀(T:List (Int×Int))(S:Sto)(W L:List (Int×Int))(r4 r5 r6 r7:Option D),S[m]?=some (.dic (aV W))->HistC W L->L.length+T.length*K.length<=1000->
  ∃(W':List (Int×Int))(r4' r5' r6' r7':Option D),forL (.tp [.nm 4,.nm 5]) stO ((aV T).map pairD) [r0,some (.int x),some (tupI K),some (.ref m),r4,r5,r6,r7] S=.ok (.nx [r0,some (.int x),some (tupI K),some (.ref m),r4',r5',r6',r7']) (S.set m (.dic (aV W')))/\HistC W' (L++fR K x T)
 |[],S,W,L,r4,r5,r6,r7,hm,h,_=>⟨W,r4,r5,r6,r7,by
  have hml:m<S.length:=(Y9.mp hm).1
  have:S.set m (.dic (aV W))=S:=by have e:=(Y9.mp hm).2;rw[<- e];exact Qj hml
  rw[this];rfl,by simpa[fR] using h⟩
 |e::T,S,W,L,r4,r5,r6,r7,hm,h,hz=>by
  have hm2:(e::T).length*K.length=T.length*K.length+K.length:=by rw[Ym,Vk]
  have hml:m<S.length:=(Y9.mp hm).1
  obtain⟨W1,a6,a7,e1,h1⟩:=vK (x:=x) (w:=e.1) (c:=e.2) r0 (some (tupI K)) K S W L r6 r7 hK hm h (by omega)
  obtain⟨W2,b4,b5,b6,b7,e2,h2⟩:=vM hK r0 T (S.set m (.dic (aV W1))) W1 (L++K.map λq=>(e.1+q*x,e.2)) (some (.int e.1)) (some (.int e.2)) a6 a7 (Z4 hml) h1 (by rw[Yq,Yh];omega)
  rw[Wr]at e2;refine⟨W2,b4,b5,b6,b7,?_,?_⟩
  .show forL _ _ (pairD (.inl e.1,.int e.2)::(aV T).map pairD) _ _=_;exact(bG (r1:=[r0,some (.int x),some (tupI K),some (.ref m),some (.int e.1),some (.int e.2),r6,r7]) rfl ((et (aa rfl) rfl).trans e1)).trans e2
  .have:fR K x (e::T)=(K.map λq=>(e.1+q*x,e.2))++fR K x T:=by simp[fR]
   rw[this,<- Qe];exact h2
def vN(hi:ρ[i]?=some (some (.ref n)))(h:dAt S n T):eN (ae i) ρ S=.ok ((aV T).map pairD) (S.set n (.fdic (aV T))):=by
 unfold eN;rw[aa hi,R.bind_ok];rcases h with h|h
 .simp only[h]
 .simp only[h];have hnl:n<S.length:=(Y9.mp h).1
  have:S.set n (.fdic (aV T))=S:=by have e:=(Y9.mp h).2;rw[<- e];exact Qj hnl
  rw[this]
def xx{x:Int}{f:List Int}(hK:∀q∈K,-1<=q/\q<=1)(hd:dAt S n T)(h:Hist T f)(hz:f.length*K.length<=1000):
  ∃T':List (Int×Int),gk [.ref n,.int x,tupI K] S=.ok (.ref S.length) (S.set n (.fdic (aV T))++[.dic (aV T')])/\Hist T' (fS K x f):=by
 have hnl:=hd.lt
 have hd':dAt (S++[.dic []]) n T:=by unfold dAt;rw[Z0 hnl];exact hd
 have hle:T.length*K.length<=f.length*K.length:=Vc _ h.len;have e0:(S++[SO.dic []]).set n (.fdic (aV T))=S.set n (.fdic (aV T))++[.dic []]:=Ug _ _ hnl
 obtain⟨T',a4,a5,a6,a7,e1,h1⟩:=vM (x:=x) hK (some (.ref n)) (m:=S.length) T (S.set n (.fdic (aV T))++[.dic []]) [] [] none none none none (by simp[aV]) HistC.nil (by simp;omega)
 have e2:(S.set n (.fdic (aV T))++[SO.dic []]).set S.length (.dic (aV T'))=S.set n (.fdic (aV T))++[.dic (aV T')]:=by rw[U3 _ _ (by simp)];simp
 rw[e2]at e1
 refine⟨T',?_,h.step (by simpa using h1)⟩
 exact aQ (ρ:=[some (.ref n),some (.int x),some (tupI K),none,none,none,none,none]) rfl ((aq (S1:=S++[.dic []]) (aC rfl)).trans ((aq (r1:=[some (.ref n),some (.int x),some (tupI K),some (.ref S.length),a4,a5,a6,a7]) ((iV (vN rfl hd')).trans (by rw[e0];exact e1))).trans (aE (aa rfl))))
def bH(T:TF):List (KD×D):=T.map λe=>(.inl e.1,tupI e.2)
def Ce(T:TF)(k:Int):(bH T).any (λkv=>decide (kv.1=.inl k))=T.any λe=>decide (e.1=k):=by
 unfold bH;rw[List.any_map];congr 1;funext e;show decide ((Sum.inl e.1:KD)=.inl k)=decide (e.1=k);rw[Qq]
 exact⟨V3,λh=>by rw[h]⟩
def Cf(T:TF)(k:Int)(c:List Int):putD (bH T) (.inl k) (tupI c)=bH (pF T k c):=by
 unfold putD pF;rw[Ce];cases T.any λe=>decide (e.1=k) with
 |true=>
  rw[Y8 rfl,Y8 rfl];unfold bH;rw[Zo,Zo];refine Q0 λe _=>?_;simp only[Function.comp];by_cases h:e.1=k
  .rw[Y8 (by rw[h]),Y8 h]
  .rw[Yi (λz=>h (V3 z)),Yi h]
 |false=>
  rw[Yi Yl,Yi Yl];simp[bH]
def pk(T:TF)(k:Int):ft (bH T) (.inl k)=(gF T k).map tupI:=by
 unfold ft gF bH;rw[Me]
 have e:((λkv:KD×D=>decide (kv.1=.inl k))∘λe:Int×List Int=>((.inl e.1:KD),tupI e.2))=λe=>decide (e.1=k):=by
  funext e;show decide ((Sum.inl e.1:KD)=.inl k)=decide (e.1=k);rw[Qq]
  exact⟨V3,λh=>by rw[h]⟩
 rw[e];cases T.find? λe=>decide (e.1=k)<;>rfl
abbrev fsI:SM:=(aA (aO 6 (eOp aT (ae 3) (eOp cI (ae 5) (ae 1)))) (aA (aO 7 (eOp aT (ae 4) (g7 (af (ae 5) ak)))) (gn dh (eB qY (af (ae 7) (af (fk (ae 2) (ae 6) (ae 7)) ak))) (ae 2) (ae 6))))
def Cg(S:Sto)(p:List Int)(q:Int)(h:p.length<=100):aT S (tupI p) (.tup [.int q])=some (tupI (p++[q])):=by
 have z:(1000:Nat)<=sizeLine:=by decide
 refine(tm (by simp;omega)).trans ?_
 simp[tupI]
theorem fM:∀xs:List Int,intsOf (xs.map .int)=some xs
 |[]=>rfl
 |x::xs=>by rw[Yb,intsOf,fM xs];rfl
def Ai(S:Sto)(a b:List Int):qY S [tupI a,tupI b]=some (tupI (min2 a b)):=by
 show u5 S [.tup (a.map .int),.tup (b.map .int)]=_;unfold u5 min2;simp only[fM];by_cases h:ltZ b a=true
 .rw[Y8 h,Y8 h]
 .rw[Yi h,Yi h]
def Hz{W:TF}{x w:Int}(hq:-1<=q/\q<=1)(hp:p.length<=100)(hm:S[m]?=some (.dic (bH W)))(hz:W.length<1000)(r0 r6 r7:Option D):
  fsI [r0,some (.int x),some (.ref m),some (.int w),some (tupI p),some (.int q),r6,r7] S=.ok (.nx [r0,some (.int x),some (.ref m),some (.int w),some (tupI p),some (.int q),some (.int (w+q*x)),some (tupI (p++[q]))]) (S.set m (.dic (bH (pF W (w+q*x) (min2 (p++[q]) ((gF W (w+q*x)).getD (p++[q]))))))):=by
 have hd:bS S (.ref m)=some (bH W):=by simp[bS,hm]
 have z:(1000:Nat)<=sizeLine:=by decide
 have z1:(1:Nat)<=sizeLine:=by decide
 refine(aq (aC (av (aa rfl) (av (aa rfl) (aa rfl) (d8 (.inl ⟨by omega,by omega⟩))) rfl))).trans ?_
 refine(aq (aC (av (aa rfl) (iW (xs:=[.int q]) rfl z1) (Cg S p q hp)))).trans ?_
 have hg:fk (ae 2) (ae 6) (ae 7) [r0,some (.int x),some (.ref m),some (.int w),some (tupI p),some (.int q),some (.int (w+q*x)),some (tupI (p++[q]))] S=.ok (tupI ((gF W (w+q*x)).getD (p++[q]))) S:=by
  have e:(ft (bH W) (.inl (w+q*x))).getD (tupI (p++[q]))=tupI ((gF W (w+q*x)).getD (p++[q])):=by rw[pk];cases gF W (w+q*x)<;>rfl
  rw[<- e];exact lK (aa rfl) hd (aa rfl) (aa rfl) hd rfl
 refine lL (aZ (ag (aa rfl) (ag hg rfl)) (Ai _ _ _)) (aa rfl) (aa rfl) ?_
 have h1:lu S (.ref m)=true:=by simp[lu,hm]
 unfold dh;rw[Y8 h1];unfold oN;simp only[hm,kx]
 rw[Y8 (by simp[bH];omega),Cf]
abbrev fsO:SM:=(fj (bJ (eC (.tup (([(-1),(1)]:List Int).map .int))) bB) (.nm 5) (aA (aO 6 (eOp aT (ae 3) (eOp cI (ae 5) (ae 1)))) (aA (aO 7 (eOp aT (ae 4) (g7 (af (ae 5) ak)))) (gn dh (eB qY (af (ae 7) (af (fk (ae 2) (ae 6) (ae 7)) ak))) (ae 2) (ae 6)))))
theorem vO{x w:Int}(hp:p.length<=100)(r0:Option D):∀(K:List Int)(S:Sto)(W L:TF)(r5 r6 r7:Option D),(∀q∈K,-1<=q/\q<=1)->S[m]?=some (.dic (bH W))->FT W L->L.length+K.length<=1000->
  ∃(W':TF)(r5' r6' r7':Option D),forL (.nm 5) fsI (K.map .int) [r0,some (.int x),some (.ref m),some (.int w),some (tupI p),r5,r6,r7] S=.ok (.nx [r0,some (.int x),some (.ref m),some (.int w),some (tupI p),r5',r6',r7']) (S.set m (.dic (bH W')))/\FT W' (L++K.map λq=>(w+q*x,p++[q]))
 |[],S,W,L,r5,r6,r7,_,hm,h,_=>⟨W,r5,r6,r7,by
  have hml:m<S.length:=(Y9.mp hm).1
  have:S.set m (.dic (bH W))=S:=by have e:=(Y9.mp hm).2;rw[<- e];exact Qj hml
  rw[this];rfl,by simpa using h⟩
 |q::K,S,W,L,r5,r6,r7,hK,hm,h,hz=>by
  rw[Ym]at hz;have hml:m<S.length:=(Y9.mp hm).1
  have e1:=Hz (S:=S) (x:=x) (w:=w) (p:=p) (hK q (.head _)) hp hm (by have:=h.len;omega) r0 r6 r7
  obtain⟨W',a5,a6,a7,e2,h2⟩:=vO hp r0 K (S.set m (.dic (bH (pF W (w+q*x) (min2 (p++[q]) ((gF W (w+q*x)).getD (p++[q]))))))) (pF W (w+q*x) (min2 (p++[q]) ((gF W (w+q*x)).getD (p++[q])))) (L++[(w+q*x,p++[q])]) (some (.int q)) (some (.int (w+q*x))) (some (tupI (p++[q]))) (λq hq=>hK q (.tail _ hq)) (Z4 hml) (h.put (w+q*x) (p++[q])) (by simp;omega)
  rw[Wr]at e2;refine⟨W',a5,a6,a7,(bG (r1:=[r0,some (.int x),some (.ref m),some (.int w),some (tupI p),some (.int q),r6,r7]) rfl e1).trans e2,?_⟩;rw[Yb];simpa using h2
theorem vP{x:Int}(r0:Option D):∀(T:TF)(S:Sto)(W L:TF)(r3 r4 r5 r6 r7:Option D),(∀e∈T,e.2.length<=100)->S[m]?=some (.dic (bH W))->FT W L->L.length+T.length*2<=1000->
  ∃(W':TF)(r3' r4' r5' r6' r7':Option D),forL (.tp [.nm 3,.nm 4]) fsO ((bH T).map pairD) [r0,some (.int x),some (.ref m),r3,r4,r5,r6,r7] S=.ok (.nx [r0,some (.int x),some (.ref m),r3',r4',r5',r6',r7']) (S.set m (.dic (bH W')))/\FT W' (L++ki x T)
 |[],S,W,L,r3,r4,r5,r6,r7,_,hm,h,_=>⟨W,r3,r4,r5,r6,r7,by
  have hml:m<S.length:=(Y9.mp hm).1
  have:S.set m (.dic (bH W))=S:=by have e:=(Y9.mp hm).2;rw[<- e];exact Qj hml
  rw[this];rfl,by simpa[ki] using h⟩
 |e::T,S,W,L,r3,r4,r5,r6,r7,hp,hm,h,hz=>by
  rw[Ym]at hz;have hml:m<S.length:=(Y9.mp hm).1
  obtain⟨W1,a5,a6,a7,e1,h1⟩:=vO (x:=x) (w:=e.1) (hp e (.head _)) r0 KS S W L r5 r6 r7 (by decide) hm h (by show L.length+2<=1000;omega)
  obtain⟨W2,b3,b4,b5,b6,b7,e2,h2⟩:=vP r0 T (S.set m (.dic (bH W1))) W1 (L++KS.map λq=>(e.1+q*x,e.2++[q])) (some (.int e.1)) (some (tupI e.2)) a5 a6 a7 (λd hd=>hp d (.tail _ hd)) (Z4 hml) h1 (by rw[Yq,Yh];show L.length+2+T.length*2<=1000;omega)
  rw[Wr]at e2;refine⟨W2,b3,b4,b5,b6,b7,?_,?_⟩
  .show forL _ _ (pairD (.inl e.1,tupI e.2)::(bH T).map pairD) _ _=_;exact(bG (r1:=[r0,some (.int x),some (.ref m),some (.int e.1),some (tupI e.2),r5,r6,r7]) rfl ((et (d:=tupI KS) rfl rfl).trans e1)).trans e2
  .have:ki x (e::T)=(KS.map λq=>(e.1+q*x,e.2++[q]))++ki x T:=by simp only[ki,Qg]
   rw[this,<- Qe];exact h2
structure Pre(S0 S:Sto):Prop where
 old:∀i,i<S0.length->S[i]?=S0[i]?
 len:S0.length<=S.length
def Pre.refl(S:Sto):Pre S S:=⟨λ_ _=>rfl,Yd _⟩
theorem Pre.trans(a:Pre S0 S1)(b:Pre S1 S2):Pre S0 S2:=⟨λi h=>(b.old i (Yu h a.len)).trans (a.old i h),Yv a.len b.len⟩
def Pre.app(S l:Sto):Pre S (S++l):=⟨λi h=>Z0 h,by simp⟩
theorem Pre.set(p:Pre S0 S)(h:S0.length<=n)(o:SO):Pre S0 (S.set n o):=⟨λi hi=>by rw[Z3 (by omega)];exact p.old i hi,by rw[M6];exact p.len⟩
theorem dAt.set{r:Nat}{o:SO}(h:dAt S r T)(hn:n≠r):dAt (S.set n o) r T:=by unfold dAt;rw[Z3 hn];exact h
def fold(K:List Int)(xs:List Int)(f:List Int):List Int:=xs.foldl (λf x=>fS K x f) f
theorem yV(K:List Int):∀(xs pre:List Int),fold K xs (wsL K pre)=wsL K (pre++xs)
 |[],pre=>by simp[fold]
 |x::xs,pre=>by have:=yV K xs (pre++[x]);rw[Cb,Qe]at this;exact this
def El(hK:K.length<=2){r:Nat}(h:n*2^(r+1)<=256):n*K.length<=1000/\n*K.length*2^r<=256:=by
 have h1:n*K.length<=n*2:=Nat.mul_le_mul_left _ hK
 have h2:1<=2^r:=Nat.one_le_pow _ _ (by decide)
 have h3:n*K.length*2^r<=n*2*2^r:=Vc _ h1
 have h4:n*2*2^r=n*2^(r+1):=by rw[Uf,Nat.mul_assoc,Vl 2]
 have h5:n*2*1<=n*2*2^r:=Nat.mul_le_mul_left _ h2;omega
theorem vQ(hK:K.length<=2)(hk:∀q∈K,-1<=q/\q<=1)(r0:Option D):∀(xs:List Int)(S:Sto)(n:Nat)(T:List (Int×Int))(f:List Int)(r3:Option D),S[n]?=some (.dic (aV T))->Hist T f->f.length*2^xs.length<=256->S0.length<=n->Pre S0 S->
  ∃(S':Sto)(n':Nat)(T':List (Int×Int))(r3':Option D),forL (.nm 3) Km (xs.map .int) [r0,some (tupI K),some (.ref n),r3] S=.ok (.nx [r0,some (tupI K),some (.ref n'),r3']) S'/\S'[n']?=some (.dic (aV T'))/\S0.length<=n'/\Hist T' (fold K xs f)/\Pre S0 S'
 |[],S,n,T,f,r3,hd,h,_,hn,p=>⟨S,n,T,r3,rfl,hd,hn,h,p⟩
 |x::xs,S,n,T,f,r3,hd,h,hz,hn,p=>by
  rw[Ym]at hz;obtain⟨z1,z2⟩:=El hK hz;obtain⟨T1,e1,h1⟩:=xx (x:=x) hk (.inl hd) h z1;have p1:Pre S0 (S.set n (.fdic (aV T))++[SO.dic (aV T1)]):=(p.set hn _).trans (Pre.app _ _)
  obtain⟨S2,n2,T2,a3,e2,d2,dl2,h2,p2⟩:=vQ hK hk r0 xs (S.set n (.fdic (aV T))++[SO.dic (aV T1)]) S.length T1 (fS K x f) (some (.int x)) (by simp) h1 (by rw[xv];exact z2) p.len p1
  exact⟨S2,n2,T2,a3,(bG (r1:=[r0,some (tupI K),some (.ref n),some (.int x)]) rfl (aC ((aw (ag (aa rfl) (ag (aa rfl) (ag (aa rfl) rfl)))).trans e1))).trans e2,d2,dl2,h2,p2⟩
def Em:jn [((eC (.int 0)),(eC (.int 1)))] ρ S=.ok (.ref S.length) (S++[.dic (aV [(0,1)])]):=rfl
def iX(hK:K.length<=2)(hk:∀q∈K,-1<=q/\q<=1)(h6:xs.length<=8)(S:Sto):∃(S':Sto)(n:Nat)(T:List (Int×Int)),de [tupI xs,tupI K] S=.ok (.ref n) S'/\S'[n]?=some (.dic (aV T))/\S.length<=n/\Hist T (wsL K xs)/\Pre S S':=by
 obtain⟨S',n,T,a3,e,hd,hdl,h,p⟩:=vQ hK hk (S0:=S) (some (tupI xs)) xs (S++[.dic (aV [(0,1)])]) S.length [(0,1)] [0] none (by simp) Hist.zero (by
  rw[W7,Nat.one_mul]
  exact Yv (Zw (by decide) h6) (by decide)) (Yd _) (Pre.app _ _)
 have hf:=yV K xs [];rw[Wc]at hf;have h0:wsL K []=[0]:=rfl;rw[h0]at hf;rw[hf]at h;exact⟨S',n,T,aQ (ρ:=[some (tupI xs),some (tupI K),none,none]) rfl ((aq (aC Em)).trans ((aq ((et (aa rfl) rfl).trans e)).trans (aE (aa rfl)))),hd,hdl,h,p⟩
def gX(h:Row xs)(S:Sto):aW [.tup (xs.map .int)] S=.ok .non S:=by have e:=vq (S:=S) h.okay;rw[h.is]at e;simp[aW,fnM,iO,sIf,bj,tNx,R.nx,PD.je,tV,az,ae,af,ak,R.bind,e]
abbrev foB:SM:=(aO 1 (az cn (af (ae 1) (af (ae 2) ak))))
def Aj{T:TF}(hi:ρ[i]?=some (some (.ref n)))(h:S[n]?=some (.dic (bH T))):eN (ae i) ρ S=.ok ((bH T).map pairD) (S.set n (.fdic (bH T))):=by unfold eN;rw[aa hi,R.bind_ok];simp only[h]
def vR{x:Int}{T:TF}(hd:S[n]?=some (.dic (bH T)))(h:Firsts T xs)(hx:xs.length<=6):
  ∃T':TF,cn [.ref n,.int x] S=.ok (.ref S.length) (S.set n (.fdic (bH T))++[.dic (bH T')])/\Firsts T' (xs++[x]):=by
 have hnl:n<S.length:=(Y9.mp hd).1
 have hd':(S++[SO.dic []])[n]?=some (.dic (bH T)):=by rw[Z0 hnl];exact hd
 have hlen:T.length<=64:=Yv h.len (Yv (Zw (by decide) hx) (by decide))
 have e0:(S++[SO.dic []]).set n (.fdic (bH T))=S.set n (.fdic (bH T))++[.dic []]:=Ug _ _ hnl
 obtain⟨T',a3,a4,a5,a6,a7,e1,h1⟩:=vP (x:=x) (some (.ref n)) (m:=S.length) T (S.set n (.fdic (bH T))++[.dic []]) [] [] none none none none none (λe he=>by
  have:=((aU _ _).mp (h.least e he).1.1).1
  omega) (by simp[bH]) FT.nil (by simp;omega)
 have e2:(S.set n (.fdic (bH T))++[SO.dic []]).set S.length (.dic (bH T'))=S.set n (.fdic (bH T))++[.dic (bH T')]:=by rw[U3 _ _ (by simp)];simp
 rw[e2]at e1
 refine⟨T',?_,h.step (by simpa using h1)⟩
 exact aQ (ρ:=[some (.ref n),some (.int x),none,none,none,none,none,none]) rfl ((aq (S1:=S++[.dic []]) (aC rfl)).trans ((aq (r1:=[some (.ref n),some (.int x),some (.ref S.length),a3,a4,a5,a6,a7]) ((iV (Aj rfl hd')).trans (by rw[e0];exact e1))).trans (aE (aa rfl))))
theorem yW(r0:Option D):∀(xs ys:List Int)(S:Sto)(n:Nat)(T:TF)(r2:Option D),S[n]?=some (.dic (bH T))->Firsts T ys->ys.length+xs.length<=6->S0.length<=n->Pre S0 S->
  ∃(S':Sto)(n':Nat)(T':TF)(r2':Option D),forL (.nm 2) foB (xs.map .int) [r0,some (.ref n),r2] S=.ok (.nx [r0,some (.ref n'),r2']) S'/\S'[n']?=some (.dic (bH T'))/\S0.length<=n'/\Firsts T' (ys++xs)/\Pre S0 S'
 |[],ys,S,n,T,r2,hd,h,_,hn,p=>⟨S,n,T,r2,rfl,hd,hn,by simpa using h,p⟩
 |x::xs,ys,S,n,T,r2,hd,h,hz,hn,p=>by
  rw[Ym]at hz
  obtain⟨T1,e1,h1⟩:=vR (x:=x) hd h (by omega)
  have p1:Pre S0 (S.set n (.fdic (bH T))++[SO.dic (bH T1)]):=(p.set hn _).trans (Pre.app _ _)
  obtain⟨S2,n2,T2,a2,e2,d2,dl2,h2,p2⟩:=yW r0 xs (ys++[x]) (S.set n (.fdic (bH T))++[SO.dic (bH T1)]) S.length T1 (some (.int x)) (by simp) h1 (by simp;omega) p.len p1
  refine⟨S2,n2,T2,a2,(bG (r1:=[r0,some (.ref n),some (.int x)]) rfl (aC ((aw (ag (aa rfl) (ag (aa rfl) rfl))).trans e1))).trans e2,d2,dl2,?_,p2⟩;rw[Qe]at h2;exact h2
def nz(h6:xs.length<=6)(S:Sto):∃(S':Sto)(n:Nat)(T:TF),eS [tupI xs] S=.ok (.ref n) S'/\S'[n]?=some (.dic (bH T))/\S.length<=n/\Firsts T xs/\Pre S S':=by
 obtain⟨S',n,T,a2,e,hd,hdl,h,p⟩:=yW (S0:=S) (some (tupI xs)) xs [] (S++[.dic (bH [(0,[])])]) S.length [(0,[])] none (by simp) Firsts.zero (by simpa using h6) (Yd _) (Pre.app _ _)
 have e0:jn [((eC (.int 0)),(g7 ak))] [some (tupI xs),none,none] S=.ok (.ref S.length) (S++[.dic (bH [(0,[])])]):=rfl;exact⟨S',n,T,aQ (ρ:=[some (tupI xs),none,none]) rfl ((aq (aC e0)).trans ((aq ((et (aa rfl) rfl).trans e)).trans (aE (aa rfl)))),hd,hdl,h,p⟩
theorem lN:∀(xs ys p q:List Int),p.length=xs.length->wor (xs++ys) (p++q)=wor xs p+wor ys q
 |[],ys,[],q,_=>by show wor ys q=0+wor ys q;omega
 |x::xs,ys,r::p,q,h=>by
  show x*r+wor (xs++ys) (p++q)=x*r+wor xs p+wor ys q
  rw[lN xs ys p q (by simpa using h)];omega
 |[],_,_::_,_,h=>by cases h
 |_::_,_,[],_,h=>by cases h
def jQ{a:Nat}:p∈allL K (a+b)↔∃q r,p=q++r/\q∈allL K a/\r∈allL K b:=by
 constructor
 .intro h;obtain⟨h1,h2⟩:=(aU _ p).mp h
  exact⟨p.take a,p.drop a,(U4 a p).symm,(aU _ _).mpr ⟨by rw[Ql,h1];omega,λy hy=>h2 y (List.mem_of_mem_take hy)⟩,(aU _ _).mpr ⟨by rw[Q9,h1];omega,λy hy=>h2 y (List.mem_of_mem_drop hy)⟩⟩
 .rintro⟨q,r,rfl,hq,hr⟩;obtain⟨q1,q2⟩:=(aU _ q).mp hq;obtain⟨r1,r2⟩:=(aU _ r).mp hr
  refine(aU _ _).mpr ⟨by rw[Yq,q1,r1],λy hy=>?_⟩
  rcases Yy.mp hy with hy|hy
  .exact q2 y hy
  .exact r2 y hy
def HA:(∃x∈wsL K xs,∃y∈wsL K ys,x+y=v)↔Wo K (xs++ys) v:=by
 rw[tD,Yq];constructor
 .rintro⟨x,hx,y,hy,rfl⟩;obtain⟨p,hp,rfl⟩:=Yw.mp hx;obtain⟨q,hq,rfl⟩:=Yw.mp hy;exact⟨p++q,jQ.mpr ⟨p,q,rfl,hp,hq⟩,lN xs ys p q ((aU _ _).mp hp).1⟩
 .rintro⟨p,hp,rfl⟩;obtain⟨q,r,rfl,hq,hr⟩:=jQ.mp hp;exact⟨_,Yw.mpr ⟨q,hq,rfl⟩,_,Yw.mpr ⟨r,hr,rfl⟩,(lN xs ys q r ((aU _ _).mp hq).1).symm⟩
structure Lst(xs:List Int)(v:Int)(p:List Int):Prop where
 all:p∈allL KS xs.length
 wo:wor xs p=v
 le:∀q∈allL KS xs.length,wor xs q=v->leZ p q
def Lst.uniq{q:List Int}(a:Lst xs v p)(b:Lst xs v q):p=q:=vF (a.le q b.all b.wo) (b.le p a.all a.wo)
def tJ(A B:TF)(v:Int):List (List Int):=(A.filter λe=>(gF B (v-e.1)).isSome).map λe=>e.2++(gF B (v-e.1)).getD []
def HB{T:TF}{k:Int}(h:∃e∈T,e.1=k):∃u,gF T k=some u:=by
 cases hg:gF T k with
 |some u=>exact⟨u,rfl⟩
 |none=>
  obtain⟨e,he,z⟩:=h;exact absurd z (yU hg e he)
def HC{A B:TF}(hA:Firsts A xs)(hB:Firsts B ys){m:List Int}(h:m∈tJ A B v):m∈allL KS (xs++ys).length/\wor (xs++ys) m=v:=by
 obtain⟨e,he,rfl⟩:=Yw.mp h;obtain⟨he,hs⟩:=Z8.mp he;cases hg:gF B (v-e.1) with
 |none=>rw[hg]at hs;cases hs
 |some u=>
  obtain⟨⟨a1,a2⟩,_⟩:=hA.least e he;obtain⟨⟨b1,b2⟩,_⟩:=hB.least _ (og hg);show e.2++u∈_/\wor _ (e.2++u)=v;have b2:wor ys u=v-e.1:=b2
  refine⟨by rw[Yq];exact jQ.mpr ⟨_,_,rfl,a1,b1⟩,?_⟩
  rw[lN _ _ _ _ ((aU _ _).mp a1).1,a2,b2];omega
def Ci{A B:TF}(hA:Firsts A xs)(hB:Firsts B ys)(hp:p∈allL KS (xs++ys).length)(hw:wor (xs++ys) p=v):∃m∈tJ A B v,leZ m p:=by
 rw[Yq]at hp;obtain⟨q,r,rfl,hq,hr⟩:=jQ.mp hp;have hql:=((aU _ _).mp hq).1;rw[lN _ _ _ _ hql]at hw;obtain⟨e,he,z⟩:=(hA.mem _).mpr ⟨q,hq,rfl⟩
 have hv:wor ys r=v-e.1:=by omega
 obtain⟨u,hu⟩:=HB ((hB.mem (v-e.1)).mpr ⟨r,hr,hv⟩);obtain⟨⟨a1,a2⟩,a3⟩:=hA.least e he;obtain⟨_,b3⟩:=hB.least _ (og hu)
 refine⟨e.2++u,Yw.mpr ⟨e,Z8.mpr ⟨he,by rw[hu];rfl⟩,by rw[hu];rfl⟩,?_⟩
 exact yS (((aU _ _).mp a1).1.trans hql.symm) (a3 q hq z.symm) (b3 r hr hv)
def En{A B:TF}(hA:Firsts A xs)(hB:Firsts B ys)(h:tJ A B v=[]):¬Wo KS (xs++ys) v:=λhw=>by obtain⟨p,hp,e⟩:=tD.mp hw;obtain⟨m,hm,_⟩:=Ci hA hB hp e;rw[h]at hm;cases hm
def Eo{A B:TF}(hA:Firsts A xs)(hB:Firsts B ys){m:List Int}{l:List (List Int)}(h:tJ A B v=m::l):Lst (xs++ys) v (jr m l):=by
 obtain⟨h1,h2,h3⟩:=yT l m
 have hin:jr m l∈tJ A B v:=by
  rw[h];rcases h1 with e|e
  .rw[e];exact .head _
  .exact .tail _ e
 obtain⟨a1,a2⟩:=HC hA hB hin;refine⟨a1,a2,λq hq hw=>?_⟩;obtain⟨n,hn,hl⟩:=Ci hA hB hq hw;rw[h]at hn;rcases Yc.mp hn with rfl|hn
 .exact fA h2 hl
 .exact fA (h3 n hn) hl
def vS(xs:List D)(m:Nat)(h:m<=xs.length):PD.cutD xs none (some (m:Int))=xs.take m:=by
 unfold PD.cutD;have e1:HT.sIx xs.length 0 none=0:=rfl
 have e2:HT.sIx xs.length xs.length (some (m:Int))=m:=by rw[HT.sIx_nat];exact Nat.min_eq_left h
 rw[e1,e2];simp
def vT(xs:List D)(m:Nat)(h:m<=xs.length):PD.cutD xs (some (m:Int)) none=xs.drop m:=by
 unfold PD.cutD;have e1:HT.sIx xs.length xs.length none=xs.length:=rfl
 have e2:HT.sIx xs.length 0 (some (m:Int))=m:=by rw[HT.sIx_nat];exact Nat.min_eq_left h
 rw[e1,e2,List.take_of_length_le (by rw[Q9];omega)]
abbrev Ep:FM:=fnM 2 (aA (aO 1 (eOp lh (eB cW (af (ae 0) ak)) (eC (.int 2)))) (aX (g7 (af (eSl iN (ae 0) oNo (gJ (ae 1))) (af (eSl iN (ae 0) (gJ (ae 1)) oNo) ak)))))
def mH(xs:List Int)(S:Sto):Ep [tupI xs] S=.ok (.tup [tupI (xs.take (xs.length/2)),tupI (xs.drop (xs.length/2))]) S:=by
 have z2:(2:Nat)<=sizeLine:=by decide
 have hm:xs.length/2<=(xs.map D.int).length:=by rw[Yh];omega
 have hl:cW S [tupI xs]=some (.int xs.length):=by show some (D.int ((xs.map D.int).length:Int))=_;rw[Yh]
 have hd:lh S (.int xs.length) (.int 2)=some (.int ((xs.length/2:Nat):Int)):=by
  show(if (0:Int)<2/\(2:Int)<1073741824 then some (D.int ((xs.length:Int)/2)) else none)=_
  rw[Y8 (by decide)]
  rfl
 have h1:iN S (tupI xs) none (some ((xs.length/2:Nat):Int))=some (tupI (xs.take (xs.length/2))):=by show some (D.tup (PD.cutD (xs.map .int) _ _))=_;rw[vS _ _ hm,<- List.map_take]
 have h2:iN S (tupI xs) (some ((xs.length/2:Nat):Int)) none=some (tupI (xs.drop (xs.length/2))):=by show some (D.tup (PD.cutD (xs.map .int) _ _))=_;rw[vT _ _ hm,<- List.map_drop]
 exact aQ (ρ:=[some (tupI xs),none]) rfl ((aq (aC (av (aZ (ag (aa rfl) rfl) hl) rfl hd))).trans (aE (iW (ag (xt (aa rfl) rfl (jD (aa rfl)) h1) (ag (xt (aa rfl) (jD (aa rfl)) rfl h2) rfl)) z2)))
def HD(h:Keys T){e:Int×Int}(he:e∈T):gT T e.1=e.2:=by
 induction T with
 |nil=>cases he
 |cons d T ih=>
  obtain⟨h1,h2⟩:=Qn.mp h;rw[tE];rcases Yc.mp he with rfl|he
  .rw[Y8 rfl]
  .rw[Yi (h1 e he)];exact ih h2 he
def tK(K xs:List Int):(wsL K xs).length=K.length^xs.length:=by unfold wsL;rw[Yh,vA]
def xy{f:List Int}(h:Hist T f)(hf:f.length<=1000):∀e∈T,cZ e.2:=λe he=>by
 have e1:=HD h.keys he;rw[h.get]at e1;have:=List.length_filter_le (λy=>decide (y=e.1)) f;rw[<- e1]
 exact⟨by omega,by omega⟩
def fh{a:SM}{f:F}(h:a r S=.ok f S1):a r S=.ok f S1:=h
def Cj{x y u v:D}(hi:it ρ S=.ok [x,y] S1)(h1:e [some x] S1=.ok u S2)(h2:e [some y] S2=.ok v S3):bq it 1 [] (.nm 0) bZ e ρ S=.ok (.lst [u,v]) S3:=by
 have z2:(2:Nat)<=sizeLine:=by decide
 unfold bq
 rw[hi,R.bind_ok,Y8 (show[x,y].length<=sizeLine from z2)]
 have:fG 1 [] ρ = [none]:=rfl;rw[this];simp only[dY,G.put,Zb,bZ,R.bind_ok,Zj,h1,h2]
def xA{A:Type}{x1 x2:A->D}{out:A->D}(xs:List A)(hi:it r S=.ok (xs.map λx=>.tup [x1 x,x2 x]) S1)(hl:xs.length<=sizeLine)(hc:caps.map (λi=>(r[i]?).join)=tl)(h:∀x∈xs,e (some (x1 x)::some (x2 x)::tl) S1=.ok (out x) S1):bq it 2 caps (.tp [.nm 0,.nm 1]) bZ e r S=.ok (.lst (xs.map out)) S1:=by
 unfold bq
 rw[hi,R.bind_ok,Y8 (by rw[Yh];exact hl)]
 have:fG 2 caps r=none::none::tl:=by unfold fG;rw[hc];rfl
 rw[this,pd (out:=out) xs none none h,R.bind_ok]
theorem rG{A:Type}{x1 x2:A->D}{out:A->D}{p:A->Bool}{t:TM}:∀(xs:List A)(r0 r1:Option D),(∀x∈xs,t (some (x1 x)::some (x2 x)::tl) S=.ok (p x) S)->(∀x∈xs,p x=true->e (some (x1 x)::some (x2 x)::tl) S=.ok (out x) S)->dY (.tp [.nm 0,.nm 1]) t e (xs.map λx=>.tup [x1 x,x2 x]) (r0::r1::tl) S=.ok ((xs.filter p).map out) S
 |[],_,_,_,_=>rfl
 |x::xs,r0,r1,ht,h=>by
  have h0:=ht x Z2;have h2:=rG (out:=out) xs (some (x1 x)) (some (x2 x)) (λy hy=>ht y (Yz _ hy)) λy hy=>h y (Yz _ hy);rw[Yb,dY];cases hp:p x with
  |true=>
   have h1:=h x Z2 hp;rw[hp]at h0;simp only[G.put,G.puts,Zb,Zi,R.bind_ok,Zj,h0,h1,h2,Yb,Vd,hp]
  |false=>
   rw[hp]at h0;simp only[G.put,G.puts,Zb,Zi,R.bind_ok,h0,h2,Vd,hp,Ze,Qy]
def xB{A:Type}{x1 x2:A->D}{out:A->D}{p:A->Bool}{t:TM}(xs:List A)(hi:it r S=.ok (xs.map λx=>.tup [x1 x,x2 x]) S1)(hl:xs.length<=sizeLine)(hc:caps.map (λi=>(r[i]?).join)=tl)(ht:∀x∈xs,t (some (x1 x)::some (x2 x)::tl) S1=.ok (p x) S1)(h:∀x∈xs,p x=true->e (some (x1 x)::some (x2 x)::tl) S1=.ok (out x) S1):bq it 2 caps (.tp [.nm 0,.nm 1]) t e r S=.ok (.lst ((xs.filter p).map out)) S1:=by
 unfold bq
 rw[hi,R.bind_ok,Y8 (by rw[Yh];exact hl)]
 have:fG 2 caps r=none::none::tl:=by unfold fG;rw[hc];rfl
 rw[this,rG (out:=out) xs none none ht h,R.bind_ok]
def rH{m:EM}{kvs:List (KD×D)}(hm:m ρ S=.ok (.ref n) S)(h:S[n]?=some (.dic kvs)):eN m ρ S=.ok (kvs.map pairD) (S.set n (.fdic kvs)):=by unfold eN;rw[hm,R.bind_ok];simp only[h]
theorem Ck{h:Int->Int}{c:Nat}(hh:∀x,0<=h x/\h x<=c):∀f:List Int,0<=(f.map h).sum/\(f.map h).sum<=(f.length*c:Nat)
 |[]=>by simp
 |x::f=>by have:=Ck hh f;have h1:=hh x;rw[Yb,Zp,Ym,Vk];omega
def firstD:Option (List Int)->D
 |none=>.non
 |some p=>tupI p
def IsF(xs:List Int)(v:Int):Option (List Int)->Prop
 |none=>¬Wo KS xs v
 |some p=>Lst xs v p
theorem IsF.uniq:∀{a b:Option (List Int)},IsF xs v a->IsF xs v b->a=b
 |none,none,_,_=>rfl
 |some p,some q,ha,hb=>by rw[Lst.uniq ha hb]
 |none,some q,ha,hb=>absurd (tD.mpr ⟨q,Lst.all hb,Lst.wo hb⟩) ha
 |some p,none,ha,hb=>absurd (tD.mpr ⟨p,Lst.all ha,Lst.wo ha⟩) hb
def iY(h:Row xs)(v:Int)(S:Sto):aG [tupI xs,.int v] S=.ok .non S:=by
 have e2:bu [.int v] S=.ok .non S:=by have e:=o7 (d:=.int v) (S:=S) rfl;have e':isI (.int v)=true:=rfl;rw[e']at e;simp[bu,fnM,fQ,sIf,bj,tNx,R.nx,PD.je,tV,az,ae,af,ak,R.bind,e]
 refine kI (ρ:=[some (tupI xs),some (.int v)]) rfl ((aq (bW ((aw (ag (aa rfl) rfl)).trans (gX h S)))).trans (bW ((aw (ag (aa rfl) rfl)).trans e2)))
def pw{x y:D}:fH S (.lst [x,y]) (.int 0)=some x/\fH S (.lst [x,y]) (.int 1)=some y:=⟨rfl,rfl⟩
def Jx{m k:EM}(hd:dAt S n T)(hm:m ρ S=.ok (.ref n) S)(hk:k ρ S=.ok (.int v) S):fk m k (eC (.int 0)) ρ S=.ok (.int (gT T v)) S:=by rw[<- vJ];exact lK hm hd.dic hk rfl hd.dic rfl
def Er(h10:xs.length<=10)(hr:Row xs)(v:Int)(S:Sto):∃(S':Sto)(A B:List (Int×Int)),F_many_met_n [tupI xs,.int v] S=.ok (.int (sumH (λx=>gT B (v-x)) A)) S'/\Pre S S'/\Hist A (wsL KS (xs.take (xs.length/2)))/\Hist B (wsL KS (xs.drop (xs.length/2))):=by
 have hk:∀q∈KS,-1<=q/\q<=1:=by decide
 have z:(1000:Nat)<=sizeLine:=by decide
 have hl1:(xs.take (xs.length/2)).length<=5:=by rw[Ql];omega
 have hl2:(xs.drop (xs.length/2)).length<=5:=by rw[Q9];omega
 have bnd:∀ys:List Int,ys.length<=5->(wsL KS ys).length<=32:=λys h=>by
  rw[tK]
  exact Yv (Zw (by decide) h) (by decide)
 obtain⟨S1,a,A,eA,dA,la,hA,pA⟩:=iX (K:=KS) (xs:=xs.take (xs.length/2)) (by decide) hk (by omega) S
 obtain⟨S2,b,B,eB,dB,lb,hB,pB⟩:=iX (K:=KS) (xs:=xs.drop (xs.length/2)) (by decide) hk (by omega) S1
 have hal:a<S1.length:=(Y9.mp dA).1
 have dA2:S2[a]?=some (.dic (aV A)):=by rw[pB.old a hal];exact dA
 have hab:a≠b:=by omega
 have lA:A.length<=32:=Yv hA.len (bnd _ hl1);refine⟨S2.set a (.fdic (aV A)),A,B,?_,(pA.trans pB).set la _,hA,hB⟩
 have hc:bq (bJ (az bo (af (ae 0) ak)) bB) 1 [] (.nm 0) bZ (az de (af (ae 0) (af (eC (.tup (([(-1),(1)]:List Int).map .int))) ak))) [some (tupI xs),some (.int v),none] S=.ok (.lst [.ref a,.ref b]) S2:=
  Cj (S1:=S) (by unfold bJ;rw[(aw (ag (aa rfl) rfl)).trans (show bo [tupI xs] S=_ from mH xs S),R.bind_ok];rfl) ((aw (ag (aa rfl) (ag rfl rfl))).trans eA) ((aw (ag (aa rfl) (ag rfl rfl))).trans eB)
 have hdB:dAt (S2.set a (.fdic (aV A))) b B:=dAt.set (.inl dB) hab
 have hsm:=xy hA (by have:=bnd _ hl1;omega)
 have hs:bq (eN (eOp fH (ae 2) (eC (.int 0)))) 2 [2,1] (.tp [(.nm 0),(.nm 1)]) bZ (eOp cI (ae 1) (fk (eOp fH (ae 2) (eC (.int 1))) (eOp g9 (ae 3) (ae 0)) (eC (.int 0)))) [some (tupI xs),some (.int v),some (.lst [.ref a,.ref b])] S2=.ok (.lst (A.map λe=>D.int (e.2*gT B (v-e.1)))) (S2.set a (.fdic (aV A))):=
  xA (x1:=λe:Int×Int=>.int e.1) (x2:=λe=>.int e.2) (tl:=[some (.lst [.ref a,.ref b]),some (.int v)]) A ((rH (av (aa rfl) rfl pw.1) dA2).trans (by unfold aV;rw[Zo];rfl)) (by omega) rfl λe he=>
   av (aa rfl) (Jx hdB (av (aa rfl) rfl pw.2) (av (aa rfl) (aa rfl) rfl)) (d8 (.inl (hsm e he)))
 have hsum:(A.map λe=>e.2*gT B (v-e.1)).sum=sumH (λx=>gT B (v-x)) A:=by unfold sumH;congr 1;exact Q0 λe _=>Int.mul_comm _ _
 rw[<- hsum];exact aQ (ρ:=[some (tupI xs),some (.int v),none]) rfl ((aq (bW ((aw (ag (aa rfl) (ag (aa rfl) rfl))).trans (iY hr v S)))).trans ((aq (fh (aC hc))).trans (fh (aE (aZ (ag hs rfl) Hs)))))
def inF{T:TF}(h:S[n]?=some (.dic (bH T)))(k:Int):xf false S (.int k) (.ref n)=some (.bl (gF T k).isSome):=by
 have hd:bS S (.ref n)=some (bH T):=by simp[bS,h]
 have hs:bN S (.ref n)=none:=by simp[bN,h]
 unfold xf;rw[hs];simp only[Option.isSome_none,Ze,Qy];unfold DV;simp[hd,kx,pk]
def ixF{T:TF}(h:S[n]?=some (.dic (bH T))){k:Int}(hu:gF T k=some u):fH S (.ref n) (.int k)=some (tupI u):=by
 have hd:bS S (.ref n)=some (bH T):=by simp[bS,h]
 have hs:bN S (.ref n)=none:=by simp[bN,h]
 unfold fH;rw[hs];simp only[Option.isSome_none,Ze,Qy];unfold BG;simp only[hd,kx];rw[pk,hu];rfl
theorem pz:∀ms:List (List Int),hU (ms.map tupI)=some ms
 |[]=>rfl
 |m::ms=>by
  have ih:=pz ms
  show(match intsOf (m.map .int),hU (ms.map tupI) with
   |some n,some ns=>some (n::ns)
   |_,_=>none)=_
  rw[ih,fM]
theorem Es(S:Sto):∀ms:List (List Int),ni S [.lst (ms.map tupI)]=some (firstD (match ms with | []=>none|m::l=>some (jr m l)))
 |[]=>rfl
 |m::l=>by have e:=pz (m::l);rw[Yb]at e ⊢;unfold ni;simp only[nh,e];rfl
def Cm(h10:xs.length<=10)(hr:Row xs)(v:Int)(S:Sto):∃(S':Sto)(o:Option (List Int)),F_first_met_n [tupI xs,.int v] S=.ok (firstD o) S'/\Pre S S'/\IsF xs v o:=by
 have z:(1000:Nat)<=sizeLine:=by decide
 have hl1:(xs.take (xs.length/2)).length<=5:=by rw[Ql];omega
 have hl2:(xs.drop (xs.length/2)).length<=5:=by rw[Q9];omega
 obtain⟨S1,a,A,eA,dA,la,hA,pA⟩:=nz (xs:=xs.take (xs.length/2)) (by omega) S
 obtain⟨S2,b,B,eB,dB,lb,hB,pB⟩:=nz (xs:=xs.drop (xs.length/2)) (by omega) S1
 have hal:a<S1.length:=(Y9.mp dA).1
 have dA2:S2[a]?=some (.dic (bH A)):=by rw[pB.old a hal];exact dA
 have hab:a≠b:=by omega
 have lA:A.length<=32:=Yv hA.len (Yv (Zw (by decide) hl1) (by decide))
 have dB2:(S2.set a (.fdic (bH A)))[b]?=some (.dic (bH B)):=by rw[Z3 hab];exact dB
 have hc:bq (bJ (az bo (af (ae 0) ak)) bB) 1 [] (.nm 0) bZ (az eS (af (ae 0) ak)) [some (tupI xs),some (.int v),none,none] S=.ok (.lst [.ref a,.ref b]) S2:=
  Cj (S1:=S) (by unfold bJ;rw[(aw (ag (aa rfl) rfl)).trans (show bo [tupI xs] S=_ from mH xs S),R.bind_ok];rfl) ((aw (ag (aa rfl) rfl)).trans eA) ((aw (ag (aa rfl) rfl)).trans eB)
 have hs:bq (eN (eOp fH (ae 2) (eC (.int 0)))) 2 [2,1] (.tp [(.nm 0),(.nm 1)]) (tV (eOp (xf false) (eOp g9 (ae 3) (ae 0)) (eOp fH (ae 2) (eC (.int 1))))) (eOp aT (ae 1) (eOp fH (eOp fH (ae 2) (eC (.int 1))) (eOp g9 (ae 3) (ae 0)))) [some (tupI xs),some (.int v),some (.lst [.ref a,.ref b]),none] S2=.ok (.lst ((tJ A B v).map tupI)) (S2.set a (.fdic (bH A))):=by
  have:=xB (x1:=λe:Int×List Int=>.int e.1) (x2:=λe=>tupI e.2) (out:=λe=>tupI (e.2++(gF B (v-e.1)).getD [])) (p:=λe=>(gF B (v-e.1)).isSome) (t:=tV (eOp (xf false) (eOp g9 (ae 3) (ae 0)) (eOp fH (ae 2) (eC (.int 1))))) (e:=eOp aT (ae 1) (eOp fH (eOp fH (ae 2) (eC (.int 1))) (eOp g9 (ae 3) (ae 0)))) (it:=eN (eOp fH (ae 2) (eC (.int 0)))) (caps:=[2,1]) (tl:=[some (.lst [.ref a,.ref b]),some (.int v)]) (r:=[some (tupI xs),some (.int v),some (.lst [.ref a,.ref b]),none]) (S:=S2) (S1:=S2.set a (.fdic (bH A))) A ((rH (av (aa rfl) rfl pw.1) dA2).trans (by unfold bH;rw[Zo];rfl)) (by omega) rfl
   (λe he=>br (av (av (aa rfl) (aa rfl) rfl) (av (aa rfl) rfl pw.2) (inF dB2 _)))
   (λe he hp=>by
    cases hg:gF B (v-e.1) with
    |none=>rw[hg]at hp;cases hp
    |some u=>
     have l1:=((aU _ _).mp (hA.least e he).1.1).1;have l2:=((aU _ _).mp (hB.least _ (og hg)).1.1).1;refine av (aa rfl) (av (av (aa rfl) rfl pw.2) (av (aa rfl) (aa rfl) rfl) (ixF dB2 hg)) ?_;have l2:u.length=(xs.drop (xs.length/2)).length:=l2
     refine(tm (by rw[Yh,Yh];omega)).trans ?_
     simp[tupI])
  unfold tJ;rw[Zo];exact this
 refine⟨S2.set a (.fdic (bH A)),(match tJ A B v with | []=>none|m::l=>some (jr m l)),?_,(pA.trans pB).set la _,?_⟩
 .exact aQ (ρ:=[some (tupI xs),some (.int v),none,none]) rfl ((aq (bW ((aw (ag (aa rfl) (ag (aa rfl) rfl))).trans (iY hr v S)))).trans ((aq (fh (aC hc))).trans ((aq (fh (aC hs))).trans (fh (aE (aZ (ag (aa rfl) rfl) (Es _ _)))))))
 .have hx:xs.take (xs.length/2)++xs.drop (xs.length/2)=xs:=U4 _ _;cases hm:tJ A B v with
  |nil=>
   have:=En hA hB hm;rw[hx]at this;exact this
  |cons m l=>
   have:=Eo hA hB hm;rw[hx]at this;exact this
def wlk(A B:List Int)(v:Int):Nat->Nat->Nat->List (Nat×Nat×Int)
 |0,_,_=>[]
 |n+1,i,j=>if i<A.length/\1<=j then (i,j-1,A.getD i 0+B.getD (j-1) 0)::(if A.getD i 0+B.getD (j-1) 0<v then wlk A B v n (i+1) j else wlk A B v n i (j-1)) else []
def rise(h:A.Pairwise (· <= ·)){j:Nat}(hij:i<=j)(hj:j<A.length):A.getD i 0<=A.getD j 0:=by
 have hi:i<A.length:=by omega
 rw[Zm,Zm,Yk hi,Yk hj];by_cases e:i=j
 .subst e;exact Mb _
 .exact List.pairwise_iff_getElem.mp h i j hi hj (by omega)
theorem kN(hA:A.Pairwise (· <= ·))(hB:B.Pairwise (· <= ·)){p q:Nat}(hp:p<A.length)(hq:q<B.length)(hv:v<=A.getD p 0+B.getD q 0)
  (hm:∀x y,x<A.length->y<B.length->v<=A.getD x 0+B.getD y 0->A.getD p 0+B.getD q 0<=A.getD x 0+B.getD y 0):
  ∀(n i j:Nat),(A.length-i)+j<=n->i<=p->q<j->j<=B.length->∃e∈wlk A B v n i j,e.2.2=A.getD p 0+B.getD q 0
 |0,i,j,h,h1,h2,_=>by omega
 |n+1,i,j,h,h1,h2,h3=>by
  unfold wlk
  rw[Y8 ⟨by omega,by omega⟩]
  by_cases hlt:A.getD i 0+B.getD (j-1) 0<v
  .rw[Y8 hlt];by_cases e:i=p
   .subst e
    have:=rise hB (i:=q) (j:=j-1) (by omega) (by omega)
    omega
   .obtain⟨x,hx,e2⟩:=kN hA hB hp hq hv hm n (i+1) j (by omega) (by omega) h2 h3
    exact⟨x,.tail _ hx,e2⟩
  .rw[Yi hlt];by_cases e:j-1=q
   .rw[e]at hlt ⊢;refine⟨_,.head _,?_⟩;have a1:=rise hA h1 hp
    have a2:=hm i q (by omega) hq (by omega)
    show A.getD i 0+B.getD q 0=_;omega
   .obtain⟨x,hx,e2⟩:=kN hA hB hp hq hv hm n i (j-1) (by omega) h1 (by omega) (by omega)
    exact⟨x,.tail _ hx,e2⟩
theorem kO(hA:A.Pairwise (· <= ·))(hB:B.Pairwise (· <= ·)){p q:Nat}(hp:p<A.length)(hq:q<B.length)(hv:A.getD p 0+B.getD q 0<=v)
  (hm:∀x y,x<A.length->y<B.length->A.getD x 0+B.getD y 0<=v->A.getD x 0+B.getD y 0<=A.getD p 0+B.getD q 0):
  ∀(n i j:Nat),(A.length-i)+j<=n->i<=p->q<j->j<=B.length->∃e∈wlk A B v n i j,e.2.2=A.getD p 0+B.getD q 0
 |0,i,j,h,h1,h2,_=>by omega
 |n+1,i,j,h,h1,h2,h3=>by
  unfold wlk
  rw[Y8 ⟨by omega,by omega⟩]
  by_cases hlt:A.getD i 0+B.getD (j-1) 0<v
  .rw[Y8 hlt];by_cases e:i=p
   .subst e;refine⟨_,.head _,?_⟩
    have a1:=rise hB (i:=q) (j:=j-1) (by omega) (by omega)
    have a2:=hm i (j-1) (by omega) (by omega) (by omega)
    show A.getD i 0+B.getD (j-1) 0=_;omega
   .obtain⟨x,hx,e2⟩:=kO hA hB hp hq hv hm n (i+1) j (by omega) (by omega) h2 h3
    exact⟨x,.tail _ hx,e2⟩
  .rw[Yi hlt];by_cases e:j-1=q
   .rw[e]at hlt ⊢;refine⟨_,.head _,?_⟩;have a1:=rise hA h1 hp;show A.getD i 0+B.getD q 0=_;omega
   .obtain⟨x,hx,e2⟩:=kO hA hB hp hq hv hm n i (j-1) (by omega) h1 (by omega) (by omega)
    exact⟨x,.tail _ hx,e2⟩
theorem lO:∀(n i j:Nat),j<=B.length->∀e∈wlk A B v n i j,∃x y,x<A.length/\y<B.length/\e=(x,y,A.getD x 0+B.getD y 0)
 |0,_,_,_,e,he=>by cases he
 |n+1,i,j,hj,e,he=>by
  unfold wlk at he;by_cases h:i<A.length/\1<=j
  .rw[Y8 h]at he;rcases Yc.mp he with rfl|he
   .exact⟨i,j-1,h.1,by omega,rfl⟩
   .by_cases hlt:A.getD i 0+B.getD (j-1) 0<v
    .rw[Y8 hlt]at he;exact lO n (i+1) j hj e he
    .rw[Yi hlt]at he;exact lO n i (j-1) (by omega) e he
  .rw[Yi h]at he;cases he
theorem pC{A B:List Int}{v:Int}:∀(n i j:Nat),(wlk A B v n i j).length<=n
 |0,_,_=>Yd _
 |n+1,i,j=>by
  unfold wlk;split
  .rw[Ym];split
   .have:=pC (A:=A) (B:=B) (v:=v) n (i+1) j;omega
   .have:=pC (A:=A) (B:=B) (v:=v) n i (j-1);omega
  .simp
def tL{x:Int}(h:x∈A):∃p,p<A.length/\A.getD p 0=x:=by
 obtain⟨p,hp,e⟩:=List.mem_iff_getElem.mp h
 exact⟨p,hp,by rw[Zm,Yk hp];exact e⟩
def V9{p:Nat}(h:p<A.length):A.getD p 0∈A:=by rw[Zm,Yk h];exact M4 h
def yX(A B:List Int):List Int:=A.flatMap λx=>B.map λy=>x+y
def iE:s∈yX A B↔∃x∈A,∃y∈B,x+y=s:=by simp[yX]
def Cn{l:List Int}(h:s∈l):∃m∈l,∀x∈l,m<=x:=by
 match l,h with
 |a::r,_=>
  obtain⟨⟨h1,h2⟩,h3⟩:=lx r a;refine⟨di a r,?_,λx hx=>?_⟩
  .rcases h3 with e|e
   .rw[e];exact .head _
   .exact .tail _ e
  .rcases Yc.mp hx with rfl|hx
   .exact h1
   .exact h2 x hx
def xD(hA:A.Pairwise (· <= ·))(hB:B.Pairwise (· <= ·)){x:Int}(hx:x∈A)(hy:y∈B)(h:v<=x+y):∃e∈wlk A B v (A.length+B.length) 0 B.length,v<=e.2.2/\e.2.2<=x+y:=by
 have hs:x+y∈(yX A B).filter λs=>decide (v<=s):=Z8.mpr ⟨iE.mpr ⟨x,hx,y,hy,rfl⟩,by simpa using h⟩
 obtain⟨m,hm,hle⟩:=Cn hs;obtain⟨hm1,hm2⟩:=Z8.mp hm;obtain⟨a,ha,b,hb,rfl⟩:=iE.mp hm1;obtain⟨p,hp,rfl⟩:=tL ha;obtain⟨q,hq,rfl⟩:=tL hb
 have hv:v<=A.getD p 0+B.getD q 0:=by simpa using hm2
 obtain⟨e,he,ee⟩:=kN hA hB hp hq hv (λi j hi hj hij=>hle _ (Z8.mpr ⟨iE.mpr ⟨_,V9 hi,_,V9 hj,rfl⟩,by simpa using hij⟩)) (A.length+B.length) 0 B.length (by omega) (Zq _) hq (Yd _)
 exact⟨e,he,by rw[ee];exact hv,by rw[ee];exact hle _ hs⟩
def eW(e:Nat×Nat×Int):D:=.tup [.int e.1,.int e.2.1,.int e.2.2]
def HE{a b:TM}(h:a r S=.ok true S1):PD.ot a b r S=b r S1:=by unfold PD.ot;rw[h,R.bind_ok];exact Y8 rfl
def HF{a b:TM}(h:a r S=.ok false S1):PD.ot a b r S=.ok false S1:=by unfold PD.ot;rw[h,R.bind_ok];exact Yi Yl
abbrev wkT:TM:=(PD.ot (tV (eOp oLt (ae 4) (eB cW (af (eOp oIx (ae 2) (eC (.int 0))) ak)))) (tV (eOp oGe (ae 5) (eC (.int 0)))))
abbrev wkB:SM:=(aA (aO 6 (eOp aT (eOp oIx (eOp oIx (ae 2) (eC (.int 0))) (ae 4)) (eOp oIx (eOp oIx (ae 2) (eC (.int 1))) (ae 5)))) (aA (cH (sO eX (ae 3) (af (g7 (af (ae 4) (af (ae 5) (af (ae 6) ak)))) ak))) (sIf (tV (eOp oLt (ae 6) (ae 1))) (aO 4 (eOp aT (ae 4) (eC (.int 1)))) (aO 5 (eOp g9 (ae 5) (eC (.int 1)))))))
def sf(h:i<A.length):oIx S (tupI A) (.int (i:Int))=some (.int (A.getD i 0)):=by
 show atI (A.map D.int) (i:Int)=_
 rw[oM (by rw[Yh];exact h),Zm,Yk h];simp
def oh:cW S [tupI A]=some (.int A.length):=by show some (D.int ((A.map D.int).length:Int))=_;rw[Yh]
def Et(r0 r3 r6:Option D)(i j:Nat)(S:Sto):wkT [r0,some (.int v),some (.tup [tupI A,tupI B]),r3,some (.int i),some (.int ((j:Int)-1)),r6] S=.ok (decide (i<A.length/\1<=j)) S:=by
 have h1:tV (eOp oLt (ae 4) (eB cW (af (eOp oIx (ae 2) (eC (.int 0))) ak))) [r0,some (.int v),some (.tup [tupI A,tupI B]),r3,some (.int i),some (.int ((j:Int)-1)),r6] S=.ok (decide ((i:Int)<A.length)) S:=
  br (av (aa rfl) (aZ (ag (av (x:=.tup [tupI A,tupI B]) (aa rfl) rfl rfl) rfl) oh) rfl)
 have h2:tV (eOp oGe (ae 5) (eC (.int 0))) [r0,some (.int v),some (.tup [tupI A,tupI B]),r3,some (.int i),some (.int ((j:Int)-1)),r6] S=.ok (decide ((j:Int)-1 >= 0)) S:=br (av (aa rfl) rfl rfl);by_cases g:i<A.length
 .rw[Yr (show(i:Int)<A.length by omega)]at h1
  rw[show wkT=PD.ot _ _ from rfl,HE h1,h2]
  congr 1;rw[Qq];omega
 .rw[Yp (show ¬(i:Int)<A.length by omega)]at h1
  rw[show wkT=PD.ot _ _ from rfl,HF h1,Yp (by omega)]
def WkC(A B:List Int)(v:Int)(r0:Option D)(m n:Nat):Prop:=∀(i j:Nat)(S:Sto)(w:List D)(r6:Option D),(A.length-i)+j<=n->j<=B.length->S[m]?=some (.lst w)->w.length+n<=1000->
  ∃r4 r5 r6':Option D,cM wkT wkB (n+1) [r0,some (.int v),some (.tup [tupI A,tupI B]),some (.ref m),some (.int i),some (.int ((j:Int)-1)),r6] S=.ok (.nx [r0,some (.int v),some (.tup [tupI A,tupI B]),some (.ref m),r4,r5,r6']) (S.set m (.lst (w++(wlk A B v n i j).map eW)))
def yY(r0:Option D)(ih:∀k,n=k+1->WkC A B v r0 m k):WkC A B v r0 m n:=λi j S w r6 h1 h2 hm hz=>by
  have hml:m<S.length:=(Y9.mp hm).1
  have same:S.set m (.lst w)=S:=by have e:=(Y9.mp hm).2;rw[<- e];exact Qj hml
  have ht:=Et (A:=A) (B:=B) (v:=v) r0 (some (.ref m)) r6 i j S;by_cases g:i<A.length/\1<=j
  .rw[Yr g]at ht
   obtain⟨k,rfl⟩:∃k,n=k+1:=⟨n-1,by omega⟩
   have z3:(3:Nat)<=sizeLine:=by decide
   have z:(1000:Nat)<=sizeLine:=by decide
   have hj:((j:Int)-1)=((j-1:Nat):Int):=by omega
   have hL:isL S (.ref m)=true:=by simp[isL,hm]
   -- the body,up to its last choice
   have hb:∀(k1:SM),aA (aO 6 (eOp aT (eOp oIx (eOp oIx (ae 2) (eC (.int 0))) (ae 4)) (eOp oIx (eOp oIx (ae 2) (eC (.int 1))) (ae 5)))) (aA (cH (sO eX (ae 3) (af (g7 (af (ae 4) (af (ae 5) (af (ae 6) ak)))) ak))) k1) [r0,some (.int v),some (.tup [tupI A,tupI B]),some (.ref m),some (.int i),some (.int ((j-1:Nat):Int)),r6] S
     = k1 [r0,some (.int v),some (.tup [tupI A,tupI B]),some (.ref m),some (.int i),some (.int ((j-1:Nat):Int)),some (.int (A.getD i 0+B.getD (j-1) 0))] (S.set m (.lst (w++[eW (i,j-1,A.getD i 0+B.getD (j-1) 0)]))):=λk1=>by
    refine(aq (aC (av (av (av (x:=.tup [tupI A,tupI B]) (aa rfl) rfl rfl) (aa rfl) (sf g.1)) (av (av (x:=.tup [tupI A,tupI B]) (aa rfl) rfl rfl) (aa rfl) (sf (by omega))) rfl))).trans (aq (bW (d:=.non) ((tj (ys:=[eW (i,j-1,A.getD i 0+B.getD (j-1) 0)]) (aa rfl) hL (ag (iW (xs:=[.int i,.int ((j-1:Nat):Int),.int (A.getD i 0+B.getD (j-1) 0)]) rfl z3) rfl)).trans ?_)))
    unfold eX;simp only[hm]
    rw[Y8 (by omega)]
   unfold cM
   rw[ht,R.bind_ok,Y8 rfl,hj,show wkB=aA _ (aA _ _) from rfl,hb]
   have hw:wlk A B v (k+1) i j=(i,j-1,A.getD i 0+B.getD (j-1) 0)::(if A.getD i 0+B.getD (j-1) 0<v then wlk A B v k (i+1) j else wlk A B v k i (j-1)):=by rw[wlk,Y8 g]
   rw[hw];have hm':(S.set m (.lst (w++[eW (i,j-1,A.getD i 0+B.getD (j-1) 0)])))[m]?=some (.lst (w++[eW (i,j-1,A.getD i 0+B.getD (j-1) 0)])):=Z4 hml;by_cases hlt:A.getD i 0+B.getD (j-1) 0<v
   .obtain⟨r4,r5,r6',e⟩:=ih k rfl (i+1) j _ _ (some (.int (A.getD i 0+B.getD (j-1) 0))) (by omega) h2 hm' (by simp;omega)
    refine⟨r4,r5,r6',?_⟩;rw[Y8 hlt,(jC (br (av (aa rfl) (aa rfl) (Q8 (λb=>some (D.bl b)) (Yr hlt))))).trans (aC (av (aa rfl) rfl rfl)),R.bind_ok];rw[hj,Wr,Qe]at e;exact e
   .obtain⟨r4,r5,r6',e⟩:=ih k rfl i (j-1) _ _ (some (.int (A.getD i 0+B.getD (j-1) 0))) (by omega) (by omega) hm' (by simp;omega)
    refine⟨r4,r5,r6',?_⟩;rw[Yi hlt,(cA (br (av (aa rfl) (aa rfl) (Q8 (λb=>some (D.bl b)) (Yp hlt))))).trans (aC (av (aa rfl) rfl rfl)),R.bind_ok];rw[Wr,Qe]at e;exact e
  .rw[Yp g]at ht
   have hw:wlk A B v n i j=[]:=by
    cases n with
    |zero=>rfl
    |succ n=>rw[wlk,Yi g]
   refine⟨some (.int i),some (.int ((j:Int)-1)),r6,?_⟩;unfold cM;rw[ht,R.bind_ok,Yi Yl,hw,W5,Qh,same]
theorem yZ(r0:Option D):∀n:Nat,WkC A B v r0 m n
 |0=>yY r0 λ_ e=>Nat.noConfusion e
 |n+1=>yY r0 λk e=>(Nat.succ.inj e)▸yZ r0 n
def y8{a:TM}{b:Bool}(h:a r S=.ok b S1):a r S=.ok b S1:=h
theorem rJ:∀T:List (Int×Int),ir (aV T)=some (T.map (·.1))
 |[]=>rfl
 |e::T=>by show(ir (aV T)).map (e.1 :: ·)=_;rw[rJ T];rfl
def wsS(T:List (Int×Int)):List Int:=gu (T.map (·.1))
def Co(h:dAt S n T)(hz:T.length<=60):u6 S [.ref n]=some (.lst ((wsS T).map .int)):=by
 have z:(1000:Nat)<=sizeLine:=by decide
 show(match nk S (.ref n) with|some ns=>if ns.length<64 then some (D.lst ((gu ns).map .int)) else none|none=>none)=_
 have e:nk S (.ref n)=some (T.map (·.1)):=by unfold nk;rw[h.seq];simp only[h.dic,rJ]
 rw[e];dsimp only
 rw[Y8 (by rw[Yh];omega)]
 rfl
def oi{f:List Int}(h:Hist T f)(w:Int):w∈wsS T↔w∈f:=by unfold wsS;rw[(fq _).mem_iff,Yw,<- h.mem w]
def y9(T:List (Int×Int)):(wsS T).length=T.length:=by unfold wsS;rw[(fq _).length_eq,Yh]
def tM{l:List D}:jm S [.lst l]=some (.tup l):=rfl
def Jy(h12:xs.length<=10)(hr:Row xs)(S:Sto):∃(S':Sto)(A B:List (Int×Int)),dm [tupI xs] S=.ok (.tup [tupI (wsS A),tupI (wsS B)]) S'/\Pre S S'/\Hist A (wsL KS (xs.take (xs.length/2)))/\Hist B (wsL KS (xs.drop (xs.length/2)))/\A.length<=32/\B.length<=32:=by
 have hk:∀q∈KS,-1<=q/\q<=1:=by decide
 have hl1:(xs.take (xs.length/2)).length<=5:=by rw[Ql];omega
 have hl2:(xs.drop (xs.length/2)).length<=5:=by rw[Q9];omega
 have bnd:∀ys:List Int,ys.length<=5->(wsL KS ys).length<=32:=λys h=>by
  rw[tK]
  exact Yv (Zw (by decide) h) (by decide)
 obtain⟨S1,a,A,tA,dA,la,hA,pA⟩:=iX (K:=KS) (xs:=xs.take (xs.length/2)) (by decide) hk (by omega) S
 obtain⟨S2,b,B,tB,dB,lb,hB,pB⟩:=iX (K:=KS) (xs:=xs.drop (xs.length/2)) (by decide) hk (by omega) S1
 have lA:A.length<=32:=Yv hA.len (bnd _ hl1);have lB:B.length<=32:=Yv hB.len (bnd _ hl2);refine⟨S2,A,B,?_,pA.trans pB,hA,hB,lA,lB⟩
 have hc:bq (bJ (az bo (af (ae 0) ak)) bB) 1 [] (.nm 0) bZ (eB jm (af (eB u6 (af (az de (af (ae 0) (af (eC (.tup (([(-1),(1)]:List Int).map .int))) ak))) ak)) ak)) [some (tupI xs)] S=.ok (.lst [tupI (wsS A),tupI (wsS B)]) S2:=
  Cj (S1:=S) (by unfold bJ;rw[(aw (ag (aa rfl) rfl)).trans (show bo [tupI xs] S=_ from mH xs S),R.bind_ok];rfl)
   (aZ (ag (aZ (ag ((aw (ag (aa rfl) (ag rfl rfl))).trans tA) rfl) (Co (.inl dA) (by omega))) rfl) tM)
   (aZ (ag (aZ (ag ((aw (ag (aa rfl) (ag rfl rfl))).trans tB) rfl) (Co (.inl dB) (by omega))) rfl) tM)
 exact aQ (ρ:=[some (tupI xs)]) rfl ((aq (bW ((aw (ag (aa rfl) rfl)).trans (gX hr S)))).trans (fh (aE (aZ (ag hc rfl) tM))))
abbrev wkL(A B:List (Int×Int))(v:Int):List (Nat×Nat×Int):=wlk (wsS A) (wsS B) v ((wsS A).length+(wsS B).length) 0 (wsS B).length
def zc(h12:xs.length<=10)(hr:Row xs)(v:Int)(S:Sto):∃(S':Sto)(m:Nat)(A B:List (Int×Int)),e6 [tupI xs,.int v] S=.ok (.ref m) S'/\S'[m]?=some (.lst ((wkL A B v).map eW))/\Pre S S'/\Hist A (wsL KS (xs.take (xs.length/2)))/\Hist B (wsL KS (xs.drop (xs.length/2)))/\(wkL A B v).length<=128/\S.length<=m:=by
 obtain⟨S1,A,B,e1,p1,hA,hB,lA,lB⟩:=Jy h12 hr S
 have hlen:(wsS A).length+(wsS B).length<=128:=by rw[y9,y9];omega
 obtain⟨r4,r5,r6,e2⟩:=yZ (A:=wsS A) (B:=wsS B) (v:=v) (some (tupI xs)) (m:=S1.length) ((wsS A).length+(wsS B).length) 0 (wsS B).length (S1++[.lst []]) [] none (by omega) (Yd _) (by simp) (by simp;omega)
 have hset:(S1++[SO.lst []]).set S1.length (.lst ([]++(wkL A B v).map eW))=S1++[.lst ((wkL A B v).map eW)]:=by simp
 refine⟨S1++[.lst ((wkL A B v).map eW)],S1.length,A,B,?_,by simp,p1.trans (Pre.app _ _),hA,hB,Yv (pC _ _ _) hlen,p1.len⟩
 have e3:sWh wkT wkB [some (tupI xs),some (.int v),some (.tup [tupI (wsS A),tupI (wsS B)]),some (.ref S1.length),some (.int ((0:Nat):Int)),some (.int (((wsS B).length:Int)-1)),none] (S1++[.lst []])=.ok (.nx [some (tupI xs),some (.int v),some (.tup [tupI (wsS A),tupI (wsS B)]),some (.ref S1.length),r4,r5,r6]) (S1++[.lst ((wkL A B v).map eW)]):=by rw[BB _ (by rw[e2];exact λz=>by cases z),e2,hset]
 refine aQ (ρ:=[some (tupI xs),some (.int v),none,none,none,none,none]) rfl ?_;refine(aq (aC ((aw (ag (aa rfl) rfl)).trans e1))).trans ?_;refine(aq (S1:=S1++[.lst []]) (fh (aC rfl))).trans ?_;refine(aq (fh (aC rfl))).trans ?_;refine(aq (fh (aC (av (aZ (ag (av (x:=.tup [tupI (wsS A),tupI (wsS B)]) (aa rfl) rfl rfl) rfl) oh) rfl rfl)))).trans ?_;exact(aq (fh e3)).trans (fh (aE (aa rfl)))
def Cp{m:EM}{xs:List D}(h:m r S=.ok (.ref n) S1)(hn:S1[n]?=some (.lst xs)):xk m r S=.ok xs (S1.set n (.flst xs)):=by unfold xk;rw[h,R.bind_ok];simp only[hn]
theorem rK{A:Type}{x1 x2 x3:A->D}{out:A->D}{p:A->Bool}{t:TM}:∀(xs:List A)(r0 r1 r2:Option D),(∀x∈xs,t (some (x1 x)::some (x2 x)::some (x3 x)::tl) S=.ok (p x) S)->(∀x∈xs,p x=true->e (some (x1 x)::some (x2 x)::some (x3 x)::tl) S=.ok (out x) S)->dY (.tp [.nm 0,.nm 1,.nm 2]) t e (xs.map λx=>.tup [x1 x,x2 x,x3 x]) (r0::r1::r2::tl) S=.ok ((xs.filter p).map out) S
 |[],_,_,_,_,_=>rfl
 |x::xs,r0,r1,r2,ht,h=>by
  have h0:=ht x Z2;have h2:=rK (out:=out) xs (some (x1 x)) (some (x2 x)) (some (x3 x)) (λy hy=>ht y (Yz _ hy)) λy hy=>h y (Yz _ hy);rw[Yb,dY];cases hp:p x with
  |true=>
   have h1:=h x Z2 hp;rw[hp]at h0;simp only[G.put,G.puts,Zb,Zi,R.bind_ok,Zj,h0,h1,h2,Yb,Vd,hp]
  |false=>
   rw[hp]at h0;simp only[G.put,G.puts,Zb,Zi,R.bind_ok,h0,h2,Vd,hp,Ze,Qy]
def pD{A:Type}{x1 x2 x3:A->D}{out:A->D}{p:A->Bool}{t:TM}(xs:List A)(hi:it r S=.ok (xs.map λx=>.tup [x1 x,x2 x,x3 x]) S1)(hl:xs.length<=sizeLine)(hc:caps.map (λi=>(r[i]?).join)=tl)(ht:∀x∈xs,t (some (x1 x)::some (x2 x)::some (x3 x)::tl) S1=.ok (p x) S1)(h:∀x∈xs,p x=true->e (some (x1 x)::some (x2 x)::some (x3 x)::tl) S1=.ok (out x) S1):bq it 3 caps (.tp [.nm 0,.nm 1,.nm 2]) t e r S=.ok (.lst ((xs.filter p).map out)) S1:=by
 unfold bq
 rw[hi,R.bind_ok,Y8 (by rw[Yh];exact hl)]
 have:fG 3 caps r=none::none::none::tl:=by unfold fG;rw[hc];rfl
 rw[this,rK (out:=out) xs none none none ht h,R.bind_ok]
def optI:Option Int->D
 |none=>.non
 |some i=>.int i
def Eu:List Int->Option Int
 |[]=>none
 |n::ns=>some (di n ns)
theorem Jz(S:Sto):∀l:List Int,ni S [.lst (l.map .int)]=some (optI (Eu l))
 |[]=>rfl
 |n::ns=>by have e:=fM (n::ns);rw[Yb]at e ⊢;unfold ni;have ht:hU (D.int n::ns.map D.int)=none:=rfl;simp only[nh,ht,e];rfl
theorem Ew:∀{l:List Int}{u:Int},Eu l=some u->u∈l/\∀x∈l,u<=x
 |n::ns,u,h=>by
  cases h;obtain⟨⟨h1,h2⟩,h3⟩:=lx ns n;refine⟨?_,λx hx=>?_⟩
  .rcases h3 with e|e
   .rw[e];exact .head _
   .exact .tail _ e
  .rcases Yc.mp hx with rfl|hx
   .exact h1
   .exact h2 x hx
def HG(xs:List Int)(v:Int):Option Int->Prop
 |none=>∀u,Wo KS xs u->u<v
 |some u=>Wo KS xs u/\v<=u/\∀z,Wo KS xs z->v<=z->u<=z
def jR{A B:List (Int×Int)}(hA:Hist A (wsL KS (xs.take (xs.length/2))))(hB:Hist B (wsL KS (xs.drop (xs.length/2))))(u:Int):Wo KS xs u↔∃x∈wsS A,∃y∈wsS B,x+y=u:=by
 have:=HA (K:=KS) (xs:=xs.take (xs.length/2)) (ys:=xs.drop (xs.length/2)) (v:=u);rw[U4]at this;rw[<- this];constructor
 .rintro⟨x,hx,y,hy,e⟩;exact⟨x,(oi hA x).mpr hx,y,(oi hB y).mpr hy,e⟩
 .rintro⟨x,hx,y,hy,e⟩;exact⟨x,(oi hA x).mp hx,y,(oi hB y).mp hy,e⟩
def Cq(h12:xs.length<=10)(hr:Row xs)(v:Int)(S:Sto):∃(S':Sto)(o:Option Int),F_above_n [tupI xs,.int v] S=.ok (optI o) S'/\Pre S S'/\HG xs v o:=by
 obtain⟨S1,m,A,B,e1,hm,p1,hA,hB,hlen,hml⟩:=zc h12 hr v S
 have z:(1000:Nat)<=sizeLine:=by decide
 have hc:bq (xk (az e6 (af (ae 0) (af (ae 1) ak)))) 3 [1] (.tp [(.nm 0),(.nm 1),(.nm 2)]) (tV (eOp oGe (ae 2) (ae 3))) (ae 2) [some (tupI xs),some (.int v)] S=.ok (.lst (((wkL A B v).filter λe=>decide (v<=e.2.2)).map λe=>D.int e.2.2)) (S1.set m (.flst ((wkL A B v).map eW))):=
  pD (x1:=λe:Nat×Nat×Int=>.int e.1) (x2:=λe=>.int e.2.1) (x3:=λe=>.int e.2.2) (tl:=[some (.int v)]) (wkL A B v) (Cp ((aw (ag (aa rfl) (ag (aa rfl) rfl))).trans e1) hm) (by omega) rfl
   (λe he=>y8 (br (av (aa rfl) (aa rfl) rfl))) λe he _=>aa rfl
 have hl:((wkL A B v).filter λe=>decide (v<=e.2.2)).map (λe=>D.int e.2.2)=(((wkL A B v).filter λe=>decide (v<=e.2.2)).map λe=>e.2.2).map D.int:=by rw[Zo];rfl
 rw[hl]at hc;refine⟨S1.set m (.flst ((wkL A B v).map eW)),Eu (((wkL A B v).filter λe=>decide (v<=e.2.2)).map λe=>e.2.2),?_,p1.set hml _,?_⟩
 .exact aQ (ρ:=[some (tupI xs),some (.int v)]) rfl ((aq (bW ((aw (ag (aa rfl) (ag (aa rfl) rfl))).trans (iY hr v S)))).trans (aE (aZ (ag hc rfl) (Jz _ _))))
 .have hit:∀u,Wo KS xs u->v<=u->∃w∈((wkL A B v).filter λe=>decide (v<=e.2.2)).map λe=>e.2.2,w<=u:=λu hu hv=>by
   obtain⟨x,hx,y,hy,rfl⟩:=(jR hA hB u).mp hu;obtain⟨e,he,h1,h2⟩:=xD (dN _) (dN _) hx hy hv
   exact⟨e.2.2,Yw.mpr ⟨e,Z8.mpr ⟨he,by simpa using h1⟩,rfl⟩,h2⟩
  cases ho:Eu (((wkL A B v).filter λe=>decide (v<=e.2.2)).map λe=>e.2.2) with
  |none=>
   intro u hu;rcases Int.lt_or_le u v with h|h
   .exact h
   .obtain⟨w,hw,_⟩:=hit u hu h
    match hl:((wkL A B v).filter λe=>decide (v<=e.2.2)).map λe=>e.2.2 with
    |[]=>rw[hl]at hw;cases hw
    |n::ns=>rw[hl]at ho;cases ho
  |some u=>
   obtain⟨h1,h2⟩:=Ew ho;obtain⟨e,he,rfl⟩:=Yw.mp h1;obtain⟨he,hv⟩:=Z8.mp he;obtain⟨x,y,hx,hy,rfl⟩:=lO _ _ _ (Yd _) e he
   refine⟨(jR hA hB _).mpr ⟨_,V9 hx,_,V9 hy,rfl⟩,by simpa using hv,λz hz hvz=>?_⟩
   obtain⟨w,hw,hwz⟩:=hit z hz hvz;exact Int.le_trans (h2 w hw) hwz
def Cr{l:List Int}(h:s∈l):∃m∈l,∀x∈l,x<=m:=by
 match l,h with
 |a::r,_=>
  obtain⟨⟨h1,h2⟩,h3⟩:=sY r a;refine⟨gH a r,?_,λx hx=>?_⟩
  .rcases h3 with e|e
   .rw[e];exact .head _
   .exact .tail _ e
  .rcases Yc.mp hx with rfl|hx
   .exact h1
   .exact h2 x hx
def xE(hA:A.Pairwise (· <= ·))(hB:B.Pairwise (· <= ·)){x:Int}(hx:x∈A)(hy:y∈B)(h:x+y<=v):∃e∈wlk A B v (A.length+B.length) 0 B.length,e.2.2<=v/\x+y<=e.2.2:=by
 have hs:x+y∈(yX A B).filter λs=>decide (s<=v):=Z8.mpr ⟨iE.mpr ⟨x,hx,y,hy,rfl⟩,by simpa using h⟩
 obtain⟨m,hm,hle⟩:=Cr hs;obtain⟨hm1,hm2⟩:=Z8.mp hm;obtain⟨a,ha,b,hb,rfl⟩:=iE.mp hm1;obtain⟨p,hp,rfl⟩:=tL ha;obtain⟨q,hq,rfl⟩:=tL hb
 have hv:A.getD p 0+B.getD q 0<=v:=by simpa using hm2
 obtain⟨e,he,ee⟩:=kO hA hB hp hq hv (λi j hi hj hij=>hle _ (Z8.mpr ⟨iE.mpr ⟨_,V9 hi,_,V9 hj,rfl⟩,by simpa using hij⟩)) (A.length+B.length) 0 B.length (by omega) (Zq _) hq (Yd _)
 exact⟨e,he,by rw[ee];exact hv,by rw[ee];exact hle _ hs⟩
def Ey:List Int->Option Int
 |[]=>none
 |n::ns=>some (gH n ns)
theorem JA(S:Sto):∀l:List Int,vc S [.lst (l.map .int)]=some (optI (Ey l))
 |[]=>rfl
 |n::ns=>by have e:=fM (n::ns);rw[Yb]at e ⊢;unfold vc;simp only[nh,e];rfl
theorem Ez:∀{l:List Int}{u:Int},Ey l=some u->u∈l/\∀x∈l,x<=u
 |n::ns,u,h=>by
  cases h;obtain⟨⟨h1,h2⟩,h3⟩:=sY ns n;refine⟨?_,λx hx=>?_⟩
  .rcases h3 with e|e
   .rw[e];exact .head _
   .exact .tail _ e
  .rcases Yc.mp hx with rfl|hx
   .exact h1
   .exact h2 x hx
def HH(xs:List Int)(v:Int):Option Int->Prop
 |none=>∀u,Wo KS xs u->v<u
 |some u=>Wo KS xs u/\u<=v/\∀z,Wo KS xs z->z<=v->z<=u
def Cs(h12:xs.length<=10)(hr:Row xs)(v:Int)(S:Sto):∃(S':Sto)(o:Option Int),F_below_n [tupI xs,.int v] S=.ok (optI o) S'/\Pre S S'/\HH xs v o:=by
 obtain⟨S1,m,A,B,e1,hm,p1,hA,hB,hlen,hml⟩:=zc h12 hr v S
 have z:(1000:Nat)<=sizeLine:=by decide
 have hc:bq (xk (az e6 (af (ae 0) (af (ae 1) ak)))) 3 [1] (.tp [(.nm 0),(.nm 1),(.nm 2)]) (tV (eOp oLe (ae 2) (ae 3))) (ae 2) [some (tupI xs),some (.int v)] S=.ok (.lst (((wkL A B v).filter λe=>decide (e.2.2<=v)).map λe=>D.int e.2.2)) (S1.set m (.flst ((wkL A B v).map eW))):=
  pD (x1:=λe:Nat×Nat×Int=>.int e.1) (x2:=λe=>.int e.2.1) (x3:=λe=>.int e.2.2) (tl:=[some (.int v)]) (wkL A B v) (Cp ((aw (ag (aa rfl) (ag (aa rfl) rfl))).trans e1) hm) (by omega) rfl
   (λe he=>y8 (br (av (aa rfl) (aa rfl) rfl))) λe he _=>aa rfl
 have hl:((wkL A B v).filter λe=>decide (e.2.2<=v)).map (λe=>D.int e.2.2)=(((wkL A B v).filter λe=>decide (e.2.2<=v)).map λe=>e.2.2).map D.int:=by rw[Zo];rfl
 rw[hl]at hc;refine⟨S1.set m (.flst ((wkL A B v).map eW)),Ey (((wkL A B v).filter λe=>decide (e.2.2<=v)).map λe=>e.2.2),?_,p1.set hml _,?_⟩
 .exact aQ (ρ:=[some (tupI xs),some (.int v)]) rfl ((aq (bW ((aw (ag (aa rfl) (ag (aa rfl) rfl))).trans (iY hr v S)))).trans (aE (aZ (ag hc rfl) (JA _ _))))
 .have hit:∀u,Wo KS xs u->u<=v->∃w∈((wkL A B v).filter λe=>decide (e.2.2<=v)).map λe=>e.2.2,u<=w:=λu hu hv=>by
   obtain⟨x,hx,y,hy,rfl⟩:=(jR hA hB u).mp hu;obtain⟨e,he,h1,h2⟩:=xE (dN _) (dN _) hx hy hv
   exact⟨e.2.2,Yw.mpr ⟨e,Z8.mpr ⟨he,by simpa using h1⟩,rfl⟩,h2⟩
  cases ho:Ey (((wkL A B v).filter λe=>decide (e.2.2<=v)).map λe=>e.2.2) with
  |none=>
   intro u hu;rcases Int.lt_or_le v u with h|h
   .exact h
   .obtain⟨w,hw,_⟩:=hit u hu h
    match hl:((wkL A B v).filter λe=>decide (e.2.2<=v)).map λe=>e.2.2 with
    |[]=>rw[hl]at hw;cases hw
    |n::ns=>rw[hl]at ho;cases ho
  |some u=>
   obtain⟨h1,h2⟩:=Ez ho;obtain⟨e,he,rfl⟩:=Yw.mp h1;obtain⟨he,hv⟩:=Z8.mp he;obtain⟨x,y,hx,hy,rfl⟩:=lO _ _ _ (Yd _) e he
   refine⟨(jR hA hB _).mpr ⟨_,V9 hx,_,V9 hy,rfl⟩,by simpa using hv,λz hz hvz=>?_⟩
   obtain⟨w,hw,hwz⟩:=hit z hz hvz;exact Int.le_trans hwz (h2 w hw)
def okN(x:Int):Prop:=1<=x/\x<1000000000000000
def rL{f:Nat}{xs:List D}{v:D}(h:S[f]?=some (.lst xs))(hl:xs.length<sizeLine):eX S (.ref f) [v]=.ok .non (S.set f (.lst (xs++[v]))):=by unfold eX;simp only[h,Y8 hl]
def zd{f:Nat}{xs:List D}(h:S[f]?=some (.lst xs)):isL S (.ref f)=true:=by unfold isL;simp only[h]
abbrev JB:SM:=(aA (aO 7 (eOp aT (eC (.int 1)) (az aY (af (ae 0) (af (eC (.int 12)) ak))))) (cH (sO eX (ae 5) (af (eOp oIx (ik (af (ae 7) (af (ae 7) (af (ae 4) (af (eOp wV (eC (.int 1)) (ae 6)) (af (eOp aT (ae 4) (eOp cI (ae 6) (ae 7))) (af (eOp aT (eOp cI (eOp mm (eC (.int 10)) (eC (.int 12))) (ae 7)) (ae 4)) ak))))))) (ae 3)) ak))))
def Ct{f:Nat}{kind base:Int}{r1 r2 r7:Option D}(hi:i<16)(hk:0<=kind/\kind<6)(hb:1<=base/\base<10)(g:Gr b S0 S)(hf:S[f]?=some (.lst (xs.map .int)))(hfb:f≠b)(hf0:S0.length<=f)(hl:xs.length<1000):
  ∃(y:Int)(S':Sto)(r7':Option D),JB [some (.ref b),r1,r2,some (.int kind),some (.int base),some (.ref f),some (.int i),r7] S=.ok (.nx [some (.ref b),r1,r2,some (.int kind),some (.int base),some (.ref f),some (.int i),r7']) S'/\
   okN y/\S'[f]?=some (.lst ((xs++[y]).map .int))/\Gr b S0 S':=by
 obtain⟨q,S1,e1,q0,q1,g1⟩:=iU g.self (many:=12) (by decide) (by decide)
 have hfl:f<S.length:=(Y9.mp hf).1
 have hf1:S1[f]?=some (.lst (xs.map .int)):=by rw[g1.oth f hfb hfl];exact hf
 have hfl1:f<S1.length:=(Y9.mp hf1).1;generalize hG:(1:Int)+q=G
 have hG0:1<=G/\G<=12:=by omega
 have sG:cZ G:=⟨by omega,by omega⟩
 have sI:cZ (i:Int):=⟨by omega,by omega⟩
 have m1:(i:Int)*G<=15*12:=Int.mul_le_mul (by omega) hG0.2 (by omega) (by omega)
 have m1':0<=(i:Int)*G:=Int.mul_nonneg (by omega) (by omega)
 have m4:(2:Int)^i<=32768:=by
  have h:=Zw (n:=2) (by decide) (show i<=15 by omega)
  have h':((2^i:Nat):Int)<=((2^15:Nat):Int):=by exact_mod_cast h
  simpa using h'
 have m4':1<=(2:Int)^i:=by
  have h:=Nat.one_le_two_pow (n:=i)
  have h':(1:Int)<=((2^i:Nat):Int):=by exact_mod_cast h
  simpa using h'
 have z6:(6:Nat)<=sizeLine:=by decide
 have hix:∃y:Int,okN y/\atI [D.int G,D.int G,D.int base,D.int (2^i),D.int (base+(i:Int)*G),D.int (1000000000000*G+base)] kind=some (.int y):=by
  have h:kind=0\/kind=1\/kind=2\/kind=3\/kind=4\/kind=5:=by omega
  rcases h with h|h|h|h|h|h<;>subst h
  .exact⟨_,⟨by omega,by omega⟩,rfl⟩
  .exact⟨_,⟨by omega,by omega⟩,rfl⟩
  .exact⟨_,⟨by omega,by omega⟩,rfl⟩
  .exact⟨_,⟨m4',by omega⟩,rfl⟩
  .exact⟨_,⟨by omega,by omega⟩,rfl⟩
  .exact⟨_,⟨by omega,by omega⟩,rfl⟩
 obtain⟨y,hy,hix⟩:=hix;obtain⟨n,hn⟩:=g1.bx;have g01:=g.trans g1
 refine⟨y,S1.set f (.lst (xs.map .int++[.int y])),some (.int G),?_,hy,by rw[W0];simp[hfl1],⟨n,by rw[Z3 hfb];exact hn⟩,λj hj hl=>?_,by simp;exact g01.len⟩
 .have hG1:eOp aT (eC (.int 1)) (az aY (af (ae 0) (af (eC (.int 12)) ak))) [some (.ref b),r1,r2,some (.int kind),some (.int base),some (.ref f),some (.int i),r7] S=.ok (.int G) S1:=av rfl ((aw (ag (aa rfl) (ag rfl rfl))).trans e1) (Q8 (λz=>some (D.int z)) hG)
  have hL:(ik (af (ae 7) (af (ae 7) (af (ae 4) (af (eOp wV (eC (.int 1)) (ae 6)) (af (eOp aT (ae 4) (eOp cI (ae 6) (ae 7))) (af (eOp aT (eOp cI (eOp mm (eC (.int 10)) (eC (.int 12))) (ae 7)) (ae 4)) ak))))))) [some (.ref b),r1,r2,some (.int kind),some (.int base),some (.ref f),some (.int i),some (.int G)] S1=.ok (.lst [D.int G,D.int G,D.int base,D.int (2^i),D.int (base+(i:Int)*G),D.int (1000000000000*G+base)]) S1:=
   lI (ag (aa rfl) (ag (aa rfl) (ag (aa rfl) (ag (av rfl (aa rfl) (G0 (by omega))) (ag (av (aa rfl) (av (aa rfl) (aa rfl) (d8 (.inl sI))) rfl) (ag (av (av (av rfl rfl w9) (aa rfl) (d8 (.inr sG))) (aa rfl) rfl) rfl)))))) z6
  exact(aq (aC hG1)).trans (bW ((tj (aa rfl) (zd hf1) (ag (av hL (aa rfl) hix) rfl)).trans (rL hf1 (by rw[Yh];exact M1 hl (by decide)))))
 .rw[Z3 (by omega)]
  exact g01.oth j hj hl
theorem vU{f:Nat}{kind base:Int}{r1 r2:Option D}(hk:0<=kind/\kind<6)(hb:1<=base/\base<10)(hfb:f≠b)(hf0:S0.length<=f):∀(l:List Nat)(S:Sto)(xs:List Int)(r6 r7:Option D),(∀i∈l,i<16)->Gr b S0 S->S[f]?=some (.lst (xs.map .int))->xs.length+l.length<1000->(∀x∈xs,okN x)->
  ∃(ys:List Int)(S':Sto)(r6' r7':Option D),forL (.nm 6) JB (l.map λ(i:Nat)=>D.int i) [some (.ref b),r1,r2,some (.int kind),some (.int base),some (.ref f),r6,r7] S=.ok (.nx [some (.ref b),r1,r2,some (.int kind),some (.int base),some (.ref f),r6',r7']) S'/\
   ys.length=xs.length+l.length/\(∀y∈ys,okN y)/\S'[f]?=some (.lst (ys.map .int))/\Gr b S0 S'
 |[],S,xs,r6,r7,_,g,hf,_,hx=>⟨xs,S,r6,r7,rfl,rfl,hx,hf,g⟩
 |i::l,S,xs,r6,r7,hl,g,hf,hz,hx=>by
  rw[Ym]at hz
  obtain⟨y,S1,r7',e,hy,hf1,g1⟩:=Ct (r1:=r1) (r2:=r2) (r7:=r7) (hl i Z2) hk hb g hf hfb hf0 (by omega)
  obtain⟨ys,S2,a6,a7,e2,h1,h2,h3,h4⟩:=vU hk hb hfb hf0 l S1 (xs++[y]) (some (.int i)) r7' (λj hj=>hl j (Yz _ hj)) g1 hf1 (by rw[Yq,Ym,Zf];omega) (λx h=>by
   rcases Yy.mp h with h|h
   .exact hx x h
   .rw[Yo.mp h];exact hy)
  exact⟨ys,S2,a6,a7,(bG (r1:=[some (.ref b),r1,r2,some (.int kind),some (.int base),some (.ref f),some (.int i),r7]) rfl e).trans e2,by rw[h1,Yq,Ym,Zf,Ym];omega,h2,h3,h4⟩
def HI{most:Int}(g:Gr b S S)(hm:0<=most/\most<=16):∃(xs:List Int)(S':Sto),gy [.ref b,.int most] S=.ok (.tup (xs.map .int)) S'/\(xs.length:Int)<=most/\(∀x∈xs,okN x)/\Gr b S S':=by
 obtain⟨many,S1,e1,a0,a1,g1⟩:=iU g (many:=most+1) (by omega) (by omega)
 obtain⟨kind,S2,e2,b0,b1,g2⟩:=iU g1.self (many:=6) (by decide) (by decide)
 obtain⟨bs,S3,e3,c0,c1,g3⟩:=iU g2.self (many:=9) (by decide) (by decide)
 have gs:=(g1.trans g2).trans g3;obtain⟨n0,hn0⟩:=gs.bx;have hb3:b<S3.length:=(Y9.mp hn0).1
 obtain⟨ys,S4,r6,r7,e4,h1,h2,h3,h4⟩:=vU (S0:=S) (b:=b) (f:=S3.length) (kind:=kind) (base:=1+bs) (r1:=some (.int most)) (r2:=some (.int many)) ⟨b0,b1⟩ ⟨by omega,by omega⟩ (by omega) gs.len (List.range many.toNat) (S3++[.lst []]) [] none none (λi hi=>by have:=List.mem_range.mp hi;omega) (gs.more _) (by simp) (by simp;omega) (λx h=>nomatch h)
 refine⟨ys,S4,?_,by rw[h1];simp;omega,h2,h4⟩
 have z0:(0:Nat)<=sizeLine:=Zq _
 have hN:eNew ak [some (.ref b),some (.int most),some (.int many),some (.int kind),some (.int (1+bs)),none,none,none] S3=.ok (.ref S3.length) (S3++[.lst []]):=by
  unfold eNew
  show(if 0<=sizeLine then R.ok (D.ref S3.length) (S3++[SO.lst []]) else R.bad)=_
  exact Y8 z0
 have ht:jm S4 [.ref S3.length]=some (.tup (ys.map .int)):=by show(bN S4 (.ref S3.length)).map D.tup=_;unfold bN;simp only[h3,Zv]
 exact aQ (ρ:=[some (.ref b),some (.int most),none,none,none,none,none,none]) rfl ((aq (aC ((aw (ag (aa rfl) (ag (av (aa rfl) rfl rfl) rfl))).trans e1))).trans ((aq (aC ((aw (ag (aa rfl) (ag rfl rfl))).trans e2))).trans ((aq (aC (av rfl ((aw (ag (aa rfl) (ag rfl rfl))).trans e3) rfl))).trans ((aq (aC hN)).trans ((aq ((iV (ny (ag (aa rfl) rfl) a0 (by omega))).trans e4)).trans (aE (aZ (ag (aa rfl) rfl) ht)))))))
def Ak(xs:List Int)(v:Int):Int:=((wsL KS (xs.take (xs.length/2))).map λx=>(((wsL KS (xs.drop (xs.length/2))).filter λy=>decide (y=v-x)).length:Int)).sum
def HJ(h10:xs.length<=10)(hr:Row xs)(v:Int)(S:Sto):∃S',F_many_met_n [tupI xs,.int v] S=.ok (.int (Ak xs v)) S'/\Pre S S':=by
 obtain⟨S',A,B,e,p,hA,hB⟩:=Er h10 hr v S
 have q:sumH (λx=>gT B (v-x)) A=Ak xs v:=by rw[hA.sum];unfold Ak;congr 1;exact Q0 λx _=>hB.get _
 rw[q]at e;exact⟨S',e,p⟩
structure Sim(d:D)(p:PyData):Prop where
 py:toPy d=some p
 lay:p.canLay0=true
 dep:p.depth<=3
theorem HK:∀{ds:List D}{f:D->PyData},(∀d∈ds,Sim d (f d))->ip ds=some (ds.map f)/\PyData.canLayAll0 (ds.map f)=true/\PyData.depthAll (ds.map f)<=3
 |[],f,_=>⟨rfl,rfl,by show 0<=3;omega⟩
 |d::ds,f,h=>by
  have h1:=h d Z2;obtain⟨a,b,c⟩:=HK (ds:=ds) (f:=f) λx hx=>h x (Yz _ hx)
  refine⟨by unfold ip;rw[h1.py,a];rfl,by unfold List.map PyData.canLayAll0;rw[h1.lay,b];rfl,?_⟩
  have:=h1.dep;unfold List.map PyData.depthAll;omega
def rM{p:PyData}(h:p.canLay0=true)(hd:p.depth<=64):SeqAt.shaped p=true:=by unfold SeqAt.shaped;rw[h,Yr hd];rfl
def EA{xs ys:List D}{f:D->PyData}(hx:∀d∈xs,Sim d (f d))(hy:∀d∈ys,Sim d (f d)):eqP (.tup xs) (.tup ys)=some (PyData.eqvAll (xs.map f) (ys.map f)):=by
 obtain⟨a,b,c⟩:=HK hx;obtain⟨a',b',c'⟩:=HK hy
 have e1:toPy (.tup xs)=some (.tuple (xs.map f)):=by unfold toPy;rw[a];rfl
 have e2:toPy (.tup ys)=some (.tuple (ys.map f)):=by unfold toPy;rw[a'];rfl
 have s1:SeqAt.shaped (.tuple (xs.map f))=true:=rM (by unfold PyData.canLay0;exact b) (by unfold PyData.depth;omega)
 have s2:SeqAt.shaped (.tuple (ys.map f))=true:=rM (by unfold PyData.canLay0;exact b') (by unfold PyData.depth;omega)
 unfold eqP;have e0:eqS (.tup xs) (.tup ys)=none:=rfl;rw[e0,e1,e2];simp only[s1,s2,and_self,Zj];rw[PyData.eqv]
def pyI:D->PyData
 |.int i=>.int i
 |.tup [.int i,.int j]=>.tuple [.int i,.int j]
 |_=>.none
def JC(i:Int):pyI (.int i)=PyData.int i:=rfl
def EB(i:Int):Sim (.int i) (pyI (.int i)):=⟨rfl,rfl,by show 0<=3;omega⟩
def vV{is:List Int}:∀d∈is.map D.int,Sim d (pyI d):=λd hd=>by obtain⟨i,_,rfl⟩:=Yw.mp hd;exact EB i
theorem vW:∀(xs ys:List Int),PyData.eqvAll ((xs.map D.int).map pyI) ((ys.map D.int).map pyI)=decide (xs=ys)
 |[],[]=>by simp[PyData.eqvAll]
 |[],y::ys=>by simp[PyData.eqvAll]
 |x::xs,[]=>by simp[PyData.eqvAll]
 |x::xs,y::ys=>by simp only[Yb,PyData.eqvAll,vW xs ys,JC,PyData.eqv];rw[Qz];simp
def Al(xs ys:List Int):eqP (.tup (xs.map .int)) (.tup (ys.map .int))=some (decide (xs=ys)):=by rw[EA vV vV,vW]
def bX{fs:List (Str×D)}(h:S[n]?=some (.ins c fs)):iu c S (.ref n)=some (n,fs):=by unfold iu;simp only[h,Zj]
def kP{f:Str}{x d:D}{fs:List (Str×D)}(h:a r S=.ok x S1)(hi:iu c S1 x=some (n,fs))(hl:fs.lookup f=some d):iw c f a r S=.ok d S1:=by unfold iw;rw[h,R.bind_ok];simp only[hi,hl];rfl
def oj{f:Str}{v:EM}{x y:D}{fs:List (Str×D)}(hv:v r S=.ok y S1)(ho:o r S1=.ok x S2)(hi:iu c S2 x=some (n,fs))(hl:fs.length<1000):j8 c f o v r S=.ok (.nx r) (S2.set n (.ins c (j7 f y fs))):=by unfold j8;rw[hv,R.bind_ok,ho,R.bind_ok];simp only[hi,Y8 hl]
def pE{m:Str}{F:FM}{x:D}{ds:List D}{fs:List (Str×D)}(h:o r S=.ok x S1)(hi:iu c S1 x=some (n,fs))(hl:fs.lookup m=none)(ht:t r S1=.ok ds S2):kG c m F o t r S=F (x::ds) S2:=by unfold kG;rw[h,R.bind_ok];simp only[hi,hl,ht,R.bind_ok,Zj]
def Cu{F:FM}(h:F [.ref S.length] (S++[.ins c []])=.ok .non S1):Ab c F r S=.ok (.ref S.length) S1:=by unfold Ab;rw[h,R.bind_ok]
abbrev tI(xs:List Int):D:=.tup (xs.map .int)
abbrev kF(a b:D):List (Str×D):=[("numbers",a),("earlier",b)]
def EC(a b:D):(kF a b).lookup ("numbers":Str)=some a:=by kernel_rfl
def Kn(a b:D):(kF a b).lookup ("earlier":Str)=some b:=by kernel_rfl
def Ko(a b:D):(kF a b).lookup ("change":Str)=none:=by kernel_rfl
def Kp(a b:D):(kF a b).lookup ("put":Str)=none:=by kernel_rfl
def Kq(a b:D):(kF a b).lookup ("row":Str)=none:=by kernel_rfl
def Kr(a b v:D):j7 "numbers" v (kF a b)=kF v b:=by kernel_rfl
def Ks(v:D):j7 "numbers" v []=([("numbers",v)]:List (Str×D)):=by kernel_rfl
def Kt(a v:D):j7 "earlier" v [("numbers",a)]=kF a v:=by kernel_rfl
def bz{A:Type}{l:List A}{x:A}(h:l[i]?=some x):i<l.length:=(Y9.mp h).1
def ED(S:Sto):cG [.ref S.length] (S++[.ins "Keeper" []])=.ok .non (S++[.ins "Keeper" (kF (tI []) (.ref (S.length+1))),.lst []]):=by
 have z0:(0:Nat)<=sizeLine:=Zq _
 have h1:j8 "Keeper" "numbers" (ae 0) (g7 ak) [some (.ref S.length)] (S++[.ins "Keeper" []])=.ok (.nx [some (.ref S.length)]) (S++[.ins "Keeper" [("numbers",tI [])]]):=by
  refine(oj (iW (xs:=[]) rfl z0) (aa rfl) (bX (n:=S.length) (fs:=[]) (by simp)) (by decide)).trans ?_
  rw[Ks];simp
 have hN:eNew ak [some (.ref S.length)] (S++[.ins "Keeper" [("numbers",tI [])]])=.ok (.ref (S.length+1)) (S++[.ins "Keeper" [("numbers",tI [])]]++[.lst []]):=by
  unfold eNew
  show(if 0<=sizeLine then R.ok (D.ref (S++[SO.ins "Keeper" [("numbers",tI [])]]).length) _ else R.bad)=_
  rw[Y8 z0,Yq];rfl
 have h2:j8 "Keeper" "earlier" (ae 0) (eNew ak) [some (.ref S.length)] (S++[.ins "Keeper" [("numbers",tI [])]])=.ok (.nx [some (.ref S.length)]) (S++[.ins "Keeper" (kF (tI []) (.ref (S.length+1))),.lst []]):=by
  refine(oj hN (aa rfl) (bX (n:=S.length) (fs:=[("numbers",tI [])]) (by simp)) (by decide)).trans ?_
  rw[Kt];simp
 exact kI (ρ:=[some (.ref S.length)]) rfl ((aq h1).trans h2)
def Fv(xs:List Int):cW S [tI xs]=some (.int xs.length):=by show some (D.int ((xs.map D.int).length:Int))=_;rw[Yh]
def JD(a:D):([("keeper",a)]:List (Str×D)).lookup ("keeper":Str)=some a:=by kernel_rfl
def JE(a:D):([("keeper",a)]:List (Str×D)).lookup ("say":Str)=none:=by kernel_rfl
def Ku(v:D):j7 "keeper" v []=([("keeper",v)]:List (Str×D)):=by kernel_rfl
def EE(S:Sto):dj [.ref S.length] (S++[.ins "Desk" []])=.ok .non (S++[.ins "Desk" [("keeper",.ref (S.length+1))],.ins "Keeper" (kF (tI []) (.ref (S.length+2))),.lst []]):=by
 have e:=ED (S++[.ins "Desk" []])
 rw[Yq,W7]at e
 have h:=Cu (c:="Keeper") (r:=[some (.ref S.length)]) (S:=S++[.ins "Desk" []]) (by rw[Yq,W7];exact e)
 rw[Yq,W7]at h
 have h2:=oj (c:="Desk") (f:="keeper") (o:=ae 0) h (aa rfl) (bX (n:=S.length) (fs:=[]) (by simp)) (by decide)
 rw[Ku]at h2;refine kI (ρ:=[some (.ref S.length)]) (ρ':=[some (.ref S.length)]) rfl (h2.trans ?_);simp
def kQ{c:Nat}{r:List Nat}(h:x.cps.toList=c::r):Txt.startswith x ⟨#[m]⟩=decide (c=m):=by
 obtain⟨⟨l⟩⟩:=x;obtain rfl:l=c::r:=h;unfold Txt.startswith Builtin.Str.subAt
 have e:(⟨⟨c::r⟩⟩:Str).cps.extract 0 (0+(⟨#[m]⟩:Str).length) = #[c]:=by show(⟨c::r⟩:Array Nat).extract 0 1 = #[c];apply Array.ext';simp
 rw[e]
 have e2:decide (0+(⟨#[m]⟩:Str).length<=(⟨⟨c::r⟩⟩:Str).length)=true:=by rw[Qf];show 1<=(c::r).length;simp
 rw[e2,Ve];rw[Qz];simp
def bg(x:Str):x.length=x.cps.toList.length:=by simp[Str.length]
def iZ{y:Str}:dy S (.str x) [.str y]=.ok (.bl (Txt.startswith x y)) S:=rfl
def vX:("-":Str)=⟨#[45]⟩:=by decide
def mI:("0":Str)=⟨#[48]⟩:=by decide
def Cv(h0:1<=n)(h:n<1000000000000000000000000000000)(S:Sto):bM [.str (nm n)] S=.ok (.bl true) S:=by
 have z:(100:Nat)<=sizeLine:=by decide
 have hl:(nm n).length<=30:=gz (k:=29) (by omega)
 have h1:=tu n;obtain⟨c,r,e,c1,c2⟩:=yN h0
 have s1:tV (fV dy (ae 0) (af (eC (.str "-")) ak)) [some (.str (nm n)),none] S=.ok false S:=by
  refine br ((gf (aa rfl) (ag rfl rfl)).trans (iZ.trans ?_))
  rw[vX,kQ e,Yp (by omega)]
 have s2:tV (fV dy (ae 1) (af (eC (.str "0")) ak)) [some (.str (nm n)),some (.str (nm n))] S=.ok false S:=by
  refine br ((gf (aa rfl) (ag rfl rfl)).trans (iZ.trans ?_))
  rw[mI,kQ e,Yp (by omega)]
 have s3:g6 oLe oLe (eC (.int 1)) (eB cW (af (ae 1) ak)) (eC (.int (30))) [some (.str (nm n)),some (.str (nm n))] S=.ok (.bl true) S:=by
  have e1:eB cW (af (ae 1) ak) [some (.str (nm n)),some (.str (nm n))] S=.ok (.int ((nm n).length:Int)) S:=aZ (ag (aa rfl) rfl) (B6 (by omega))
  have e2:oLe S (.int 1) (.int ((nm n).length:Int))=some (.bl true):=by show some (D.bl (decide ((1:Int)<=_)))=_;rw[Yr (by omega)]
  have e3:oLe S (.int ((nm n).length:Int)) (.int 30)=some (.bl true):=by show some (D.bl (decide (_<=(30:Int))))=_;rw[Yr (by omega)]
  unfold g6;show(R.ok (D.int 1) S).bind _=_;rw[R.bind_ok,e1,R.bind_ok];simp only[e2];show(R.ok (D.int 30) S).bind _=_;rw[R.bind_ok,e3];rfl
 have s4:=gm (enc:=λc:Nat=>D.str ⟨#[c]⟩) (out:=λ_=>D.bl true) (e:=eOp (xm false) (ae 0) (eC (.str "0123456789"))) (it:=bJ (ae 1) yE) (caps:=[]) (tl:=[]) (r:=[some (.str (nm n)),some (.str (nm n))]) (S:=S) (nm n).cps.toList (by
   unfold bJ
   rw[aa (d:=.str (nm n)) rfl,R.bind_ok];rfl) (by rw[<- bg];omega) rfl (λc hc=>av (aa rfl) rfl (Hv (kK n c hc) S))
 refine aQ (ρ:=[some (.str (nm n)),none]) rfl ((aq (aC ((lH s1).trans (aa rfl)))).trans ((aq ((cA s2).trans rfl)).trans (aE ((pf s3).trans (aZ (ag s4 rfl) ?_)))));rw[lJ (f:=λ_=>true)];congr 2;rw[Zy];intros;rfl
def vY(h:n<1000000000000000000000000000000)(S:Sto):j9 S [.str (nm n)]=some (.int (n:Int)):=by
 have hl:(nm n).length<=30:=gz (k:=29) (by omega)
 have h1:=tu n
 refine n9 (by omega) ?_
 rw[intText_digits (kK n) (by intro z;rw[bg,z]at h1;cases h1) (by omega),B5]
def Cw(n:Nat):("put ":Str)++nm n=Txt.join (" ":Str) ["put",nm n]:=by
 refine gc ?_;rw[pj,gA]
 have e:("put ":Str).cps.toList=[112,117,116,32]:=by decide
 have e2:("put":Str).cps.toList=[112,117,116]:=by decide
 show(("put ":Str).cps++(nm n).cps).toList=_
 rw[Vg,e];simp only[Yb,W5,jl,e2];rfl
def vZ{T:Dsp}{mb:EM}{ms:AM}{key:Str}{xs:List D}(h1:mb r S=.ok (.str key) S1)(hd:KTD.datumAt key T=some (some nf))(h2:ms r S1=.ok xs S2):vk T mb ms r S=nf.2 xs S2:=by unfold vk;rw[h1,R.bind_ok];simp only[hd,h2,R.bind_ok]
structure RowB(row:List Int):Prop where
 bd:∀x∈row,1<=x/\x<1000000000000000000000000000000
 len:row.length<=16
def xF(row:List Int):Str:=if row=[] then "none" else Txt.join (" ":Str) (row.map λx=>nm x.toNat)
def HL{x:Int}(h0:0<=x)(h:x<1000000000000000000000000000000000000000000000000000000000000)(S:Sto):dO S [.int x]=some (.str (nm x.toNat)):=by
 have:=tw (S:=S) (n:=x.toNat) (by omega)
 rw[Int.toNat_of_nonneg h0]at this;exact this
theorem tN:∀row:List Int,(∀x∈row,1<=x/\x<1000000000000000000000000000000)->((row.map λx=>nm x.toNat).map (·.length)).sum<=30*row.length
 |[],_=>Zq _
 |x::row,h=>by
  have h1:=h x (.head _);have h2:=tN row λy hy=>h y (.tail _ hy)
  have h3:(nm x.toNat).length<=30:=gz (k:=29) (by have:=h1.2;omega)
  simp only[Yb,Zp,Ym]at h2 ⊢;omega
def Cy{row:List Int}(h:row≠[]):(Txt.join (" ":Str) (row.map λx=>nm x.toNat)).length≠0:=by rw[bg,pj,gA,xr];obtain⟨x,r,rfl⟩:=K3 h;have:=tu x.toNat;rw[bg]at this;simp only[Yb,Zp];omega
def xG{row:List Int}(h:RowB row):(Txt.join (" ":Str) (row.map λx=>nm x.toNat)).length<=1000:=by
 have h1:=tN row h.bd;have hl:=h.len;rw[bg,pj,gA,xr,Yh,Yh,Zo]
 have e2:((row.map λx=>nm x.toNat).map (List.length∘λw:Str=>w.cps.toList))=(row.map λx=>nm x.toNat).map (·.length):=Q0 λp _=>by simp[Str.length]
 rw[e2];omega
def EF{c:EM}(h:a r S=.ok (.str x) S1)(hl:x.length<=sizeLine):Af a c r S=if x.length=0 then c r S1 else .ok (.str x) S1:=by unfold Af;rw[h,R.bind_ok];simp only[Y8 hl]
def pG(x:Str)(m:Nat):Txt.startswith x ⟨#[m]⟩=(match x.cps.toList with | []=>false|c::_=>decide (c=m)):=by
 cases h:x.cps.toList with
 |nil=>
  have h0:x.length=0:=by rw[bg,h];rfl
  unfold Txt.startswith
  have e:decide (0+(⟨#[m]⟩:Str).length<=x.length)=false:=Yp (by rw[h0];show ¬(0+1<=0);omega)
  rw[e];rfl
 |cons c r=>exact kQ h
def xH(h:1<=x.length):Txt.slice x (some 1) none=⟨(x.cps.toList.drop 1).toArray⟩:=by
 rw[slice_from_eq (x:=x) (i:=1) (b:=(x.length:Int)) (by omega) (by omega) rfl]
 have e:((x.cps.toList.drop (1:Int).toNat).take ((x.length:Int)-1).toNat)=x.cps.toList.drop 1:=by
  rw[show((1:Int).toNat)=1 from rfl]
  refine List.take_of_length_le ?_;rw[Q9,<- bg];omega
 rw[e]
def jV:List Nat->List Nat
 |[]=>[]
 |c::r=>if c=45 then r else c::r
def fg(w:Str):Str:=⟨(jV w.cps.toList).toArray⟩
def kR(w:Str):(fg w).cps.toList=jV w.cps.toList:=by simp[fg]
def Cz(l:List Nat):(jV l).length<=l.length:=by
 cases l with
 |nil=>exact Yd _
 |cons c r=>
  show(if c=45 then r else c::r).length<=_
  split<;>simp
def HM(w:Str):(fg w).length<=w.length:=by rw[bg,kR,bg w];exact Cz _
def EG{c:Nat}{r:List Nat}(h:w.cps.toList=c::r):if c=45 then Txt.slice w (some 1) none=fg w else fg w=w:=by
 have h1:1<=w.length:=by rw[bg,h];simp
 split
 .rename_i hc;rw[xH h1];refine gc ?_;rw[kR,h];simp[jV,hc]
 .rename_i hc;refine gc ?_;rw[kR,h];simp[jV,hc]
def HN(h:w.cps.toList=[]):fg w=w:=gc (by rw[kR,h];rfl)
section
variable{w:Str}(hl:w.length<=1000)(S:Sto)(r1:Option D)
include hl
def Kv:eIf (tV (fV dy (ae 0) (af (eC (.str "-")) ak))) (eSl xp (ae 0) (gJ (eC (.int 1))) oNo) (ae 0) [some (.str w),r1] S=.ok (.str (fg w)) S:=by
 have z:(1000:Nat)<=sizeLine:=by decide
 have s1:tV (fV dy (ae 0) (af (eC (.str "-")) ak)) [some (.str w),r1] S=.ok (match w.cps.toList with | []=>false|c::_=>decide (c=45)) S:=by refine br ((gf (aa rfl) (ag rfl rfl)).trans (iZ.trans ?_));rw[vX,pG]
 cases h:w.cps.toList with
 |nil=>
  rw[h]at s1;rw[HN h];exact(lH s1).trans (aa rfl)
 |cons c r=>
  rw[h]at s1;have hf:=EG h;by_cases hc:c=45
  .rw[Y8 hc]at hf
   have s1':tV (fV dy (ae 0) (af (eC (.str "-")) ak)) [some (.str w),r1] S=.ok true S:=by rw[s1];show R.ok (decide (c=45)) S=_;rw[Yr hc]
   exact(o8 s1').trans (xt (aa rfl) (jD rfl) rfl (by rw[Hu (by omega),hf]))
  .rw[Yi hc]at hf
   have s1':tV (fV dy (ae 0) (af (eC (.str "-")) ak)) [some (.str w),r1] S=.ok false S:=by rw[s1];show R.ok (decide (c=45)) S=_;rw[Yp hc]
   rw[hf];exact(lH s1').trans (aa rfl)
end
def nA(c:Nat):Bool:=decide (48<=c/\c<=57)
def CA:("0123456789":Str).cps.toList=[48,49,50,51,52,53,54,55,56,57]:=by decide
def HP(c:Nat):decide (c∈("0123456789":Str).cps.toList)=nA c:=by unfold nA;rw[CA,Qq];simp only[Yc,Yx,Zl];omega
def EH(c:Nat)(S:Sto):xm false S (.str ⟨#[c]⟩) (.str "0123456789")=some (.bl (nA c)):=by
 show some (D.bl (!(Builtin.Str.occurrences ("0123456789":Str) ⟨#[c]⟩ 0 ("0123456789":Str).length 1).isEmpty))=_
 rw[StrLaws.found_one,HP]
def Am{f:Str}(hl:f.length<=1000)(a:Option D)(S:Sto):g6 oLe oLe (eC (.int 1)) (eB cW (af (ae 1) ak)) (eC (.int 30)) [a,some (.str f)] S=.ok (.bl (decide (1<=f.length/\f.length<=30))) S:=by
 have z:(1000:Nat)<=sizeLine:=by decide
 have e1:eB cW (af (ae 1) ak) [a,some (.str f)] S=.ok (.int (f.length:Int)) S:=aZ (ag (aa rfl) rfl) (B6 (by omega))
 have e2:oLe S (.int 1) (.int (f.length:Int))=some (.bl (decide ((1:Int)<=f.length))):=rfl;have e3:oLe S (.int (f.length:Int)) (.int 30)=some (.bl (decide ((f.length:Int)<=30))):=rfl;unfold g6;show(R.ok (D.int 1) S).bind _=_;rw[R.bind_ok,e1,R.bind_ok];simp only[e2];by_cases h1:1<=f.length
 .rw[Yr (show(1:Int)<=f.length by omega)]
  show(R.ok (D.int 30) S).bind _=_;rw[R.bind_ok,e3];by_cases h2:f.length<=30
  .rw[Yr (by omega),Yr (by omega)];rfl
  .rw[Yp (by omega),Yp (by omega)];rfl
 .rw[Yp (show ¬(1:Int)<=f.length by omega),Yp (by omega)]
def jb(l:List Nat):Bool:=match jV l with
 |[]=>false
 |c::r=>if c=48 then decide (l=[48]) else decide ((c::r).length<=30)&&(c::r).all nA
def v3(hl:w.length<=1000)(S:Sto):bM [.str w] S=.ok (.bl (jb w.cps.toList)) S:=by
 have z:(1000:Nat)<=sizeLine:=by decide
 have hf:=HM w;have s1:=Kv hl S none
 have s2:tV (fV dy (ae 1) (af (eC (.str "0")) ak)) [some (.str w),some (.str (fg w))] S=.ok (match jV w.cps.toList with | []=>false|c::_=>decide (c=48)) S:=by refine br ((gf (aa rfl) (ag rfl rfl)).trans (iZ.trans ?_));rw[mI,pG,kR]
 have s3:=Am (f:=fg w) (by omega) (some (.str w)) S
 have s4:=gm (enc:=λc:Nat=>D.str ⟨#[c]⟩) (out:=λc=>D.bl (nA c)) (e:=eOp (xm false) (ae 0) (eC (.str "0123456789"))) (it:=bJ (ae 1) yE) (caps:=[]) (tl:=[]) (r:=[some (.str w),some (.str (fg w))]) (S:=S) (fg w).cps.toList (by
   unfold bJ
   rw[aa (d:=.str (fg w)) rfl,R.bind_ok];rfl) (by rw[<- bg];omega) rfl (λc hc=>av (aa rfl) rfl (EH c S))
 have s5:nC S [.lst ((fg w).cps.toList.map λc=>D.bl (nA c))]=some (.bl ((jV w.cps.toList).all nA)):=by rw[lJ,kR]
 have hlen:(fg w).length=(jV w.cps.toList).length:=by rw[bg,kR]
 rw[hlen]at s3;refine aQ (ρ:=[some (.str w),none]) rfl ((aq (aC s1)).trans ?_);unfold jb;cases h:jV w.cps.toList with
 |nil=>
  rw[h]at s2 s3;exact(aq ((cA s2).trans rfl)).trans (aE (B4 s3))
 |cons c r=>
  rw[h]at s2 s3 s5;by_cases hc:c=48
  .simp only[hc,Zj]
   have s2':tV (fV dy (ae 1) (af (eC (.str "0")) ak)) [some (.str w),some (.str (fg w))] S=.ok true S:=by rw[s2];show R.ok (decide (c=48)) S=_;rw[Yr hc]
   refine fF ((jC s2').trans (aE (av (aa rfl) rfl ?_)));show some (D.bl (decide (w=("0":Str))))=_
   congr 2;rw[Qq,mI];constructor
   .intro q;rw[q]
   .intro q;exact gc q
  .simp only[hc,Qy]
   have s2':tV (fV dy (ae 1) (af (eC (.str "0")) ak)) [some (.str w),some (.str (fg w))] S=.ok false S:=by rw[s2];show R.ok (decide (c=48)) S=_;rw[Yp hc]
   refine(aq ((cA s2').trans rfl)).trans (aE ?_);by_cases h30:(c::r).length<=30
   .rw[Yr ⟨by simp,h30⟩]at s3
    rw[Yr h30,Ve];exact(pf s3).trans (aZ (ag s4 rfl) s5)
   .rw[Yp (λq=>h30 q.2)]at s3;rw[Yp h30,Md];exact B4 s3
def tP(w:Str):Int:=(intText? w).getD 0
def kS(h:jb w.cps.toList=true):intText? w=some (tP w)/\w.length<=31:=by
 have hs:∃n,intText? w=some n:=by
  unfold jb at h;cases hl:w.cps.toList with
  |nil=>rw[hl]at h;cases h
  |cons c r=>
   rw[hl]at h;by_cases hc:c=45
   .have hf:jV (c::r)=r:=by simp[jV,hc]
    rw[hf]at h;cases r with
    |nil=>cases h
    |cons c2 r2=>
     simp only at h;by_cases h48:c2=48
     .rw[Y8 h48]at h;have:=Zn h;injection this with q1 q2;omega
     .rw[Yi h48,Z9,Qf,Zy]at h
      refine⟨_,intText_neg (cs:=c2::r2) (by rw[hl,hc]) (λd hd=>Zn (h.2 d hd)) (by simp) (by rw[bg,hl];have:=h.1;simp at this ⊢;omega)⟩
   .have hf:jV (c::r)=c::r:=by simp[jV,hc]
    rw[hf]at h;simp only at h;by_cases h48:c=48
    .rw[Y8 h48]at h;have e:=Zn h
     refine⟨_,intText_digits (λd hd=>by rw[hl,e]at hd;rw[Yo.mp hd];decide) (by rw[hl];simp) (by rw[bg,hl,e];decide)⟩
    .rw[Yi h48,Z9,Qf,Zy]at h
     refine⟨_,intText_digits (λd hd=>by rw[hl]at hd;exact Zn (h.2 d hd)) (by rw[hl];simp) (by rw[bg,hl];have:=h.1;omega)⟩
 obtain⟨n,hn⟩:=hs
 refine⟨by unfold tP;rw[hn];rfl,?_⟩
 rw[bg];unfold jb at h;cases hl:w.cps.toList with
 |nil=>simp
 |cons c r=>
  rw[hl]at h
  have hle:(c::r).length<=(jV (c::r)).length+1:=by
   show _<=(if c=45 then r else c::r).length+1
   split<;>simp
  cases hf:jV (c::r) with
  |nil=>rw[hf]at hle;exact Yv hle (by decide)
  |cons c2 r2=>
   rw[hf]at h hle;simp only at h;by_cases h48:c2=48
   .rw[Y8 h48]at h;rw[Zn h];decide
   .rw[Yi h48,Z9,Qf]at h;have:=h.1;omega
def ones:List Str:=["take","back","row","total","even","swing","every"]
def xI:List Str:=["comes","ways","signs","near"]
def qj:List Str->Bool
 |[w]=>decide (w∈ones)
 |[a,n]=>jb n.cps.toList&&(if a=("put":Str) then decide (1<=tP n) else decide (a∈xI))
 |_=>false
theorem CB(w:Str):∀l:List Str,(l.map D.str).any (λz=>eqF z (.str w))=decide (w∈l)
 |[]=>by simp
 |a::l=>by
  rw[Yb,Qs,CB w l];have e:eqF (.str a) (.str w)=(a == w):=rfl;rw[e,Qz];simp only[M8,U6,Qf,Yc];constructor
  .rintro(h|h)
   .exact .inl h.symm
   .exact .inr h
  .rintro(h|h)
   .exact .inl h.symm
   .exact .inr h
def An(l:List Str):(l.map D.str).all il=true:=by rw[Zy];intro d hd;obtain⟨x,_,rfl⟩:=Yw.mp hd;rfl
def HQ(w:Str)(l:List Str):oIn false S (.str w) (.tup (l.map .str))=some (.bl (decide (w∈l))):=by
 show(if il (.str w)=true/\(l.map D.str).all il=true then some (D.bl ((l.map D.str).any λz=>eqF z (.str w))) else none)=_
 rw[Y8 ⟨rfl,An l⟩,CB]
def CC{L:List (Str×Option Str)}{k:Str}(h:a r S=.ok (.str k) S1):Ae L a r S=.ok (.bl (KTD.inKeys k L)) S1:=by unfold Ae;rw[h,R.bind_ok]
def HR(w:Str):KTD.inKeys w nml_ASKED_ALONE=decide (w∈(["row","total","even","swing","every"]:List Str)):=by rw[Qz,Qf];simp[nml_ASKED_ALONE,KTD.inKeys]
def HS(w:Str):KTD.inKeys w nml_ASKED_OF_A_NUMBER=decide (w∈xI):=by rw[Qz,Qf];simp[nml_ASKED_OF_A_NUMBER,KTD.inKeys,xI]
def ze(l:List D):cW S [.lst l]=some (.int (l.length:Int)):=rfl
def rN(ws:List Str)(hl:∀w∈ws,w.length<=1000)(S:Sto):iC [.lst (ws.map .str)] S=.ok (.bl (qj ws)) S:=by
 have t1:tV (eOp fO (eB cW (af (ae 0) ak)) (eC (.int 1))) [some (.lst (ws.map .str))] S=.ok (decide (((ws.map D.str).length:Int)=1)) S:=br (av (aZ (ag (aa rfl) rfl) (ze _)) rfl xq);have t2:tV (eOp lq (eB cW (af (ae 0) ak)) (eC (.int 2))) [some (.lst (ws.map .str))] S=.ok (!decide (((ws.map D.str).length:Int)=2)) S:=br (av (aZ (ag (aa rfl) rfl) (ze _)) rfl Hq);rw[Yh]at t1 t2;refine aQ (ρ:=[some (.lst (ws.map .str))]) rfl ?_
 match ws,hl,t1,t2 with
 |[],_,t1,t2=>exact(aq ((cA t1).trans rfl)).trans (fF ((jC (Fq t2)).trans rfl))
 |[w],_,t1,t2=>
  refine fF ((jC t1).trans (aE ?_));have e1:eOp (oIn false) (eOp oIx (ae 0) (eC (.int 0))) (eC (.tup ((["take","back"]:List Str).map .str))) [some (.lst ([w].map .str))] S=.ok (.bl (decide (w∈(["take","back"]:List Str)))) S:=av (av (aa rfl) rfl rfl) rfl (HQ w _)
  have e2:Ae nml_ASKED_ALONE (eOp oIx (ae 0) (eC (.int 0))) [some (.lst ([w].map .str))] S=.ok (.bl (decide (w∈(["row","total","even","swing","every"]:List Str)))) S:=by rw[<- HR];exact CC (av (aa rfl) rfl rfl)
  by_cases h:w∈(["take","back"]:List Str)
  .rw[Yr h]at e1
   have ho:w∈ones:=(show w∈(["take","back"]:List Str)++(["row","total","even","swing","every"]:List Str) from Zs _ h)
   rw[qj,Yr ho];exact Jv e1
  .rw[Yp h]at e1
   have e3:decide (w∈ones)=decide (w∈(["row","total","even","swing","every"]:List Str)):=by
    rw[Qq];show w∈(["take","back"]:List Str)++(["row","total","even","swing","every"]:List Str)↔_
    rw[Yy];exact⟨λq=>q.resolve_left h,.inr⟩
   rw[qj,e3];exact(Jw e1).trans e2
 |[a,n],hl,t1,t2=>
  have hn:=v3 (w:=n) (hl n (by simp)) S
  have t3:PD.je (tV (az bM (af (eOp oIx (ae 0) (eC (.int 1))) ak))) [some (.lst ([a,n].map .str))] S=.ok (!jb n.cps.toList) S:=gW (br ((aw (ag (av (aa rfl) rfl rfl) rfl)).trans hn));refine(aq ((cA t1).trans rfl)).trans ?_;by_cases hk:jb n.cps.toList=true
  .rw[hk]at t3;rw[qj,hk,Ve];refine(aq ((cA ((Fs t2).trans t3)).trans rfl)).trans ?_;have t4:tV (eOp fO (eOp oIx (ae 0) (eC (.int 0))) (eC (.str "put"))) [some (.lst ([a,n].map .str))] S=.ok (decide (a=("put":Str))) S:=br (av (av (aa rfl) rfl rfl) rfl rfl)
   obtain⟨r1,r2⟩:=kS hk;by_cases hp:a=("put":Str)
   .rw[Yr hp]at t4;rw[Y8 hp]
    exact fF ((jC t4).trans (aE (av (aZ (ag (av (aa rfl) rfl rfl) rfl) (n9 (by omega) r1)) rfl rfl)))
   .rw[Yp hp]at t4;rw[Yi hp,<- HS];exact(aq ((cA t4).trans rfl)).trans (aE (CC (av (aa rfl) rfl rfl)))
  .have hk':jb n.cps.toList=false:=by cases q:jb n.cps.toList;rfl;exact absurd q hk
   rw[hk']at t3;rw[qj,hk',Md];exact fF ((jC ((Fs t2).trans t3)).trans rfl)
 |a::b::c::r,_,t1,t2=>
  rw[Yp (by simp only[Ym];omega)]at t1 t2
  exact(aq ((cA t1).trans rfl)).trans (fF ((jC (Fq t2)).trans rfl))
def pH(hl:x.length<=900)(S:Sto):oV S (.str x) [.str " "]=.ok (.lst ((Txt.split x " ").map .str)) S:=by
 have z:(2000:Nat)<=sizeLine:=by decide
 have h1:=split_le x (" ":Str)
 have c1:(Builtin.Str.partsBetween x (Builtin.Str.occurrences x " " 0 x.length (x.length+1)) (" ":Str).length).length<=sizeLine:=by
  rw[length_partsBetween];have:=StrLaws.occ_length_le x " " 0 x.length (x.length+1)
  omega
 unfold oV;simp only
 rw[Y8 ⟨by decide,by omega,c1,by omega⟩]
def EI(h:32∉x.cps.toList):Txt.split x " " = [x]:=by
 have hj:Txt.join (" ":Str) [x]=x:=by rw[pj];rfl
 have:=kL (ws:=[x]) (by simp) (λw hw=>by rw[Yo.mp hw];exact h)
 rw[hj]at this;exact this
structure Dq(S:Sto)(b κ e δ:Nat)(hs:List (List Int))(row:List Int):Prop where
 bx:∃n,S[b]?=some (.lst [.int n])
 kp:S[κ]?=some (.ins "Keeper" (kF (tI row) (.ref e)))
 er:S[e]?=some (.lst (hs.map tI))
 dk:S[δ]?=some (.ins "Desk" [("keeper",.ref κ)])
 n1:b≠κ
 n2:b≠e
 n3:κ≠e
 n4:δ≠b
 n5:δ≠κ
 n6:δ≠e
def Dq.gr{e:Nat}{hs:List (List Int)}{row:List Int}(d:Dq S b κ e δ hs row)(g:Gr b S S1):Dq S1 b κ e δ hs row:=
 ⟨g.bx,by rw[g.oth κ (Ne.symm d.n1) (bz d.kp)];exact d.kp,by rw[g.oth e (Ne.symm d.n2) (bz d.er)];exact d.er,by rw[g.oth δ d.n4 (bz d.dk)];exact d.dk,d.n1,d.n2,d.n3,d.n4,d.n5,d.n6⟩
def Dq.self{e:Nat}{hs:List (List Int)}{row:List Int}(d:Dq S b κ e δ hs row):Gr b S S:=⟨d.bx,λ_ _ _=>rfl,Yd _⟩
def Ao{e:Nat}{hs:List (List Int)}{row row':List Int}(d:Dq S b κ e δ hs row)(hl:hs.length<1000):∃S1,bU [.ref κ,tI row'] S=.ok (.int row'.length) S1/\Dq S1 b κ e δ (hs++[row]) row':=by
 have z:(1000:Nat)<sizeLine:=by decide
 have ek:(hs.map tI++[tI row])=(hs++[row]).map tI:=by rw[W0];rfl
 have ha:=rL (v:=tI row) d.er (by rw[Yh];omega)
 rw[ek]at ha
 have hk1:(S.set e (.lst ((hs++[row]).map tI)))[κ]?=some (.ins "Keeper" (kF (tI row) (.ref e))):=by rw[Z3 (Ne.symm d.n3)];exact d.kp
 have h2:=oj (f:="numbers") (o:=ae 0) (v:=ae 1) (r:=[some (.ref κ),some (tI row')]) (S:=S.set e (.lst ((hs++[row]).map tI))) (y:=tI row') (aa rfl) (aa rfl) (bX hk1) (by show 2<1000;decide)
 rw[Kr]at h2;refine⟨_,aQ (ρ:=[some (.ref κ),some (tI row')]) rfl ((aq (bW ((tj (kP (aa rfl) (bX d.kp) (Kn _ _)) (zd d.er) (ag (kP (aa rfl) (bX d.kp) (EC _ _)) rfl)).trans ha))).trans ((aq h2).trans (aE (aZ (ag (aa rfl) rfl) (Fv row'))))),?_⟩;obtain⟨n,hn⟩:=d.bx;refine⟨⟨n,?_⟩,?_,?_,?_,d.n1,d.n2,d.n3,d.n4,d.n5,d.n6⟩
 .rw[Z3 (Ne.symm d.n1),Z3 (Ne.symm d.n2)];exact hn
 .exact Z4 (by rw[M6];exact bz d.kp)
 .rw[Z3 d.n3];exact Z4 (bz d.er)
 .rw[Z3 (Ne.symm d.n5),Z3 (Ne.symm d.n6)];exact d.dk
def JF{e:Nat}{hs:List (List Int)}{row:List Int}(d:Dq S b κ e δ hs row){n:Int}(hn:1<=n)(hl:hs.length<1000)(h16:row.length<16):∃S1,cO [.ref κ,.int n] S=.ok (.int ((row.length+1:Nat):Int)) S1/\Dq S1 b κ e δ (hs++[row]) (row++[n]):=by
 have z:(1000:Nat)<=sizeLine:=by decide
 have hc:tV (eOp fO (eB cW (af (iw "Keeper" "numbers" (ae 0)) ak)) (eC (.int (16)))) [some (.ref κ),some (.int n)] S=.ok (decide ((row.length:Int)=16)) S:=br (av (aZ (ag (kP (aa rfl) (bX d.kp) (EC _ _)) rfl) (Fv row)) rfl xq)
 rw[Yp (by omega)]at hc
 have hw:=o7 (d:=.int n) (S:=S) rfl;have hnn:bu [.int n] S=.ok .non S:=kI (ρ:=[some (.int n)]) rfl ((cA (gW (br ((aw (ag (aa rfl) rfl)).trans hw)))).trans rfl);have hlt:tV (eOp oLt (ae 1) (ae 0)) [some (.int 1),some (.int n)] S=.ok (decide (n<1)) S:=br (av (aa rfl) (aa rfl) rfl)
 rw[Yp (by omega)]at hlt
 have hnf:bQ [.int 1,.int n] S=.ok .non S:=kI (ρ:=[some (.int 1),some (.int n)]) rfl ((aq (bW ((aw (ag (aa rfl) rfl)).trans hnn))).trans ((cA hlt).trans rfl));obtain⟨S1,e1,d1⟩:=Ao (row':=row++[n]) d hl
 have hadd:aT S (tI row) (.tup [.int n])=some (tI (row++[n])):=by
  show _=some (D.tup ((row++[n]).map D.int));rw[W0]
  exact tm (by rw[Yh];show row.length+1<=sizeLine;omega)
 have el:((row++[n]).length:Int)=((row.length+1:Nat):Int):=by rw[Yq];rfl
 rw[el]at e1;exact⟨S1,aQ (ρ:=[some (.ref κ),some (.int n)]) rfl ((aq (bW ((aw (ag rfl (ag (aa rfl) rfl))).trans hnf))).trans ((aq ((cA hc).trans rfl)).trans (aE ((pE (aa rfl) (bX d.kp) (Ko _ _) (ag (av (kP (aa rfl) (bX d.kp) (EC _ _)) (iW (xs:=[.int n]) (ag (aa rfl) rfl) z1) hadd) rfl)).trans e1)))),d1⟩
def Ap(n:Nat):Txt.split (("put ":Str)++nm n) " " = ([("put":Str),nm n]:List Str):=by
 rw[Cw]
 refine kL (by simp) λw hw=>?_
 simp only[Yc,Yx,Zl]at hw;rcases hw with rfl|rfl
 .decide
 .intro z;have:=kK n 32 z;omega
def Aq(h:n<1000000000000000000000000000000):(("put ":Str)++nm n).length<=34:=by
 have hl:(nm n).length<=30:=gz (k:=29) (by omega)
 rw[bg];show((("put ":Str).cps++(nm n).cps).toList).length<=34
 have e:("put ":Str).cps.toList.length=4:=by decide
 rw[Vg,Yq,e,<- bg];omega
def tQ(h0:1<=n)(h:n<1000000000000000000000000000000):jb (nm n).cps.toList=true:=by
 have h1:=Cv h0 h []
 have h2:=v3 (w:=nm n) (by have:=gz (n:=n) (k:=29) (by omega);omega) []
 rw[h1]at h2;injection h2 with q;injection q with q;exact q.symm
def CD(h0:1<=n)(h:n<1000000000000000000000000000000):tP (nm n)=n:=by
 have h1:=vY h [];obtain⟨r1,r2⟩:=kS (tQ h0 h)
 rw[n9 (by omega) r1]at h1
 injection h1 with q;injection q
def v5(h0:1<=n)(h:n<1000000000000000000000000000000)(S:Sto):bp [.str (("put ":Str)++nm n)] S=.ok (.lst [.str "put",.str (nm n)]) S:=by
 have hs:=Aq h
 have hm:=pH (x:=("put ":Str)++nm n) (by omega) S
 rw[Ap]at hm
 have hi:=rN ["put",nm n] (λw hw=>by
  have:=gz (n:=n) (k:=29) (by omega)
  simp only[Yc,Yx,Zl]at hw;rcases hw with rfl|rfl
  .decide
  .omega) S
 have hk:qj ["put",nm n]=true:=by
  rw[qj,tQ h0 h,Ve,Y8 rfl,CD h0 h]
  exact Yr (by omega)
 rw[hk]at hi
 exact aQ (ρ:=[some (.str (("put ":Str)++nm n)),none]) rfl ((aq ((cA (gW (b:=true) (br (aZ (ag (aa rfl) (ag rfl rfl)) (by simp[kr,tyD,hJ]))))).trans rfl)).trans ((aq (aC ((gf (aa rfl) (ag rfl rfl)).trans hm))).trans ((aq ((cA (gW (b:=true) (br ((aw (ag (aa rfl) rfl)).trans hi)))).trans rfl)).trans (aE (aa rfl)))))
def Ar{e:Nat}{hs:List (List Int)}{row:List Int}(d:Dq S b κ e δ hs row)(h0:1<=n)(h:n<1000000000000000000000000000000)(hl:hs.length<1000)(h16:row.length<16):∃v S1,bP [.ref δ,.str (("put ":Str)++nm n)] S=.ok v S1/\Dq S1 b κ e δ (hs++[row]) (row++[(n:Int)]):=by
 obtain⟨S1,hp,d1⟩:=JF d (n:=(n:Int)) (by omega) hl h16
 have t:tV (eOp fO (eOp oIx (ae 2) (eC (.int 0))) (eC (.str "put"))) [some (.ref δ),some (.str (("put ":Str)++nm n)),some (.lst [.str "put",.str (nm n)]),none] S=.ok true S:=br (av (av (aa rfl) rfl rfl) rfl rfl)
 have ar:af (eB j9 (af (eOp oIx (ae 2) (eC (.int 1))) ak)) ak [some (.ref δ),some (.str (("put ":Str)++nm n)),some (.lst [.str "put",.str (nm n)]),none] S=.ok [.int (n:Int)] S:=ag (aZ (ag (av (aa rfl) rfl rfl) rfl) (vY h S)) rfl
 have hm:=pE (c:="Keeper") (m:="put") (F:=cO) (o:=iw "Desk" "keeper" (ae 0)) (kP (a:=ae 0) (r:=[some (.ref δ),some (.str (("put ":Str)++nm n)),some (.lst [.str "put",.str (nm n)]),none]) (aa rfl) (bX d.dk) (JD _)) (bX d.kp) (Kp _ _) ar
 exact⟨_,S1,aQ (ρ:=[some (.ref δ),some (.str (("put ":Str)++nm n)),none,none]) rfl ((aq (aC ((aw (ag (aa rfl) rfl)).trans (v5 h0 h S)))).trans (fF ((jC t).trans (aE (aZ (ag (hm.trans hp) rfl) (tw (by omega))))))),d1⟩
def v7{row:List Int}(h:RowB row)(hi:bJ a bB r S=.ok (row.map D.int) S):fV ix (eC (.str " ")) (af (bq (bJ a bB) 1 [] (.nm 0) bZ (eB dO (af (ae 0) ak))) ak) r S=.ok (.str (Txt.join " " (row.map λx=>nm x.toNat))) S:=by
 have z:(100:Nat)<=sizeLine:=by decide
 have hl:=h.len
 have hc:=gm (enc:=D.int) (out:=λx:Int=>D.str (nm x.toNat)) (e:=eB dO (af (ae 0) ak)) (it:=bJ a bB) (caps:=[]) (tl:=[]) (r:=r) (S:=S) row hi (by omega) rfl λx hx=>aZ (ag (aa rfl) rfl) (HL (by have:=(h.bd x hx).1;omega) (by have:=(h.bd x hx).2;omega) S)
 have h1:=tN row h.bd
 have h3:(" ":Str).length=1:=by decide
 refine(gf rfl (ag hc rfl)).trans ?_;unfold ix;simp only[kM]
 rw[Y8 (by rw[Yh,h3];omega)]
def HU{t:TM}{b:SM}{x:PD.F}(h:cM t b n r S=.ok x S1):sWh t b r S=.ok x S1:=(BB n (by rw[h];intro z;cases z)).trans h
def CF{T:List (Int×PyData)}{b:EM}{k:Int}{d:D}(h1:b r S=.ok (.int k) S1)(h2:(KTD.datumAt k T).bind dP=some d):vg T b r S=.ok d S1:=by unfold vg;rw[h1,R.bind_ok];show R.of S1 _=_;rw[h2];rfl
def xJ(h:n<1000000000000000000000000000000000000000000000000000000000000)(S:Sto):dS [.int (n:Int)] S=.ok (.str (nm n)) S:=by
 have hw:∀b:SM,sWh (tV (eOp oGe (ae 2) (eOp mm (eC (.int 10)) (eC (.int 60))))) b [some (.int (n:Int)),some (.str ""),some (.int (n:Int))] S=.ok (.nx [some (.int (n:Int)),some (.str ""),some (.int (n:Int))]) S:=λb=>by
  refine HU (n:=1) ?_
  have ht:tV (eOp oGe (ae 2) (eOp mm (eC (.int 10)) (eC (.int 60)))) [some (.int (n:Int)),some (.str ""),some (.int (n:Int))] S=.ok false S:=by
   refine br (av (aa rfl) (av rfl rfl Eh) ?_);show some (D.bl (decide ((n:Int) >= 1000000000000000000000000000000000000000000000000000000000000)))=_
   rw[Yp (by omega)]
  unfold cM;rw[ht,R.bind_ok,Yi Yl]
 refine aQ (ρ:=[some (.int (n:Int)),none,none]) rfl ((aq (aC (d:=.str "") rfl)).trans ((aq (aC (aa rfl))).trans ((aq (hw _)).trans (aE (av (aZ (ag (aa rfl) rfl) (tw h)) (aa rfl) ?_)))))
 have hl:(nm n).length<=60:=gz (k:=59) (by omega)
 have z:(100:Nat)<=sizeLine:=by decide
 show(if _ then _ else _)=_
 rw[Y8 (by show(nm n).length+0<=sizeLine;omega)]
 have e:nm n++("":Str)=nm n:=gc (by show((nm n).cps ++ #[]).toList=_;simp)
 rw[e]
def mkc(y:Int):Nat:=if y=1 then 43 else if y=0 then 46 else 45
def word(p:Nat×Int):Str:=(⟨#[mkc p.2]⟩:Str)++nm p.1
def CG(p:Nat×Int):(word p).cps.toList=mkc p.2::(nm p.1).cps.toList:=by show((#[mkc p.2]:Array Nat)++(nm p.1).cps).toList=_;simp
def v8(p:Nat×Int):(word p).length=(nm p.1).length+1:=by
 have e:∀x:Str,x.length=x.cps.toList.length:=λx=>by simp[Str.length]
 rw[e,CG,e (nm p.1)];rfl
def As(h:-1<=y/\y<=1):(y=1/\mkc y=43)\/(y=0/\mkc y=46)\/(y = -1/\mkc y=45):=by
 have:y=1\/y=0\/y = -1:=by omega
 rcases this with rfl|rfl|rfl
 .exact .inl ⟨rfl,rfl⟩
 .exact .inr (.inl ⟨rfl,rfl⟩)
 .exact .inr (.inr ⟨rfl,rfl⟩)
def EJ(h:-1<=y/\y<=1):(KTD.datumAt y tab_MARK_OF).bind dP=some (.str ⟨#[mkc y]⟩):=by rcases As h with⟨rfl,e⟩|⟨rfl,e⟩|⟨rfl,e⟩<;>(rw[e];kernel_rfl)
structure WOk(p:Nat×Int):Prop where
 pos:1<=p.1
 low:p.1<1000000000000000000000000000000000000000000000000000000000000
 par:-1<=p.2/\p.2<=1
def WOk.short{p:Nat×Int}(h:WOk p):2<=(word p).length/\(word p).length<=61:=by have:=tu p.1;have:=gz (n:=p.1) (k:=59) h.low;rw[v8];omega
def EK(i:Int)(S:Sto):bL [.int i] S=.ok (.bl true) S:=by kernel_rfl
def EL(hp:p.length=n)(hn:n<=100)(S:Sto):fL [tupI p,.int n] S=.ok (.bl true) S:=by
 have z:(100:Nat)<=sizeLine:=by decide
 have hi:kr S [tupI p,.ty "tuple"]=some (.bl true):=by simp[kr,tyD,hJ]
 have hl:fO S (.int p.length) (.int n)=some (.bl true):=by rw[xq,Yr (by omega)]
 have hc:=gm (enc:=D.int) (out:=λ_:Int=>D.bl true) (e:=az bL (af (ae 0) ak)) (it:=bJ (ae 0) bB) (caps:=[]) (tl:=[]) (r:=[some (tupI p),some (.int n)]) (S:=S) p (pe rfl rfl) (by omega) rfl λx _=>(aw (ag (aa rfl) rfl)).trans (EK x S)
 have ha:nC S [.lst (p.map λ_:Int=>D.bl true)]=some (.bl true):=by rw[lJ (f:=λ_=>true),Zy.mpr λ_ _=>rfl]
 exact aQ (ρ:=[some (tupI p),some (.int n)]) rfl (aE ((pf (aZ (ag (aa rfl) (ag rfl rfl)) hi)).trans ((pf (av (aZ (ag (aa rfl) rfl) oh) (aa rfl) hl)).trans (aZ (ag hc rfl) ha))))
def EN(h:Row xs)(hp:p.length=xs.length)(hq:∀q∈p,-1<=q/\q<=1)(S:Sto):d9 [tupI p,tupI xs] S=.ok (.bl true) S:=by
 have z:(100:Nat)<=sizeLine:=by decide
 have hl:=h.2
 have hc:=gm (enc:=D.int) (out:=λ_:Int=>D.bl true) (e:=g6 oLe oLe (eUn wW (eC (.int 1))) (ae 0) (eC (.int 1))) (it:=bJ (ae 0) bB) (caps:=[]) (tl:=[]) (r:=[some (tupI p),some (tupI xs)]) (S:=S) p (pe rfl rfl) (by omega) rfl λq hq'=>by
  obtain⟨q0,q1⟩:=hq q hq';have e1:eUn wW (eC (.int 1)) [some (.int q)] S=.ok (.int (-1)) S:=rfl
  have e2:oLe S (.int (-1)) (.int q)=some (.bl true):=by show some (D.bl (decide ((-1:Int)<=q)))=_;rw[Yr q0]
  have e3:oLe S (.int q) (.int 1)=some (.bl true):=by show some (D.bl (decide (q<=(1:Int))))=_;rw[Yr q1]
  have ev:ae 0 [some (.int q)] S=.ok (.int q) S:=aa rfl;show g6 oLe oLe (eUn wW (eC (.int 1))) (ae 0) (eC (.int 1)) [some (.int q)] S=_;unfold g6;rw[e1,R.bind_ok,ev,R.bind_ok];simp only[e2];show(R.ok (D.int 1) S).bind _=_;rw[R.bind_ok,e3];rfl
 have ha:nC S [.lst (p.map λ_:Int=>D.bl true)]=some (.bl true):=by rw[lJ (f:=λ_=>true),Zy.mpr λ_ _=>rfl]
 exact aQ (ρ:=[some (tupI p),some (tupI xs)]) rfl ((aq (bW ((aw (ag (aa rfl) rfl)).trans (gX h S)))).trans (aE ((pf ((aw (ag (aa rfl) (ag (aZ (ag (aa rfl) rfl) oh) rfl))).trans (EL hp (by omega) S))).trans (aZ (ag hc rfl) ha))))
theorem v9:∀(xs p:List Int),PD.nD (xs.map .int) (p.map .int)=(xs.zip p).map λe=>D.tup [.int e.1,.int e.2]
 |[],_=>rfl
 |_::_,[]=>rfl
 |x::xs,q::p=>by show D.tup [.int x,.int q]::PD.nD (xs.map .int) (p.map .int)=_;rw[v9 xs p];rfl
def ne_self{t:Str}:lq S (.str t) (.str t)=some (.bl false):=by simp[lq,eqP,eqS]
abbrev xsO(ps:List (Nat×Int)):List Int:=ps.map λp=>(p.1:Int)
abbrev ysO(ps:List (Nat×Int)):List Int:=ps.map λp=>p.2
abbrev wsO(ps:List (Nat×Int)):List Str:=ps.map word
structure PsOk(ps:List (Nat×Int)):Prop where
 all:∀p∈ps,WOk p
 len:ps.length<=16
def PsOk.row(h:PsOk ps):Row (xsO ps):=⟨λx hx=>by
 obtain⟨p,hp,rfl⟩:=Yw.mp hx;have:=(h.all p hp).pos
 omega,by rw[Yh];exact h.len⟩
theorem PsOk.par(h:PsOk ps):∀q∈ysO ps,-1<=q/\q<=1:=λq hq=>by obtain⟨p,hp,rfl⟩:=Yw.mp hq;exact(h.all p hp).par
theorem rO:∀ps:List (Nat×Int),(∀p∈ps,WOk p)->((wsO ps).map (·.length)).sum<=61*ps.length
 |[],_=>Zq _
 |p::ps,h=>by have h1:=(h p (.head _)).short;have h2:=rO ps λq hq=>h q (.tail _ hq);simp only[wsO,Yb,Zp,Ym]at h2 ⊢;omega
def EO(h:PsOk ps)(S:Sto):ix S (.str " ") [.lst (ps.map λp=>D.str (word p))]=.ok (.str (Txt.join " " (wsO ps))) S:=by
 have h1:((ps.map word).map (·.length)).sum<=61*ps.length:=rO ps h.all;have h2:=h.len
 have h3:(" ":Str).length=1:=by decide
 unfold ix;simp only[kM]
 rw[Y8 (by rw[Yh,h3];omega)]
def ER(h:PsOk ps)(S:Sto):ef [tupI (xsO ps),tupI (ysO ps)] S=.ok (.str (Txt.join " " (wsO ps))) S:=by
 have z:(100:Nat)<=sizeLine:=by decide
 have hl:=h.len
 have hn:dH [tupI (xsO ps),tupI (ysO ps)] S=.ok .non S:=kI (ρ:=[some (tupI (xsO ps)),some (tupI (ysO ps))]) rfl ((cA (gW (b:=true) (br ((aw (ag (aa rfl) (ag (aa rfl) rfl))).trans (EN h.row (by rw[Yh,Yh]) h.par S))))).trans rfl)
 have hz:DQ (af (ae 0) (af (ae 1) ak)) [some (tupI (xsO ps)),some (tupI (ysO ps))] S=.ok (ps.map λp=>D.tup [.int (p.1:Int),.int p.2]) S:=by unfold DQ;rw[ag (aa rfl) (ag (aa rfl) rfl),R.bind_ok];show R.ok (PD.nD ((xsO ps).map .int) ((ysO ps).map .int)) S=_;rw[v9,List.zip_map',Zo];rfl
 have hc:=Ah (x1:=λp:Nat×Int=>D.int (p.1:Int)) (x2:=λp=>D.int p.2) (out:=λp=>D.str (word p)) (e:=eOp aT (vg tab_MARK_OF (ae 1)) (az dS (af (ae 0) ak))) (caps:=[]) (tl:=[]) ps hz (by omega) rfl λp hp=>by
  have hw:=h.all p hp;have hs:=hw.short;refine av (CF (aa rfl) (EJ hw.par)) ((aw (ag (aa rfl) rfl)).trans (xJ hw.low S)) ?_
  show(if _ then _ else _)=_
  rw[Y8 (by rw[v8]at hs;show 1+(nm p.1).length<=sizeLine;omega)];rfl
 exact aQ (ρ:=[some (tupI (xsO ps)),some (tupI (ysO ps))]) rfl ((aq (bW ((aw (ag (aa rfl) (ag (aa rfl) rfl))).trans hn))).trans (aE ((gf rfl (ag hc rfl)).trans (EO h S))))
def gg(t:Int):Int->List Int->Option Int
 |_,[]=>none
 |acc,x::r=>if x>t*acc+1 then some acc else gg t (acc+x) r
def ES:Option Int->D
 |none=>.non
 |some a=>.int a
theorem zf{t:Int}(ht:cZ t)(S:Sto)(r0:Option D):∀(l:List Int)(acc:Int)(r3:Option D),
  (∀a,gg t acc l=some a->forL (.nm 3) (aA (sIf (tV (eOp oGt (ae 3) (eOp aT (eOp cI (ae 1) (ae 2)) (eC (.int 1))))) (aX (ae 2)) bj) (aO 2 (eOp aT (ae 2) (ae 3)))) (l.map .int) [r0,some (.int t),some (.int acc),r3] S=.ok (.rt (.int a)) S)/\
  (gg t acc l=none->∃ρ,forL (.nm 3) (aA (sIf (tV (eOp oGt (ae 3) (eOp aT (eOp cI (ae 1) (ae 2)) (eC (.int 1))))) (aX (ae 2)) bj) (aO 2 (eOp aT (ae 2) (ae 3)))) (l.map .int) [r0,some (.int t),some (.int acc),r3] S=.ok (.nx ρ) S)
 |[],acc,r3=>⟨λa h=>(by cases h),λ_=>⟨_,rfl⟩⟩
 |x::l,acc,r3=>by
  have hm:cI S (.int t) (.int acc)=some (.int (t*acc)):=d8 (.inl ht);unfold gg;by_cases hx:x>t*acc+1
  .rw[Y8 hx]
   refine⟨λa h=>?_,λh=>by cases h⟩
   cases h;rw[Yb];refine Eg (r1:=[r0,some (.int t),some (.int acc),some (.int x)]) rfl ?_;have hx':t*acc+1<x:=hx;simp[aA,sIf,aX,tV,eOp,ae,eC,R.bind,R.of,hm,aT,mq,hx']
  .rw[Yi hx];have hx':¬(t*acc+1<x):=hx
   have st:(aA (sIf (tV (eOp oGt (ae 3) (eOp aT (eOp cI (ae 1) (ae 2)) (eC (.int 1))))) (aX (ae 2)) bj) (aO 2 (eOp aT (ae 2) (ae 3)))) [r0,some (.int t),some (.int acc),some (.int x)] S=.ok (.nx [r0,some (.int t),some (.int (acc+x)),some (.int x)]) S:=by simp[aA,sIf,bj,aO,tV,eOp,ae,eC,R.bind,R.of,hm,aT,mq,hx']
   obtain⟨h1,h2⟩:=zf ht S r0 l (acc+x) (some (.int x));rw[Yb,bG (r1:=[r0,some (.int t),some (.int acc),some (.int x)]) rfl st];exact⟨h1,h2⟩
def CH(h:xs.length<=16):u6 S [.tup (xs.map .int)]=some (.lst ((gu xs).map .int)):=by
 have e:nk S (.tup (xs.map .int))=some xs:=by simp[nk,bN,kJ]
 show(match nk S (.tup (xs.map .int)) with
  |some ns=>if ns.length<64 then some (D.lst ((gu ns).map .int)) else none
  |none=>none)=_
 rw[e]
 exact Y8 (by omega)
def rP{t:Int}(ht:cZ t)(hl:xs.length<=16)(S:Sto):bh [.tup (xs.map .int),.int t] S=.ok (ES (gg t 0 (gu xs))) S:=by
 obtain⟨h1,h2⟩:=zf ht S (some (.tup (xs.map .int))) (gu xs) 0 none;have hs:(eB u6 (af (ae 0) ak)) [some (.tup (xs.map .int)),some (.int t),some (.int 0),none] S=.ok (.lst ((gu xs).map .int)) S:=aZ (xs:=[.tup (xs.map .int)]) rfl (CH hl);refine aQ (ρ:=[some (.tup (xs.map .int)),some (.int t),none,none]) rfl ?_;cases ha:gg t 0 (gu xs) with
 |some a=>exact(aq (aC (d:=.int 0) rfl)).trans (fF ((et hs rfl).trans (h1 a ha)))
 |none=>
  obtain⟨ρ,e⟩:=h2 ha;exact(aq (aC (d:=.int 0) rfl)).trans ((aq ((et hs rfl).trans e)).trans (aE rfl))
def CI(hr:Row xs)(S:Sto):aW [.tup (xs.map .int)] S=.ok .non S:=by have e:=vq (S:=S) hr.okay;rw[hr.is]at e;exact kI (ρ:=[some (.tup (xs.map .int))]) rfl (cA (gW (br ((aw (xs:=[.tup (xs.map .int)]) rfl).trans e))))
def pI{n f:FM}{x:D}{p:Option Int}{c:Int}(S:Sto)(h1:n [x] S=.ok .non S)(h2:f [x,.int c] S=.ok (ES p) S):fnM 1 (aA (cH (az n (af (ae 0) ak))) (aX (eOp (kA false) (az f (af (ae 0) (af (eC (.int c)) ak))) (eC .non)))) [x] S=.ok (.bl p.isNone) S:=by
 cases p with
 |none=>simp[fnM,aA,cH,aX,eOp,az,eC,ae,af,ak,R.bind,R.of,h1,h2,ES,kA]
 |some a=>simp[fnM,aA,cH,aX,eOp,az,eC,ae,af,ak,R.bind,R.of,h1,h2,ES,kA]
def mx(g h:Int):Int:=if (if h<0 then -h else h)>g then (if h<0 then -h else h) else g
def gO(T:List (Int×Int))(k:Int):Option Int:=(T.find? λe=>decide (e.1=k)).map (·.2)
def HV{k c:Int}{e:Int×Int}:e∈pT T k c↔e=(k,c)\/(e∈T/\e.1≠k):=by
 unfold pT;cases ha:T.any (λe=>decide (e.1=k)) with
 |true=>
  rw[Y8 rfl,Yw];constructor
  .rintro⟨d,hd,rfl⟩;by_cases h:d.1=k
   .rw[Y8 h,h];exact .inl rfl
   .rw[Yi h];exact .inr ⟨hd,h⟩
  .rintro(rfl|⟨he,h⟩)
   .rw[Vz]at ha;obtain⟨d,hd,z⟩:=ha;have z:=Zn z
    exact⟨d,hd,by rw[Y8 z,z]⟩
   .exact⟨e,he,by rw[Yi h]⟩
 |false=>
  rw[Yi Yl,Yy,Yo];rw[Qx]at ha;constructor
  .rintro(h|h)
   .exact .inr ⟨h,λz=>ha e h (Yr z)⟩
   .exact .inl h
  .rintro(h|⟨h,_⟩)
   .exact .inr h
   .exact .inl h
def ET{k u:Int}(h:gO T k=some u):(k,u)∈T:=by
 unfold gO at h;cases hf:T.find? λe=>decide (e.1=k) with
 |none=>rw[hf]at h;cases h
 |some d=>
  rw[hf]at h;have h1:=List.find?_some hf
  have h1:d.1=k:=by simpa using h1
  have h2:=List.mem_of_find?_eq_some hf;cases h;rw[<- h1];exact h2
def mn(a b:Int):Int:=if b<a then b else a
def EU(T:List (Int×Int))(k:Int):ft (aV T) (.inl k)=(gO T k).map .int:=by
 unfold ft gO aV;rw[Me]
 have e:((λkv:KD×D=>decide (kv.1=.inl k))∘λe:Int×Int=>((.inl e.1:KD),D.int e.2))=λe=>decide (e.1=k):=by
  funext e;show decide ((Sum.inl e.1:KD)=.inl k)=decide (e.1=k);rw[Qq]
  exact⟨V3,λh=>by rw[h]⟩
 rw[e];cases T.find? λe=>decide (e.1=k)<;>rfl
def set_same{o:SO}(hm:S[m]?=some o):S.set m o=S:=by have hml:m<S.length:=(Y9.mp hm).1;have e:=(Y9.mp hm).2;rw[<- e];exact Qj hml
abbrev ssI:SM:=(aA (aO 6 (eOp aT (ae 3) (eOp cI (ae 5) (ae 1)))) (aA (aO 7 (eB uN (af (ae 4) (af (eB Bs (af (ae 6) ak)) ak)))) (gn dh (eB sM (af (ae 7) (af (fk (ae 2) (ae 6) (ae 7)) ak))) (ae 2) (ae 6))))
def CJ{x w g:Int}(hq:-1<=q/\q<=1)(hm:S[m]?=some (.dic (aV W)))(hz:W.length<3000)(r0 r6 r7:Option D):
  ssI [r0,some (.int x),some (.ref m),some (.int w),some (.int g),some (.int q),r6,r7] S=.ok (.nx [r0,some (.int x),some (.ref m),some (.int w),some (.int g),some (.int q),some (.int (w+q*x)),some (.int (mx g (w+q*x)))]) (S.set m (.dic (aV (pT W (w+q*x) (mn (mx g (w+q*x)) ((gO W (w+q*x)).getD (mx g (w+q*x)))))))):=by
 have hd:bS S (.ref m)=some (aV W):=by simp[bS,hm]
 have z:(3000:Nat)<=sizeLine:=by decide
 refine(aq (aC (av (aa rfl) (av (aa rfl) (aa rfl) (d8 (.inl ⟨by omega,by omega⟩))) rfl))).trans ?_
 refine(aq (aC (aZ (z:=.int (mx g (w+q*x))) (ag (aa rfl) (ag (aZ (ag (aa rfl) rfl) rfl) rfl)) rfl))).trans ?_
 have hg:fk (ae 2) (ae 6) (ae 7) [r0,some (.int x),some (.ref m),some (.int w),some (.int g),some (.int q),some (.int (w+q*x)),some (.int (mx g (w+q*x)))] S=.ok (.int ((gO W (w+q*x)).getD (mx g (w+q*x)))) S:=by
  have e:(ft (aV W) (.inl (w+q*x))).getD (.int (mx g (w+q*x)))=.int ((gO W (w+q*x)).getD (mx g (w+q*x))):=by rw[EU];cases gO W (w+q*x)<;>rfl
  rw[<- e];exact lK (aa rfl) hd (aa rfl) (aa rfl) hd rfl
 refine lL (aZ (z:=.int (mn (mx g (w+q*x)) ((gO W (w+q*x)).getD (mx g (w+q*x))))) (ag (aa rfl) (ag hg rfl)) rfl) (aa rfl) (aa rfl) ?_
 have h1:lu S (.ref m)=true:=by simp[lu,hm]
 unfold dh;rw[Y8 h1];unfold oN;simp only[hm,kx]
 rw[Y8 (by simp[aV];omega),vI]
abbrev ssO:SM:=(fj (bJ (eC (.tup (([(-1),(1)]:List Int).map .int))) bB) (.nm 5) (aA (aO 6 (eOp aT (ae 3) (eOp cI (ae 5) (ae 1)))) (aA (aO 7 (eB uN (af (ae 4) (af (eB Bs (af (ae 6) ak)) ak)))) (gn dh (eB sM (af (ae 7) (af (fk (ae 2) (ae 6) (ae 7)) ak))) (ae 2) (ae 6)))))
def CK(T:List (Int×Int)):(aV T).map PD.pairD=T.map λe=>D.tup [.int e.1,.int e.2]:=by unfold aV;rw[Zo];rfl
theorem wa:∀T:List (Int×Int),nq (aV T)=some (T.map (·.2))
 |[]=>rfl
 |e::T=>by show nq ((.inl e.1,.int e.2)::aV T)=_;unfold nq;rw[wa T];rfl
def JG{f:Sto->D->Option D}{x z:D}(h:a r S=.ok x S1)(hz:f S1 x=some z):eUn f a r S=.ok z S1:=by unfold eUn;rw[h,R.bind_ok,hz];rfl
abbrev lsB:SM:=(aO 1 (az cq (af (ae 1) (af (ae 2) ak))))
def sI(x w g q:Int)(W:List (Int×Int)):List (Int×Int):=pT W (w+q*x) (mn (mx g (w+q*x)) ((gO W (w+q*x)).getD (mx g (w+q*x))))
def sE(x:Int)(W:List (Int×Int))(e:Int×Int):List (Int×Int):=sI x e.1 e.2 1 (sI x e.1 e.2 (-1) W)
def sT(x:Int)(T:List (Int×Int)):List (Int×Int):=T.foldl (sE x) []
def sF(xs:List Int)(T:List (Int×Int)):List (Int×Int):=xs.foldl (λT x=>sT x T) T
def CL(x:Int)(W:List (Int×Int))(e:Int×Int):(sE x W e).length<=W.length+2:=by have h1:=tF W (e.1 + -1*x) (mn (mx e.2 (e.1 + -1*x)) ((gO W (e.1 + -1*x)).getD (mx e.2 (e.1 + -1*x))));have h2:=tF (sI x e.1 e.2 (-1) W) (e.1+1*x) (mn (mx e.2 (e.1+1*x)) ((gO (sI x e.1 e.2 (-1) W) (e.1+1*x)).getD (mx e.2 (e.1+1*x))));unfold sE sI at *;omega
theorem wb(x:Int):∀(T W:List (Int×Int)),(T.foldl (sE x) W).length<=W.length+2*T.length
 |[],W=>by simp
 |e::T,W=>by have h1:=CL x W e;have h2:=wb x T (sE x W e);rw[M7,Ym];omega
def HW(x:Int)(T:List (Int×Int)):(sT x T).length<=2*T.length:=by have:=wb x T [];simpa[sT] using this
def JH(T:List (Int×Int))(k c:Int):pT T k c≠[]:=λh=>by have:=(B9 T k c k).mpr (.inr rfl);rw[h]at this;obtain⟨e,he,_⟩:=this;cases he
def JI(x:Int)(h:T≠[]):sT x T≠[]:=by
 have:∀(T W:List (Int×Int)),(T≠[]\/W≠[])->T.foldl (sE x) W≠[]:=λT=>by
  induction T with
  |nil=>intro W h;exact h.resolve_left (λz=>z rfl)
  |cons e T ih=>intro W _;exact ih (sE x W e) (.inr (JH _ _ _))
 exact this T [] (.inl h)
def BdT(B:Int)(T:List (Int×Int)):Prop:=∀e∈T,-B<=e.1/\e.1<=B/\0<=e.2/\e.2<=B
def JJ{h B:Int}(hg:0<=g/\g<=B)(hh:-B<=h/\h<=B):0<=mx g h/\mx g h<=B:=by unfold mx;split<;>split<;>omega
def Fw{B x w:Int}(hW:BdT B W)(hk:-B<=w+q*x/\w+q*x<=B)(hg:0<=g/\g<=B):BdT B (sI x w g q W):=λe he=>by
 rcases HV.mp he with h|⟨h,_⟩
 .have h1:=JJ hg hk;rw[h];refine⟨hk.1,hk.2,?_⟩;show 0<=mn _ _/\mn _ _<=B;cases ho:gO W (w+q*x) with
  |none=>
   show 0<=mn _ _/\mn _ _<=B;unfold mn;simp only[Vv];split<;>exact h1
  |some u=>
   have hu:=hW _ (ET ho);unfold mn;simp only[Option.getD_some];split
   .exact⟨hu.2.2.1,hu.2.2.2⟩
   .exact h1
 .exact hW e h
theorem zg{B x:Int}(hx:0<=x):∀(T W:List (Int×Int)),BdT B T->BdT (B+x) W->BdT (B+x) (T.foldl (sE x) W)
 |[],W,_,hW=>hW
 |e::T,W,hT,hW=>by
  have h:=hT e (.head _);refine zg hx T (sE x W e) (λd hd=>hT d (.tail _ hd)) ?_
  exact Fw (Fw hW (by omega) (by omega)) (by omega) (by omega)
theorem Fx:∀(xs:List Int)(B:Int)(T:List (Int×Int)),(∀x∈xs,1<=x)->BdT B T->T≠[]->BdT (B+xs.sum) (sF xs T)/\sF xs T≠[]
 |[],B,T,_,h,hn=>⟨by rw[List.sum_nil,Int.add_zero];exact h,hn⟩
 |x::xs,B,T,hx,h,hn=>by
  have h1:=hx x (.head _)
  have h2:=zg (x:=x) (by omega) T [] h (λ_ z=>nomatch z)
  have h3:=Fx xs (B+x) (sT x T) (λy hy=>hx y (.tail _ hy)) h2 (JI x hn);rw[Zp,<- Int.add_assoc];exact h3
def HX{x w g:Int}(r0:Option D)(r5 r6 r7:Option D)(hm:S[m]?=some (.dic (aV W)))(hz:W.length+2<3000):∃a5 a6 a7,
  forL (.nm 5) ssI (KS.map .int) [r0,some (.int x),some (.ref m),some (.int w),some (.int g),r5,r6,r7] S=.ok (.nx [r0,some (.int x),some (.ref m),some (.int w),some (.int g),a5,a6,a7]) (S.set m (.dic (aV (sE x W (w,g))))):=by
 have hml:m<S.length:=(Y9.mp hm).1
 have e1:=CJ (S:=S) (x:=x) (w:=w) (g:=g) (q:=-1) (by decide) hm (by omega) r0 r6 r7
 have l1:=tF W (w + -1*x) (mn (mx g (w + -1*x)) ((gO W (w + -1*x)).getD (mx g (w + -1*x))))
 have e2:=CJ (S:=S.set m (.dic (aV (sI x w g (-1) W)))) (W:=sI x w g (-1) W) (x:=x) (w:=w) (g:=g) (q:=1) (by decide) (Z4 hml) (by unfold sI;omega) r0 (some (.int (w + -1*x))) (some (.int (mx g (w + -1*x))))
 rw[Wr]at e2;exact⟨_,_,_,(bG (r1:=[r0,some (.int x),some (.ref m),some (.int w),some (.int g),some (.int (-1)),r6,r7]) rfl e1).trans ((bG (r1:=[r0,some (.int x),some (.ref m),some (.int w),some (.int g),some (.int 1),some (.int (w + -1*x)),some (.int (mx g (w + -1*x)))]) rfl e2).trans rfl)⟩
theorem zh{x:Int}(r0:Option D):∀(T:List (Int×Int))(S:Sto)(W:List (Int×Int))(r3 r4 r5 r6 r7:Option D),S[m]?=some (.dic (aV W))->W.length+2*T.length<3000->
  ∃r3' r4' r5' r6' r7':Option D,forL (.tp [.nm 3,.nm 4]) ssO (T.map λe=>D.tup [.int e.1,.int e.2]) [r0,some (.int x),some (.ref m),r3,r4,r5,r6,r7] S=.ok (.nx [r0,some (.int x),some (.ref m),r3',r4',r5',r6',r7']) (S.set m (.dic (aV (T.foldl (sE x) W))))
 |[],S,W,r3,r4,r5,r6,r7,hm,_=>⟨r3,r4,r5,r6,r7,by rw[List.foldl_nil,set_same hm];rfl⟩
 |e::T,S,W,r3,r4,r5,r6,r7,hm,hz=>by
  rw[Ym]at hz;have hml:m<S.length:=(Y9.mp hm).1;have l1:=CL x W e
  obtain⟨a5,a6,a7,e1⟩:=HX (x:=x) (w:=e.1) (g:=e.2) r0 r5 r6 r7 hm (by omega)
  obtain⟨b3,b4,b5,b6,b7,e2⟩:=zh (x:=x) r0 T (S.set m (.dic (aV (sE x W e)))) (sE x W e) (some (.int e.1)) (some (.int e.2)) a5 a6 a7 (Z4 hml) (by omega)
  rw[Wr]at e2;refine⟨b3,b4,b5,b6,b7,?_⟩;rw[Yb];exact(bG (r1:=[r0,some (.int x),some (.ref m),some (.int e.1),some (.int e.2),r5,r6,r7]) rfl ((et (d:=tupI KS) rfl rfl).trans e1)).trans e2
def Av{x:Int}(hd:S[n]?=some (.dic (aV T)))(hT:T.length<=1200):
  cq [.ref n,.int x] S=.ok (.ref S.length) (S.set n (.fdic (aV T))++[.dic (aV (sT x T))]):=by
 have hnl:n<S.length:=(Y9.mp hd).1
 have hd':dAt (S++[SO.dic []]) n T:=.inl (by rw[Z0 hnl];exact hd)
 have e0:(S++[SO.dic []]).set n (.fdic (aV T))=S.set n (.fdic (aV T))++[.dic []]:=Ug _ _ hnl
 obtain⟨a3,a4,a5,a6,a7,e1⟩:=zh (x:=x) (some (.ref n)) (m:=S.length) T (S.set n (.fdic (aV T))++[.dic []]) [] none none none none none (by simp[aV]) (by simp;omega)
 have e2:(S.set n (.fdic (aV T))++[SO.dic []]).set S.length (.dic (aV (sT x T)))=S.set n (.fdic (aV T))++[.dic (aV (sT x T))]:=by rw[U3 _ _ (by simp)];simp
 have e1':forL (.tp [.nm 3,.nm 4]) ssO (T.map λe=>D.tup [.int e.1,.int e.2]) [some (.ref n),some (.int x),some (.ref S.length),none,none,none,none,none] (S.set n (.fdic (aV T))++[.dic []])=.ok (.nx [some (.ref n),some (.int x),some (.ref S.length),a3,a4,a5,a6,a7]) (S.set n (.fdic (aV T))++[.dic (aV (sT x T))]):=e1.trans (Q8 _ e2);have hi:=vN (ρ:=[some (.ref n),some (.int x),some (.ref S.length),none,none,none,none,none]) (i:=0) rfl hd';rw[CK,e0]at hi;exact aQ (ρ:=[some (.ref n),some (.int x),none,none,none,none,none,none]) rfl ((aq (S1:=S++[.dic []]) (aC rfl)).trans ((aq (r1:=[some (.ref n),some (.int x),some (.ref S.length),a3,a4,a5,a6,a7]) ((iV hi).trans e1')).trans (aE (aa rfl))))
theorem CM{S0:Sto}(r0:Option D):∀(xs:List Int)(S:Sto)(n:Nat)(T:List (Int×Int))(r2:Option D),S[n]?=some (.dic (aV T))->T.length*2^xs.length<=1024->S0.length<=n->Pre S0 S->
  ∃(S':Sto)(n':Nat)(r2':Option D),forL (.nm 2) lsB (xs.map .int) [r0,some (.ref n),r2] S=.ok (.nx [r0,some (.ref n'),r2']) S'/\S'[n']?=some (.dic (aV (sF xs T)))/\Pre S0 S'
 |[],S,n,T,r2,hd,_,_,hp=>⟨S,n,r2,rfl,hd,hp⟩
 |x::xs,S,n,T,r2,hd,hz,hn,hp=>by
  have hl:=HW x T;rw[Ym,Uf]at hz
  have hz1:T.length<=1024:=Yv (Nat.le_mul_of_pos_right _ (Nat.mul_pos (Nat.pow_pos (by decide)) (by decide))) hz
  have e1:=Av (x:=x) hd (by omega)
  have hz2:(sT x T).length*2^xs.length<=1024:=Yv (Vc _ hl) (by rw[Vl 2,Nat.mul_assoc,Vl 2];exact hz)
  obtain⟨S2,n2,a2,e2,d2,p2⟩:=CM (S0:=S0) r0 xs (S.set n (.fdic (aV T))++[SO.dic (aV (sT x T))]) S.length (sT x T) (some (.int x)) (by simp) hz2 hp.len ((hp.set hn _).trans (Pre.app _ _))
  exact⟨S2,n2,a2,(bG (r1:=[r0,some (.ref n),some (.int x)]) rfl (aC ((aw (ag (aa rfl) (ag (aa rfl) rfl))).trans e1))).trans e2,d2,p2⟩
theorem wc:∀(l:List Int)(n:Int),di n l=n\/di n l∈l
 |[],n=>.inl rfl
 |x::l,n=>by
  have h:=wc l (if x<n then x else n)
  have e:di n (x::l)=di (if x<n then x else n) l:=rfl
  rw[e];by_cases hx:x<n
  .rw[Y8 hx]at h ⊢;rcases h with h|h
   .rw[h];exact .inr (.head _)
   .exact .inr (.tail _ h)
  .rw[Yi hx]at h ⊢;rcases h with h|h
   .exact .inl h
   .exact .inr (.tail _ h)
def Aw(h10:xs.length<=10)(hr:Row xs):∃m:Int,(0<=m/\m<=xs.sum)/\∀S,∃S',F_least_swing_n [tupI xs] S=.ok (.int m) S'/\Pre S S':=by
 obtain⟨hb,hne⟩:=Fx xs 0 [(0,0)] hr.1 (λe he=>by rw[Yo.mp he];decide) (by simp)
 rw[Int.zero_add]at hb;obtain⟨e,T,hT⟩:=K3 hne;refine⟨di e.2 (T.map (·.2)),?_,λS=>?_⟩
 .have:di e.2 (T.map (·.2))∈(e::T).map (·.2):=by
   rcases wc (T.map (·.2)) e.2 with h|h
   .rw[h];exact .head _
   .exact .tail _ h
  obtain⟨d,hd,hq⟩:=Yw.mp this;rw[<- hT]at hd;have:=hb d hd;rw[<- hq];exact⟨this.2.2.1,this.2.2.2⟩
 .have hp:1*2^xs.length<=1024:=by rw[Nat.one_mul];exact Zw (by decide) h10
  obtain⟨S',n,a2,e1,hd,hpre⟩:=CM (S0:=S) (some (tupI xs)) xs (S++[.dic (aV [(0,0)])]) S.length [(0,0)] none (by simp) hp (Yd _) (Pre.app _ _)
  have hv:ve S' (.ref n)=some (.int (di e.2 (T.map (·.2)))):=by
   unfold ve
   have:bS S' (.ref n)=some (aV (sF xs [(0,0)])):=by simp[bS,hd]
   simp only[this,wa,hT,Yb]
  have e0:jn [((eC (.int 0)),(eC (.int 0)))] [some (tupI xs),none,none] S=.ok (.ref S.length) (S++[.dic (aV [(0,0)])]):=rfl;exact⟨S',aQ (ρ:=[some (tupI xs),none,none]) rfl ((aq (bW ((aw (ag (aa rfl) rfl)).trans (gX hr S)))).trans ((aq (aC e0)).trans ((aq ((et (aa rfl) rfl).trans e1)).trans (aE (JG (aa rfl) hv))))),hpre⟩
theorem om:∀row:List Int,(∀x∈row,okN x)->0<=row.sum/\row.sum<=1000000000000000*(row.length:Int)
 |[],_=>by simp
 |x::row,h=>by have h1:=h x (.head _);have h2:=om row λy hy=>h y (.tail _ hy);have a1:=h1.1;have a2:=h1.2;rw[Zp,Ym];omega
def JK(h0:-15<=s)(h1:s<=15):0<=s*s/\s*s<=225:=by
 have:∀n:Nat,n<=15->(n:Int)*n<=225/\0<=(n:Int)*n:=by decide
 by_cases hs:0<=s
 .have:=this s.toNat (by omega)
  rw[show((s.toNat:Nat):Int)=s by omega]at this
  exact⟨this.2,this.1⟩
 .have:=this (-s).toNat (by omega)
  rw[show(((-s).toNat:Nat):Int) = -s by omega,Int.neg_mul_neg]at this
  exact⟨this.2,this.1⟩
def CN{row:List Int}(g:Gr b S S)(h6:row.length<=10)(hb:∀x∈row,okN x):∃(v:Int)(S':Sto),ei [.ref b,tupI row] S=.ok (.int v) S'/\Gr b S S'/\-100000000000000000<=v/\v<=100000000000000000:=by
 have hsum:=om row hb
 obtain⟨q,S1,e1,a0,a1,g1⟩:=iU g (many:=30) (by decide) (by decide)
 obtain⟨j,S2,e2,b0,b1,g2⟩:=iU g1.self (many:=9) (by decide) (by decide)
 obtain⟨n,rfl⟩:∃n:Nat,j=n:=⟨j.toNat,by omega⟩
 generalize hs:q-15=s
 have ss:cZ s:=⟨by omega,by omega⟩
 have z1:(1:Nat)<=sizeLine:=by decide
 have z9:(9:Nat)<=sizeLine:=by decide
 have z100:(100:Nat)<=sizeLine:=by decide
 obtain⟨x0,hx0,hx1⟩:∃x0:Int,(∀T:Sto,oIx T (.tup (row.map .int++[.int 1])) (.int 0)=some (.int x0))/\1<=x0/\x0<1000000000000000:=by
  cases row with
  |nil=>exact⟨1,λT=>rfl,by decide⟩
  |cons x row=>exact⟨x,λT=>oM (xs:=D.int x::(row.map D.int++[D.int 1])) (i:=0) (Nat.zero_lt_succ _),hb x (.head _)⟩
 have hl:(ik (af (eC (.int 0)) (af (ae 2) (af (eOp g9 (eC (.int 0)) (ae 2)) (af (eOp g9 (ae 2) (eC (.int 2))) (af (ae 3) (af (eOp aT (eOp aT (ae 2) (eC (.int 1))) (eOp cI (ae 3) (ae 3))) (af (ae 3) (af (eOp g9 (ae 2) (eOp cI (eC (.int 2)) (eOp oIx (eOp aT (ae 1) (g7 (af (eC (.int 1)) ak))) (eC (.int 0))))) (af (ae 3) ak)))))))))) [some (.ref b),some (tupI row),some (.int row.sum),some (.int s),none] S1=.ok (.lst ([0,row.sum,0-row.sum,row.sum-2,s,row.sum+1+s*s,s,row.sum-2*x0,s].map .int)) S1:=by
  have a1:∀T:Sto,aT T (tupI row) (.tup [.int 1])=some (.tup (row.map .int++[.int 1])):=λT=>tm (by simp;omega)
  have m1:∀T:Sto,cI T (.int s) (.int s)=some (.int (s*s)):=λT=>d8 (.inl ss)
  have m2:∀(T:Sto)(y:Int),cI T (.int 2) (.int y)=some (.int (2*y)):=λT y=>d8 (.inl (by decide))
  exact lI (ag rfl (ag (aa rfl) (ag (av rfl (aa rfl) rfl) (ag (av (aa rfl) rfl rfl) (ag (aa rfl) (ag (av (av (aa rfl) rfl rfl) (av (aa rfl) (aa rfl) (m1 _)) rfl) (ag (aa rfl) (ag (av (aa rfl) (av rfl (av (av (aa rfl) (iW (xs:=[.int 1]) rfl z1) (a1 _)) rfl (hx0 _)) (m2 _ _)) rfl) (ag (aa rfl) rfl))))))))) z9
 generalize hL:([0,row.sum,0-row.sum,row.sum-2,s,row.sum+1+s*s,s,row.sum-2*x0,s]:List Int)=L at hl
 have hLn:n<L.length:=by rw[<- hL];show n<9;omega
 have hall:∀y∈L,-100000000000000000<=y/\y<=100000000000000000:=by
  rw[<- hL]
  have hss:0<=s*s/\s*s<=225:=JK (by omega) (by omega)
  generalize s*s=ss2 at hss;intro y hy;simp only[Yc,Yx,Zl]at hy;rcases hy with h|h|h|h|h|h|h|h|h<;>omega
 refine⟨L[n],S2,?_,g1.trans g2,hall _ (M4 hLn)⟩
 have hix:oIx S2 (.lst (L.map .int)) (.int (n:Int))=some (.int L[n]):=by
  have:=oM (xs:=L.map D.int) (i:=n) (by rw[Yh];exact hLn)
  rw[List.getElem_map]at this;exact this
 have t1:eOp g9 (az aY (af (ae 0) (af (eC (.int 30)) ak))) (eC (.int 15)) [some (.ref b),some (tupI row),some (.int row.sum),none,none] S=.ok (.int s) S1:=by rw[<- hs];exact av ((aw (ag (aa rfl) (ag rfl rfl))).trans e1) rfl rfl
 exact aQ (ρ:=[some (.ref b),some (tupI row),none,none,none]) rfl ((aq (aC (aZ (ag (aa rfl) rfl) Hr))).trans ((aq (aC t1)).trans ((aq (aC hl)).trans (aE (av (aa rfl) ((aw (ag (aa rfl) (ag rfl rfl))).trans e2) hix)))))
def nmI(v:Int):Str:=Str.ofString (toString v)
def i3(h:v.natAbs<1000000000000000000000000000000):dO S [.int v]=some (.str (nmI v)):=by
 have hl:v.natAbs.log2<1920:=by
  by_cases h0:v.natAbs=0
  .rw[h0];decide
  .rw[Nat.log2_lt h0];exact M1 h Y5
 exact Y8 hl
def EV(n:Nat):nmI (n:Int)=nm n:=rfl
def EW(h:1<=n):(nmI (-(n:Int))).cps.toList=45::(nm n).cps.toList:=by
 obtain⟨m,rfl⟩:∃m,n=m+1:=⟨n-1,by omega⟩
 have e:toString (-((m+1:Nat):Int)) = "-" ++ toString ((m+1:Nat)):=rfl
 have e2:nm (m+1)=Str.ofString (toString (m+1)):=rfl;unfold nmI;rw[e,e2,Str.ofString_eq_toList,Str.ofString_eq_toList];simp
def Ax(v:Int):(∃n:Nat,v=n) \/ ∃n:Nat,1<=n/\v = -(n:Int):=by
 by_cases h:0<=v
 .exact .inl ⟨v.toNat,by omega⟩
 .exact .inr ⟨(-v).toNat,by omega,by omega⟩
def tR(h:v.natAbs<1000000000000000000000000000000):jb (nmI v).cps.toList=true/\intText? (nmI v)=some v/\(nmI v).length<=31/\32∉(nmI v).cps.toList:=by
 rcases Ax v with⟨n,rfl⟩|⟨n,hn,rfl⟩
 .rw[Uw]at h;rw[EV]
  have hl:=gz (n:=n) (k:=29) (by omega)
  have hb:32∉(nm n).cps.toList:=λz=>by have:=kK n 32 z;omega
  by_cases h0:n=0
  .subst h0
   exact⟨by decide +kernel,by decide +kernel,by omega,hb⟩
  .have h1:1<=n:=by omega
   obtain⟨r1,r2⟩:=kS (tQ h1 h);rw[CD h1 h]at r1
   exact⟨tQ h1 h,r1,by omega,hb⟩
 .rw[Int.natAbs_neg,Uw]at h
  have hl:=gz (n:=n) (k:=29) (by omega)
  have hc:=EW hn;obtain⟨c,r,e,c1,c2⟩:=yN hn;have hlc:=bg (nm n);refine⟨?_,?_,?_,λz=>?_⟩
  .rw[hc,e]
   show(if c=48 then decide (45::c::r=[48]) else decide ((c::r).length<=30)&&(c::r).all nA)=true
   rw[Yi (by omega),Z9]
   refine⟨Yr (by rw[<- e,<- hlc];omega),Zy.mpr λd hd=>Yr (kK n d (by rw[e];exact hd))⟩
  .have:=intText_neg (x:=nmI (-(n:Int))) hc (kK n) (by rw[e];simp) (by rw[bg,hc,Ym,<- hlc];omega)
   rw[this,B5]
  .rw[bg,hc,Ym,<- hlc];omega
  .rw[hc]at z;rcases Yc.mp z with q|q
   .cases q
   .have:=kK n 32 q;omega
def Dq.pre{e:Nat}{hs:List (List Int)}{row:List Int}(d:Dq S b κ e δ hs row)(p:Pre S S1):Dq S1 b κ e δ hs row:=
 ⟨by obtain⟨n,h⟩:=d.bx;exact⟨n,(p.old b (bz h)).trans h⟩,(p.old κ (bz d.kp)).trans d.kp,(p.old e (bz d.er)).trans d.er,(p.old δ (bz d.dk)).trans d.dk,d.n1,d.n2,d.n3,d.n4,d.n5,d.n6⟩
def rQ{ws:List Str}(hl:x.length<=900)(hs:Txt.split x " " = ws)(hw:∀w∈ws,w.length<=1000)(hk:qj ws=true)(S:Sto):bp [.str x] S=.ok (.lst (ws.map .str)) S:=by
 have hm:=pH (x:=x) hl S;have hi:=rN ws hw S;rw[hs]at hm;rw[hk]at hi
 exact aQ (ρ:=[some (.str x),none]) rfl ((aq ((cA (gW (b:=true) (br (aZ (ag (aa rfl) (ag rfl rfl)) (by simp[kr,tyD,hJ]))))).trans rfl)).trans ((aq (aC ((gf (aa rfl) (ag rfl rfl)).trans hm))).trans ((aq ((cA (gW (b:=true) (br ((aw (ag (aa rfl) rfl)).trans hi)))).trans rfl)).trans (aE (aa rfl)))))
def jS(x y:Str):(x++y).cps.toList=x.cps.toList++y.cps.toList:=by show(x.cps++y.cps).toList=_;rw[Vg]
def ln2(a:Str)(v:Int):Str:=a++((" ":Str)++nmI v)
def tS(a:Str)(v:Int):(ln2 a v).cps.toList=a.cps.toList++32::(nmI v).cps.toList:=by unfold ln2;rw[jS,jS,jE];rfl
def CO(a:Str)(v:Int):ln2 a v=Txt.join (" ":Str) [a,nmI v]:=gc (by rw[tS,pj,gA];rfl)
def zi:∀a∈xI,32∉a.cps.toList/\a.length<=5/\decide (a=("put":Str))=false/\decide (a=("take":Str))=false/\decide (a=("back":Str))=false:=by decide +kernel
def EX{a:Str}(ha:a∈xI)(hv:v.natAbs<1000000000000000000000000000000)(S:Sto):bp [.str (ln2 a v)] S=.ok (.lst [.str a,.str (nmI v)]) S:=by
 obtain⟨n1,n2,n3,n4⟩:=tR hv;obtain⟨a1,a2,a3,_⟩:=zi a ha;refine rQ (ws:=[a,nmI v]) ?_ ?_ ?_ ?_ S
 .have:=bg a;have:=bg (nmI v);rw[bg,tS,Yq,Ym];omega
 .rw[CO]
  refine kL (by simp) λw hw=>?_
  simp only[Yc,Yx,Zl]at hw;rcases hw with rfl|rfl
  .exact a1
  .exact n4
 .intro w hw;simp only[Yc,Yx,Zl]at hw;rcases hw with rfl|rfl<;>omega
 .rw[qj,n1,Ve,Yi (V2 a3)];exact Yr ha
abbrev alone:List Str:=["row","even","swing","every"]
def wd:∀w∈alone,32∉w.cps.toList/\w.length<=5/\qj [w]=true/\decide (w=("put":Str))=false/\decide (w=("take":Str))=false/\decide (w=("back":Str))=false:=by decide +kernel
def EY(h:w∈alone)(S:Sto):bp [.str w] S=.ok (.lst [.str w]) S:=by
 obtain⟨h1,h2,h3,_⟩:=wd w h
 exact rQ (ws:=[w]) (by omega) (EI h1) (λu hu=>by rw[Yo.mp hu];omega) h3 S
section
variable{S S1:Sto}{b κ e δ:Nat}{hs:List (List Int)}{row:List Int}(d:Dq S b κ e δ hs row)
include d
def CP(r:Rho)(hr:r[0]?=some (some (.ref δ))):kG "Keeper" "row" eZ (iw "Desk" "keeper" (ae 0)) ak r S=.ok (tI row) S:=
 (pE (kP (aa hr) (bX d.dk) (JD _)) (bX d.kp) (Kq _ _) rfl).trans (aQ (ρ:=[some (.ref κ)]) rfl (aE (kP (aa rfl) (bX d.kp) (EC _ _))))
def EZ{a:Str}(ha:a∈xI)(hv:v.natAbs<1000000000000000000000000000000){r:D}(hd:KTD.datumAt a cx=some (some nf))(hf:nf.2 [tI row,.int v] S=.ok r S1):bP [.ref δ,.str (ln2 a v)] S=.ok r S1:=by
 obtain⟨_,_,t1,t2,t3⟩:=zi a ha;obtain⟨_,n2,n3,_⟩:=tR hv;have ht:∀(k:Str)(r3:Option D),tV (eOp fO (eOp oIx (ae 2) (eC (.int 0))) (eC (.str k))) [some (.ref δ),some (.str (ln2 a v)),some (.lst [.str a,.str (nmI v)]),r3] S=.ok (decide (a=k)) S:=λk r3=>br (av (av (aa rfl) rfl rfl) rfl rfl);have t1':=ht "put" none
 have t2':=ht "take" none
 have t3':=ht "back" none
 rw[t1]at t1';rw[t2]at t2';rw[t3]at t3';refine aQ (ρ:=[some (.ref δ),some (.str (ln2 a v)),none,none]) rfl ?_;refine(aq (aC ((aw (ag (aa rfl) rfl)).trans (EX ha hv S)))).trans ?_;refine(aq ((cA t1').trans rfl)).trans ?_;refine(aq ((cA t2').trans rfl)).trans ?_;refine(aq ((cA t3').trans rfl)).trans ?_;refine(aq (aC (CP d _ rfl))).trans ?_;refine(aq ((cA (br (av (aZ (ag (aa rfl) rfl) rfl) rfl rfl))).trans rfl)).trans ?_
 exact aE ((vZ (av (aa rfl) rfl rfl) hd (ag (aa rfl) (ag (aZ (ag (av (aa rfl) rfl rfl) rfl) (n9 (by omega) n2)) rfl))).trans hf)
def zj(h:w∈alone){r:D}(hd:KTD.datumAt w eK=some (some nf))(hf:nf.2 [tI row] S=.ok r S1):bP [.ref δ,.str w] S=.ok r S1:=by
 obtain⟨_,_,_,t1,t2,t3⟩:=wd w h;have ht:∀(k:Str)(r3:Option D),tV (eOp fO (eOp oIx (ae 2) (eC (.int 0))) (eC (.str k))) [some (.ref δ),some (.str w),some (.lst [.str w]),r3] S=.ok (decide (w=k)) S:=λk r3=>br (av (av (aa rfl) rfl rfl) rfl rfl);have t1':=ht "put" none
 have t2':=ht "take" none
 have t3':=ht "back" none
 rw[t1]at t1';rw[t2]at t2';rw[t3]at t3';refine aQ (ρ:=[some (.ref δ),some (.str w),none,none]) rfl ?_;refine(aq (aC ((aw (ag (aa rfl) rfl)).trans (EY h S)))).trans ?_;refine(aq ((cA t1').trans rfl)).trans ?_;refine(aq ((cA t2').trans rfl)).trans ?_;refine(aq ((cA t3').trans rfl)).trans ?_;refine(aq (aC (CP d _ rfl))).trans ?_;exact fF ((jC (br (av (aZ (ag (aa rfl) rfl) rfl) rfl rfl))).trans (aE ((vZ (av (aa rfl) rfl rfl) hd (ag (aa rfl) rfl)).trans hf)))
def tT{l:Str}{r:D}(h:bP [.ref δ,.str l] S=.ok r S1):cb [.ref δ,.str l] S=.ok r S1:=
 aQ (ρ:=[some (.ref δ),some (.str l),none]) rfl (aE ((pE (aa rfl) (bX d.dk) (JE _) (ag (aa rfl) rfl)).trans h))
end
theorem CQ:∀xs:List Int,Wo KS xs xs.sum
 |[]=>rfl
 |x::xs=>⟨1,by decide,by
  rw[Zp,show x+xs.sum-x*1=xs.sum by omega]
  exact CQ xs⟩
theorem zk:∀{xs:List Int},(∀x∈xs,1<=x)->0<=xs.sum
 |[],_=>Mb _
 |x::xs,h=>by have h1:=h x (.head _);have h2:=zk λy hy=>h y (.tail _ hy);rw[Zp];omega
def JL(hl:ys.length=xs.length)(hx:∀x∈xs,okN x)(hy:∀y∈ys,-1<=y/\y<=1)(h16:xs.length<=16):∃ps,PsOk ps/\(∀p∈ps,p.1<1000000000000000)/\xsO ps=xs/\ysO ps=ys:=by
 refine⟨(xs.zip ys).map λe=>(e.1.toNat,e.2),⟨λp hp=>?_,by rw[Yh,List.length_zip];omega⟩,λp hp=>?_,?_,?_⟩
 .obtain⟨e,he,rfl⟩:=Yw.mp hp;have h1:=hx _ (Wk he).1;have h2:=hy _ (Wk he).2
  exact⟨by have:=h1.1;show 1<=e.1.toNat;omega,by have:=h1.2;show e.1.toNat<_;omega,h2⟩
 .obtain⟨e,he,rfl⟩:=Yw.mp hp;have h1:=hx _ (Wk he).1;have:=h1.2;show e.1.toNat<_;omega
 .rw[xsO,Zo]
  have e:(xs.zip ys).map ((λp:Nat×Int=>(p.1:Int))∘λe:Int×Int=>(e.1.toNat,e.2))=(xs.zip ys).map Prod.fst:=Q0 λe he=>by have h1:=(hx _ (Wk he).1).1;show((e.1.toNat:Nat):Int)=e.1;omega
  rw[e,List.map_fst_zip (by omega)]
 .rw[ysO,Zo]
  exact(Q0 λe he=>rfl).trans (List.map_snd_zip (by omega))
def Giv(F:FM)(ds:List D)(d:D):Prop:=∀S,∃S',F ds S=.ok d S'/\Pre S S'
def Giv.nx{F:FM}{ds:List D}{d:D}(h:Giv F ds d):Giv (fNx F) ds d:=λS=>by
 obtain⟨S',e,p⟩:=h S
 exact⟨S',by unfold fNx;rw[e];rfl,p⟩
def xK{α:Type}{F:FM}{ds:List D}{enc:α->D}{P:α->Prop}(hu:∀a b,P a->P b->a=b)(h:∀S,∃(S':Sto)(o:α),F ds S=.ok (enc o) S'/\Pre S S'/\P o):∃o,P o/\Giv F ds (enc o):=by obtain⟨_,o,_,_,ho⟩:=h [];refine⟨o,ho,λS=>?_⟩;obtain⟨S',o',e,p,ho'⟩:=h S;rw[hu o' o ho' ho]at e;exact⟨S',e,p⟩
section
variable{xs:List Int}(h10:xs.length<=10)(hb:∀x∈xs,okN x)
include h10 hb
def E2:Row xs:=⟨λx hx=>(hb x hx).1,by omega⟩
def pJ{u:Int}(h:Wo KS xs u):u.natAbs<1000000000000000000000000000000:=by
 have h1:=Fu kdS (λx hx=>(hb x hx).1) h;have h2:=om xs hb
 have h3:(xs.length:Int)<=10:=by omega
 omega
def rR(v:Int):∃o,HG xs v o/\Giv F_above_n [tupI xs,.int v] (optI o):=xK (P:=HG xs v) (λa b ha hb=>by
 match a,b,ha,hb with
 |none,none,_,_=>rfl
 |none,some u,h1,h2=>exact absurd (h1 u h2.1) (by have:=h2.2.1;omega)
 |some u,none,h1,h2=>exact absurd (h2 u h1.1) (by have:=h1.2.1;omega)
 |some u,some w,h1,h2=>
  have a1:=h1.2.2 w h2.1 h2.2.1;have a2:=h2.2.2 u h1.1 h1.2.1
  rw[show u=w by omega]) λS=>Cq h10 (E2 h10 hb) v S
def Ay(v:Int):∃o,HH xs v o/\Giv F_below_n [tupI xs,.int v] (optI o):=xK (P:=HH xs v) (λa b ha hb=>by
 match a,b,ha,hb with
 |none,none,_,_=>rfl
 |none,some u,h1,h2=>exact absurd (h1 u h2.1) (by have:=h2.2.1;omega)
 |some u,none,h1,h2=>exact absurd (h2 u h1.1) (by have:=h1.2.1;omega)
 |some u,some w,h1,h2=>
  have a1:=h1.2.2 w h2.1 h2.2.1;have a2:=h2.2.2 u h1.1 h1.2.1
  rw[show u=w by omega]) λS=>Cs h10 (E2 h10 hb) v S
def Az(v:Int):∃o,IsF xs v o/\Giv F_first_met_n [tupI xs,.int v] (firstD o):=xK (P:=IsF xs v) (λ_ _=>IsF.uniq) λS=>Cm h10 (E2 h10 hb) v S
def xN:∃u:Int,u.natAbs<1000000000000000000000000000000/\Giv F_unevenness_n [tupI xs] (.int u):=by
 obtain⟨o,ho,hg⟩:=rR h10 hb 0
 match o,ho,hg with
 |none,ho,_=>exact absurd (ho _ (CQ xs)) (by have:=zk (xs:=xs) λx hx=>(hb x hx).1;omega)
 |some u,ho,hg=>
  refine⟨u,pJ h10 hb ho.1,λS=>?_⟩;obtain⟨S',e,p⟩:=hg S;exact⟨S',aQ (ρ:=[some (tupI xs)]) rfl (aE ((aw (ag (aa rfl) (ag rfl rfl))).trans e)),p⟩
theorem xP(v:Int):(Ak xs v).natAbs<1000000000000000000000000000000:=by
 have l1:(wsL KS (xs.take (xs.length/2))).length<=32:=by
  rw[tK]
  exact Yv (Zw (by decide) (show(xs.take (xs.length/2)).length<=5 by rw[Ql];omega)) (by decide)
 have l2:(wsL KS (xs.drop (xs.length/2))).length<=32:=by
  rw[tK]
  exact Yv (Zw (by decide) (show(xs.drop (xs.length/2)).length<=5 by rw[Q9];omega)) (by decide)
 have:=Ck (h:=λx=>(((wsL KS (xs.drop (xs.length/2))).filter λy=>decide (y=v-x)).length:Int)) (c:=32) (λx=>by
  have:=List.length_filter_le (λy=>decide (y=v-x)) (wsL KS (xs.drop (xs.length/2)))
  omega) (wsL KS (xs.take (xs.length/2)))
 have h2:(wsL KS (xs.take (xs.length/2))).length*32<=1024:=by omega
 unfold Ak;omega
def CS(h:IsF xs v (some p)):∃t:Str,∀S,ef [tupI xs,tupI p] S=.ok (.str t) S:=by
 have hp:=(aU xs.length p).mp h.all
 obtain⟨ps,h1,h2,h3,h4⟩:=JL hp.1 hb (λy hy=>by
  have:=hp.2 y hy;simp only[KS,Yc,Yx,Zl]at this
  omega) (by omega)
 refine⟨Txt.join " " (wsO ps),λS=>?_⟩
 have:=ER h1 S;rw[h3,h4]at this;exact this
end
def tC(w:Int):Str:=if 0<w then "yes" else "no"
def tO:Option Int->Str
 |none=>"none"
 |some u=>nmI u
def or_none{o:Option Int}(h:∀u,o=some u->u.natAbs<1000000000000000000000000000000)(S:Sto):ck [optI o] S=.ok (.str (tO o)) S:=by
 match o,h with
 |none,_=>exact aQ (ρ:=[some (optI none)]) rfl (aE ((o8 (br (av (aa rfl) rfl rfl))).trans rfl))
 |some u,h=>exact aQ (ρ:=[some (optI (some u))]) rfl (aE ((lH (br (av (aa rfl) rfl rfl))).trans (aZ (ag (aa rfl) rfl) (i3 (h u rfl)))))
def tU{o:Option Int}(h:∀u,o=some u->u.natAbs<1000000000000000000000000000000):(tO o).length<=31:=by
 match o,h with
 |none,_=>decide
 |some u,h=>exact(tR (h u rfl)).2.2.1
theorem we:∀(l:List Int)(acc:Int),0<=acc->(∀x∈l,1<=x)->gg 1 acc l=none->gg 2 acc l=none
 |[],_,_,_,_=>rfl
 |x::l,acc,h0,hl,h=>by
  have hx:=hl x (.head _);unfold gg at h ⊢;by_cases hc:x>1*acc+1
  .rw[Y8 hc]at h;cases h
  .rw[Yi hc]at h
   rw[Yi (by omega)]
   exact we l (acc+x) (by omega) (λy hy=>hl y (.tail _ hy)) h
def tY(p q:Bool):Str:=if p=true then (if q=true then "signs" else "parts") else "no"
def ShOk(xs:List Int)(sT:Str):Option (List Int)->Prop
 |none=>sT = "none"
 |some c=>∀S,ef [tupI xs,tupI c] S=.ok (.str sT) S
structure Ans(xs:List Int)(v w u g:Int)(o:Option (List Int))(oa ob:Option Int)(sT:Str)(p q:Bool):Prop where
 way:Giv F_many_met_n [tupI xs,.int v] (.int w)
 ws:w.natAbs<1000000000000000000000000000000
 fst:Giv F_first_met_n [tupI xs,.int v] (firstD o)
 shw:ShOk xs sT o
 be:Giv F_below_n [tupI xs,.int v] (optI ob)
 bs:∀z,ob=some z->z.natAbs<1000000000000000000000000000000
 ab:Giv F_above_n [tupI xs,.int v] (optI oa)
 as:∀z,oa=some z->z.natAbs<1000000000000000000000000000000
 un:Giv F_unevenness_n [tupI xs] (.int u)
 us:u.natAbs<1000000000000000000000000000000
 sw:Giv F_least_swing_n [tupI xs] (.int g)
 gs:g.natAbs<1000000000000000000000000000000
 ep:∀S,F_every_by_parts_n [tupI xs] S=.ok (.bl p) S
 eq:∀S,F_every_by_signs_n [tupI xs] S=.ok (.bl q) S
 pq:q=true->p=true
def HY(h10:xs.length<=10)(hb:∀x∈xs,okN x)(v:Int):∃w u g o oa ob sT p q,Ans xs v w u g o oa ob sT p q:=by
 have hr:=E2 h10 hb;obtain⟨o,ho,fo⟩:=Az h10 hb v;obtain⟨oa,ha,fa⟩:=rR h10 hb v;obtain⟨ob,hbe,fb⟩:=Ay h10 hb v;obtain⟨u,hu,fu⟩:=xN h10 hb;obtain⟨g,hg,fg⟩:=Aw h10 hr;have hsum:=om xs hb
 have h3:(xs.length:Int)<=10:=by omega
 obtain⟨sT,hs⟩:∃sT:Str,ShOk xs sT o:=by
  match o,ho with
  |none,_=>exact⟨"none",rfl⟩
  |some c,ho=>exact CS h10 hb ho
 have e1:=λS=>pI (c:=2) (x:=tupI xs) S (CI hr S) (rP (t:=2) (by decide) hr.2 S)
 have e2:=λS=>pI (c:=1) (x:=tupI xs) S (CI hr S) (rP (t:=1) (by decide) hr.2 S)
 refine⟨Ak xs v,u,g,o,oa,ob,sT,_,_,⟨λS=>HJ h10 hr v S,xP h10 hb v,fo,hs,fb,λz hz=>?_,fa,λz hz=>?_,fu,hu,fg,by omega,e1,e2,λhq=>?_⟩⟩
 .subst hz;exact pJ h10 hb hbe.1
 .subst hz;exact pJ h10 hb ha.1
 .rw[Option.isNone_iff_eq_none]at hq ⊢
  exact we _ 0 (by decide) (λx hx=>hr.1 x ((fq xs).mem_iff.mp hx)) hq
section
variable{xs:List Int}{v w u g:Int}{o:Option (List Int)}{oa ob:Option Int}{sT:Str}{p q:Bool}(a:Ans xs v w u g o oa ob sT p q)
include a
def Ans.comes:Giv cP [tupI xs,.int v] (.str (tC w)):=λS=>by
 obtain⟨S',e,h⟩:=a.way S;refine⟨S',?_,h⟩;have t:tV (eOp oGt (az F_many_met_n (af (ae 0) (af (ae 1) ak))) (eC (.int 0))) [some (tupI xs),some (.int v)] S=.ok (decide (w>0)) S':=br (av ((aw (ag (aa rfl) (ag (aa rfl) rfl))).trans e) rfl rfl);unfold tC;by_cases hw:0<w
 .rw[Yr (show w>0 from hw)]at t
  rw[Y8 hw];exact aQ (ρ:=[some (tupI xs),some (.int v)]) rfl (aE ((o8 t).trans rfl))
 .rw[Yp (show ¬w>0 from hw)]at t
  rw[Yi hw];exact aQ (ρ:=[some (tupI xs),some (.int v)]) rfl (aE ((lH t).trans rfl))
def Ans.ways:Giv dt [tupI xs,.int v] (.str (nmI w)):=λS=>by obtain⟨S',e,h⟩:=a.way S;exact⟨S',aQ (ρ:=[some (tupI xs),some (.int v)]) rfl (aE (aZ (ag ((aw (ag (aa rfl) (ag (aa rfl) rfl))).trans e) rfl) (i3 a.ws))),h⟩
def CT{j:Nat}(hi:r[i]?=some (some (firstD o)))(hj:r[j]?=some (some (tupI xs)))(S:Sto):eIf (tV (eOp (kA false) (ae i) (eC .non))) (eC (.str "none")) (az ef (af (ae j) (af (ae i) ak))) r S=.ok (.str sT) S:=by
 have hs:=a.shw;clear a;cases o with
 |none=>
  rw[show sT = "none" from hs]
  exact(o8 (br (av (aa hi) rfl rfl))).trans rfl
 |some c=>exact(lH (br (av (aa hi) rfl rfl))).trans ((aw (ag (aa hj) (ag (aa hi) rfl))).trans (hs S))
def Ans.signs:Giv cT [tupI xs,.int v] (.str sT):=λS=>by obtain⟨S',e,h⟩:=a.fst S;exact⟨S',aQ (ρ:=[some (tupI xs),some (.int v),none]) rfl ((aq (aC ((aw (ag (aa rfl) (ag (aa rfl) rfl))).trans e))).trans (aE (CT a rfl rfl S'))),h⟩
def Ans.near:Giv dr [tupI xs,.int v] (.str ((tO ob++(" ":Str))++tO oa)):=λS=>by
 have z:(100:Nat)<=sizeLine:=by decide
 obtain⟨S1,e1,p1⟩:=a.be S;obtain⟨S2,e2,p2⟩:=a.ab S1;have l1:=tU a.bs;have l2:=tU a.as
 have l3:(tO ob++(" ":Str)).length=(tO ob).length+1:=by rw[bg,jS,Yq,<- bg];rfl
 refine⟨S2,aQ (ρ:=[some (tupI xs),some (.int v)]) rfl (aE (av (av ((aw (ag ((aw (ag (aa rfl) (ag (aa rfl) rfl))).trans e1) rfl)).trans (or_none a.bs S1)) rfl (Y8 (by show(tO ob).length+1<=sizeLine;omega))) ((aw (ag ((aw (ag (aa rfl) (ag (aa rfl) rfl))).trans e2) rfl)).trans (or_none a.as S2)) (Y8 (by omega)))),p1.trans p2⟩
def Ans.even:Giv dq [tupI xs] (.str (nmI u)):=λS=>by obtain⟨S',e,h⟩:=a.un S;exact⟨S',aQ (ρ:=[some (tupI xs)]) rfl (aE (aZ (ag ((aw (ag (aa rfl) rfl)).trans e) rfl) (i3 a.us))),h⟩
def Ans.swing:Giv cU [tupI xs] (.str (nmI g)):=λS=>by obtain⟨S',e,h⟩:=a.sw S;exact⟨S',aQ (ρ:=[some (tupI xs)]) rfl (aE (aZ (ag ((aw (ag (aa rfl) rfl)).trans e) rfl) (i3 a.gs))),h⟩
def Ans.every:Giv cR [tupI xs] (.str (tY p q)):=λS=>by
 have e1:tV (az F_every_by_signs_n (af (ae 0) ak)) [some (tupI xs)] S=.ok q S:=br ((aw (ag (aa rfl) rfl)).trans (a.eq S));have e2:tV (az F_every_by_parts_n (af (ae 0) ak)) [some (tupI xs)] S=.ok p S:=br ((aw (ag (aa rfl) rfl)).trans (a.ep S));refine⟨S,?_,Pre.refl S⟩;have pq:=a.pq;cases q with
 |true=>
  rw[pq rfl]at e2 ⊢;exact aQ (ρ:=[some (tupI xs)]) rfl (fF ((jC e1).trans rfl))
 |false=>
  cases p with
  |true=>exact aQ (ρ:=[some (tupI xs)]) rfl ((aq ((cA e1).trans rfl)).trans (aE ((o8 e2).trans rfl)))
  |false=>exact aQ (ρ:=[some (tupI xs)]) rfl ((aq ((cA e1).trans rfl)).trans (aE ((lH e2).trans rfl)))
end
abbrev kvL(l:List (Str×Str)):List (KD×D):=l.map λp=>(.inr p.1,.str p.2)
def HZ(l:List (Str×Str))(k:Str)(h:k∉l.map (·.1)):(kvL l).any (λkv=>decide (kv.1=.inr k))=false:=by
 rw[Qx];intro kv hkv;obtain⟨p,hp,rfl⟩:=Yw.mp hkv;simp only[Qf]
 exact λq=>h (by rw[<- Ma q];exact Ul hp)
def tW(l:List (Str×Str))(k d:Str)(h:k∉l.map (·.1)):putD (kvL l) (.inr k) (.str d)=kvL (l++[(k,d)]):=by unfold putD;rw[HZ l k h,Yi Yl];unfold kvL;rw[W0];rfl
def CU(l:List (Str×Str))(k d d':Str)(h:k∉l.map (·.1)):putD (kvL (l++[(k,d)])) (.inr k) (.str d')=kvL (l++[(k,d')]):=by
 unfold putD
 rw[Y8 (by rw[Vz];exact⟨(.inr k,.str d),by simp,by simp⟩)]
 unfold kvL;rw[W0,W0,W0,Zo];congr 1
 .refine Q0 λp hp=>?_
  show(if (Sum.inr p.1:KD)=.inr k then _ else _)=_
  rw[Yi (λq=>h (by rw[<- Ma q];exact Ul hp))]
 .simp
theorem CV:∀{l:List (Str×Str)}{k d:Str},(l.map (·.1)).Nodup->(k,d)∈l->ft (kvL l) (.inr k)=some (.str d)
 |[],_,_,_,h=>by cases h
 |p::l,k,d,hn,h=>by
  rw[Yb,Wy]at hn;unfold ft kvL;rw[Yb,Zu];rcases Yc.mp h with e|e
  .rw[<- e];simp
  .have:decide ((Sum.inr p.1:KD)=.inr k)=false:=Yp λq=>hn.1 (by rw[Ma q];exact Ul (f:=Prod.fst) e)
   simp only[this];exact CV hn.2 e
def keysOf(v:Int):List Str:=[ln2 "comes" v,ln2 "ways" v,ln2 "signs" v,ln2 "near" v,"even","swing","every"]
def tk4(a:Str)(v:Int)(h:4<=a.cps.toList.length):(ln2 a v).cps.toList.take 4=a.cps.toList.take 4:=by rw[tS,List.take_append_of_le_length h]
def zl(v:Int):(keysOf v).Nodup:=by
 have h:((keysOf v).map λk=>k.cps.toList.take 4).Nodup:=by
  unfold keysOf;simp only[Yb,W5]
  rw[tk4 _ v (by decide),tk4 _ v (by decide),tk4 _ v (by decide),tk4 _ v (by decide)]
  decide
 exact(K7.mp h).imp λh e=>h (by rw[e])
def zm{k d:Str}(h:S[n]?=some (.dic (kvL l)))(hl:l.length<100):dh S (.ref n) (.str k) (.str d)=some (S.set n (.dic (putD (kvL l) (.inr k) (.str d)))):=by
 have z:(100:Nat)<=sizeLine:=by decide
 unfold dh
 rw[Y8 (by simp[lu,h])]
 unfold oN;simp only[h,kx]
 rw[Y8 (by rw[Yh];omega)]
structure Dd(S0 S:Sto)(n:Nat)(l:List (Str×Str)):Prop where
 at_:S[n]?=some (.dic (kvL l))
 pre:Pre S0 S
 ge:S0.length<=n
def Dd.step(d:Dd S0 S n l)(p:Pre S S1):Dd S0 S1 n l:=⟨(p.old n (bz d.at_)).trans d.at_,d.pre.trans p,d.ge⟩
def Dd.put{l':List (Str×Str)}(d:Dd S0 S n l):Dd S0 (S.set n (.dic (kvL l'))) n l':=⟨Z4 (bz d.at_),d.pre.set d.ge _,d.ge⟩
def jG{k t:Str}{i:EM}(d:Dd S0 S n l)(he:e r S=.ok (.str t) S1)(p:Pre S S1)(hr:r[5]?=some (some (.ref n)))(hi:∀S,i r S=.ok (.str k) S)(hl:l.length<100)(hk:k∉l.map (·.1)):∃S2,gn dh e (ae 5) i r S=.ok (.nx r) S2/\Dd S0 S2 n (l++[(k,t)]):=by have d1:=d.step p;refine⟨_,lL he (aa hr) (hi S1) (zm d1.at_ hl),?_⟩;rw[tW l k t hk];exact d1.put
def gB(v w u g:Int)(oa ob:Option Int)(sT:Str)(p q:Bool):List (Str×Str):=[(ln2 "comes" v,tC w),(ln2 "ways" v,nmI w),(ln2 "signs" v,sT),(ln2 "near" v,(tO ob++(" ":Str))++tO oa),("even",nmI u),("swing",nmI g),("every",tY p q)]
def JM(x y:Str):Txt.join (" ":Str) [x,y]=(x++(" ":Str))++y:=gc (by rw[pj,gA,jS,jS,jE];simp[jl])
section
variable{xs:List Int}{v w u g:Int}{o:Option (List Int)}{oa ob:Option Int}{sT:Str}{p q:Bool}(a:Ans xs v w u g o oa ob sT p q)(hv:v.natAbs<1000000000000000000000000000000)
include a
def E3(h6:r[6]?=some (some (.lst [optI ob,optI oa])))(S:Sto):fV ix (eC (.str " ")) (af (bq (bJ (ae 6) bB) 1 [] (.nm 0) bZ (eIf (tV (eOp (kA false) (ae 0) (eC .non))) (eC (.str "none")) (eB dO (af (ae 0) ak)))) ak) r S=.ok (.str ((tO ob++(" ":Str))++tO oa)) S:=by
 have z:(100:Nat)<=sizeLine:=by decide
 have el:∀z:Option Int,(∀c,z=some c->c.natAbs<1000000000000000000000000000000)->eIf (tV (eOp (kA false) (ae 0) (eC .non))) (eC (.str "none")) (eB dO (af (ae 0) ak)) [some (optI z)] S=.ok (.str (tO z)) S:=λz hz=>by
  cases z with
  |none=>exact(o8 (br (av (aa rfl) rfl rfl))).trans rfl
  |some c=>exact(lH (br (av (aa rfl) rfl rfl))).trans (aZ (ag (aa rfl) rfl) (i3 (hz c rfl)))
 have hc:=gm (enc:=optI) (out:=λz=>D.str (tO z)) (e:=eIf (tV (eOp (kA false) (ae 0) (eC .non))) (eC (.str "none")) (eB dO (af (ae 0) ak))) (it:=bJ (ae 6) bB) (caps:=[]) (tl:=[]) (r:=r) (S:=S) [ob,oa] (pe h6 rfl) (by show 2<=sizeLine;omega) rfl (λz hz=>by
  simp only[Yc,Yx,Zl]at hz;rcases hz with rfl|rfl
  .exact el _ a.bs
  .exact el _ a.as)
 have l1:=tU a.bs;have l2:=tU a.as;refine(gf rfl (ag hc rfl)).trans ?_
 show(if ([tO ob,tO oa].map (·.length)).sum+[tO ob,tO oa].length*(" ":Str).length<=16777216 then R.ok (D.str (Txt.join " " [tO ob,tO oa])) S else .bad)=_
 rw[Y8 (by
  show(tO ob).length+((tO oa).length+0)+2*(" ":Str).length<=16777216
  have:(" ":Str).length=1:=by decide
  omega),JM]
include hv
def E4(S:Sto):∃S' n,eh [tupI xs,.int v] S=.ok (.ref n) S'/\Dd S S' n (gB v w u g oa ob sT p q):=by
 have z:(100:Nat)<=sizeLine:=by decide
 have nd:=zl v;simp only[keysOf,Wy,Yc,Yx,Zl,not_or]at nd;obtain⟨⟨n12,n13,n14,n15,n16,n17⟩,⟨n23,n24,n25,n26,n27⟩,⟨n34,n35,n36,n37⟩,⟨n45,n46,n47⟩,⟨n56,n57⟩,n67,_⟩:=nd;obtain⟨_,_,nl,_⟩:=tR hv
 have hb1:(" ":Str).length=1:=by decide
 obtain⟨S1,e1,p1⟩:=a.fst S;obtain⟨S2,e2,p2⟩:=a.way S1
 let E:Str:=(" ":Str)++nmI v
 have hE:E.length<=32:=by
  show((" ":Str)++nmI v).length<=32
  rw[bg,jS,Yq,<- bg (nmI v)]
  have:(" ":Str).cps.toList.length=1:=by decide
  omega
 have key:∀(k:Str)(r:Rho)(S:Sto),k.length<=10->r[4]?=some (some (.str E))->eOp aT (eC (.str k)) (ae 4) r S=.ok (.str (ln2 k v)) S:=λk r S hk hr=>av rfl (aa hr) (Y8 (by omega))
 let r0:Rho:=[some (tupI xs),some (.int v),some (firstD o),some (.int w),some (.str E),none,none]
 have hpar:DD 2 3 (af (az F_first_met_n (af (ae 0) (af (ae 1) ak))) (af (az F_many_met_n (af (ae 0) (af (ae 1) ak))) ak)) [some (tupI xs),some (.int v),none,none,none,none,none] S=.ok (.nx [some (tupI xs),some (.int v),some (firstD o),some (.int w),none,none,none]) S2:=by unfold DD;rw[ag ((aw (ag (aa rfl) (ag (aa rfl) rfl))).trans e1) (ag ((aw (ag (aa rfl) (ag (aa rfl) rfl))).trans e2) rfl),R.bind_ok];rfl
 have hc1:eOp oIx (ik (af (eC (.str "no")) (af (eC (.str "yes")) ak))) (eB mB (af (eOp oGt (ae 3) (eC (.int 0))) ak)) r0 S2=.ok (.str (tC w)) S2:=by
  refine av (lI (xs:=[.str "no",.str "yes"]) rfl (by show 2<=sizeLine;omega)) (aZ (ag (av (aa rfl) rfl rfl) rfl) rfl) ?_
  show oIx S2 (.lst [.str "no",.str "yes"]) (.int (if decide (0<w)=true then 1 else 0))=_
  unfold tC;by_cases hw:0<w
  .rw[Yr hw,Y8 hw];rfl
  .rw[Yp hw,Yi hw];rfl
 let n:=S2.length
 have hd0:jn [((eOp aT (eC (.str "comes")) (ae 4)),(eOp oIx (ik (af (eC (.str "no")) (af (eC (.str "yes")) ak))) (eB mB (af (eOp oGt (ae 3) (eC (.int 0))) ak)))),((eOp aT (eC (.str "ways")) (ae 4)),(eB dO (af (ae 3) ak)))] r0 S2=.ok (.ref n) (S2++[.dic (kvL [(ln2 "comes" v,tC w),(ln2 "ways" v,nmI w)])]):=by
  have hM:pM [((eOp aT (eC (.str "comes")) (ae 4)),(eOp oIx (ik (af (eC (.str "no")) (af (eC (.str "yes")) ak))) (eB mB (af (eOp oGt (ae 3) (eC (.int 0))) ak)))),((eOp aT (eC (.str "ways")) (ae 4)),(eB dO (af (ae 3) ak)))] r0 S2=.ok [(.str (ln2 "comes" v),.str (tC w)),(.str (ln2 "ways" v),.str (nmI w))] S2:=by
   unfold pM
   rw[key "comes" r0 S2 (by decide) rfl,R.bind_ok,hc1,R.bind_ok]
   unfold pM
   rw[key "ways" r0 S2 (by decide) rfl,R.bind_ok,aZ (z:=.str (nmI w)) (ag (aa (d:=.int w) rfl) rfl) (i3 a.ws),R.bind_ok]
   rfl
  have hm:kz [] [((.inr (ln2 "comes" v):KD),D.str (tC w)),(.inr (ln2 "ways" v),.str (nmI w))]=kvL [(ln2 "comes" v,tC w),(ln2 "ways" v,nmI w)]:=by
   show putD (putD [] _ _) _ _=_
   have h1:=tW [] (ln2 "comes" v) (tC w) (by simp)
   have h2:=tW [(ln2 "comes" v,tC w)] (ln2 "ways" v) (nmI w) (by simp;exact λq=>n12 q.symm)
   exact(Q8 (λl=>putD l (.inr (ln2 "ways" v)) (.str (nmI w))) h1).trans h2
  unfold jn;rw[hM,R.bind_ok]
  show(if 2<=15 then R.ok (D.ref S2.length) (S2++[.dic (kz [] _)]) else .bad)=_
  rw[Y8 (by decide),hm]
 have d0:Dd S (S2++[.dic (kvL [(ln2 "comes" v,tC w),(ln2 "ways" v,nmI w)])]) n [(ln2 "comes" v,tC w),(ln2 "ways" v,nmI w)]:=⟨by simp[n],(p1.trans p2).trans (Pre.app _ _),(p1.trans p2).len⟩
 let r1:Rho:=[some (tupI xs),some (.int v),some (firstD o),some (.int w),some (.str E),some (.ref n),none]
 obtain⟨S3,f1,d1⟩:=jG (i:=eOp aT (eC (.str "signs")) (ae 4)) (k:=ln2 "signs" v) (r:=r1) d0 (CT (i:=2) (j:=0) a rfl rfl _) (Pre.refl _) rfl (λS=>key "signs" r1 S (by decide) rfl) (by simp) (by simp;exact⟨λq=>n13 q.symm,λq=>n23 q.symm⟩)
 obtain⟨S4,e4,p4⟩:=a.be S3;obtain⟨S5,e5,p5⟩:=a.ab S4
 let r2:Rho:=[some (tupI xs),some (.int v),some (firstD o),some (.int w),some (.str E),some (.ref n),some (.lst [optI ob,optI oa])]
 have hL:ik (af (az F_below_n (af (ae 0) (af (ae 1) ak))) (af (az F_above_n (af (ae 0) (af (ae 1) ak))) ak)) r1 S3=.ok (.lst [optI ob,optI oa]) S5:=lI (ag ((aw (ag (aa rfl) (ag (aa rfl) rfl))).trans e4) (ag ((aw (ag (aa rfl) (ag (aa rfl) rfl))).trans e5) rfl)) (by show 2<=sizeLine;omega)
 obtain⟨S6,f2,d2⟩:=jG (i:=eOp aT (eC (.str "near")) (ae 4)) (k:=ln2 "near" v) (r:=r2) (d1.step (p4.trans p5)) (E3 a rfl _) (Pre.refl _) rfl (λS=>key "near" r2 S (by decide) rfl) (by simp) (by simp;exact⟨λq=>n14 q.symm,λq=>n24 q.symm,λq=>n34 q.symm⟩)
 obtain⟨S7,e7,p7⟩:=a.un S6
 obtain⟨S8,f3,d3⟩:=jG (i:=eC (.str "even")) (k:="even") (r:=r2) (e:=eB dO (af (az F_unevenness_n (af (ae 0) ak)) ak)) d2 (aZ (ag ((aw (ag (aa rfl) rfl)).trans e7) rfl) (i3 a.us)) p7 rfl (λS=>rfl) (by simp) (by simp;exact⟨λq=>n15 q.symm,λq=>n25 q.symm,λq=>n35 q.symm,λq=>n45 q.symm⟩)
 obtain⟨S9,e9,p9⟩:=a.sw S8
 obtain⟨Sa,f4,d4⟩:=jG (i:=eC (.str "swing")) (k:="swing") (r:=r2) (e:=eB dO (af (az F_least_swing_n (af (ae 0) ak)) ak)) d3 (aZ (ag ((aw (ag (aa rfl) rfl)).trans e9) rfl) (i3 a.gs)) p9 rfl (λS=>rfl) (by simp) (by simp;exact⟨λq=>n16 q.symm,λq=>n26 q.symm,λq=>n36 q.symm,λq=>n46 q.symm,λq=>n56 q.symm⟩)
 have hk7:("every":Str)∉((([(ln2 "comes" v,tC w),(ln2 "ways" v,nmI w)]++[(ln2 "signs" v,sT)]++[(ln2 "near" v,(tO ob++(" ":Str))++tO oa)]++[(("even":Str),nmI u)])++[(("swing":Str),nmI g)]).map (·.1)):=by simp;exact⟨λq=>n17 q.symm,λq=>n27 q.symm,λq=>n37 q.symm,λq=>n47 q.symm,λq=>n57 q.symm,λq=>n67 q.symm⟩
 obtain⟨Sb,f5,d5⟩:=jG (i:=eC (.str "every")) (k:="every") (t:="no") (r:=r2) (e:=eC (.str "no")) d4 rfl (Pre.refl _) rfl (λS=>rfl) (by simp) hk7
 have hp:tV (az F_every_by_parts_n (af (ae 0) ak)) r2 Sb=.ok p Sb:=br ((aw (ag (aa rfl) rfl)).trans (a.ep Sb))
 have fin:∃S',sIf (tV (az F_every_by_parts_n (af (ae 0) ak))) (gn dh (eOp oIx (ik (af (eC (.str "parts")) (af (eC (.str "signs")) ak))) (eB mB (af (az F_every_by_signs_n (af (ae 0) ak)) ak))) (ae 5) (eC (.str "every"))) bj r2 Sb=.ok (.nx r2) S'/\Dd S S' n (gB v w u g oa ob sT p q):=by
  have hq:∀{c:Bool}{t:Str},q=c->oIx Sb (.lst [.str "parts",.str "signs"]) (.int (if c=true then 1 else 0))=some (.str t)->eOp oIx (ik (af (eC (.str "parts")) (af (eC (.str "signs")) ak))) (eB mB (af (az F_every_by_signs_n (af (ae 0) ak)) ak)) r2 Sb=.ok (.str t) Sb:=λhc ht=>av (lI (xs:=[.str "parts",.str "signs"]) rfl (by show 2<=sizeLine;omega)) (aZ (ag ((aw (ag (aa rfl) rfl)).trans (a.eq Sb)) rfl) rfl) (by rw[hc];exact ht)
  cases p with
  |false=>exact⟨Sb,(cA hp).trans rfl,d5⟩
  |true=>
   have hput:∀t:Str,eOp oIx (ik (af (eC (.str "parts")) (af (eC (.str "signs")) ak))) (eB mB (af (az F_every_by_signs_n (af (ae 0) ak)) ak)) r2 Sb=.ok (.str t) Sb->tY true q=t->∃S',sIf (tV (az F_every_by_parts_n (af (ae 0) ak))) (gn dh (eOp oIx (ik (af (eC (.str "parts")) (af (eC (.str "signs")) ak))) (eB mB (af (az F_every_by_signs_n (af (ae 0) ak)) ak))) (ae 5) (eC (.str "every"))) bj r2 Sb=.ok (.nx r2) S'/\Dd S S' n (gB v w u g oa ob sT true q):=λt he ht=>by
    refine⟨_,(jC hp).trans (lL he (aa rfl) rfl (zm d5.at_ (by simp))),?_⟩
    rw[CU _ _ _ _ hk7]
    have:gB v w u g oa ob sT true q=((([(ln2 "comes" v,tC w),(ln2 "ways" v,nmI w)]++[(ln2 "signs" v,sT)]++[(ln2 "near" v,(tO ob++(" ":Str))++tO oa)]++[(("even":Str),nmI u)])++[(("swing":Str),nmI g)])++[(("every":Str),t)]):=by rw[<- ht];rfl
    rw[this];exact d5.put
   cases hc:q with
   |false=>rw[hc]at hput;exact hput "parts" (hq hc rfl) rfl
   |true=>rw[hc]at hput;exact hput "signs" (hq hc rfl) rfl
 obtain⟨S',f6,d6⟩:=fin;refine⟨S',n,aQ (ρ:=[some (tupI xs),some (.int v),none,none,none,none,none]) rfl ?_,d6⟩;refine(aq hpar).trans ?_
 refine(aq (aC (d:=.str E) (av rfl (aZ (ag (aa rfl) rfl) (i3 hv)) (Y8 (by show(" ":Str).length+(nmI v).length<=sizeLine;rw[hb1];omega))))).trans ?_
 refine(aq (aC hd0)).trans ?_;refine(aq f1).trans ?_;refine(aq (aC hL)).trans ?_;refine(aq f2).trans ?_;refine(aq f3).trans ?_;refine(aq f4).trans ?_;refine(aq f5).trans ?_;refine(aq f6).trans ?_;exact aE (aa rfl)
end
def E5(ns:List Int)(c:Nat)(hn:ns.length<=63)(hc:1<=c/\c<=63)(r:Rho)(hr:r[0]?=some (some (.fz (ns.map .int))))(S:Sto):∃n:Nat,eD (af (eB uN (af (eC (.int 1)) (af (eB sM (af (eB cW (af (ae 0) ak)) (af (eC (.int c)) ak))) ak))) ak) r S=.ok ((List.range n).map λ(i:Nat)=>D.int i) S:=by
 refine⟨max 1 (min ns.length c),o9 ?_ (by omega)⟩
 have e:(if (1:Int)<(if (c:Int)<(ns.length:Int) then (c:Int) else (ns.length:Int)) then (if (c:Int)<(ns.length:Int) then (c:Int) else (ns.length:Int)) else 1)=((max 1 (min ns.length c):Nat):Int):=by split<;>split<;>omega
 rw[<- e];simp[af,ak,eB,eC,ae,R.bind,R.of,hr,cW,bN,sM,uN]
def wg{row:List Int}(h:RowB row)(S:Sto):eO [tI row] S=.ok (.str (xF row)) S:=by
 have ht:tV (eOp lq (ae 0) (g7 ak)) [some (tI row)] S=.ok (!decide (row=[])) S:=by
  refine br (av (aa rfl) (iW (xs:=[]) rfl (Zq _)) ?_);have:=Al row [];unfold lq
  rw[show(D.tup []:D)=.tup (([]:List Int).map .int) from rfl,this];rfl
 refine aQ (ρ:=[some (tI row)]) rfl (aE ?_);by_cases h0:row=[]
 .rw[Yr h0]at ht;rw[xF,Y8 h0];exact(lH ht).trans rfl
 .rw[Yp h0]at ht;rw[xF,Yi h0];exact(o8 ht).trans (v7 h (pe rfl rfl))
abbrev Ia:SM:=(sIf (tV (eOp lq (az cb (af (ae 4) (af (ae 10) ak))) (eOp fH (ae 7) (ae 10)))) (aX (eC (.bl false))) bj)
abbrev Ib:SM:=(aA (aO 7 (az eh (af (ae 3) (af (az ei (af (ae 2) (af (ae 3) ak))) ak)))) (aA (aO 8 (eB oY (af (ae 7) ak))) (aA (aO 9 (az aY (af (ae 2) (af (eB cW (af (ae 8) ak)) ak)))) (fj (bJ (eOp aT (eSl iN (ae 8) (gJ (ae 9)) oNo) (eSl iN (ae 8) oNo (gJ (ae 9)))) bB) (.nm 10) Ia))))
abbrev Ic:SM:=(cH (kG "Desk" "say" bP (ae 4) (af (eOp aT (eC (.str "put ")) (eB dO (af (ae 5) ak))) ak)))
abbrev JN:SM:=(sIf (tV (eOp lq (az cb (af (ae 4) (af (eC (.str "row")) ak))) (Af (fV ix (eC (.str " ")) (af (bq (bJ (ae 3) bB) 1 [] (.nm 0) bZ (eB dO (af (ae 0) ak))) ak)) (eC (.str "none"))))) (aX (eC (.bl false))) bj)
abbrev JO:SM:=(aA (aO 2 (az eP (af (ae 0) (af (ae 1) ak)))) (aA (aO 3 (az gy (af (ae 2) (af (eC (.int 10)) ak)))) (aA (aO 4 (Ab "Desk" dj)) (aA (fj (bJ (ae 3) bB) (.nm 5) Ic) (aA (fj (eD (af (eC (.int 2)) ak)) (.nm 6) Ib) JN)))))
section
variable{S:Sto}{b κ e δ n:Nat}{hs:List (List Int)}{xs:List Int}{v w u g:Int}{o:Option (List Int)}{oa ob:Option Int}{sT:Str}{p q:Bool}
def CW(d:Dq S b κ e δ hs xs)(a:Ans xs v w u g o oa ob sT p q)(hv:v.natAbs<1000000000000000000000000000000){k t:Str}(h:(k,t)∈gB v w u g oa ob sT p q):∃S',cb [.ref δ,.str k] S=.ok (.str t) S'/\Pre S S':=by
 have two:∀{c t:Str}{nf:Str×FM},c∈xI->KTD.datumAt c cx=some (some nf)->Giv nf.2 [tupI xs,.int v] (.str t)->∃S',cb [.ref δ,.str (ln2 c v)] S=.ok (.str t) S'/\Pre S S':=λhc hd hg=>by obtain⟨S',e,h⟩:=hg S;exact⟨S',tT d (EZ d hc hv hd e),h⟩
 have one:∀{c t:Str}{nf:Str×FM},c∈alone->KTD.datumAt c eK=some (some nf)->Giv nf.2 [tupI xs] (.str t)->∃S',cb [.ref δ,.str c] S=.ok (.str t) S'/\Pre S S':=λhc hd hg=>by obtain⟨S',e,h⟩:=hg S;exact⟨S',tT d (zj d hc hd e),h⟩
 simp only[gB,Yc,Yx,Zl,Prod.mk.injEq]at h;rcases h with⟨rfl,rfl⟩|⟨rfl,rfl⟩|⟨rfl,rfl⟩|⟨rfl,rfl⟩|⟨rfl,rfl⟩|⟨rfl,rfl⟩|⟨rfl,rfl⟩
 .exact two (nf:=("comes_text",fNx cP)) (by decide) Y0 a.comes.nx
 .exact two (nf:=("ways_text",fNx dt)) (by decide) Y0 a.ways.nx
 .exact two (nf:=("signs_text",fNx cT)) (by decide) Y0 a.signs.nx
 .exact two (nf:=("near_text",fNx dr)) (by decide) Y0 a.near.nx
 .exact one (nf:=("even_text",fNx dq)) (by decide) Y0 a.even.nx
 .exact one (nf:=("swing_text",fNx cU)) (by decide) Y0 a.swing.nx
 .exact one (nf:=("every_text",fNx cR)) (by decide) Y0 a.every.nx
def E6(hd:S[n]?=some (.dic (kvL (gB v w u g oa ob sT p q)))){k t:Str}(h:(k,t)∈gB v w u g oa ob sT p q):fH S (.ref n) (.str k)=some (.str t):=by
 have hn:((gB v w u g oa ob sT p q).map (·.1)).Nodup:=zl v
 have h1:(bN S (.ref n)).isSome=false:=by unfold bN;simp only[hd];rfl
 have h2:bS S (.ref n)=some (kvL (gB v w u g oa ob sT p q)):=by simp[bS,hd]
 unfold fH;rw[h1,Yi Yl];unfold BG;rw[h2];show ft _ (.inr k)=_;exact CV hn h
def CY(d:Dq S b κ e δ hs xs)(a:Ans xs v w u g o oa ob sT p q)(hv:v.natAbs<1000000000000000000000000000000)(hd:S[n]?=some (.dic (kvL (gB v w u g oa ob sT p q)))){k:Str}(h:k∈keysOf v)(r0 r1 r2 r3 r5 r6 r8 r9:Option D):
  ∃S',Ia [r0,r1,r2,r3,some (.ref δ),r5,r6,some (.ref n),r8,r9,some (.str k)] S=.ok (.nx [r0,r1,r2,r3,some (.ref δ),r5,r6,some (.ref n),r8,r9,some (.str k)]) S'/\Pre S S':=by
 obtain⟨⟨k',t⟩,hm,rfl⟩:=Yw.mp (show k∈(gB v w u g oa ob sT p q).map (·.1) from h)
 obtain⟨S',e1,p1⟩:=CW d a hv hm;have h2:=E6 ((p1.old n (bz hd)).trans hd) hm;exact⟨S',(cA (br (av ((aw (ag (aa rfl) (ag (aa rfl) rfl))).trans e1) (av (aa rfl) (aa rfl) h2) ne_self))).trans rfl,p1⟩
end
theorem wj{e:Nat}{hs:List (List Int)}{w u:Int}{o:Option (List Int)}{oa ob:Option Int}{sT:Str}{p q:Bool}(a:Ans xs v w u g o oa ob sT p q)(hv:v.natAbs<1000000000000000000000000000000)(r0 r1 r2 r3 r5 r6 r8 r9:Option D):∀(l:List Str)(S:Sto)(r10:Option D),(∀k∈l,k∈keysOf v)->Dq S b κ e δ hs xs->S[n]?=some (.dic (kvL (gB v w u g oa ob sT p q)))->
  ∃S' a10,forL (.nm 10) Ia (l.map .str) [r0,r1,r2,r3,some (.ref δ),r5,r6,some (.ref n),r8,r9,r10] S=.ok (.nx [r0,r1,r2,r3,some (.ref δ),r5,r6,some (.ref n),r8,r9,a10]) S'/\Pre S S'
 |[],S,r10,_,_,_=>⟨S,r10,rfl,Pre.refl S⟩
 |k::l,S,r10,hk,d,hd=>by obtain⟨S1,e1,p1⟩:=CY d a hv hd (hk k (.head _)) r0 r1 r2 r3 r5 r6 r8 r9;obtain⟨S2,a10,e2,p2⟩:=wj a hv r0 r1 r2 r3 r5 r6 r8 r9 l S1 (some (.str k)) (λj hj=>hk j (.tail _ hj)) (d.pre p1) ((p1.old n (bz hd)).trans hd);exact⟨S2,a10,(bG (r1:=[r0,r1,r2,r3,some (.ref δ),r5,r6,some (.ref n),r8,r9,some (.str k)]) rfl e1).trans e2,p1.trans p2⟩
def CZ{e:Nat}{hs:List (List Int)}(d:Dq S b κ e δ hs xs)(h10:xs.length<=10)(hb:∀x∈xs,okN x)(r0 r1 r5 r6 r7 r8 r9 r10:Option D):∃S' a7 a8 a9 a10,Ib [r0,r1,some (.ref b),some (tupI xs),some (.ref δ),r5,r6,r7,r8,r9,r10] S=.ok (.nx [r0,r1,some (.ref b),some (tupI xs),some (.ref δ),r5,r6,a7,a8,a9,a10]) S'/\Dq S' b κ e δ hs xs:=by
 have z:(100:Nat)<=sizeLine:=by decide
 obtain⟨v,S1,e1,g1,v0,v1⟩:=CN d.self h10 hb
 have hv:v.natAbs<1000000000000000000000000000000:=by omega
 obtain⟨w,u,g,o,oa,ob,sT,p,q,a⟩:=HY h10 hb v;have d1:=d.gr g1;obtain⟨S2,n,e2,dd⟩:=E4 a hv S1;have d2:=d1.pre dd.pre
 have hk:oY S2 [.ref n]=some (.lst ((keysOf v).map .str)):=by
  have h2:bS S2 (.ref n)=some (kvL (gB v w u g oa ob sT p q)):=by simp[bS,dd.at_]
  show(match bS S2 (.ref n) with|some kvs=>some (D.lst (kvs.map λ(p:KD×D)=>B0 p.1))|none=>uP S2 [.ref n])=_
  rw[h2];rfl
 obtain⟨c,S3,e3,c0,c1,g3⟩:=iU d2.self (many:=7) (by decide) (by decide)
 obtain⟨m,rfl⟩:∃m:Nat,c=m:=⟨c.toNat,by omega⟩
 have hbl:b<S1.length:=by obtain⟨x,hx⟩:=d1.bx;exact bz hx
 have hnb:n≠b:=by have:=dd.ge;omega
 have hd3:S3[n]?=some (.dic (kvL (gB v w u g oa ob sT p q))):=(g3.oth n hnb (bz dd.at_)).trans dd.at_;have d3:=d2.gr g3;have hlen:((keysOf v).map D.str).length=7:=rfl
 have s1:iN S3 (.lst ((keysOf v).map .str)) (some (m:Int)) none=some (.lst (((keysOf v).drop m).map .str)):=by
  show some (D.lst (PD.cutD ((keysOf v).map .str) _ _))=_
  rw[vT _ m (by rw[hlen];omega),List.map_drop]
 have s2:iN S3 (.lst ((keysOf v).map .str)) none (some (m:Int))=some (.lst (((keysOf v).take m).map .str)):=by
  show some (D.lst (PD.cutD ((keysOf v).map .str) _ _))=_
  rw[vS _ m (by rw[hlen];omega),List.map_take]
 have hadd:aT S3 (.lst (((keysOf v).drop m).map .str)) (.lst (((keysOf v).take m).map .str))=some (.lst (((keysOf v).drop m++(keysOf v).take m).map .str)):=by rw[W0];refine Ht ?_;rw[Yh,Yh,Q9,Ql];have:(keysOf v).length=7:=rfl;omega
 obtain⟨S4,a10,e4,p4⟩:=wj a hv r0 r1 (some (.ref b)) (some (tupI xs)) r5 r6 (some (.lst ((keysOf v).map .str))) (some (.int (m:Int))) ((keysOf v).drop m++(keysOf v).take m) S3 r10 (λk hk=>by
  rcases Yy.mp hk with h|h
  .exact List.mem_of_mem_drop h
  .exact List.mem_of_mem_take h) d3 hd3
 refine⟨S4,some (.ref n),some (.lst ((keysOf v).map .str)),some (.int (m:Int)),a10,?_,d3.pre p4⟩;refine(aq (aC ((aw (ag (aa rfl) (ag ((aw (ag (aa rfl) (ag (aa rfl) rfl))).trans e1) rfl))).trans e2))).trans ?_;refine(aq (aC (aZ (ag (aa rfl) rfl) hk))).trans ?_;refine(aq (aC ((aw (ag (aa rfl) (ag (aZ (ag (aa rfl) rfl) rfl) rfl))).trans e3))).trans ?_;exact(et (av (Ft (aa rfl) (jD (aa rfl)) rfl s1) (Ft (aa rfl) rfl (jD (aa rfl)) s2) hadd) rfl).trans e4
theorem wk{e:Nat}{hs:List (List Int)}(h10:xs.length<=10)(hb:∀x∈xs,okN x)(r0 r1 r5:Option D):∀(l:List Nat)(S:Sto)(r6 r7 r8 r9 r10:Option D),Dq S b κ e δ hs xs->∃S' a6 a7 a8 a9 a10,forL (.nm 6) Ib (l.map λ(i:Nat)=>D.int i) [r0,r1,some (.ref b),some (tupI xs),some (.ref δ),r5,r6,r7,r8,r9,r10] S=.ok (.nx [r0,r1,some (.ref b),some (tupI xs),some (.ref δ),r5,a6,a7,a8,a9,a10]) S'/\Dq S' b κ e δ hs xs
 |[],S,r6,r7,r8,r9,r10,d=>⟨S,r6,r7,r8,r9,r10,rfl,d⟩
 |i::l,S,r6,r7,r8,r9,r10,d=>by obtain⟨S1,a7,a8,a9,a10,e1,d1⟩:=CZ d h10 hb r0 r1 r5 (some (.int i)) r7 r8 r9 r10;obtain⟨S2,b6,b7,b8,b9,b10,e2,d2⟩:=wk h10 hb r0 r1 r5 l S1 (some (.int i)) a7 a8 a9 a10 d1;exact⟨S2,b6,b7,b8,b9,b10,(bG (r1:=[r0,r1,some (.ref b),some (tupI xs),some (.ref δ),r5,some (.int i),r7,r8,r9,r10]) rfl e1).trans e2,d2⟩
theorem wm{e:Nat}(r0 r1 r2 r3 r6 r7 r8 r9 r10:Option D):∀(ys:List Int)(S:Sto)(hs:List (List Int))(row:List Int)(r5:Option D),Dq S b κ e δ hs row->(∀y∈ys,okN y)->row.length+ys.length<=10->hs.length+ys.length<=100->
  ∃S' hs' a5,forL (.nm 5) Ic (ys.map .int) [r0,r1,r2,r3,some (.ref δ),r5,r6,r7,r8,r9,r10] S=.ok (.nx [r0,r1,r2,r3,some (.ref δ),a5,r6,r7,r8,r9,r10]) S'/\Dq S' b κ e δ hs' (row++ys)
 |[],S,hs,row,r5,d,_,_,_=>⟨S,hs,r5,rfl,by rw[Qh];exact d⟩
 |y::ys,S,hs,row,r5,d,hy,h10,hh=>by
  rw[Ym]at h10 hh;have h1:=hy y (.head _);have a1:=h1.1;have a2:=h1.2
  obtain⟨m,rfl⟩:∃m:Nat,y=m:=⟨y.toNat,by omega⟩
  obtain⟨x,S1,e1,d1⟩:=Ar d (n:=m) (by omega) (by omega) (by omega) (by omega)
  obtain⟨S2,hs',a5,e2,d2⟩:=wm r0 r1 r2 r3 r6 r7 r8 r9 r10 ys S1 (hs++[row]) (row++[(m:Int)]) (some (.int (m:Int))) d1 (λz hz=>hy z (.tail _ hz)) (by simp;omega) (by simp;omega)
  refine⟨S2,hs',a5,?_,by rw[Qe]at d2;exact d2⟩
  have z:(100:Nat)<=sizeLine:=by decide
  have hl:=gz (n:=m) (k:=29) (by omega)
  have hp:("put ":Str).length=4:=by decide
  have t1:Ic [r0,r1,r2,r3,some (.ref δ),some (.int (m:Int)),r6,r7,r8,r9,r10] S=.ok (.nx [r0,r1,r2,r3,some (.ref δ),some (.int (m:Int)),r6,r7,r8,r9,r10]) S1:=
   bW ((pE (aa rfl) (bX d.dk) (JE _) (ag (av rfl (aZ (ag (aa rfl) rfl) (tw (by omega))) (Y8 (by omega))) rfl)).trans e1)
  exact(bG (r1:=[r0,r1,r2,r3,some (.ref δ),some (.int (m:Int)),r6,r7,r8,r9,r10]) rfl t1).trans e2
def AA{e:Nat}{hs:List (List Int)}(d:Dq S b κ e δ hs xs)(h10:xs.length<=10)(hb:∀x∈xs,okN x)(r0 r1 r2 r5 r6 r7 r8 r9 r10:Option D):JN [r0,r1,r2,some (tupI xs),some (.ref δ),r5,r6,r7,r8,r9,r10] S=.ok (.nx [r0,r1,r2,some (tupI xs),some (.ref δ),r5,r6,r7,r8,r9,r10]) S:=by
 have z:(2000:Nat)<=sizeLine:=by decide
 have hR:RowB xs:=⟨λx hx=>by have:=hb x hx;have a1:=this.1;have a2:=this.2;omega,by omega⟩
 have e1:=tT d (zj d (w:="row") (nf:=("row_text",fNx eO)) (by decide) Y0 (r:=.str (xF xs)) (S1:=S) (by show(eO [tI xs] S).nx=_;rw[wg hR S];rfl))
 have hs:=xG hR;have ej:=v7 hR (r:=[r0,r1,r2,some (tupI xs),some (.ref δ),r5,r6,r7,r8,r9,r10]) (a:=ae 3) (S:=S) (pe rfl rfl)
 have e2:Af (fV ix (eC (.str " ")) (af (bq (bJ (ae 3) bB) 1 [] (.nm 0) bZ (eB dO (af (ae 0) ak))) ak)) (eC (.str "none")) [r0,r1,r2,some (tupI xs),some (.ref δ),r5,r6,r7,r8,r9,r10] S=.ok (.str (xF xs)) S:=by
  rw[EF ej (by omega)]
  by_cases h0:xs=[]
  .subst h0
   rw[Y8 (by decide),xF,Y8 rfl];rfl
  .rw[Yi (Cy h0),xF,Yi h0]
 exact(cA (br (av ((aw (ag (aa rfl) (ag rfl rfl))).trans e1) e2 ne_self))).trans rfl
def C0(ns:List Int)(k:Nat)(S:Sto)(r2 r3 r4 r5 r6 r7 r8 r9 r10:Option D):∃(S':Sto)(a2 a3 a4 a5 a6 a7 a8 a9 a10:Option D),JO [some (.fz (ns.map .int)),some (.int k),r2,r3,r4,r5,r6,r7,r8,r9,r10] S=.ok (.nx [some (.fz (ns.map .int)),some (.int k),a2,a3,a4,a5,a6,a7,a8,a9,a10]) S':=by
 obtain⟨v,e0⟩:=Hm ns k S
 have g0:Gr S.length (S++[.lst [.int v]]) (S++[.lst [.int v]]):=⟨⟨v,by simp⟩,λ_ _ _=>rfl,Yd _⟩
 obtain⟨xs,S1,e1,l1,p1,g1⟩:=HI g0 (most:=10) ⟨by decide,by decide⟩
 have h10:xs.length<=10:=by omega
 have hbl:S.length<S1.length:=by have:=g1.len;simp at this;omega
 have em:=Cu (c:="Desk") (r:=[some (.fz (ns.map .int)),some (.int k),some (.ref S.length),some (.tup (xs.map .int)),r4,r5,r6,r7,r8,r9,r10]) (EE S1)
 have d0:Dq (S1++[.ins "Desk" [("keeper",.ref (S1.length+1))],.ins "Keeper" (kF (tI []) (.ref (S1.length+2))),.lst []]) S.length (S1.length+1) (S1.length+2) S1.length [] []:=by
  obtain⟨m,hm⟩:=g1.bx
  exact⟨⟨m,by rw[Z0 hbl];exact hm⟩,by simp,by simp,by simp,by omega,by omega,by omega,by omega,by omega,by omega⟩
 obtain⟨S2,hs,a5,e2,d2⟩:=wm (some (.fz (ns.map .int))) (some (.int k)) (some (.ref S.length)) (some (tupI xs)) r6 r7 r8 r9 r10 xs _ [] [] r5 d0 p1 (by simpa using h10) (by simp;omega)
 rw[Wc]at d2;obtain⟨S3,a6,a7,a8,a9,a10,e3,d3⟩:=wk h10 p1 (some (.fz (ns.map .int))) (some (.int k)) a5 (List.range 2) S2 r6 r7 r8 r9 r10 d2;have e4:=AA d3 h10 p1 (some (.fz (ns.map .int))) (some (.int k)) (some (.ref S.length)) a5 a6 a7 a8 a9 a10;refine⟨S3,some (.ref S.length),some (tupI xs),some (.ref S1.length),a5,a6,a7,a8,a9,a10,?_⟩;refine(aq (aC ((aw rfl).trans e0))).trans ?_;refine(aq (aC ((aw rfl).trans e1))).trans ?_;refine(aq (aC em)).trans ?_;refine(aq ((et (aa rfl) rfl).trans e2)).trans ?_
 refine(aq ((iV (o9 (n:=2) rfl (by decide))).trans e3)).trans ?_
 exact e4
theorem wq(ns:List Int):∀(l:List Nat)(S:Sto)(r1 r2 r3 r4 r5 r6 r7 r8 r9 r10:Option D),∃(S':Sto)(ρ:Rho),forL (.nm 1) JO (l.map λ(i:Nat)=>D.int i) [some (.fz (ns.map .int)),r1,r2,r3,r4,r5,r6,r7,r8,r9,r10] S=.ok (.nx ρ) S'
 |[],S,r1,r2,r3,r4,r5,r6,r7,r8,r9,r10=>⟨S,_,rfl⟩
 |k::l,S,r1,r2,r3,r4,r5,r6,r7,r8,r9,r10=>by obtain⟨S1,a2,a3,a4,a5,a6,a7,a8,a9,a10,e1⟩:=C0 ns k S r2 r3 r4 r5 r6 r7 r8 r9 r10;obtain⟨S2,ρ,e2⟩:=wq ns l S1 (some (.int k)) a2 a3 a4 a5 a6 a7 a8 a9 a10;exact⟨S2,ρ,(bG (r1:=[some (.fz (ns.map .int)),some (.int k),r2,r3,r4,r5,r6,r7,r8,r9,r10]) rfl e1).trans e2⟩
def C3(ns:List Int)(hn:ns.length<=63):∃S,yK [.fz (ns.map .int)] []=.ok (.bl true) S:=by
 obtain⟨n,hg⟩:=E5 ns 3 hn (by decide) [some (.fz (ns.map .int)),none,none,none,none,none,none,none,none,none,none] rfl []
 obtain⟨S,ρ,e⟩:=wq ns (List.range n) [] none none none none none none none none none none;exact⟨S,aQ rfl ((aq ((iV hg).trans e)).trans (aE rfl))⟩
set_option maxHeartbeats 4000000
def E7:bootBuiltins "abs" = some (.builtin "abs"):=by decide +kernel
def oo:bootBuiltins "all" = some (.builtin "all"):=by decide +kernel
def C4:bootBuiltins "bool" = some (.type "bool"):=by decide +kernel
def xQ:bootBuiltins "divmod" = some (.builtin "divmod"):=by decide +kernel
def jT:bootBuiltins "int" = some (.type "int"):=by decide +kernel
def dI:bootBuiltins "isinstance" = some (.builtin "isinstance"):=by decide +kernel
def cL:bootBuiltins "len" = some (.builtin "len"):=by decide +kernel
def C5:bootBuiltins "list" = some (.type "list"):=by decide +kernel
def tX:bootBuiltins "max" = some (.builtin "max"):=by decide +kernel
def lP:bootBuiltins "min" = some (.builtin "min"):=by decide +kernel
def pK:bootBuiltins "sorted" = some (.builtin "sorted"):=by decide +kernel
def cy:bootBuiltins "str" = some (.type "str"):=by decide +kernel
def zo:bootBuiltins "sum" = some (.builtin "sum"):=by decide +kernel
def iF:bootBuiltins "tuple" = some (.type "tuple"):=by decide +kernel
structure Txt(K:Frag)(mg:Str->Option Value)(w:World):Prop where
 cl:Cls K raisedX askedX isaX
 kc_Desk:ClsI K "Desk"
 kc_Keeper:ClsI K "Keeper"
 na_Desk_keeper:NoA K "Desk" "keeper"
 na_Keeper_earlier:NoA K "Keeper" "earlier"
 na_Keeper_numbers:NoA K "Keeper" "numbers"
 b_abs:mg "abs" = none
 b_all:mg "all" = none
 b_bool:mg "bool" = none
 b_divmod:mg "divmod" = none
 b_int:mg "int" = none
 b_isinstance:mg "isinstance" = none
 b_len:mg "len" = none
 b_list:mg "list" = none
 b_max:mg "max" = none
 b_min:mg "min" = none
 b_range:mg "range" = none
 b_sorted:mg "sorted" = none
 b_str:mg "str" = none
 b_sum:mg "sum" = none
 b_tuple:mg "tuple" = none
 b_zip:mg "zip" = none
 c_LONGEST_ROW:∃t,mg "LONGEST_ROW" = some (.int 16 t)
 c_MOST_FIGURES:∃t,mg "MOST_FIGURES" = some (.int 30 t)
 c_PIECE:∃t,mg "PIECE" = some (.int 60 t)
 c_TIMES_BY_PARTS:∃t,mg "TIMES_BY_PARTS" = some (.int 2 t)
 c_TIMES_BY_SIGNS:∃t,mg "TIMES_BY_SIGNS" = some (.int 1 t)
 m_SIGNS:TupAt K mg "SIGNS" [(-1),(1)]
 ts_CHANGED_ALONE:TupS K mg "CHANGED_ALONE" ["take","back"]
 s_FIGURES:∃t,mg "FIGURES" = some (.str "0123456789" t)
 e_MARK_OF:TabI K mg "MARK_OF" tab_MARK_OF
 f_ASKED_ALONE:TabF K mg w "ASKED_ALONE" nml_ASKED_ALONE
 f_ASKED_OF_A_NUMBER:TabF K mg w "ASKED_OF_A_NUMBER" nml_ASKED_OF_A_NUMBER
section
variable{P:Program}{w:World}{K:Frag}{mg:Str->Option Value}{base:Heap}
def kT:FnScope ["self"] ["self"] (defScope bK):=fsk
def kU(F:Fun K "__init__" "Keeper.__init__" bK f fd)(ns:nsIn K mainGlobals "Keeper" = some (some (.ref C)))(hmg:mg "Keeper" = some (.ref C))(hm:Mk K C f)(hb:Binds K fd ["self"] [])(T:Txt K mg w):MakN P w K mg base "Keeper" 1 cG:=
 BR ["self"] ["self"] 0 1 1 rfl rfl rfl F ns hmg hm hb kT (m:=gM) λcdv A outer s H E hr=>(ao (oT T.kc_Keeper T.na_Keeper_numbers (vL 0) (iK aj)) (ax (oT T.kc_Keeper T.na_Keeper_earlier (vL 0) (oE aj))))
def mJ:FnScope ["self"] ["self"] (defScope cc):=fsk
def mK(F:Fun K "__init__" "Desk.__init__" cc f fd)(ns:nsIn K mainGlobals "Desk" = some (some (.ref C)))(hmg:mg "Desk" = some (.ref C))(hm:Mk K C f)(hb:Binds K fd ["self"] [])(T:Txt K mg w)(d_Keeper___init__:MakN P w K mg base "Keeper" 1 cG):MakN P w K mg base "Desk" 3 dj:=
 BR ["self"] ["self"] 2 3 1 rfl rfl rfl F ns hmg hm hb mJ (m:=i5) λcdv A outer s H E hr=>(ax (oT T.kc_Desk T.na_Desk_keeper (vL 0) (BQ d_Keeper___init__ (hr.mono (by decide)) Y1)))
def mL:FnScope ["self"] ["self"] (defScope cf):=fsk
def mM(F:Fun K "back" "Keeper.back" cf f fd)(ns:nsIn K mainGlobals "Keeper" = some (some (.ref C)))(hc:L2.Cls K C)(hm:Meth K C "back" f)(hb:Binds K fd ["self"] [])(T:Txt K mg w):MetN P w K mg base "Keeper" "back" 1 1 eF:=
 jL ["self"] ["self"] 0 1 1 1 rfl rfl rfl F ns hc hm hb mL (m:=i6) λcdv A outer s H E hr=>(ao (cX (bC (G6 hr) (eY T.kc_Keeper T.na_Keeper_earlier (vL 0)) (mj aj)) (ax eU) bT) (ao (oT T.kc_Keeper T.na_Keeper_numbers (vL 0) (D9 (eY T.kc_Keeper T.na_Keeper_earlier (vL 0)))) (ax (aF (aL d7 Y1 T.b_len cL (ah (eY T.kc_Keeper T.na_Keeper_numbers (vL 0)) aj))))))
def mN:FnScope ["self","numbers"] ["self","numbers"] (defScope cg):=fsk
def mO(F:Fun K "change" "Keeper.change" cg f fd)(ns:nsIn K mainGlobals "Keeper" = some (some (.ref C)))(hc:L2.Cls K C)(hm:Meth K C "change" f)(hb:Binds K fd ["self","numbers"] [])(T:Txt K mg w):MetN P w K mg base "Keeper" "change" 1 2 bU:=
 jL ["self","numbers"] ["self","numbers"] 0 1 2 2 rfl rfl rfl F ns hc hm hb mN (m:=i7) λcdv A outer s H E hr=>(ao (cu (wZ Ww Vn Vo mC (eY T.kc_Keeper T.na_Keeper_earlier (vL 0)) (ah (eY T.kc_Keeper T.na_Keeper_numbers (vL 0)) aj))) (ao (oT T.kc_Keeper T.na_Keeper_numbers (vL 0) (vL 1)) (ax (aF (aL d7 Y1 T.b_len cL (ah (vL 1) aj))))))
def wt:FnScope ["thing"] ["thing"] (defScope gN):=fsk
def wu(F:Fun K "is_whole" "is_whole" gN f fd)(hm:mg "is_whole" = some (.ref f))(hb:Binds K fd ["thing"] [])(T:Txt K mg w):DefN P w K mg base "is_whole" 1 1 bL:=
 aI ["thing"] ["thing"] 0 1 1 1 rfl rfl rfl F hm hb wt (m:=kH) λcdv A outer s H E hr=>(ax (aF (mi (aL oI Y1 T.b_isinstance dI (ah (vL 0) (ah (uC Y1 T.b_int jT) aj))) (mf (GO (aL oI Y1 T.b_isinstance dI (ah (vL 0) (ah (uC Y1 T.b_bool C4) aj))))))))
def mP:FnScope ["thing"] ["thing"] (defScope dQ):=fsk
def mQ(F:Fun K "need_number" "need_number" dQ f fd)(hm:mg "need_number" = some (.ref f))(hb:Binds K fd ["thing"] [])(T:Txt K mg w)(d_is_whole:DefN P w K mg base "is_whole" 1 1 bL):DefN P w K mg base "need_number" 2 1 bu:=
 aI ["thing"] ["thing"] 1 2 1 1 rfl rfl rfl F hm hb mP (m:=fQ) λcdv A outer s H E hr=>(ax (cX (ko (fN (aB d_is_whole (hr.mono (by decide)) Y1 (ah (vL 0) aj) (ai au)))) (ax eU) bT))
def jf:FnScope ["least","thing"] ["least","thing"] (defScope cv):=fsk
def jg(F:Fun K "need_number_from" "need_number_from" cv f fd)(hm:mg "need_number_from" = some (.ref f))(hb:Binds K fd ["least","thing"] [])(T:Txt K mg w)(d_need_number_n:DefN P w K mg base "need_number" 2 1 bu):DefN P w K mg base "need_number_from" 3 2 bQ:=
 aI ["least","thing"] ["least","thing"] 2 3 2 2 rfl rfl rfl F hm hb jf (m:=fI) λcdv A outer s H E hr=>(ao (cu (aB d_need_number_n (hr.mono (by decide)) Y1 (ah (vL 1) aj) (ai au))) (ax (cX (bC yk (vL 1) (vL 0)) (ax eU) bT)))
def nE:FnScope ["self","number"] ["self","number"] (defScope cB):=fsk
def nF(F:Fun K "put" "Keeper.put" cB f fd)(ns:nsIn K mainGlobals "Keeper" = some (some (.ref C)))(hc:L2.Cls K C)(hm:Meth K C "put" f)(hb:Binds K fd ["self","number"] [])(T:Txt K mg w)(d_Keeper_change:MetN P w K mg base "Keeper" "change" 1 2 bU)(d_need_number_from_n:DefN P w K mg base "need_number_from" 3 2 bQ):MetN P w K mg base "Keeper" "put" 4 2 cO:=
 jL ["self","number"] ["self","number"] 3 4 2 2 rfl rfl rfl F ns hc hm hb nE (m:=jt) λcdv A outer s H E hr=>(ao (cu (aB d_need_number_from_n (hr.mono (by decide)) Y1 (ah ay (ah (vL 1) aj)) (ai (ai au)))) (ao (cX (bC (fP hr) (aL d7 Y1 T.b_len cL (ah (eY T.kc_Keeper T.na_Keeper_numbers (vL 0)) aj)) (qL T.c_LONGEST_ROW Y1)) (ax eU) bT) (ax (aF (lz d_Keeper_change (hr.mono (by decide)) (vL 0) (ah (aJ bc (eY T.kc_Keeper T.na_Keeper_numbers (vL 0)) (iK (ah (vL 1) aj))) aj) (ai au))))))
def qk:FnScope ["self"] ["self"] (defScope dn):=fsk
def ql(F:Fun K "row" "Keeper.row" dn f fd)(ns:nsIn K mainGlobals "Keeper" = some (some (.ref C)))(hc:L2.Cls K C)(hm:Meth K C "row" f)(hb:Binds K fd ["self"] [])(T:Txt K mg w):MetN P w K mg base "Keeper" "row" 1 1 eZ:=
 jL ["self"] ["self"] 0 1 1 1 rfl rfl rfl F ns hc hm hb qk (m:=lD) λcdv A outer s H E hr=>(ax (aF (eY T.kc_Keeper T.na_Keeper_numbers (vL 0))))
def mR:FnScope ["self"] ["self"] (defScope cj):=fsk
def mS(F:Fun K "take" "Keeper.take" cj f fd)(ns:nsIn K mainGlobals "Keeper" = some (some (.ref C)))(hc:L2.Cls K C)(hm:Meth K C "take" f)(hb:Binds K fd ["self"] [])(T:Txt K mg w)(d_Keeper_change:MetN P w K mg base "Keeper" "change" 1 2 bU):MetN P w K mg base "Keeper" "take" 2 1 eG:=
 jL ["self"] ["self"] 1 2 1 1 rfl rfl rfl F ns hc hm hb mR (m:=i8) λcdv A outer s H E hr=>(ao (cX (bC (fP hr) (eY T.kc_Keeper T.na_Keeper_numbers (vL 0)) (iK aj)) (ax eU) bT) (ax (aF (lz d_Keeper_change (hr.mono (by decide)) (vL 0) (ah (qJ mz (eY T.kc_Keeper T.na_Keeper_numbers (vL 0)) jI (jJ (Fe Bo ay))) aj) (ai au)))))
def lQ:FnScope ["row","middle"] ["row"] (defScope fW):=fsk
def tZ(F:Fun K "halves_of" "halves_of" fW f fd)(hm:mg "halves_of" = some (.ref f))(hb:Binds K fd ["row"] [])(T:Txt K mg w):DefN P w K mg base "halves_of" 1 1 bo:=
 aI ["row","middle"] ["row"] 0 1 1 2 rfl rfl rfl F hm hb lQ (m:=nr) λcdv A outer s H E hr=>(ao (aH lQ.nd Y0 Y2 (aJ sy (aL d7 Y1 T.b_len cL (ah (vL 0) aj)) ay)) (ax (aF (iK (ah (qJ mz (vL 0) jI (jJ (vL 1))) (ah (qJ mz (vL 0) (jJ (vL 1)) jI) aj))))))
def AB:FnScope ["thing"] ["thing"] (defScope jM):=fsk
def AD(F:Fun K "is_row" "is_row" jM f fd)(hm:mg "is_row" = some (.ref f))(hb:Binds K fd ["thing"] [])(T:Txt K mg w)(d_is_whole:DefN P w K mg base "is_whole" 1 1 bL):DefN P w K mg base "is_row" 2 1 fJ:=
 aI ["thing"] ["thing"] 1 2 1 1 rfl rfl rfl F hm hb AB (m:=ju) λcdv A outer s H E hr=>(ao (cX (Bj (Fg (ko (fN (aL oI Y1 T.b_isinstance dI (ah (vL 0) (ah (uC Y1 T.b_tuple iF) aj))))) (Bi (bC yl (aL d7 Y1 T.b_len cL (ah (vL 0) aj)) (qL T.c_LONGEST_ROW Y1))))) (ax (aF uB)) bT) (ax (aF (aL (sN rfl) Y1 T.b_all oo (ah (dw (N:=["number"]) (k:=1) (caps:=[]) rfl (λ_ _ z=>z) (gq Y0 Y0 Y0 Y0 rfl Y0) (dv (vL 0)) (λ_ _ _ _=>(aM (show(["number"]:List Str).Nodup by decide +kernel) Y0 Y2)) (λ_ _ _ _=>eE) (λ_ _ _ _=>(mi (aB d_is_whole (hr.mono (by decide)) Y1 (ah (vL 0) aj) (ai au)) (mf (iJ uL (vL 0) ay))))) aj)))))
def qm:FnScope ["thing"] ["thing"] (defScope fC):=fsk
def qo(F:Fun K "need_row" "need_row" fC f fd)(hm:mg "need_row" = some (.ref f))(hb:Binds K fd ["thing"] [])(T:Txt K mg w)(d_is_row:DefN P w K mg base "is_row" 2 1 fJ):DefN P w K mg base "need_row" 3 1 aW:=
 aI ["thing"] ["thing"] 2 3 1 1 rfl rfl rfl F hm hb qm (m:=iO) λcdv A outer s H E hr=>(ax (cX (ko (fN (aB d_is_row (hr.mono (by decide)) Y1 (ah (vL 0) aj) (ai au)))) (ax eU) bT))
def hZ:FnScope ["row","number"] ["row","number"] (defScope bO):=fsk
def ic(F:Fun K "need_row_and_number" "need_row_and_number" bO f fd)(hm:mg "need_row_and_number" = some (.ref f))(hb:Binds K fd ["row","number"] [])(T:Txt K mg w)(d_need_number_n:DefN P w K mg base "need_number" 2 1 bu)(d_need_row_n:DefN P w K mg base "need_row" 3 1 aW):DefN P w K mg base "need_row_and_number" 4 2 aG:=
 aI ["row","number"] ["row","number"] 3 4 2 2 rfl rfl rfl F hm hb hZ (m:=eQ) λcdv A outer s H E hr=>(ao (cu (aB d_need_row_n (hr.mono (by decide)) Y1 (ah (vL 0) aj) (ai au))) (ax (cu (aB d_need_number_n (hr.mono (by decide)) Y1 (ah (vL 1) aj) (ai au)))))
def fB:FnScope ["table","step","choices","wider","reached","ways","choice","there"] ["table","step","choices"] (defScope iP):=fsk
def xR(F:Fun K "stepped" "stepped" iP f fd)(hm:mg "stepped" = some (.ref f))(hb:Binds K fd ["table","step","choices"] [])(T:Txt K mg w):DefN P w K mg base "stepped" 1 3 gk:=
 aI ["table","step","choices","wider","reached","ways","choice","there"] ["table","step","choices"] 0 1 3 8 rfl rfl rfl F hm hb fB (m:=rm) λcdv A outer s H E hr=>(ao (aH fB.nd Y0 Y2 sW) (ao (dZ Zc rfl (jq (vL 0)) (iL rfl (bA (aM fB.nd Y0 Y2) (bA (aM fB.nd Y0 Y2) fT))) (ax (dZ Zc rfl (dv (vL 2)) (aM fB.nd Y0 Y2) (ao (aH fB.nd Y0 Y2 (aJ bc (vL 4) (aJ eL (vL 6) (vL 1)))) (ax (g8 (fU hr) (aJ bc (nX hr (vL 3) (vL 7) ay (yr Y0 Y0 Y0 Y0)) (vL 5)) (vL 3) (vL 7))))))) (ax (aF (vL 3)))))
def gY:FnScope ["row","choices","table","step"] ["row","choices"] (defScope gP):=fsk
def wx(F:Fun K "table_of" "table_of" gP f fd)(hm:mg "table_of" = some (.ref f))(hb:Binds K fd ["row","choices"] [])(T:Txt K mg w)(d_stepped:DefN P w K mg base "stepped" 1 3 gk):DefN P w K mg base "table_of" 2 2 de:=
 aI ["row","choices","table","step"] ["row","choices"] 1 2 2 4 rfl rfl rfl F hm hb gY (m:=oZ) λcdv A outer s H E hr=>(ao (aH gY.nd Y0 Y2 (nY (jo ay ay nW))) (ao (dZ Zc rfl (dv (vL 0)) (aM gY.nd Y0 Y2) (ax (aH gY.nd Y0 Y2 (aB d_stepped (hr.mono (by decide)) Y1 (ah (vL 2) (ah (vL 3) (ah (vL 1) aj))) (ai (ai (ai au))))))) (ax (aF (vL 2)))))
def kj:FnScope ["row","number","counts"] ["row","number"] (defScope fD):=fsk
def qp(F:Fun K "many_met" "many_met" fD f fd)(hm:mg "many_met" = some (.ref f))(hb:Binds K fd ["row","number"] [])(T:Txt K mg w)(d_halves_of:DefN P w K mg base "halves_of" 1 1 bo)(d_need_row_and_number_n:DefN P w K mg base "need_row_and_number" 4 2 aG)(d_table_of:DefN P w K mg base "table_of" 2 2 de):DefN P w K mg base "many_met" 5 2 F_many_met_n:=
 aI ["row","number","counts"] ["row","number"] 4 5 2 3 rfl rfl rfl F hm hb kj (m:=lE) λcdv A outer s H E hr=>(ao (cu (aB d_need_row_and_number_n (hr.mono (by decide)) Y1 (ah (vL 0) (ah (vC 1) aj)) (ai (ai au)))) (ao (aH kj.nd Y0 (Or.inr Y0) (dw (N:=["half"]) (k:=1) (caps:=[]) rfl (λ_ _ z=>z) (gq Y0 Y0 Y0 Y0 rfl Y0) (dv (aB d_halves_of (hr.mono (by decide)) Y1 (ah (vL 0) aj) (ai au))) (λ_ _ _ _=>(aM (show(["half"]:List Str).Nodup by decide +kernel) Y0 Y2)) (λ_ _ _ _=>eE) (λ_ _ _ _=>(aB d_table_of (hr.mono (by decide)) Y1 (ah (vL 0) (ah (yt T.m_SIGNS Y1) aj)) (ai (ai au)))))) (ax (aF (aL (BA rfl) Y1 T.b_sum zo (ah (dw (N:=["reached","ways","counts","number"]) (k:=2) (caps:=[2,1]) rfl (λ_ _ z=>z) (gq Y0 Y0 Y0 Y0 rfl Y0) (jq (bV (kC hr) (vC 2) ay)) (λ_ _ _ _=>(iL rfl (bA (aM (show(["reached","ways","counts","number"]:List Str).Nodup by decide +kernel) Y0 Y2) (bA (aM (show(["reached","ways","counts","number"]:List Str).Nodup by decide +kernel) Y0 Y2) fT)))) (λ_ _ _ _=>eE) (λ_ _ _ _=>(aJ eL (vL 1) (nX hr (bV (kC hr) (vC 2) ay) (aJ iM (vC 3) (vL 0)) ay (yr Y0 Y0 Y0 Y0))))) aj))))))
def nG:FnScope ["row","number"] ["row","number"] (defScope cC):=fsk
def nH(F:Fun K "comes_text" "comes_text" cC f fd)(hm:mg "comes_text" = some (.ref f))(hb:Binds K fd ["row","number"] [])(T:Txt K mg w)(d_many_met_n:DefN P w K mg base "many_met" 5 2 F_many_met_n):DefN P w K mg base "comes_text" 6 2 cP:=
 aI ["row","number"] ["row","number"] 5 6 2 2 rfl rfl rfl F hm hb nG (m:=jv) λcdv A outer s H E hr=>(ax (aF (mZ (bC yl (aB d_many_met_n (hr.mono (by decide)) Y1 (ah (vL 0) (ah (vL 1) aj)) (ai (ai au))) ay) ba ba)))
def mT:FnScope ["row"] ["row"] (defScope dR):=fsk
def mU(F:Fun K "half_worths" "half_worths" dR f fd)(hm:mg "half_worths" = some (.ref f))(hb:Binds K fd ["row"] [])(T:Txt K mg w)(d_halves_of:DefN P w K mg base "halves_of" 1 1 bo)(d_need_row_n:DefN P w K mg base "need_row" 3 1 aW)(d_table_of:DefN P w K mg base "table_of" 2 2 de):DefN P w K mg base "half_worths" 4 1 dm:=
 aI ["row"] ["row"] 3 4 1 1 rfl rfl rfl F hm hb mT (m:=i9) λcdv A outer s H E hr=>(ao (cu (aB d_need_row_n (hr.mono (by decide)) Y1 (ah (vL 0) aj) (ai au))) (ax (aF (aS oH Y1 T.b_tuple iF (ah (dw (N:=["half"]) (k:=1) (caps:=[]) rfl (λ_ _ z=>z) (gq Y0 Y0 Y0 Y0 rfl Y0) (dv (aB d_halves_of (hr.mono (by decide)) Y1 (ah (vL 0) aj) (ai au))) (λ_ _ _ _=>(aM (show(["half"]:List Str).Nodup by decide +kernel) Y0 Y2)) (λ_ _ _ _=>eE) (λ_ _ _ _=>(aS oH Y1 T.b_tuple iF (ah (aL (BM rfl) Y1 T.b_sorted pK (ah (aB d_table_of (hr.mono (by decide)) Y1 (ah (vL 0) (ah (yt T.m_SIGNS Y1) aj)) (ai (ai au))) aj)) aj)))) aj)))))
def eT:FnScope ["row","number","worths","walked","i","j","both"] ["row","number"] (defScope jN):=fsk
def AE(F:Fun K "walk" "walk" jN f fd)(hm:mg "walk" = some (.ref f))(hb:Binds K fd ["row","number"] [])(T:Txt K mg w)(d_half_worths_n:DefN P w K mg base "half_worths" 4 1 dm):DefN P w K mg base "walk" 5 2 e6:=
 aI ["row","number","worths","walked","i","j","both"] ["row","number"] 4 5 2 7 rfl rfl rfl F hm hb eT (m:=vn) λcdv A outer s H E hr=>(ao (aH eT.nd Y0 Y2 (aB d_half_worths_n (hr.mono (by decide)) Y1 (ah (vL 0) aj) (ai au))) (ao (aH eT.nd Y0 Y2 (oE aj)) (ao (aH eT.nd Y0 Y2 ay) (ao (aH eT.nd Y0 Y2 (aJ iM (aL d7 Y1 T.b_len cL (ah (bV cN (vL 2) ay) aj)) ay)) (ao (uW Zc (Bj (GP (bC yk (vL 4) (aL d7 Y1 T.b_len cL (ah (bV cN (vL 2) ay) aj))) (DF (bC uL (vL 5) ay)))) (ao (aH eT.nd Y0 Y2 (aJ bc (bV cN (bV cN (vL 2) ay) (vL 4)) (bV cN (bV cN (vL 2) ay) (vL 5)))) (ao (cu (wZ Ww Vn Vo mC (vL 3) (ah (iK (ah (vL 4) (ah (vL 5) (ah (vL 6) aj)))) aj))) (ax (cX (bC yk (vL 6) (vL 1)) (ax (aH eT.nd Y0 Y2 (aJ bc (vL 4) ay))) (ax (aH eT.nd Y0 Y2 (aJ iM (vL 5) ay)))))))) (ax (aF (vL 3))))))))
def xT:FnScope ["row","number"] ["row","number"] (defScope iQ):=fsk
def xV(F:Fun K "above" "above" iQ f fd)(hm:mg "above" = some (.ref f))(hb:Binds K fd ["row","number"] [])(T:Txt K mg w)(d_need_row_and_number_n:DefN P w K mg base "need_row_and_number" 4 2 aG)(d_walk_n:DefN P w K mg base "walk" 5 2 e6):DefN P w K mg base "above" 6 2 F_above_n:=
 aI ["row","number"] ["row","number"] 5 6 2 2 rfl rfl rfl F hm hb xT (m:=rn) λcdv A outer s H E hr=>(ao (cu (aB d_need_row_and_number_n (hr.mono (by decide)) Y1 (ah (vL 0) (ah (vC 1) aj)) (ai (ai au)))) (ax (aF (mF (yz rfl hr) Y1 T.b_min lP (ah (dw (N:=["i","j","both","number"]) (k:=3) (caps:=[1]) rfl (λ_ _ z=>z) (gq Y0 Y0 Y0 Y0 rfl Y0) (BO (aB d_walk_n (hr.mono (by decide)) Y1 (ah (vL 0) (ah (vC 1) aj)) (ai (ai au)))) (λ_ _ _ _=>(iL rfl (bA (aM (show(["i","j","both","number"]:List Str).Nodup by decide +kernel) Y0 Y2) (bA (aM (show(["i","j","both","number"]:List Str).Nodup by decide +kernel) Y0 Y2) (bA (aM (show(["i","j","both","number"]:List Str).Nodup by decide +kernel) Y0 Y2) fT))))) (λ_ _ _ _=>(sP (bC uL (vL 2) (vC 3)))) (λ_ _ _ _=>(vL 2))) aj)))))
def nI:FnScope ["row"] ["row"] (defScope eI):=fsk
def nJ(F:Fun K "unevenness" "unevenness" eI f fd)(hm:mg "unevenness" = some (.ref f))(hb:Binds K fd ["row"] [])(T:Txt K mg w)(d_above_n:DefN P w K mg base "above" 6 2 F_above_n):DefN P w K mg base "unevenness" 7 1 F_unevenness_n:=
 aI ["row"] ["row"] 6 7 1 1 rfl rfl rfl F hm hb nI (m:=jw) λcdv A outer s H E hr=>(ax (aF (aB d_above_n (hr.mono (by decide)) Y1 (ah (vL 0) (ah ay aj)) (ai (ai au)))))
def pL:FnScope ["row"] ["row"] (defScope cQ):=fsk
def pN(F:Fun K "even_text" "even_text" cQ f fd)(hm:mg "even_text" = some (.ref f))(hb:Binds K fd ["row"] [])(T:Txt K mg w)(d_unevenness_n:DefN P w K mg base "unevenness" 7 1 F_unevenness_n):DefN P w K mg base "even_text" 8 1 dq:=
 aI ["row"] ["row"] 7 8 1 1 rfl rfl rfl F hm hb pL (m:=ka) λcdv A outer s H E hr=>(ax (aF (aS dG Y1 T.b_str cy (ah (aB d_unevenness_n (hr.mono (by decide)) Y1 (ah (vL 0) aj) (ai au)) aj))))
def cz:FnScope ["row","times","ahead","number"] ["row","times"] (defScope cw):=fsk
def jh(F:Fun K "ahead_of_too_great" "ahead_of_too_great" cw f fd)(hm:mg "ahead_of_too_great" = some (.ref f))(hb:Binds K fd ["row","times"] [])(T:Txt K mg w):DefN P w K mg base "ahead_of_too_great" 1 2 bh:=
 aI ["row","times","ahead","number"] ["row","times"] 0 1 2 4 rfl rfl rfl F hm hb cz (m:=fK) λcdv A outer s H E hr=>(ao (aH cz.nd Y0 Y2 ay) (ao (dZ Zc rfl (dv (aL (BM rfl) Y1 T.b_sorted pK (ah (vL 0) aj))) (aM cz.nd Y0 Y2) (ao (cX (bC yl (vL 3) (aJ bc (aJ eL (vL 1) (vL 2)) ay)) (ax (aF (vL 2))) bT) (ax (aH cz.nd Y0 Y2 (aJ bc (vL 2) (vL 3)))))) (ax (aF kn))))
def jW:FnScope ["row"] ["row"] (defScope cJ):=fsk
def jX(F:Fun K "every_by_parts" "every_by_parts" cJ f fd)(hm:mg "every_by_parts" = some (.ref f))(hb:Binds K fd ["row"] [])(T:Txt K mg w)(d_ahead_of_too_great:DefN P w K mg base "ahead_of_too_great" 1 2 bh)(d_need_row_n:DefN P w K mg base "need_row" 3 1 aW):DefN P w K mg base "every_by_parts" 4 1 F_every_by_parts_n:=
 aI ["row"] ["row"] 3 4 1 1 rfl rfl rfl F hm hb jW (m:=gw) λcdv A outer s H E hr=>(ao (cu (aB d_need_row_n (hr.mono (by decide)) Y1 (ah (vL 0) aj) (ai au))) (ax (aF (iJ qP (aB d_ahead_of_too_great (hr.mono (by decide)) Y1 (ah (vL 0) (ah (qL T.c_TIMES_BY_PARTS Y1) aj)) (ai (ai au))) kn))))
def jY:FnScope ["row"] ["row"] (defScope cK):=fsk
def jZ(F:Fun K "every_by_signs" "every_by_signs" cK f fd)(hm:mg "every_by_signs" = some (.ref f))(hb:Binds K fd ["row"] [])(T:Txt K mg w)(d_ahead_of_too_great:DefN P w K mg base "ahead_of_too_great" 1 2 bh)(d_need_row_n:DefN P w K mg base "need_row" 3 1 aW):DefN P w K mg base "every_by_signs" 4 1 F_every_by_signs_n:=
 aI ["row"] ["row"] 3 4 1 1 rfl rfl rfl F hm hb jY (m:=gx) λcdv A outer s H E hr=>(ao (cu (aB d_need_row_n (hr.mono (by decide)) Y1 (ah (vL 0) aj) (ai au))) (ax (aF (iJ qP (aB d_ahead_of_too_great (hr.mono (by decide)) Y1 (ah (vL 0) (ah (qL T.c_TIMES_BY_SIGNS Y1) aj)) (ai (ai au))) kn))))
def nK:FnScope ["row"] ["row"] (defScope cD):=fsk
def nM(F:Fun K "every_text" "every_text" cD f fd)(hm:mg "every_text" = some (.ref f))(hb:Binds K fd ["row"] [])(T:Txt K mg w)(d_every_by_parts_n:DefN P w K mg base "every_by_parts" 4 1 F_every_by_parts_n)(d_every_by_signs_n:DefN P w K mg base "every_by_signs" 4 1 F_every_by_signs_n):DefN P w K mg base "every_text" 5 1 cR:=
 aI ["row"] ["row"] 4 5 1 1 rfl rfl rfl F hm hb nK (m:=jx) λcdv A outer s H E hr=>(ao (cX (fN (aB d_every_by_signs_n (hr.mono (by decide)) Y1 (ah (vL 0) aj) (ai au))) (ax (aF ba)) bT) (ax (aF (mZ (fN (aB d_every_by_parts_n (hr.mono (by decide)) Y1 (ah (vL 0) aj) (ai au))) ba ba))))
def xW:FnScope ["row","number"] ["row","number"] (defScope iR):=fsk
def xX(F:Fun K "below" "below" iR f fd)(hm:mg "below" = some (.ref f))(hb:Binds K fd ["row","number"] [])(T:Txt K mg w)(d_need_row_and_number_n:DefN P w K mg base "need_row_and_number" 4 2 aG)(d_walk_n:DefN P w K mg base "walk" 5 2 e6):DefN P w K mg base "below" 6 2 F_below_n:=
 aI ["row","number"] ["row","number"] 5 6 2 2 rfl rfl rfl F hm hb xW (m:=rp) λcdv A outer s H E hr=>(ao (cu (aB d_need_row_and_number_n (hr.mono (by decide)) Y1 (ah (vL 0) (ah (vC 1) aj)) (ai (ai au)))) (ax (aF (mF (D5 rfl hr) Y1 T.b_max tX (ah (dw (N:=["i","j","both","number"]) (k:=3) (caps:=[1]) rfl (λ_ _ z=>z) (gq Y0 Y0 Y0 Y0 rfl Y0) (BO (aB d_walk_n (hr.mono (by decide)) Y1 (ah (vL 0) (ah (vC 1) aj)) (ai (ai au)))) (λ_ _ _ _=>(iL rfl (bA (aM (show(["i","j","both","number"]:List Str).Nodup by decide +kernel) Y0 Y2) (bA (aM (show(["i","j","both","number"]:List Str).Nodup by decide +kernel) Y0 Y2) (bA (aM (show(["i","j","both","number"]:List Str).Nodup by decide +kernel) Y0 Y2) fT))))) (λ_ _ _ _=>(sP (bC uK (vL 2) (vC 3)))) (λ_ _ _ _=>(vL 2))) aj)))))
def lR:FnScope ["number"] ["number"] (defScope dz):=fsk
def lS(F:Fun K "number_or_none" "number_or_none" dz f fd)(hm:mg "number_or_none" = some (.ref f))(hb:Binds K fd ["number"] [])(T:Txt K mg w):DefN P w K mg base "number_or_none" 1 1 ck:=
 aI ["number"] ["number"] 0 1 1 1 rfl rfl rfl F hm hb lR (m:=iy) λcdv A outer s H E hr=>(ax (aF (mZ (bC qP (vL 0) kn) ba (aS dG Y1 T.b_str cy (ah (vL 0) aj)))))
def pO:FnScope ["row","number"] ["row","number"] (defScope cS):=fsk
def pP(F:Fun K "near_text" "near_text" cS f fd)(hm:mg "near_text" = some (.ref f))(hb:Binds K fd ["row","number"] [])(T:Txt K mg w)(d_above_n:DefN P w K mg base "above" 6 2 F_above_n)(d_below_n:DefN P w K mg base "below" 6 2 F_below_n)(d_number_or_none:DefN P w K mg base "number_or_none" 1 1 ck):DefN P w K mg base "near_text" 7 2 dr:=
 aI ["row","number"] ["row","number"] 6 7 2 2 rfl rfl rfl F hm hb pO (m:=kc) λcdv A outer s H E hr=>(ax (aF (aJ bc (aJ bc (aB d_number_or_none (hr.mono (by decide)) Y1 (ah (aB d_below_n (hr.mono (by decide)) Y1 (ah (vL 0) (ah (vL 1) aj)) (ai (ai au))) aj) (ai au)) ba) (aB d_number_or_none (hr.mono (by decide)) Y1 (ah (aB d_above_n (hr.mono (by decide)) Y1 (ah (vL 0) (ah (vL 1) aj)) (ai (ai au))) aj) (ai au)))))
def wy:FnScope ["row"] ["row"] (defScope eR):=fsk
def wz(F:Fun K "row_text" "row_text" eR f fd)(hm:mg "row_text" = some (.ref f))(hb:Binds K fd ["row"] [])(T:Txt K mg w):DefN P w K mg base "row_text" 1 1 eO:=
 aI ["row"] ["row"] 0 1 1 1 rfl rfl rfl F hm hb wy (m:=o5) λcdv A outer s H E hr=>(ax (aF (mZ (bC (sU hr) (vL 0) (iK aj)) (js Zz V6 V7 nZ ba (ah (dw (N:=["number"]) (k:=1) (caps:=[]) rfl (λ_ _ z=>z) (gq Y0 Y0 Y0 Y0 rfl Y0) (dv (vL 0)) (λ_ _ _ _=>(aM (show(["number"]:List Str).Nodup by decide +kernel) Y0 Y2)) (λ_ _ _ _=>eE) (λ_ _ _ _=>(aS dG Y1 T.b_str cy (ah (vL 0) aj)))) aj)) ba)))
def bD:FnScope ["firsts","step","longer","reached","signs","sign","there","chosen"] ["firsts","step"] (defScope dC):=fsk
def lT(F:Fun K "firsts_stepped" "firsts_stepped" dC f fd)(hm:mg "firsts_stepped" = some (.ref f))(hb:Binds K fd ["firsts","step"] [])(T:Txt K mg w):DefN P w K mg base "firsts_stepped" 1 2 cn:=
 aI ["firsts","step","longer","reached","signs","sign","there","chosen"] ["firsts","step"] 0 1 2 8 rfl rfl rfl F hm hb bD (m:=iz) λcdv A outer s H E hr=>(ao (aH bD.nd Y0 Y2 sW) (ao (dZ Zc rfl (jq (vL 0)) (iL rfl (bA (aM bD.nd Y0 Y2) (bA (aM bD.nd Y0 Y2) fT))) (ax (dZ Zc rfl (dv (yt T.m_SIGNS Y1)) (aM bD.nd Y0 Y2) (ao (aH bD.nd Y0 Y2 (aJ bc (vL 3) (aJ eL (vL 5) (vL 1)))) (ao (aH bD.nd Y0 Y2 (aJ bc (vL 4) (iK (ah (vL 5) aj)))) (ax (g8 (fU hr) (aL (D3 rfl hr) Y1 T.b_min lP (ah (vL 7) (ah (nX hr (vL 2) (vL 6) (vL 7) (yr Y0 Y0 Y0 Y0)) aj))) (vL 2) (vL 6)))))))) (ax (aF (vL 2)))))
def gi:FnScope ["row","firsts","step"] ["row"] (defScope fX):=fsk
def t5(F:Fun K "firsts_of" "firsts_of" fX f fd)(hm:mg "firsts_of" = some (.ref f))(hb:Binds K fd ["row"] [])(T:Txt K mg w)(d_firsts_stepped:DefN P w K mg base "firsts_stepped" 1 2 cn):DefN P w K mg base "firsts_of" 2 1 eS:=
 aI ["row","firsts","step"] ["row"] 1 2 1 3 rfl rfl rfl F hm hb gi (m:=nt) λcdv A outer s H E hr=>(ao (aH gi.nd Y0 Y2 (nY (jo ay (iK aj) nW))) (ao (dZ Zc rfl (dv (vL 0)) (aM gi.nd Y0 Y2) (ax (aH gi.nd Y0 Y2 (aB d_firsts_stepped (hr.mono (by decide)) Y1 (ah (vL 1) (ah (vL 2) aj)) (ai (ai au)))))) (ax (aF (vL 1)))))
def gC:FnScope ["row","number","firsts","met"] ["row","number"] (defScope e8):=fsk
def pQ(F:Fun K "first_met" "first_met" e8 f fd)(hm:mg "first_met" = some (.ref f))(hb:Binds K fd ["row","number"] [])(T:Txt K mg w)(d_firsts_of:DefN P w K mg base "firsts_of" 2 1 eS)(d_halves_of:DefN P w K mg base "halves_of" 1 1 bo)(d_need_row_and_number_n:DefN P w K mg base "need_row_and_number" 4 2 aG):DefN P w K mg base "first_met" 5 2 F_first_met_n:=
 aI ["row","number","firsts","met"] ["row","number"] 4 5 2 4 rfl rfl rfl F hm hb gC (m:=kd) λcdv A outer s H E hr=>(ao (cu (aB d_need_row_and_number_n (hr.mono (by decide)) Y1 (ah (vL 0) (ah (vC 1) aj)) (ai (ai au)))) (ao (aH gC.nd Y0 (Or.inr Y0) (dw (N:=["half"]) (k:=1) (caps:=[]) rfl (λ_ _ z=>z) (gq Y0 Y0 Y0 Y0 rfl Y0) (dv (aB d_halves_of (hr.mono (by decide)) Y1 (ah (vL 0) aj) (ai au))) (λ_ _ _ _=>(aM (show(["half"]:List Str).Nodup by decide +kernel) Y0 Y2)) (λ_ _ _ _=>eE) (λ_ _ _ _=>(aB d_firsts_of (hr.mono (by decide)) Y1 (ah (vL 0) aj) (ai au))))) (ao (DU (i0:=3) (N:=["reached","signs","firsts","number"]) (k:=2) (caps:=[2,1]) gC.nd Y0 Y2 rfl (λ_ _ z=>z) (gq Y0 Y0 Y0 Y0 rfl Y0) (jq (bV (kC hr) (vC 2) ay)) (λ_ _ _ _=>(iL rfl (bA (aM (show(["reached","signs","firsts","number"]:List Str).Nodup by decide +kernel) Y0 Y2) (bA (aM (show(["reached","signs","firsts","number"]:List Str).Nodup by decide +kernel) Y0 Y2) fT)))) (λ_ _ _ _=>(sP (bC (G8 hr) (aJ iM (vC 3) (vL 0)) (bV (kC hr) (vC 2) ay)))) (λ_ _ _ _=>(aJ bc (vL 1) (bV (kC hr) (bV (kC hr) (vC 2) ay) (aJ iM (vC 3) (vL 0)))))) (ax (aF (mF (yz rfl hr) Y1 T.b_min lP (ah (vL 3) aj)))))))
def eu:FnScope ["number","behind","rest"] ["number"] (defScope fE):=fsk
def qq(F:Fun K "figures_of" "figures_of" fE f fd)(hm:mg "figures_of" = some (.ref f))(hb:Binds K fd ["number"] [])(T:Txt K mg w):DefN P w K mg base "figures_of" 1 1 dS:=
 aI ["number","behind","rest"] ["number"] 0 1 1 3 rfl rfl rfl F hm hb eu (m:=lF) λcdv A outer s H E hr=>(ao (aH eu.nd Y0 Y2 ba) (ao (aH eu.nd Y0 Y2 (vL 0)) (ao (uW Zc (bC uL (vL 2) (aJ sA ay ay)) (ao (aH eu.nd Y0 Y2 (aJ bc (js Zz PySem.F.slot_str_zfill PySem.F.type_str_zfill BU (aS dG Y1 T.b_str cy (ah (aJ mr (vL 2) (aJ sA ay ay)) aj)) (ah (qL T.c_PIECE Y1) aj)) (vL 1))) (ax (aH eu.nd Y0 Y2 (aJ sy (vL 2) (aJ sA ay ay)))))) (ax (aF (aJ bc (aS dG Y1 T.b_str cy (ah (vL 2) aj)) (vL 1)))))))
def t6:FnScope ["thing","many"] ["thing","many"] (defScope fY):=fsk
def t7(F:Fun K "are_whole" "are_whole" fY f fd)(hm:mg "are_whole" = some (.ref f))(hb:Binds K fd ["thing","many"] [])(T:Txt K mg w)(d_is_whole:DefN P w K mg base "is_whole" 1 1 bL):DefN P w K mg base "are_whole" 2 2 fL:=
 aI ["thing","many"] ["thing","many"] 1 2 2 2 rfl rfl rfl F hm hb t6 (m:=nu) λcdv A outer s H E hr=>(ax (aF (mi (aL oI Y1 T.b_isinstance dI (ah (vL 0) (ah (uC Y1 T.b_tuple iF) aj))) (mi (iJ (fP hr) (aL d7 Y1 T.b_len cL (ah (vL 0) aj)) (vL 1)) (mf (aL (sN rfl) Y1 T.b_all oo (ah (dw (N:=["number"]) (k:=1) (caps:=[]) rfl (λ_ _ z=>z) (gq Y0 Y0 Y0 Y0 rfl Y0) (dv (vL 0)) (λ_ _ _ _=>(aM (show(["number"]:List Str).Nodup by decide +kernel) Y0 Y2)) (λ_ _ _ _=>eE) (λ_ _ _ _=>(aB d_is_whole (hr.mono (by decide)) Y1 (ah (vL 0) aj) (ai au)))) aj)))))))
def pR:FnScope ["thing","row"] ["thing","row"] (defScope fc):=fsk
def pS(F:Fun K "are_parts" "are_parts" fc f fd)(hm:mg "are_parts" = some (.ref f))(hb:Binds K fd ["thing","row"] [])(T:Txt K mg w)(d_are_whole:DefN P w K mg base "are_whole" 2 2 fL)(d_need_row_n:DefN P w K mg base "need_row" 3 1 aW):DefN P w K mg base "are_parts" 4 2 d9:=
 aI ["thing","row"] ["thing","row"] 3 4 2 2 rfl rfl rfl F hm hb pR (m:=ke) λcdv A outer s H E hr=>(ao (cu (aB d_need_row_n (hr.mono (by decide)) Y1 (ah (vL 1) aj) (ai au))) (ax (aF (mi (aB d_are_whole (hr.mono (by decide)) Y1 (ah (vL 0) (ah (aL d7 Y1 T.b_len cL (ah (vL 1) aj)) aj)) (ai (ai au))) (mf (aL (sN rfl) Y1 T.b_all oo (ah (dw (N:=["part"]) (k:=1) (caps:=[]) rfl (λ_ _ z=>z) (gq Y0 Y0 Y0 Y0 rfl Y0) (dv (vL 0)) (λ_ _ _ _=>(aM (show(["part"]:List Str).Nodup by decide +kernel) Y0 Y2)) (λ_ _ _ _=>eE) (λ_ _ _ _=>(uD uK uK (Fe Bo ay) (vL 0) ay))) aj)))))))
def nN:FnScope ["row","thing"] ["row","thing"] (defScope eJ):=fsk
def nO(F:Fun K "need_parts" "need_parts" eJ f fd)(hm:mg "need_parts" = some (.ref f))(hb:Binds K fd ["row","thing"] [])(T:Txt K mg w)(d_are_parts_n:DefN P w K mg base "are_parts" 4 2 d9):DefN P w K mg base "need_parts" 5 2 dH:=
 aI ["row","thing"] ["row","thing"] 4 5 2 2 rfl rfl rfl F hm hb nN (m:=jy) λcdv A outer s H E hr=>(ax (cX (ko (fN (aB d_are_parts_n (hr.mono (by decide)) Y1 (ah (vL 1) (ah (vL 0) aj)) (ai (ai au))))) (ax eU) bT))
def AF:FnScope ["row","parts"] ["row","parts"] (defScope jO):=fsk
def AG(F:Fun K "show" "show" jO f fd)(hm:mg "show" = some (.ref f))(hb:Binds K fd ["row","parts"] [])(T:Txt K mg w)(d_figures_of:DefN P w K mg base "figures_of" 1 1 dS)(d_need_parts_n:DefN P w K mg base "need_parts" 5 2 dH):DefN P w K mg base "show" 6 2 ef:=
 aI ["row","parts"] ["row","parts"] 5 6 2 2 rfl rfl rfl F hm hb AF (m:=vo) λcdv A outer s H E hr=>(ao (cu (aB d_need_parts_n (hr.mono (by decide)) Y1 (ah (vL 0) (ah (vL 1) aj)) (ai (ai au)))) (ax (aF (js Zz V6 V7 nZ ba (ah (dw (N:=["number","part"]) (k:=2) (caps:=[]) rfl (λ_ _ z=>z) (gq Y0 Y0 Y0 Y0 rfl Y0) (G4 Y1 T.b_zip (ah (vL 0) (ah (vL 1) aj))) (λ_ _ _ _=>(iL rfl (bA (aM (show(["number","part"]:List Str).Nodup by decide +kernel) Y0 Y2) (bA (aM (show(["number","part"]:List Str).Nodup by decide +kernel) Y0 Y2) fT)))) (λ_ _ _ _=>eE) (λ_ _ _ _=>(aJ bc (Eb T.e_MARK_OF Y1 (vL 1)) (aB d_figures_of (hr.mono (by decide)) Y1 (ah (vL 0) aj) (ai au))))) aj)))))
def jc:FnScope ["row","number","signs"] ["row","number"] (defScope cE):=fsk
def nP(F:Fun K "signs_text" "signs_text" cE f fd)(hm:mg "signs_text" = some (.ref f))(hb:Binds K fd ["row","number"] [])(T:Txt K mg w)(d_first_met_n:DefN P w K mg base "first_met" 5 2 F_first_met_n)(d_show_n:DefN P w K mg base "show" 6 2 ef):DefN P w K mg base "signs_text" 7 2 cT:=
 aI ["row","number","signs"] ["row","number"] 6 7 2 3 rfl rfl rfl F hm hb jc (m:=jz) λcdv A outer s H E hr=>(ao (aH jc.nd Y0 Y2 (aB d_first_met_n (hr.mono (by decide)) Y1 (ah (vL 0) (ah (vL 1) aj)) (ai (ai au)))) (ax (aF (mZ (bC qP (vL 2) kn) ba (aB d_show_n (hr.mono (by decide)) Y1 (ah (vL 0) (ah (vL 2) aj)) (ai (ai au)))))))
def bE:FnScope ["swings","step","longer","reached","swung","sign","there","further"] ["swings","step"] (defScope dD):=fsk
def lU(F:Fun K "swings_stepped" "swings_stepped" dD f fd)(hm:mg "swings_stepped" = some (.ref f))(hb:Binds K fd ["swings","step"] [])(T:Txt K mg w):DefN P w K mg base "swings_stepped" 1 2 cq:=
 aI ["swings","step","longer","reached","swung","sign","there","further"] ["swings","step"] 0 1 2 8 rfl rfl rfl F hm hb bE (m:=iA) λcdv A outer s H E hr=>(ao (aH bE.nd Y0 Y2 sW) (ao (dZ Zc rfl (jq (vL 0)) (iL rfl (bA (aM bE.nd Y0 Y2) (bA (aM bE.nd Y0 Y2) fT))) (ax (dZ Zc rfl (dv (yt T.m_SIGNS Y1)) (aM bE.nd Y0 Y2) (ao (aH bE.nd Y0 Y2 (aJ bc (vL 3) (aJ eL (vL 5) (vL 1)))) (ao (aH bE.nd Y0 Y2 (aL (Bt rfl) Y1 T.b_max tX (ah (vL 4) (ah (aL GX Y1 T.b_abs E7 (ah (vL 6) aj)) aj)))) (ax (g8 (fU hr) (aL (wX rfl) Y1 T.b_min lP (ah (vL 7) (ah (nX hr (vL 2) (vL 6) (vL 7) (yr Y0 Y0 Y0 Y0)) aj))) (vL 2) (vL 6)))))))) (ax (aF (vL 2)))))
def dX:FnScope ["row","swings","step"] ["row"] (defScope dU):=fsk
def mV(F:Fun K "least_swing" "least_swing" dU f fd)(hm:mg "least_swing" = some (.ref f))(hb:Binds K fd ["row"] [])(T:Txt K mg w)(d_need_row_n:DefN P w K mg base "need_row" 3 1 aW)(d_swings_stepped:DefN P w K mg base "swings_stepped" 1 2 cq):DefN P w K mg base "least_swing" 4 1 F_least_swing_n:=
 aI ["row","swings","step"] ["row"] 3 4 1 3 rfl rfl rfl F hm hb dX (m:=ja) λcdv A outer s H E hr=>(ao (cu (aB d_need_row_n (hr.mono (by decide)) Y1 (ah (vL 0) aj) (ai au))) (ao (aH dX.nd Y0 Y2 (nY (jo ay ay nW))) (ao (dZ Zc rfl (dv (vL 0)) (aM dX.nd Y0 Y2) (ax (aH dX.nd Y0 Y2 (aB d_swings_stepped (hr.mono (by decide)) Y1 (ah (vL 1) (ah (vL 2) aj)) (ai (ai au)))))) (ax (aF (D8 rfl Y1 T.b_min (vL 1)))))))
def nQ:FnScope ["row"] ["row"] (defScope cF):=fsk
def nR(F:Fun K "swing_text" "swing_text" cF f fd)(hm:mg "swing_text" = some (.ref f))(hb:Binds K fd ["row"] [])(T:Txt K mg w)(d_least_swing_n:DefN P w K mg base "least_swing" 4 1 F_least_swing_n):DefN P w K mg base "swing_text" 5 1 cU:=
 aI ["row"] ["row"] 4 5 1 1 rfl rfl rfl F hm hb nQ (m:=jA) λcdv A outer s H E hr=>(ax (aF (aS dG Y1 T.b_str cy (ah (aB d_least_swing_n (hr.mono (by decide)) Y1 (ah (vL 0) aj) (ai au)) aj))))
def pU:FnScope ["row","number"] ["row","number"] (defScope cV):=fsk
def pV(F:Fun K "ways_text" "ways_text" cV f fd)(hm:mg "ways_text" = some (.ref f))(hb:Binds K fd ["row","number"] [])(T:Txt K mg w)(d_many_met_n:DefN P w K mg base "many_met" 5 2 F_many_met_n):DefN P w K mg base "ways_text" 6 2 dt:=
 aI ["row","number"] ["row","number"] 5 6 2 2 rfl rfl rfl F hm hb pU (m:=kf) λcdv A outer s H E hr=>(ax (aF (aS dG Y1 T.b_str cy (ah (aB d_many_met_n (hr.mono (by decide)) Y1 (ah (vL 0) (ah (vL 1) aj)) (ai (ai au))) aj))))
def gZ:FnScope ["word","figures"] ["word"] (defScope dE):=fsk
def lV(F:Fun K "is_number_word" "is_number_word" dE f fd)(hm:mg "is_number_word" = some (.ref f))(hb:Binds K fd ["word"] [])(T:Txt K mg w):DefN P w K mg base "is_number_word" 1 1 bM:=
 aI ["word","figures"] ["word"] 0 1 1 2 rfl rfl rfl F hm hb gZ (m:=iB) λcdv A outer s H E hr=>(ao (aH gZ.nd Y0 Y2 (mZ (fN (js Zz Ux Uy rj (vL 0) (ah ba aj))) (qJ Hg (vL 0) (jJ ay) jI) (vL 0))) (ao (cX (fN (js Zz Ux Uy rj (vL 1) (ah ba aj))) (ax (aF (iJ (fP hr) (vL 0) ba))) bT) (ax (aF (mi (uD uK uK ay (aL d7 Y1 T.b_len cL (ah (vL 1) aj)) (qL T.c_MOST_FIGURES Y1)) (mf (aL (sN rfl) Y1 T.b_all oo (ah (dw (N:=["figure"]) (k:=1) (caps:=[]) rfl (λ_ _ z=>z) (gq Y0 Y0 Y0 Y0 rfl Y0) (Hh (vL 1)) (λ_ _ _ _=>(aM (show(["figure"]:List Str).Nodup by decide +kernel) Y0 Y2)) (λ_ _ _ _=>eE) (λ_ _ _ _=>(iJ He (vL 0) (Jt T.s_FIGURES Y1)))) aj))))))))
def xY:FnScope ["words"] ["words"] (defScope iS):=fsk
def xZ(F:Fun K "is_line" "is_line" iS f fd)(hm:mg "is_line" = some (.ref f))(hb:Binds K fd ["words"] [])(T:Txt K mg w)(d_is_number_word:DefN P w K mg base "is_number_word" 1 1 bM):DefN P w K mg base "is_line" 2 1 iC:=
 aI ["words"] ["words"] 1 2 1 1 rfl rfl rfl F hm hb xY (m:=rq) λcdv A outer s H E hr=>(ao (cX (bC (fP hr) (aL d7 Y1 T.b_len cL (ah (vL 0) aj)) ay) (ax (aF (Jj (iJ Bq (bV cN (vL 0) ay) (Hl T.ts_CHANGED_ALONE Y1)) (mf (BY T.f_ASKED_ALONE Y1 (bV cN (vL 0) ay)))))) bT) (ao (cX (Bj (Fg (bC (sU hr) (aL d7 Y1 T.b_len cL (ah (vL 0) aj)) ay) (Bi (ko (fN (aB d_is_number_word (hr.mono (by decide)) Y1 (ah (bV cN (vL 0) ay) aj) (ai au))))))) (ax (aF uB)) bT) (ao (cX (bC (fP hr) (bV cN (vL 0) ay) ba) (ax (aF (iJ uL (aS sZ Y1 T.b_int jT (ah (bV cN (vL 0) ay) aj)) ay))) bT) (ax (aF (BY T.f_ASKED_OF_A_NUMBER Y1 (bV cN (vL 0) ay)))))))
def gD:FnScope ["line","words"] ["line"] (defScope dg):=fsk
def kW(F:Fun K "words_of_line" "words_of_line" dg f fd)(hm:mg "words_of_line" = some (.ref f))(hb:Binds K fd ["line"] [])(T:Txt K mg w)(d_is_line:DefN P w K mg base "is_line" 2 1 iC):DefN P w K mg base "words_of_line" 3 1 bp:=
 aI ["line","words"] ["line"] 2 3 1 2 rfl rfl rfl F hm hb gD (m:=gQ) λcdv A outer s H E hr=>(ao (cX (ko (fN (aL oI Y1 T.b_isinstance dI (ah (vL 0) (ah (uC Y1 T.b_str cy) aj))))) (ax eU) bT) (ao (aH gD.nd Y0 Y2 (js Zz PySem.F.slot_str_split PySem.F.type_str_split BW (vL 0) (ah ba aj))) (ao (cX (ko (fN (aB d_is_line (hr.mono (by decide)) Y1 (ah (vL 1) aj) (ai au)))) (ax eU) bT) (ax (aF (vL 1))))))
def ie:FnScope ["self","line","words","row"] ["self","line"] (defScope du):=fsk
def qr(F:Fun K "say" "Desk.say" du f fd)(ns:nsIn K mainGlobals "Desk" = some (some (.ref C)))(hc:L2.Cls K C)(hm:Meth K C "say" f)(hb:Binds K fd ["self","line"] [])(T:Txt K mg w)(d_Keeper_back_n:MetN P w K mg base "Keeper" "back" 1 1 eF)(d_Keeper_put_n:MetN P w K mg base "Keeper" "put" 4 2 cO)(d_Keeper_row:MetN P w K mg base "Keeper" "row" 1 1 eZ)(d_Keeper_take_n:MetN P w K mg base "Keeper" "take" 2 1 eG)(d_comes_text_n:DefN P w K mg base "comes_text" 6 2 cP)(d_even_text_n:DefN P w K mg base "even_text" 8 1 dq)(d_every_text_n:DefN P w K mg base "every_text" 5 1 cR)(d_near_text_n:DefN P w K mg base "near_text" 7 2 dr)(d_row_text:DefN P w K mg base "row_text" 1 1 eO)(d_signs_text_n:DefN P w K mg base "signs_text" 7 2 cT)(d_swing_text_n:DefN P w K mg base "swing_text" 5 1 cU)(d_ways_text_n:DefN P w K mg base "ways_text" 6 2 dt)(d_words_of_line_n:DefN P w K mg base "words_of_line" 3 1 bp):MetN P w K mg base "Desk" "say" 9 2 bP:=
 jL ["self","line","words","row"] ["self","line"] 8 9 2 4 rfl rfl rfl F ns hc hm hb ie (m:=lG) λcdv A outer s H E hr=>(ao (aH ie.nd Y0 Y2 (aB d_words_of_line_n (hr.mono (by decide)) Y1 (ah (vL 1) aj) (ai au))) (ao (cX (bC (fP hr) (bV cN (vL 2) ay) ba) (ax (aF (aS dG Y1 T.b_str cy (ah (lz d_Keeper_put_n (hr.mono (by decide)) (eY T.kc_Desk T.na_Desk_keeper (vL 0)) (ah (aS sZ Y1 T.b_int jT (ah (bV cN (vL 2) ay) aj)) aj) (ai au)) aj)))) bT) (ao (cX (bC (fP hr) (bV cN (vL 2) ay) ba) (ax (aF (aS dG Y1 T.b_str cy (ah (oU d_Keeper_take_n (hr.mono (by decide)) (eY T.kc_Desk T.na_Desk_keeper (vL 0))) aj)))) bT) (ao (cX (bC (fP hr) (bV cN (vL 2) ay) ba) (ax (aF (aS dG Y1 T.b_str cy (ah (oU d_Keeper_back_n (hr.mono (by decide)) (eY T.kc_Desk T.na_Desk_keeper (vL 0))) aj)))) bT) (ao (aH ie.nd Y0 Y2 (oU d_Keeper_row (hr.mono (by decide)) (eY T.kc_Desk T.na_Desk_keeper (vL 0)))) (ao (cX (bC (fP hr) (aL d7 Y1 T.b_len cL (ah (vL 2) aj)) ay) (ax (aF (yI (k:=8) (T:=eK) (gL (d_row_text.nx.up (by decide)) (Hj (gL (d_even_text_n.nx.up (by decide)) (gL (d_swing_text_n.nx.up (by decide)) (gL (d_every_text_n.nx.up (by decide)) yH))))) T.f_ASKED_ALONE gj (hr.mono (by decide)) Y1 (bV cN (vL 2) ay) (ah (vL 3) aj) (ai au)))) bT) (ax (aF (yI (k:=8) (T:=cx) (gL (d_comes_text_n.nx.up (by decide)) (gL (d_ways_text_n.nx.up (by decide)) (gL (d_signs_text_n.nx.up (by decide)) (gL (d_near_text_n.nx.up (by decide)) yH)))) T.f_ASKED_OF_A_NUMBER gj (hr.mono (by decide)) Y1 (bV cN (vL 2) ay) (ah (vL 3) (ah (aS sZ Y1 T.b_int jT (ah (bV cN (vL 2) ay) aj)) aj)) (ai (ai au)))))))))))
def cY:FnScope ["script","k","here","number","j","part"] ["script","k"] (defScope gR):=fsk
def wA(F:Fun K "_law_box" "_law_box" gR f fd)(hm:mg "_law_box" = some (.ref f))(hb:Binds K fd ["script","k"] [])(T:Txt K mg w):DefN P w K mg base "_law_box" 1 2 eP:=
 aI ["script","k","here","number","j","part"] ["script","k"] 0 1 2 6 rfl rfl rfl F hm hb cY (m:=iT) λcdv A outer s H E hr=>(ao (aH cY.nd Y0 Y2 (aJ bc (aJ eL ay (vL 1)) ay)) (ao (cX (bC yk (vL 1) (aL d7 Y1 T.b_len cL (ah (vL 0) aj))) (ax (aH cY.nd Y0 Y2 (bV cN (vL 0) (vL 1)))) bT) (ao (cX (bC (fP hr) (aJ mr (vL 2) ay) ay) (ax (aF (oE (ah (aJ sy (vL 2) ay) aj)))) bT) (ao (aH cY.nd Y0 Y2 ay) (ao (dZ Zc rfl (jH Y1 T.b_range (ah ay aj)) (aM cY.nd Y0 Y2) (ao (aH cY.nd Y0 Y2 (aJ mr (aJ bc (aJ bc (aJ eL (aJ mr (vL 2) ay) ay) (aJ eL ay (vL 4))) ay) ay)) (ao (aH cY.nd Y0 Y2 (aJ mr (aJ eL (vL 5) (vL 5)) ay)) (ax (aH cY.nd Y0 Y2 (aJ bc (aJ eL (vL 3) ay) (aJ mr (aJ eL (vL 5) (aJ bc (vL 5) ay)) ay))))))) (ax (aF (oE (ah (vL 3) aj)))))))))
def dJ:FnScope ["row","number","signs","ways","end","found","near"] ["row","number"] (defScope fe):=fsk
def pW(F:Fun K "_law_dues" "_law_dues" fe f fd)(hm:mg "_law_dues" = some (.ref f))(hb:Binds K fd ["row","number"] [])(T:Txt K mg w)(d_above_n:DefN P w K mg base "above" 6 2 F_above_n)(d_below_n:DefN P w K mg base "below" 6 2 F_below_n)(d_every_by_parts_n:DefN P w K mg base "every_by_parts" 4 1 F_every_by_parts_n)(d_every_by_signs_n:DefN P w K mg base "every_by_signs" 4 1 F_every_by_signs_n)(d_first_met_n:DefN P w K mg base "first_met" 5 2 F_first_met_n)(d_least_swing_n:DefN P w K mg base "least_swing" 4 1 F_least_swing_n)(d_many_met_n:DefN P w K mg base "many_met" 5 2 F_many_met_n)(d_show_n:DefN P w K mg base "show" 6 2 ef)(d_unevenness_n:DefN P w K mg base "unevenness" 7 1 F_unevenness_n):DefN P w K mg base "_law_dues" 8 2 eh:=
 aI ["row","number","signs","ways","end","found","near"] ["row","number"] 7 8 2 7 rfl rfl rfl F hm hb dJ (m:=kg) λcdv A outer s H E hr=>(ao (GR rfl dJ.nd Y0 Y0 (by decide) Y0 Y0 (ah (aB d_first_met_n (hr.mono (by decide)) Y1 (ah (vL 0) (ah (vL 1) aj)) (ai (ai au))) (ah (aB d_many_met_n (hr.mono (by decide)) Y1 (ah (vL 0) (ah (vL 1) aj)) (ai (ai au))) aj))) (ao (aH dJ.nd Y0 Y2 (aJ bc ba (aS dG Y1 T.b_str cy (ah (vL 1) aj)))) (ao (aH dJ.nd Y0 Y2 (nY (jo (aJ bc ba (vL 4)) (bV cN (mj (ah ba (ah ba aj))) (aS wY Y1 T.b_int jT (ah (iJ yl (vL 3) ay) aj))) (jo (aJ bc ba (vL 4)) (aS dG Y1 T.b_str cy (ah (vL 3) aj)) nW)))) (ao (g8 (fU hr) (mZ (bC qP (vL 2) kn) ba (aB d_show_n (hr.mono (by decide)) Y1 (ah (vL 0) (ah (vL 2) aj)) (ai (ai au)))) (vL 5) (aJ bc ba (vL 4))) (ao (aH dJ.nd Y0 Y2 (mj (ah (aB d_below_n (hr.mono (by decide)) Y1 (ah (vL 0) (ah (vL 1) aj)) (ai (ai au))) (ah (aB d_above_n (hr.mono (by decide)) Y1 (ah (vL 0) (ah (vL 1) aj)) (ai (ai au))) aj)))) (ao (g8 (fU hr) (js Zz V6 V7 nZ ba (ah (dw (N:=["one"]) (k:=1) (caps:=[]) rfl (λ_ _ z=>z) (gq Y0 Y0 Y0 Y0 rfl Y0) (dv (vL 6)) (λ_ _ _ _=>(aM (show(["one"]:List Str).Nodup by decide +kernel) Y0 Y2)) (λ_ _ _ _=>eE) (λ_ _ _ _=>(mZ (bC qP (vL 0) kn) ba (aS dG Y1 T.b_str cy (ah (vL 0) aj))))) aj)) (vL 5) (aJ bc ba (vL 4))) (ao (g8 (fU hr) (aS dG Y1 T.b_str cy (ah (aB d_unevenness_n (hr.mono (by decide)) Y1 (ah (vL 0) aj) (ai au)) aj)) (vL 5) ba) (ao (g8 (fU hr) (aS dG Y1 T.b_str cy (ah (aB d_least_swing_n (hr.mono (by decide)) Y1 (ah (vL 0) aj) (ai au)) aj)) (vL 5) ba) (ao (g8 (fU hr) ba (vL 5) ba) (ao (cX (fN (aB d_every_by_parts_n (hr.mono (by decide)) Y1 (ah (vL 0) aj) (ai au))) (ax (g8 (fU hr) (bV cN (mj (ah ba (ah ba aj))) (aS wY Y1 T.b_int jT (ah (aB d_every_by_signs_n (hr.mono (by decide)) Y1 (ah (vL 0) aj) (ai au)) aj))) (vL 5) ba)) bT) (ax (aF (vL 5)))))))))))))
def i4:FnScope ["box","many","left","digit"] ["box","many"] (defScope fZ):=fsk
def t8(F:Fun K "_law_take" "_law_take" fZ f fd)(hm:mg "_law_take" = some (.ref f))(hb:Binds K fd ["box","many"] [])(T:Txt K mg w):DefN P w K mg base "_law_take" 1 2 aY:=
 aI ["box","many","left","digit"] ["box","many"] 0 1 2 4 rfl rfl rfl F hm hb i4 (m:=jB) λcdv A outer s H E hr=>(ao (GQ (aL zO Y1 T.b_divmod xQ (ah (bV cN (vL 0) ay) (ah (vL 1) aj))) (iL rfl (bA (aM i4.nd Y0 Y2) (bA (aM i4.nd Y0 Y2) fT)))) (ao (g8 Bv (vL 2) (vL 0) ay) (ax (aF (vL 3)))))
def fi:FnScope ["box","row","high","small","some"] ["box","row"] (defScope ff):=fsk
def pX(F:Fun K "_law_number" "_law_number" ff f fd)(hm:mg "_law_number" = some (.ref f))(hb:Binds K fd ["box","row"] [])(T:Txt K mg w)(d__law_take:DefN P w K mg base "_law_take" 1 2 aY):DefN P w K mg base "_law_number" 2 2 ei:=
 aI ["box","row","high","small","some"] ["box","row"] 1 2 2 5 rfl rfl rfl F hm hb fi (m:=kh) λcdv A outer s H E hr=>(ao (aH fi.nd Y0 Y2 (aL (BA rfl) Y1 T.b_sum zo (ah (vL 1) aj))) (ao (aH fi.nd Y0 Y2 (aJ iM (aB d__law_take (hr.mono (by decide)) Y1 (ah (vL 0) (ah ay aj)) (ai (ai au))) ay)) (ao (aH fi.nd Y0 Y2 (mj (ah ay (ah (vL 2) (ah (aJ iM ay (vL 2)) (ah (aJ iM (vL 2) ay) (ah (vL 3) (ah (aJ bc (aJ bc (vL 2) ay) (aJ eL (vL 3) (vL 3))) (ah (vL 3) (ah (aJ iM (vL 2) (aJ eL ay (bV cN (aJ bc (vL 1) (iK (ah ay aj))) ay))) (ah (vL 3) aj))))))))))) (ax (aF (bV cN (vL 4) (aB d__law_take (hr.mono (by decide)) Y1 (ah (vL 0) (ah ay aj)) (ai (ai au)))))))))
def dM:FnScope ["box","most","many","kind","base","found","k","given"] ["box","most"] (defScope gS):=fsk
def wB(F:Fun K "_law_row" "_law_row" gS f fd)(hm:mg "_law_row" = some (.ref f))(hb:Binds K fd ["box","most"] [])(T:Txt K mg w)(d__law_take:DefN P w K mg base "_law_take" 1 2 aY):DefN P w K mg base "_law_row" 2 2 gy:=
 aI ["box","most","many","kind","base","found","k","given"] ["box","most"] 1 2 2 8 rfl rfl rfl F hm hb dM (m:=o6) λcdv A outer s H E hr=>(ao (aH dM.nd Y0 Y2 (aB d__law_take (hr.mono (by decide)) Y1 (ah (vL 0) (ah (aJ bc (vL 1) ay) aj)) (ai (ai au)))) (ao (aH dM.nd Y0 Y2 (aB d__law_take (hr.mono (by decide)) Y1 (ah (vL 0) (ah ay aj)) (ai (ai au)))) (ao (aH dM.nd Y0 Y2 (aJ bc ay (aB d__law_take (hr.mono (by decide)) Y1 (ah (vL 0) (ah ay aj)) (ai (ai au))))) (ao (aH dM.nd Y0 Y2 (oE aj)) (ao (dZ Zc rfl (jH Y1 T.b_range (ah (vL 2) aj)) (aM dM.nd Y0 Y2) (ao (aH dM.nd Y0 Y2 (aJ bc ay (aB d__law_take (hr.mono (by decide)) Y1 (ah (vL 0) (ah ay aj)) (ai (ai au))))) (ax (cu (wZ Ww Vn Vo mC (vL 5) (ah (bV cN (mj (ah (vL 7) (ah (vL 7) (ah (vL 4) (ah (aJ GV ay (vL 6)) (ah (aJ bc (vL 4) (aJ eL (vL 6) (vL 7))) (ah (aJ bc (aJ eL (aJ sA ay ay) (vL 7)) (vL 4)) aj))))))) (vL 3)) aj)))))) (ax (aF (aS oH Y1 T.b_tuple iF (ah (vL 5) aj)))))))))
def t9:FnScope ["desk","line","e"] ["desk","line"] (defScope gb):=fsk
def ua(F:Fun K "_law_said" "_law_said" gb f fd)(hm:mg "_law_said" = some (.ref f))(hb:Binds K fd ["desk","line"] [])(T:Txt K mg w)(d_Desk_say_n:MetN P w K mg base "Desk" "say" 9 2 bP):DefN P w K mg base "_law_said" 10 2 cb:=
 aI ["desk","line","e"] ["desk","line"] 9 10 2 3 rfl rfl rfl F hm hb t9 (m:=nv) λcdv A outer s H E hr=>(ax (Ec (ax (aF (lz d_Desk_say_n (hr.mono (by decide)) (vL 0) (ah (vL 1) aj) (ai au))))))
def gE:FnScope ["script","k","box","row","desk","number","lap","dues","words","at","word"] ["script"] (defScope mG):=fsk
end
/-! what the top has written -/
def Ie{K:Frag}
  (gt:specialIn K (.builtin "object.__class__") "__get__" = some (some (.builtin "getset_descriptor.__get__")))
  (tk:takesIn K (.builtin "object.__class__")=some true):Cls K raisedX askedX isaX:=
 ⟨gt,tk,λc hc=>by simp[raisedX]at hc,
  λc hc k hk=>by simp[raisedX,askedX]at hc hk⟩
abbrev FnI(K:Frag)(n:Str)(st:Stmt):Prop:=∃(f:Addr)(oc:Value)(od:Option Addr)(sl:Array (Option Value))(kV dc pm:Value)(an:Option Addr)(cd ct:Value),nsIn K mainGlobals n=some (some (.ref f))/\K.lookup f=some ⟨oc,od,.func (fnOf n n (defArgs st) (defBody st) (defScope st) .none kV dc pm an cd ct),sl⟩/\codeIn K cd n=true/\keepIn K (.ref f)=true
def bF{K:Frag}{n:Str}{st:Stmt}{oc:Value}{od:Option Addr}{sl:Array (Option Value)}{kV dc pm:Value}{an:Option Addr}{cd ct:Value}(a:nsIn K mainGlobals n=some (some (.ref f)))(l:K.lookup f=some ⟨oc,od,.func (fnOf n n (defArgs st) (defBody st) (defScope st) .none kV dc pm an cd ct),sl⟩)(c:codeIn K cd n=true)(k:keepIn K (.ref f)=true):FnI K n st:=⟨f,oc,od,sl,kV,dc,pm,an,cd,ct,a,l,c,k⟩
def us1{p:List Value -> Prop}(h:∀a,p [a])(us:List Value)(e:us.length=1):p us:=by
 rcases us with _|⟨a,_|⟨b,r⟩⟩
 · simp at e
 · exact h a
 · simp at e
def us2{p:List Value -> Prop}(h:∀a b,p [a,b])(us:List Value)(e:us.length=2):p us:=by
 rcases us with _|⟨a,_|⟨b,_|⟨c,r⟩⟩⟩
 · simp at e
 · simp at e
 · exact h a b
 · simp at e
def us3{p:List Value -> Prop}(h:∀a b c,p [a,b,c])(us:List Value)(e:us.length=3):p us:=by
 rcases us with _|⟨a,_|⟨b,_|⟨c,_|⟨d,r⟩⟩⟩⟩
 · simp at e
 · simp at e
 · simp at e
 · exact h a b c
 · simp at e
def all_mk{P:Program}{w:World}{K:Frag}{h:Heap}{mg:Str->Option Value}{fa:Addr}(X:K.In h)(G:h.Ns mainGlobals mg)(hfa:mg "law" = some (.ref fa)){K_Desk:Addr}{K_Keeper:Addr}{f0:Addr}{od0 an0:Option Addr}{sl0:Array (Option Value)}{oc0 kV0 dc0 pm0 cd0 ct0:Value}{f1:Addr}{od1 an1:Option Addr}{sl1:Array (Option Value)}{oc1 kV1 dc1 pm1 cd1 ct1:Value}{f2:Addr}{od2 an2:Option Addr}{sl2:Array (Option Value)}{oc2 kV2 dc2 pm2 cd2 ct2:Value}{f3:Addr}{od3 an3:Option Addr}{sl3:Array (Option Value)}{oc3 kV3 dc3 pm3 cd3 ct3:Value}{f7:Addr}{od7 an7:Option Addr}{sl7:Array (Option Value)}{oc7 kV7 dc7 pm7 cd7 ct7:Value}{f8:Addr}{od8 an8:Option Addr}{sl8:Array (Option Value)}{oc8 kV8 dc8 pm8 cd8 ct8:Value}{f9:Addr}{od9 an9:Option Addr}{sl9:Array (Option Value)}{oc9 kV9 dc9 pm9 cd9 ct9:Value}{f17:Addr}{od17 an17:Option Addr}{sl17:Array (Option Value)}{oc17 kV17 dc17 pm17 cd17 ct17:Value}{f22:Addr}{od22 an22:Option Addr}{sl22:Array (Option Value)}{oc22 kV22 dc22 pm22 cd22 ct22:Value}{f26:Addr}{od26 an26:Option Addr}{sl26:Array (Option Value)}{oc26 kV26 dc26 pm26 cd26 ct26:Value}{f29:Addr}{od29 an29:Option Addr}{sl29:Array (Option Value)}{oc29 kV29 dc29 pm29 cd29 ct29:Value}{f30:Addr}{od30 an30:Option Addr}{sl30:Array (Option Value)}{oc30 kV30 dc30 pm30 cd30 ct30:Value}{f39:Addr}{od39 an39:Option Addr}{sl39:Array (Option Value)}{oc39 kV39 dc39 pm39 cd39 ct39:Value}{f42:Addr}{od42 an42:Option Addr}{sl42:Array (Option Value)}{oc42 kV42 dc42 pm42 cd42 ct42:Value}{f43:Addr}{od43 an43:Option Addr}{sl43:Array (Option Value)}{oc43 kV43 dc43 pm43 cd43 ct43:Value}{f47:Addr}{od47 an47:Option Addr}{sl47:Array (Option Value)}{oc47 kV47 dc47 pm47 cd47 ct47:Value}{t_LONGEST_ROW:Tok}{t_MOST_FIGURES:Tok}{t_PIECE:Tok}{t_TIMES_BY_PARTS:Tok}{t_TIMES_BY_SIGNS:Tok}{A_SIGNS:Addr}{od_SIGNS:Option Addr}{n_SIGNS:Nat}{sl_SIGNS:Array (Option Value)}{u0_SIGNS:Tok}{u1_SIGNS:Tok}{A_CHANGED_ALONE:Addr}{od_CHANGED_ALONE:Option Addr}{n_CHANGED_ALONE:Nat}{sl_CHANGED_ALONE:Array (Option Value)}{u0_CHANGED_ALONE u1_CHANGED_ALONE:Tok}{A_ASKED_ALONE:Addr}{A_ASKED_OF_A_NUMBER:Addr}{t_FIGURES:Tok}{A_MARK_OF:Addr}
  (kn_Desk:nsIn K mainGlobals "Desk" = some (some (.ref K_Desk)))
  (kg_Desk:plainGet K K_Desk Str.empty=true)
  (kd_Desk:hasDictIn K K_Desk=true)
  (ko_Desk:plainOver K K_Desk=true)
  (ks_Desk:findIn K (.ref K_Desk) "__setattr__" = some (some (.builtin "object.__setattr__")))
  (kk_Desk:keepIn K (.ref K_Desk)=true)
  (kn_Keeper:nsIn K mainGlobals "Keeper" = some (some (.ref K_Keeper)))
  (kg_Keeper:plainGet K K_Keeper Str.empty=true)
  (kd_Keeper:hasDictIn K K_Keeper=true)
  (ko_Keeper:plainOver K K_Keeper=true)
  (ks_Keeper:findIn K (.ref K_Keeper) "__setattr__" = some (some (.builtin "object.__setattr__")))
  (kk_Keeper:keepIn K (.ref K_Keeper)=true)
  (kf_Desk_keeper:findIn K (.ref K_Desk) "keeper" = some none)
  (kf_Keeper_earlier:findIn K (.ref K_Keeper) "earlier" = some none)
  (kf_Keeper_numbers:findIn K (.ref K_Keeper) "numbers" = some none)
  (a0:findIn K (.ref K_Keeper) "__init__" = some (some (.ref f0))) (gfn0:isFn K (.ref f0)=true) (mk0:makesIn K K_Keeper=true) (l0:K.lookup f0=some ⟨oc0,od0,.func (fnOf "__init__" "Keeper.__init__" (defArgs bK) (defBody bK) (defScope bK) .none kV0 dc0 pm0 an0 cd0 ct0),sl0⟩) (c0:codeIn K cd0 "Keeper.__init__" = true) (k0:keepIn K (.ref f0)=true)
  (a1:findIn K (.ref K_Desk) "__init__" = some (some (.ref f1))) (gfn1:isFn K (.ref f1)=true) (mk1:makesIn K K_Desk=true) (l1:K.lookup f1=some ⟨oc1,od1,.func (fnOf "__init__" "Desk.__init__" (defArgs cc) (defBody cc) (defScope cc) .none kV1 dc1 pm1 an1 cd1 ct1),sl1⟩) (c1:codeIn K cd1 "Desk.__init__" = true) (k1:keepIn K (.ref f1)=true)
  (a2:findIn K (.ref K_Keeper) "back" = some (some (.ref f2))) (gfn2:isFn K (.ref f2)=true) (l2:K.lookup f2=some ⟨oc2,od2,.func (fnOf "back" "Keeper.back" (defArgs cf) (defBody cf) (defScope cf) .none kV2 dc2 pm2 an2 cd2 ct2),sl2⟩) (c2:codeIn K cd2 "Keeper.back" = true) (k2:keepIn K (.ref f2)=true)
  (a3:findIn K (.ref K_Keeper) "change" = some (some (.ref f3))) (gfn3:isFn K (.ref f3)=true) (l3:K.lookup f3=some ⟨oc3,od3,.func (fnOf "change" "Keeper.change" (defArgs cg) (defBody cg) (defScope cg) .none kV3 dc3 pm3 an3 cd3 ct3),sl3⟩) (c3:codeIn K cd3 "Keeper.change" = true) (k3:keepIn K (.ref f3)=true)
  (h4:FnI K "is_whole" gN)
  (h5:FnI K "need_number" dQ)
  (h6:FnI K "need_number_from" cv)
  (a7:findIn K (.ref K_Keeper) "put" = some (some (.ref f7))) (gfn7:isFn K (.ref f7)=true) (l7:K.lookup f7=some ⟨oc7,od7,.func (fnOf "put" "Keeper.put" (defArgs cB) (defBody cB) (defScope cB) .none kV7 dc7 pm7 an7 cd7 ct7),sl7⟩) (c7:codeIn K cd7 "Keeper.put" = true) (k7:keepIn K (.ref f7)=true)
  (a8:findIn K (.ref K_Keeper) "row" = some (some (.ref f8))) (gfn8:isFn K (.ref f8)=true) (l8:K.lookup f8=some ⟨oc8,od8,.func (fnOf "row" "Keeper.row" (defArgs dn) (defBody dn) (defScope dn) .none kV8 dc8 pm8 an8 cd8 ct8),sl8⟩) (c8:codeIn K cd8 "Keeper.row" = true) (k8:keepIn K (.ref f8)=true)
  (a9:findIn K (.ref K_Keeper) "take" = some (some (.ref f9))) (gfn9:isFn K (.ref f9)=true) (l9:K.lookup f9=some ⟨oc9,od9,.func (fnOf "take" "Keeper.take" (defArgs cj) (defBody cj) (defScope cj) .none kV9 dc9 pm9 an9 cd9 ct9),sl9⟩) (c9:codeIn K cd9 "Keeper.take" = true) (k9:keepIn K (.ref f9)=true)
  (h10:FnI K "halves_of" fW)
  (h11:FnI K "is_row" jM)
  (h12:FnI K "need_row" fC)
  (h13:FnI K "need_row_and_number" bO)
  (h14:FnI K "stepped" iP)
  (h15:FnI K "table_of" gP)
  (h16:FnI K "many_met" fD)
  (a17:nsIn K mainGlobals "comes_text" = some (some (.ref f17))) (l17:K.lookup f17=some ⟨oc17,od17,.func (fnOf "comes_text" "comes_text" (defArgs cC) (defBody cC) (defScope cC) .none kV17 dc17 pm17 an17 cd17 ct17),sl17⟩) (c17:codeIn K cd17 "comes_text" = true) (k17:keepIn K (.ref f17)=true)
  (h18:FnI K "half_worths" dR)
  (h19:FnI K "walk" jN)
  (h20:FnI K "above" iQ)
  (h21:FnI K "unevenness" eI)
  (a22:nsIn K mainGlobals "even_text" = some (some (.ref f22))) (l22:K.lookup f22=some ⟨oc22,od22,.func (fnOf "even_text" "even_text" (defArgs cQ) (defBody cQ) (defScope cQ) .none kV22 dc22 pm22 an22 cd22 ct22),sl22⟩) (c22:codeIn K cd22 "even_text" = true) (k22:keepIn K (.ref f22)=true)
  (h23:FnI K "ahead_of_too_great" cw)
  (h24:FnI K "every_by_parts" cJ)
  (h25:FnI K "every_by_signs" cK)
  (a26:nsIn K mainGlobals "every_text" = some (some (.ref f26))) (l26:K.lookup f26=some ⟨oc26,od26,.func (fnOf "every_text" "every_text" (defArgs cD) (defBody cD) (defScope cD) .none kV26 dc26 pm26 an26 cd26 ct26),sl26⟩) (c26:codeIn K cd26 "every_text" = true) (k26:keepIn K (.ref f26)=true)
  (h27:FnI K "below" iR)
  (h28:FnI K "number_or_none" dz)
  (a29:nsIn K mainGlobals "near_text" = some (some (.ref f29))) (l29:K.lookup f29=some ⟨oc29,od29,.func (fnOf "near_text" "near_text" (defArgs cS) (defBody cS) (defScope cS) .none kV29 dc29 pm29 an29 cd29 ct29),sl29⟩) (c29:codeIn K cd29 "near_text" = true) (k29:keepIn K (.ref f29)=true)
  (a30:nsIn K mainGlobals "row_text" = some (some (.ref f30))) (l30:K.lookup f30=some ⟨oc30,od30,.func (fnOf "row_text" "row_text" (defArgs eR) (defBody eR) (defScope eR) .none kV30 dc30 pm30 an30 cd30 ct30),sl30⟩) (c30:codeIn K cd30 "row_text" = true) (k30:keepIn K (.ref f30)=true)
  (h31:FnI K "firsts_stepped" dC)
  (h32:FnI K "firsts_of" fX)
  (h33:FnI K "first_met" e8)
  (h34:FnI K "figures_of" fE)
  (h35:FnI K "are_whole" fY)
  (h36:FnI K "are_parts" fc)
  (h37:FnI K "need_parts" eJ)
  (h38:FnI K "show" jO)
  (a39:nsIn K mainGlobals "signs_text" = some (some (.ref f39))) (l39:K.lookup f39=some ⟨oc39,od39,.func (fnOf "signs_text" "signs_text" (defArgs cE) (defBody cE) (defScope cE) .none kV39 dc39 pm39 an39 cd39 ct39),sl39⟩) (c39:codeIn K cd39 "signs_text" = true) (k39:keepIn K (.ref f39)=true)
  (h40:FnI K "swings_stepped" dD)
  (h41:FnI K "least_swing" dU)
  (a42:nsIn K mainGlobals "swing_text" = some (some (.ref f42))) (l42:K.lookup f42=some ⟨oc42,od42,.func (fnOf "swing_text" "swing_text" (defArgs cF) (defBody cF) (defScope cF) .none kV42 dc42 pm42 an42 cd42 ct42),sl42⟩) (c42:codeIn K cd42 "swing_text" = true) (k42:keepIn K (.ref f42)=true)
  (a43:nsIn K mainGlobals "ways_text" = some (some (.ref f43))) (l43:K.lookup f43=some ⟨oc43,od43,.func (fnOf "ways_text" "ways_text" (defArgs cV) (defBody cV) (defScope cV) .none kV43 dc43 pm43 an43 cd43 ct43),sl43⟩) (c43:codeIn K cd43 "ways_text" = true) (k43:keepIn K (.ref f43)=true)
  (h44:FnI K "is_number_word" dE)
  (h45:FnI K "is_line" iS)
  (h46:FnI K "words_of_line" dg)
  (a47:findIn K (.ref K_Desk) "say" = some (some (.ref f47))) (gfn47:isFn K (.ref f47)=true) (l47:K.lookup f47=some ⟨oc47,od47,.func (fnOf "say" "Desk.say" (defArgs du) (defBody du) (defScope du) .none kV47 dc47 pm47 an47 cd47 ct47),sl47⟩) (c47:codeIn K cd47 "Desk.say" = true) (k47:keepIn K (.ref f47)=true)
  (h48:FnI K "_law_box" gR)
  (h49:FnI K "_law_dues" fe)
  (h50:FnI K "_law_take" fZ)
  (h51:FnI K "_law_number" ff)
  (h52:FnI K "_law_row" gS)
  (h53:FnI K "_law_said" gb)
  (h54:FnI K "law" mG)
  (z_abs:nsIn K mainGlobals "abs" = some none)
  (z_all:nsIn K mainGlobals "all" = some none)
  (z_bool:nsIn K mainGlobals "bool" = some none)
  (z_divmod:nsIn K mainGlobals "divmod" = some none)
  (z_int:nsIn K mainGlobals "int" = some none)
  (z_isinstance:nsIn K mainGlobals "isinstance" = some none)
  (z_len:nsIn K mainGlobals "len" = some none)
  (z_list:nsIn K mainGlobals "list" = some none)
  (z_max:nsIn K mainGlobals "max" = some none)
  (z_min:nsIn K mainGlobals "min" = some none)
  (z_range:nsIn K mainGlobals "range" = some none)
  (z_sorted:nsIn K mainGlobals "sorted" = some none)
  (z_str:nsIn K mainGlobals "str" = some none)
  (z_sum:nsIn K mainGlobals "sum" = some none)
  (z_tuple:nsIn K mainGlobals "tuple" = some none)
  (z_zip:nsIn K mainGlobals "zip" = some none)
  (z_LONGEST_ROW:nsIn K mainGlobals "LONGEST_ROW" = some (some (.int 16 t_LONGEST_ROW)))
  (z_MOST_FIGURES:nsIn K mainGlobals "MOST_FIGURES" = some (some (.int 30 t_MOST_FIGURES)))
  (z_PIECE:nsIn K mainGlobals "PIECE" = some (some (.int 60 t_PIECE)))
  (z_TIMES_BY_PARTS:nsIn K mainGlobals "TIMES_BY_PARTS" = some (some (.int 2 t_TIMES_BY_PARTS)))
  (z_TIMES_BY_SIGNS:nsIn K mainGlobals "TIMES_BY_SIGNS" = some (some (.int 1 t_TIMES_BY_SIGNS)))
  (zt_SIGNS:nsIn K mainGlobals "SIGNS" = some (some (.ref A_SIGNS))) (yt_SIGNS:K.lookup A_SIGNS=some ⟨.type "tuple",od_SIGNS,.seq #[.int (-1) u0_SIGNS,.int (1) u1_SIGNS] n_SIGNS,sl_SIGNS⟩)
  (zt_CHANGED_ALONE:nsIn K mainGlobals "CHANGED_ALONE" = some (some (.ref A_CHANGED_ALONE))) (yt_CHANGED_ALONE:K.lookup A_CHANGED_ALONE=some ⟨.type "tuple",od_CHANGED_ALONE,.seq #[.str "take" u0_CHANGED_ALONE,.str "back" u1_CHANGED_ALONE] n_CHANGED_ALONE,sl_CHANGED_ALONE⟩)
  (zf_ASKED_ALONE:nsIn K mainGlobals "ASKED_ALONE" = some (some (.ref A_ASKED_ALONE))) (yf_ASKED_ALONE:KTD.tabLook lkF (λb=>K.lookup b) A_ASKED_ALONE [("row",some f30),("total",none),("even",some f22),("swing",some f42),("every",some f26)]=true) (hf_ASKED_ALONE:KTD.hashesOf (λb=>K.lookup b) A_ASKED_ALONE=([("row",some f30),("total",none),("even",some f22),("swing",some f42),("every",some f26)]:List (Str×Option Addr)).map (λp=>hashStr w p.1))
  (zf_ASKED_OF_A_NUMBER:nsIn K mainGlobals "ASKED_OF_A_NUMBER" = some (some (.ref A_ASKED_OF_A_NUMBER))) (yf_ASKED_OF_A_NUMBER:KTD.tabLook lkF (λb=>K.lookup b) A_ASKED_OF_A_NUMBER [("comes",some f17),("ways",some f43),("signs",some f39),("near",some f29)]=true) (hf_ASKED_OF_A_NUMBER:KTD.hashesOf (λb=>K.lookup b) A_ASKED_OF_A_NUMBER=([("comes",some f17),("ways",some f43),("signs",some f39),("near",some f29)]:List (Str×Option Addr)).map (λp=>hashStr w p.1))
  (zs_FIGURES:nsIn K mainGlobals "FIGURES" = some (some (.str "0123456789" t_FIGURES)))
  (zd_MARK_OF:nsIn K mainGlobals "MARK_OF" = some (some (.ref A_MARK_OF))) (yd_MARK_OF:KTD.keyedLook (λb=>K.lookup b) A_MARK_OF tab_MARK_OF=true)
  (gt:specialIn K (.builtin "object.__class__") "__get__" = some (some (.builtin "getset_descriptor.__get__")))
  (tk:takesIn K (.builtin "object.__class__")=some true):
  ∃fd:FuncData,(∀(s:Shared)(v:Value),BindsTo s fd ⟨[v],[]⟩ [("script",v)])/\∀base:Heap,K.In base->base.Ns mainGlobals mg->FnOk P w K mg base (CX1 P w) 11 fa fd ["script"] (spN K 1 yK):=by
 obtain⟨f4,oc4,od4,sl4,kV4,dc4,pm4,an4,cd4,ct4,a4,l4,c4,k4⟩:=h4;obtain⟨f5,oc5,od5,sl5,kV5,dc5,pm5,an5,cd5,ct5,a5,l5,c5,k5⟩:=h5;obtain⟨f6,oc6,od6,sl6,kV6,dc6,pm6,an6,cd6,ct6,a6,l6,c6,k6⟩:=h6;obtain⟨f10,oc10,od10,sl10,kV10,dc10,pm10,an10,cd10,ct10,a10,l10,c10,k10⟩:=h10;obtain⟨f11,oc11,od11,sl11,kV11,dc11,pm11,an11,cd11,ct11,a11,l11,c11,k11⟩:=h11;obtain⟨f12,oc12,od12,sl12,kV12,dc12,pm12,an12,cd12,ct12,a12,l12,c12,k12⟩:=h12;obtain⟨f13,oc13,od13,sl13,kV13,dc13,pm13,an13,cd13,ct13,a13,l13,c13,k13⟩:=h13;obtain⟨f14,oc14,od14,sl14,kV14,dc14,pm14,an14,cd14,ct14,a14,l14,c14,k14⟩:=h14;obtain⟨f15,oc15,od15,sl15,kV15,dc15,pm15,an15,cd15,ct15,a15,l15,c15,k15⟩:=h15;obtain⟨f16,oc16,od16,sl16,kV16,dc16,pm16,an16,cd16,ct16,a16,l16,c16,k16⟩:=h16;obtain⟨f18,oc18,od18,sl18,kV18,dc18,pm18,an18,cd18,ct18,a18,l18,c18,k18⟩:=h18;obtain⟨f19,oc19,od19,sl19,kV19,dc19,pm19,an19,cd19,ct19,a19,l19,c19,k19⟩:=h19;obtain⟨f20,oc20,od20,sl20,kV20,dc20,pm20,an20,cd20,ct20,a20,l20,c20,k20⟩:=h20;obtain⟨f21,oc21,od21,sl21,kV21,dc21,pm21,an21,cd21,ct21,a21,l21,c21,k21⟩:=h21;obtain⟨f23,oc23,od23,sl23,kV23,dc23,pm23,an23,cd23,ct23,a23,l23,c23,k23⟩:=h23;obtain⟨f24,oc24,od24,sl24,kV24,dc24,pm24,an24,cd24,ct24,a24,l24,c24,k24⟩:=h24;obtain⟨f25,oc25,od25,sl25,kV25,dc25,pm25,an25,cd25,ct25,a25,l25,c25,k25⟩:=h25;obtain⟨f27,oc27,od27,sl27,kV27,dc27,pm27,an27,cd27,ct27,a27,l27,c27,k27⟩:=h27;obtain⟨f28,oc28,od28,sl28,kV28,dc28,pm28,an28,cd28,ct28,a28,l28,c28,k28⟩:=h28;obtain⟨f31,oc31,od31,sl31,kV31,dc31,pm31,an31,cd31,ct31,a31,l31,c31,k31⟩:=h31;obtain⟨f32,oc32,od32,sl32,kV32,dc32,pm32,an32,cd32,ct32,a32,l32,c32,k32⟩:=h32;obtain⟨f33,oc33,od33,sl33,kV33,dc33,pm33,an33,cd33,ct33,a33,l33,c33,k33⟩:=h33;obtain⟨f34,oc34,od34,sl34,kV34,dc34,pm34,an34,cd34,ct34,a34,l34,c34,k34⟩:=h34;obtain⟨f35,oc35,od35,sl35,kV35,dc35,pm35,an35,cd35,ct35,a35,l35,c35,k35⟩:=h35;obtain⟨f36,oc36,od36,sl36,kV36,dc36,pm36,an36,cd36,ct36,a36,l36,c36,k36⟩:=h36;obtain⟨f37,oc37,od37,sl37,kV37,dc37,pm37,an37,cd37,ct37,a37,l37,c37,k37⟩:=h37;obtain⟨f38,oc38,od38,sl38,kV38,dc38,pm38,an38,cd38,ct38,a38,l38,c38,k38⟩:=h38;obtain⟨f40,oc40,od40,sl40,kV40,dc40,pm40,an40,cd40,ct40,a40,l40,c40,k40⟩:=h40;obtain⟨f41,oc41,od41,sl41,kV41,dc41,pm41,an41,cd41,ct41,a41,l41,c41,k41⟩:=h41;obtain⟨f44,oc44,od44,sl44,kV44,dc44,pm44,an44,cd44,ct44,a44,l44,c44,k44⟩:=h44;obtain⟨f45,oc45,od45,sl45,kV45,dc45,pm45,an45,cd45,ct45,a45,l45,c45,k45⟩:=h45;obtain⟨f46,oc46,od46,sl46,kV46,dc46,pm46,an46,cd46,ct46,a46,l46,c46,k46⟩:=h46;obtain⟨f48,oc48,od48,sl48,kV48,dc48,pm48,an48,cd48,ct48,a48,l48,c48,k48⟩:=h48;obtain⟨f49,oc49,od49,sl49,kV49,dc49,pm49,an49,cd49,ct49,a49,l49,c49,k49⟩:=h49;obtain⟨f50,oc50,od50,sl50,kV50,dc50,pm50,an50,cd50,ct50,a50,l50,c50,k50⟩:=h50;obtain⟨f51,oc51,od51,sl51,kV51,dc51,pm51,an51,cd51,ct51,a51,l51,c51,k51⟩:=h51;obtain⟨f52,oc52,od52,sl52,kV52,dc52,pm52,an52,cd52,ct52,a52,l52,c52,k52⟩:=h52;obtain⟨f53,oc53,od53,sl53,kV53,dc53,pm53,an53,cd53,ct53,a53,l53,c53,k53⟩:=h53;obtain⟨f54,oc54,od54,sl54,kV54,dc54,pm54,an54,cd54,ct54,a54,l54,c54,k54⟩:=h54;have e:=hfa.symm.trans (Yj X G a54);cases e
 have T:Txt K mg w:=⟨Ie gt tk,⟨_,kn_Desk,⟨kg_Desk,kd_Desk,ko_Desk,ks_Desk⟩⟩,⟨_,kn_Keeper,⟨kg_Keeper,kd_Keeper,ko_Keeper,ks_Keeper⟩⟩,⟨_,kn_Desk,kf_Desk_keeper⟩,⟨_,kn_Keeper,kf_Keeper_earlier⟩,⟨_,kn_Keeper,kf_Keeper_numbers⟩,Z6 X G z_abs,Z6 X G z_all,Z6 X G z_bool,Z6 X G z_divmod,Z6 X G z_int,Z6 X G z_isinstance,Z6 X G z_len,Z6 X G z_list,Z6 X G z_max,Z6 X G z_min,Z6 X G z_range,Z6 X G z_sorted,Z6 X G z_str,Z6 X G z_sum,Z6 X G z_tuple,Z6 X G z_zip,⟨_,Yj X G z_LONGEST_ROW⟩,⟨_,Yj X G z_MOST_FIGURES⟩,⟨_,Yj X G z_PIECE⟩,⟨_,Yj X G z_TIMES_BY_PARTS⟩,⟨_,Yj X G z_TIMES_BY_SIGNS⟩,DX X G zt_SIGNS yt_SIGNS,BZ X G zt_CHANGED_ALONE yt_CHANGED_ALONE,⟨_,Yj X G zs_FIGURES⟩,Ea X G zd_MARK_OF yd_MARK_OF,yF X G zf_ASKED_ALONE yf_ASKED_ALONE hf_ASKED_ALONE (show(["row","total","even","swing","every"]:List Str).Nodup by decide +kernel) (by simp only[nml_ASKED_ALONE,Yb,W5,Zv,Option.map_none,Yj X G a30,Yj X G a22,Yj X G a42,Yj X G a26]),yF X G zf_ASKED_OF_A_NUMBER yf_ASKED_OF_A_NUMBER hf_ASKED_OF_A_NUMBER (show(["comes","ways","signs","near"]:List Str).Nodup by decide +kernel) (by simp only[nml_ASKED_OF_A_NUMBER,Yb,W5,Zv,Option.map_none,Yj X G a17,Yj X G a43,Yj X G a39,Yj X G a29])⟩
 have F0:=aK (st:=bK) l0 c0 k0;have b0:=F0.binds (ps:=["self"]) λ_ _ _ _ _ _=>us1 λ_=>rfl
 have F1:=aK (st:=cc) l1 c1 k1;have b1:=F1.binds (ps:=["self"]) λ_ _ _ _ _ _=>us1 λ_=>rfl
 have F2:=aK (st:=cf) l2 c2 k2;have b2:=F2.binds (ps:=["self"]) λ_ _ _ _ _ _=>us1 λ_=>rfl
 have F3:=aK (st:=cg) l3 c3 k3;have b3:=F3.binds (ps:=["self","numbers"]) λ_ _ _ _ _ _=>us2 λ_ _=>rfl
 have F4:=aK (st:=gN) l4 c4 k4;have b4:=F4.binds (ps:=["thing"]) λ_ _ _ _ _ _=>us1 λ_=>rfl
 have F5:=aK (st:=dQ) l5 c5 k5;have b5:=F5.binds (ps:=["thing"]) λ_ _ _ _ _ _=>us1 λ_=>rfl
 have F6:=aK (st:=cv) l6 c6 k6;have b6:=F6.binds (ps:=["least","thing"]) λ_ _ _ _ _ _=>us2 λ_ _=>rfl
 have F7:=aK (st:=cB) l7 c7 k7;have b7:=F7.binds (ps:=["self","number"]) λ_ _ _ _ _ _=>us2 λ_ _=>rfl
 have F8:=aK (st:=dn) l8 c8 k8;have b8:=F8.binds (ps:=["self"]) λ_ _ _ _ _ _=>us1 λ_=>rfl
 have F9:=aK (st:=cj) l9 c9 k9;have b9:=F9.binds (ps:=["self"]) λ_ _ _ _ _ _=>us1 λ_=>rfl
 have F10:=aK (st:=fW) l10 c10 k10;have b10:=F10.binds (ps:=["row"]) λ_ _ _ _ _ _=>us1 λ_=>rfl
 have F11:=aK (st:=jM) l11 c11 k11;have b11:=F11.binds (ps:=["thing"]) λ_ _ _ _ _ _=>us1 λ_=>rfl
 have F12:=aK (st:=fC) l12 c12 k12;have b12:=F12.binds (ps:=["thing"]) λ_ _ _ _ _ _=>us1 λ_=>rfl
 have F13:=aK (st:=bO) l13 c13 k13;have b13:=F13.binds (ps:=["row","number"]) λ_ _ _ _ _ _=>us2 λ_ _=>rfl
 have F14:=aK (st:=iP) l14 c14 k14;have b14:=F14.binds (ps:=["table","step","choices"]) λ_ _ _ _ _ _=>us3 λ_ _ _=>rfl
 have F15:=aK (st:=gP) l15 c15 k15;have b15:=F15.binds (ps:=["row","choices"]) λ_ _ _ _ _ _=>us2 λ_ _=>rfl
 have F16:=aK (st:=fD) l16 c16 k16;have b16:=F16.binds (ps:=["row","number"]) λ_ _ _ _ _ _=>us2 λ_ _=>rfl
 have F17:=aK (st:=cC) l17 c17 k17;have b17:=F17.binds (ps:=["row","number"]) λ_ _ _ _ _ _=>us2 λ_ _=>rfl
 have F18:=aK (st:=dR) l18 c18 k18;have b18:=F18.binds (ps:=["row"]) λ_ _ _ _ _ _=>us1 λ_=>rfl
 have F19:=aK (st:=jN) l19 c19 k19;have b19:=F19.binds (ps:=["row","number"]) λ_ _ _ _ _ _=>us2 λ_ _=>rfl
 have F20:=aK (st:=iQ) l20 c20 k20;have b20:=F20.binds (ps:=["row","number"]) λ_ _ _ _ _ _=>us2 λ_ _=>rfl
 have F21:=aK (st:=eI) l21 c21 k21;have b21:=F21.binds (ps:=["row"]) λ_ _ _ _ _ _=>us1 λ_=>rfl
 have F22:=aK (st:=cQ) l22 c22 k22;have b22:=F22.binds (ps:=["row"]) λ_ _ _ _ _ _=>us1 λ_=>rfl
 have F23:=aK (st:=cw) l23 c23 k23;have b23:=F23.binds (ps:=["row","times"]) λ_ _ _ _ _ _=>us2 λ_ _=>rfl
 have F24:=aK (st:=cJ) l24 c24 k24;have b24:=F24.binds (ps:=["row"]) λ_ _ _ _ _ _=>us1 λ_=>rfl
 have F25:=aK (st:=cK) l25 c25 k25;have b25:=F25.binds (ps:=["row"]) λ_ _ _ _ _ _=>us1 λ_=>rfl
 have F26:=aK (st:=cD) l26 c26 k26;have b26:=F26.binds (ps:=["row"]) λ_ _ _ _ _ _=>us1 λ_=>rfl
 have F27:=aK (st:=iR) l27 c27 k27;have b27:=F27.binds (ps:=["row","number"]) λ_ _ _ _ _ _=>us2 λ_ _=>rfl
 have F28:=aK (st:=dz) l28 c28 k28;have b28:=F28.binds (ps:=["number"]) λ_ _ _ _ _ _=>us1 λ_=>rfl
 have F29:=aK (st:=cS) l29 c29 k29;have b29:=F29.binds (ps:=["row","number"]) λ_ _ _ _ _ _=>us2 λ_ _=>rfl
 have F30:=aK (st:=eR) l30 c30 k30;have b30:=F30.binds (ps:=["row"]) λ_ _ _ _ _ _=>us1 λ_=>rfl
 have F31:=aK (st:=dC) l31 c31 k31;have b31:=F31.binds (ps:=["firsts","step"]) λ_ _ _ _ _ _=>us2 λ_ _=>rfl
 have F32:=aK (st:=fX) l32 c32 k32;have b32:=F32.binds (ps:=["row"]) λ_ _ _ _ _ _=>us1 λ_=>rfl
 have F33:=aK (st:=e8) l33 c33 k33;have b33:=F33.binds (ps:=["row","number"]) λ_ _ _ _ _ _=>us2 λ_ _=>rfl
 have F34:=aK (st:=fE) l34 c34 k34;have b34:=F34.binds (ps:=["number"]) λ_ _ _ _ _ _=>us1 λ_=>rfl
 have F35:=aK (st:=fY) l35 c35 k35;have b35:=F35.binds (ps:=["thing","many"]) λ_ _ _ _ _ _=>us2 λ_ _=>rfl
 have F36:=aK (st:=fc) l36 c36 k36;have b36:=F36.binds (ps:=["thing","row"]) λ_ _ _ _ _ _=>us2 λ_ _=>rfl
 have F37:=aK (st:=eJ) l37 c37 k37;have b37:=F37.binds (ps:=["row","thing"]) λ_ _ _ _ _ _=>us2 λ_ _=>rfl
 have F38:=aK (st:=jO) l38 c38 k38;have b38:=F38.binds (ps:=["row","parts"]) λ_ _ _ _ _ _=>us2 λ_ _=>rfl
 have F39:=aK (st:=cE) l39 c39 k39;have b39:=F39.binds (ps:=["row","number"]) λ_ _ _ _ _ _=>us2 λ_ _=>rfl
 have F40:=aK (st:=dD) l40 c40 k40;have b40:=F40.binds (ps:=["swings","step"]) λ_ _ _ _ _ _=>us2 λ_ _=>rfl
 have F41:=aK (st:=dU) l41 c41 k41;have b41:=F41.binds (ps:=["row"]) λ_ _ _ _ _ _=>us1 λ_=>rfl
 have F42:=aK (st:=cF) l42 c42 k42;have b42:=F42.binds (ps:=["row"]) λ_ _ _ _ _ _=>us1 λ_=>rfl
 have F43:=aK (st:=cV) l43 c43 k43;have b43:=F43.binds (ps:=["row","number"]) λ_ _ _ _ _ _=>us2 λ_ _=>rfl
 have F44:=aK (st:=dE) l44 c44 k44;have b44:=F44.binds (ps:=["word"]) λ_ _ _ _ _ _=>us1 λ_=>rfl
 have F45:=aK (st:=iS) l45 c45 k45;have b45:=F45.binds (ps:=["words"]) λ_ _ _ _ _ _=>us1 λ_=>rfl
 have F46:=aK (st:=dg) l46 c46 k46;have b46:=F46.binds (ps:=["line"]) λ_ _ _ _ _ _=>us1 λ_=>rfl
 have F47:=aK (st:=du) l47 c47 k47;have b47:=F47.binds (ps:=["self","line"]) λ_ _ _ _ _ _=>us2 λ_ _=>rfl
 have F48:=aK (st:=gR) l48 c48 k48;have b48:=F48.binds (ps:=["script","k"]) λ_ _ _ _ _ _=>us2 λ_ _=>rfl
 have F49:=aK (st:=fe) l49 c49 k49;have b49:=F49.binds (ps:=["row","number"]) λ_ _ _ _ _ _=>us2 λ_ _=>rfl
 have F50:=aK (st:=fZ) l50 c50 k50;have b50:=F50.binds (ps:=["box","many"]) λ_ _ _ _ _ _=>us2 λ_ _=>rfl
 have F51:=aK (st:=ff) l51 c51 k51;have b51:=F51.binds (ps:=["box","row"]) λ_ _ _ _ _ _=>us2 λ_ _=>rfl
 have F52:=aK (st:=gS) l52 c52 k52;have b52:=F52.binds (ps:=["box","most"]) λ_ _ _ _ _ _=>us2 λ_ _=>rfl
 have F53:=aK (st:=gb) l53 c53 k53;have b53:=F53.binds (ps:=["desk","line"]) λ_ _ _ _ _ _=>us2 λ_ _=>rfl
 have F54:=aK (st:=mG) l54 c54 k54;have b54:=F54.binds (ps:=["script"]) λ_ _ _ _ _ _=>us1 λ_=>rfl
 refine⟨fnOf "law" "law" (defArgs mG) (defBody mG) (defScope mG) .none kV54 dc54 pm54 an54 cd54 ct54,λs v=>.of_eq rfl,λbase kb _=>?_⟩
 have d_Keeper___init__:MakN P w K mg base "Keeper" 1 cG:=kU F0 kn_Keeper (Yj X G kn_Keeper) ⟨mk0,a0,gfn0,kk_Keeper⟩ b0 T
 have d_Desk___init__:MakN P w K mg base "Desk" 3 dj:=mK F1 kn_Desk (Yj X G kn_Desk) ⟨mk1,a1,gfn1,kk_Desk⟩ b1 T d_Keeper___init__
 have d_Keeper_back_n:MetN P w K mg base "Keeper" "back" 1 1 eF:=mM F2 kn_Keeper ⟨kg_Keeper,kd_Keeper,ko_Keeper,ks_Keeper⟩ ⟨a2,gfn2,k2⟩ b2 T
 have d_Keeper_change:MetN P w K mg base "Keeper" "change" 1 2 bU:=mO F3 kn_Keeper ⟨kg_Keeper,kd_Keeper,ko_Keeper,ks_Keeper⟩ ⟨a3,gfn3,k3⟩ b3 T
 have d_is_whole:DefN P w K mg base "is_whole" 1 1 bL:=wu F4 (Yj X G a4) b4 T
 have d_need_number_n:DefN P w K mg base "need_number" 2 1 bu:=mQ F5 (Yj X G a5) b5 T d_is_whole
 have d_need_number_from_n:DefN P w K mg base "need_number_from" 3 2 bQ:=jg F6 (Yj X G a6) b6 T d_need_number_n
 have d_Keeper_put_n:MetN P w K mg base "Keeper" "put" 4 2 cO:=nF F7 kn_Keeper ⟨kg_Keeper,kd_Keeper,ko_Keeper,ks_Keeper⟩ ⟨a7,gfn7,k7⟩ b7 T d_Keeper_change d_need_number_from_n
 have d_Keeper_row:MetN P w K mg base "Keeper" "row" 1 1 eZ:=ql F8 kn_Keeper ⟨kg_Keeper,kd_Keeper,ko_Keeper,ks_Keeper⟩ ⟨a8,gfn8,k8⟩ b8 T
 have d_Keeper_take_n:MetN P w K mg base "Keeper" "take" 2 1 eG:=mS F9 kn_Keeper ⟨kg_Keeper,kd_Keeper,ko_Keeper,ks_Keeper⟩ ⟨a9,gfn9,k9⟩ b9 T d_Keeper_change
 have d_halves_of:DefN P w K mg base "halves_of" 1 1 bo:=tZ F10 (Yj X G a10) b10 T
 have d_is_row:DefN P w K mg base "is_row" 2 1 fJ:=AD F11 (Yj X G a11) b11 T d_is_whole
 have d_need_row_n:DefN P w K mg base "need_row" 3 1 aW:=qo F12 (Yj X G a12) b12 T d_is_row
 have d_need_row_and_number_n:DefN P w K mg base "need_row_and_number" 4 2 aG:=ic F13 (Yj X G a13) b13 T d_need_number_n d_need_row_n
 have d_stepped:DefN P w K mg base "stepped" 1 3 gk:=xR F14 (Yj X G a14) b14 T
 have d_table_of:DefN P w K mg base "table_of" 2 2 de:=wx F15 (Yj X G a15) b15 T d_stepped
 have d_many_met_n:DefN P w K mg base "many_met" 5 2 F_many_met_n:=qp F16 (Yj X G a16) b16 T d_halves_of d_need_row_and_number_n d_table_of
 have d_comes_text_n:DefN P w K mg base "comes_text" 6 2 cP:=nH F17 (Yj X G a17) b17 T d_many_met_n
 have d_half_worths_n:DefN P w K mg base "half_worths" 4 1 dm:=mU F18 (Yj X G a18) b18 T d_halves_of d_need_row_n d_table_of
 have d_walk_n:DefN P w K mg base "walk" 5 2 e6:=AE F19 (Yj X G a19) b19 T d_half_worths_n
 have d_above_n:DefN P w K mg base "above" 6 2 F_above_n:=xV F20 (Yj X G a20) b20 T d_need_row_and_number_n d_walk_n
 have d_unevenness_n:DefN P w K mg base "unevenness" 7 1 F_unevenness_n:=nJ F21 (Yj X G a21) b21 T d_above_n
 have d_even_text_n:DefN P w K mg base "even_text" 8 1 dq:=pN F22 (Yj X G a22) b22 T d_unevenness_n
 have d_ahead_of_too_great:DefN P w K mg base "ahead_of_too_great" 1 2 bh:=jh F23 (Yj X G a23) b23 T
 have d_every_by_parts_n:DefN P w K mg base "every_by_parts" 4 1 F_every_by_parts_n:=jX F24 (Yj X G a24) b24 T d_ahead_of_too_great d_need_row_n
 have d_every_by_signs_n:DefN P w K mg base "every_by_signs" 4 1 F_every_by_signs_n:=jZ F25 (Yj X G a25) b25 T d_ahead_of_too_great d_need_row_n
 have d_every_text_n:DefN P w K mg base "every_text" 5 1 cR:=nM F26 (Yj X G a26) b26 T d_every_by_parts_n d_every_by_signs_n
 have d_below_n:DefN P w K mg base "below" 6 2 F_below_n:=xX F27 (Yj X G a27) b27 T d_need_row_and_number_n d_walk_n
 have d_number_or_none:DefN P w K mg base "number_or_none" 1 1 ck:=lS F28 (Yj X G a28) b28 T
 have d_near_text_n:DefN P w K mg base "near_text" 7 2 dr:=pP F29 (Yj X G a29) b29 T d_above_n d_below_n d_number_or_none
 have d_row_text:DefN P w K mg base "row_text" 1 1 eO:=wz F30 (Yj X G a30) b30 T
 have d_firsts_stepped:DefN P w K mg base "firsts_stepped" 1 2 cn:=lT F31 (Yj X G a31) b31 T
 have d_firsts_of:DefN P w K mg base "firsts_of" 2 1 eS:=t5 F32 (Yj X G a32) b32 T d_firsts_stepped
 have d_first_met_n:DefN P w K mg base "first_met" 5 2 F_first_met_n:=pQ F33 (Yj X G a33) b33 T d_firsts_of d_halves_of d_need_row_and_number_n
 have d_figures_of:DefN P w K mg base "figures_of" 1 1 dS:=qq F34 (Yj X G a34) b34 T
 have d_are_whole:DefN P w K mg base "are_whole" 2 2 fL:=t7 F35 (Yj X G a35) b35 T d_is_whole
 have d_are_parts_n:DefN P w K mg base "are_parts" 4 2 d9:=pS F36 (Yj X G a36) b36 T d_are_whole d_need_row_n
 have d_need_parts_n:DefN P w K mg base "need_parts" 5 2 dH:=nO F37 (Yj X G a37) b37 T d_are_parts_n
 have d_show_n:DefN P w K mg base "show" 6 2 ef:=AG F38 (Yj X G a38) b38 T d_figures_of d_need_parts_n
 have d_signs_text_n:DefN P w K mg base "signs_text" 7 2 cT:=nP F39 (Yj X G a39) b39 T d_first_met_n d_show_n
 have d_swings_stepped:DefN P w K mg base "swings_stepped" 1 2 cq:=lU F40 (Yj X G a40) b40 T
 have d_least_swing_n:DefN P w K mg base "least_swing" 4 1 F_least_swing_n:=mV F41 (Yj X G a41) b41 T d_need_row_n d_swings_stepped
 have d_swing_text_n:DefN P w K mg base "swing_text" 5 1 cU:=nR F42 (Yj X G a42) b42 T d_least_swing_n
 have d_ways_text_n:DefN P w K mg base "ways_text" 6 2 dt:=pV F43 (Yj X G a43) b43 T d_many_met_n
 have d_is_number_word:DefN P w K mg base "is_number_word" 1 1 bM:=lV F44 (Yj X G a44) b44 T
 have d_is_line:DefN P w K mg base "is_line" 2 1 iC:=xZ F45 (Yj X G a45) b45 T d_is_number_word
 have d_words_of_line_n:DefN P w K mg base "words_of_line" 3 1 bp:=kW F46 (Yj X G a46) b46 T d_is_line
 have d_Desk_say_n:MetN P w K mg base "Desk" "say" 9 2 bP:=qr F47 kn_Desk ⟨kg_Desk,kd_Desk,ko_Desk,ks_Desk⟩ ⟨a47,gfn47,k47⟩ b47 T d_Keeper_back_n d_Keeper_put_n d_Keeper_row d_Keeper_take_n d_comes_text_n d_even_text_n d_every_text_n d_near_text_n d_row_text d_signs_text_n d_swing_text_n d_ways_text_n d_words_of_line_n
 have d__law_box:DefN P w K mg base "_law_box" 1 2 eP:=wA F48 (Yj X G a48) b48 T
 have d__law_dues_n:DefN P w K mg base "_law_dues" 8 2 eh:=pW F49 (Yj X G a49) b49 T d_above_n d_below_n d_every_by_parts_n d_every_by_signs_n d_first_met_n d_least_swing_n d_many_met_n d_show_n d_unevenness_n
 have d__law_take:DefN P w K mg base "_law_take" 1 2 aY:=t8 F50 (Yj X G a50) b50 T
 have d__law_number:DefN P w K mg base "_law_number" 2 2 ei:=pX F51 (Yj X G a51) b51 T d__law_take
 have d__law_row:DefN P w K mg base "_law_row" 2 2 gy:=wB F52 (Yj X G a52) b52 T d__law_take
 have d__law_said:DefN P w K mg base "_law_said" 10 2 cb:=ua F53 (Yj X G a53) b53 T d_Desk_say_n
 exact DM ["script","k","box","row","desk","number","lap","dues","words","at","word"] ["script"] 10 11 1 11 rfl rfl rfl (m:=Fp) F54 gE λcdv A outer s H E hr=>(ao (dZ Zc rfl (jH Y1 T.b_range (ah (aL (Bt rfl) Y1 T.b_max tX (ah ay (ah (aL (wX rfl) Y1 T.b_min lP (ah (aL d7 Y1 T.b_len cL (ah (vL 0) aj)) (ah ay aj))) aj))) aj)) (aM gE.nd Y0 Y2) (ao (aH gE.nd Y0 Y2 (aB d__law_box (hr.mono (by decide)) Y1 (ah (vL 0) (ah (vL 1) aj)) (ai (ai au)))) (ao (aH gE.nd Y0 Y2 (aB d__law_row (hr.mono (by decide)) Y1 (ah (vL 2) (ah ay aj)) (ai (ai au)))) (ao (aH gE.nd Y0 Y2 (BQ d_Desk___init__ (hr.mono (by decide)) Y1)) (ao (dZ Zc rfl (dv (vL 3)) (aM gE.nd Y0 Y2) (ax (cu (lz d_Desk_say_n (hr.mono (by decide)) (vL 4) (ah (aJ bc ba (aS dG Y1 T.b_str cy (ah (vL 5) aj))) aj) (ai au))))) (ao (dZ Zc rfl (jH Y1 T.b_range (ah ay aj)) (aM gE.nd Y0 Y2) (ao (aH gE.nd Y0 Y2 (aB d__law_dues_n (hr.mono (by decide)) Y1 (ah (vL 3) (ah (aB d__law_number (hr.mono (by decide)) Y1 (ah (vL 2) (ah (vL 3) aj)) (ai (ai au))) aj)) (ai (ai au)))) (ao (aH gE.nd Y0 Y2 (aS (B1 hr.hd) Y1 T.b_list C5 (ah (vL 7) aj))) (ao (aH gE.nd Y0 Y2 (aB d__law_take (hr.mono (by decide)) Y1 (ah (vL 2) (ah (aL d7 Y1 T.b_len cL (ah (vL 8) aj)) aj)) (ai (ai au)))) (ax (dZ Zc rfl (dv (aJ bc (qJ mz (vL 8) (jJ (vL 9)) jI) (qJ mz (vL 8) jI (jJ (vL 9))))) (aM gE.nd Y0 Y2) (ax (cX (bC (sU hr) (aB d__law_said (hr.mono (by decide)) Y1 (ah (vL 4) (ah (vL 10) aj)) (ai (ai au))) (bV (kC hr) (vL 7) (vL 10))) (ax (aF uB)) bT)))))))) (ax (cX (bC (sU hr) (aB d__law_said (hr.mono (by decide)) Y1 (ah (vL 4) (ah ba aj)) (ai (ai au))) (Hk (js Zz V6 V7 nZ ba (ah (dw (N:=["number"]) (k:=1) (caps:=[]) rfl (λ_ _ z=>z) (gq Y0 Y0 Y0 Y0 rfl Y0) (dv (vL 3)) (λ_ _ _ _=>(aM (show(["number"]:List Str).Nodup by decide +kernel) Y0 Y2)) (λ_ _ _ _=>eE) (λ_ _ _ _=>(aS dG Y1 T.b_str cy (ah (vL 0) aj)))) aj)) ba)) (ax (aF uB)) bT)))))))) (ax (aF uB)))
def walk{l:PySem.W.OpenLaw}{q:Program}{loose:List Str}{XP:(Str->Option Value)->Heap->Prop}{YP:World->Heap->Prop}{d:DefRec}{K:Params->Frag}(hn:l.most=some 63)(hdf:d.params.defaults=[])
  (hY:∀(w:World)(h:Heap),YP w h->(K w.params).In h)
  (F:∀(w:World)(mg:Str->Option Value)(fa:Addr)(h:Heap),(K w.params).In h->h.Ns mainGlobals mg->mg d.name=some (.ref fa)->
   ∃fd:FuncData,(∀(s:Shared)(u:Value),BindsTo s fd ⟨[u],[]⟩ [("script",u)])/\∀base:Heap,(K w.params).In base->base.Ns mainGlobals mg->FnOk l.prog w (K w.params) mg base (CX1 l.prog w) 11 fa fd ["script"] (spN (K w.params) 1 yK)):
  PySem.W.WalkO q loose XP YP l.row.toRowW d [] (λf vs=>PySem.call f vs):=
 L2.DC (n:=63) (k:=11) (x:="script") (CX:=λw=>CX1 l.prog w) (sp:=λw=>spN (K w.params) 1 yK) hn (by decide) hdf ⟨rfl,by decide,by decide,rfl⟩ hY F (λw H a ns hl ho hS=>DN C3 (K w.params) H a ns hl ho hS) λ_ _ _ _ _ z=>G1 z
end Lw
open PySem PySem.W PyProof.Rows
set_option maxRecDepth 100000 in
set_option maxHeartbeats 0 in
theorem PySem.Challenge.cw_plusless_k82_asks_at_a_desk_holds : PySem.Challenge.rw_plusless_k82_asks_at_a_desk.Holds := by
 w_on; o_law
 refine holds_open (q := Lw.hV) (loose := ["MARK_OF","ASKED_ALONE","ASKED_OF_A_NUMBER"]) (Xt := Lw.hX) (XP := XL Lw.hV []) (Yf := Hook.obs (kHook Lw.hK Lw.hA Lw.hKA)) (Ya := Hook.val (kHook Lw.hK Lw.hA Lw.hKA)) (YP := Hook.says (kHook Lw.hK Lw.hA Lw.hKA)) (N := 12400) Lw.left (Hook.of (kHook Lw.hK Lw.hA Lw.hKA)) (Hook.keeps (kHook Lw.hK Lw.hA Lw.hKA)) (λs e => xl_of s (Bool.and_eq_true_iff.mp e).1) XL.keeps (by rfl) (by rfl) (by rfl) (λs e => recFacts_of (Bool.and_eq_true_iff.mp e).2) (by rfl) (by first | assumption | decide +kernel) (by decide +kernel) ⟨rfl, rfl, rfl, rfl, rfl, by decide +kernel⟩ ?hw ?hc
 case hw => w_witness2
 k_fill
 refine Lw.walk (l := PySem.Challenge.rw_plusless_k82_asks_at_a_desk) rfl rfl (λw h Y => by first | exact PySem.W.kIn_of Y | exact Y.1) ?F
 case F =>
  intro w mg fa h KX G hmg
  refine' Lw.all_mk KX G hmg ?kn_Desk ?kg_Desk ?kd_Desk ?ko_Desk ?ks_Desk ?kk_Desk ?kn_Keeper ?kg_Keeper ?kd_Keeper ?ko_Keeper ?ks_Keeper ?kk_Keeper ?kf_Desk_keeper ?kf_Keeper_earlier ?kf_Keeper_numbers ?a0 ?gfn0 ?mk0 ?l0 ?c0 ?k0 ?a1 ?gfn1 ?mk1 ?l1 ?c1 ?k1 ?a2 ?gfn2 ?l2 ?c2 ?k2 ?a3 ?gfn3 ?l3 ?c3 ?k3 ?h4 ?h5 ?h6 ?a7 ?gfn7 ?l7 ?c7 ?k7 ?a8 ?gfn8 ?l8 ?c8 ?k8 ?a9 ?gfn9 ?l9 ?c9 ?k9 ?h10 ?h11 ?h12 ?h13 ?h14 ?h15 ?h16 ?a17 ?l17 ?c17 ?k17 ?h18 ?h19 ?h20 ?h21 ?a22 ?l22 ?c22 ?k22 ?h23 ?h24 ?h25 ?a26 ?l26 ?c26 ?k26 ?h27 ?h28 ?a29 ?l29 ?c29 ?k29 ?a30 ?l30 ?c30 ?k30 ?h31 ?h32 ?h33 ?h34 ?h35 ?h36 ?h37 ?h38 ?a39 ?l39 ?c39 ?k39 ?h40 ?h41 ?a42 ?l42 ?c42 ?k42 ?a43 ?l43 ?c43 ?k43 ?h44 ?h45 ?h46 ?a47 ?gfn47 ?l47 ?c47 ?k47 ?h48 ?h49 ?h50 ?h51 ?h52 ?h53 ?h54 ?z_abs ?z_all ?z_bool ?z_divmod ?z_int ?z_isinstance ?z_len ?z_list ?z_max ?z_min ?z_range ?z_sorted ?z_str ?z_sum ?z_tuple ?z_zip ?z_LONGEST_ROW ?z_MOST_FIGURES ?z_PIECE ?z_TIMES_BY_PARTS ?z_TIMES_BY_SIGNS ?zt_SIGNS ?yt_SIGNS ?zt_CHANGED_ALONE ?yt_CHANGED_ALONE ?zf_ASKED_ALONE ?yf_ASKED_ALONE ?hf_ASKED_ALONE ?zf_ASKED_OF_A_NUMBER ?yf_ASKED_OF_A_NUMBER ?hf_ASKED_OF_A_NUMBER ?zs_FIGURES ?zd_MARK_OF ?yd_MARK_OF ?gt ?tk
  (case kn_Desk=>k_is)
  (case kg_Desk=>k_is)
  (case kd_Desk=>k_is)
  (case ko_Desk=>k_is)
  (case ks_Desk=>k_is)
  (case kk_Desk=>k_is)
  (case kn_Keeper=>k_is)
  (case kg_Keeper=>k_is)
  (case kd_Keeper=>k_is)
  (case ko_Keeper=>k_is)
  (case ks_Keeper=>k_is)
  (case kk_Keeper=>k_is)
  (case kf_Desk_keeper=>k_is)
  (case kf_Keeper_earlier=>k_is)
  (case kf_Keeper_numbers=>k_is)
  (case a0=>k_is)
  (case gfn0=>k_is)
  (case mk0=>k_is)
  (case l0=>k_is)
  (case c0=>k_is)
  (case k0=>k_is)
  (case a1=>k_is)
  (case gfn1=>k_is)
  (case mk1=>k_is)
  (case l1=>k_is)
  (case c1=>k_is)
  (case k1=>k_is)
  (case a2=>k_is)
  (case gfn2=>k_is)
  (case l2=>k_is)
  (case c2=>k_is)
  (case k2=>k_is)
  (case a3=>k_is)
  (case gfn3=>k_is)
  (case l3=>k_is)
  (case c3=>k_is)
  (case k3=>k_is)
  (case h4=>refine' Lw.bF ?a ?l ?c ?k;(case a=>k_is);(case l=>k_is);(case c=>k_is);(case k=>k_is))
  (case h5=>refine' Lw.bF ?a ?l ?c ?k;(case a=>k_is);(case l=>k_is);(case c=>k_is);(case k=>k_is))
  (case h6=>refine' Lw.bF ?a ?l ?c ?k;(case a=>k_is);(case l=>k_is);(case c=>k_is);(case k=>k_is))
  (case a7=>k_is)
  (case gfn7=>k_is)
  (case l7=>k_is)
  (case c7=>k_is)
  (case k7=>k_is)
  (case a8=>k_is)
  (case gfn8=>k_is)
  (case l8=>k_is)
  (case c8=>k_is)
  (case k8=>k_is)
  (case a9=>k_is)
  (case gfn9=>k_is)
  (case l9=>k_is)
  (case c9=>k_is)
  (case k9=>k_is)
  (case h10=>refine' Lw.bF ?a ?l ?c ?k;(case a=>k_is);(case l=>k_is);(case c=>k_is);(case k=>k_is))
  (case h11=>refine' Lw.bF ?a ?l ?c ?k;(case a=>k_is);(case l=>k_is);(case c=>k_is);(case k=>k_is))
  (case h12=>refine' Lw.bF ?a ?l ?c ?k;(case a=>k_is);(case l=>k_is);(case c=>k_is);(case k=>k_is))
  (case h13=>refine' Lw.bF ?a ?l ?c ?k;(case a=>k_is);(case l=>k_is);(case c=>k_is);(case k=>k_is))
  (case h14=>refine' Lw.bF ?a ?l ?c ?k;(case a=>k_is);(case l=>k_is);(case c=>k_is);(case k=>k_is))
  (case h15=>refine' Lw.bF ?a ?l ?c ?k;(case a=>k_is);(case l=>k_is);(case c=>k_is);(case k=>k_is))
  (case h16=>refine' Lw.bF ?a ?l ?c ?k;(case a=>k_is);(case l=>k_is);(case c=>k_is);(case k=>k_is))
  (case a17=>k_is)
  (case l17=>k_is)
  (case c17=>k_is)
  (case k17=>k_is)
  (case h18=>refine' Lw.bF ?a ?l ?c ?k;(case a=>k_is);(case l=>k_is);(case c=>k_is);(case k=>k_is))
  (case h19=>refine' Lw.bF ?a ?l ?c ?k;(case a=>k_is);(case l=>k_is);(case c=>k_is);(case k=>k_is))
  (case h20=>refine' Lw.bF ?a ?l ?c ?k;(case a=>k_is);(case l=>k_is);(case c=>k_is);(case k=>k_is))
  (case h21=>refine' Lw.bF ?a ?l ?c ?k;(case a=>k_is);(case l=>k_is);(case c=>k_is);(case k=>k_is))
  (case a22=>k_is)
  (case l22=>k_is)
  (case c22=>k_is)
  (case k22=>k_is)
  (case h23=>refine' Lw.bF ?a ?l ?c ?k;(case a=>k_is);(case l=>k_is);(case c=>k_is);(case k=>k_is))
  (case h24=>refine' Lw.bF ?a ?l ?c ?k;(case a=>k_is);(case l=>k_is);(case c=>k_is);(case k=>k_is))
  (case h25=>refine' Lw.bF ?a ?l ?c ?k;(case a=>k_is);(case l=>k_is);(case c=>k_is);(case k=>k_is))
  (case a26=>k_is)
  (case l26=>k_is)
  (case c26=>k_is)
  (case k26=>k_is)
  (case h27=>refine' Lw.bF ?a ?l ?c ?k;(case a=>k_is);(case l=>k_is);(case c=>k_is);(case k=>k_is))
  (case h28=>refine' Lw.bF ?a ?l ?c ?k;(case a=>k_is);(case l=>k_is);(case c=>k_is);(case k=>k_is))
  (case a29=>k_is)
  (case l29=>k_is)
  (case c29=>k_is)
  (case k29=>k_is)
  (case a30=>k_is)
  (case l30=>k_is)
  (case c30=>k_is)
  (case k30=>k_is)
  (case h31=>refine' Lw.bF ?a ?l ?c ?k;(case a=>k_is);(case l=>k_is);(case c=>k_is);(case k=>k_is))
  (case h32=>refine' Lw.bF ?a ?l ?c ?k;(case a=>k_is);(case l=>k_is);(case c=>k_is);(case k=>k_is))
  (case h33=>refine' Lw.bF ?a ?l ?c ?k;(case a=>k_is);(case l=>k_is);(case c=>k_is);(case k=>k_is))
  (case h34=>refine' Lw.bF ?a ?l ?c ?k;(case a=>k_is);(case l=>k_is);(case c=>k_is);(case k=>k_is))
  (case h35=>refine' Lw.bF ?a ?l ?c ?k;(case a=>k_is);(case l=>k_is);(case c=>k_is);(case k=>k_is))
  (case h36=>refine' Lw.bF ?a ?l ?c ?k;(case a=>k_is);(case l=>k_is);(case c=>k_is);(case k=>k_is))
  (case h37=>refine' Lw.bF ?a ?l ?c ?k;(case a=>k_is);(case l=>k_is);(case c=>k_is);(case k=>k_is))
  (case h38=>refine' Lw.bF ?a ?l ?c ?k;(case a=>k_is);(case l=>k_is);(case c=>k_is);(case k=>k_is))
  (case a39=>k_is)
  (case l39=>k_is)
  (case c39=>k_is)
  (case k39=>k_is)
  (case h40=>refine' Lw.bF ?a ?l ?c ?k;(case a=>k_is);(case l=>k_is);(case c=>k_is);(case k=>k_is))
  (case h41=>refine' Lw.bF ?a ?l ?c ?k;(case a=>k_is);(case l=>k_is);(case c=>k_is);(case k=>k_is))
  (case a42=>k_is)
  (case l42=>k_is)
  (case c42=>k_is)
  (case k42=>k_is)
  (case a43=>k_is)
  (case l43=>k_is)
  (case c43=>k_is)
  (case k43=>k_is)
  (case h44=>refine' Lw.bF ?a ?l ?c ?k;(case a=>k_is);(case l=>k_is);(case c=>k_is);(case k=>k_is))
  (case h45=>refine' Lw.bF ?a ?l ?c ?k;(case a=>k_is);(case l=>k_is);(case c=>k_is);(case k=>k_is))
  (case h46=>refine' Lw.bF ?a ?l ?c ?k;(case a=>k_is);(case l=>k_is);(case c=>k_is);(case k=>k_is))
  (case a47=>k_is)
  (case gfn47=>k_is)
  (case l47=>k_is)
  (case c47=>k_is)
  (case k47=>k_is)
  (case h48=>refine' Lw.bF ?a ?l ?c ?k;(case a=>k_is);(case l=>k_is);(case c=>k_is);(case k=>k_is))
  (case h49=>refine' Lw.bF ?a ?l ?c ?k;(case a=>k_is);(case l=>k_is);(case c=>k_is);(case k=>k_is))
  (case h50=>refine' Lw.bF ?a ?l ?c ?k;(case a=>k_is);(case l=>k_is);(case c=>k_is);(case k=>k_is))
  (case h51=>refine' Lw.bF ?a ?l ?c ?k;(case a=>k_is);(case l=>k_is);(case c=>k_is);(case k=>k_is))
  (case h52=>refine' Lw.bF ?a ?l ?c ?k;(case a=>k_is);(case l=>k_is);(case c=>k_is);(case k=>k_is))
  (case h53=>refine' Lw.bF ?a ?l ?c ?k;(case a=>k_is);(case l=>k_is);(case c=>k_is);(case k=>k_is))
  (case h54=>refine' Lw.bF ?a ?l ?c ?k;(case a=>k_is);(case l=>k_is);(case c=>k_is);(case k=>k_is))
  (case z_abs=>k_is)
  (case z_all=>k_is)
  (case z_bool=>k_is)
  (case z_divmod=>k_is)
  (case z_int=>k_is)
  (case z_isinstance=>k_is)
  (case z_len=>k_is)
  (case z_list=>k_is)
  (case z_max=>k_is)
  (case z_min=>k_is)
  (case z_range=>k_is)
  (case z_sorted=>k_is)
  (case z_str=>k_is)
  (case z_sum=>k_is)
  (case z_tuple=>k_is)
  (case z_zip=>k_is)
  (case z_LONGEST_ROW=>k_is)
  (case z_MOST_FIGURES=>k_is)
  (case z_PIECE=>k_is)
  (case z_TIMES_BY_PARTS=>k_is)
  (case z_TIMES_BY_SIGNS=>k_is)
  (case zt_SIGNS=>k_is)
  (case yt_SIGNS=>k_is)
  (case zt_CHANGED_ALONE=>k_is)
  (case yt_CHANGED_ALONE=>k_is)
  (case zf_ASKED_ALONE => exact (by kernel_rfl : PySem.W.nsIn (Lw.hK w.params) mainGlobals "ASKED_ALONE" = some (some (.ref 488))))
  (case yf_ASKED_ALONE => kernel_rfl)
  (case hf_ASKED_ALONE => kernel_rfl)
  (case zf_ASKED_OF_A_NUMBER => exact (by kernel_rfl : PySem.W.nsIn (Lw.hK w.params) mainGlobals "ASKED_OF_A_NUMBER" = some (some (.ref 489))))
  (case yf_ASKED_OF_A_NUMBER => kernel_rfl)
  (case hf_ASKED_OF_A_NUMBER => kernel_rfl)
  (case zs_FIGURES=>k_is)
  (case zd_MARK_OF=>k_is)
  (case yd_MARK_OF => kernel_rfl)
  (case gt=>k_is)
  (case tk=>k_is)
