import PyProof.Rows.All
import Wide.All
import OpenK.AllK
import Wide.FinOn
import PyProof.EqAt
import PyProof.EqKinds
import PyProof.TupleCall
import PyProof.ZipIter
import PyProof.EnumMake
import PyProof.Draws
import PyProof.LayNew
import PyProof.Rows.SortShell
import PyProof.IsRules
import PyProof.ListIndex
import PyProof.Cells
import PyProof.CompUse
import PyProof.DictItems
import PyProof.DictItemsLoops
import PyProof.Rows.MinMaxN
import PyProof.Rows.Range3
import KE.KRevIter
import PyProof.DictWalks
import PyProof.NeKinds
import PyProof.DictList
import PyProof.DictUpdate
import PyProof.Rows.Tup
import PyProof.FactsAll.tuple_2
import PyProof.Rows.CallKwBuiltin
import KE.KDictSum
import KE.KSortTup
import KE.KRevSl
import KE.KUnpack
import PyProof.Rows.SetFrom
import Lean
import PySem.Challenge.RW_plusless_k28_whole_evenness
set_option Elab.async false
set_option linter.all false
set_option maxRecDepth 100000
set_option genSizeOf false
theorem Au.h2(h:True:=by decide):True:=h
theorem Au.h5(h:True:=by intro _;rfl):True:=h
theorem Au.h1(h:True:=by rfl):True:=h
theorem Au.h8(h:True:=by intro _ _ z;cases z):True:=h
theorem Au.h0(h:True:=by kernel_rfl):True:=h
theorem Au.h3(h:True:=by decide +kernel):True:=h
theorem Au.h9(h:True:=by first|exact L2.D7 _|kernel_rfl):True:=h
theorem Au.h4(h:True:=by intro _;kernel_rfl):True:=h
theorem Au.h7(h:True:=by first|left;rfl|right;kernel_rfl):True:=h
theorem ex5{α β:Type}{a b c:α->β->Prop}{P:Prop}(z:∃x y,a x y/\b x y/\c x y)(f:∀x y,a x y->b x y->c x y->P):P:=by obtain⟨x,y,u,v,w⟩:=z;exact f x y u v w
def J6:=@PySem.wpAny_bind
def J7:=@PySem.Heap.get?_push_of_some
def J8:=@if_pos
def J9:=@Nat.le_refl
def Ja:=@List.getElem?_eq_some_iff
def Jb:=@if_neg
def Jc:=@PySem.wpAny_pure
def Jd:=@List.getElem?_eq_getElem
def Je:=@PyProof.Rows.wpS_bind
def Jf:=@PyProof.Rows.wpS_pure
def Jg:=@List.length_map
def Jh:=@PySem.Heap.lt_size
def Ji:=@PySem.Heap.get?_push_size
def Jj:=@List.mem_cons
def Jk:=@Bool.false_ne_true
def Jl:=@List.map_cons
def Jm:=@List.length_cons
def Jn:=@List.getD_eq_getElem?_getD
def Jo:=@PySem.W.mg_of
def Jp:=@List.length_append
def Jq:=@Nat.ne_of_lt
def Jr:=@List.mem_append
def Js:=@List.size_toArray
def Jt:=@Nat.lt_of_lt_of_le
def Ju:=@List.mem_singleton
def Jv:=@List.getElem?_append_left
def Jw:=@Bool.false_eq_true
def Jx:=@decide_eq_true
def Jy:=@Array.length_toList
def Jz:=@decide_eq_false
def Y0:=@Nat.zero_le
def Y1:=@List.mem_map
def Y2:=@Nat.le_trans
def Y3:=@List.mem_cons_of_mem
def Y4:=@List.mem_cons_self
def Y5:=@List.mem_append_right
def Y6:=@List.not_mem_nil
def Y7:=@PySem.Heap.size_push
def Y8:=@List.getElem?_set_self
def Y9:=@PySem.W.mg_none_of
def Yb:=@PySem.wpAny_newObj_type
def Yc:=@List.getElem?_set_ne
def Yd:=@if_true
def Ye:=@List.append_assoc
def Yg:=@List.getElem?_append_right
def Yh:=@PySem.wpAny_field
def Yi:=@List.length_nil
def Yj:=@if_false
def Yk:=@Array.toList_append
def Yl:=@List.sum_cons
def Ym:=@PyProof.Rows.wpS_forRange
def Yn:=@List.map_map
def Yo:=@List.set_cons_zero
def Yp:=@Option.some.inj
def Yq:=@List.mem_filter
def Yr:=@List.append_nil
def Ys:=@PySem.PassesOwn.never
def Yt:=@Bool.and_eq_true
def Yu:=@PySem.wpAny_callSpecial?_slot
def Yv:=@PySem.wpAny_rule
def Yw:=@PySem.wpAny_holding
def Yx:=@List.all_eq_true
def Yy:=@Int.le_of_lt
def Yz:=@Array.getElem?_toList
def Z0:=@PyProof.Rows.slot_tuple_getitem
def Z1:=@PySem.wpAny_seqItems
def Z2:=@PySem.W.kia_one
def Z3:=@List.mem_of_getElem?
def Z4:=@PySem.wpAny_call_entry
def Z5:=@PySem.Heap.get?_update_other
def Z6:=@Int.le_refl
def Z7:=@PyProof.Rows.wpS_mono
def Z8:=@List.map_congr_left
def Z9:=@List.getElem?_map
def Za:=@Nat.lt_succ_of_lt
def Zb:=@or_false
def Zc:=@List.take_append_drop
def Zd:=@List.find?_cons
def Ze:=@List.pairwise_cons
def Zf:=@List.set_cons_succ
def Zg:=@List.length_eq_zero_iff
def Zh:=@List.getElem?_cons_succ
def Zi:=@PySem.F.plain_min_loop
def Zj:=@PySem.wpAny_pyIter_list
def Zk:=@PySem.wpAny_mono
def Zl:=@List.drop_eq_getElem_cons
def Zm:=@Option.map_some
def Zn:=@List.length_singleton
def Zo:=@List.length_take
def Zp:=@List.length_drop
def Zq:=@Nat.lt_succ_self
def Zr:=@Int.le_trans
def Zs:=@PySem.Around.under_plainId
def Zt:=@Nat.pow_le_pow_right
def Zu:=@List.getElem?_cons_zero
def Zv:=@congrArg
def Zw:=@of_decide_eq_true
def Zx:=@List.flatMap_cons
def Zy:=@PySem.codeAny_builtin
def Zz:=@PyProof.Rows.callWith_type1
def Q0:=@List.nil_append
def Q2:=@List.replicate_succ
def Q3:=@PySem.Heap.SameBut.update
def Q4:=@List.any_cons
def Q5:=@List.set_getElem_self
def Q6:=@List.pairwise_iff_getElem
def Q7:=@Nat.ne_of_gt
def Q8:=@Bool.eq_iff_iff
def Q9:=@decide_false
def Qa:=@PySem.wpAny_truthy_bool
def Qb:=@Nat.lt_irrefl
def Qc:=@List.pairwise_singleton
def Qd:=@List.length_reverse
def Qe:=@List.lookup_cons
def Qf:=@List.take_of_length_le
def Qg:=@decide_true
def Qh:=@PySem.wpAny_setField_rec
def Qi:=@PySem.Heap.get?_update_self
def Qj:=@PySem.wpAny_passesOwn
def Qk:=@List.map_append
def Ql:=@PySem.F.slot_tuple_iterator_next
def Qm:=@PySem.plainId_quiet
def Qn:=@List.any_eq_false
def Qo:=@List.flatten_cons
def Qp:=@PySem.Heap.get?_none_of_le
def Qq:=@List.mem_append_left
def Qr:=@List.pairwise_append
def Qs:=@List.mem_iff_getElem
def Qt:=@PyProof.Rows.wpS_modify
def Qu:=@PySem.sizeLine_eq
def Qv:=@PySem.AutoSeq1.wpAny_loadPart'
def Qw:=@List.getElem_mem
def Qx:=@PySem.F.slot_list_append
def Qy:=@PySem.F.type_list_append
def Qz:=@PySem.mem_of_lookup
def W0:=@List.getElem?_replicate
def W3:=@PySem.F.plainAttrs_list
def W4:=@PySem.wpAny_newList
def W5:=@PySem.wpAny_pyIter_tuple
def W6:=@PySem.wpAny_Call_Name_kw
def W7:=@PySem.tupleKind_room_in1
def W8:=@of_decide_eq_false
def W9:=@Nat.le_succ
def Wa:=@Sum.inl.inj
def Wb:=@List.zipWith_cons_cons
def Wc:=@PyProof.Rows.vals1
def We:=@Int.toNat_natCast
def Wf:=@Array.toList_push
def Wg:=@List.reverse_cons
def Wh:=@List.length_replicate
def Wi:=@PySem.wpAny_typeOf
def Wj:=@PySem.wpAny_tryCatch
def Wk:=@PyProof.Rows.wpS_get
def Wl:=@List.set_append_right
def Wm:=@Int.mul_le_mul
def Wn:=@List.set_set
def Wp:=@PySem.call_meets
def Wq:=@List.take_length
def Wr:=@List.zipIdx_cons
def Ws:=@Array.toList_reverse
def Wt:=@PySem.Heap.size_update
def Wu:=@List.any_eq_true
def Wv:=@Nat.mul_le_mul_right
def Ww:=@List.filter_cons
def Wx:=@decide_eq_decide
def Wy:=@Array.perm_iff_toList_perm
def Wz:=@List.nodup_iff_pairwise_ne
def V0:=@PySem.wpAny_letGo
def V1:=@List.reverse_append
def V2:=@PyProof.Rows.get?_update_seq
def V3:=@PySem.F.args_tuple_add_2
def V4:=@List.map_nil
def V5:=@List.getElem?_drop
def V6:=@List.mem_range
def V7:=@PySem.typeIs_int
def V8:=@PySem.F.entry_tuple_add
def V9:=@Option.isSome_map
def Va:=@PySem.Heap.get?_push_ne
def Vb:=@PySem.F.slot_tuple_add
def Vc:=@PySem.wpAny_attempt
def Vd:=@PyProof.Rows.LSm.kept_iter
def Ve:=@PyProof.Rows.listUpdate_at
def Vf:=@Bool.not_true
def Vg:=@PySem.F.entry_min_loop
def Vh:=@PyProof.Rows.wpS_lift
def Vi:=@List.cons_append
def Vj:=@PySem.Obj.isFreed_of_fields
def Vk:=@PySem.F.slot_dict_get
def Vl:=@Nat.le_of_lt
def Vm:=@PySem.wpAny_execs_nil
def Vn:=@List.nodup_cons
def Vo:=@List.of_mem_zip
def Vp:=@List.length_set
def Vq:=@Nat.succ_mul
def Vr:=@PySem.F.slot_int_rmul
def Vs:=@Nat.lt_trans
def Vt:=@List.forIn_cons
def Vu:=@PySem.Walks.list
def Vv:=@PySem.wpAny_updateSeq_pair
def Vw:=@PySem.F.slot_zip_next
def Vx:=@Nat.succ_pos
def Vy:=@beq_eq_false_iff_ne
def Vz:=@List.filterMap_cons
def U0:=@List.take_succ
def U1:=@List.drop_drop
def U2:=@PySem.wpAny_of_eq
def U3:=@PySem.Obj.data_mapFields
def U4:=@PySem.Calls.spliced_cons
def U5:=@PySem.F.args_tuple_mul_2
def U6:=@Array.size_extract
def U7:=@Option.isSome_none
def U8:=@PySem.wpAny_standAt
def U9:=@Int.fdiv_eq_ediv_of_nonneg
def Ua:=@Int.fmod_eq_emod_of_nonneg
def Ub:=@List.all_cons
def Uc:=@PySem.wpAny_onRaise
def Ud:=@PySem.wpAny_sequenceKey
def Ue:=@List.nodup_append
def Uf:=@PySem.F.entry_tuple_mul
def Ug:=@Nat.le_succ_of_le
def Uh:=@List.length_range
def Ui:=@Nat.le_add_right
def Uj:=@Nat.add_comm
def Uk:=@Nat.mul_comm
def Ul:=@List.drop_length
def Um:=@Nat.succ_ne_self
def Uo:=@getElem?_pos
def Uq:=@List.getElem_map
def Ur:=@List.mem_flatMap
def Us:=@Int.mul_comm
def Ut:=@List.range'_succ
def Uu:=@List.take_zero
def Uv:=@Int.not_lt
namespace Lw
open PySem
noncomputable def top (i:Nat):Stmt:=PySem.Challenge.pw_plusless_k28_whole_evenness.main.body.getD i (.Pass ⟨0,0,0,0⟩)
noncomputable def hdI (s:Stmt) (j:Nat):Stmt:=match s with
 | .ClassDef _ _ _ body _ _ _ _ _ _ _=>body.getD j (.Pass ⟨0,0,0,0⟩)
 | _=>.Pass ⟨0,0,0,0⟩
noncomputable def hdA (s:Stmt):Arguments:=match s with
 | .FunctionDef _ a _ _ _ _ _ _ _ _=>a
 | _=>{posonlyargs:=[],args:=[],vararg:=none,kwonlyargs:=[],kw_defaults:=[],kwarg:=none,defaults:=[]}
noncomputable def hdBQ (s:Stmt):List Stmt:=match s with
 | .FunctionDef _ _ b _ _ _ _ _ _ _=>b
 | _=>[]
noncomputable def hdS (s:Stmt):Scope:=match s with
 | .FunctionDef _ _ _ _ _ _ sc _ _ _=>sc
 | _=>{kind:=.function,names:=[],isGenerator:=false,isCoroutine:=false}
noncomputable def hEQ (P:Params) (n:Str) (t:Tok) (v:Value):DictEntry:={hash:=PyData.keyHash P n,key:=.str n t,val:=v}
noncomputable def hFQ (n:Str) (i:Nat) (m:Str) (t:Tok) (c:Addr):Obj:={cls:=.type "function",data:=.func {name:=n,qualname:=n,params:=hdA (top i),body:=.stmts (hdBQ (top i)),scope:=hdS (top i),globals:=3,closure:=[],defaults:=.none,kwdefaults:=.none,pyModule:=.str m t,code:=.ref c}}
noncomputable def hCQ (n:Str) (t0 t1 t2:Tok) (a b c d e:Int) (r0:Value) (f:Int) (r1 r2 r3 r4 r5:Value) (g h:Int) (t3:Tok):Obj:={cls:=.type "code",data:=.fields #[.str n t0,.str n t1,.str "/claim/cut.py" t2,.int a 0,.int b 0,.int c 0,.int d 0,.int e 0,r0,.bool true,.int f 0,r1,r2,r3,r4,r5,.int g 0,.int h 0,.str "/claim/cut.py" t3]}
noncomputable def hMQ (n q:Str) (i j:Nat) (m:Str) (t:Tok) (c:Addr):Obj:={cls:=.type "function",data:=.func {name:=n,qualname:=q,params:=hdA (hdI (top i) j),body:=.stmts (hdBQ (hdI (top i) j)),scope:=hdS (hdI (top i) j),globals:=3,closure:=[],defaults:=.none,kwdefaults:=.none,pyModule:=.str m t,code:=.ref c}}
noncomputable def hC2 (q n:Str) (t0 t1 t2:Tok) (a b c d e:Int) (r0:Value) (f:Int) (r1 r2 r3 r4 r5:Value) (g h:Int) (t3:Tok):Obj:={cls:=.type "code",data:=.fields #[.str n t0,.str q t1,.str "/claim/cut.py" t2,.int a 0,.int b 0,.int c 0,.int d 0,.int e 0,r0,.bool true,.int f 0,r1,r2,r3,r4,r5,.int g 0,.int h 0,.str "/claim/cut.py" t3]}
noncomputable def hGQ (n:Str) (i:Nat):Obj:={cls:=.none,data:=.func {name:=n,qualname:=n,params:=hdA (top i),body:=.stmts (hdBQ (top i)),scope:=hdS (top i),globals:=0,closure:=[],defaults:=.none,kwdefaults:=.none}}
noncomputable def hG2 (n q:Str) (i j:Nat):Obj:={cls:=.none,data:=.func {name:=n,qualname:=q,params:=hdA (hdI (top i) j),body:=.stmts (hdBQ (hdI (top i) j)),scope:=hdS (hdI (top i) j),globals:=0,closure:=[],defaults:=.none,kwdefaults:=.none}}
noncomputable def hq0Q:Obj:={cls:=.type "tuple",data:=.seq #[]}
noncomputable def hq1:Obj:={cls:=.none,data:=.fields #[]}
noncomputable def hq2 (x1 x2 x3:Nat) (y0:Str):Obj:={cls:=.type "code",data:=.fields #[.str y0 x1,.str y0 (x1+1),.str "/claim/cut.py" (x1+2),.int (.ofNat x2) 0,.int 0 0,.int 0 0,.int 0 0,.int 0 0,.ref x3,.bool false,.int 181 0,.ref (x3+1),.none,.none,.none,.none,.int (.ofNat (x1+3)) 0,.int (.ofNat x2) 0,.str "/claim/cut.py" (x1+4)]}
noncomputable def hq3Q (x0 x1 x3:Nat) (y2:Str):Obj:={cls:=.type "frame",slots:=#[some (.ref x0),some (.ref 3),some (.ref x1),none,some (.str y2 x3),none,some (.ref 0)]}
noncomputable def hq4:Obj:={cls:=.type "builtin_function_or_method",data:=.fields #[.builtin "type.__prepare__",.type "type"]}
noncomputable def hq5 (P:Params) (x0 x2 x3:Nat) (y1:Str):Obj:={cls:=.type "dict",data:=.dict #[hEQ P "__module__" x0 (.str "plusless.errors" 187),hEQ P "__qualname__" (x0+2) (.str y1 (x0+1)),hEQ P "__firstlineno__" (x0+4) (.int (.ofNat x2) (x0+3)),hEQ P "__static_attributes__" (x0+5) (.ref x3)] 4}
noncomputable def hq6Q (x0:Nat):Obj:={cls:=.type "super",data:=.fields #[.ref x0,.ref x0,.ref x0]}
noncomputable def hq7 (x0:Nat):Obj:={cls:=.type "builtin_function_or_method",data:=.fields #[.builtin "object.__init_subclass__",.ref x0]}
noncomputable def hq8 (x1 x2 x3 x4 x5:Nat) (y0:Str):Obj:=hCQ y0 x1 (x1+1) (x1+2) (.ofNat x2) (.ofNat x3) 0 0 3 (.ref x4) 181 (.ref (x4+1)) .none (.ref (x4+2)) (.ref (x4+3)) (.ref (x4+4)) (.ofNat x5) (.ofNat x2) (x5+1)
noncomputable def hq9 (x1 x2 x3 x4:Nat) (y0:Str):Obj:=hCQ y0 x1 (x1+1) (x1+2) (.ofNat x2) (.ofNat x3) 0 0 3 (.ref x4) 181 (.ref (x4+1)) .none .none .none (.ref (x4+2)) (.ofNat (x1+3)) (.ofNat x2) (x1+4)
noncomputable def hK:Params→PySem.W.Frag:=fun P=>(nat_lit 2,{cls:=.none,data:=.dict #[]})::
 (nat_lit 3,{cls:=.type "dict",data:=.dict #[hEQ P "__name__" 165 (.str "law_plusless_k28_whole_evenness" 582),hEQ P "__doc__" 166 .none,hEQ P "__package__" 167 .none,hEQ P "__loader__" 168 (.builtin "__main__.__loader__#opaque"),hEQ P "__spec__" 169 .none,hEQ P "__annotations__" 170 (.ref 6),hEQ P "__builtins__" 171 (.ref 4),hEQ P "__file__" 173 (.str "/claim/cut.py" 172),hEQ P "__cached__" 174 .none,hEQ P "PlusError" 206 (.ref 24),hEQ P "NoRow" 222 (.ref 37),hEQ P "NoNumber" 238 (.ref 49),hEQ P "NoSigns" 254 (.ref 61),hEQ P "TooMany" 270 (.ref 73),hEQ P "LONGEST_ROW" 274 (.int 16 273),hEQ P "is_whole" 281 (.ref 82),hEQ P "are_whole" 287 (.ref 87),hEQ P "is_row" 293 (.ref 92),hEQ P "need_row" 300 (.ref 99),hEQ P "need_number" 307 (.ref 106),hEQ P "need_row_and_number" 315 (.ref 113),hEQ P "are_parts" 321 (.ref 118),hEQ P "are_so_many_signs" 327 (.ref 123),hEQ P "are_signs" 335 (.ref 130),hEQ P "need_parts" 343 (.ref 137),hEQ P "total" 350 (.ref 144),hEQ P "worth" 356 (.ref 149),hEQ P "LONGEST_TABLED" 360 (.int 10 359),hEQ P "SIGNS" 364 (.ref 150),hEQ P "need_few" 371 (.ref 157),hEQ P "need_few_and_number" 379 (.ref 164),hEQ P "stepped" 393 (.ref 171),hEQ P "table_of" 403 (.ref 178),hEQ P "sign_ways" 411 (.ref 185),hEQ P "is_rising" 417 (.ref 190),hEQ P "leads_on" 423 (.ref 195),hEQ P "are_layers" 429 (.ref 200),hEQ P "least_layers" 440 (.ref 207),hEQ P "halves_of" 450 (.ref 214),hEQ P "half_worths" 456 (.ref 219),hEQ P "many_met" 462 (.ref 224),hEQ P "firsts_stepped" 476 (.ref 231),hEQ P "firsts_of" 485 (.ref 238),hEQ P "first_met" 491 (.ref 243),hEQ P "walk" 504 (.ref 250),hEQ P "above" 510 (.ref 255),hEQ P "unevenness" 519 (.ref 262),hEQ P "evenest" 527 (.ref 269),hEQ P "evenest_many" 536 (.ref 276),hEQ P "parts_of_one" 542 (.ref 281),hEQ P "difference" 548 (.ref 286),hEQ P "difference_steps" 554 (.ref 291),hEQ P "differences" 560 (.ref 296),hEQ P "difference_signs" 568 (.ref 303),hEQ P "uneven_bound" 574 (.ref 308),hEQ P "uneven_paper" 581 (.ref 315),hEQ P "_law_cell" 591 (.ref 322),hEQ P "_law_mix" 601 (.ref 329),hEQ P "_law_box" 612 (.ref 336),hEQ P "_law_take" 622 (.ref 343),hEQ P "_law_row" 637 (.ref 350),hEQ P "_law_right" 648 (.ref 357),hEQ P "law" 654 (.ref 362)] 63})::
 (nat_lit 81,hq8 275 14 1 76 279 "is_whole")::
 (nat_lit 82,hFQ "is_whole" 8 "plusless.rows" 271 81)::
 (nat_lit 86,hq9 282 16 2 83 "are_whole")::
 (nat_lit 87,hFQ "are_whole" 9 "plusless.rows" 271 86)::
 (nat_lit 91,hq9 288 18 1 88 "is_row")::
 (nat_lit 92,hFQ "is_row" 10 "plusless.rows" 271 91)::
 (nat_lit 98,hq8 294 22 1 93 298 "need_row")::
 (nat_lit 99,hFQ "need_row" 11 "plusless.rows" 271 98)::
 (nat_lit 105,hq8 301 25 1 100 305 "need_number")::
 (nat_lit 106,hFQ "need_number" 12 "plusless.rows" 271 105)::
 (nat_lit 112,hq8 308 28 2 107 313 "need_row_and_number")::
 (nat_lit 113,hFQ "need_row_and_number" 13 "plusless.rows" 271 112)::
 (nat_lit 117,hq9 316 31 2 114 "are_parts")::
 (nat_lit 118,hFQ "are_parts" 14 "plusless.rows" 271 117)::
 (nat_lit 122,hq9 322 34 2 119 "are_so_many_signs")::
 (nat_lit 123,hFQ "are_so_many_signs" 15 "plusless.rows" 271 122)::
 (nat_lit 129,hq8 328 36 2 124 333 "are_signs")::
 (nat_lit 130,hFQ "are_signs" 16 "plusless.rows" 271 129)::
 (nat_lit 136,hq8 336 39 2 131 341 "need_parts")::
 (nat_lit 137,hFQ "need_parts" 17 "plusless.rows" 271 136)::
 (nat_lit 143,hq8 344 42 1 138 348 "total")::
 (nat_lit 144,hFQ "total" 18 "plusless.rows" 271 143)::
 (nat_lit 148,hq9 351 45 2 145 "worth")::
 (nat_lit 149,hFQ "worth" 19 "plusless.rows" 271 148)::
 (nat_lit 150,{cls:=.type "tuple",data:=.seq #[.int (-1) 362,.int 1 363]})::
 (nat_lit 156,hq8 365 51 1 151 369 "need_few")::
 (nat_lit 157,hFQ "need_few" 23 "plusless.tables" 357 156)::
 (nat_lit 163,hq8 372 55 2 158 377 "need_few_and_number")::
 (nat_lit 164,hFQ "need_few_and_number" 24 "plusless.tables" 357 163)::
 (nat_lit 170,hq8 380 58 3 165 391 "stepped")::
 (nat_lit 171,hFQ "stepped" 25 "plusless.tables" 357 170)::
 (nat_lit 177,hq8 394 65 2 172 401 "table_of")::
 (nat_lit 178,hFQ "table_of" 26 "plusless.tables" 357 177)::
 (nat_lit 184,hq8 404 70 2 179 409 "sign_ways")::
 (nat_lit 185,hFQ "sign_ways" 27 "plusless.tables" 357 184)::
 (nat_lit 189,hq9 412 73 1 186 "is_rising")::
 (nat_lit 190,hFQ "is_rising" 28 "plusless.tables" 357 189)::
 (nat_lit 194,hq9 418 77 4 191 "leads_on")::
 (nat_lit 195,hFQ "leads_on" 29 "plusless.tables" 357 194)::
 (nat_lit 199,hq9 424 84 3 196 "are_layers")::
 (nat_lit 200,hFQ "are_layers" 30 "plusless.tables" 357 199)::
 (nat_lit 206,hq8 430 90 2 201 438 "least_layers")::
 (nat_lit 207,hFQ "least_layers" 31 "plusless.tables" 357 206)::
 (nat_lit 213,hq8 443 98 1 208 448 "halves_of")::
 (nat_lit 214,hFQ "halves_of" 33 "plusless.halves" 441 213)::
 (nat_lit 218,hq9 451 101 1 215 "half_worths")::
 (nat_lit 219,hFQ "half_worths" 34 "plusless.halves" 441 218)::
 (nat_lit 223,hq9 457 104 2 220 "many_met")::
 (nat_lit 224,hFQ "many_met" 35 "plusless.halves" 441 223)::
 (nat_lit 230,hq8 463 108 2 225 474 "firsts_stepped")::
 (nat_lit 231,hFQ "firsts_stepped" 36 "plusless.halves" 441 230)::
 (nat_lit 237,hq8 477 116 1 232 483 "firsts_of")::
 (nat_lit 238,hFQ "firsts_of" 37 "plusless.halves" 441 237)::
 (nat_lit 242,hq9 486 121 2 239 "first_met")::
 (nat_lit 243,hFQ "first_met" 38 "plusless.halves" 441 242)::
 (nat_lit 249,hq8 492 126 2 244 502 "walk")::
 (nat_lit 250,hFQ "walk" 39 "plusless.halves" 441 249)::
 (nat_lit 254,hq9 505 139 2 251 "above")::
 (nat_lit 255,hFQ "above" 40 "plusless.halves" 441 254)::
 (nat_lit 261,hq8 513 143 1 256 517 "unevenness")::
 (nat_lit 262,hFQ "unevenness" 42 "plusless.evenness" 511 261)::
 (nat_lit 268,hq8 520 145 1 263 525 "evenest")::
 (nat_lit 269,hFQ "evenest" 43 "plusless.evenness" 511 268)::
 (nat_lit 275,hq8 528 148 1 270 534 "evenest_many")::
 (nat_lit 276,hFQ "evenest_many" 44 "plusless.evenness" 511 275)::
 (nat_lit 280,hq9 537 152 2 277 "parts_of_one")::
 (nat_lit 281,hFQ "parts_of_one" 45 "plusless.evenness" 511 280)::
 (nat_lit 285,hq9 543 154 2 282 "difference")::
 (nat_lit 286,hFQ "difference" 46 "plusless.evenness" 511 285)::
 (nat_lit 290,hq9 549 157 1 287 "difference_steps")::
 (nat_lit 291,hFQ "difference_steps" 47 "plusless.evenness" 511 290)::
 (nat_lit 295,hq9 555 164 1 292 "differences")::
 (nat_lit 296,hFQ "differences" 48 "plusless.evenness" 511 295)::
 (nat_lit 302,hq8 561 167 1 297 566 "difference_signs")::
 (nat_lit 303,hFQ "difference_signs" 49 "plusless.evenness" 511 302)::
 (nat_lit 307,hq9 569 173 2 304 "uneven_bound")::
 (nat_lit 308,hFQ "uneven_bound" 50 "plusless.evenness" 511 307)::
 (nat_lit 314,hq8 575 178 1 309 579 "uneven_paper")::
 (nat_lit 315,hFQ "uneven_paper" 51 "plusless.evenness" 511 314)::
 (nat_lit 321,hq8 584 182 2 316 589 "_law_cell")::
 (nat_lit 322,hFQ "_law_cell" 53 "law_plusless_k28_whole_evenness" 582 321)::
 (nat_lit 328,hq8 592 186 2 323 599 "_law_mix")::
 (nat_lit 329,hFQ "_law_mix" 54 "law_plusless_k28_whole_evenness" 582 328)::
 (nat_lit 335,hq8 602 191 2 330 610 "_law_box")::
 (nat_lit 336,hFQ "_law_box" 55 "law_plusless_k28_whole_evenness" 582 335)::
 (nat_lit 342,hq8 613 199 2 337 620 "_law_take")::
 (nat_lit 343,hFQ "_law_take" 56 "law_plusless_k28_whole_evenness" 582 342)::
 (nat_lit 349,hq8 623 203 2 344 635 "_law_row")::
 (nat_lit 350,hFQ "_law_row" 57 "law_plusless_k28_whole_evenness" 582 349)::
 (nat_lit 356,hq8 638 213 1 351 646 "_law_right")::
 (nat_lit 357,hFQ "_law_right" 58 "law_plusless_k28_whole_evenness" 582 356)::
 (nat_lit 361,hq9 649 224 1 358 "law")::
 (nat_lit 362,hFQ "law" 59 "law_plusless_k28_whole_evenness" 582 361)::[]
noncomputable def hA:List Addr:=[2,3,81,82,86,87,91,92,98,99,105,106,112,113,117,118,122,123,129,130,136,137,143,144,148,149,150,156,157,163,164,170,171,177,178,184,185,189,190,194,195,199,200,206,207,213,214,218,219,223,224,230,231,237,238,242,243,249,250,254,255,261,262,268,269,275,276,280,281,285,286,290,291,295,296,302,303,307,308,314,315,321,322,328,329,335,336,342,343,349,350,356,357,361,362]
noncomputable def hV:Program:={PySem.Challenge.pw_plusless_k28_whole_evenness with main:={PySem.Challenge.pw_plusless_k28_whole_evenness.main with body:=[top 1,top 2,top 3,top 4,top 5,top 7,top 8,top 9,top 10,top 11,top 12,top 13,top 14,top 15,top 16,top 17,top 18,top 19,top 21,top 22,top 23,top 24,top 25,top 26,top 27,top 28,top 29,top 30,top 31,top 33,top 34,top 35,top 36,top 37,top 38,top 39,top 40,top 42,top 43,top 44,top 45,top 46,top 47,top 48,top 49,top 50,top 51,top 53,top 54,top 55,top 56,top 57,top 58,top 59]}}
theorem hKA (P:Params):hA=(hK P).map (·.1):=by kernel_rfl
noncomputable abbrev hX (s:Shared):Bool:=PySem.W.xlAt hV [] s && PySem.W.recOk (PySem.W.RowW.records PySem.Challenge.rw_plusless_k28_whole_evenness.row.toRowW) s
noncomputable def hNQ:=@PySem.W.BT.node
noncomputable def hzQ:=PySem.W.BT.nil
noncomputable def hLQ (o:Obj):=PySem.W.BT.node o .nil .nil
noncomputable def q2Q (P:Params):Obj:=hq2 182 1 11 "<module>"
noncomputable def q3Q (P:Params):Obj:=hq3Q 13 3 164 "__main__"
noncomputable def t0T (P:Params):PySem.W.BT:=(hNQ (PySem.W.boot_o_0 P) (hNQ (PySem.W.boot_o_1 P) (hNQ (PySem.W.boot_o_3 P) (hLQ (PySem.W.boot_o_7 P)) (hLQ hq0Q)) (hNQ (PySem.W.boot_o_5 P) (hLQ (PySem.W.boot_o_9 P)) (hLQ (q2Q P)))) (hNQ (PySem.W.boot_o_2 P) (hNQ (PySem.W.boot_o_4 P) (hLQ (PySem.W.boot_o_8 P)) (hLQ hq1)) (hNQ (PySem.W.boot_o_6 P) (hLQ (PySem.W.boot_o_10 P)) (hLQ (q3Q P)))))
noncomputable def t1T (P:Params):PySem.W.BT:=(hNQ (PySem.W.boot_o_0 P) (hNQ (PySem.W.boot_o_1 P) (hNQ {cls:=.type "dict",data:=.dict #[hEQ P "__name__" 165 (.str "plusless.errors" 187),hEQ P "__doc__" 166 .none,hEQ P "__package__" 167 .none,hEQ P "__loader__" 168 (.builtin "__main__.__loader__#opaque"),hEQ P "__spec__" 169 .none,hEQ P "__annotations__" 170 (.ref 6),hEQ P "__builtins__" 171 (.ref 4),hEQ P "__file__" 173 (.str "/claim/cut.py" 172),hEQ P "__cached__" 174 .none,hEQ P "PlusError" 206 (.ref 24),hEQ P "NoRow" 222 (.ref 37)] 11} (hNQ (PySem.W.boot_o_7 P) (hNQ {cls:=.type "tuple",data:=.seq #[.type "ValueError"]} (hLQ hq0Q) hzQ) (hNQ {cls:=.type "dict",data:=.dict #[hEQ P "__module__" 196 (.str "plusless.errors" 187),hEQ P "__firstlineno__" 200 (.int 2 199),hEQ P "__static_attributes__" 201 (.ref 22),hEQ P "__weakref__" 203 (.ref 25),hEQ P "__doc__" 204 .none] 3} (hLQ (hq7 37)) hzQ)) (hNQ hq0Q (hNQ hq1 (hLQ hq0Q) hzQ) (hLQ (hq7 24)))) (hNQ (PySem.W.boot_o_5 P) (hNQ (PySem.W.boot_o_9 P) (hNQ (hq5 P 196 2 22 "PlusError") (hLQ (hq2 209 4 31 "NoRow")) hzQ) (hLQ {cls:=.type "getset_descriptor",data:=.fields #[.str "__weakref__" 202,.ref 24,.builtin "ExceptionGroup.__weakref__",.none]})) (hNQ (q2Q P) (hNQ (hq3Q 20 17 187 "plusless.errors") (hLQ {cls:=.type "type",data:=.cls {name:="NoRow",bases:=[.ref 24],mro:=[.ref 37,.ref 24,.type "ValueError",.type "Exception",.type "BaseException",.type "object"],ns:=36,qualname:="NoRow"},slots:=#[some (.ref 28),none,some (.str "NoRow" 207),some (.str "NoRow" 215),some (.builtin "ValueError.__new__"),some (.bool true)]}) hzQ) (hLQ hq4)))) (hNQ (PySem.W.boot_o_2 P) (hNQ (PySem.W.boot_o_4 P) (hNQ (PySem.W.boot_o_8 P) (hNQ hq4 (hLQ hq1) hzQ) (hLQ {cls:=.type "type",data:=.cls {name:="PlusError",bases:=[.type "ValueError"],mro:=[.ref 24,.type "ValueError",.type "Exception",.type "BaseException",.type "object"],ns:=23,qualname:="PlusError",subclasses:=[.ref 37]},slots:=#[some (.ref 15),none,some (.str "PlusError" 189),some (.str "PlusError" 197),some (.builtin "ValueError.__new__"),some (.bool true)]})) (hNQ {cls:=.none,data:=.fields #[.int 2 0,.int 0 0,.ref 20,.int 4 0,.int 0 0,.ref 33]} (hNQ (hq2 191 2 18 "PlusError") (hLQ {cls:=.type "dict",data:=.dict #[hEQ P "__module__" 214 (.str "plusless.errors" 187),hEQ P "__firstlineno__" 218 (.int 4 217),hEQ P "__static_attributes__" 219 (.ref 35),hEQ P "__doc__" 220 .none] 2}) hzQ) (hLQ {cls:=.type "tuple",data:=.seq #[.ref 24]}))) (hNQ (PySem.W.boot_o_6 P) (hNQ (PySem.W.boot_o_10 P) (hNQ hq0Q (hLQ (hq3Q 33 30 187 "plusless.errors")) hzQ) (hLQ (hq6Q 24))) (hNQ (q3Q P) (hNQ hq0Q (hLQ (hq6Q 37)) hzQ) (hLQ (hq5 P 214 4 35 "NoRow"))))))
noncomputable abbrev hpQ:Program:=PySem.Challenge.rw_plusless_k28_whole_evenness.row.prog
noncomputable def hEnv:Env:={scope:=hpQ.main.scope,locals:=mainNs,globals:=mainNs,cells:=[],code:=.ref 13,frame:=some 14}
noncomputable def hBQ:List Stmt:=PySem.W.behindTheImports hpQ
noncomputable def hCd:Code:=Code.body hBQ hEnv
noncomputable def hp0Q:Pos:=⟨0,0,0,0⟩
noncomputable def hsT (t:PySem.W.BT) (n k:Nat) (os:OsState):PySem.W.SharedT:={tree:=t,n:=n,life:={},gens:=#[],drawn:={},toks:=k,os:=os}
set_option maxHeartbeats 0 in
theorem htg (w:World) (os:OsState):PySem.W.topGo treeTable hpQ w 11 (some (.ref 6)) 12 {heap:=PySem.W.boot_heap w.params,gens:=#[],drawn:=PySem.W.boot_drawn,toks:=PySem.W.boot_toks,os:=os} (PySem.W.topStub hpQ)=some ((hsT (t0T w.params) 15 187 os).abs,{cur:=denote treeTable (Code.body hBQ hEnv),code:=hCd,pos:=hp0Q,stack:=[PySem.W.topFrame hp0Q]}):=by kernel_rfl
set_option maxHeartbeats 0 in
theorem htb (w:World) (os:OsState):PySem.W.segRun treeTable hpQ w 11 (some (.ref 6)) 1 1 (hsT (t0T w.params) 15 187 os).abs (PySem.W.blockOf hBQ hEnv hCd hp0Q [PySem.W.topFrame hp0Q])=some (Flow.next,(hsT (t0T w.params) 15 187 os).abs,hCd,hp0Q):=by kernel_rfl
noncomputable def hlaQ (w:World) (s:Shared):=(PySem.W.staticsOk (importedModules hpQ.main.body) (PySem.W.boot_heap w.params) s.heap && PySem.W.namesBound hpQ s.heap && PySem.W.gensDone s && PySem.W.laidKept (PySem.W.boot_heap w.params) s.heap,PySem.W.Hook.obs (PySem.W.kHook hK hA hKA) s)
noncomputable def hlb (w:World) (s:Shared):=PySem.W.openSeen hV [] (importedModules hpQ.main.body) hX true s
set_option maxHeartbeats 0 in
theorem pc0 (w:World) (os:OsState):PySem.W.segRunT treeTable hpQ w 11 (some (.ref 6)) 1 1300 (hsT (t0T w.params) 15 187 os) (PySem.W.piecesOf ((hBQ.drop 0).take 3) hEnv hCd hp0Q [PySem.W.topFrame hp0Q])=some (Flow.next,hsT (t1T w.params) 40 223 os,hCd,⟨4,0,5,8⟩):=by kernel_rfl
noncomputable def hrQ (w:World) (os:OsState):=PySem.W.segRunT treeTable hpQ w 11 (some (.ref 6)) 1 4300 (hsT (t1T w.params) 40 223 os) (PySem.W.piecesOf ((hBQ.drop 3).take 57) hEnv hCd ⟨4,0,5,8⟩ [PySem.W.topFrame hp0Q])
def hSa (w:World):Prop:=∀ os,Option.map (fun x=>(x.1,x.2.2.1,x.2.2.2,hlaQ w x.2.1.abs)) (hrQ w os)=some (Flow.next,hCd,⟨224,0,239,15⟩,(true,PySem.W.Hook.val (PySem.W.kHook hK hA hKA) w))
set_option maxHeartbeats 0 in
theorem pc1a (w:World):hSa w:=fun os=>by kernel_rfl
def hSb (w:World):Prop:=∀ os,Option.map (fun x=>(x.1,x.2.2.1,x.2.2.2,hlb w x.2.1.abs)) (hrQ w os)=some (Flow.next,hCd,⟨224,0,239,15⟩,PySem.W.openGood hV [])
set_option maxHeartbeats 0 in
theorem pc1b (w:World):hSb w:=fun os=>by kernel_rfl
theorem htz (w:World) (s:Shared):PySem.W.topRun treeTable hpQ w 11 (some (.ref 6)) 2 s (PySem.W.restOf [] hEnv hCd ⟨224,0,239,15⟩ [PySem.W.topFrame hp0Q])=some s:=by kernel_rfl
set_option maxHeartbeats 0 in
theorem hspQ:hBQ=((hBQ.drop 0).take 3++((hBQ.drop 3).take 57++[])):=by kernel_rfl
theorem left:PySem.W.LeftO hpQ hV [] hX (PySem.W.Hook.obs (PySem.W.kHook hK hA hKA)) (PySem.W.Hook.val (PySem.W.kHook hK hA hKA)) 7600:=fun w=>by
 have o:=PySem.W.boot_open (p:=hpQ) (N:=7600) (by kernel_rfl) (by decide) (fun s=>by kernel_rfl) w
 rcases fo:PySem.W.fencedOpening treeTable hpQ w 7600 with _|⟨b0,b1,b2,b3,os⟩ <;> rw [fo] at o
 ·cases o
 obtain ⟨o1,o⟩:=Prod.mk.inj (Option.some.inj o)
 obtain ⟨o2,o⟩:=Prod.mk.inj o
 obtain ⟨o3,o4⟩:=Prod.mk.inj o
 subst o1 o2 o3 o4
 rcases ru:hrQ w os with _|⟨fl,s,cd,po⟩
 ·have u:=pc1a w os
  rw [ru] at u
  cases u
 have u:=pc1a w os
 rw [ru] at u
 obtain ⟨g1,u⟩:=Prod.mk.inj (Option.some.inj u)
 obtain ⟨g2,u⟩:=Prod.mk.inj u
 obtain ⟨g3,u⟩:=Prod.mk.inj u
 obtain ⟨l1,l3⟩:=Prod.mk.inj u
 have l2:=pc1b w os
 rw [ru] at l2
 obtain ⟨g1,l2⟩:=Prod.mk.inj (Option.some.inj l2)
 obtain ⟨g2,l2⟩:=Prod.mk.inj l2
 obtain ⟨g3,l2⟩:=Prod.mk.inj l2
 subst g1 g2 g3
 have go:∀ b,b=((hBQ.drop 0).take 3++((hBQ.drop 3).take 57++[]))→PySem.W.topRun treeTable hpQ w 11 (some (.ref 6)) (1300+(4300+2)) (hsT (t0T w.params) 15 187 os).abs (PySem.W.restOf b hEnv hCd hp0Q [PySem.W.topFrame hp0Q])=some s.abs:=fun b z=>by
  subst z
  exact (PySem.W.piece_app (PySem.W.segRun_of (pc0 w os)) (PySem.W.piece_app (PySem.W.segRun_of ru) (htz w s.abs)))
 have r:PySem.W.topRun treeTable hpQ w 11 (some (.ref 6)) 7600 {heap:=PySem.W.boot_heap w.params,gens:=#[],drawn:=PySem.W.boot_drawn,toks:=PySem.W.boot_toks,os:=os} (PySem.W.topStub hpQ)=some s.abs:=PySem.W.topRun_mono 1985 _ _ _ _ (PySem.W.go_top (n:=12) (N:=1+(1300+(4300+2))) (htg w os) (PySem.W.piece_block (n:=1) (N:=(1300+(4300+2))) (htb w os) (go hBQ hspQ)))
 have z1:((PySem.W.boot_heap w.params).isNs mainGlobals && (#[]:Array GenState).size==0)=true:=by kernel_rfl
 have z2:(PySem.W.boot_heap w.params).objs.size=11:=by kernel_rfl
 have z3:(PySem.W.boot_heap w.params).nsMap mainGlobals "__annotations__"=some (.ref 6):=by kernel_rfl
 have tf:PySem.W.topFrom treeTable hpQ w 7600 {heap:=PySem.W.boot_heap w.params,gens:=#[],drawn:=PySem.W.boot_drawn,toks:=PySem.W.boot_toks,os:=os}=some s.abs:=by simp only [PySem.W.topFrom,z1,z2,z3,r,Option.bind_some,l1]
 unfold PySem.W.openEnds
 rw [fo,Option.bind_some,tf]
 have l4:PySem.W.openSeen hV [] (importedModules hpQ.main.body) hX true s.abs=PySem.W.openGood hV []:=l2
 show some (_,_)=some _
 rw [l4,show PySem.W.Hook.obs (PySem.W.kHook hK hA hKA) s.abs=_ from l3]
end Lw
section
set_option Elab.async false
set_option linter.all false
set_option maxRecDepth 100000
namespace PySem
def ZO(o:Obj):Prop:=∃fs:Array Value,o.data=.fields fs/\fs[2]?=some .none
def Heap.Zat(h:Heap)(e:Addr):Prop:=∃o,h.get? e=some o/\ZO o
end PySem
namespace PySem
open PyProof.Rows
variable{ha:Addr}
theorem oQ:entryFor table "proto.unchain" = some Builtin.«proto.unchain»:=entryFor_of_tree (by kernel_rfl)
theorem oR:plainId "proto.unchain" = true:=by decide +kernel
section
variable{prog:Program}{w:World}{A:Around}{E:Value->Shared->Prop}{s:Shared}
theorem zj{ea:Addr}{Q:Value->Shared->Prop}(z:s.heap.Zat ha)(h:Q .none s):wpAny (model prog w) A (runValue (.builtin "proto.unchain" ⟨[.ref ea,.ref ha,.ref ha,.bool false],[]⟩)) Q E s:=by
 obtain⟨o,ho,fs,hd,h2⟩:=z;refine wpAny_runValue (Zy oQ ?_);rw[Zs oR _];unfold Builtin.«proto.unchain»;refine J6 (Yh ho hd h2 ?_)
 rw[J8 (by rfl)]
 refine J6 (Jc ?_);exact Jc h
theorem yg{α:Type}{ea:Addr}{o:Obj}{fs:Array Value}{Q:α->Shared->Prop}(hh:A.handled=some (.ref ha))(z:s.heap.Zat ha)(ne:ha≠ea)(he:s.heap.get? ea=some o)(hd:o.data=.fields fs)(hs:2<fs.size)
  (h:E (.ref ea) { s with heap:=s.heap.update ea (Obj.mapFields (λy=>y.setIfInBounds 2 (.ref ha))) }):wpAny (model prog w) A (raiseNew (.ref ea):Sem α) Q E s:=by
 unfold raiseNew;refine J6 (wpAny_handled ?_);rw[hh];dsimp only
 rw[J8 (by simpa using ne)]
 refine J6 (Yw (zj z ?_));refine J6 ?_;show wpAny _ _ (setField (.ref ea) 2 (.ref ha)) _ _ s;exact wpAny_setField he hd hs (wpAny_throw h)
theorem yh{it:Addr}{x left step:Int}{Q:Option Value->Shared->Prop}(hh:A.handled=some (.ref ha))(z:s.heap.Zat ha)(hit:IsRangeIter s.heap it x left step)(hl:left<=0)
  (k:∀h',Heap.ExtBut it s.heap h'->Q none { s with heap:=h' }):wpAny (model prog w) A (pyNext (.ref it)) Q E s:=by
 have ty:s.TypeIs (.ref it) "range_iterator":=⟨_,hit,rfl⟩
 have lta:ha<s.heap.objs.size:=let ⟨o,q,_⟩:=z;Jh q
 unfold pyNext;refine J6 (Vc (Yu (name:=Str.ofString "__next__") ty F.slot_range_iterator_next (Z4 F.slot_range_iterator_next ty F.entry_range_iterator_next ?_ (F.args_range_iterator_next_1 _))))
 show wpAny _ _ (field (.ref it) 0 >>= _) _ _ s;refine J6 (Yh hit rfl (x:=rawInt x) rfl ?_);show wpAny _ _ (field (.ref it) 1 >>= _) _ _ s;refine J6 (Yh hit rfl (x:=rawInt left) rfl ?_);show wpAny _ _ (field (.ref it) 2 >>= _) _ _ s;refine J6 (Yh hit rfl (x:=rawInt step) rfl ?_)
 show wpAny _ _ (if left<=0 then _ else _) _ _ s
 rw[J8 hl];refine J6 (Yv ?_);refine J6 ?_;show wpAny _ _ (newExc (.type "StopIteration") [] >>= _) _ _ _
 refine J6 ?_;simp only[newExc,newTuple]
 refine J6 (Yb ?_ (by size_fits))
 refine J6 (m:=firstArgMember _ _) (U2 (a:=Value.none) (by first|rfl|(simp only[firstArgMember];rfl)) ?_)
 refine Yb ?_ (by size_fits)
 refine yg (ha:=ha) (by first|exact hh|(show A.in1.handled=_;exact hh)) ?_ ?_ (Ji _ rfl) rfl ?_ ?_
 ·obtain⟨o,q,r⟩:=z;exact⟨o,J7 _ (J7 _ q),r⟩
 ·exact Jq (Jt lta (by rw[Y7];exact W9 _))
 ·rw[Array.size_append];exact Jt (show 2<6 by decide) (Ui _ _)
 ·dsimp only;generalize hfn:Obj.mapFields (λy=>y.setIfInBounds 2 (Value.ref ha))=fn;generalize hg:s.heap.push { cls:=Value.type "tuple",data:=Data.seq #[] }=g
  generalize hex:({ cls:=Value.type "StopIteration",data:=Data.fields (#[Value.ref s.heap.objs.size,Value.none,Value.none,Value.none,Value.bool false,Value.none]++ownMembersOf (Value.type "StopIteration") []) }:Obj)=ex
  have c0:ex.cls=.type "StopIteration":=by rw[<- hex]
  have d0:∃fs,ex.data=.fields fs:=⟨_,by rw[<- hex]⟩
  obtain⟨fs,d0⟩:=d0;have p0:(g.push ex).get? g.objs.size=some ex:=Ji g (Vj d0)
  have d1:(fn ex).data=.fields (fs.setIfInBounds 2 (.ref ha)):=by rw[<- hfn];exact U3 d0 _
  have c1:(fn ex).cls=.type "StopIteration":=by rw[<- hfn];exact(Obj.cls_mapFields _ _).trans c0
  have e1:((g.push ex).update g.objs.size fn).get? g.objs.size=some (fn ex):=Qi fn p0 (Vj d1);refine J6 (wpAny_isInstance (T:="StopIteration") (b:=true) ⟨fn ex,e1,c1⟩ isSubtype_stop ?_)
  refine Jc (k _ λb o _ q=>?_)
  have q1:g.get? b=some o:=by rw[<- hg];exact J7 _ q
  rw[Z5 (g.push ex) fn (Q7 (Jh q1))];exact J7 ex q1
end
end PySem
namespace L2
open PySem PySem.Spec PyProof.Rows
variable{us:List Value}{u:Value}{a b:Addr}{P:Program}{w:World}{h:Heap}{i j:Nat}{x:Str}{e c tg:Expr}{A:Around}{s:Shared}{pos:Pos}{pins:List (Addr×Obj)}{qb:Bool}{fp:List Addr}{op:CmpOp}{kindOf:Str→Option NameKind}
noncomputable abbrev Key:=Sum Int Str
noncomputable def ny:Key->Value->Bool
 |.inl k,v=>Value.isInt k v
 |.inr x,v=>Value.isStrOf x v
noncomputable def G3(w:World):Key->Int
 |.inl k=>hashInt k
 |.inr x=>hashStr w x
theorem bK:∀{k:Key}{v:Value},ny k v=true->(∃i t,k=Sum.inl i/\v=Value.int i t)\/(∃x t,k=Sum.inr x/\v=Value.str x t)
 |.inl i,v,h=>by obtain⟨t,e⟩:=Value.isInt_shape (k:=i) (v:=v) h;exact .inl ⟨i,t,rfl,e⟩
 |.inr x,v,h=>by obtain⟨t,e⟩:=Value.isStrOf_shape (x:=x) (v:=v) h;exact .inr ⟨x,t,rfl,e⟩
theorem yi(i:Int)(t:Tok):ny (.inl i) (.int i t)=true:=by simp[ny,Value.isInt]
theorem yj(x:Str)(t:Tok):ny (.inr x) (.str x t)=true:=by simp[ny,Value.isStrOf]
theorem Dy(a b:Int):decide ((Sum.inl a:Key)=Sum.inl b)=(a == b):=by
 by_cases e:a=b
 ·subst e;simp
 ·have h:¬(Sum.inl a:Key)=Sum.inl b:=λq=>e (Wa q);rw[Jz h];exact(Vy.mpr e).symm
theorem Dz(a b:Str):decide ((Sum.inr a:Key)=Sum.inr b)=decide (a=b):=by
 by_cases e:a=b
 ·subst e;simp
 ·have h:¬(Sum.inr a:Key)=Sum.inr b:=λq=>e (Sum.inr.inj q);rw[Jz h,Jz e]
theorem DA(a:Int)(b:Str):decide ((Sum.inl a:Key)=Sum.inr b)=false:=Jz (λq=>nomatch q)
theorem DB(a:Str)(b:Int):decide ((Sum.inr a:Key)=Sum.inl b)=false:=Jz (λq=>nomatch q)
noncomputable def bh(prog:Program)(w:World):PySem.KeyKind prog w Key where
 is:=ny
 hash:=G3 w
 inj:=λv a b ha hb=>by
  rcases bK ha with⟨i,t,rfl,rfl⟩|⟨x,t,rfl,rfl⟩
  ·rcases bK hb with⟨j,u,rfl,e⟩|⟨y,u,rfl,e⟩
   ·injection e with e1 _;rw[e1]
   ·exact nomatch e
  ·rcases bK hb with⟨j,u,rfl,e⟩|⟨y,u,rfl,e⟩
   ·exact nomatch e
   ·injection e with e1 _;rw[e1]
 byValue:=λk v h=>by rcases bK h with⟨i,t,rfl,rfl⟩|⟨x,t,rfl,rfl⟩<;>rfl
 pyHash:=λhv h=>by
  rcases bK hv with⟨i,t,rfl,rfl⟩|⟨x,t,rfl,rfl⟩
  ·exact wpAny_pyHash_int h
  ·exact wpAny_pyHash_str h
 eqBool:=λhu hv h=>by
  rcases bK hu with⟨i,t,rfl,rfl⟩|⟨x,t,rfl,rfl⟩
  ·rcases bK hv with⟨j,u,rfl,rfl⟩|⟨y,u,rfl,rfl⟩
   ·rw[Dy]at h;exact wpAny_eqBool_int h
   ·rw[DA]at h;exact SeqAt.EqAt.int_str i t y u _ _ _ _ h
  ·rcases bK hv with⟨j,u,rfl,rfl⟩|⟨y,u,rfl,rfl⟩
   ·rw[DB]at h;exact SeqAt.EqAt.str_int x t j u _ _ _ _ h
   ·rw[Dz]at h;exact wpAny_eqBool_str h
 «strs»:=λk x t v h=>by
  rcases bK h with⟨i,u,rfl,e⟩|⟨y,u,rfl,e⟩
  ·exact nomatch e
  ·injection e with e1 _;subst e1;cases v<;>rfl
theorem u6(prog:Program)(w:World)(k:Key)(v:Value):(bh prog w).is k v=ny k v:=rfl
theorem sL(prog:Program)(w:World)(i:Int)(t:Tok):(bh prog w).is (.inl i) (.int i t)=true:=yi i t
theorem sM(prog:Program)(w:World)(x:Str)(t:Tok):(bh prog w).is (.inr x) (.str x t)=true:=yj x t
inductive V where
 |non|bl (b:Bool)|int (i:Int)|str (x:Str)|byt (b:Array UInt8)|flt (b:UInt64)|ref (a:Addr)|ty (n:String)
 deriving DecidableEq
noncomputable def RelV:V->Value->Prop
 |.non,u=>u=Value.none
 |.bl b,u=>u=Value.bool b
 |.int i,u=>∃t,u=Value.int i t
 |.str x,u=>∃t,u=Value.str x t
 |.byt b,u=>∃t,u=Value.bytes b t
 |.flt b,u=>∃t,u=Value.float b t
 |.ref a,u=>u=Value.ref a
 |.ty n,u=>u=Value.type n
noncomputable abbrev Vals:List V->List Value->Prop:=Paired RelV
theorem Vals.length{xs:List V}(r:Vals xs us):xs.length=us.length:=Paired.length r
theorem Vals.get:∀{xs:List V}{us:List Value}{i:Nat}{x:V},Vals xs us->xs[i]?=some x->∃u,us[i]?=some u/\RelV x u
 |_,_,_,_,.nil,e=>by simp at e
 |_,_,0,_,.cons r _,e=>by simp at e;subst e;exact⟨_,rfl,r⟩
 |_,_,i+1,x,.cons _ t,e=>by
  obtain⟨u,h1,h2⟩:=Vals.get (i:=i) (x:=x) t (by simpa using e)
  exact⟨u,by simpa using h1,h2⟩
theorem Vals.set{x:V}(r:RelV x u):∀{xs:List V}{us:List Value}(i:Nat),Vals xs us->Vals (xs.set i x) (us.set i u)
 |_,_,_,.nil=>.nil
 |_,_,0,.cons _ t=>.cons r t
 |_,_,i+1,.cons q t=>.cons q (Vals.set r i t)
theorem Vals.append:∀{xs ys:List V}{us ws:List Value},Vals xs us->Vals ys ws->Vals (xs++ys) (us++ws)
 |_,_,_,_,.nil,s=>s
 |_,_,_,_,.cons r t,s=>.cons r (Vals.append t s)
theorem Vals.take:∀{xs:List V}{us:List Value}(n:Nat),Vals xs us->Vals (xs.take n) (us.take n)
 |_,_,0,_=>.nil
 |_,_,_+1,.nil=>.nil
 |_,_,n+1,.cons r t=>.cons r (Vals.take n t)
theorem Vals.drop:∀{xs:List V}{us:List Value}(n:Nat),Vals xs us->Vals (xs.drop n) (us.drop n)
 |_,_,0,r=>r
 |_,_,_+1,.nil=>.nil
 |_,_,n+1,.cons _ t=>Vals.drop n t
noncomputable def kY:Option V->Option Value->Prop
 |some v,some u=>RelV v u
 |none,none=>True
 |_,_=>False
noncomputable def KV{κ:Type}:List (κ×V)->List (κ×Value)->Prop:=Paired λ(p:κ×V)(q:κ×Value)=>p.1=q.1/\RelV p.2 q.2
noncomputable def kV:Key->V
 |.inl i=>.int i
 |.inr x=>.str x
set_option genInjectivity false in
inductive HO where
 /-- a list -/
 |lst (xs:List V)
 /-- a tuple (never changes) -/
 |tup (xs:List V)
 /-- a dict whose keys are ints and texts;one whose keys are tuples of ints and texts (the empty one is both) -/
 |dK (kvs:List (Key×V))|dT (kvs:List (List Key×V))
 /-- a set of ints: its members,its size -/
 |set (S:Int->Bool) (n:Nat)
 /-- an instance of the class at C,its dict at dx,its attributes -/
 |ins (C dx:Addr) (fs:List (Str×V))
 /-- the dict of the instance at x -/
 |own (x:Addr)
 /-- the dict of an exception -/
 |xd (fs:List (Str×V))
 /-- a bound method,f of x -/
 |met (f x:Addr)
 /-- a range object lo,lo+1,.. below hi -/
 |rng (lo hi:Int)
 /-- a thing that is known to the object (the script;a dict while a loop walks it): read,never written while it is so -/
 |frz (o:Obj) (u:HO)
 /-- a code object's table -/
 |tbl (ps:Array Value)
 /-- any other thing,by what is true of its one object (a def of one's own: SetO a S n:=HO.ext λh=>..) -/
 |ext (φ:Heap->Prop)
variable{o:HO}
noncomputable abbrev Hp:=Addr->Option HO
variable{H:Hp}
noncomputable def upd(H:Hp)(a:Addr)(o:HO):Hp:=λb=>if b=a then some o else H b
theorem aQ:upd H a o a=some o:=by unfold upd;rw[J8 rfl]
theorem aN(h:b≠a):upd H a o b=H b:=by unfold upd;rw[Jb h]
theorem FJ{u:HO}(h:H a=some o)(h':H b=some u)(d:o≠u):a≠b:=by intro e;subst e;rw[h]at h';exact d (Yp h')
theorem aS(h:H a=some o)(h':H b=none):a≠b:=by intro e;subst e;rw[h]at h';cases h'
section
variable(P:Program)(w:World)
noncomputable def bR(H:Hp)(h:Heap)(a:Addr):HO->Prop
 |.lst xs=>xs.length<=sizeLine/\∃(its:List Value)(n:Nat),Vals xs its/\h.get? a=some { cls:=.type "list",data:=.seq its.toArray n }
 |.tup xs=>xs.length<=sizeLine/\∃its:List Value,Vals xs its/\IsTup h a its.toArray
 |.dK kvs=>kvs.length<=sizeLine/\(a == sysModules)=false/\∃vs,KV kvs vs/\h.DictOf (bh P w) a vs
 |.dT kvs=>kvs.length<=sizeLine/\(a == sysModules)=false/\∃xs:List (List Key×Addr×Value),
   Paired (λ(p:List Key×V)(q:List Key×Addr×Value)=>p.1=q.1/\H q.2.1=some (.tup (p.1.map kV))/\RelV p.2 q.2.2) kvs xs/\
   ∃o es ep,h.get? a=some o/\o.ExactDict/\o.data=.dict es ep/\es.toList=xs.map (entryOfKey (tupleKind (bh P w)))/\(xs.map (·.1)).Nodup
 |.set S n=>h.SetOf (intKind P w) a S n
 |.ins C dx fs=>H dx=some (.own a)/\fs.length<=1000/\dx≠a/\h.get? a=some (PySem.W.instObj C dx)/\
   ∃mA,h.Ns1 dx mA/\(∀f,kY (fs.lookup f) (mA f))/\PySem.Within mA (fs.map (·.1))
 |.own _=>∃o,h.get? a=some o
 |.xd fs=>∃mA,h.Ns1 a mA/\∀f,kY (fs.lookup f) (mA f)
 |.rng lo hi=>∃t u v,h.get? a=some { cls:=.type "range",data:=.fields #[.int lo t,.int hi u,.int 1 v] }
 |.frz o u=>h.get? a=some o/\bR H h a u
 |.tbl ps=>h.get? a=some { cls:=.none,data:=.fields ps }
 |.met f x=>h.get? a=some (PySem.W.methodObj (.ref f) (.ref x))
 |.ext φ=>φ h/\(∃o,h.get? a=some o)/\∀h1 h2:Heap,φ h1->(∀o,h1.get? a=some o->h2.get? a=some o)->φ h2
def HOk(H:Hp)(h:Heap):Prop:=∀a o,H a=some o->bR P w H h a o
end
section
variable{P:Program}{w:World}{H H':Hp}{h h':Heap}{a:Addr}{o:HO}
theorem bR.lt(x:bR P w H h a o):a<h.objs.size:=by
 cases o with
 |lst xs=>obtain⟨_,_,_,_,e⟩:=x;exact Jh e
 |tup xs=>obtain⟨_,_,_,p⟩:=x;exact p.lt
 |dK kvs=>obtain⟨_,_,_,_,o,_,_,e,_⟩:=x;exact Jh e
 |dT kvs=>obtain⟨_,_,_,_,o,_,_,e,_⟩:=x;exact Jh e
 |set S n=>obtain⟨o,_,_,_,e,_⟩:=x;exact Jh e
 |ins C dx fs=>obtain⟨_,_,_,e,_⟩:=x;exact Jh e
 |own y=>obtain⟨_,e⟩:=x;exact Jh e
 |xd fs=>obtain⟨_,⟨_,_,_,e,_⟩,_⟩:=x;exact Jh e
 |rng lo hi=>obtain⟨_,_,_,e⟩:=x;exact Jh e
 |frz ob u=>obtain⟨e,_⟩:=x;exact Jh e
 |tbl ps=>exact Jh (show h.get? a=some _ from x)
 |met f y=>exact Jh (show h.get? a=some _ from x)
 |ext φ=>obtain⟨_,⟨_,e⟩,_⟩:=x;exact Jh e
theorem Paired.mapP{α β:Type}{F G:α->β->Prop}:∀{l₁:List α}{l₂:List β},Paired F l₁ l₂->(∀a b,F a b->G a b)->Paired G l₁ l₂
 |_,_,.nil,_=>.nil
 |_,_,.cons r t,f=>.cons (f _ _ r) (Paired.mapP t f)
theorem bR.stay(x:bR P w H h a o)(k:∀b u,(b=a\/H b=some (.own a))->h.get? b=some u->h'.get? b=some u)
  (ho:∀b,H b=some (.own a)->H' b=some (.own a)) (ht:∀b xs,H b=some (.tup xs)->H' b=some (.tup xs)):bR P w H' h' a o:=by
 induction o with
 |lst xs=>obtain⟨z,its,n,r,e⟩:=x;exact⟨z,its,n,r,k _ _ (.inl rfl) e⟩
 |tup xs=>obtain⟨z,its,r,ob,e,c⟩:=x;exact⟨z,its,r,ob,k _ _ (.inl rfl) e,c⟩
 |dK kvs=>obtain⟨z,y,vs,r,ob,es,ep,e,c⟩:=x;exact⟨z,y,vs,r,ob,es,ep,k _ _ (.inl rfl) e,c⟩
 |dT kvs=>
  obtain⟨z,y,xs,r,ob,es,ep,e,c⟩:=x;exact⟨z,y,xs,Paired.mapP r λp q z=>⟨z.1,ht _ _ z.2.1,z.2.2⟩,ob,es,ep,k _ _ (.inl rfl) e,c⟩
 |set S n=>obtain⟨ob,es,ep,t,e,c⟩:=x;exact⟨ob,es,ep,t,k _ _ (.inl rfl) e,c⟩
 |ins C dx fs=>
  obtain⟨d,z,ne,e,mA,⟨od,es,ep,e2,c⟩,r⟩:=x;exact⟨ho _ d,z,ne,k _ _ (.inl rfl) e,mA,⟨od,es,ep,k _ _ (.inr d) e2,c⟩,r⟩
 |own y=>obtain⟨ob,e⟩:=x;exact⟨ob,k _ _ (.inl rfl) e⟩
 |xd fs=>obtain⟨mA,⟨od,es,ep,e,c⟩,r⟩:=x;exact⟨mA,⟨od,es,ep,k _ _ (.inl rfl) e,c⟩,r⟩
 |rng lo hi=>obtain⟨t,u,v,e⟩:=x;exact⟨t,u,v,k _ _ (.inl rfl) e⟩
 |frz ob u ih=>obtain⟨e,q⟩:=x;exact⟨k _ _ (.inl rfl) e,ih q⟩
 |tbl ps=>
  have e:h.get? a=some { cls:=.none,data:=.fields ps }:=x;show h'.get? a=some { cls:=.none,data:=.fields ps };exact k a _ (.inl rfl) e
 |met f y=>
  have e:h.get? a=some (PySem.W.methodObj (.ref f) (.ref y)):=x;show h'.get? a=some (PySem.W.methodObj (.ref f) (.ref y));exact k a _ (.inl rfl) e
 |ext φ=>obtain⟨p,⟨o,e⟩,st⟩:=x;exact⟨st _ _ p λo q=>k _ _ (.inl rfl) q,⟨o,k _ _ (.inl rfl) e⟩,st⟩
theorem HOk.lt(x:HOk P w H h)(e:H a=some o):a<h.objs.size:=(x a o e).lt
theorem HOk.fresh(x:HOk P w H h)(e:h.objs.size<=a):H a=none:=by
 cases q:H a with
 |none=>rfl
 |some u=>exact absurd (Jt (x.lt q) e) (Qb _)
theorem HOk.kept(x:HOk P w H h)(k:∀b u,h.get? b=some u->h'.get? b=some u):HOk P w H h':=λa o e=>
 (x a o e).stay (λb u _ q=>k b u q) (λ_ q=>q) λ_ _ q=>q
theorem HOk.laid(x:HOk P w H h)(k:∀b u,h.get? b=some u->h'.get? b=some u)(hp:h.objs.size<=a)(new:bR P w (upd H a o) h' a o):HOk P w (upd H a o) h':=λb u e=>by
 have hn:=x.fresh hp;by_cases hb:b=a
 ·subst hb;rw[aQ]at e;cases e;exact new
 ·rw[aN hb]at e
  exact(x b u e).stay (λc v _ q=>k c v q) (λc q=>by rw[aN (aS q hn)];exact q) λc xs q=>by rw[aN (aS q hn)];exact q
end
def Rd(H:Hp)(a:Addr)(u:HO):Prop:=H a=some u \/ ∃o,H a=some (.frz o u)
theorem Rd.ok{u:HO}(r:Rd H a u)(x:HOk P w H h):bR P w H h a u:=by
 rcases r with r|⟨o,r⟩
 ·exact x a u r
 ·obtain⟨_,q⟩:=x a _ r;exact q
noncomputable def Mut:Option HO->Prop
 |some (.lst _)=>True
 |some (.dK _)=>True
 |some (.dT _)=>True
 |some (.set _ _)=>True
 |some (.ins _ _ _)=>True
 |some (.ext _)=>True
 |_=>False
section
variable{P:Program}{w:World}{H:Hp}{h h':Heap}{x e:Addr}{o':HO}
theorem HOk.write(ok:HOk P w H h)(mu:Mut (H x))(he:e=x\/H e=some (.own x))(k:∀b u,b≠e->h.get? b=some u->h'.get? b=some u)(heo:∃u,h'.get? e=some u)
  (new:bR P w (upd H x o') h' x o'):HOk P w (upd H x o') h':=λb u q=>by
 have nown:∀c y,H c=some (.own y)->c≠x:=λc y r z=>by subst z;rw[r]at mu;exact mu
 have ntup:∀c xs,H c=some (.tup xs)->c≠x:=λc xs r z=>by subst z;rw[r]at mu;exact mu
 by_cases hb:b=x
 ·subst hb;rw[aQ]at q;cases q;exact new
 ·rw[aN hb]at q;by_cases hbe:b=e
  ·have q':H b=some (.own x):=by
    rcases he with z|z
    ·exact absurd (hbe.trans z) hb
    ·rw[hbe];exact z
   rw[q]at q';cases q';obtain⟨v,hv⟩:=heo
   exact⟨v,by rw[hbe];exact hv⟩
  ·refine(ok b u q).stay (λc v hc r=>k c v ?_ r) (λc r=>by rw[aN (nown c b r)];exact r) λc xs r=>by rw[aN (ntup c xs r)];exact r
   rcases hc with rfl|hc
   ·exact hbe
   ·rintro rfl;rcases he with z|z
    ·exact nown c b hc z
    ·rw[hc]at z;cases z;exact hb rfl
end
structure Un(fs ex:List Addr)(H H':Hp)(h h':Heap):Prop where
 keep:∀b o,h.get? b=some o->H b=none->b∉fs->b∉ex->h'.get? b=some o
 slot:∀b o,h.get? b=some o->H b=none->b∈fs->b∉ex->∃sl,h'.get? b=some { o with slots:=sl }
 free:∀b o,h.get? b=some o->H b=none->b∉ex->H' b=none
 there:∀b o,h.get? b=some o->b∉ex->∃o',h'.get? b=some o'
 tups:∀b xs,H b=some (.tup xs)->H' b=some (.tup xs)
 frzs:∀b o u,H b=some (.frz o u)->H' b=some (.frz o u)
 tbls:∀b ps,H b=some (.tbl ps)->∃more,H' b=some (.tbl (ps++more))
section
variable{fs fs' ex ex':List Addr}{H H1 H2:Hp}{h h1 h2 h':Heap}{a x e:Addr}{o:HO}
theorem Un.any(u:Un fs ex H H1 h h1){ob:Obj}(q:h.get? b=some ob)(n:H b=none)(hx:b∉ex):∃sl,h1.get? b=some { ob with slots:=sl }:=by
 by_cases hb:b∈fs
 ·exact u.slot b ob q n hb hx
 ·exact⟨ob.slots,u.keep b ob q n hb hx⟩
theorem Un.trans(a:Un fs ex H H1 h h1)(b:Un fs ex H1 H2 h1 h2):Un fs ex H H2 h h2 where
 keep:=λc ob q n hc hx=>b.keep c ob (a.keep c ob q n hc hx) (a.free c ob q n hx) hc hx
 slot:=λc ob q n hc hx=>by obtain⟨sl,e1⟩:=a.slot c ob q n hc hx;obtain⟨sl',e2⟩:=b.slot c _ e1 (a.free c ob q n hx) hc hx;exact⟨sl',e2⟩
 free:=λc ob q n hx=>by obtain⟨o',e1⟩:=a.there c ob q hx;exact b.free c o' e1 (a.free c ob q n hx) hx
 there:=λc ob q hx=>by obtain⟨o',e1⟩:=a.there c ob q hx;exact b.there c o' e1 hx
 tups:=λc xs q=>b.tups c xs (a.tups c xs q)
 frzs:=λc ob xs q=>b.frzs c ob xs (a.frzs c ob xs q)
 tbls:=λc ps q=>by
  obtain⟨m1,e1⟩:=a.tbls c ps q;obtain⟨m2,e2⟩:=b.tbls c _ e1
  exact⟨m1++m2,by rw[e2,Array.append_assoc]⟩
theorem Un.kept(k:∀b u,h.get? b=some u->h'.get? b=some u):Un fs ex H H h h':=
 ⟨λb ob q _ _ _=>k b ob q,λb ob q _ _ _=>⟨ob.slots,k b ob q⟩,λ_ _ _ n _=>n,λb ob q _=>⟨ob,k b ob q⟩,λ_ _ q=>q,λ_ _ _ q=>q,λ_ ps q=>⟨#[],by rw[q];simp⟩⟩
theorem Un.refl:Un fs ex H H h h:=Un.kept λ_ _ q=>q
theorem Un.laid(k:∀b u,h.get? b=some u->h'.get? b=some u)(hp:h.objs.size<=a)(hn:H a=none):Un fs ex H (upd H a o) h h' where
 keep:=λb u q _ _ _=>k b u q
 slot:=λb u q _ _ _=>⟨u.slots,k b u q⟩
 free:=λb u q n _=>by rw[aN (Jq (Jt (Jh q) hp))];exact n
 there:=λb u q _=>⟨u,k b u q⟩
 tups:=λb xs q=>by rw[aN (aS q hn)];exact q
 frzs:=λb u xs q=>by rw[aN (aS q hn)];exact q
 tbls:=λb ps q=>⟨#[],by rw[aN (aS q hn),q];simp⟩
theorem Un.write(mu:Mut (H x))(he:e=x\/H e=some (.own x))(k:∀b u,b≠e->h.get? b=some u->h'.get? b=some u)(heo:∃u,h'.get? e=some u):Un fs ex H (upd H x o) h h':=by
 have hx:∀b,H b=none->b≠x:=λb n z=>by subst z;rw[n]at mu;exact mu
 have hb:∀b,H b=none->b≠e:=λb n z=>by
  subst z;rcases he with r|r
  ·exact hx b n r
  ·rw[n]at r;cases r
 have hm:∀b u,H b=some u->¬Mut (some u)->b≠x:=λb u q nm z=>by subst z;rw[q]at mu;exact nm mu
 refine⟨λb u q n _ _=>k b u (hb b n) q,λb u q n _ _=>⟨u.slots,k b u (hb b n) q⟩,λb u q n _=>by rw[aN (hx b n)];exact n,λb u q _=>?_,
  λb xs q=>by rw[aN (hm b _ q λz=>z)];exact q,λb u xs q=>by rw[aN (hm b _ q λz=>z)];exact q,λb ps q=>⟨#[],by rw[aN (hm b _ q λz=>z),q];simp⟩⟩
 by_cases hbe:b=e
 ·subst hbe;exact heo
 ·exact⟨u,k b u hbe q⟩
end
noncomputable def trk(h:Heap)(H:Hp):List Addr:=(List.range h.objs.size).filter λa=>(H a).isSome
noncomputable def qG(h:Heap)(H:Hp):Heap:=PySem.W.hideAll h (trk h H)
theorem yk(h:Heap)(H:Hp):(qG h H).objs.size=h.objs.size:=PySem.W.hideAll_size _ _
theorem zk{o:Obj}(e:h.get? b=some o)(n:H b=none):(qG h H).get? b=some o:=
 PySem.W.hideAll_get _ e λhm=>by have q:(H b).isSome=true:=(Yq.mp hm).2;rw[n]at q;simp at q
theorem BA{o:Obj}(e:(qG h H).get? b=some o):h.get? b=some o/\H b=none:=by
 have e':h.get? b=some o:=PySem.W.of_hideAll (trk h H) e;refine⟨e',?_⟩;cases q:H b with
 |none=>rfl
 |some x=>
  have hm:b∈trk h H:=Yq.mpr ⟨V6.mpr (Jh e'),by simp[q]⟩
  have z:(qG h H).get? b=none:=PySem.W.hideAll_none (trk h H) hm;rw[z]at e;cases e
structure Mod(K:PySem.W.Frag)(mg:Str->Option Value)(base:Heap):Prop where
 kin:K.In base
 glob:base.Ns mainGlobals mg
 blt:∃mb,base.Ns builtinsNs mb/\∀x:Str,x ≠ "__name__"->mb x=bootBuiltins x
 nolimit:base.NoLimit
structure Cx where
 prog:Program
 w:World
 K:PySem.W.Frag
 mg:Str->Option Value
 base:Heap
 A:Around
 N:List Str
 s₀:Shared
 H₀:Hp
 env:Env
 outer:List Env
 stack:List Env
 ex:List Addr
 fn:Str->Bool
 calm:Bool
 pn:List (Addr×Obj)
 xe:Value->Shared->Prop
variable{X:Cx}
noncomputable def frs(l:List Env):List Addr:=l.filterMap (·.frame)
noncomputable abbrev Cx.fs(X:Cx):List Addr:=frs X.outer
def Vis(sc:Scope)(x:Str):Prop:=sc.names.lookup x=some .local\/sc.names.lookup x=some .cell\/sc.names.lookup x=some .free
def Loc(sc:Scope)(x:Str):Prop:=sc.names.lookup x=some .local\/sc.names.lookup x=some .cell
def Look(env:Env)(h:Heap)(m:Str->Option Value)(x:Str)(u:Value):Prop:=
 (env.kindOf x=some .local/\m x=some u)\/((env.kindOf x=some .cell\/env.kindOf x=some .free)/\∃c,env.cells.lookup x=some c/\h.IsCell c (some u))
structure Cx.Ok(X:Cx):Prop where
 mod:Mod X.K X.mg X.base
 kind:X.env.scope.kind=.function
 glob:X.env.globals=mainGlobals
 blt:X.env.builtins=builtinsNs
 above:X.s₀.heap.objs.size<=X.env.locals
 inj:∀x y c,X.env.cells.lookup x=some c->X.env.cells.lookup y=some c->x=y
 has:∀x,(X.env.kindOf x=some .cell\/X.env.kindOf x=some .free)->∃c,X.env.cells.lookup x=some c
 cab:∀x c,X.fn x=true->X.env.cells.lookup x=some c->X.s₀.heap.objs.size<=c
 hd:X.calm=true->X.A.handled=none
 frames:X.A.frames=some X.stack
 stk:X.stack=X.outer\/(X.stack=X.env::X.outer/\X.env.frame=some X.env.locals)
 exf:∀b∈X.ex,b≠X.env.locals/\∀x c,X.env.cells.lookup x=some c->c≠b
 bs:∀b o,X.base.get? b=some o->X.s₀.heap.get? b=some o/\X.H₀ b=none
 bsz:X.base.objs.size<=X.s₀.heap.objs.size
 noex:∀b o,X.base.get? b=some o->b∉X.ex
 exfs:∀b∈X.ex,b∉X.fs
 funs:X.s₀.heap.FunFrames X.base X.outer
 frf:∀b∈X.fs,X.H₀ b=none
structure Inv(X:Cx)(pins:List (Addr×Obj))(σ:List (Option V))(H:Hp)(s:Shared):Prop where
 ok:X.Ok
 os:s.os=X.s₀.os
 bare:AllBare s.gens
 base:Un X.fs X.ex X.H₀ H X.s₀.heap s.heap
 loc:∃m,s.heap.Ns X.env.locals m/\∀(i:Nat)(x:Str)(v:V),X.N[i]?=some x->σ[i]?=some (some v)->Vis X.env.scope x->∃u,RelV v u/\Look X.env s.heap m x u
 cell:∀x c,X.env.cells.lookup x=some c->∃v,s.heap.IsCell c v
 free:H X.env.locals=none
 freeC:∀x c,X.env.cells.lookup x=some c->H c=none
 pin:∀p∈X.pn++pins,s.heap.get? p.1=some p.2/\H p.1=none/\p.1≠X.env.locals/\p.1∉X.fs/\∀v,p.2.data≠.cell v
 hok:HOk X.prog X.w H s.heap
 len:σ.length=X.N.length
section
variable{X:Cx}{pins:List (Addr×Obj)}{σ:List (Option V)}{H H':Hp}{s:Shared}{h':Heap}
theorem Cx.Ok.nofr(ok:X.Ok){o:Obj}(e:X.base.get? b=some o):b∉X.fs:=λhb=>by have:=(ok.funs.mem hb).1;rw[e]at this;cases this
theorem Inv.bs(I:Inv X pins σ H s):∀b o,X.base.get? b=some o->s.heap.get? b=some o/\H b=none:=λb o e=>
 ⟨I.base.keep b o (I.ok.bs b o e).1 (I.ok.bs b o e).2 (I.ok.nofr e) (I.ok.noex b o e),I.base.free b o (I.ok.bs b o e).1 (I.ok.bs b o e).2 (I.ok.noex b o e)⟩
theorem Inv.bk(I:Inv X pins σ H s):∀b o,X.base.get? b=some o->s.heap.get? b=some o:=λb o e=>(I.bs b o e).1
theorem Inv.mod(I:Inv X pins σ H s):Mod X.K X.mg X.base:=I.ok.mod
theorem Inv.kIn(I:Inv X pins σ H s):X.K.In s.heap:=I.ok.mod.kin.keeps I.bk
theorem Inv.lt(I:Inv X pins σ H s):X.env.locals<s.heap.objs.size:=let ⟨_,hn,_⟩:=I.loc;hn.lt
theorem Inv.sz(I:Inv X pins σ H s):X.s₀.heap.objs.size<=s.heap.objs.size:=Y2 I.ok.above (Vl I.lt)
theorem Inv.nofs(I:Inv X pins σ H s)(h:s.heap.objs.size<=a):a∉X.fs:=λhb=>by obtain⟨_,o,ho,_⟩:=I.ok.funs.mem hb;exact absurd (Jt (Jh ho) (Y2 I.sz h)) (Qb _)
theorem Inv.cne(I:Inv X pins σ H s):∀x c,X.env.cells.lookup x=some c->c≠X.env.locals:=λx c e z=>by obtain⟨v,o,ho,hd⟩:=I.cell x c e;obtain⟨m,⟨o',es,ep,ho',hd',_⟩,_⟩:=I.loc;rw[z,ho']at ho;cases ho;rw[hd']at hd;cases hd
theorem Inv.funs(I:Inv X pins σ H s):s.heap.FunFrames X.base X.outer:=by
 have all:∀(l:List Env),(∀b∈frs l,b∈X.fs)->X.s₀.heap.FunFrames X.base l->s.heap.FunFrames X.base l:=by
  intro l
  induction l with
  |nil=>intro _ _;trivial
  |cons env r ih=>
   intro hs hl;obtain⟨hk,⟨L,o,hf,hn,ho,hd⟩,hr⟩:=hl
   have hL:L∈X.fs:=hs L (by unfold frs;rw[Vz,hf];exact Y4)
   obtain⟨sl,e⟩:=I.base.slot L o ho (I.ok.frf L hL) hL λz=>I.ok.exfs L z hL
   exact⟨hk,⟨L,_,hf,hn,e,hd⟩,ih (λb hb=>hs b (by unfold frs;rw[Vz,hf];exact Y3 _ hb)) hr⟩
 exact all X.outer (λ_ hb=>hb) I.ok.funs
theorem Inv.stack(I:Inv X pins σ H s):s.heap.FunFrames X.base X.stack:=by
 rcases I.ok.stk with e|⟨e,hf⟩
 ·rw[e];exact I.funs
 ·rw[e];obtain⟨m,hn,_⟩:=I.loc
  refine .cons (by rw[I.ok.kind];decide) hf hn ?_ I.funs
  exact Qp (Y2 I.ok.bsz I.ok.above)
theorem Inv.stkSub(I:Inv X pins σ H s):∀b∈frs X.stack,b∈X.env.locals::X.fs:=λb hb=>by
 rcases I.ok.stk with e|⟨e,hf⟩
 ·rw[e]at hb;exact Y3 _ hb
 ·rw[e]at hb;unfold frs at hb;rw[Vz,hf]at hb;exact hb
theorem Inv.stkFree(I:Inv X pins σ H s):∀b∈frs X.stack,H b=none:=λb hb=>by
 rcases Jj.mp (I.stkSub b hb) with e|hb
 ·rw[e];exact I.free
 ·obtain⟨_,o,ho,_⟩:=I.ok.funs.mem hb;exact I.base.free b o ho (I.ok.frf b hb) λz=>I.ok.exfs b z hb
theorem Inv.step{g':Array GenState}{t':Nat}{d':Drawn}{ch:List Addr}(I:Inv X pins σ H s)
  (hch:∀b∈ch,(b∈X.ex\/X.s₀.heap.objs.size<=b)/\b≠X.env.locals/\(∀x c,X.env.cells.lookup x=some c->c≠b)/\∀p∈X.pn++pins,p.1≠b)
  (keep:∀b o,b≠X.env.locals->b∉X.fs->b∉ch->s.heap.get? b=some o->H b=none->h'.get? b=some o)
  (slot:∀b o,b≠X.env.locals->b∈X.fs->b∉ch->s.heap.get? b=some o->H b=none->∃sl,h'.get? b=some { o with slots:=sl }) (free:∀b o,b∉ch->s.heap.get? b=some o->H b=none->H' b=none)
  (there:∀b o,b∉ch->s.heap.get? b=some o->∃o',h'.get? b=some o')
  (tups:∀b xs,H b=some (.tup xs)->H' b=some (.tup xs)) (frzs:∀b o u,H b=some (.frz o u)->H' b=some (.frz o u)) (tbls:∀b ps,H b=some (.tbl ps)->∃more,H' b=some (.tbl (ps++more)))
  (ns:∀m,s.heap.Ns X.env.locals m->h'.Ns X.env.locals m) (hok:HOk X.prog X.w H' h') (hg:AllBare g'):
  Inv X pins σ H' { s with heap:=h',gens:=g',drawn:=d',toks:=t' }:=by
 have neL:∀b o,X.s₀.heap.get? b=some o->b≠X.env.locals:=λb o e=>Jq (Jt (Jh e) I.ok.above)
 have neC:∀b o,X.s₀.heap.get? b=some o->b∉X.ex->b∉ch:=λb o e hx hb=>by
  rcases(hch b hb).1 with z|z
  ·exact hx z
  ·exact absurd (Jt (Jh e) z) (Qb _)
 have cellK:∀x c,X.env.cells.lookup x=some c->∀v,s.heap.IsCell c v->h'.IsCell c v:=λx c e v ⟨o,ho,hd⟩=>by
  have nch:c∉ch:=λz=>(hch c z).2.2.1 x c e rfl;by_cases hc:c∈X.fs
  ·obtain⟨sl,q⟩:=slot c o (I.cne x c e) hc nch ho (I.freeC x c e);exact⟨_,q,hd⟩
  ·exact⟨o,keep c o (I.cne x c e) hc nch ho (I.freeC x c e),hd⟩
 refine⟨I.ok,I.os,hg,⟨λb o e n hb hx=>?_,λb o e n hb hx=>?_,λb o e n hx=>?_,λb o e hx=>?_,λb xs e=>tups b xs (I.base.tups b xs e),λb o xs e=>frzs b o xs (I.base.frzs b o xs e),λb ps e=>?_⟩,?_,λx c e=>?_,?_,λx c e=>?_,λp hp=>?_,hok,I.len⟩
 ·exact keep b o (neL b o e) hb (neC b o e hx) (I.base.keep b o e n hb hx) (I.base.free b o e n hx)
 ·obtain⟨sl,e1⟩:=I.base.slot b o e n hb hx;obtain⟨sl',e2⟩:=slot b _ (neL b o e) hb (neC b o e hx) e1 (I.base.free b o e n hx);exact⟨sl',e2⟩
 ·obtain⟨o',e1⟩:=I.base.there b o e hx;exact free b o' (neC b o e hx) e1 (I.base.free b o e n hx)
 ·obtain⟨o',e1⟩:=I.base.there b o e hx;exact there b o' (neC b o e hx) e1
 ·obtain⟨m1,e1⟩:=I.base.tbls b ps e;obtain⟨m2,e2⟩:=tbls b _ e1
  exact⟨m1++m2,by rw[e2,Array.append_assoc]⟩
 ·obtain⟨m,hn,hl⟩:=I.loc;refine⟨m,ns m hn,λi x v e1 e2 e3=>?_⟩;obtain⟨u,r,l⟩:=hl i x v e1 e2 e3;refine⟨u,r,?_⟩;rcases l with l|⟨k,c,e,z⟩
  ·exact .inl l
  ·exact .inr ⟨k,c,e,cellK x c e _ z⟩
 ·obtain⟨v,z⟩:=I.cell x c e;exact⟨v,cellK x c e v z⟩
 ·obtain⟨m,⟨o,_,_,ho,_⟩,_⟩:=I.loc;exact free _ o (λz=>(hch _ z).2.1 rfl) ho I.free
 ·obtain⟨v,o,ho,hd⟩:=I.cell x c e;exact free c o (λz=>(hch c z).2.2.1 x c e rfl) ho (I.freeC x c e)
 ·obtain⟨e,n,ne,nf,d⟩:=I.pin p hp;have nch:p.1∉ch:=λz=>(hch p.1 z).2.2.2 p hp rfl;exact⟨keep p.1 p.2 ne nf nch e n,free p.1 p.2 nch e n,ne,nf,d⟩
theorem Inv.un{t':Nat}(I:Inv X pins σ H s)(u:Un X.fs [] H H' s.heap h')(hok:HOk X.prog X.w H' h'):Inv X pins σ H' { s with heap:=h',toks:=t' }:=by
 obtain⟨m,⟨o,es,ep,ho,r⟩,_⟩:=id I.loc
 obtain⟨sl,hL⟩:=u.any ho I.free (by simp)
 exact I.step (g':=s.gens) (d':=s.drawn) (ch:=[]) (λ_ z=>nomatch z) (λb o _ hb _ e n=>u.keep b o e n hb (by simp)) (λb o _ hb _ e n=>u.slot b o e n hb (by simp)) (λb o _ e n=>u.free b o e n (by simp)) (λb o _ e=>u.there b o e (by simp)) u.tups u.frzs u.tbls (λm' hm=>by
  obtain⟨o',es',ep',ho',r'⟩:=hm;rw[ho]at ho';cases ho'
  exact⟨_,es',ep',hL,r'⟩) hok I.bare
theorem Inv.call{g':Array GenState}{t':Nat}{d':Drawn}{ch:List Addr}(I:Inv X pins σ H s)(u:Un (frs X.stack) ch H H' s.heap h')(hok:HOk X.prog X.w H' h')(hg:AllBare g')
  (hch:∀b∈ch,(b∈X.ex\/X.s₀.heap.objs.size<=b)/\b≠X.env.locals/\(∀x c,X.env.cells.lookup x=some c->c≠b)/\∀p∈X.pn++pins,p.1≠b):
  Inv X pins σ H' { s with heap:=h',gens:=g',drawn:=d',toks:=t' }:=by
 obtain⟨m,⟨o,es,ep,ho,r⟩,_⟩:=id I.loc;obtain⟨sl,hL⟩:=u.any ho I.free λz=>(hch _ z).2.1 rfl
 exact I.step (ch:=ch) hch (λb o hL hb hc e n=>u.keep b o e n (λz=>(Jj.mp (I.stkSub b z)).elim hL hb) hc) (λb o _ _ hc e n=>u.any e n hc) (λb o hc e n=>u.free b o e n hc) (λb o hc e=>u.there b o e hc) u.tups u.frzs u.tbls (λm' hm=>by
  obtain⟨o',es',ep',ho',r'⟩:=hm;rw[ho]at ho';cases ho'
  exact⟨_,es',ep',hL,r'⟩) hok hg
theorem Inv.turned{t':Nat}{it:Addr}(I:Inv X pins σ H s)(k:∀b o,b≠it->s.heap.get? b=some o->h'.get? b=some o)(hn:H it=none)(hL:it≠X.env.locals)
  (h1:it∈X.ex\/X.s₀.heap.objs.size<=it) (h2:∀x c,X.env.cells.lookup x=some c->c≠it) (h3:∀p∈X.pn++pins,p.1≠it):Inv X pins σ H { s with heap:=h',toks:=t' }:=by
 have nit:∀b u,H b=some u->b≠it:=λb u e z=>by rw[z,hn]at e;cases e
 refine I.step (g':=s.gens) (d':=s.drawn) (ch:=[it]) (λb hb=>?_) (λb o _ _ hc e _=>k b o (λz=>hc (by simp[z])) e) (λb o _ _ hc e _=>⟨o.slots,k b o (λz=>hc (by simp[z])) e⟩) (λ_ _ _ _ n=>n)
  (λb o hc e=>⟨o,k b o (λz=>hc (by simp[z])) e⟩) (λ_ _ e=>e) (λ_ _ _ e=>e) (λb ps e=>⟨#[],by rw[e];simp⟩) (λm hm=>?_) (λb u e=>?_) I.bare
 ·have e:b=it:=by simpa using hb
  subst e;exact⟨h1,hL,h2,h3⟩
 ·obtain⟨o,es,ep,ho,r⟩:=hm;exact⟨o,es,ep,k _ o (Ne.symm hL) ho,r⟩
 ·refine(I.hok b u e).stay (λc v hc q=>k c v ?_ q) (λ_ q=>q) λ_ _ q=>q;rcases hc with z|z
  ·rw[z];exact nit b u e
  ·exact nit c _ z
theorem Inv.tok(I:Inv X pins σ H s)(t:Nat):Inv X pins σ H { s with toks:=t }:=I.un (h':=s.heap) (t':=t) Un.refl I.hok
theorem Inv.kept{t':Nat}(I:Inv X pins σ H s)(k:∀b u,s.heap.get? b=some u->h'.get? b=some u):Inv X pins σ H { s with heap:=h',toks:=t' }:=I.un (Un.kept k) (I.hok.kept k)
theorem Inv.laid{t':Nat}(I:Inv X pins σ H s)(k:∀b u,s.heap.get? b=some u->h'.get? b=some u)(hp:s.heap.objs.size<=a)(new:bR X.prog X.w (upd H a o) h' a o):
 Inv X pins σ (upd H a o) { s with heap:=h',toks:=t' }:=I.un (Un.laid k hp (I.hok.fresh hp)) (I.hok.laid k hp new)
theorem Inv.write{x e:Addr}{o:HO}{t':Nat}(I:Inv X pins σ H s)(mu:Mut (H x))(he:e=x\/H e=some (.own x))(k:∀b u,b≠e->s.heap.get? b=some u->h'.get? b=some u)(heo:∃u,h'.get? e=some u)
 (new:bR X.prog X.w (upd H x o) h' x o):Inv X pins σ (upd H x o) { s with heap:=h',toks:=t' }:=I.un (Un.write mu he k heo) (I.hok.write mu he k heo new)
theorem Inv.pins_of{pins':List (Addr×Obj)}(I:Inv X pins σ H s)(h:∀p∈pins',s.heap.get? p.1=some p.2/\H p.1=none/\p.1≠X.env.locals/\p.1∉X.fs/\∀v,p.2.data≠.cell v):Inv X pins' σ H s:=
 ⟨I.ok,I.os,I.bare,I.base,I.loc,I.cell,I.free,I.freeC,λp hp=>(Jr.mp hp).elim (λz=>I.pin p (Qq _ z)) (h p),I.hok,I.len⟩
theorem sN{N:List Str}(hN:N.Nodup)(a:N[i]?=some x)(b:N[j]?=some x):i=j:=by obtain⟨h1,e1⟩:=Ja.mp a;obtain⟨h2,e2⟩:=Ja.mp b;exact(List.getElem_inj hN).mp (e1.trans e2.symm)
theorem pd{M:Model}{A:Around}{E:Value->Shared->Prop}{v:V}{Q:Unit->Shared->Prop}(I:Inv X pins σ H s)(hN:X.N.Nodup)(hi:X.N[i]?=some x)(hx:Loc X.env.scope x)(r:RelV v u)
  (h:∀s',Inv X pins (σ.set i (some v)) H s'->(∃a,Heap.SameBut a s.heap s'.heap/\(a=X.env.locals\/X.env.cells.lookup x=some a))->Q () s') (hf:X.fn x=true\/X.env.scope.names.lookup x=some .local):wpAny M A (storeName X.env x u) Q E s:=by
 obtain⟨m,hn,hl⟩:=id I.loc
 have hcls:(X.env.scope.kind == .class||(X.env.scope.kind == .module&&X.env.locals != X.env.globals))=false:=by rw[I.ok.kind];rfl
 have hiσ:i < σ.length:=by rw[I.len];exact(Ja.mp hi).1
 have cne:=I.cne
 have tracked:∀{a:Addr}{h':Heap},(∃o,s.heap.get? a=some o/\H a=none)->Heap.SameBut a s.heap h'->HOk X.prog X.w H h':=λ{a h'} ha hs b ob e=>by
  obtain⟨_,_,hfree⟩:=ha;refine(I.hok b ob e).stay (λc w' hc q=>(hs.2 c ?_).trans q) (λ_ q=>q) λ_ _ q=>q;rintro rfl;rcases hc with rfl|hc
  ·rw[hfree]at e;cases e
  ·rw[hfree]at hc;cases hc
 rcases hx with hk|hk
 ·refine wpAny_storeName_local hk hn (λh' hn' hs=>?_) hcls;obtain⟨oL,_,_,hoL,_⟩:=id hn
  refine h _ ⟨I.ok,I.os,I.bare,⟨λb o e n hb hx=>?_,λb o e n hb hx=>?_,I.base.free,λb o e hx=>?_,I.base.tups,I.base.frzs,I.base.tbls⟩,⟨_,hn',λj y v' e1 e2 e3=>?_⟩,λy c e=>?_,I.free,I.freeC,λp hp=>?_,tracked ⟨oL,hoL,I.free⟩ hs,by simpa using I.len⟩ ⟨_,hs,.inl rfl⟩
  ·exact(hs.2 b (Jq (Jt (Jh e) I.ok.above))).trans (I.base.keep b o e n hb hx)
  ·obtain⟨sl,e1⟩:=I.base.slot b o e n hb hx;exact⟨sl,(hs.2 b (Jq (Jt (Jh e) I.ok.above))).trans e1⟩
  ·obtain⟨o',e1⟩:=I.base.there b o e hx;exact⟨o',(hs.2 b (Jq (Jt (Jh e) I.ok.above))).trans e1⟩
  ·by_cases hj:j=i
   ·subst hj;rw[hi]at e1;cases e1;rw[Y8 hiσ]at e2;cases e2
    exact⟨u,r,.inl ⟨hk,by simp⟩⟩
   ·rw[Yc (Ne.symm hj)]at e2;obtain⟨u',r',q⟩:=hl j y v' e1 e2 e3;refine⟨u',r',?_⟩;rcases q with⟨k,e⟩|⟨k,c,e,z⟩
    ·refine .inl ⟨k,?_⟩;have:y≠x:=λe=>hj (sN hN e1 (e▸hi));simp[this,e]
    ·exact .inr ⟨k,c,e,z.sameBut hs (cne y c e)⟩
  ·obtain⟨w',z⟩:=I.cell y c e;exact⟨w',z.sameBut hs (cne y c e)⟩
  ·obtain⟨e,n,ne,nf,d⟩:=I.pin p hp;exact⟨(hs.2 p.1 ne).trans e,n,ne,nf,d⟩
 ·have hfn:X.fn x=true:=by
   rcases hf with z|z
   ·exact z
   ·rw[z]at hk;cases hk
  obtain⟨c,hc⟩:=I.ok.has x (.inl hk);obtain⟨w',z⟩:=I.cell x c hc;refine wpAny_storeName_cell I.ok.kind hk hc z (λh' hc' hs=>?_);obtain⟨oc,hoc,hocd⟩:=id z
  refine h { s with heap:=h' } ⟨I.ok,I.os,I.bare,⟨λb o e n hb hx=>?_,λb o e n hb hx=>?_,I.base.free,λb o e hx=>?_,I.base.tups,I.base.frzs,I.base.tbls⟩,⟨m,hn.sameBut hs (Ne.symm (cne x c hc)),λj y v' e1 e2 e3=>?_⟩,λy c' e=>?_,I.free,I.freeC,λp hp=>?_,tracked ⟨oc,hoc,I.freeC x c hc⟩ hs,by simpa using I.len⟩ ⟨c,hs,.inr hc⟩
  ·exact(hs.2 b (Jq (Jt (Jh e) (I.ok.cab x c hfn hc)))).trans (I.base.keep b o e n hb hx)
  ·obtain⟨sl,e1⟩:=I.base.slot b o e n hb hx;exact⟨sl,(hs.2 b (Jq (Jt (Jh e) (I.ok.cab x c hfn hc)))).trans e1⟩
  ·obtain⟨o',e1⟩:=I.base.there b o e hx;exact⟨o',(hs.2 b (Jq (Jt (Jh e) (I.ok.cab x c hfn hc)))).trans e1⟩
  ·by_cases hj:j=i
   ·subst hj;rw[hi]at e1;cases e1;rw[Y8 hiσ]at e2;cases e2;exact⟨u,r,.inr ⟨.inl hk,c,hc,hc'⟩⟩
   ·rw[Yc (Ne.symm hj)]at e2;obtain⟨u',r',q⟩:=hl j y v' e1 e2 e3;refine⟨u',r',?_⟩;rcases q with q|⟨k,c',e,z'⟩
    ·exact .inl q
    ·refine .inr ⟨k,c',e,z'.sameBut hs ?_⟩;rintro rfl;exact hj (sN hN e1 (I.ok.inj _ _ _ e hc▸hi))
  ·by_cases hcc:c'=c
   ·subst hcc;exact⟨_,hc'⟩
   ·obtain⟨w2,z2⟩:=I.cell y c' e;exact⟨w2,z2.sameBut hs hcc⟩
  ·obtain⟨e,n,ne,nf,d⟩:=I.pin p hp;refine⟨(hs.2 p.1 ?_).trans e,n,ne,nf,d⟩;intro q;rw[q,hoc]at e;have q':oc=p.2:=Yp e
   exact d w' (by rw[<- q'];exact hocd)
theorem j6{M:Model}{A:Around}{E:Value->Shared->Prop}{v:V}{Q:Unit->Shared->Prop}(I:Inv X pins σ H s)(hN:X.N.Nodup)(hi:X.N[i]?=some x)(hx:Loc X.env.scope x)(r:RelV v u)
  (h:∀s',Inv X pins (σ.set i (some v)) H s'->Q () s') (hf:X.fn x=true\/X.env.scope.names.lookup x=some .local):wpAny M A (storeName X.env x u) Q E s:=
 pd I hN hi hx r (λs' I' _=>h s' I') hf
theorem Inv.call'{s':Shared}{ch:List Addr}(I:Inv X pins σ H s)(ho:s'.os=s.os)(u:Un (frs X.stack) ch H H' s.heap s'.heap)(hok:HOk X.prog X.w H' s'.heap)(hg:AllBare s'.gens)
  (hch:∀b∈ch,(b∈X.ex\/X.s₀.heap.objs.size<=b)/\b≠X.env.locals/\(∀x c,X.env.cells.lookup x=some c->c≠b)/\∀p∈X.pn++pins,p.1≠b):Inv X pins σ H' s':=by
 obtain⟨h',g',d',t',o'⟩:=s';have e:o'=s.os:=ho;subst e;exact I.call (g':=g') (t':=t') (d':=d') u hok hg hch
end
noncomputable abbrev XK:=Value->Option Addr->Hp->Prop
noncomputable abbrev St:=List (Option V)
variable{σ:St}
noncomputable abbrev VK:=V->Hp->Prop
noncomputable abbrev TE:=St->Hp->VK->Prop
noncomputable abbrev TT:=St->Hp->(Bool->Hp->Prop)->Prop
noncomputable abbrev TA:=St->Hp->(List V->Hp->Prop)->Prop
set_option genInjectivity false in
structure Ends where
 nx:St->Hp->Prop
 rt:VK
 bk:St->Hp->Prop:=λ_ _=>False
 ct:St->Hp->Prop:=λ_ _=>False
noncomputable abbrev TS:=Ends->St->Hp->Prop
def EP(X:Cx)(pins:List (Addr×Obj))(σ:St)(Q:VK)(u:Value)(s':Shared):Prop:=∃v H',Inv X pins σ H' s'/\RelV v u/\Q v H'
def TP(X:Cx)(pins:List (Addr×Obj))(σ:St)(Q:Bool->Hp->Prop)(b:Bool)(s':Shared):Prop:=∃H',Inv X pins σ H' s'/\Q b H'
def AP(X:Cx)(pins:List (Addr×Obj))(σ:St)(Q:List V->Hp->Prop)(us:List Value)(s':Shared):Prop:=∃vs H',Inv X pins σ H' s'/\Vals vs us/\Q vs H'
def SP(X:Cx)(pins:List (Addr×Obj))(D:Ends)(f:Flow)(s':Shared):Prop:=
 match f with
 |.next=>∃σ' H',Inv X pins σ' H' s'/\D.nx σ' H'
 |.brk=>∃σ' H',Inv X pins σ' H' s'/\D.bk σ' H'
 |.cont=>∃σ' H',Inv X pins σ' H' s'/\D.ct σ' H'
 |.ret u=>∃v σ' H',Inv X pins σ' H' s'/\RelV v u/\D.rt v H'
def PE(X:Cx)(e:Expr)(t:TE):Prop:=
 ∀(pins:List (Addr×Obj))(s:Shared)(σ:St)(H:Hp)(Q:VK),Inv X pins σ H s->t σ H Q->wpAny (model X.prog X.w) X.A (eval e X.env) (EP X pins σ Q) X.xe s
def PT(X:Cx)(e:Expr)(t:TT):Prop:=
 ∀(pins:List (Addr×Obj))(s:Shared)(σ:St)(H:Hp)(Q:Bool->Hp->Prop),Inv X pins σ H s->t σ H Q->wpAny (model X.prog X.w) X.A (isTrue e X.env (eval e X.env)) (TP X pins σ Q) X.xe s
def PW(X:Cx)(e:Expr)(t:TT):Prop:=
 ∀(whole:Sem Value)(pins:List (Addr×Obj))(s:Shared)(σ:St)(H:Hp)(Q:Bool->Hp->Prop),Inv X pins σ H s->t σ H Q->wpAny (model X.prog X.w) X.A (isTrue e X.env whole) (TP X pins σ Q) X.xe s
theorem PW.pt{t:TT}(h:PW X e t):PT X e t:=h _
def PA(X:Cx)(es:List Expr)(t:TA):Prop:=
 ∀(pos:Pos)(pins:List (Addr×Obj))(s:Shared)(σ:St)(H:Hp)(Q:List V->Hp->Prop),Inv X pins σ H s->t σ H Q->wpAny (model X.prog X.w) X.A (spliced (backTo pos (starEach es X.env))) (AP X pins σ Q) X.xe s
def PS(X:Cx)(st:Stmt)(t:TS):Prop:=
 ∀(pins:List (Addr×Obj))(s:Shared)(σ:St)(H:Hp)(D:Ends),Inv X pins σ H s->t D σ H->wpAny (model X.prog X.w) X.A (exec st X.env) (SP X pins D) X.xe s
def PSs(X:Cx)(st:List Stmt)(t:TS):Prop:=
 ∀(pins:List (Addr×Obj))(s:Shared)(σ:St)(H:Hp)(D:Ends),Inv X pins σ H s->t D σ H->wpAny (model X.prog X.w) X.A (execs st X.env) (SP X pins D) X.xe s
theorem thn{α:Type}{t:Sem α}{Q Q':α->Shared->Prop}{M:Model}{E:Value->Shared->Prop}(h:wpAny M A t Q E s)(hQ:∀a s,Q a s->Q' a s):wpAny M A t Q' E s:=Zk h hQ λ_ _ x=>x
section
variable{X:Cx}
noncomputable def FK(i:Nat):TE:=λσ H Q=>∃v,σ[i]?=some (some v)/\Q v H
noncomputable def tC(v:V):TE:=λ_ H Q=>Q v H
theorem DC(hN:X.N[i]?=some x)(hv:Vis X.env.scope x)(hd:autoParam ((x == ("__debug__":Str))=false) Au.h2._auto_1)(hcd:autoParam ((x == ("__classdict__":Str))=false) Au.h2._auto_1):PE X (.Name x pos) (FK i):=by
 intro pins s σ H Q I h;obtain⟨v,e,h⟩:=h;obtain⟨m,hn,hl⟩:=I.loc;obtain⟨u,r,l⟩:=hl i x v hN e hv;have fin:EP X pins σ Q u s:=⟨v,H,I,r,h⟩;rcases l with⟨hk,hm⟩|⟨hk,c,hc,hcell⟩
 ·exact wpAny_Name (wpAny_loadName_local I.ok.kind hk hn hm fin) hd
 ·rcases hk with hk|hk
  ·exact wpAny_Name (wpAny_loadName_cell I.ok.kind hk hc hcell fin) hd
  ·exact wpAny_Name (wpAny_loadName_free I.ok.kind hk hc hcell fin hcd) hd
theorem DD{i j pos}:PE X (.Constant (.int i) j pos) (tC (.int i)):=λ_ _ _ H _ I h=>wpAny_Constant_int ⟨.int i,H,I.tok _,⟨_,rfl⟩,h⟩
theorem FL{b j pos}:PE X (.Constant (.bool b) j pos) (tC (.bl b)):=λ_ _ _ H _ I h=>Constant_bool ⟨.bl b,H,I,rfl,h⟩
theorem DE{j pos}:PE X (.Constant .none j pos) (tC .non):=λ_ _ _ H _ I h=>Constant_none ⟨.non,H,I,rfl,h⟩
def Gl(X:Cx)(x:Str):Prop:=X.env.kindOf x=some .globalImplicit
theorem wF{E:Value->Shared->Prop}{pos:Pos}{Q:Value->Shared->Prop}(I:Inv X pins σ H s)(hg:Gl X x)(hm:X.mg x=some u)(h:Q u s)
  (hd:autoParam ((x == ("__debug__":Str))=false) Au.h2._auto_1):wpAny (model X.prog X.w) X.A (eval (.Name x pos) X.env) Q E s:=
 Calls.Name_function_global I.ok.kind hg (Calls.loadGlobal_global (by rw[I.ok.glob];exact I.mod.glob.keeps I.bk) hm h) hd
theorem ig{E:Value->Shared->Prop}{pos:Pos}{Q:Value->Shared->Prop}(I:Inv X pins σ H s)(hg:Gl X x)(hm:X.mg x=none)(hv:bootBuiltins x=some u)(h:Q u s)
  (hn:autoParam (x ≠ "__name__") Au.h2._auto_1) (hd:autoParam ((x == ("__debug__":Str))=false) Au.h2._auto_1):wpAny (model X.prog X.w) X.A (eval (.Name x pos) X.env) Q E s:=by
 obtain⟨mb,h1,h2⟩:=I.mod.blt
 exact Calls.Name_function_global I.ok.kind hg (Calls.loadGlobal_builtin (by rw[I.ok.glob];exact I.mod.glob.keeps I.bk) hm (by rw[I.ok.blt];exact h1.keeps I.bk) ((h2 x hn).trans hv) h) hd
theorem wG{v:V}(hg:Gl X x)(hm:X.mg x=some u)(r:RelV v u)(hd:autoParam ((x == ("__debug__":Str))=false) Au.h2._auto_1):PE X (.Name x pos) (tC v):=
 λ_ _ _ H _ I h=>wF I hg hm ⟨v,H,I,r,h⟩ hd
theorem BB{v:V}(hg:Gl X x)(hm:X.mg x=none)(hv:bootBuiltins x=some u)(r:RelV v u)(hn:autoParam (x ≠ "__name__") Au.h2._auto_1)(hd:autoParam ((x == ("__debug__":Str))=false) Au.h2._auto_1):PE X (.Name x pos) (tC v):=
 λ_ _ _ H _ I h=>ig I hg hm hv ⟨v,H,I,r,h⟩ hn hd
variable{a b:Expr}{ta tb:TE}{pos:Pos}
noncomputable def tB(t:TE):TT:=λσ H Q=>t σ H λx H1=>∃c,x=.bl c/\Q c H1
theorem DF{t:TE}(h:PE X e t)(he:autoParam (∀whole,isTrue e X.env whole=(do let v <- whole;standAt e.pos;holding [v] (truthy v))) Au.h5._auto_1):PT X e (tB t):=by intro pins s σ H Q I hw;refine isTrue_plain (thn (h pins s σ H _ I hw) λv s1 zq=>?_) (he _);obtain⟨x,H1,I1,r1,q1⟩:=zq;obtain⟨d,rfl,q⟩:=q1;cases r1;exact Qa ⟨H1,I1,q⟩
variable{tA tB':TT}{rest:List Expr}
noncomputable def nz(t u:TT):TT:=λσ H Q=>t σ H λc H1=>if c=true then u σ H1 Q else Q false H1
noncomputable def tOr(t u:TT):TT:=λσ H Q=>t σ H λc H1=>if c=true then Q true H1 else u σ H1 Q
noncomputable def gI(t:TT):TT:=λσ H Q=>t σ H λc H1=>Q (!c) H1
theorem BC(ha:PT X a tA):PW X (.BoolOp .And [a] pos) tA:=by
 intro wh pins s σ H Q I h;refine isTrue_and (thn (ha pins s σ H Q I h) λc s1 e=>?_);cases c with
 |true=>exact isTrue_and_nil e
 |false=>exact e
theorem DG(ha:PT X a tA):PW X (.BoolOp .Or [a] pos) tA:=by
 intro wh pins s σ H Q I h;refine isTrue_or (thn (ha pins s σ H Q I h) λc s1 e=>?_);cases c with
 |false=>exact isTrue_or_nil e
 |true=>exact e
theorem DH(ha:PT X a tA)(hb:PW X (.BoolOp .And (b::rest) pos) tB'):PW X (.BoolOp .And (a::b::rest) pos) (nz tA tB'):=by
 intro wh pins s σ H Q I h;refine isTrue_and (thn (ha pins s σ H _ I h) λc s1 zq=>?_);obtain⟨H1,I1,q1⟩:=zq;cases c with
 |true=>exact hb wh pins s1 σ H1 Q I1 q1
 |false=>exact⟨H1,I1,q1⟩
theorem FN(ha:PT X a tA)(hb:PW X (.BoolOp .Or (b::rest) pos) tB'):PW X (.BoolOp .Or (a::b::rest) pos) (tOr tA tB'):=by
 intro wh pins s σ H Q I h;refine isTrue_or (thn (ha pins s σ H _ I h) λc s1 zq=>?_);obtain⟨H1,I1,q1⟩:=zq;cases c with
 |true=>exact⟨H1,I1,q1⟩
 |false=>exact hb wh pins s1 σ H1 Q I1 q1
theorem DI(ha:PT X a tA):PT X (.UnaryOp .Not a pos) (gI tA):=by intro pins s σ H Q I h;exact isTrue_not (ha pins s σ H (λc H1=>Q (!c) H1) I h)
noncomputable def FO(ta tb:TE):TE:=λσ H Q=>ta σ H λx H1=>∃c,x=.bl c/\if c=true then tb σ H1 Q else Q (.bl false) H1
noncomputable def FP(ta:TE):TE:=λσ H Q=>ta σ H λx H1=>∃c,x=.bl c/\Q (.bl (!c)) H1
theorem DJ{op}{t:TE}(h:PE X a t):PE X (.BoolOp op [a] pos) t:=λpins s σ H Q I hw=>BoolOp_one (h pins s σ H Q I hw)
theorem DK(ha:PE X a ta)(hb:PE X (.BoolOp .And (b::rest) pos) tb):PE X (.BoolOp .And (a::b::rest) pos) (FO ta tb):=by
 intro pins s σ H Q I h;refine BoolOp_and (thn (ha pins s σ H _ I h) λv s1 zq=>?_);obtain⟨x,H1,I1,r1,q1⟩:=zq;obtain⟨c,rfl,q1⟩:=q1;cases r1;refine Qa ?_;cases c with
 |true=>exact hb pins s1 σ H1 Q I1 q1
 |false=>exact⟨.bl false,H1,I1,rfl,q1⟩
theorem DL(ha:PE X a ta):PE X (.UnaryOp .Not a pos) (FP ta):=by intro pins s σ H Q I h;refine UnaryOp_ (thn (ha pins s σ H _ I h) λv s1 zq=>?_);obtain⟨x,H1,I1,r1,q1⟩:=zq;obtain⟨c,rfl,q1⟩:=q1;cases r1;exact not_of (Qa ⟨.bl (!c),H1,I1,rfl,q1⟩)
noncomputable def tIf(t:TT)(ta tb:TE):TE:=λσ H Q=>t σ H λc H1=>if c=true then ta σ H1 Q else tb σ H1 Q
theorem zm(hc:PT X c tA)(ha:PE X a ta)(hb:PE X b tb):PE X (.IfExp c a b pos) (tIf tA ta tb):=by
 intro pins s σ H Q I h;refine wpAny_IfExp (thn (hc pins s σ H _ I h) λd s1 zq=>?_);obtain⟨H1,I1,q1⟩:=zq;cases d with
 |true=>exact ha pins s1 σ H1 Q I1 q1
 |false=>exact hb pins s1 σ H1 Q I1 q1
end
def SqL(K:PySem.W.Frag)(H:Hp)(a:Addr)(xs:List V):Prop:=
 Rd H a (.lst xs) \/
  ∃(o:Obj)(its:Array Value)(n:Nat),K.lookup a=some o/\o.cls=.type "list"/\o.dict=none/\o.data=.seq its n/\its.size<=sizeLine/\Vals xs its.toList
def SqT(K:PySem.W.Frag)(H:Hp)(a:Addr)(xs:List V):Prop:=
 Rd H a (.tup xs) \/
  ∃(o:Obj)(its:Array Value)(n:Nat),K.lookup a=some o/\o.cls=.type "tuple"/\o.data=.seq its n/\its.size<=sizeLine/\Vals xs its.toList
noncomputable def G4:Value->Option V
 |.none=>some .non
 |.bool b=>some (.bl b)
 |.int i _=>some (.int i)
 |.str x _=>some (.str x)
 |.bytes b _=>some (.byt b)
 |.float b _=>some (.flt b)
 |.ref a=>some (.ref a)
 |.type n=>some (.ty n)
 |_=>none
theorem RelV.abs{x:V}(r:RelV x u):G4 u=some x:=by
 cases x with
 |non=>cases r;rfl
 |bl _=>cases r;rfl
 |int _=>obtain⟨t,rfl⟩:=r;rfl
 |str _=>obtain⟨t,rfl⟩:=r;rfl
 |byt _=>obtain⟨t,rfl⟩:=r;rfl
 |flt _=>obtain⟨t,rfl⟩:=r;rfl
 |ref _=>cases r;rfl
 |ty _=>cases r;rfl
theorem RelV.inj{x y:V}(r:RelV x u)(q:RelV y u):x=y:=Yp (r.abs.symm.trans q.abs)
theorem Vals.inj:∀{xs ys:List V}{us:List Value},Vals xs us->Vals ys us->xs=ys
 |_,_,_,.nil,.nil=>rfl
 |_,_,_,.cons r t,.cons r' t'=>by rw[r.inj r',Vals.inj t t']
section
variable{X:Cx}{pins:List (Addr×Obj)}{σ:St}{H:Hp}{s:Shared}{a:Addr}{xs ys:List V}
theorem SqL.of{K:PySem.W.Frag}(h:H a=some (.lst xs)):SqL K H a xs:=.inl (.inl h)
theorem SqT.of{K:PySem.W.Frag}(h:H a=some (.tup xs)):SqT K H a xs:=.inl (.inl h)
theorem Inv.list(I:Inv X pins σ H s)(h:SqL X.K H a xs):∃its:List Value,Vals xs its/\PlainL s.heap a its.toArray/\xs.length<=sizeLine:=by
 rcases h with h|⟨o,its,n,hk,hc,hd,hs,hz,r⟩
 ·obtain⟨z,its,n,r,e⟩:=h.ok I.hok;exact⟨its,r,⟨_,n,e,rfl,rfl,rfl⟩,z⟩
 ·refine⟨its.toList,r,⟨o,n,I.kIn a o hk,hc,hd,by simpa using hs⟩,?_⟩
  have e:=r.length;simp only[Jy]at e;omega
theorem Inv.tuple(I:Inv X pins σ H s)(h:SqT X.K H a xs):∃its:List Value,Vals xs its/\IsTup s.heap a its.toArray/\xs.length<=sizeLine:=by
 rcases h with h|⟨o,its,n,hk,hc,hs,hz,r⟩
 ·obtain⟨z,its,r,p⟩:=h.ok I.hok;exact⟨its,r,p,z⟩
 ·refine⟨its.toList,r,⟨o,I.kIn a o hk,hc,n,by simpa using hs⟩,?_⟩
  have e:=r.length;simp only[Jy]at e;omega
theorem Inv.list_inj(I:Inv X pins σ H s)(h:SqL X.K H a xs)(h':SqL X.K H a ys):xs=ys:=by
 obtain⟨its,r,⟨o,n,e,_,_,d⟩,_⟩:=I.list h;obtain⟨its',r',⟨o',n',e',_,_,d'⟩,_⟩:=I.list h';rw[e]at e';cases e';rw[d]at d';injection d' with d1 _
 have:its=its':=by simpa using Zv Array.toList d1
 subst this;exact r.inj r'
theorem Inv.tuple_inj(I:Inv X pins σ H s)(h:SqT X.K H a xs)(h':SqT X.K H a ys):xs=ys:=by
 obtain⟨its,r,⟨o,e,_,n,d⟩,_⟩:=I.tuple h;obtain⟨its',r',⟨o',e',_,n',d'⟩,_⟩:=I.tuple h';rw[e]at e';cases e';rw[d]at d';injection d' with d1 _
 have:its=its':=by simpa using Zv Array.toList d1
 subst this;exact r.inj r'
end
noncomputable abbrev Cx.wish(X:Cx)(E:Value->Shared->Prop):Cx:={ X with xe:=E }
noncomputable abbrev Cx.nox(X:Cx):Cx:=X.wish λ_ _=>False
theorem Cx.Ok.wish(ok:X.Ok)(E:Value->Shared->Prop):(X.wish E).Ok:=
 ⟨ok.mod,ok.kind,ok.glob,ok.blt,ok.above,ok.inj,ok.has,ok.cab,ok.hd,ok.frames,ok.stk,ok.exf,ok.bs,ok.bsz,ok.noex,ok.exfs,ok.funs,ok.frf⟩
theorem Cx.Ok.unwish{E:Value->Shared->Prop}(ok:(X.wish E).Ok):X.Ok:=
 ⟨ok.mod,ok.kind,ok.glob,ok.blt,ok.above,ok.inj,ok.has,ok.cab,ok.hd,ok.frames,ok.stk,ok.exf,ok.bs,ok.bsz,ok.noex,ok.exfs,ok.funs,ok.frf⟩
section
variable{X:Cx}{pins:List (Addr×Obj)}{σ:St}{H:Hp}{s:Shared}{E:Value->Shared->Prop}
theorem Inv.wish(I:Inv X pins σ H s)(E:Value->Shared->Prop):Inv (X.wish E) pins σ H s:=⟨I.ok.wish E,I.os,I.bare,I.base,I.loc,I.cell,I.free,I.freeC,I.pin,I.hok,I.len⟩
theorem Inv.unwish(I:Inv (X.wish E) pins σ H s):Inv X pins σ H s:=⟨I.ok.unwish,I.os,I.bare,I.base,I.loc,I.cell,I.free,I.freeC,I.pin,I.hok,I.len⟩
theorem SP.unwish{D:Ends}{f:Flow}{s':Shared}(h:SP (X.wish E) pins D f s'):SP X pins D f s':=by
 cases f with
 |next=>obtain⟨σ',H',I,q⟩:=h;exact⟨σ',H',I.unwish,q⟩
 |brk=>obtain⟨σ',H',I,q⟩:=h;exact⟨σ',H',I.unwish,q⟩
 |cont=>obtain⟨σ',H',I,q⟩:=h;exact⟨σ',H',I.unwish,q⟩
 |ret u=>obtain⟨v,σ',H',I,r,q⟩:=h;exact⟨v,σ',H',I.unwish,r,q⟩
theorem PSs.nox{st:List Stmt}{t:TS}(h:PSs X.nox st t):PSs X st t:=λpins s σ H D I hw=>
 Zk (h pins s σ H D (I.wish _) hw) (λ_ _ q=>q.unwish) λ_ _ z=>False.elim z
end
section
variable{X:Cx}{st:Stmt}{rest:List Stmt}{t u:TS}{e:Expr}{te:TE}{pos:Pos}
noncomputable def FQ:TS:=λD σ H=>D.nx σ H
noncomputable def G5(t u:TS):TS:=λD σ H=>t { D with nx:=u D } σ H
theorem BD:PSs X [] FQ:=λ_ _ σ H _ I h=>Vm ⟨σ,H,I,h⟩
theorem zo(h1:PS X st t)(h2:PSs X rest u):PSs X (st::rest) (G5 t u):=by
 intro pins s σ H D I h
 refine wpAny_execs_cons (thn (h1 pins s σ H { D with nx:=u D } I h) λf s1 q=>?_)
 cases f with
 |next=>
  obtain⟨σ',H',I',q⟩:=q;exact h2 pins s1 σ' H' D I' q
 |ret v=>exact q
 |brk=>exact q
 |cont=>exact q
theorem BE(h1:PS X st t):PSs X [st] t:=by
 intro pins s σ H D I h;refine wpAny_execs_cons (thn (h1 pins s σ H D I h) λf s1 q=>?_);cases f with
 |next=>exact Vm q
 |ret v=>exact q
 |brk=>exact q
 |cont=>exact q
theorem Inv.quiet(I:Inv X pins σ H s):interactive X.env=false:=by simp[interactive,I.ok.kind]
noncomputable def FR(te:TE):TS:=λD σ H=>te σ H λ_ H1=>D.nx σ H1
theorem BF(he:PE X e te)(hs:autoParam (swapsWith e none pos.line X.env=pure false) Au.h1._auto_1):PS X (.Expr e pos) (FR te):=by intro pins s σ H D I h;exact wpAny_Expr_any (thn (he pins s σ H _ I h) λv s1 zq=>ex5 zq λx H1 I1 r1 q1=>⟨σ,H1,I1,q1⟩) I.quiet hs
noncomputable def G6(te:TE):TS:=λD σ H=>te σ H D.rt
theorem DM(he:PE X e te):PS X (.Return (some e) pos) (G6 te):=by intro pins s σ H D I h;exact wpAny_Return_some (thn (he pins s σ H _ I h) λv s1 zq=>ex5 zq λx H1 I1 r1 q1=>⟨x,σ,H1,I1,r1,q1⟩)
noncomputable def G7(c:TT)(t u:TS):TS:=λD σ H=>c σ H λb H1=>if b=true then t D σ H1 else u D σ H1
theorem FU{a b:List Stmt}{tc:TT}(hc:PT X c tc)(ha:PSs X a t)(hb:PSs X b u):PS X (.If c a b pos) (G7 tc t u):=by
 intro pins s σ H D I h;refine wpAny_If (thn (hc pins s σ H _ I h) λd s1 zq=>?_);obtain⟨H1,I1,q1⟩:=zq;cases d with
 |true=>exact ha pins s1 σ H1 D I1 q1
 |false=>exact hb pins s1 σ H1 D I1 q1
noncomputable def DN:TS:=λ_ _ _=>False
theorem zp:PS X st DN:=λ_ _ _ _ _ _ h=>h.elim
end
noncomputable abbrev TG:=V->St->Hp->(St->Hp->Prop)->Prop
noncomputable abbrev TGs:=List V->St->Hp->(St->Hp->Prop)->Prop
def PG(X:Cx)(target:Expr)(t:TG):Prop:=
 ∀(pins:List (Addr×Obj))(s:Shared)(σ:St)(H:Hp)(v:V)(u:Value)(Q:St->Hp->Prop),Inv X pins σ H s->RelV v u->t v σ H Q->
  wpAny (model X.prog X.w) X.A (assign target X.env u) (λ_ s'=>∃σ' H',Inv X pins σ' H' s'/\Q σ' H') X.xe s
def PGs(X:Cx)(ts:List Expr)(t:TGs):Prop:=
 ∀(pins:List (Addr×Obj))(s:Shared)(σ:St)(H:Hp)(vs:List V)(us:List Value)(Q:St->Hp->Prop),Inv X pins σ H s->Vals vs us->t vs σ H Q->
  wpAny (model X.prog X.w) X.A (assignInOrder ((assignEach ts X.env).map (·.2)) us) (λ_ s'=>∃σ' H',Inv X pins σ' H' s'/\Q σ' H') X.xe s
noncomputable abbrev BG:=V->V->V->Hp->(Hp->Prop)->Prop
def qH(X:Cx)(t:BG):Prop:=
 ∀(pins:List (Addr×Obj))(s:Shared)(σ:St)(H:Hp)(o i v:V)(ov iv u:Value)(Q:Hp->Prop),Inv X pins σ H s->RelV o ov->RelV i iv->RelV v u->t o i v H Q->
  wpAny (model X.prog X.w) X.A (setItem ov iv u) (λ_ s'=>∃H',Inv X pins σ H' s'/\Q H') X.xe s
section
variable{X:Cx}{pos:Pos}
noncomputable def zr(i:Nat):TG:=λv σ H Q=>Q (σ.set i (some v)) H
theorem BH(hN:X.N.Nodup)(hi:X.N[i]?=some x)(hx:Loc X.env.scope x)(hf:X.fn x=true\/X.env.scope.names.lookup x=some .local):PG X (.Name x pos) (zr i):=by intro pins s σ H v u Q I r h;exact wpAny_assign_Name (j6 I hN hi hx r (λs' I'=>⟨_,H,I',h⟩) hf)
noncomputable def G8:TGs:=λvs σ H Q=>vs=[]/\Q σ H
noncomputable def FW(t:TG)(u:TGs):TGs:=λvs σ H Q=>∃v r,vs=v::r/\t v σ H λσ' H'=>u r σ' H' Q
theorem BI:PGs X [] G8:=by intro pins s σ H vs us Q I r h;obtain⟨e,h⟩:=h;subst e;cases r;exact assignInOrder_nil ⟨σ,H,I,h⟩
theorem zt{es:List Expr}{t:TG}{u:TGs}(h1:PG X e t)(h2:PGs X es u)
  (hs:autoParam ((assignEach (e::es) X.env).map (·.2)=assign e X.env::(assignEach es X.env).map (·.2)) Au.h1._auto_1):PGs X (e::es) (FW t u):=by
 intro pins s σ H vs us Q I r h;obtain⟨v,vr,e1,h⟩:=h;subst e1;cases r with
 |cons r rr=>
  rw[hs];refine assignInOrder_cons (thn (h1 pins s σ H _ _ _ I r h) λ_ s1 zq=>?_);obtain⟨σ1,H1,I1,q1⟩:=zq;exact h2 pins s1 σ1 H1 _ _ Q I1 rr q1
noncomputable def G9(K:PySem.W.Frag)(n:Nat)(t:TGs):TG:=λv σ H Q=>∃a xs,v=.ref a/\SqT K H a xs/\xs.length=n/\t xs σ H Q
theorem DO{es:List Expr}{k:Nat}{t:TGs}{n:Nat}(hc:X.calm=true)(h:PGs X es t)
  (hn:autoParam ((assignEach es X.env).length=n) Au.h1._auto_1) (hst:autoParam ((assignEach es X.env).findIdx? (·.1)=none) Au.h1._auto_1):PG X (.Tuple es k pos) (G9 X.K n t):=by
 intro pins s σ H v u Q I r hw;obtain⟨a,xs,e1,hq,hl,hw⟩:=hw;subst e1;cases r;obtain⟨its,rv,ht,hz⟩:=I.tuple hq
 refine assign_Tuple_tuple (I.ok.hd hc) ht (by simp[hn,<- hl,rv.length]) hst λh' hx=>?_
 have I1:Inv X pins σ H { s with heap:=h' }:=I.kept (t':=s.toks) λb o e=>hx b o (Jq (Jh e)) e
 exact h pins _ σ H xs _ Q I1 (by simpa using rv) hw
noncomputable def Ha(to ti:TE)(t:BG):TG:=λv σ H Q=>to σ H λo H1=>ti σ H1 λi H2=>t o i v H2 λH3=>Q σ H3
theorem DP{o i:Expr}{to ti:TE}{t:BG}(ho:PE X o to)(hi:PE X i ti)(hs:qH X t)
  (ha:autoParam (∀v,assign (.Subscript o i pos) X.env v=(do
   let ov <- holding [v] (eval o X.env)
   let iv <- holding [v,ov] (eval i X.env)
   standAt pos
   holding [v,ov,iv] (setItem ov iv v)
   release [v,ov,iv] [])) Au.h5._auto_1):PG X (.Subscript o i pos) (Ha to ti t):=by
 intro pins s σ H v u Q I r h;rw[ha];refine J6 (Yw (thn (ho pins s σ H _ I h) λov s1 zq=>?_));obtain⟨x,H1,I1,r1,q1⟩:=zq;refine J6 (Yw (thn (hi pins s1 σ H1 _ I1 q1) λiv s2 zq=>?_));obtain⟨y,H2,I2,r2,q2⟩:=zq;refine J6 (U8 (J6 (Yw (thn (hs pins s2 σ H2 x y v ov iv u _ I2 r1 r2 r q2) λ_ s3 zq=>?_))));obtain⟨H3,I3,q3⟩:=zq;exact wpAny_release ⟨σ,H3,I3,q3⟩
noncomputable def DQ(te:TE)(g:TG):TS:=λD σ H=>te σ H λx H1=>g x σ H1 D.nx
theorem zu{te:TE}{g:TG}(he:PE X e te)(hg:PG X tg g)(hs:autoParam (swapsWithSole [tg] e pos.line X.env=pure false) Au.h1._auto_1)(hw:autoParam (swappedStores [tg] e X.env=pure none) Au.h1._auto_1)
  (h1:autoParam ((assignEach [tg] X.env).map (·.2)=[assign tg X.env]) Au.h1._auto_1):PS X (.Assign [tg] e pos) (DQ te g):=by
 intro pins s σ H D I h;refine wpAny_Assign_stores (thn (he pins s σ H _ I h) λv s1 zq=>?_) hs hw;obtain⟨x,H1,I1,r1,q1⟩:=zq;rw[h1];exact thn (hg pins s1 σ H1 x v _ I1 r1 q1) λ_ s2 q=>q
theorem DR{te:TE}{pos':Pos}(hN:X.N.Nodup)(hi:X.N[i]?=some x)(hx:Loc X.env.scope x)(he:PE X e te)(hs:autoParam (swapsWith e (some (.Name x pos')) pos.line X.env=pure false) Au.h1._auto_1)(hf:X.fn x=true\/X.env.scope.names.lookup x=some .local):
  PS X (.Assign [.Name x pos'] e pos) (DQ te (zr i)):=by
 intro pins s σ H D I h;refine wpAny_Assign_Name (thn (he pins s σ H _ I h) λv s1 zq=>?_) hs;obtain⟨y,H1,I1,r1,q1⟩:=zq;exact j6 I1 hN hi hx r1 (λs2 I2=>⟨_,H1,I2,q1⟩) hf
noncomputable def Hb(i j:Nat)(ta:TA):TS:=λD σ H=>ta σ H λvs H1=>∃v w,vs=[v,w]/\D.nx ((σ.set i (some v)).set j (some w)) H1
theorem DS{y:Str}{a b:Expr}{ta:TA}{px py pt:Pos}{kt k2 pt2}(hc:X.calm=true)(hN:X.N.Nodup)(hi:X.N[i]?=some x)(hj:X.N[j]?=some y)(hij:i≠j)
  (hx:X.env.scope.names.lookup x=some .local) (hy:X.env.scope.names.lookup y=some .local) (ha:PA X [a,b] ta)
  (hw:swappedStores [.Tuple [.Name x px,.Name y py] kt pt] (.Tuple [a,b] k2 pt2) X.env=pure (some [x,y]))
  (hs:autoParam (swapsWithSole [.Tuple [.Name x px,.Name y py] kt pt] (.Tuple [a,b] k2 pt2) pos.line X.env=pure false) Au.h1._auto_1):
  PS X (.Assign [.Tuple [.Name x px,.Name y py] kt pt] (.Tuple [a,b] k2 pt2) pos) (Hb i j ta):=by
 intro pins s σ H D I h;rw[exec_Assign_arm];refine J6 (U8 ?_);rw[hs];refine J6 (Jc ?_)
 rw[Jb (by decide)]
 refine J6 (Tuple_ (thn (ha _ pins s σ H _ I h) λus s1 zq=>?_));obtain⟨vs,H1,I1,r1,q1⟩:=zq;obtain⟨v,w,e1,q1⟩:=q1;subst e1
 obtain⟨u1,u2,rfl,rv,rw'⟩:∃u1 u2,us=[u1,u2]/\RelV v u1/\RelV w u2:=by
  cases r1 with
  |cons p q=>
   cases q with
   |cons p' q'=>
    cases q';exact⟨_,_,rfl,p,p'⟩
 refine Yb ?_ (by show 2<=sizeLine;decide)
 have I2:Inv X pins σ H1 { s1 with heap:=s1.heap.push { cls:=.type "tuple",data:=.seq [u1,u2].toArray } }:=I1.kept (t':=s1.toks) λb o e=>J7 _ e
 rw[hw];refine J6 (Jc ?_)
 show wpAny (model X.prog X.w) X.A (do rule "assign.swapped-stores";let items <- unpackItems (.ref s1.heap.objs.size) 2 none;assignInOrder [λv=>bindName X.env y v,λv=>bindName X.env x v] items.reverse;pure Flow.next) _ _ _
 refine J6 (Yv (J6 (unpackItems_tuple (items:=#[u1,u2]) (I.ok.hd hc) (IsTup.new s1.heap _) λh' hx'=>?_)));have I3:=I2.kept (h':=h') (t':=s1.toks) λb o e=>hx' b o (Jq (Jh e)) e;show wpAny _ _ (assignInOrder [λv=>bindName X.env y v,λv=>bindName X.env x v] [u2,u1] >>= λ_=>pure Flow.next) _ _ _;refine J6 (assignInOrder_cons (wpAny_bindName (j6 I3 hN hj (.inl hy) rw' (λs2 I4=>?_) (.inr hy))));refine assignInOrder_cons (wpAny_bindName (j6 I4 hN hi (.inl hx) rv (λs3 I5=>assignInOrder_nil (Jc ?_)) (.inr hx)));rw[List.set_comm _ _ (Ne.symm hij)]at I5;exact⟨_,H1,I5,q1⟩
end
section
variable{X:Cx}{pos:Pos}
noncomputable def DT(c:TT)(tb:TS):TS:=λD σ H=>∃W:Nat->St->Hp->Prop,(∃m,W m σ H)/\∀m σ H,W m σ H->
 c σ H λb H1=>if b=true then ∃N:St->Hp->Prop,(∀σ' H',N σ' H'->∃m',m'<m/\W m' σ' H')/\tb { D with nx:=N,ct:=N,bk:=D.nx } σ H1 else D.nx σ H1
theorem zv{body:List Stmt}{tc:TT}{tb:TS}(hp:PassesOwn (model X.prog X.w) X.A X.env X.xe)(hc:PT X c tc)(hb:PSs X body tb):PS X (.While c body [] pos) (DT tc tb):=by
 intro pins s σ H D I h;obtain⟨W,⟨m0,w0⟩,turn⟩:=h;refine wpAny_While (codeAny_whileLoop (λn s'=>∃σ' H',Inv X pins σ' H' s'/\W n σ' H') ?_ m0 ⟨σ,H,I,w0⟩);rintro n s1 ⟨σ1,H1,I1,w1⟩;refine Qj hp (thn (hc pins s1 σ1 H1 _ I1 (turn n σ1 H1 w1)) λb s2 zq=>?_);obtain⟨H2,I2,q2⟩:=zq;cases b with
 |true=>
  obtain⟨N,hN,q2⟩:=q2;rw[J8 rfl];refine Qj hp (thn (hb pins s2 σ1 H2 _ I2 q2) λf s3 q3=>?_);cases f with
  |next=>
   obtain⟨σ3,H3,I3,n3⟩:=q3;obtain⟨m',hm,w3⟩:=hN σ3 H3 n3;exact⟨m',hm,σ3,H3,I3,w3⟩
  |cont=>
   obtain⟨σ3,H3,I3,n3⟩:=q3;obtain⟨m',hm,w3⟩:=hN σ3 H3 n3;exact⟨m',hm,σ3,H3,I3,w3⟩
  |brk=>exact q3
  |ret v=>exact q3
 |false=>
  rw[Jb Jk];exact Vm ⟨σ1,H2,I2,q2⟩
end
set_option genInjectivity false in
structure It where
 go:Nat->Hp->Prop
 yld:Nat->Hp->V->Hp->Prop
 stop:Nat->Hp->Prop
def FpOk(X:Cx)(pins:List (Addr×Obj))(H:Hp)(b:Addr):Prop:=
 H b=none/\b≠X.env.locals/\b∉X.fs/\(b∈X.ex\/X.s₀.heap.objs.size<=b)/\(∀x c,X.env.cells.lookup x=some c->c≠b)/\∀p∈X.pn++pins,p.1≠b
theorem Inv.fpOk{H':Hp}(I:Inv X pins σ H s)(hb:s.heap.objs.size<=b)(hn:H' b=none):FpOk X pins H' b:=by
 refine⟨hn,Q7 (Jt I.lt hb),I.nofs hb,.inr (Y2 I.sz hb),λx c e z=>?_,λp hp z=>?_⟩
 ·obtain⟨v,q⟩:=I.cell x c e
  exact absurd (Jt q.lt (by rw[z];exact hb)) (Qb _)
 ·exact absurd (Jt (Jh (I.pin p hp).1) (by rw[z];exact hb)) (Qb _)
def QtH(X:Cx):Prop:=X.A.handled=none \/ ∃a o u,X.A.handled=some (.ref a)/\X.H₀ a=some (.frz o u)/\ZO o
def Cd(qb:Bool)(X:Cx):Prop:=X.calm=true\/(qb=true/\QtH X)
theorem Cd.cm(h:Cd false X):X.calm=true:=h.elim id λz=>nomatch z.1
theorem Inv.qt{σ:List (Option V)}(I:Inv X pins σ H s)(h:Cd qb X):X.A.handled=none \/ ∃a,X.A.handled=some (.ref a)/\s.heap.Zat a:=by
 rcases h with h|⟨_,h|⟨a,o,u,e,q,z⟩⟩
 ·exact .inl (I.ok.hd h)
 ·exact .inl h
 ·exact .inr ⟨a,e,o,(I.hok a _ (I.base.frzs a o u q)).1,z⟩
structure Turn(qb:Bool)(P:Program)(w:World)(K:PySem.W.Frag)(tg:Expr)(J:It)(fp:List Addr)(it:Addr)(tn:Nat->Heap->Prop):Prop where
 mem:it∈fp
 obj:∀i h,tn i h->∀b∈fp,∃o,h.get? b=some o/\∀v,o.data≠.cell v
 keep:∀i h h',tn i h->(∀b∈fp,∀o,h.get? b=some o->h'.get? b=some o)->tn i h'
 item:∀(X:Cx),X.prog=P->X.w=w->X.K=K->Cd qb X->∀(i:Nat)(pins:List (Addr×Obj))(s:Shared)(σ:St)(H:Hp)(E:Value->Shared->Prop),Inv X pins σ H s->(∀b∈fp,FpOk X pins H b)->tn i s.heap->J.go i H->
  wpAny (model P w) X.A (pyNext (.ref it)) (λr s1=>∃u,r=some u/\
   wpAny (model P w) X.A (letOwnedTupleGo tg (.ref it) u) (λ_ s2=>∃x H',Inv X pins σ H' s2/\RelV x u/\J.yld i H x H'/\tn (i+1) s2.heap/\∀b∈fp,H' b=none) E s1) E s
 done:∀(X:Cx),X.prog=P->X.w=w->X.K=K->Cd qb X->∀(i:Nat)(pins:List (Addr×Obj))(s:Shared)(σ:St)(H:Hp)(E:Value->Shared->Prop),Inv X pins σ H s->(∀b∈fp,FpOk X pins H b)->tn i s.heap->J.stop i H->
  wpAny (model P w) X.A (pyNext (.ref it)) (λr s1=>r=none/\Inv X pins σ H s1) E s
 self:∀(A:Around)(i:Nat)(s:Shared)(Q:Value->Shared->Prop)(E:Value->Shared->Prop),tn i s.heap->Q (.ref it) s->wpAny (model P w) A (pyIter (.ref it)) Q E s
noncomputable abbrev TI:=St->Hp->(It->Hp->Prop)->Prop
def DU(qb:Bool)(X:Cx)(pins:List (Addr×Obj))(σ:St)(tg:Expr)(R:It->Hp->Prop)(itv:Value)(s2:Shared):Prop:=
 ∃(it:Addr)(fp:List Addr)(tn:Nat->Heap->Prop)(J:It)(H':Hp),itv=.ref it/\Inv X pins σ H' s2/\Turn qb X.prog X.w X.K tg J fp it tn/\tn 0 s2.heap/\(∀b∈fp,FpOk X pins H' b)/\R J H'
def PIb(qb:Bool)(X:Cx)(tg iter:Expr)(wi:TI):Prop:=
 ∀(pins:List (Addr×Obj))(s:Shared)(σ:St)(H:Hp)(R:It->Hp->Prop),Inv X pins σ H s->wi σ H R->
  wpAny (model X.prog X.w) X.A (eval iter X.env) (λv s1=>wpAny (model X.prog X.w) X.A (pyIter v) (DU qb X pins σ tg R) X.xe s1) X.xe s
noncomputable abbrev PIE:=DU false
noncomputable abbrev PI:=PIb false
theorem zw{M:Model}{A:Around}{E:Value->Shared->Prop}{tg:Expr}{it:Addr}{u:Value}{o:Obj}{n:String}{vs:Array Value}{Q:Unit->Shared->Prop}(ho:s.heap.get? it=some o)(hc:o.cls=.type n)(hd:o.data=.fields vs)
    (hn:["enumerate","zip","dict_itemiterator","dict_reverseitemiterator","odict_iterator","itertools.zip_longest","itertools.pairwise"].contains n=false) (hQ:Q () s):wpAny M A (letOwnedTupleGo tg (.ref it) u) Q E s:=by
  unfold letOwnedTupleGo
  cases tg<;>first
    |exact Jc hQ
    | (cases u<;>first
        |exact Jc hQ
        | (refine J6 (wpAny_load ho ?_)
           rw[hc,hd]
           show wpAny M A (if (["enumerate","zip","dict_itemiterator","dict_reverseitemiterator","odict_iterator","itertools.zip_longest","itertools.pairwise"].contains n&&vs[0]? == some (rawInt _))=true then _ else _) Q E s
           rw[Jb (by intro h;rw[hn,Bool.false_and]at h;cases h)]
           exact Jc hQ))
noncomputable def Itl(K:PySem.W.Frag)(a:Addr):It:=
 ⟨λi H=>∃xs x,SqL K H a xs/\xs[i]?=some x,λi H x H'=>H'=H/\∀xs,SqL K H a xs->xs[i]?=some x,λi H=>∃xs,SqL K H a xs/\xs.length<=i⟩
noncomputable def Itt(K:PySem.W.Frag)(a:Addr):It:=
 ⟨λi H=>∃xs x,SqT K H a xs/\xs[i]?=some x,λi H x H'=>H'=H/\∀xs,SqT K H a xs->xs[i]?=some x,λi H=>∃xs,SqT K H a xs/\xs.length<=i⟩
noncomputable def Itr(lo:Int)(n:Nat):It:=⟨λi _=>i<n,λi H x H'=>H'=H/\x=.int (lo+i),λi _=>n<=i⟩
theorem pe{K:PySem.W.Frag}(a it:Addr):Turn false P w K tg (Itl K a) [it] it (λi h=>h.IsListIter it a i) where
 mem:=by simp
 obj:=λi h st b hb=>by
  have e:b=it:=by simpa using hb
  subst e;obtain⟨o,e,c,d⟩:=st
  exact⟨o,e,λv z=>by rw[d]at z;cases z⟩
 keep:=λi h h' st k=>st.at λo e=>k it (by simp) o e
 item:=by
  intro X hP hw hK hc i pins s σ H E I hf st hg;subst hP hw hK;obtain⟨xs,x,hq,hx⟩:=hg;obtain⟨its,rv,p,hz⟩:=I.list hq;obtain⟨u,hu,ru⟩:=rv.get hx
  obtain⟨f0,f1,f2,f3,f4,f5⟩:=hf it (by simp)
  refine wpAny_pyNext_list_item st p.isList (x:=u) (by simpa using hu) λh' st' sb=>?_
  have I1:Inv X pins σ H { s with heap:=h' }:=I.turned (t':=s.toks) (λb o hb e=>(sb.2 b hb).trans e) f0 f1 f3 f4 f5
  obtain⟨o,e,c,d⟩:=id st'
  exact⟨u,rfl,zw (s:={ s with heap:=h' }) e c d (by decide) ⟨x,H,I1,ru,⟨rfl,λys hy=>by rw[I.list_inj hy hq];exact hx⟩,st',λb hb=>(hf b hb).1⟩⟩
 done:=by
  intro X hP hw hK hc i pins s σ H E I hf st hg;subst hP hw hK;obtain⟨xs,hq,hx⟩:=hg;obtain⟨its,rv,p,hz⟩:=I.list hq
  obtain⟨f0,f1,f2,f3,f4,f5⟩:=hf it (by simp)
  have hl:=rv.length
  exact wpAny_pyNext_list_end (I.ok.hd hc.cm) st p.isList (by simp;omega) λh' eb=>⟨rfl,I.turned (t':=s.toks) (λb o hb e=>eb b o hb e) f0 f1 f3 f4 f5⟩
 self:=λ_ _ _ _ _ st h=>wpAny_pyIter_listiter st h
theorem u7{K:PySem.W.Frag}(a it:Addr):Turn false P w K tg (Itt K a) [it] it (λi h=>h.IsTupleIter it a i) where
 mem:=by simp
 obj:=λi h st b hb=>by
  have e:b=it:=by simpa using hb
  subst e;obtain⟨o,e,c,d⟩:=st
  exact⟨o,e,λv z=>by rw[d]at z;cases z⟩
 keep:=λi h h' st k=>st.at λo e=>k it (by simp) o e
 item:=by
  intro X hP hw hK hc i pins s σ H E I hf st hg;subst hP hw hK;obtain⟨xs,x,hq,hx⟩:=hg;obtain⟨its,rv,p,hz⟩:=I.tuple hq;obtain⟨u,hu,ru⟩:=rv.get hx
  obtain⟨f0,f1,f2,f3,f4,f5⟩:=hf it (by simp)
  refine wpAny_pyNext_tuple_item st (show s.heap.IsTuple a its.toArray from p) (x:=u) (by simpa using hu) λh' st' sb=>?_
  have I1:Inv X pins σ H { s with heap:=h' }:=I.turned (t':=s.toks) (λb o hb e=>(sb.2 b hb).trans e) f0 f1 f3 f4 f5
  obtain⟨o,e,c,d⟩:=id st'
  exact⟨u,rfl,zw (s:={ s with heap:=h' }) e c d (by decide) ⟨x,H,I1,ru,⟨rfl,λys hy=>by rw[I.tuple_inj hy hq];exact hx⟩,st',λb hb=>(hf b hb).1⟩⟩
 done:=by
  intro X hP hw hK hc i pins s σ H E I hf st hg;subst hP hw hK;obtain⟨xs,hq,hx⟩:=hg;obtain⟨its,rv,p,hz⟩:=I.tuple hq
  obtain⟨f0,f1,f2,f3,f4,f5⟩:=hf it (by simp)
  have hl:=rv.length
  exact wpAny_pyNext_tuple_end (I.ok.hd hc.cm) st (show s.heap.IsTuple a its.toArray from p) (by simp;omega) λh' eb=>⟨rfl,I.turned (t':=s.toks) (λb o hb e=>eb b o hb e) f0 f1 f3 f4 f5⟩
 self:=λ_ _ _ _ _ st h=>wpAny_pyIter_tupleiter st h
theorem u9{K:PySem.W.Frag}(it:Addr)(lo:Int)(n:Nat):Turn qb P w K tg (Itr lo n) [it] it (λi h=>IsRangeIter h it (lo+(i:Nat)*1) ((n:Int)-(i:Nat)) 1) where
 mem:=by simp
 obj:=λi h st b hb=>by
  have e:b=it:=by simpa using hb
  subst e
  exact⟨_,st,λv z=>by
   have z':Data.fields _=Data.cell v:=z
   cases z'⟩
 keep:=λi h h' st k=>k it (by simp) _ st
 item:=by
  intro X hP hw hK hc i pins s σ H E I hf st hg;subst hP hw hK
  obtain⟨f0,f1,f2,f3,f4,f5⟩:=hf it (by simp)
  have hg':(i:Nat)<n:=hg
  refine wpAny_pyNext_range_item st (by omega) λh' st' kk=>?_
  have I1:Inv X pins σ H { s with heap:=h',toks:=s.toks+1 }:=I.turned (λb o hb e=>(kk.2 b hb).trans e) f0 f1 f3 f4 f5
  have st2:IsRangeIter h' it (lo+((i+1:Nat):Int)*1) ((n:Int)-((i+1:Nat):Int)) 1:=by
   have e1:lo+((i+1:Nat):Int)*1=lo+(i:Nat)*1+1:=by omega
   have e2:(n:Int)-((i+1:Nat):Int)=(n:Int)-(i:Nat)-1:=by omega
   rw[e1,e2];exact st'
  refine⟨_,rfl,zw (s:={ s with heap:=h',toks:=s.toks+1 }) (n:="range_iterator") st2 rfl rfl (by decide) ⟨.int (lo+i),H,I1,⟨s.toks,?_⟩,⟨rfl,rfl⟩,st2,λb hb=>(hf b hb).1⟩⟩
  rw[Int.mul_one]
 done:=by
  intro X hP hw hK hc i pins s σ H E I hf st hg;subst hP hw hK
  obtain⟨f0,f1,f2,f3,f4,f5⟩:=hf it (by simp)
  have hg':n<=i:=hg;rcases I.qt hc with hh|⟨ha,hh,z⟩
  ·exact wpAny_pyNext_range_end hh st (by omega) λh' eb=>⟨rfl,I.turned (t':=s.toks) (λb o hb e=>eb b o hb e) f0 f1 f3 f4 f5⟩
  ·exact yh hh z st (by omega) λh' eb=>⟨rfl,I.turned (t':=s.toks) (λb o hb e=>eb b o hb e) f0 f1 f3 f4 f5⟩
 self:=λ_ _ _ _ _ st h=>wpAny_pyIter_rangeiter st h
section
variable{X:Cx}{tg:Expr}
noncomputable def FX(K:PySem.W.Frag)(tl:TE):TI:=λσ H R=>tl σ H λx H1=>∃a,x=.ref a/\(∃xs,SqL K H1 a xs)/\R (Itl K a) H1
noncomputable def Hc(K:PySem.W.Frag)(tl:TE):TI:=λσ H R=>tl σ H λx H1=>∃a,x=.ref a/\(∃xs,SqT K H1 a xs)/\R (Itt K a) H1
theorem BJ{l:Expr}{tl:TE}(hl:PE X l tl):PI X tg l (FX X.K tl):=by
 intro pins s σ H R I h;refine thn (hl pins s σ H _ I h) λv s1 zq=>?_;obtain⟨x,H1,I1,r1,q1⟩:=zq;obtain⟨a,e,⟨xs,hq⟩,q⟩:=q1;subst e;cases r1;obtain⟨its,rv,p,hz⟩:=I1.list hq;refine Zj p.isList ?_;refine⟨s1.heap.objs.size,[s1.heap.objs.size],_,_,H1,rfl,I1.kept (t':=s1.toks) λb o e=>J7 _ e,pe a _,⟨_,Ji _ rfl,rfl,rfl⟩,λb hb=>?_,q⟩
 have e:b=s1.heap.objs.size:=by simpa using hb
 subst e;exact I1.fpOk (J9 _) (I1.hok.fresh (J9 _))
theorem DV{l:Expr}{tl:TE}(hl:PE X l tl):PI X tg l (Hc X.K tl):=by
 intro pins s σ H R I h;refine thn (hl pins s σ H _ I h) λv s1 zq=>?_;obtain⟨x,H1,I1,r1,q1⟩:=zq;obtain⟨a,e,⟨xs,hq⟩,q⟩:=q1;subst e;cases r1;obtain⟨its,rv,p,hz⟩:=I1.tuple hq
 refine W5 (show s1.heap.IsTuple a its.toArray from p) ?_
 refine⟨s1.heap.objs.size,[s1.heap.objs.size],_,_,H1,rfl,I1.kept (t':=s1.toks) λb o e=>J7 _ e,u7 a _,⟨_,Ji _ rfl,rfl,rfl⟩,λb hb=>?_,q⟩
 have e:b=s1.heap.objs.size:=by simpa using hb
 subst e;exact I1.fpOk (J9 _) (I1.hok.fresh (J9 _))
theorem sO{qb:Bool}{R:It->Hp->Prop}{E:Value->Shared->Prop}{lo hi:Int}{t u v:Tok}{tk:Nat}(I:Inv X pins σ H s)(h1:-(2^62)<=lo)(h2:lo<2^62)(h3:-(2^62)<=hi)(h4:hi<2^62)
  (q:R (Itr lo (hi-lo).toNat) H):wpAny (model X.prog X.w) X.A (pyIter (.ref s.heap.objs.size)) (DU qb X pins σ tg R) E { s with heap:=s.heap.push { cls:=.type "range",data:=.fields #[.int lo t,.int hi u,.int 1 v] },toks:=tk }:=by
 refine wpAny_pyIter_range (IsRange.new ..) (small_one h1 h2 h3 h4) ?_
 have I1:Inv X pins σ H { s with heap:=s.heap.push { cls:=.type "range",data:=.fields #[.int lo t,.int hi u,.int 1 v] },toks:=tk }:=I.kept λb o e=>J7 _ e
 refine⟨(s.heap.push { cls:=.type "range",data:=.fields #[.int lo t,.int hi u,.int 1 v] }).objs.size,[(s.heap.push { cls:=.type "range",data:=.fields #[.int lo t,.int hi u,.int 1 v] }).objs.size],_,_,H,rfl,
  I1.kept (t':=tk) λb o e=>J7 _ e,u9 _ lo (hi-lo).toNat,?_,λb hb=>?_,q⟩
 ·have e1:lo+((0:Nat):Int)*1=lo:=by simp
  have e2:(((hi-lo).toNat:Nat):Int)-((0:Nat):Int)=Builtin.Range.rangeSize lo hi 1:=by rw[rangeSize_one];split<;>omega
  show IsRangeIter _ _ (lo+((0:Nat):Int)*1) ((((hi-lo).toNat:Nat):Int)-((0:Nat):Int)) 1;rw[e1,e2];exact Ji _ rfl
 ·have e:b=(s.heap.push { cls:=.type "range",data:=.fields #[.int lo t,.int hi u,.int 1 v] }).objs.size:=by simpa using hb
  subst e;exact I1.fpOk (J9 _) (I1.hok.fresh (J9 _))
noncomputable def FY(ta:TA):TI:=λσ H R=>ta σ H λvs H1=>∃j:Int,vs=[.int j]/\-(2^62)<=j/\j<2^62/\R (Itr 0 j.toNat) H1
noncomputable def FZ(ta:TA):TI:=λσ H R=>ta σ H λvs H1=>∃i j:Int,vs=[.int i,.int j]/\(-(2^62)<=i/\i<2^62/\-(2^62)<=j/\j<2^62)/\R (Itr i (j-i).toNat) H1
theorem yl{a:Expr}{ta:TA}{p:Pos}(hg:Gl X "range")(hm:X.mg "range" = none)(ha:PA X [a] ta)(hs:autoParam (starEach [a] X.env=[(false,eval a X.env)]) Au.h1._auto_1):PIb qb X tg (.Call (.Name "range" p) [a] [] pos) (FY ta):=by
 intro pins s σ H R I h;refine Call_ (ig I hg hm boot_range (Zz (thn (ha pos pins s σ H _ I h) λus s1 zq=>?_) hs rfl));obtain⟨vs,H1,I1,r1,q1⟩:=zq;obtain⟨j,e,q1,q2,q⟩:=q1;subst e;cases r1 with
 |cons r rr=>
  cases rr;obtain⟨t,rfl⟩:=r
  exact call_range_1 (sO I1 (by omega) (by omega) q1 q2 (by simpa using q))
theorem ym{a b:Expr}{ta:TA}{p pos:Pos}(hg:Gl X "range")(hm:X.mg "range" = none)(ha:PA X [a,b] ta)(hs:autoParam (starEach [a,b] X.env=[(false,eval a X.env),(false,eval b X.env)]) Au.h1._auto_1)(hs2:autoParam (starEach [b] X.env=[(false,eval b X.env)]) Au.h1._auto_1):
  PI X tg (.Call (.Name "range" p) [a,b] [] pos) (FZ ta):=by
 intro pins s σ H R I h
 refine Call_ (ig I hg hm boot_range (Zz (thn (ha pos pins s σ H _ I h) λus s1 zq=>?_) (by rw[hs,hs2]) (by rw[hs2];rfl)))
 obtain⟨vs,H1,I1,r1,q1⟩:=zq;obtain⟨i,j,e,⟨q1,q2,q3,q4⟩,q⟩:=q1;subst e;cases r1 with
 |cons r rr=>
  cases rr with
  |cons r' rr=>
   cases rr;obtain⟨t,rfl⟩:=r;obtain⟨t',rfl⟩:=r';exact call_range_2 (sO I1 q1 q2 q3 q4 q)
noncomputable def Hd(wi:TI)(g:TG)(tb:TS):TS:=λD σ H=>wi σ H λJ H1=>∃W:Nat->Nat->St->Hp->Prop,(∃m,W 0 m σ H1)/\∀i m σ H,W i m σ H->
 (J.stop i H/\D.nx σ H)\/(J.go i H/\∃N:St->Hp->Prop,(∀σ' H',N σ' H'->∃m',m'<m/\W (i+1) m' σ' H')/\∀x H',J.yld i H x H'->g x σ H' λσ2 H2=>tb { D with nx:=N,ct:=N,bk:=D.nx } σ2 H2)
noncomputable def kZ(fp:List Addr)(h:Heap):List (Addr×Obj):=fp.filterMap λb=>(h.get? b).map λo=>(b,o)
theorem eT{o:Obj}(hb:b∈fp)(e:h.get? b=some o):(b,o)∈kZ fp h:=List.mem_filterMap.mpr ⟨b,hb,by rw[e];rfl⟩
theorem yn{p:Addr×Obj}(hp:p∈kZ fp h):p.1∈fp/\h.get? p.1=some p.2:=by
 obtain⟨b,hb,e⟩:=List.mem_filterMap.mp hp;cases q:h.get? b with
 |none=>rw[q]at e;cases e
 |some o=>
  rw[q]at e;have e':(b,o)=p:=Yp e;subst e';exact⟨hb,q⟩
theorem Inv.pinned(I:Inv X pins σ H s)(hf:∀b∈fp,FpOk X pins H b)(ho:∀b∈fp,∃o,s.heap.get? b=some o/\∀v,o.data≠.cell v):Inv X (pins++kZ fp s.heap) σ H s:=
 I.pins_of λp hp=>(Jr.mp hp).elim (λz=>I.pin p (Y5 _ z)) λz=>by obtain⟨hb,e⟩:=yn z;obtain⟨f0,f1,f2,_⟩:=hf p.1 hb;obtain⟨o,e',d⟩:=ho p.1 hb;rw[e]at e';cases e';exact⟨e,f0,f1,f2,d⟩
theorem Inv.unpinned{pl:List (Addr×Obj)}(I:Inv X (pins++pl) σ H s):Inv X pins σ H s:=I.pins_of λp hp=>I.pin p (Y5 _ (Qq _ hp))
theorem DW{iter:Expr}{body:List Stmt}{wi:TI}{g:TG}{tb:TS}{pos:Pos}(hp:PassesOwn (model X.prog X.w) X.A X.env X.xe)(hc:X.calm=true)(hi:PI X tg iter wi)(hg:PG X tg g)(hb:PSs X body tb)
  (hs:autoParam (∀x,foldedSetIterable iter X.env x=pure x) Au.h5._auto_1):PS X (.For tg iter body [] pos) (Hd wi g tb):=by
 intro pins s σ H D I h;refine wpAny_For (thn (hi pins s σ H _ I h) λv s1 h1=>thn h1 λitv s2 h2=>?_) hs;obtain⟨it,fp,tn,J,H2,e,I2,T,st2,f2,W,⟨m0,w0⟩,turn⟩:=h2;subst e
 -- what stays true of the iterator's objects through the loop
 have stat:∀{H':Hp},(∀b∈fp,H' b=none)->∀b∈fp,FpOk X pins H' b:=λhn b hb=>⟨hn b hb,(f2 b hb).2⟩;refine codeAny_forLoop_any (λn s'=>∃i σ' H',Inv X pins σ' H' s'/\tn i s'.heap/\(∀b∈fp,H' b=none)/\W i n σ' H') ?_ m0 ⟨0,σ,H2,I2,st2,λb hb=>(f2 b hb).1,w0⟩;rintro n s3 ⟨i,σ3,H3,I3,st3,fr3,w3⟩;rcases turn i n σ3 H3 w3 with⟨stop,qn⟩|⟨go,N,hN,step⟩
 ·refine Qj hp (thn (T.done X rfl rfl rfl (.inl hc) i pins s3 σ3 H3 X.xe I3 (stat fr3) st3 stop) λr s4 zq=>?_);obtain⟨hr,I4⟩:=zq;subst hr;exact Vm ⟨σ3,H3,I4,qn⟩
 ·refine Qj hp (thn (T.item X rfl rfl rfl (.inl hc) i pins s3 σ3 H3 X.xe I3 (stat fr3) st3 go) λr s4 zq=>?_);obtain⟨u,hr,h4⟩:=zq;subst hr;refine Qj hp (thn h4 λ_ s5 zq=>?_);obtain⟨x,H5,I5,r5,y5,st5,fr5⟩:=zq;have I5':=I5.pinned (stat fr5) (T.obj _ _ st5);refine Qj hp (thn (hg _ s5 σ3 H5 x u _ I5' r5 (step x H5 y5)) λ_ s6 zq=>?_);obtain⟨σ6,H6,I6,q6⟩:=zq;refine Qj hp (thn (hb _ s6 σ6 H6 _ I6 q6) λf s7 q7=>?_)
  have again:∀{σ7:St}{H7:Hp},Inv X (pins++kZ fp s5.heap) σ7 H7 s7->N σ7 H7->∃m,m<n/\∃i σ' H',Inv X pins σ' H' s7/\tn i s7.heap/\(∀b∈fp,H' b=none)/\W i m σ' H':=λ{σ7 H7} I7 n7=>by obtain⟨m',hm,w7⟩:=hN σ7 H7 n7;refine⟨m',hm,i+1,σ7,H7,I7.unpinned,T.keep _ _ _ st5 λb hb o e=>(I7.pin (b,o) (Y5 _ (Y5 _ (eT hb e)))).1,λb hb=>?_,w7⟩;obtain⟨o,e,d⟩:=T.obj _ _ st5 b hb;exact(I7.pin (b,o) (Y5 _ (Y5 _ (eT hb e)))).2.1
  cases f with
  |next=>obtain⟨σ7,H7,I7,n7⟩:=q7;exact again I7 n7
  |cont=>obtain⟨σ7,H7,I7,n7⟩:=q7;exact again I7 n7
  |brk=>obtain⟨σ7,H7,I7,q7⟩:=q7;exact⟨σ7,H7,I7.unpinned,q7⟩
  |ret v=>obtain⟨x7,σ7,H7,I7,r7,q7⟩:=q7;exact⟨x7,σ7,H7,I7.unpinned,r7,q7⟩
end
noncomputable abbrev R2:=V->V->Hp->VK->Prop
variable{r:R2}
def OpR(X:Cx)(f:Value->Value->Sem Value)(r:R2):Prop:=
 ∀(pins:List (Addr×Obj))(s:Shared)(σ:St)(H:Hp)(x y:V)(v u:Value)(Q:VK),Inv X pins σ H s->RelV x v->RelV y u->r x y H Q->
  wpAny (model X.prog X.w) X.A (f v u) (EP X pins σ Q) X.xe s
def UnR(X:Cx)(f:Value->Sem Value)(r:V->Hp->VK->Prop):Prop:=
 ∀(pins:List (Addr×Obj))(s:Shared)(σ:St)(H:Hp)(x:V)(v:Value)(Q:VK),Inv X pins σ H s->RelV x v->r x H Q->
  wpAny (model X.prog X.w) X.A (f v) (EP X pins σ Q) X.xe s
def bF(X:Cx)(f:Value)(r:List V->Hp->VK->Prop):Prop:=
 ∀(pins:List (Addr×Obj))(s:Shared)(σ:St)(H:Hp)(xs:List V)(us:List Value)(Q:VK),Inv X pins σ H s->Vals xs us->r xs H Q->
  wpAny (model X.prog X.w) X.A (call f us) (EP X pins σ Q) X.xe s
noncomputable def tOp(r:R2)(ta tb:TE):TE:=λσ H Q=>ta σ H λx H1=>tb σ H1 λy H2=>r x y H2 Q
noncomputable def tUn(r:V->Hp->VK->Prop)(ta:TE):TE:=λσ H Q=>ta σ H λx H1=>r x H1 Q
noncomputable def rI(C:Int->Int->Prop)(g:Int->Int->V):R2:=λx y H Q=>∃i j,x=.int i/\y=.int j/\C i j/\Q (g i j) H
noncomputable def rI0(g:Int->Int->V):R2:=λx y H Q=>∃i j,x=.int i/\y=.int j/\Q (g i j) H
noncomputable def rU(g:Int->V):V->Hp->VK->Prop:=λx H Q=>∃i,x=.int i/\Q (g i) H
section
variable{X:Cx}{a b c:Expr}{ta tb tc:TE}{pos:Pos}
theorem DX(ha:PE X a ta)(hb:PE X b tb){R:V->V->Hp->Prop}(I:Inv X pins σ H s)
  (h:ta σ H λx H1=>tb σ H1 λy H2=>R x y H2) {Q:Value->Shared->Prop} {f:Value->Value->Sem Value}
  (hf:∀v u s2 x y H2,Inv X pins σ H2 s2->RelV x v->RelV y u->R x y H2->wpAny (model X.prog X.w) X.A (f v u) Q X.xe s2):
  wpAny (model X.prog X.w) X.A (eval a X.env) (λv s₁=>wpAny (model X.prog X.w) X.A (eval b X.env) (λu s₂=>wpAny (model X.prog X.w) X.A (f v u) Q X.xe s₂) X.xe s₁) X.xe s:=by
 refine thn (ha pins s σ H _ I h) λv s1 zq=>?_;obtain⟨x,H1,I1,r1,q1⟩:=zq;refine thn (hb pins s1 σ H1 _ I1 q1) λu s2 zq=>?_;obtain⟨y,H2,I2,r2,q2⟩:=zq;exact hf v u s2 x y H2 I2 r1 r2 q2
theorem Ga{op:Operator}(ho:OpR X (binaryOp op) r)(ha:PE X a ta)(hb:PE X b tb):PE X (.BinOp a op b pos) (tOp r ta tb):=by intro pins s σ H Q I h;exact wpAny_BinOp (DX ha hb I h λv u s2 x y H2 I2 rx ry q=>ho pins s2 σ H2 x y v u Q I2 rx ry q)
theorem Gb{op:UnaryOp}{r:V->Hp->VK->Prop}(ho:UnR X (unaryOp op) r)(ha:PE X a ta):PE X (.UnaryOp op a pos) (tUn r ta):=by intro pins s σ H Q I h;exact UnaryOp_ (thn (ha pins s σ H _ I h) λv s1 zq=>ex5 zq λx H1 I1 r1 q1=>ho pins s1 σ H1 x v Q I1 r1 q1)
theorem opI{f:Value->Value->Sem Value}{C:Int->Int->Prop}{g:Int->Int->Int}
  (rule:∀(i j:Int)(t u:Tok)(s:Shared)(Q:Value->Shared->Prop)(E:Value->Shared->Prop),C i j->Q (.int (g i j) s.toks) { s with toks:=s.toks+1 }->wpAny (model X.prog X.w) X.A (f (.int i t) (.int j u)) Q E s):
  OpR X f (rI C λi j=>.int (g i j)):=by
 intro pins s σ H x y v u Q I rx ry h;obtain⟨i,j,rfl,rfl,hc,q⟩:=h;obtain⟨t,rfl⟩:=rx;obtain⟨t',rfl⟩:=ry;exact rule i j t t' s _ _ hc ⟨.int (g i j),H,I.tok _,⟨_,rfl⟩,q⟩
theorem Gd{f:Value->Value->Sem Value}{g:Int->Int->Int}
  (rule:∀(i j:Int)(t u:Tok)(s:Shared)(Q:Value->Shared->Prop)(E:Value->Shared->Prop),Q (.int (g i j) s.toks) { s with toks:=s.toks+1 }->wpAny (model X.prog X.w) X.A (f (.int i t) (.int j u)) Q E s):
  OpR X f (rI0 λi j=>.int (g i j)):=by
 intro pins s σ H x y v u Q I rx ry h;obtain⟨i,j,rfl,rfl,q⟩:=h;obtain⟨t,rfl⟩:=rx;obtain⟨t',rfl⟩:=ry;exact rule i j t t' s _ _ ⟨.int (g i j),H,I.tok _,⟨_,rfl⟩,q⟩
theorem BK{f:Value->Value->Sem Value}{g:Int->Int->Bool}
  (rule:∀(i j:Int)(t u:Tok)(s:Shared)(Q:Value->Shared->Prop)(E:Value->Shared->Prop),Q (.bool (g i j)) s->wpAny (model X.prog X.w) X.A (f (.int i t) (.int j u)) Q E s):
  OpR X f (rI0 λi j=>.bl (g i j)):=by
 intro pins s σ H x y v u Q I rx ry h;obtain⟨i,j,rfl,rfl,q⟩:=h;obtain⟨t,rfl⟩:=rx;obtain⟨t',rfl⟩:=ry;exact rule i j t t' s _ _ ⟨.bl (g i j),H,I,rfl,q⟩
def Ge(i j:Int):Prop:=0<j/\j<1073741824
def Gf(i j:Int):Prop:=0<=j/\j<=1000000/\i.natAbs<2^64
def DY(i j:Int):Prop:=(-(2^64)<i/\i<2^64)\/(-(2^64)<j/\j<2^64)
theorem DY.ok{i j:Int}(h:DY i j):IntMulOk i j:=by
 rcases h with⟨h1,h2⟩|⟨h1,h2⟩
 ·exact .of_left (intBits_le_64 h1 h2)
 ·exact .of_right (intBits_le_64 h1 h2)
theorem DZ:OpR X (binaryOp .Add) (rI0 λi j=>.int (i+j)):=Gd λ_ _ _ _ _ _ _ q=>add_int q
theorem D0:OpR X (binaryOp .Sub) (rI0 λi j=>.int (i-j)):=Gd λ_ _ _ _ _ _ _ q=>sub_int q
theorem D1:OpR X (binaryOp .Mult) (rI DY λi j=>.int (i*j)):=opI λ_ _ _ _ _ _ _ hc q=>mul_int q hc.ok
theorem BL:OpR X (binaryOp .FloorDiv) (rI Ge λi j=>.int (i/j)):=opI λi j _ _ _ _ _ hc q=>by
 have h1:(0:Int)<j:=hc.1;have h2:j<1073741824:=hc.2
 exact floordiv_int (by omega) (by rw[U9 i (by omega)];exact q) (.inl (PyProof.noPylong_small (by omega)))
theorem D2:OpR X (binaryOp .Mod) (rI (λ_ j=>0<j) λi j=>.int (i%j)):=opI λi j _ _ _ _ _ hc q=>by
 have h1:(0:Int)<j:=hc
 exact mod_int' (by omega) (by rw[Ua i (by omega)];exact q)
theorem D3:OpR X (binaryOp .Pow) (rI Gf λi j=>.int (i^j.toNat)):=opI λ_ _ _ _ _ _ _ hc q=>pow_int_small hc.1 hc.2.1 hc.2.2 q
theorem D4:OpR X (binaryOp .LShift) (rI Gf λi j=>.int (i*2^j.toNat)):=opI λ_ _ _ _ _ _ _ hc q=>lshift_int_small hc.1 hc.2.1 hc.2.2 q
theorem unI{f:Value->Sem Value}{g:Int->Int}
  (rule:∀(i:Int)(t:Tok)(s:Shared)(Q:Value->Shared->Prop)(E:Value->Shared->Prop),Q (.int (g i) s.toks) { s with toks:=s.toks+1 }->wpAny (model X.prog X.w) X.A (f (.int i t)) Q E s):
  UnR X f (rU λi=>.int (g i)):=by
 intro pins s σ H x v Q I rx h;obtain⟨i,rfl,q⟩:=h;obtain⟨t,rfl⟩:=rx;exact rule i t s _ _ ⟨.int (g i),H,I.tok _,⟨_,rfl⟩,q⟩
theorem D5:UnR X (unaryOp .USub) (rU λi=>.int (-i)):=unI λ_ _ _ _ _ q=>neg_int q
end
noncomputable def D6:V->V->Bool
 |.non,.non=>true | .non,.int _=>true | .int _,.non=>true | .non,.bl _=>true | .bl _,.non=>true | .non,.str _=>true | .str _,.non=>true
 |.int _,.int _=>true | .bl _,.bl _=>true | .str _,.str _=>true | .byt _,.byt _=>true
 |.int _,.str _=>true | .str _,.int _=>true | .bl _,.str _=>true | .str _,.bl _=>true
 |_,_=>false
noncomputable def rEq:R2:=λx y H Q=>D6 x y=true/\Q (.bl (decide (x=y))) H
noncomputable def rNe:R2:=λx y H Q=>D6 x y=true/\Q (.bl (!decide (x=y))) H
theorem wH{i j:Int}:decide (V.int i=V.int j)=(i == j):=by rw[Q8];simp
theorem zx{i j:Bool}:decide (V.bl i=V.bl j)=(i == j):=by rw[Q8];simp
theorem wI{i j:Str}:decide (V.str i=V.str j)=(i == j):=by rw[Q8];simp
theorem wJ{i j:Array UInt8}:decide (V.byt i=V.byt j)=(i.toList == j.toList):=by rw[Q8];cases i;cases j;simp
section
variable{X:Cx}{a b c:Expr}{ta tb tc:TE}{pos:Pos}
theorem bA{Q:VK}{k k':Bool}(I:Inv X pins σ H s)(q:Q (.bl k) H)(e:k=k'):EP X pins σ Q (.bool k') s:=by subst e;exact⟨.bl k,H,I,rfl,q⟩
theorem Gg:OpR X (compareOp .Eq) rEq:=by
 intro pins s σ H x y v u Q I rx ry h;obtain⟨hs,q⟩:=h;cases x with
 |non=>
  cases rx;cases y with
  |non=>cases ry;exact PySem.EqNone.eq_none_none (bA I q (by simp))
  |bl j=>cases ry;exact PySem.EqNone.eq_none_bool (bA I q (by simp))
  |int j=>obtain⟨t',rfl⟩:=ry;exact PySem.EqNone.eq_none_int (bA I q (by simp))
  |str j=>obtain⟨t',rfl⟩:=ry;exact PySem.EqNone.eq_none_str (bA I q (by simp))
  |_=>exact absurd (show false=true from hs) Jk
 |bl i=>
  cases rx;cases y with
  |non=>cases ry;exact PySem.EqNone.eq_bool_none (bA I q (by simp))
  |bl j=>cases ry;exact eq_bool (bA I q zx)
  |str j=>obtain⟨t',rfl⟩:=ry;exact PySem.EqMixed.eq_bool_str (bA I q (by simp))
  |_=>exact absurd (show false=true from hs) Jk
 |int i=>
  obtain⟨t,rfl⟩:=rx;cases y with
  |non=>cases ry;exact PySem.EqNone.eq_int_none (bA I q (by simp))
  |int j=>obtain⟨t',rfl⟩:=ry;exact eq_int (bA I q wH)
  |str j=>obtain⟨t',rfl⟩:=ry;exact PySem.EqMixed.eq_int_str (bA I q (by simp))
  |_=>exact absurd (show false=true from hs) Jk
 |str i=>
  obtain⟨t,rfl⟩:=rx;cases y with
  |non=>cases ry;exact PySem.EqNone.eq_str_none (bA I q (by simp))
  |bl j=>cases ry;exact PySem.EqMixed.eq_str_bool (bA I q (by simp))
  |int j=>obtain⟨t',rfl⟩:=ry;exact PySem.EqMixed.eq_str_int (bA I q (by simp))
  |str j=>obtain⟨t',rfl⟩:=ry;exact eq_str (bA I q wI)
  |_=>exact absurd (show false=true from hs) Jk
 |byt i=>
  obtain⟨t,rfl⟩:=rx;cases y with
  |byt j=>obtain⟨t',rfl⟩:=ry;exact PySem.W.eq_bytes (bA I q wJ)
  |_=>exact absurd (show false=true from hs) Jk
 |_=>cases y<;>exact absurd (show false=true from hs) Jk
theorem Gh:OpR X (compareOp .NotEq) rNe:=by
 intro pins s σ H x y v u Q I rx ry h;obtain⟨hs,q⟩:=h;cases x with
 |non=>
  cases rx;cases y with
  |non=>cases ry;exact PySem.EqNone.ne_none_none (bA I q (by simp))
  |bl j=>cases ry;exact PySem.EqNone.ne_none_bool (bA I q (by simp))
  |int j=>obtain⟨t',rfl⟩:=ry;exact PySem.EqNone.ne_none_int (bA I q (by simp))
  |str j=>obtain⟨t',rfl⟩:=ry;exact PySem.EqNone.ne_none_str (bA I q (by simp))
  |_=>exact absurd (show false=true from hs) Jk
 |bl i=>
  cases rx;cases y with
  |non=>cases ry;exact PySem.EqNone.ne_bool_none (bA I q (by simp))
  |bl j=>cases ry;exact ne_bool (bA I q (Zv not zx))
  |str j=>obtain⟨t',rfl⟩:=ry;exact PySem.EqMixed.ne_bool_str (bA I q (by simp))
  |_=>exact absurd (show false=true from hs) Jk
 |int i=>
  obtain⟨t,rfl⟩:=rx;cases y with
  |non=>cases ry;exact PySem.EqNone.ne_int_none (bA I q (by simp))
  |int j=>obtain⟨t',rfl⟩:=ry;exact ne_int (bA I q (Zv not wH))
  |str j=>obtain⟨t',rfl⟩:=ry;exact PySem.EqMixed.ne_int_str (bA I q (by simp))
  |_=>exact absurd (show false=true from hs) Jk
 |str i=>
  obtain⟨t,rfl⟩:=rx;cases y with
  |non=>cases ry;exact PySem.EqNone.ne_str_none (bA I q (by simp))
  |bl j=>cases ry;exact PySem.EqMixed.ne_str_bool (bA I q (by simp))
  |int j=>obtain⟨t',rfl⟩:=ry;exact PySem.EqMixed.ne_str_int (bA I q (by simp))
  |str j=>obtain⟨t',rfl⟩:=ry;exact ne_str (bA I q (Zv not wI))
  |_=>exact absurd (show false=true from hs) Jk
 |byt i=>
  obtain⟨t,rfl⟩:=rx;cases y with
  |byt j=>obtain⟨t',rfl⟩:=ry;exact PySem.W.ne_bytes (bA I q (Zv not wJ))
  |_=>exact absurd (show false=true from hs) Jk
 |_=>cases y<;>exact absurd (show false=true from hs) Jk
theorem Gi:OpR X (compareOp .Lt) (rI0 λi j=>.bl (decide (i<j))):=BK λ_ _ _ _ _ _ _ q=>lt_int q
theorem Gj:OpR X (compareOp .LtE) (rI0 λi j=>.bl (decide (i<=j))):=BK λ_ _ _ _ _ _ _ q=>le_int q
theorem Gk:OpR X (compareOp .Gt) (rI0 λi j=>.bl (decide (j<i))):=BK λ_ _ _ _ _ _ _ q=>gt_int q
theorem Gm:OpR X (compareOp .GtE) (rI0 λi j=>.bl (decide (j<=i))):=BK λ_ _ _ _ _ _ _ q=>ge_int q
theorem D7(b:Expr)(h:autoParam (op≠.In) Au.h2._auto_1)(h2:autoParam (op≠.NotIn) Au.h2._auto_1):behindInMarks op b=false:=by
 have e1:(op == CmpOp.In)=false:=by cases op<;>first|rfl|exact absurd rfl h
 have e2:(op == CmpOp.NotIn)=false:=by cases op<;>first|rfl|exact absurd rfl h2
 cases b<;>simp[behindInMarks,e1,e2]
theorem BM(ho:OpR X (compareOp op) r)(ha:PE X a ta)(hb:PE X b tb)(hm:behindInMarks op b=false):PE X (.Compare a [op] [b] pos) (tOp r ta tb):=by intro pins s σ H Q I h;exact wpAny_Compare1 (DX ha hb I h λv u s2 x y H2 I2 rx ry q=>ho pins s2 σ H2 x y v u Q I2 rx ry q) hm
noncomputable def Gn(t:TE):TT:=λσ H Q=>t σ H λx H'=>∃k,x=.bl k/\Q k H'
theorem BN(ho:OpR X (compareOp op) r)(ha:PE X a ta)(hb:PE X b tb)(hm:behindInMarks op b=false):PT X (.Compare a [op] [b] pos) (Gn (tOp r ta tb)):=by
 intro pins s σ H Q I h
 refine wpAny_isTrue_Compare1 (thn (ha pins s σ H _ I h) λv s1 zq=>ex5 zq λx H1 I1 r1 q1=>thn (hb pins s1 σ H1 _ I1 q1) λu s2 zq=>ex5 zq λy H2 I2 r2 q2=>
  thn (ho pins s2 σ H2 x y v u _ I2 r1 r2 q2) λc s3 ⟨z,H3,I3,r3,k,e,q3⟩=>?_) hm
 subst e;cases r3;exact Qa ⟨H3,I3,q3⟩
noncomputable def D8(r r':R2)(ta tb tc:TE):TE:=λσ H Q=>ta σ H λx H1=>tb σ H1 λy H2=>r x y H2 λz H3=>∃k,z=.bl k/\
 (if k=true then tc σ H3 λw' H4=>r' y w' H4 Q else Q (.bl false) H3)
theorem zy{op':CmpOp}{r':R2}(ho:OpR X (compareOp op) r)(ho':OpR X (compareOp op') r')(ha:PE X a ta)(hb:PE X b tb)(hc:PE X c tc)
  (hm:lastMarks [op,op'] [b,c]=false:=by with_unfolding_all rfl):PE X (.Compare a [op,op'] [b,c] pos) (D8 r r' ta tb tc):=by
 intro pins s σ H Q I h
 refine Compare_chain (thn (ha pins s σ H _ I h) λv s1 zq=>ex5 zq λx H1 I1 r1 q1=>chain_link (thn (hb pins s1 σ H1 _ I1 q1) λu s2 zq=>ex5 zq λy H2 I2 r2 q2=>
  thn (ho pins s2 σ H2 x y v u _ I2 r1 r2 q2) λd s3 ⟨z,H3,I3,r3,k,e,q3⟩=>?_)) hm
 subst e;cases r3;refine Qa ?_;cases k with
 |false=>exact ite_ff ⟨.bl false,H3,I3,rfl,q3⟩
 |true=>exact ite_tt (chain_last (thn (hc pins s3 σ H3 _ I3 q3) λw' s4 ⟨z',H4,I4,r4,q4⟩=>ho' pins s4 σ H4 y z' u w' Q I4 r2 r4 q4))
theorem lg:(sizeLine:Nat)<2^63:=by rw[Qu];decide
theorem vc:OpR X (binaryOp .Add) (λx y H Q=>∃i j,x=.str i/\y=.str j/\i.length+j.length<=sizeLine/\Q (.str (i++j)) H):=by intro pins s σ H x y v u Q I rx ry h;obtain⟨i,j,rfl,rfl,hz,q⟩:=h;obtain⟨t,rfl⟩:=rx;obtain⟨t',rfl⟩:=ry;exact add_str (λt' tk=>⟨.str (i++j),H,I.tok _,⟨_,rfl⟩,q⟩) hz
theorem Wc{x:V}(r:Vals [x] us):∃u,us=[u]/\RelV x u:=by
 cases r with
 |cons r1 r2=>cases r2;exact⟨_,rfl,r1⟩
theorem vals2{x y:V}(r:Vals [x,y] us):∃u w',us=[u,w']/\RelV x u/\RelV y w':=by
 cases r with
 |cons r1 r2=>
  cases r2 with
  |cons r3 r4=>cases r4;exact⟨_,_,rfl,r1,r3⟩
theorem zz:bF X (.builtin "abs") (λxs H Q=>∃i,xs=[.int i]/\Q (.int (if i<0 then -i else i)) H):=by
 intro pins s σ H xs us Q I r h;obtain⟨i,rfl,q⟩:=h;obtain⟨u,rfl,t,rfl⟩:=Wc r
 exact call_abs_int λu tk=>⟨.int (if i<0 then -i else i),H,I.tok _,⟨_,rfl⟩,q⟩
theorem yo(hc:X.calm=true):bF X (.builtin "max") (λxs H Q=>∃i j,xs=[.int i,.int j]/\Q (.int (if j>i then j else i)) H):=by
 intro pins s σ H xs us Q I r h;obtain⟨i,j,rfl,q⟩:=h;obtain⟨u,w',rfl,⟨t,rfl⟩,⟨t',rfl⟩⟩:=vals2 r;refine max_two_ints (I.ok.hd hc) λh' tk k=>⟨_,H,I.kept k,?_,q⟩;by_cases hj:j>i
 ·rw[J8 hj,J8 hj];exact⟨_,rfl⟩
 ·rw[Jb hj,Jb hj];exact⟨_,rfl⟩
theorem yp(hc:X.calm=true):bF X (.builtin "min") (λxs H Q=>∃i j,xs=[.int i,.int j]/\Q (.int (if j<i then j else i)) H):=by
 intro pins s σ H xs us Q I r h;obtain⟨i,j,rfl,q⟩:=h;obtain⟨u,w',rfl,⟨t,rfl⟩,⟨t',rfl⟩⟩:=vals2 r;refine min_two_ints (I.ok.hd hc) λh' tk k=>⟨_,H,I.kept k,?_,q⟩;by_cases hj:j<i
 ·rw[J8 hj,J8 hj];exact⟨_,rfl⟩
 ·rw[Jb hj,Jb hj];exact⟨_,rfl⟩
theorem pf:bF X (.type "int") (λxs H Q=>(∃i,xs=[.int i]/\Q (.int i) H) \/ ∃k,xs=[.bl k]/\Q (.int (if k then 1 else 0)) H):=by
 intro pins s σ H xs us Q I r h;rcases h with⟨i,rfl,q⟩|⟨k,rfl,q⟩
 ·obtain⟨u,rfl,t,rfl⟩:=Wc r;exact call_int_int ⟨.int i,H,I,⟨_,rfl⟩,q⟩
 ·obtain⟨u,rfl,r1⟩:=Wc r;cases r1
  exact call_int_bool ⟨.int (if k then 1 else 0),H,I.tok _,⟨_,rfl⟩,q⟩
theorem sP:bF X (.builtin "divmod") (λxs H Q=>∃i j,xs=[.int i,.int j]/\Ge i j/\∀p,H p=none->Q (.ref p) (upd H p (.tup [.int (i/j),.int (i%j)]))):=by
 intro pins s σ H xs us Q I r h;obtain⟨i,j,rfl,⟨h1,h2⟩,q⟩:=h;obtain⟨u,w',rfl,⟨t,rfl⟩,⟨t',rfl⟩⟩:=vals2 r
 refine divmod_int (by omega) ?_ (.inl (PyProof.noPylong_small (by omega)))
 rw[U9 i (by omega),Ua i (by omega)]
 have hn:H s.heap.objs.size=none:=I.hok.fresh (J9 _);refine⟨.ref s.heap.objs.size,_,?_,rfl,q _ hn⟩
 refine I.laid (λb o e=>J7 _ e) (J9 _) ⟨by simp only[Jm,Yi];rw[Qu];decide,[.int (i/j) s.toks,.int (i%j) (s.toks+1)],.cons ⟨_,rfl⟩ (.cons ⟨_,rfl⟩ .nil),?_⟩
 exact⟨_,Ji s.heap rfl,rfl,0,rfl⟩
end
structure ObjM(h:Heap)(x dx C:Addr)(mA:Str->Option Value):Prop where
 obj:h.get? x=some (PySem.W.instObj C dx)
 ns:h.Ns1 dx mA
 ne:dx≠x
theorem yq{dx:Addr}{mA:Str->Option Value}(n:h.Ns1 dx mA):∃od,h.get? dx=some od/\∀name,PySem.W.lookIn name od=some (mA name):=by
 obtain⟨o,es,ep,ho,hd,hk,_,hm⟩:=n;refine⟨o,ho,λname=>?_⟩;have e:=hm name;unfold nsFind findBy at e;rw[<- Array.find?_toList]at e;unfold PySem.W.lookIn;rw[hd];dsimp only;split
 ·rename_i y q;rw[q]at e;exact Zv some e
 ·rename_i q;rw[q]at e
  have a:es.toList.any (·.refKey)=false:=by rw[Qn];intro y hy;obtain⟨z,t,hkey⟩:=hk y (Array.mem_toList_iff.mp hy);simp[DictEntry.refKey,hkey]
  have a':¬es.toList.any (·.refKey)=true:=by rw[a];exact Jk
  rw[Jb a'];exact Zv some e
theorem ObjM.look{x dx C:Addr}{mA:Str->Option Value}(I:ObjM h x dx C mA):∃od,PySem.W.InstAt h x (PySem.W.instObj C dx) C (some od)/\∀name,PySem.W.lookIn name od=some (mA name):=
 let ⟨od,ho,hl⟩:=yq I.ns
 ⟨od,⟨I.obj,rfl,rfl,ho⟩,hl⟩
theorem kY.some_of{v:V}{o:Option Value}(r:kY (some v) o):∃u,o=some u/\RelV v u:=by
 cases o with
 |none=>exact(show False from r).elim
 |some u=>exact⟨u,rfl,r⟩
section
variable{P:Program}{w:World}{H H':Hp}{h h':Heap}{a C dx:Addr}{fs fs':List (Str×V)}
theorem BO(hok:HOk P w H h)(e:H a=some (.ins C dx fs)):∃mA,ObjM h a dx C mA/\(∀f,kY (fs.lookup f) (mA f))/\PySem.Within mA (fs.map (·.1))/\fs.length<=1000/\H dx=some (.own a):=by
 obtain⟨d,z,ne,ob,mA,n,r,q⟩:=(show bR P w H h a (.ins C dx fs) from hok a _ e)
 exact⟨mA,⟨ob,n,ne⟩,r,q,z,d⟩
end
structure Cls(K:PySem.W.Frag)(C:Addr):Prop where
 pg:PySem.W.plainGet K C Str.empty=true
 hd:PySem.W.hasDictIn K C=true
 po:PySem.W.plainOver K C=true
 sa:PySem.W.findIn K (.ref C) "__setattr__" = some (some (.builtin "object.__setattr__"))
theorem Cls.get{K:PySem.W.Frag}{C:Addr}(c:Cls K C)(f:Str):PySem.W.plainGet K C f=true:=c.pg
section
variable{X:Cx}{pins:List (Addr×Obj)}{σ:St}{H:Hp}{s:Shared}{A:Around}{E:Value->Shared->Prop}{Q:Value->Shared->Prop}{c:Value}{b:Bool}
inductive TyOf(K:PySem.W.Frag)(H:Hp):V->Value->Prop where
 |non:TyOf K H .non (.type "NoneType")
 |bl (x:Bool):TyOf K H (.bl x) (.type "bool")
 |int (i:Int):TyOf K H (.int i) (.type "int")
 |str (x:Str):TyOf K H (.str x) (.type "str")
 |flt (x:UInt64):TyOf K H (.flt x) (.type "float")
 |lst {a:Addr} {xs:List V} (e:H a=some (.lst xs)):TyOf K H (.ref a) (.type "list")
 |frz {a:Addr} {o:Obj} {xs:List V} (e:H a=some (.frz o (.lst xs))):TyOf K H (.ref a) (.type "list")
 |tup {a:Addr} {xs:List V} (e:H a=some (.tup xs)):TyOf K H (.ref a) (.type "tuple")
 |dK {a:Addr} {kvs:List (Key×V)} (e:H a=some (.dK kvs)):TyOf K H (.ref a) (.type "dict")
 |dT {a:Addr} {kvs:List (List Key×V)} (e:H a=some (.dT kvs)):TyOf K H (.ref a) (.type "dict")
 |ins {a C dx:Addr} {fs:List (Str×V)} (e:H a=some (.ins C dx fs)) (cl:Cls K C) (ha:PySem.W.findIn K (.ref C) "__class__" = some (some (.builtin "object.__class__")))
   (hn:PySem.W.specialIn K (.builtin "object.__class__") "__get__" = some (some (.builtin "getset_descriptor.__get__"))) (htk:PySem.W.takesIn K (.builtin "object.__class__")=some true)
   (hm:PySem.W.mroIn K C (.type "object")=some true):TyOf K H (.ref a) (.ref C)
theorem ph{x:V}{t:Value}(I:Inv X pins σ H s)(rx:RelV x u)(ty:TyOf X.K H x t)(e:PySem.W.kitOne X.K t c=some b)(h:∀tk,Q (.bool b) { s with toks:=tk }):
  wpAny (model X.prog X.w) A (call (.builtin "isinstance") [u,c]) Q E s:=by
 cases ty with
 |non=>cases (show u=Value.none from rx);exact Z2 PySem.W.kitx_none I.kIn True.intro e (λz=>nomatch z) h
 |bl y=>cases (show u=Value.bool y from rx);exact Z2 PySem.W.kitx_bool I.kIn True.intro e (λz=>nomatch z) h
 |int i=>obtain⟨t,q⟩:=(show ∃t,u=Value.int i t from rx);cases q;exact Z2 PySem.W.kitx_int I.kIn True.intro e (λz=>nomatch z) h
 |str y=>obtain⟨t,q⟩:=(show ∃t,u=Value.str y t from rx);cases q;exact Z2 PySem.W.kitx_str I.kIn True.intro e (λz=>nomatch z) h
 |flt y=>obtain⟨t,q⟩:=(show ∃t,u=Value.float y t from rx);cases q;exact Z2 PySem.W.kitx_float I.kIn True.intro e (λz=>nomatch z) h
 | @lst a xs ea=>
  cases (show u=Value.ref a from rx)
  obtain⟨_,_,n,_,h1⟩:=(show bR X.prog X.w H s.heap a (.lst xs) from I.hok a _ ea)
  exact Z2 PySem.W.kitx_list I.kIn ⟨_,h1,rfl⟩ e (λz=>nomatch z) h
 | @frz a ob xs ea=>
  cases (show u=Value.ref a from rx)
  obtain⟨_,_,_,n,_,h1⟩:=(show bR X.prog X.w H s.heap a (.frz ob (.lst xs)) from I.hok a _ ea)
  exact Z2 PySem.W.kitx_list I.kIn ⟨_,h1,rfl⟩ e (λz=>nomatch z) h
 | @tup a xs ea=>
  cases (show u=Value.ref a from rx)
  obtain⟨_,_,_,p⟩:=(show bR X.prog X.w H s.heap a (.tup xs) from I.hok a _ ea)
  obtain⟨o,h1,h2,_⟩:=p
  exact Z2 PySem.W.kitx_tuple I.kIn ⟨o,h1,h2⟩ e (λz=>nomatch z) h
 | @dK a kvs ea=>
  cases (show u=Value.ref a from rx)
  obtain⟨_,_,vs,_,p⟩:=(show bR X.prog X.w H s.heap a (.dK kvs) from I.hok a _ ea)
  obtain⟨o,es,ep,h1,h2,_⟩:=p
  exact Z2 PySem.W.kitx_dict I.kIn ⟨o,h1,h2.1⟩ e (λz=>nomatch z) h
 | @dT a kvs ea=>
  cases (show u=Value.ref a from rx)
  obtain⟨_,_,xs,_,o,es,ep,h1,h2,_⟩:=(show bR X.prog X.w H s.heap a (.dT kvs) from I.hok a _ ea)
  exact Z2 PySem.W.kitx_dict I.kIn ⟨o,h1,h2.1⟩ e (λz=>nomatch z) h
 | @ins a C dx fs ea cl ha hn htk hm=>
  cases (show u=Value.ref a from rx)
  obtain⟨mA,O,_⟩:=BO I.hok ea;obtain⟨od,J,_⟩:=O.look
  exact Z2 (PySem.W.kitx_own (cl.get _) cl.hd ha hn htk hm) I.kIn J e (λz=>nomatch z) h
end
structure Room(k:Nat)(A:Around):Prop where
 hd:A.handled=none
 dp:A.depth+3*k+5<recursionLimit
 un:A.units+16*k+200<cLine
 gd:A.guards=some []
theorem Room.mono{k:Nat}(r:Room k A)(h:j<=k):Room j A:=⟨r.hd,by have:=r.dp;omega,by have:=r.un;omega,r.gd⟩
theorem Room.deeper{k:Nat}(r:Room (k+1) A)(env:Env):Room k (A.deeper env):=
 ⟨r.hd,by have:=r.dp;show A.depth+1+3*k+5<_;omega,by have:=r.un;show A.units+3+16*k+200<_;omega,r.gd⟩
theorem Room.depth{k:Nat}(r:Room k A):A.depth<recursionLimit:=by have:=r.dp;omega
theorem Room.units{k:Nat}(r:Room k A):A.units+64<cLine:=by have:=r.un;omega
noncomputable def He:TA:=λ_ H Q=>Q [] H
noncomputable def Gp(ta:TE)(tr:TA):TA:=λσ H Q=>ta σ H λx H1=>tr σ H1 λxs H2=>Q (x::xs) H2
section
variable{X:Cx}{e:Expr}{es:List Expr}{te:TE}{t:TA}{pos:Pos}
theorem D9:PA X [] He:=λ_ _ _ _ H Q I h=>Calls.spliced_nil ⟨[],H,I,.nil,h⟩
theorem BP(ha:PE X e te)(hr:PA X es t)(hs:autoParam (starEach (e::es) X.env=(false,eval e X.env)::starEach es X.env) Au.h1._auto_1):PA X (e::es) (Gp te t):=by intro pos pins s σ H Q I h;rw[hs];show wpAny _ _ (spliced ((false,eval e X.env)::backTo pos (starEach es X.env))) _ _ s;refine U4 (thn (ha pins s σ H _ I h) λu s1 zq=>?_);obtain⟨x,H1,I1,r1,q1⟩:=zq;exact thn (hr pos pins s1 σ H1 _ I1 q1) λus s2 zq=>ex5 zq λxs H2 I2 r2 q2=>⟨x::xs,H2,I2,.cons r1 r2,q2⟩
noncomputable def Hf(t:TA):TE:=λσ H Q=>t σ H λxs H1=>xs.length<=sizeLine/\∀p,H1 p=none->Q (.ref p) (upd H1 p (.tup xs))
noncomputable def Hg(t:TA):TE:=λσ H Q=>t σ H λxs H1=>xs.length<=sizeLine/\∀p,H1 p=none->Q (.ref p) (upd H1 p (.lst xs))
theorem Ea{x1}(h:PA X es t):PE X (.Tuple es x1 pos) (Hf t):=by
 intro pins s σ H Q I hq
 refine wpAny_Tuple_spliced (thn (h pos pins s σ H _ I hq) λus s1 ⟨xs,H1,I1,r,z,q⟩=>⟨by rw[<- r.length];exact z,?_⟩)
 have hf:H1 s1.heap.objs.size=none:=I1.hok.fresh (J9 _);refine⟨.ref s1.heap.objs.size,upd H1 s1.heap.objs.size (.tup xs),I1.laid (t':=s1.toks) (λb u e=>J7 _ e) (J9 _) ?_,rfl,q _ hf⟩;exact⟨z,us,r,⟨_,Ji _ rfl,rfl,_,rfl⟩⟩
theorem zA(h:PA X es t):PE X (.List es pos) (Hg t):=by
 intro pins s σ H Q I hq
 refine wpAny_List_spliced (thn (h pos pins s σ H _ I hq) λus s1 ⟨xs,H1,I1,r,z,q⟩=>⟨by rw[<- r.length];exact z,?_⟩)
 have hf:H1 s1.heap.objs.size=none:=I1.hok.fresh (J9 _);refine⟨.ref s1.heap.objs.size,upd H1 s1.heap.objs.size (.lst xs),I1.laid (t':=s1.toks) (λb u e=>J7 _ e) (J9 _) ?_,rfl,q _ hf⟩;exact⟨z,us,0,r,Ji _ rfl⟩
end
noncomputable abbrev Sp:=List V->Hp->VK->XK->Prop
noncomputable abbrev CXT:=List Env->Hp->Shared->XK->Value->Shared->Prop
structure Env0(P:Program)(w:World)(K:PySem.W.Frag)(mg:Str->Option Value)(base:Heap)(A:Around)(outer:List Env)(s:Shared)(H:Hp):Prop where
 frames:A.frames=some outer
 mod:Mod K mg base
 bs:∀b o,base.get? b=some o->s.heap.get? b=some o/\H b=none
 bsz:base.objs.size<=s.heap.objs.size
 funs:s.heap.FunFrames base outer
 frf:∀b∈frs outer,H b=none
 hok:HOk P w H s.heap
 bare:AllBare s.gens
def CE(outer:List Env)(P:Program)(w:World)(H:Hp)(s:Shared)(Q:VK)(u:Value)(s':Shared):Prop:=
 ∃v H',s'.os=s.os/\AllBare s'.gens/\Un (frs outer) [] H H' s.heap s'.heap/\HOk P w H' s'.heap/\RelV v u/\Q v H'
def CR(CX:CXT)(outer:List Env)(P:Program)(w:World)(H:Hp)(s:Shared)(Q:VK)(E:XK)(r:Result)(s':Shared):Prop:=
 match r with
 |.ok (.ret u)=>CE outer P w H s Q u s'
 |.ok _=>False
 |.error e=>CX outer H s E e s'
structure FnOk(P:Program)(w:World)(K:PySem.W.Frag)(mg:Str->Option Value)(base:Heap)(CX:CXT)(k:Nat)(f:Addr)(fd:FuncData)(ps:List Str)(sp:Sp):Prop where
 len:∀vs H Q E,sp vs H Q E->vs.length=ps.length
 run:∀(A:Around)(outer:List Env)(s:Shared)(H:Hp)(args:Args)(us:List Value)(vs:List V)(Q:VK)(E:XK),Room k A->Env0 P w K mg base A outer s H->BindsTo s fd args (ps.zip us)->Vals vs us->sp vs H Q E->
  codeAny (model P w) A (.call (.ref f) args) (CR CX outer P w H s Q E) s
section
variable{X:Cx}{pins:List (Addr×Obj)}{σ:St}{H:Hp}{s s':Shared}
theorem Inv.env0(I:Inv X pins σ H s):Env0 X.prog X.w X.K X.mg X.base X.A X.stack s H:=
 ⟨I.ok.frames,I.ok.mod,I.bs,Y2 I.ok.bsz I.sz,I.stack,I.stkFree,I.hok,I.bare⟩
theorem Inv.after{Q:VK}(I:Inv X pins σ H s)(h:CE X.stack X.prog X.w H s Q u s'):EP X pins σ Q u s':=by
 obtain⟨v,H',os,bare,un,hok,r,q⟩:=h;obtain⟨hh,g,d,t,os'⟩:=s';obtain rfl:os'=s.os:=os
 exact⟨v,H',I.call (h':=hh) (g':=g) (d':=d) (t':=t) (ch:=[]) un hok bare (λb z=>absurd z (by simp)),r,q⟩
end
noncomputable def Gq(sp:Sp)(dvs:List V)(E:XK)(t:TA):TE:=λσ H Q=>t σ H λvs H1=>sp (vs++dvs) H1 Q E
def Binds(K:PySem.W.Frag)(fd:FuncData)(ps:List Str)(ds:List Value):Prop:=
 ∀(s:Shared)(us:List Value),K.In s.heap->(us++ds).length=ps.length->BindsTo s fd ⟨us,[]⟩ (ps.zip (us++ds))
theorem Binds.all{K:PySem.W.Frag}{fd:FuncData}{ps:List Str}(h:∀us:List Value,us.length=ps.length->bindArgs fd ⟨us,[]⟩=pure (ps.zip us)):Binds K fd ps []:=λs us _ hl=>by rw[Yr]at hl ⊢;exact .of_eq (h us hl)
def Passes(CX:CXT)(X:Cx)(E:XK):Prop:=∀(pins:List (Addr×Obj))(σ:St)(H:Hp)(s:Shared)(e:Value)(s':Shared),Inv X pins σ H s->CX X.stack H s E e s'->X.xe e s'
section
variable{X:Cx}{CX:CXT}{k:Nat}{f C:Addr}{fd:FuncData}{ps:List Str}{sp:Sp}{dvs:List V}{ds:List Value}{E:XK}{x m:Str}{p pos apos:Pos}{e o:Expr}{es:List Expr}{ta:TE}{t:TA}
theorem Eb{pins:List (Addr×Obj)}{σ:St}{H:Hp}{s:Shared}{Q:VK}{us:List Value}{vs:List V}(F:FnOk X.prog X.w X.K X.mg X.base CX k f fd ps sp)(hr:Room k X.A)(hb:Binds X.K fd ps ds)(hd:Vals dvs ds)(hx:Passes CX X E)
  (I:Inv X pins σ H s) (r:Vals vs us) (h:sp (vs++dvs) H Q E):wpAny (model X.prog X.w) X.A (call (.ref f) us) (EP X pins σ Q) X.xe s:=by
 have r2:Vals (vs++dvs) (us++ds):=r.append hd
 have hl:(us++ds).length=ps.length:=by rw[<- r2.length];exact F.len _ _ _ _ h
 refine wpAny_call (codeAny_mono (F.run X.A X.stack s H ⟨us,[]⟩ (us++ds) (vs++dvs) Q E hr I.env0 (hb s us I.kIn hl) r2 h) λr s' hq=>?_);cases r with
 |error e=>exact hx pins σ H s e s' I hq
 |ok fl=>
  cases fl with
  |ret u=>exact I.after hq
  |next=>exact False.elim hq
  |brk=>exact False.elim hq
  |cont=>exact False.elim hq
theorem BQ(F:FnOk X.prog X.w X.K X.mg X.base CX k f fd ps sp)(hr:Room k X.A)(hg:Gl X x)(hm:X.mg x=some (.ref f))(hk:PySem.W.keepIn X.K (.ref f)=true)(hb:Binds X.K fd ps ds)(hd:Vals dvs ds)(hx:Passes CX X E)
  (ha:PA X (e::es) t) (hdb:autoParam ((x == ("__debug__":Str))=false) Au.h2._auto_1) (he:autoParam (starEach (e::es) X.env=(false,eval e X.env)::starEach es X.env) Au.h1._auto_1) (hpl:autoParam ((backTo pos (starEach es X.env)).any (·.1)=false) Au.h1._auto_1):
  PE X (.Call (.Name x p) (e::es) [] pos) (Gq sp dvs E t):=by
 intro pins s σ H Q I h;refine W6 (wF I hg hm ?_ hdb);refine PySem.W.callWith_K (h₀:=X.base) I.ok.mod.kin hk (thn (ha pos pins s σ H _ I h) λus s1 zq=>ex5 zq λvs H1 I1 r q=>⟨I1.kIn,?_⟩) he hpl;exact Eb F hr hb hd hx I1 r q
end
structure FnScope(N P:List Str)(sc:Scope):Prop where
 kind:sc.kind=.function
 co:sc.isCoroutine=false
 gen:sc.isGenerator=false
 nd:N.Nodup
 pre:N.take P.length=P
 par:∀x∈P,sc.names.lookup x=some .local\/sc.names.lookup x=some .cell
 nofree:∀y∈sc.names,y.2≠.free
theorem pj:∀{binds:List (Str×Value)}{m:Str->Option Value},(∀v,(x,v)∉binds)->bindL kindOf binds m x=m x
 |[],_,_=>rfl
 |(n,v)::r,m,h=>by
  unfold bindL;rw[pj λw hw=>h w (Y3 _ hw)];split
  ·have:x≠n:=by rintro rfl;exact h v Y4
   simp[this]
  ·rfl
theorem pk:∀{binds:List (Str×Value)}{m:Str->Option Value},(∀v,(x,v)∉binds)->bindC kindOf binds m x=m x
 |[],_,_=>rfl
 |(n,v)::r,m,h=>by
  unfold bindC;rw[pk λw hw=>h w (Y3 _ hw)];split
  ·rfl
  ·have:x≠n:=by rintro rfl;exact h v Y4
   simp[this]
theorem pq{v:Value}:∀{P:List Str}{vs:List Value}{i:Nat}{m:Str->Option Value},P.Nodup->P[i]?=some x->vs[i]?=some v->kindOf x=some .local->
  bindL kindOf (P.zip vs) m x=some v
 |[],_,_,_,_,h,_,_=>by simp at h
 |_::_,[],_,_,_,_,h,_=>by simp at h
 |p::P,w::vs,0,m,nd,h1,h2,hk=>by simp at h1 h2;subst h1;subst h2;show bindL kindOf ((p,w)::P.zip vs) m p=_;unfold bindL;rw[pj λv hv=>(Vn.mp nd).1 (Vo hv).1,J8 hk];simp
 |p::P,w::vs,i+1,m,nd,h1,h2,hk=>by
  show bindL kindOf ((p,w)::P.zip vs) m x=_;unfold bindL
  exact pq (i:=i) (Vn.mp nd).2 (by simpa using h1) (by simpa using h2) hk
theorem pz{v:Value}:∀{P:List Str}{vs:List Value}{i:Nat}{m:Str->Option Value},P.Nodup->P[i]?=some x->vs[i]?=some v->kindOf x≠some .local->
  bindC kindOf (P.zip vs) m x=some v
 |[],_,_,_,_,h,_,_=>by simp at h
 |_::_,[],_,_,_,_,h,_=>by simp at h
 |p::P,w::vs,0,m,nd,h1,h2,hk=>by simp at h1 h2;subst h1;subst h2;show bindC kindOf ((p,w)::P.zip vs) m p=_;unfold bindC;rw[pk λv hv=>(Vn.mp nd).1 (Vo hv).1,Jb hk];simp
 |p::P,w::vs,i+1,m,nd,h1,h2,hk=>by
  show bindC kindOf ((p,w)::P.zip vs) m x=_;unfold bindC
  exact pz (i:=i) (Vn.mp nd).2 (by simpa using h1) (by simpa using h2) hk
noncomputable def start(N:List Str)(vs:List V):St:=vs.map some++List.replicate (N.length-vs.length) none
noncomputable def sQ(CX:CXT)(P:Program)(w:World)(K:PySem.W.Frag)(mg:Str->Option Value)(base:Heap)(N:List Str)(qual:Str)(scope:Scope)(f:Addr)(cd:Value)(A:Around)(outer:List Env)(s:Shared)(H:Hp)(E:XK):Cx where
 prog:=P
 w:=w
 K:=K
 mg:=mg
 base:=base
 A:=A.deeper (envOfC qual scope s.heap.objs.size f cd)
 N:=N
 s₀:=s
 H₀:=H
 env:=envOfC qual scope s.heap.objs.size f cd
 outer:=outer
 stack:=envOfC qual scope s.heap.objs.size f cd::outer
 ex:=[]
 calm:=true
 fn:=λ_=>true
 pn:=[]
 xe:=λe s'=>wpAny (model P w) (A.deeper (envOfC qual scope s.heap.objs.size f cd)) (leaving (envOfC qual scope s.heap.objs.size f cd) e) (λ_ s''=>CX outer H s E e s'') (λe' s''=>CX outer H s E e' s'') s'
theorem sR{sc:Scope}{n:Nat}(h:sc.names.lookup x=some .cell):∃c,(cellsFrom n sc.names []).lookup x=some c:=by have q:=PySem.W.cellsFrom_some sc.names n [] (.inl h);exact Option.isSome_iff_exists.mp q
theorem yr{CX:CXT}{P:Program}{w:World}{K:PySem.W.Frag}{mg:Str->Option Value}{base:Heap}{N ps:List Str}{qual:Str}{scope:Scope}{f:Addr}{cd:Value}{A:Around}{outer:List Env}{s s1:Shared}{H:Hp}{E:XK}{us:List Value}{vs:List V}
  (S:FnScope N ps scope) (hd:A.handled=none) (e0:Env0 P w K mg base A outer s H) (hl:vs.length=ps.length) (r:Vals vs us)
  (x:InCallC s s.heap.objs.size (bindL (envOfC qual scope s.heap.objs.size f cd).kindOf (ps.zip us) λ_=>none) (cellsFrom (s.heap.objs.size+1) scope.names []) (bindC (envOfC qual scope s.heap.objs.size f cd).kindOf (ps.zip us) λ_=>none) s1):
  Inv (sQ CX P w K mg base N qual scope f cd A outer s H E) [] (start N vs) H s1:=by
 have hpl:ps.length<=N.length:=by have:=Zv List.length S.pre;rw[Zo]at this;omega
 obtain⟨h1,tk,rfl,hk⟩:=x.done
 have noA:∀b:Addr,b∉(sQ CX P w K mg base N qual scope f cd A outer s H E).ex:=λb z=>absurd (show b∈([]:List Addr) from z) (by simp)
 refine⟨⟨e0.mod,S.kind,rfl,rfl,J9 _,λy z c h1 h2=>?_,λy hy=>?_,λy c _ h=>?_,λ_=>hd,Around.frames_deeper e0.frames,.inr ⟨rfl,rfl⟩,λb z=>absurd z (noA b),e0.bs,e0.bsz,λb _ _=>noA b,λb z=>absurd z (noA b),e0.funs,e0.frf⟩,
  rfl,e0.bare,Un.kept hk,⟨_,x.toInCall.ns,λi y v h1 h2 h3=>?_⟩,λy c h=>⟨_,x.cell y c h⟩,e0.hok.fresh (J9 _),λy c h=>?_,λp hp=>absurd (show p∈([]:List (Addr×Obj)) from hp) (by simp),e0.hok.kept hk,?_⟩
 ·exact name_of_addr x.apart (Qz h1) (Qz h2)
 ·have hy:scope.names.lookup y=some .cell\/scope.names.lookup y=some .free:=hy;rcases hy with hy|hy
  ·exact sR hy
  ·exact absurd rfl (S.nofree _ (Qz hy))
 ·exact Vl (x.above y c (Qz h))
 ·have hi:i<vs.length:=by
   unfold start at h2;by_cases hi:i<vs.length
   ·exact hi
   ·rw[Yg (by simpa using hi)]at h2
    rw[W0]at h2;split at h2<;>cases h2
  have ha:vs[i]?=some v:=by
   unfold start at h2
   rw[Jv (by simpa using hi),Z9]at h2
   cases e:vs[i]? with
   |none=>rw[e]at h2;cases h2
   |some a=>rw[e]at h2;cases h2;rfl
  obtain⟨u,hu,rv⟩:=r.get ha
  have hp:ps[i]?=some y:=by rw[<- S.pre,List.getElem?_take_of_lt (by omega)];exact h1
  have ndP:ps.Nodup:=by rw[<- S.pre];exact S.nd.sublist (List.take_sublist _ _)
  refine⟨u,rv,?_⟩;rcases S.par y (Z3 hp) with k|k
  ·exact .inl ⟨k,pq ndP hp hu k⟩
  ·obtain⟨c,e⟩:=sR (n:=s.heap.objs.size+1) k;refine .inr ⟨.inl k,c,e,?_⟩;have q:=x.cell y c e
   rw[pz ndP hp hu (by show scope.names.lookup y≠_;rw[k];decide)]at q
   exact q
 ·exact e0.hok.fresh (Vl (x.above y c (Qz h)))
 ·unfold start;show _=N.length;rw[Jp,Jg,Wh];omega
theorem Gs{CX:CXT}{P:Program}{w:World}{K:PySem.W.Frag}{mg:Str->Option Value}{base:Heap}{k:Nat}{f:Addr}{name qual:Str}{params:Arguments}{body:List Stmt}{scope:Scope}{dV kV doc pm cdv ct oc:Value}{an od:Option Addr}
  {osl:Array (Option Value)} {N ps:List Str} {sp:Sp} (lk:K.lookup f=some ⟨oc,od,.func (PySem.W.fnOf name qual params body scope dV kV doc pm an cdv ct),osl⟩) (hcd:PySem.W.codeIn K cdv qual=true) (S:FnScope N ps scope)
  (len:∀vs H Q E,sp vs H Q E->vs.length=ps.length)
  (hbody:∀(A:Around)(outer:List Env)(s:Shared)(H:Hp)(vs:List V)(Q:VK)(E:XK),Room k (A.deeper (envOfC qual scope s.heap.objs.size f cdv))->sp vs H Q E->
   ∃t,PSs (sQ CX P w K mg base N qual scope f cdv A outer s H E) body t/\t { nx:=λ_ H'=>Q .non H',rt:=Q } (start N vs) H):
  FnOk P w K mg base CX (k+1) f (PySem.W.fnOf name qual params body scope dV kV doc pm an cdv ct) ps sp:=by
 refine⟨len,λA outer s H args us vs Q E hr e0 hb r hsp=>?_⟩;have hl:=len _ _ _ _ hsp;have KX:K.In s.heap:=e0.mod.kin.keeps λb o e=>(e0.bs b o e).1;have lim:s.heap.NoLimit:=e0.mod.nolimit.keeps λb o e=>(e0.bs b o e).1
 have hkind:∀y∈ps.zip us,scope.names.lookup y.1=some .local\/(scope.names.lookup y.1=some .cell/\((cellsFrom (s.heap.objs.size+1) scope.names []).lookup y.1).isSome=true):=λ⟨n,v⟩ hy=>by
  rcases S.par n (Vo hy).1 with q|q
  ·exact .inl q
  ·exact .inr ⟨q,PySem.W.cellsFrom_some _ _ _ (.inl q)⟩
 refine codeAny_call_function hr.depth (KX _ _ lk) rfl S.co S.gen rfl (PySem.W.codeRec_of KX hcd) (hb _ _ _ _ ?_);refine wpAny_newFunctionEnv_cells S.kind hkind λenv he s1 x=>?_;subst he;refine⟨lim.keeps x.toInCall.keep,codeAny_func ?_⟩;obtain⟨t,ht,hq⟩:=hbody A outer s H vs Q E (hr.deeper _) hsp;have I:Inv (sQ CX P w K mg base N qual scope f cdv A outer s H E) [] (start N vs) H s1:=yr S hr.hd e0 hl r x;refine Zk (ht [] s1 (start N vs) H _ I hq) (λfl s' hs=>?_) λe s' hs=>hs
 have fin:∀{σ':St}{H':Hp}{v:V}{u:Value},Inv (sQ CX P w K mg base N qual scope f cdv A outer s H E) [] σ' H' s'->RelV v u->Q v H'->CE outer P w H s Q u s':=
  λ{σ' H' v u} J rv q=>⟨v,H',J.os,J.bare,J.base,J.hok,rv,q⟩
 cases fl with
 |ret u=>
  obtain⟨v,σ',H',J,rv,q⟩:=hs;exact fin J rv q
 |next=>
  obtain⟨σ',H',J,q⟩:=hs;exact fin (v:=V.non) (u:=Value.none) J rfl q
 |brk=>
  obtain⟨_,_,_,q⟩:=hs;exact False.elim q
 |cont=>
  obtain⟨_,_,_,q⟩:=hs;exact False.elim q
section
variable{X:Cx}{x:Str}{p pos:Pos}{e:Expr}{es:List Expr}{t:TA}{id T:String}{r:List V->Hp->VK->Prop}
noncomputable def tCB(r:List V->Hp->VK->Prop)(t:TA):TE:=λσ H Q=>t σ H λvs H1=>r vs H1 Q
theorem zB(hc:bF X (.builtin id) r)(hg:Gl X x)(hm:X.mg x=none)(hv:bootBuiltins x=some (.builtin id))(ha:PA X (e::es) t)(hn:autoParam (x ≠ "__name__") Au.h2._auto_1)(hdb:autoParam ((x == ("__debug__":Str))=false) Au.h2._auto_1)
  (he:autoParam (starEach (e::es) X.env=(false,eval e X.env)::starEach es X.env) Au.h1._auto_1) (hpl:autoParam ((backTo pos (starEach es X.env)).any (·.1)=false) Au.h1._auto_1):PE X (.Call (.Name x p) (e::es) [] pos) (tCB r t):=by
 intro pins s σ H Q I h;refine W6 (ig I hg hm hv ?_ hn hdb);exact PyProof.Rows.callWith_builtin1 (thn (ha pos pins s σ H _ I h) λus s1 zq=>ex5 zq λvs H1 I1 r1 q1=>hc pins s1 σ H1 vs us Q I1 r1 q1) he hpl
theorem pC(hc:bF X (.type T) r)(hg:Gl X x)(hm:X.mg x=none)(hv:bootBuiltins x=some (.type T))(ha:PA X (e::es) t)(hn:autoParam (x ≠ "__name__") Au.h2._auto_1)(hdb:autoParam ((x == ("__debug__":Str))=false) Au.h2._auto_1)
  (he:autoParam (starEach (e::es) X.env=(false,eval e X.env)::starEach es X.env) Au.h1._auto_1) (hpl:autoParam ((backTo pos (starEach es X.env)).any (·.1)=false) Au.h1._auto_1):PE X (.Call (.Name x p) (e::es) [] pos) (tCB r t):=by
 intro pins s σ H Q I h;refine W6 (ig I hg hm hv ?_ hn hdb);exact Zz (thn (ha pos pins s σ H _ I h) λus s1 zq=>ex5 zq λvs H1 I1 r1 q1=>hc pins s1 σ H1 vs us Q I1 r1 q1) he hpl
end
end L2
namespace HT
open PySem PyProof.Rows
section
variable{prog:Program}{w:World}{A:Around}{E:Value->Shared->Prop}{s:Shared}
theorem cat_tup{t b:Addr}{vs ws:List Value}{Q:Value->Shared->Prop}(ht:IsTup s.heap t vs.toArray)(hb:IsTup s.heap b ws.toArray)(hv:vs≠[])
  (h1:ws=[]->Q (.ref t) s) (h2:ws≠[]->Q (.ref s.heap.objs.size) { s with heap:=s.heap.push { cls:=.type "tuple",data:=.seq (vs++ws).toArray } })
  (hsz:vs.length+ws.length<=sizeLine):wpAny (model prog w) A (binaryOp .Add (.ref t) (.ref b)) Q E s:=by
 obtain⟨⟨cls,dd,data,sl⟩,ho,hc,n,hd⟩:=id ht;obtain⟨⟨cls2,dd2,data2,sl2⟩,ho2,hc2,n2,hd2⟩:=id hb;simp only at hc hd hc2 hd2;subst hc hd hc2 hd2
 have e:vs.toArray++ws.toArray=(vs++ws).toArray:=by simp
 by_cases hw:ws=[]
 ·exact concat_meets ⟨_,ho,rfl⟩ ⟨_,ho2,rfl⟩ noFill_tuple_add seq_tuple_add Vb V8 (V3 _ _)
   (tuple_addW1 t b vs.toArray ws.toArray n n2 dd dd2 sl sl2 (by simpa using hv) (by simp[hw])) ⟨ho,ho2,h1 hw⟩
 ·refine concat_meets ⟨_,ho,rfl⟩ ⟨_,ho2,rfl⟩ noFill_tuple_add seq_tuple_add Vb V8 (V3 _ _)
   (tuple_addW2 t b vs.toArray ws.toArray n n2 dd dd2 sl sl2 (by simpa using hv) (by simpa using hw) (by rw[Js,Js];exact hsz)) ⟨ho,ho2,?_⟩
  rw[e];exact h2 hw
noncomputable def sIx(n d:Nat):Option Int->Nat
 |none=>d
 |some v=>if v<0 then (v+(n:Int)).toNat else min v.toNat n
theorem sIx_nat(n d k:Nat):sIx n d (some (k:Int))=min k n:=by
 show(if (k:Int)<0 then ((k:Int)+(n:Int)).toNat else min (k:Int).toNat n)=min k n
 rw[Jb (by omega),We]
theorem Ec(n d:Nat)(hd:d<=n)(o:Option Int):sIx n d o<=n:=by
 cases o with
 |none=>exact hd
 |some v=>
  show(if v<0 then (v+(n:Int)).toNat else min v.toNat n)<=n
  by_cases hv:v<0
  ·rw[J8 hv];omega
  ·rw[Jb hv];exact Nat.min_le_right _ _
theorem wK(v:Int)(n d:Nat):(if v<0 then max (v+(n:Int)) 0 else min v (n:Int))=((sIx n d (some v):Nat):Int):=by
 show(if v<0 then max (v+(n:Int)) 0 else min v (n:Int))=(((if v<0 then (v+(n:Int)).toNat else min v.toNat n):Nat):Int)
 by_cases hv:v<0
 ·simp only[J8 hv];omega
 ·simp only[Jb hv];omega
theorem ve(lo hi:Option Int)(n:Nat):Builtin.Slice.sliceAdjust lo hi 1 (n:Int)=(((sIx n 0 lo:Nat):Int),((sIx n n hi:Nat):Int)):=by
 have h1:¬((1:Int)<0):=by omega
 unfold Builtin.Slice.sliceAdjust;simp only[h1,Yj];refine Prod.ext ?_ ?_
 ·cases lo with
  |none=>rfl
  |some v=>exact wK v n 0
 ·cases hi with
  |none=>rfl
  |some v=>exact wK v n n
theorem vf(i j:Nat):Builtin.Slice.slicePlaces (i:Int) (j:Int) 1=j-i:=by
 unfold Builtin.Slice.slicePlaces
 have h1:(1:Int)>0:=by omega
 simp only[h1,Yd,Int.ediv_one];split<;>omega
theorem ip{v:Value}{o:Option Int}{Q:Option Int->Shared->Prop}(p:IsPart v o)(h:Q o s):wpAny (model prog w) A (Builtin.Slice.slicePartIndex v) Q E s:=by
 cases p with
 |none=>exact slicePart_none h
 |int i t=>exact slicePart_int h
theorem gU{sl:Addr}{vl vu:Value}{lo hi:Option Int}{n:Nat}{Q:Int×Int×Nat->Shared->Prop}(hs:s.heap.IsSliceOf sl vl vu .none)(pl:IsPart vl lo)(pu:IsPart vu hi)
  (h:Q (((sIx n 0 lo:Nat):Int),1,sIx n n hi-sIx n 0 lo) s):wpAny (model prog w) A (Builtin.Slice.sliceApplied (.ref sl) (pure (n:Int))) Q E s:=by
 obtain⟨os,hos,hcs,hds⟩:=id hs;unfold Builtin.Slice.sliceApplied Builtin.Slice.sliceFields;refine J6 (J6 (Yh hos hds (x:=vl) rfl (J6 (Yh hos hds (x:=vu) rfl (J6 (Yh hos hds (x:=.none) rfl (Jc ?_)))))));refine J6 (slicePart_none ?_)
 show wpAny _ _ (if ((1:Int) == 0)=true then _ else _) _ _ s
 rw[Jb (by decide)]
 refine J6 (ip pl (J6 (ip pu (J6 (Jc ?_)))))
 show wpAny _ _ (match Builtin.Slice.sliceAdjust lo hi 1 (n:Int) with|(lo,hi)=>pure (lo,(1:Int),Builtin.Slice.slicePlaces lo hi 1)) _ _ s
 rw[ve lo hi n];show wpAny _ _ (pure (((sIx n 0 lo:Nat):Int),(1:Int),Builtin.Slice.slicePlaces ((sIx n 0 lo:Nat):Int) ((sIx n n hi:Nat):Int) 1)) _ _ s;rw[vf];exact Jc h
theorem zC(xs:Array Value)(i k:Nat):((List.range k).filterMap λ(m:Nat)=>xs[((i:Int)+(m:Int)*1).toNat]?).toArray=((xs.toList.drop i).take k).toArray:=by
 have e:(λ(m:Nat)=>xs[((i:Int)+(m:Int)*1).toNat]?)=λm=>xs[i+m]?:=by
  funext m
  have:((i:Int)+(m:Int)*1).toNat=i+m:=by omega
  rw[this]
 rw[e];have:=pick_run xs i k;rw[List.filterMap_map]at this;have e2:((λx=>xs[x]?)∘λx=>i+x)=λm=>xs[i+m]?:=rfl;rw[e2]at this;rw[this]
theorem getItem_tuple_cut{t sl:Addr}{items:Array Value}{vl vu:Value}{lo hi:Option Int}{Q:Value->Shared->Prop}(ht:IsTup s.heap t items)(hs:s.heap.IsSliceOf sl vl vu .none)(pl:IsPart vl lo)(pu:IsPart vu hi)
  (hw:¬(sIx items.size 0 lo=0/\sIx items.size items.size hi=items.size))
  (h:Q (.ref s.heap.objs.size) { s with heap:=s.heap.push { cls:=.type "tuple",data:=.seq ((items.toList.drop (sIx items.size 0 lo)).take (sIx items.size items.size hi-sIx items.size 0 lo)).toArray } })
  (hsz:items.size<=sizeLine):wpAny (model prog w) A (getItem (.ref t) (.ref sl)) Q E s:=by
 have htake:sizeOk (.seq ((items.toList.drop (sIx items.size 0 lo)).take (sIx items.size items.size hi-sIx items.size 0 lo)).toArray):=by show((items.toList.drop (sIx items.size 0 lo)).take (sIx items.size items.size hi-sIx items.size 0 lo)).toArray.size<=sizeLine;rw[Js,Zo,Zp,Jy];omega
 have hj:sIx items.size items.size hi<=items.size:=Ec _ _ (J9 _) hi;obtain⟨os,hos,hcs,hds⟩:=id hs;have hTs:s.TypeIs (.ref sl) "slice":=⟨os,hos,hcs⟩
 unfold getItem
 try with_reducible refine Yw ?_
 first|refine J6 (Jc ?_)|skip
 refine J6 (Ud ht.typeIs (by decide) ?_)
 refine J6 (Yu (name:=Str.ofString "__getitem__") ht.typeIs Z0
  (Z4 Z0 ht.typeIs entry_tuple_getitem ?_ (args_tuple_getitem _ _)))
 show wpAny _ _ (Builtin.Tuple.tupleItemsOf (.ref t) >>= _) _ _ s;refine J6 (tupleItemsOf_ ht ?_);refine J6 (Wi hTs ?_)
 rw[J8 (by decide)]
 refine J6 (gU hs pl pu ?_)
 have hno:¬((((sIx items.size 0 lo:Nat):Int) == 0&&(1:Int) == 1&&(sIx items.size items.size hi-sIx items.size 0 lo) == items.size)=true):=by
  intro q;rw[Yt,Yt]at q;have q1:((sIx items.size 0 lo:Nat):Int)=0:=eq_of_beq q.1.1;have q2:sIx items.size items.size hi-sIx items.size 0 lo=items.size:=eq_of_beq q.2
  exact hw ⟨by omega,by omega⟩
 show wpAny _ _ (if (((sIx items.size 0 lo:Nat):Int) == 0&&(1:Int) == 1&&(sIx items.size items.size hi-sIx items.size 0 lo) == items.size)=true then _ else _) _ _ s
 rw[Jb hno,zC]
 first
  |exact J6 (m:=Builtin.Tuple.tupleExact _) (Yb (Jc ⟨_,rfl,Jc h⟩) htake)
  |exact J6 (m:=Builtin.Tuple.tupleExact _) (Yb (J6 (Jc (Jc ⟨_,rfl,Jc h⟩))) htake)
  |exact J6 (J6 (m:=Builtin.Tuple.tupleExact _) (Yb (Jc (Jc ⟨_,rfl,Jc h⟩)) htake))
  |exact J6 (J6 (m:=Builtin.Tuple.tupleExact _) (Yb (Jc ⟨_,rfl,Jc h⟩) htake))
end
end HT
namespace L2
open PySem PySem.Spec PyProof.Rows
variable{pins:List (Addr×Obj)}{σ:St}{H:Hp}{s:Shared}{u v:Value}{P:Program}{w:World}{xs:List (List Key×Addr×Value)}{a:Addr}{Q:Value→Shared→Prop}{X:Cx}{pos:Pos}
noncomputable abbrev TO:=St->Hp->(Option Int->Hp->Prop)->Prop
def PO(X:Cx)(e:Option Expr)(t:TO):Prop:=
 ∀(pins:List (Addr×Obj))(s:Shared)(σ:St)(H:Hp)(Q:Option Int->Hp->Prop),Inv X pins σ H s->t σ H Q->
  wpAny (model X.prog X.w) X.A (evalPart e X.env) (λu s'=>∃o H',Inv X pins σ H' s'/\IsPart u o/\Q o H') X.xe s
noncomputable def BR:TO:=λ_ H Q=>Q none H
noncomputable def Gu(t:TE):TO:=λσ H Q=>t σ H λx H1=>∃i,x=.int i/\Q (some i) H1
section
variable{X:Cx}{e:Expr}{te:TE}{lo hi:Option Expr}{tl th:TO}{pos p2:Pos}
theorem BS:PO X none BR:=by intro pins s σ H Q I h;rw[evalPart_none];exact Jc ⟨none,H,I,.none,h⟩
theorem BU(h:PE X e te):PO X (some e) (Gu te):=by intro pins s σ H Q I hw;rw[evalPart_some];refine thn (h pins s σ H _ I hw) λu s1 zq=>?_;obtain⟨x,H1,I1,r1,q1⟩:=zq;obtain⟨i,rfl,q⟩:=q1;obtain⟨t,rfl⟩:=r1;exact⟨some i,H1,I1,.int i t,q⟩
def SlR(X:Cx)(r:V->Option Int->Option Int->Hp->VK->Prop):Prop:=
 ∀(pins:List (Addr×Obj))(s:Shared)(σ:St)(H:Hp)(x:V)(v vl vu:Value)(lo hi:Option Int)(sl:Addr)(Q:VK),Inv X pins σ H s->RelV x v->s.heap.IsSliceOf sl vl vu .none->IsPart vl lo->IsPart vu hi->r x lo hi H Q->
  ∃T id,typeLookup (.type T) "__getitem__" = pure (some (.builtin id))/\s.TypeIs v T/\wpAny (model X.prog X.w) X.A (getItem v (.ref sl)) (EP X pins σ Q) X.xe s
noncomputable def tSl(r:V->Option Int->Option Int->Hp->VK->Prop)(te:TE)(tl th:TO):TE:=λσ H Q=>te σ H λx H1=>tl σ H1 λl H2=>th σ H2 λu H3=>r x l u H3 Q
theorem zD{r:V->Option Int->Option Int->Hp->VK->Prop}(hr:SlR X r)(he:PE X e te)(hl:PO X lo tl)(hu:PO X hi th):PE X (.Subscript e (.Slice lo hi none p2) pos) (tSl r te tl th):=by
 intro pins s σ H Q I h;refine Subscript_ (thn (he pins s σ H _ I h) λv s1 zq=>?_);obtain⟨x,H1,I1,r1,q1⟩:=zq;refine wpAny_Slice (thn (hl pins s1 σ H1 _ I1 q1) λvl s2 zq=>ex5 zq λl H2 I2 pl q2=>thn (hu pins s2 σ H2 _ I2 q2) λvu s3 zq=>?_);obtain⟨u,H3,I3,pu,q3⟩:=zq;rw[evalPart_none];refine Jc ?_
 have I4:Inv X pins σ H3 { s3 with heap:=s3.heap.push { cls:=.type "slice",data:=.fields #[vl,vu,.none] } }:=I3.kept (t':=s3.toks) λb ob q=>J7 _ q
 obtain⟨T,id,hT,ht,hg⟩:=hr pins { s3 with heap:=s3.heap.push { cls:=.type "slice",data:=.fields #[vl,vu,.none] } } σ H3 x v vl vu l u s3.heap.objs.size Q I4 r1 (Heap.IsSliceOf.new ..) pl pu q3
 show wpAny (model X.prog X.w) X.A (subscriptTail e (.Slice lo hi none p2) v (.ref s3.heap.objs.size)) (EP X pins σ Q) X.xe { s3 with heap:=s3.heap.push { cls:=.type "slice",data:=.fields #[vl,vu,.none] } }
 exact tail_any (ops:=[.ref s3.heap.objs.size,v]) ht hT hg (by with_unfolding_all rfl)
noncomputable def sS(xs:List V)(lo hi:Option Int):List V:=(xs.drop (HT.sIx xs.length 0 lo)).take (HT.sIx xs.length xs.length hi-HT.sIx xs.length 0 lo)
theorem lW(xs:List V)(lo hi:Option Int):(sS xs lo hi).length<=xs.length:=by unfold sS;rw[Zo,Zp];omega
noncomputable def Hh(K:PySem.W.Frag):V->Option Int->Option Int->Hp->VK->Prop:=λx lo hi H Q=>∃a xs,x=.ref a/\SqT K H a xs/\
 ¬(HT.sIx xs.length 0 lo=0/\HT.sIx xs.length xs.length hi=xs.length)/\∀p,H p=none->Q (.ref p) (upd H p (.tup (sS xs lo hi)))
theorem Ed:SlR X (Hh X.K):=by
 intro pins s σ H x v vl vu lo hi sl Q I rx hs pl pu h;obtain⟨a,xs,rfl,hx,hw,q⟩:=h;cases rx;obtain⟨its,r,ht,hz⟩:=I.tuple hx
 have hlen:its.toArray.size=xs.length:=by rw[Js];exact r.length.symm
 refine⟨"tuple",_,PyProof.Rows.slot_tuple_getitem.lookup,ht.typeIs,?_⟩
 refine HT.getItem_tuple_cut ht hs pl pu (by rw[hlen];exact hw) ?_ (by rw[hlen];exact hz)
 rw[hlen];refine⟨.ref s.heap.objs.size,_,I.laid (t':=s.toks) (o:=.tup (sS xs lo hi)) (λb ob q=>J7 _ q) (J9 _) ?_,rfl,q _ (I.hok.fresh (J9 _))⟩;exact⟨Y2 (lW xs lo hi) hz,_,(r.drop (HT.sIx xs.length 0 lo)).take (HT.sIx xs.length xs.length hi-HT.sIx xs.length 0 lo),IsTup.new _ _⟩
noncomputable def Gv(K:PySem.W.Frag):R2:=λx y H Q=>∃a b xs ys,x=.ref a/\y=.ref b/\SqT K H a xs/\SqT K H b ys/\xs≠[]/\xs.length+ys.length<=sizeLine/\
 (ys=[]->Q (.ref a) H)/\(ys≠[]->∀p,H p=none->Q (.ref p) (upd H p (.tup (xs++ys))))
theorem Vals.nil_iff{xs:List V}{us:List Value}(r:Vals xs us):us=[]↔xs=[]:=by
 cases r with
 |nil=>simp
 |cons _ _=>simp
theorem BV:OpR X (binaryOp .Add) (Gv X.K):=by
 intro pins s σ H x y v u Q I rx ry h;obtain⟨a,b,xs,ys,rfl,rfl,ha,hb,hx,hz,q1,q2⟩:=h;cases rx;cases ry;obtain⟨its,r1,p1,_⟩:=I.tuple ha;obtain⟨its2,r2,p2,_⟩:=I.tuple hb
 refine HT.cat_tup p1 p2 (λz=>hx (r1.nil_iff.mp z)) (λz=>⟨.ref a,H,I,rfl,q1 (r2.nil_iff.mp z)⟩) (λz=>?_) (by rw[<- r1.length,<- r2.length];exact hz)
 refine⟨.ref s.heap.objs.size,_,I.laid (t':=s.toks) (o:=.tup (xs++ys)) (λb ob q=>J7 _ q) (J9 _) ?_,rfl,q2 (λw=>z (r2.nil_iff.mpr w)) _ (I.hok.fresh (J9 _))⟩
 exact⟨by rw[Jp];exact hz,_,r1.append r2,IsTup.new _ _⟩
end
noncomputable def ixN(n:Nat)(i:Int):Option Nat:=if 0<=i then (if i<n then some i.toNat else none) else if -(n:Int)<=i then some (i+n).toNat else none
noncomputable def atI{α:Type}(xs:List α)(i:Int):Option α:=(ixN xs.length i).bind λj=>xs[j]?
theorem wL{n:Nat}{i:Int}{j:Nat}(h:ixN n i=some j):seqIndex? i n=some j/\j<n/\-(n:Int)<=i/\i<n:=by
 unfold ixN at h;by_cases h0:0<=i
 ·rw[J8 h0]at h;by_cases h1:i<n
  ·rw[J8 h1]at h;have e:i.toNat=j:=Yp h
   exact⟨by rw[seqIndex_of h0 h1,e],by omega,by omega,h1⟩
  ·rw[Jb h1]at h;cases h
 ·rw[Jb h0]at h;by_cases h1:-(n:Int)<=i
  ·rw[J8 h1]at h;have e:(i+n).toNat=j:=Yp h
   exact⟨by rw[seqIndex_neg (by omega) h1,e],by omega,h1,by omega⟩
  ·rw[Jb h1]at h;cases h
theorem qI{α:Type}{xs:List α}{i:Int}{v:α}(h:atI xs i=some v):∃j,seqIndex? i xs.length=some j/\xs[j]?=some v/\j<xs.length/\-(xs.length:Int)<=i/\i<xs.length:=by
 unfold atI at h;cases e:ixN xs.length i with
 |none=>rw[e]at h;cases h
 |some j=>
  rw[e]at h;obtain⟨h1,h2,h3,h4⟩:=wL e;exact⟨j,h1,h,h2,h3,h4⟩
theorem BW{α:Type}{xs:List α}{j:Nat}{v:α}(h:xs[j]?=some v):atI xs (j:Int)=some v:=by
 have hj:j<xs.length:=(Ja.mp h).1
 have e:ixN xs.length (j:Int)=some j:=by
  unfold ixN
  rw[J8 (by omega),J8 (by omega)];simp
 unfold atI;rw[e];exact h
def wM(b:Expr):Prop:=∀o i,subscripted b false o i=operate [o,i] (getItem o i)
def IxR(X:Cx)(r:R2):Prop:=
 ∀(value slice:Expr)(pins:List (Addr×Obj))(s:Shared)(σ:St)(H:Hp)(x y:V)(v u:Value)(Q:VK),Inv X pins σ H s->RelV x v->RelV y u->r x y H Q->
  subscripted slice false v u=operate [v,u] (getItem v u)->wpAny (model X.prog X.w) X.A (subscriptTail value slice v u) (EP X pins σ Q) X.xe s
def MtR(X:Cx)(id:String)(r:V->List V->Hp->VK->Prop):Prop:=
 ∀(pins:List (Addr×Obj))(s:Shared)(σ:St)(H:Hp)(x:V)(xs:List V)(v:Value)(us:List Value)(Q:VK),Inv X pins σ H s->RelV x v->Vals xs us->r x xs H Q->
  wpAny (model X.prog X.w) X.A (call (.builtin id) (v::us)) (EP X pins σ Q) X.xe s
section
variable{X:Cx}{a b:Expr}{ta tb:TE}{pos:Pos}
theorem IxR.or{r r':R2}(h:IxR X r)(h':IxR X r'):IxR X (λx y H Q=>r x y H Q\/r' x y H Q):=by
 intro value slice pins s σ H x y v u Q I rx ry q hs;rcases q with q|q
 ·exact h value slice pins s σ H x y v u Q I rx ry q hs
 ·exact h' value slice pins s σ H x y v u Q I rx ry q hs
theorem Gw{r:R2}(hr:IxR X r)(ha:PE X a ta)(hb:PE X b tb)(hs:wM b):PE X (.Subscript a b pos) (tOp r ta tb):=by intro pins s σ H Q I h;exact Subscript_ (DX ha hb I h λv u s2 x y H2 I2 rx ry q=>hr a b pins s2 σ H2 x y v u Q I2 rx ry q (hs _ _))
noncomputable def Gx(K:PySem.W.Frag):R2:=λx y H Q=>∃p xs i v,x=.ref p/\y=.int i/\SqL K H p xs/\atI xs i=some v/\Q v H
noncomputable def Gy(K:PySem.W.Frag):R2:=λx y H Q=>∃p xs i v,x=.ref p/\y=.int i/\SqT K H p xs/\atI xs i=some v/\Q v H
noncomputable def Gz:R2:=λx y H Q=>∃z i c,x=.str z/\y=.int i/\z.length<=sizeLine/\atI z.cps.toList i=some c/\Q (.str ⟨#[c]⟩) H
theorem BX:IxR X (Gx X.K):=by
 intro value slice pins s σ H x y v u Q I rx ry h hs;obtain⟨p,xs,i,z,rfl,rfl,hq,he,q⟩:=h;cases rx;obtain⟨t,rfl⟩:=ry;obtain⟨its,r,pl,hz⟩:=I.list hq;obtain⟨j,h1,h2,h3,h4,h5⟩:=qI he;obtain⟨w,ew,rw'⟩:=r.get h2;have hl:=r.length;have hn:=lg;have fin:EP X pins σ Q w s:=⟨z,H,I,rw',q⟩;by_cases h0:0<=i
 ·have hj:i.toNat=j:=by rw[seqIndex_of h0 h5]at h1;exact Yp h1
  exact item_listR pl.isList h0 (by omega) (by rw[hj];simpa using ew) fin hs
 ·have hj:(i+(its.toArray.size:Int)).toNat=j:=by
   rw[seqIndex_neg (by omega) h4]at h1
   rw[Js,<- hl];exact Yp h1
  exact subscriptTail_builtinR (x:=w) pl.isList.typeIs slot_list_getitem.lookup
   (wpAny_getItem_list_neg (Q:=λr s'=>r=w/\EP X pins σ Q r s') pl.isList (by omega) (by rw[Js]<;>omega) (by omega) (by rw[hj];simpa using ew) ⟨rfl,fin⟩) hs
theorem qJ:IxR X (Gy X.K):=by
 intro value slice pins s σ H x y v u Q I rx ry h hs;obtain⟨p,xs,i,z,rfl,rfl,hq,he,q⟩:=h;cases rx;obtain⟨t,rfl⟩:=ry;obtain⟨its,r,pl,hz⟩:=I.tuple hq;obtain⟨j,h1,h2,h3,h4,h5⟩:=qI he;obtain⟨w,ew,rw'⟩:=r.get h2;have hl:=r.length;have hn:=lg;have fin:EP X pins σ Q w s:=⟨z,H,I,rw',q⟩;exact subscriptTail_builtinR (x:=w) pl.typeIs slot_tuple_getitem.lookup
  (getItem_tuple (j:=j) (Q:=λr s'=>r=w/\EP X pins σ Q r s') pl (by omega) (by omega) (by rw[Js,<- hl];exact h1) (by simpa using ew) ⟨rfl,fin⟩) hs
theorem Ee:IxR X Gz:=by
 intro value slice pins s σ H x y v u Q I rx ry h hs;obtain⟨z,i,c,rfl,rfl,hz,he,q⟩:=h;obtain⟨t,rfl⟩:=rx;obtain⟨t',rfl⟩:=ry;obtain⟨j,h1,h2,h3,h4,h5⟩:=qI he
 have hl:z.cps.toList.length=z.length:=by simp[Str.length]
 rw[hl]at h1 h4 h5;have hn:=lg
 exact tail_any (typeIs_str s z t) slot_str_getitem.lookup (getItem_str (c:=c) (by
  have e1:decide (i < -(2^63:Int))=false:=Jz (by omega)
  have e2:decide (i >= 2^63)=false:=Jz (by omega)
  rw[e1,e2,Bool.or_false]) (by rw[h1];simpa using h2) ⟨.str ⟨#[c]⟩,H,I.tok _,⟨_,rfl⟩,q⟩) hs
noncomputable def rIx(K:PySem.W.Frag):R2:=λx y H Q=>Gx K x y H Q\/Gy K x y H Q\/Gz x y H Q
theorem Ef:IxR X (rIx X.K):=BX.or (qJ.or Ee)
theorem vg(its:List Value)(n j:Nat)(u:Value):Obj.mapSeq (·.setIfInBounds j u) { cls:=.type "list",data:=.seq its.toArray n }={ cls:=.type "list",data:=.seq (its.set j u).toArray n }:=by simp[Obj.mapSeq]
theorem Inv.lst{pins:List (Addr×Obj)}{σ:St}{H:Hp}{s:Shared}{p:Addr}{xs:List V}(I:Inv X pins σ H s)(h:H p=some (.lst xs)):
  ∃(its:List Value)(n:Nat),Vals xs its/\s.heap.get? p=some { cls:=.type "list",data:=.seq its.toArray n }/\xs.length<=sizeLine:=by
 obtain⟨z,its,n,r,e⟩:=I.hok p _ h;exact⟨its,n,r,e,z⟩
theorem Inv.lstUpd{p:Addr}{xs ys:List V}{its its':List Value}{n n':Nat}{f:Obj->Obj}(I:Inv X pins σ H s)(h:H p=some (.lst xs))
  (ho:s.heap.get? p=some { cls:=.type "list",data:=.seq its.toArray n }) (hf:f { cls:=.type "list",data:=.seq its.toArray n }={ cls:=.type "list",data:=.seq its'.toArray n' }) (r:Vals ys its') (hz:ys.length<=sizeLine) (t:Nat):
  Inv X pins σ (upd H p (.lst ys)) { s with heap:=s.heap.update p f,toks:=t }:=by
 have e:(s.heap.update p f).get? p=some { cls:=.type "list",data:=.seq its'.toArray n' }:=by rw[Qi f ho (by rw[hf]<;>rfl),hf]
 refine I.write (x:=p) (e:=p) (by rw[h];trivial) (.inl rfl) (λb u hb q=>(Z5 _ _ (Ne.symm hb)).trans q) ⟨_,e⟩ ?_
 exact⟨hz,its',n',r,e⟩
noncomputable def GA:V->V->V->Hp->(Hp->Prop)->Prop:=λo i v H Q=>∃p xs k j,o=.ref p/\i=.int k/\H p=some (.lst xs)/\ixN xs.length k=some j/\Q (upd H p (.lst (xs.set j v)))
theorem set_list:qH X GA:=by
 intro pins s σ H o i v ov iv u Q I ro ri rv h;obtain⟨p,xs,k,j,rfl,rfl,hp,hj,q⟩:=h;cases ro;obtain⟨t,rfl⟩:=ri;obtain⟨its,n,r,ho,hz⟩:=I.lst hp;obtain⟨h1,h2,h3,h4⟩:=wL hj;have hl:=r.length;have hn:=lg
 have I':Inv X pins σ (upd H p (.lst (xs.set j v))) { s with heap:=s.heap.update p (Obj.mapSeq (·.setIfInBounds j u)) }:=
  I.lstUpd hp ho (vg its n j u) (r.set rv j) (by rw[Vp];exact hz) s.toks
 by_cases h0:0<=k
 ·have hk:k.toNat=j:=by rw[seqIndex_of h0 h4]at h1;exact Yp h1
  exact PySem.W.ki_setAt ho h0 (by omega) (by rw[Js,<- hl];exact h4) (by rw[hk];exact⟨_,I',q⟩)
 ·have hk:(k+(its.toArray.size:Int)).toNat=j:=by
   rw[seqIndex_neg (by omega) h3]at h1
   rw[Js,<- hl];exact Yp h1
  exact PySem.W.ki_setBack ho (by omega) (by rw[Js,<- hl];exact h3) (by omega) (by rw[hk];exact⟨_,I',q⟩)
theorem qK(lo hi:Option Int)(n:Nat):(sliceBounds lo hi none n).1=((HT.sIx n 0 lo:Nat):Int)/\(sliceBounds lo hi none n).2.1=((HT.sIx n n hi:Nat):Int)/\(sliceBounds lo hi none n).2.2=1:=by
 refine⟨?_,?_,rfl⟩
 ·cases lo with
  |none=>simp[sliceBounds,HT.sIx]
  |some i=>
   simp only[sliceBounds,HT.sIx,Option.getD_none,show(1:Int)>0 by decide,Yd]
   by_cases h:i<0
   ·simp only[h,Yd]<;>omega
   ·simp only[h,Yj]<;>omega
 ·cases hi with
  |none=>simp[sliceBounds,HT.sIx]
  |some i=>
   simp only[sliceBounds,HT.sIx,Option.getD_none,show(1:Int)>0 by decide,Yd]
   by_cases h:i<0
   ·simp only[h,Yd]<;>omega
   ·simp only[h,Yj]<;>omega
theorem oS(its:List Value)(lo hi:Option Int):slicePick its.toArray lo hi none=((its.drop (HT.sIx its.length 0 lo)).take (HT.sIx its.length its.length hi-HT.sIx its.length 0 lo)).toArray:=by obtain⟨h1,h2,h3⟩:=qK lo hi its.toArray.size;unfold slicePick;rw[h1,h2,h3];simp only[sliceRange_one,pick_run,Js]<;>rfl
noncomputable def Hi(K:PySem.W.Frag):V->Option Int->Option Int->Hp->VK->Prop:=λx lo hi H Q=>∃a xs,x=.ref a/\SqL K H a xs/\∀p,H p=none->Q (.ref p) (upd H p (.lst (sS xs lo hi)))
theorem BY:SlR X (Hi X.K):=by
 intro pins s σ H x v vl vu lo hi sl Q I rx hs pl pu h;obtain⟨a,xs,rfl,hx,q⟩:=h;cases rx;obtain⟨its,r,ht,hz⟩:=I.list hx;have hlen:=r.length;refine⟨"list",_,slot_list_getitem.lookup,ht.isList.typeIs,?_⟩
 refine wpAny_getItem_list_slice ht.isList hs pl pu .none (by simp) ?_ (by rw[Js]<;>omega)
 rw[oS,<- hlen];refine⟨.ref s.heap.objs.size,_,I.laid (t':=s.toks) (o:=.lst (sS xs lo hi)) (λb ob q=>J7 _ q) (J9 _) ?_,rfl,q _ (I.hok.fresh (J9 _))⟩;exact⟨Y2 (lW xs lo hi) hz,_,0,(r.drop (HT.sIx xs.length 0 lo)).take (HT.sIx xs.length xs.length hi-HT.sIx xs.length 0 lo),Ji _ rfl⟩
noncomputable def jx:V->Bool
 |.non=>true
 |.bl _=>true
 |.int _=>true
 |.str _=>true
 |_=>false
noncomputable def eqV:V->V->Bool
 |.non,.non=>true
 |.bl a,.bl b=>a == b
 |.bl a,.int b=>(if a then 1 else 0) == b
 |.int a,.bl b=>a == (if b then 1 else 0)
 |.int a,.int b=>a == b
 |.str a,.str b=>a == b
 |_,_=>false
theorem Eg{A:Around}{y x:V}(ry:RelV y u)(rx:RelV x v)(fy:jx y=true)(fx:jx x=true):SeqAt.EqAt A s u v (eqV y x):=by
 cases y with
 |non=>
  cases ry;cases x with
  |non=>cases rx;exact SeqAt.EqAt.same _
  |bl b=>cases rx;exact SeqAt.EqAt.none_bool b
  |int b=>obtain⟨t,rfl⟩:=rx;exact SeqAt.EqAt.none_int b t
  |str b=>obtain⟨t,rfl⟩:=rx;exact SeqAt.EqAt.none_str b t
  |_=>exact absurd (show false=true from fx) Jk
 |bl a=>
  cases ry;cases x with
  |non=>cases rx;exact SeqAt.EqAt.bool_none a
  |bl b=>cases rx;exact SeqAt.EqAt.bool_bool a b
  |int b=>obtain⟨t,rfl⟩:=rx;exact SeqAt.EqAt.bool_int a b t
  |str b=>obtain⟨t,rfl⟩:=rx;exact SeqAt.EqAt.bool_str a b t
  |_=>exact absurd (show false=true from fx) Jk
 |int a=>
  obtain⟨t',rfl⟩:=ry;cases x with
  |non=>cases rx;exact SeqAt.EqAt.int_none a t'
  |bl b=>cases rx;exact SeqAt.EqAt.int_bool a t' b
  |int b=>obtain⟨t,rfl⟩:=rx;exact SeqAt.EqAt.int_int a t' b t
  |str b=>obtain⟨t,rfl⟩:=rx;exact SeqAt.EqAt.int_str a t' b t
  |_=>exact absurd (show false=true from fx) Jk
 |str a=>
  obtain⟨t',rfl⟩:=ry;cases x with
  |non=>cases rx;exact SeqAt.EqAt.str_none a t'
  |bl b=>cases rx;exact SeqAt.EqAt.str_bool a t' b
  |int b=>obtain⟨t,rfl⟩:=rx;exact SeqAt.EqAt.str_int a t' b t
  |str b=>obtain⟨t,rfl⟩:=rx;exact SeqAt.EqAt.str_str a t' b t
  |_=>exact absurd (show false=true from fx) Jk
 |_=>exact absurd (show false=true from fy) Jk
noncomputable def eqU(x:V)(u:Value):Bool:=match u with
 |.none=>eqV .non x
 |.bool b=>eqV (.bl b) x
 |.int i _=>eqV (.int i) x
 |.str z _=>eqV (.str z) x
 |_=>false
theorem zE{x y:V}(r:RelV y u)(f:jx y=true):eqU x u=eqV y x:=by
 cases y with
 |non=>cases r;rfl
 |bl b=>cases r;rfl
 |int i=>obtain⟨t,rfl⟩:=r;rfl
 |str z=>obtain⟨t,rfl⟩:=r;rfl
 |_=>exact absurd (show false=true from f) Jk
theorem j7{x:V}:∀{xs:List V}{us:List Value},Vals xs us->xs.all jx=true->us.any (eqU x)=xs.any λy=>eqV y x
 |_,_,.nil,_=>rfl
 |y::xs,u::us,.cons r t,f=>by rw[Ub,Yt]at f;rw[Q4,Q4,zE r f.1,j7 t f.2]
theorem iR{A:Around}{x:V}(rx:RelV x v)(fx:jx x=true):∀{xs:List V}{us:List Value},Vals xs us->xs.all jx=true->∀u∈us,SeqAt.EqAt A s u v (eqU x u)
 |_,_,.nil,_=>λu hu=>by cases hu
 |y::xs,u::us,.cons r t,f=>λu' hu=>by
  rw[Ub,Yt]at f;rcases Jj.mp hu with rfl|hu
  ·rw[zE r f.1];exact Eg r rx f.1 fx
  ·exact iR rx fx t f.2 u' hu
noncomputable def inV(x:V)(xs:List V):Bool:=xs.any λy=>eqV y x
noncomputable def rIn(K:PySem.W.Frag)(neg:Bool):R2:=λx y H Q=>∃p xs,y=.ref p/\(SqL K H p xs\/SqT K H p xs)/\jx x=true/\xs.all jx=true/\Q (.bl (if neg then !inV x xs else inV x xs)) H
theorem yt:OpR X (compareOp .In) (rIn X.K false):=by
 intro pins s σ H x y v u Q I rx ry h;obtain⟨p,xs,rfl,hq,fx,fs,q⟩:=h;cases ry;rcases hq with hq|hq
 ·obtain⟨its,r,pl,hz⟩:=I.list hq
  refine SeqAt.in_listAt (eqU x) pl.isList (λw hw=>iR rx fx r fs w (by simpa using hw)) ⟨.bl _,H,I,rfl,?_⟩
  rw[show its.toArray.any (eqU x)=its.any (eqU x) by simp,j7 r fs]
  exact q
 ·obtain⟨its,r,pl,hz⟩:=I.tuple hq
  refine SeqAt.in_tupleAt (eqU x) pl (λw hw=>iR rx fx r fs w (by simpa using hw)) ⟨.bl _,H,I,rfl,?_⟩
  rw[show its.toArray.any (eqU x)=its.any (eqU x) by simp,j7 r fs]
  exact q
theorem qL:OpR X (compareOp .NotIn) (rIn X.K true):=by
 intro pins s σ H x y v u Q I rx ry h;obtain⟨p,xs,rfl,hq,fx,fs,q⟩:=h;cases ry;rcases hq with hq|hq
 ·obtain⟨its,r,pl,hz⟩:=I.list hq
  refine SeqAt.notIn_listAt (eqU x) pl.isList (λw hw=>iR rx fx r fs w (by simpa using hw)) ⟨.bl _,H,I,rfl,?_⟩
  rw[show its.toArray.any (eqU x)=its.any (eqU x) by simp,j7 r fs]
  exact q
 ·obtain⟨its,r,pl,hz⟩:=I.tuple hq
  refine SeqAt.notIn_tupleAt (eqU x) pl (λw hw=>iR rx fx r fs w (by simpa using hw)) ⟨.bl _,H,I,rfl,?_⟩
  rw[show its.toArray.any (eqU x)=its.any (eqU x) by simp,j7 r fs]
  exact q
theorem qM:bF X (.builtin "len") (λxs H Q=>∃p ys,xs=[.ref p]/\(SqL X.K H p ys\/SqT X.K H p ys)/\Q (.int ys.length) H):=by
 intro pins s σ H xs us Q I r h;obtain⟨p,ys,rfl,hq,q⟩:=h;obtain⟨u,rfl,rx⟩:=Wc r;cases rx;have hn:=lg;rcases hq with hq|hq
 ·obtain⟨its,r',pl,hz⟩:=I.list hq;have hlen:=r'.length
  exact Calls.call_len_list pl.isList (by simp only[Js]<;>omega) ⟨.int ys.length,H,I.tok _,⟨s.toks+1,by rw[Js,hlen]⟩,q⟩
 ·obtain⟨its,r',pl,hz⟩:=I.tuple hq;have hlen:=r'.length
  exact len_tuple pl (by simp only[Js]<;>omega) ⟨.int ys.length,H,I.tok _,⟨s.toks+1,by rw[Js,hlen]⟩,q⟩
theorem qN:bF X (.builtin "len") (λxs H Q=>∃z,xs=[.str z]/\z.length<=sizeLine/\Q (.int z.length) H):=by
 intro pins s σ H xs us Q I r h;obtain⟨z,rfl,hz,q⟩:=h;obtain⟨u,rfl,t,rfl⟩:=Wc r;have hn:=lg
 exact len_str (by omega) ⟨.int z.length,H,I.tok _,⟨_,rfl⟩,q⟩
theorem jy:bF X (.type "tuple") (λxs H Q=>∃p ys,xs=[.ref p]/\((SqL X.K H p ys/\∀l,H l=none->Q (.ref l) (upd H l (.tup ys)))\/(SqT X.K H p ys/\Q (.ref p) H))):=by
 intro pins s σ H xs us Q I r h;obtain⟨p,ys,rfl,h⟩:=h;obtain⟨u,rfl,rx⟩:=Wc r;cases rx;rcases h with⟨hq,q⟩|⟨hq,q⟩
 ·obtain⟨its,r',pl,hz⟩:=I.list hq;have hlen:=r'.length
  refine call_tuple_list pl.isList (λh' kp=>?_) (by simp only[Js]<;>omega)
  have I1:Inv X pins σ H { s with heap:=h' }:=I.kept (t':=s.toks) kp
  have I2:Inv X pins σ (upd H h'.objs.size (.tup ys)) { s with heap:=h'.push { cls:=.type "tuple",data:=.seq its.toArray } }:=
   I1.laid (t':=s.toks) (λb o e=>J7 _ e) (J9 _) (show bR X.prog X.w _ _ _ (.tup ys) from ⟨hz,its,r',IsTup.new _ _⟩)
  exact⟨.ref h'.objs.size,_,I2,rfl,q _ (I1.hok.fresh (J9 _))⟩
 ·obtain⟨its,r',pl,hz⟩:=I.tuple hq;exact call_tuple_same pl ⟨.ref p,H,I,rfl,q⟩
def tyV(K:PySem.W.Frag)(T:String)(x:V)(H:Hp):Prop:=match x with
 |.str _=>T = "str"
 |.int _=>T = "int"
 |.ref p=>(T = "list"/\∃xs,SqL K H p xs)\/(T = "tuple"/\∃o,K.lookup p=some o/\o.cls=.type "tuple"/\o.dict=none) \/
   (T = "dict"/\((∃kvs,H p=some (.dK kvs)) \/ ∃kvs,H p=some (.dT kvs)))\/(T = "set"/\∃S n,H p=some (.set S n))
 |_=>False
theorem Eh{T:String}{x:V}(I:Inv X pins σ H s)(r:RelV x v)(ty:tyV X.K T x H):
  s.TypeIs v T/\∀a,v=.ref a->∃ob,s.heap.get? a=some ob/\ob.dict=none:=by
 cases x with
 |str z=>
  obtain⟨t,rfl⟩:=r
  cases (show T = "str" from ty)
  exact⟨typeIs_str s z t,λ_ e=>nomatch e⟩
 |int i=>
  obtain⟨t,rfl⟩:=r
  cases (show T = "int" from ty)
  exact⟨V7 s i t,λ_ e=>nomatch e⟩
 |ref p=>
  cases r;rcases ty with⟨rfl,xs,hq⟩|⟨rfl,o,hk,hc,hd⟩|⟨rfl,hk⟩|⟨rfl,S,n,hk⟩
  ·obtain⟨its,_,pl,_⟩:=I.list hq;refine⟨pl.isList.typeIs,λa e=>?_⟩;cases e;obtain⟨o,n,e,c,hd,_⟩:=pl;exact⟨o,e,hd⟩
  ·refine⟨⟨o,I.kIn p o hk,hc⟩,λa e=>?_⟩;cases e;exact⟨o,I.kIn _ o hk,hd⟩
  ·have z:∃o,s.heap.get? p=some o/\o.ExactDict:=by
    rcases hk with⟨kvs,hk⟩|⟨kvs,hk⟩
    ·obtain⟨_,_,_,_,o,_,_,e,ex,_⟩:=I.hok p _ hk;exact⟨o,e,ex⟩
    ·obtain⟨_,_,_,_,o,_,_,e,ex,_⟩:=I.hok p _ hk;exact⟨o,e,ex⟩
   obtain⟨o,e,ex⟩:=z;refine⟨⟨o,e,ex.1⟩,λa e2=>?_⟩;cases e2;exact⟨o,e,ex.2.1⟩
  ·obtain⟨o,_,_,_,e,ex,_⟩:=I.hok p _ hk;refine⟨⟨o,e,ex.1⟩,λa e2=>?_⟩;cases e2;exact⟨o,e,ex.2.1⟩
 |_=>exact False.elim ty
noncomputable def tBM(K:PySem.W.Frag)(T:String)(r:V->List V->Hp->VK->Prop)(to:TE)(t:TA):TE:=λσ H Q=>to σ H λx H1=>tyV K T x H1/\t σ H1 λxs H2=>r x xs H2 Q
variable{o e:Expr}{es:List Expr}{to:TE}{t:TA}{name:Str}{apos cpos:Pos}{T id:String}{r:V->List V->Hp->VK->Prop}
theorem GB(pa:PlainAttrs T)(slot:Slot T name id)(hty:typeOf (.builtin id)=pure (.type "method_descriptor"))(hm:MtR X id r)(ho:PE X o to)(ha:PA X (e::es) t)
  (hbase:autoParam (attributeBase o name X.env (eval o X.env)=eval o X.env) Au.h1._auto_1)
  (hfew:autoParam (((backTo cpos (starEach (e::es) X.env)).all (λx=>!x.1)&&(backToKw cpos (keywordEach [] X.env)).all (λx=>x.1.isSome)
   && decide ((e::es).length+([]:List Keyword).length+(if ([]:List Keyword).isEmpty then 0 else 1)<30))=true) Au.h1._auto_1)
  (hline:autoParam ((apos.endLine == cpos.line)=true) Au.h1._auto_1) (hs:autoParam (starEach (e::es) X.env=(false,eval e X.env)::starEach es X.env) Au.h1._auto_1) (hplain:autoParam ((backTo cpos (starEach es X.env)).any (·.1)=false) Au.h1._auto_1):
  PE X (.Call (.Attribute o name apos) (e::es) [] cpos) (tBM X.K T r to t):=by
 intro pins s σ H Q I h;refine wpAny_Call_method_late hbase hfew hline rfl (thn (ho pins s σ H _ I h) λv s1 zq=>?_);obtain⟨x,H1,I1,r1,ty,q1⟩:=zq;obtain⟨h1,h2⟩:=Eh I1 r1 ty;refine⟨T,id,pa,slot,hty,h1,h2,?_⟩;have hA:=ha cpos pins s1 σ H1 _ I1 q1;rw[hs]at hA ⊢
 refine Calls.callWith_builtin (by show(false||(backTo cpos (starEach es X.env)).any (·.1))=false;rw[hplain]<;>rfl) (Calls.evalArgs_plain ?_)
 exact thn hA λus s2 zq=>ex5 zq λvs H2 I2 r2 q2=>hm pins s2 σ H2 x vs v us Q I2 r1 r2 q2
end
def MtM(X:Cx)(id:String)(r:V->List V->Hp->VK->Prop):Prop:=
 ∀(pins:List (Addr×Obj))(s:Shared)(σ:St)(H:Hp)(x:V)(xs:List V)(v:Value)(us:List Value)(Q:VK),Inv X pins σ H s->RelV x v->Vals xs us->r x xs H Q->
  wpAny (model X.prog X.w) X.A (call (.builtin id) (v::us)) (EP X pins σ Q) X.xe s
theorem Vals.one:∀{x:V}{us:List Value},Vals [x] us->∃u,us=[u]/\RelV x u
 |_,_,.cons r .nil=>⟨_,rfl,r⟩
theorem Vals.rep{xs:List V}{us:List Value}(h:Vals xs us):∀k:Nat,Vals (List.replicate k xs).flatten (List.replicate k us).flatten
 |0=>.nil
 |k+1=>by rw[Q2,Q2,Qo,Qo];exact Vals.append h (Vals.rep h k)
theorem foldl_rep(its:List Value):∀(k:Nat)(acc:List Value),
  List.foldl (λx1 x2=>x1++x2) acc.toArray (List.replicate k its.toArray)=(acc++(List.replicate k its).flatten).toArray
 |0,acc=>by simp
 |k+1,acc=>by
  have e:acc.toArray++its.toArray=(acc++its).toArray:=by simp
  have e2:(acc++its)++(List.replicate k its).flatten=acc++(List.replicate (k+1) its).flatten:=by rw[Q2,Qo,Ye]
  rw[<- e2,<- foldl_rep its k (acc++its),<- e,Q2,List.foldl_cons]
section
variable{X:Cx}{pins:List (Addr×Obj)}{σ:St}{H:Hp}{s:Shared}{l b:Addr}{xs ys zs:List V}
theorem Inv.lset{its its':List Value}{n:Nat}{f:Array Value->Array Value}{t':Nat}(I:Inv X pins σ H s)(hH:H l=some (.lst xs))
  (e:s.heap.get? l=some { cls:=.type "list",data:=.seq its.toArray n }) (hf:f its.toArray=its'.toArray) (hv:Vals ys its') (hz:ys.length<=sizeLine):
  Inv X pins σ (upd H l (.lst ys)) { s with heap:=s.heap.update l (Obj.mapSeq f),toks:=t' }:=by
 have q:=PySem.IsL.update e f;rw[hf]at q
 refine I.write (x:=l) (e:=l) (by rw[hH];exact trivial) (.inl rfl) (λb' u hb hu=>(Z5 s.heap (Obj.mapSeq f) (Ne.symm hb)).trans hu) ⟨_,q⟩ ?_
 exact⟨hz,its',_,hv,q⟩
theorem Inv.lnew{its:List Value}{t':Nat}(I:Inv X pins σ H s)(hv:Vals ys its)(hz:ys.length<=sizeLine):
  Inv X pins σ (upd H s.heap.objs.size (.lst ys)) { s with heap:=s.heap.push { cls:=.type "list",data:=.seq its.toArray },toks:=t' }:=
 I.laid (λ_ _ q=>J7 _ q) (J9 _) ⟨hz,its,0,hv,Ji _ rfl⟩
theorem Inv.fresh(I:Inv X pins σ H s):H s.heap.objs.size=none:=I.hok.fresh (J9 _)
theorem Inv.lstM(I:Inv X pins σ H s)(hH:H l=some (.lst xs)):xs.length<=sizeLine/\∃(its:List Value)(n:Nat),Vals xs its/\xs.length=its.length/\s.heap.get? l=some { cls:=.type "list",data:=.seq its.toArray n }:=by obtain⟨z,its,n,r,e⟩:=I.hok l _ hH;exact⟨z,its,n,r,r.length,e⟩
theorem zF{n:Nat}(h:n<=sizeLine):Builtin.List.listTooLong n=false:=by
 unfold Builtin.List.listTooLong
 exact Jz (by omega)
end
section
variable{X:Cx}
noncomputable def BZ:V->List V->Hp->VK->Prop:=λx vs H Q=>∃l xs y,x=.ref l/\vs=[y]/\H l=some (.lst xs)/\xs.length<sizeLine/\Q .non (upd H l (.lst (xs++[y])))
theorem lh:MtM X "list.append" BZ:=by
 intro pins s σ H x vs v us Q I rx rv h;obtain⟨l,xs,y,rfl,rfl,hH,hz,q⟩:=h;cases rx;obtain⟨u,rfl,ru⟩:=rv.one;obtain⟨z,its,n,r,hl,e⟩:=I.lstM hH
 refine Wp F.slot_list_append ⟨_,e,rfl⟩ F.entry_list_append (F.args_list_append_2 _ _) (PySem.list_append l its.toArray n u (by rw[Js];omega)) ⟨e,?_⟩
 refine⟨.non,_,I.lset (its':=its++[u]) hH e (by simp) (r.append (.cons ru .nil)) ?_,rfl,q⟩
 rw[Jp,Zn];omega
noncomputable def Hj:R2:=λx y H Q=>∃l b xs zs,x=.ref l/\y=.ref b/\H l=some (.lst xs)/\H b=some (.lst zs)/\xs.length+zs.length<=sizeLine/\∀p,H p=none->Q (.ref p) (upd H p (.lst (xs++zs)))
theorem Ei:OpR X (binaryOp .Add) Hj:=by
 intro pins s σ H x y v u Q I rx ry h;obtain⟨l,b,xs,zs,rfl,rfl,hH,hB,hz,q⟩:=h;cases rx;cases ry;obtain⟨z,its,n,r,hl,e⟩:=I.lstM hH;obtain⟨z2,its2,n2,r2,hl2,e2⟩:=I.lstM hB
 refine PySem.P.add_list e e2 ?_ (by rw[Js,Js];omega)
 have ea:its.toArray++its2.toArray=(its++its2).toArray:=by simp
 rw[ea]
 exact⟨.ref _,_,I.lnew (t':=s.toks) (r.append r2) (by rw[Jp];omega),rfl,q _ I.fresh⟩
noncomputable def Hk:R2:=λx y H Q=>∃l k xs,x=.ref l/\y=.int k/\H l=some (.lst xs)/\-(2^63)<=k/\k<2^63/\xs.length*k.toNat<=sizeLine/\
 ∀p,H p=none->Q (.ref p) (upd H p (.lst (List.replicate k.toNat xs).flatten))
theorem len_rep{α:Type}(xs:List α)(k:Nat):(List.replicate k xs).flatten.length=k*xs.length:=by
 induction k with
 |zero=>simp
 |succ k ih=>rw[Q2,Qo,Jp,ih,Vq,Uj]
theorem Ej:OpR X (binaryOp .Mult) Hk:=by
 intro pins s σ H x y v u Q I rx ry h;obtain⟨l,k,xs,rfl,rfl,hH,h1,h2,hz,q⟩:=h;cases rx;obtain⟨t,rfl⟩:=ry;obtain⟨z,its,n,r,hl,e⟩:=I.lstM hH
 have hlen:its.toArray.size*k.toNat<=sizeLine:=by rw[Js,<- hl];exact hz
 have hcap:¬its.toArray.size*k.toNat>(2^63-1)/8:=by
  have:(sizeLine:Nat)<=(2^63-1)/8:=by decide
  omega
 have hfit:¬(!Builtin.List.listFitsIndex k)=true:=by rw[fitsIndex_both h1 h2];exact Jk
 have hlong:¬Builtin.List.listTooLong (its.toArray.size*k.toNat)=true:=by rw[zF hlen];exact Jk
 have hnew:List.foldl (λx1 x2=>x1++x2) #[] (List.replicate (if its.toArray.isEmpty=true then 0 else k.toNat) its.toArray)=(List.replicate k.toNat its).flatten.toArray:=by
  have f0:∀m:Nat,List.foldl (λx1 x2=>x1++x2) #[] (List.replicate m its.toArray)=(List.replicate m its).flatten.toArray:=λm=>by have:=foldl_rep its m [];rw[Q0]at this;exact this
  rw[f0];cases its with
  |nil=>simp
  |cons a r'=>rw[Jb (by simp)]
 refine wpAny_binaryOp_repeat_ref (T:="list") (U:="int") (by decide) ⟨_,e,rfl⟩ (λs'=>V7 s' k t) noFill_list_mul F.fills_int_mul Vr repeat_list F.slot_int_index.lookup
  (Wp Vr (V7 s k t) F.entry_int_rmul (F.args_int_rmul_2 _ _) (int___rmul___int_list k t l its.toArray n)
   ⟨e,rfl,⟨_,e,rfl⟩,Wp F.slot_list_mul ⟨_,e,rfl⟩ F.entry_list_mul (F.args_list_mul_2 _ _) (AutoListH.list___mul___list_int_3 l its.toArray n k t hfit hcap hlong) ⟨e,?_⟩⟩)
 rw[hnew]
 exact⟨.ref _,_,I.lnew (t':=s.toks) (r.rep k.toNat) (by rw[len_rep,Uk];exact hz),rfl,q _ I.fresh⟩
end
section
variable{κ:Type}[DecidableEq κ]
noncomputable def iq(kvs:List (κ×V))(k:κ):Option V:=(kvs.find? λkv=>decide (kv.1=k)).map (·.2)
noncomputable def putK(kvs:List (κ×V))(k:κ)(v:V):List (κ×V):=
 if (kvs.any λkv=>decide (kv.1=k))=true then kvs.map (λkv=>if kv.1=k then (kv.1,v) else kv) else kvs++[(k,v)]
theorem nA{p:κ×V}{r:List (κ×V)}{k:κ}(e:p.1=k):iq (p::r) k=some p.2:=by simp[iq,Zd,e]
theorem nB{p:κ×V}{r:List (κ×V)}{k:κ}(e:¬p.1=k):iq (p::r) k=iq r k:=by simp[iq,Zd,e]
theorem sT(k:κ):∀kvs:List (κ×V),(kvs.any λkv=>decide (kv.1=k))=(iq kvs k).isSome
 |[]=>rfl
 |p::r=>by
  rw[Q4];by_cases e:p.1=k
  ·simp only[nA e,Jx e,Bool.true_or,Option.isSome_some]
  ·rw[nB e,Jz e,Bool.false_or];exact sT k r
theorem iS(kvs:List (κ×V))(k:κ)(v:V):(putK kvs k v).length<=kvs.length+1:=by
 unfold putK;split
 ·rw[Jg];omega
 ·rw[Jp,Jm,Yi];omega
theorem kY.isSome_eq{o:Option V}{u:Option Value}(r:kY o u):o.isSome=u.isSome:=by
 cases o with
 |none=>cases u with
  |none=>rfl
  |some _=>exact(show False from r).elim
 |some _=>cases u with
  |none=>exact(show False from r).elim
  |some _=>rfl
theorem kY.getD{o:Option V}{u:Option Value}{d:V}{d':Value}(r:kY o u)(rd:RelV d d'):RelV (o.getD d) (u.getD d'):=by
 cases o with
 |none=>cases u with
  |none=>exact rd
  |some _=>exact(show False from r).elim
 |some _=>cases u with
  |none=>exact(show False from r).elim
  |some _=>exact r
theorem KV.val{kvs:List (κ×V)}{vs:List (κ×Value)}(r:KV kvs vs)(k:κ):kY (iq kvs k) (valueAt vs k):=by
 unfold KV at r
 induction r with
 |nil=>exact True.intro
 | @cons p q ps qs h t ih=>
  obtain⟨h1,h2⟩:=h;by_cases e:p.1=k
  ·have e':q.1=k:=h1.symm.trans e
   have b:valueAt (q::qs) k=some q.2:=by simp[valueAt,Zd,e']
   rw[nA e,b];exact h2
  ·have e':¬q.1=k:=λz=>e (h1.trans z)
   have b:valueAt (q::qs) k=valueAt qs k:=by simp[valueAt,Zd,e']
   rw[nB e,b];exact ih
theorem KV.any{kvs:List (κ×V)}{vs:List (κ×Value)}(r:KV kvs vs)(k:κ):(kvs.any λkv=>decide (kv.1=k))=vs.any λkv=>decide (kv.1=k):=by
 unfold KV at r
 induction r with
 |nil=>rfl
 |cons h t ih=>rw[Q4,Q4,ih,h.1]
theorem KV.repl{kvs:List (κ×V)}{vs:List (κ×Value)}(r:KV kvs vs)(k:κ){y:V}(ry:RelV y u):
  KV (kvs.map λkv=>if kv.1=k then (kv.1,y) else kv) (vs.map λkv=>if kv.1=k then (kv.1,u) else kv):=by
 unfold KV at r ⊢
 induction r with
 |nil=>exact .nil
 | @cons p q ps qs h t ih=>
  rw[Jl,Jl];refine .cons ?_ ih;obtain⟨h1,h2⟩:=h;by_cases e:p.1=k
  ·rw[J8 e,J8 (h1.symm.trans e)];exact⟨h1,ry⟩
  ·rw[Jb e,Jb (λz=>e (h1.trans z))];exact⟨h1,h2⟩
theorem KV.put{kvs:List (κ×V)}{vs:List (κ×Value)}(r:KV kvs vs)(k:κ){y:V}(ry:RelV y u):KV (putK kvs k y) (stored vs k u):=by
 unfold putK stored;rw[r.any k];by_cases e:(vs.any λkv=>decide (kv.1=k))=true
 ·rw[J8 e,J8 e];exact r.repl k ry
 ·rw[Jb e,Jb e];exact Paired.snoc r ⟨rfl,ry⟩
theorem KV.keys{kvs:List (κ×V)}{vs:List (κ×Value)}(r:KV kvs vs):kvs.map (·.1)=vs.map (·.1):=by
 unfold KV at r
 induction r with
 |nil=>rfl
 |cons h t ih=>rw[Jl,Jl,ih,h.1]
theorem KV.length{kvs:List (κ×V)}{vs:List (κ×Value)}(r:KV kvs vs):kvs.length=vs.length:=Paired.length r
end
theorem lX{k:Key}(r:RelV (kV k) u):(bh P w).is k u=true:=by
 cases k with
 |inl i=>obtain⟨t,e⟩:=(show ∃t,u=Value.int i t from r);subst e;exact sL P w i t
 |inr x=>obtain⟨t,e⟩:=(show ∃t,u=Value.str x t from r);subst e;exact sM P w x t
theorem pD:∀{ks:List Key}{us:List Value},Vals (ks.map kV) us->ItemsAre (bh P w) ks us
 |[],_,r=>by rw[V4]at r;cases r;exact .nil
 |k::ks,_,r=>by
  rw[Jl]at r;cases r with
  |cons h t=>exact .cons (lX h) (pD t)
noncomputable abbrev KT(H:Hp):List (List Key×V)->List (List Key×Addr×Value)->Prop:=Paired λp q=>p.1=q.1/\H q.2.1=some (.tup (p.1.map kV))/\RelV p.2 q.2.2
theorem KT.val{kvs:List (List Key×V)}(r:KT H kvs xs)(k:List Key):kY (iq kvs k) ((atKey xs k).map (·.2)):=by
 induction r with
 |nil=>exact True.intro
 | @cons p q ps qs h t ih=>
  obtain⟨h1,_,h2⟩:=h;by_cases e:p.1=k
  ·have e':q.1=k:=h1.symm.trans e
   have b:atKey (q::qs) k=some q.2:=by simp[atKey,Zd,e']
   rw[nA e,b];exact h2
  ·have e':¬q.1=k:=λz=>e (h1.trans z)
   have b:atKey (q::qs) k=atKey qs k:=by simp[atKey,Zd,e']
   rw[nB e,b];exact ih
theorem KT.repl{kvs:List (List Key×V)}(r:KT H kvs xs)(k:List Key){y:V}(ry:RelV y u):
  KT H (kvs.map λkv=>if kv.1=k then (kv.1,y) else kv) (xs.map (putAt k u)):=by
 induction r with
 |nil=>exact .nil
 | @cons p q ps qs h t ih=>
  rw[Jl,Jl];refine .cons ?_ ih;obtain⟨h1,h2,h3⟩:=h;unfold putAt;by_cases e:p.1=k
  ·rw[J8 e,J8 (h1.symm.trans e)];exact⟨h1,h2,ry⟩
  ·rw[Jb e,Jb (λz=>e (h1.trans z))];exact⟨h1,h2,h3⟩
theorem KT.put{kvs:List (List Key×V)}(r:KT H kvs xs)(k:List Key){b:Addr}{y:V}(hb:H b=some (.tup (k.map kV)))(ry:RelV y u):
  KT H (putK kvs k y) (storedH xs k b u):=by
 have e:(kvs.any λkv=>decide (kv.1=k))=(atKey xs k).isSome:=by rw[sT,(r.val k).isSome_eq,V9]
 unfold putK storedH;rw[e];by_cases q:(atKey xs k).isSome=true
 ·rw[J8 q,J8 q];exact r.repl k ry
 ·rw[Jb q,Jb q];exact Paired.snoc r ⟨rfl,hb,ry⟩
theorem KT.keeps{H':Hp}{kvs:List (List Key×V)}(r:KT H kvs xs)(ht:∀b ys,H b=some (.tup ys)->H' b=some (.tup ys)):KT H' kvs xs:=
 Paired.mapP r λ_ _ z=>⟨z.1,ht _ _ z.2.1,z.2.2⟩
section
variable{P:Program}{w:World}{H:Hp}{h:Heap}{a:Addr}
theorem De{u:HO}(ok:HOk P w H h)(e:Rd H a u):bR P w H h a u:=e.ok ok
theorem j8{kvs:List (Key×V)}(ok:HOk P w H h)(e:Rd H a (.dK kvs)):kvs.length<=sizeLine/\(a == sysModules)=false/\∃vs,KV kvs vs/\h.DictOf (bh P w) a vs:=
 show bR P w H h a (.dK kvs) from De ok e
theorem Df{kvs:List (Key×V)}(ok:HOk P w H h)(e:H a=some (.dK kvs)):kvs.length<=sizeLine/\(a == sysModules)=false/\∃vs,KV kvs vs/\h.DictOf (bh P w) a vs:=j8 ok (.inl e)
theorem lj{ks:List Key}(ok:HOk P w H h)(e:H a=some (.tup (ks.map kV))):(tupleKind (bh P w)).is h ks a:=by
 obtain⟨_,its,r,o,h1,h2,n,h3⟩:=(show bR P w H h a (.tup (ks.map kV)) from ok a _ e)
 exact⟨o,its.toArray,n,h1,h2,h3,by simpa using pD r⟩
theorem nC{kvs:List (List Key×V)}(ok:HOk P w H h)(e:Rd H a (.dT kvs)):kvs.length<=sizeLine/\(a == sysModules)=false/\
  ∃xs,KT H kvs xs/\h.DictOfH (tupleKind (bh P w)) a xs:=by
 obtain⟨z,y,xs,r,o,es,ep,h1,h2,h3,h4,h5⟩:=(show bR P w H h a (.dT kvs) from De ok e)
 refine⟨z,y,xs,r,o,es,ep,h1,h2,h3,h4,λx hx=>?_,h5⟩
 have all:∀{l:List (List Key×V)}{m:List (List Key×Addr×Value)},KT H l m->∀x∈m,(tupleKind (bh P w)).is h x.1 x.2.1:=by
  intro l m q
  induction q with
  |nil=>intro x hx;exact nomatch hx
  | @cons p q ps qs hq t ih=>
   intro x hx;rcases Jj.mp hx with e|hx
   ·subst e
    exact lj ok (by rw[<- hq.1];exact hq.2.1)
   ·exact ih x hx
 exact all r x hx
theorem GC{kvs:List (List Key×V)}(ok:HOk P w H h)(e:H a=some (.dT kvs)):kvs.length<=sizeLine/\(a == sysModules)=false/\
 ∃xs,KT H kvs xs/\h.DictOfH (tupleKind (bh P w)) a xs:=nC ok (.inl e)
end
def vh(H:Hp)(a:Addr)(y:V)(r:Option V):Prop:=
 (∃kvs k,Rd H a (.dK kvs)/\y=kV k/\r=iq kvs k) \/ ∃kvs k b,Rd H a (.dT kvs)/\y=.ref b/\H b=some (.tup (k.map kV))/\r=iq kvs k
def B0(H:Hp)(a:Addr)(y v:V)(H':Hp):Prop:=
 (∃kvs k,H a=some (.dK kvs)/\y=kV k/\kvs.length<sizeLine/\H'=upd H a (.dK (putK kvs k v))) \/
 ∃kvs k b,H a=some (.dT kvs)/\y=.ref b/\H b=some (.tup (k.map kV))/\kvs.length<sizeLine/\H'=upd H a (.dT (putK kvs k v))
theorem B0.k{kvs:List (Key×V)}{k:Key}{v:V}(e:H a=some (.dK kvs))(hl:kvs.length<sizeLine):B0 H a (kV k) v (upd H a (.dK (putK kvs k v))):=.inl ⟨kvs,k,e,rfl,hl,rfl⟩
section
variable{X:Cx}{pins:List (Addr×Obj)}{σ:St}{H:Hp}{s:Shared}{a:Addr}{y v:V}{u r:Value}{o:Option V}{A:Around}{E:Value->Shared->Prop}
theorem Inv.big(I:Inv X pins σ H s):sysModules<s.heap.objs.size:=by
 have h:mainGlobals<s.heap.objs.size:=(I.mod.glob.keeps I.bk).lt
 exact Vs (by decide) h
theorem yu(hu:A.units+1<cLine)(I:Inv X pins σ H s)(g:vh H a y (some v))(ry:RelV y u)(h:∀w' s',Inv X pins σ H s'->RelV v w'->Q w' s'):
  wpAny (model X.prog X.w) A (getItem (.ref a) u) Q E s:=by
 rcases g with⟨kvs,k,e,ey,l⟩|⟨kvs,k,b,e,ey,eb,l⟩
 ·subst ey;obtain⟨z,hd,vs,rel,dd⟩:=j8 I.hok e
  obtain⟨w',hw,rw'⟩:=kY.some_of (v:=v) (o:=valueAt vs k) (by rw[l];exact rel.val k)
  exact wpAny_getItem_of (lX ry) dd.mapOf hw (h w' _ (I.tok _) rw')
 ·subst ey
  cases (show u=Value.ref b from ry)
  obtain⟨z,hd,xs,rel,dd⟩:=nC I.hok e
  obtain⟨w',hw,rw'⟩:=kY.some_of (v:=v) (o:=(atKey xs k).map (·.2)) (by rw[l];exact rel.val k)
  obtain⟨p,hp,hp2⟩:=Option.map_eq_some_iff.mp hw;refine wpAny_getItem_heap (W7 hu) (lj I.hok eb) dd hp ?_;rw[hp2];exact h w' _ (I.tok _) rw'
theorem Hl(hu:A.units+1<cLine)(I:Inv X pins σ H s)(g:vh H a y o)(ry:RelV y u)(h:∀s',Inv X pins σ H s'->Q (.bool o.isSome) s'):
  wpAny (model X.prog X.w) A (compareOp .In u (.ref a)) Q E s:=by
 rcases g with⟨kvs,k,e,ey,l⟩|⟨kvs,k,b,e,ey,eb,l⟩
 ·subst ey;obtain⟨z,hd,vs,rel,dd⟩:=j8 I.hok e;refine wpAny_in_of (lX ry) hd dd.mapOf ?_;rw[<- (rel.val k).isSome_eq,<- l];exact h _ (I.tok _)
 ·subst ey
  cases (show u=Value.ref b from ry)
  obtain⟨z,hd,xs,rel,dd⟩:=nC I.hok e;refine wpAny_in_heap (W7 hu) (lj I.hok eb) hd dd ?_;have q:=(rel.val k).isSome_eq;rw[V9]at q;rw[<- q,<- l];exact h _ (I.tok _)
theorem B1(hu:A.units+1<cLine)(I:Inv X pins σ H s)(g:vh H a y o)(ry:RelV y u)(h:∀s',Inv X pins σ H s'->Q (.bool (!o.isSome)) s'):
  wpAny (model X.prog X.w) A (compareOp .NotIn u (.ref a)) Q E s:=by
 rcases g with⟨kvs,k,e,ey,l⟩|⟨kvs,k,b,e,ey,eb,l⟩
 ·subst ey;obtain⟨z,hd,vs,rel,dd⟩:=j8 I.hok e;refine wpAny_notIn_of (lX ry) hd dd.mapOf ?_;rw[<- (rel.val k).isSome_eq,<- l];exact h _ (I.tok _)
 ·subst ey
  cases (show u=Value.ref b from ry)
  obtain⟨z,hd,xs,rel,dd⟩:=nC I.hok e;refine wpAny_notIn_heap (W7 hu) (lj I.hok eb) hd dd ?_;have q:=(rel.val k).isSome_eq;rw[V9]at q;rw[<- q,<- l];exact h _ (I.tok _)
theorem qO{h':Heap}{t':Nat}{ob:HO}(I:Inv X pins σ H s)(mu:Mut (H a))(hs:Heap.SameBut a s.heap h')(he:∃q,h'.get? a=some q)(new:bR X.prog X.w (upd H a ob) h' a ob):
  Inv X pins σ (upd H a ob) { s with heap:=h',toks:=t' }:=
 I.write (x:=a) (e:=a) mu (.inl rfl) (λb q hb z=>(hs.2 b hb).trans z) he new
theorem zG{H':Hp}{h':Heap}{kvs:List (Key×V)}{vs:List (Key×Value)}(z:kvs.length<=sizeLine)(hd:(a == sysModules)=false)(rel:KV kvs vs)(dd:h'.DictOf (bh P w) a vs):
 bR P w H' h' a (.dK kvs):=⟨z,hd,vs,rel,dd⟩
theorem yw{H':Hp}{Q:Unit->Shared->Prop}(hu:A.units+1<cLine)(I:Inv X pins σ H s)(g:B0 H a y v H')(ry:RelV y u)(rv:RelV v r)(h:∀s',Inv X pins σ H' s'->Q () s'):
  wpAny (model X.prog X.w) A (setItem (.ref a) u r) Q E s:=by
 rcases g with⟨kvs,k,e,ey,l,eH⟩|⟨kvs,k,b,e,ey,eb,l,eH⟩
 ·subst ey eH;obtain⟨z,hd,vs,rel,dd⟩:=Df I.hok e
  have hz:vs.length<=sizeLine:=by rw[<- rel.length];exact z
  have hl:(putK kvs k v).length<=sizeLine:=by have:=iS kvs k v;omega
  refine wpAny_setItem_pairs (hsz:=hz) (lX ry) dd λh' dd' hs=>h _ ?_
  have he:∃q,h'.get? a=some q:=let ⟨q,_,_,hq,_⟩:=dd';⟨q,hq⟩
  exact qO I (by rw[e];exact True.intro) hs he (zG hl hd (rel.put k rv) dd')
 ·subst ey eH
  cases (show u=Value.ref b from ry)
  obtain⟨z,hd,xs,rel,dd⟩:=GC I.hok e
  have hz:xs.length<=sizeLine:=by rw[<- Paired.length rel];exact z
  have hl:(putK kvs k v).length<=sizeLine:=by have:=iS kvs k v;omega
  refine wpAny_setItem_heap (hsz:=hz) (W7 hu) (lj I.hok eb) dd λh' dd' hs=>h _ ?_;obtain⟨q,es,ep,hq,h2,h3,h4,_,h5⟩:=dd'
  refine qO I (by rw[e];exact True.intro) hs ⟨q,hq⟩ ⟨hl,hd,_,(rel.put k eb rv).keeps λc ys ec=>?_,q,es,ep,hq,h2,h3,h4,h5⟩
  rw[aN (FJ ec e (λz=>nomatch z))]
  exact ec
end
section
variable{X:Cx}{pins:List (Addr×Obj)}{σ:St}{H:Hp}{s:Shared}{a:Addr}{kvs:List (Key×V)}{k:Key}{u:Value}{A:Around}{E:Value->Shared->Prop}
theorem GD(I:Inv X pins σ H s)(e:Rd H a (.dK kvs))(h:∀t s',Inv X pins σ H s'->Q (.int kvs.length t) s'):wpAny (model X.prog X.w) A (call (.builtin "len") [.ref a]) Q E s:=by
 obtain⟨z,hd,vs,rel,dd⟩:=j8 I.hok e
 refine call_len_dict hd dd (by rw[<- rel.length];rw[Qu]at z;omega) ?_
 rw[<- rel.length];exact h _ _ (I.tok _)
end
theorem sU{y:V}{o:Option V}(I:Inv X pins σ H s)(g:vh H a y o):s.TypeIs (.ref a) "dict":=by
 rcases g with⟨kvs,k,e,_,_⟩|⟨kvs,k,b,e,_,_,_⟩
 ·obtain⟨_,_,vs,_,dd⟩:=j8 I.hok e;exact dd.typeIs
 ·obtain⟨_,_,xs,_,dd⟩:=nC I.hok e;exact dd.typeIs
theorem sV(h:Heap)(hb:sysModules<h.objs.size):bR P w H (h.push { cls:=.type "dict",data:=.dict #[] }) h.objs.size (.dK []):=
 ⟨Y0 _,Vy.mpr (Ne.symm (Jq hb)),[],.nil,Heap.DictOf.new h⟩
noncomputable def Ek:TE:=λ_ H Q=>∀p,H p=none->Q (.ref p) (upd H p (.dK []))
section
variable{X:Cx}{pos:Pos}
theorem zH:PE X (.Dict [] [] pos) Ek:=λpins s σ H Q I h=>
 wpAny_Dict_empty ⟨.ref s.heap.objs.size,_,I.laid (a:=s.heap.objs.size) (o:=.dK []) (t':=s.toks) (λ_ _ q=>J7 _ q) (J9 _) (sV s.heap I.big),rfl,h _ (I.hok.fresh (J9 _))⟩
end
noncomputable def qP:List (TE×TE)->St->Hp->(List (V×V)->Hp->Prop)->Prop
 |[],_,H,Q=>Q [] H
 |(tk,tv)::r,σ,H,Q=>tk σ H λx H1=>tv σ H1 λy H2=>qP r σ H2 λps H3=>Q ((x,y)::ps) H3
noncomputable abbrev VV:List (V×V)->List (Value×Value)->Prop:=Paired λp q=>RelV p.1 q.1/\RelV p.2 q.2
def PPs(X:Cx)(pos:Pos)(keys:List (Option Expr))(values:List Expr)(trs:List (TE×TE)):Prop:=
 ∀(pins:List (Addr×Obj))(s:Shared)(σ:St)(H:Hp)(Q:List (V×V)->Hp->Prop),Inv X pins σ H s->qP trs σ H Q->
  wpAny (model X.prog X.w) X.A (evalPairs (pairTrees keys values X.env pos)) (λvs s'=>∃ps H',Inv X pins σ H' s'/\VV ps vs/\Q ps H') X.xe s
theorem B3:PPs X pos [] [] []:=λpins s σ H Q I h=>pairTrees_nil_walk ⟨[],H,I,.nil,h⟩
theorem zI{k v:Expr}{ks:List (Option Expr)}{vs:List Expr}{tk tv:TE}{trs:List (TE×TE)}(hk:PE X k tk)(hv:PE X v tv)(hr:PPs X pos ks vs trs):
  PPs X pos (some k::ks) (v::vs) ((tk,tv)::trs):=λpins s σ H Q I h=>
 pairTrees_cons_walk (thn (hk pins s σ H _ I h) λu s1 zq=>ex5 zq λx H1 I1 rx q1=>thn (hv pins s1 σ H1 _ I1 q1) λw2 s2 zq=>ex5 zq λy H2 I2 ry q2=>
  thn (hr pins s2 σ H2 _ I2 q2) λws s3 zq=>ex5 zq λps H3 I3 rel q3=>⟨(x,y)::ps,H3,I3,.cons ⟨rx,ry⟩ rel,q3⟩)
noncomputable def eU(kvs more:List (Key×V)):List (Key×V):=more.foldl (λacc kv=>putK acc kv.1 kv.2) kvs
theorem KV.merge:∀{more:List (Key×V)}{rs:List (Key×Value)}{kvs:List (Key×V)}{vs:List (Key×Value)},KV more rs->KV kvs vs->KV (eU kvs more) (merged vs rs):=by
 intro more rs kvs vs r;unfold KV at r
 induction r generalizing kvs vs with
 |nil=>intro q;exact q
 | @cons p q ps qs h t ih=>
  intro r0
  have e:KV (putK kvs p.1 p.2) (stored vs q.1 q.2):=by have:=r0.put p.1 h.2;rw[<- h.1];exact this
  exact ih e
theorem jz:∀(more kvs:List (Key×V)),(eU kvs more).length<=kvs.length+more.length
 |[],kvs=>by show kvs.length<=kvs.length+0;omega
 |p::r,kvs=>by have h1:=jz r (putK kvs p.1 p.2);have h2:=iS kvs p.1 p.2;show(eU (putK kvs p.1 p.2) r).length<=_;rw[Jm];omega
theorem nD{P:Program}{w:World}:∀{kvs:List (Key×V)}{ws:List (Value×Value)},VV (kvs.map λkv=>(kV kv.1,kv.2)) ws->∃rs,Carries (bh P w) ws rs/\KV kvs rs
 |[],_,r=>by rw[V4]at r;cases r;exact⟨[],True.intro,.nil⟩
 |p::kvs,_,r=>by
  rw[Jl]at r;cases r with
  | @cons a b as bs h t=>
   obtain⟨rs,c,q⟩:=nD (P:=P) (w:=w) t;obtain⟨b1,b2⟩:=b;exact⟨(p.1,b2)::rs,⟨lX h.1,rfl,c⟩,.cons ⟨rfl,h.2⟩ q⟩
noncomputable def Dg(trs:List (TE×TE)):TE:=λσ H Q=>∀p,H p=none->qP trs σ (upd H p (.dK [])) λps H2=>H2 p=some (.dK [])/\∃kvs:List (Key×V),ps=kvs.map (λkv=>(kV kv.1,kv.2))/\kvs.length<=15/\Q (.ref p) (upd H2 p (.dK (eU [] kvs)))
theorem B4{keys:List (Option Expr)}{values:List Expr}{trs:List (TE×TE)}(h:PPs X pos keys values trs)(hall:keys.all (·.isSome)=true)(hl:keys.length=values.length)(h0:keys≠[])
  (h15:keys.length<=15):PE X (.Dict keys values pos) (Dg trs):=by
 intro pins s σ H Q I q;have hn:=I.hok.fresh (J9 s.heap.objs.size);have I1:=I.laid (a:=s.heap.objs.size) (o:=.dK []) (h':=s.heap.push { cls:=.type "dict",data:=.dict #[] }) (t':=s.toks) (λ_ _ q=>J7 _ q) (J9 _) (sV s.heap I.big)
 refine wpAny_Dict_walk (knd:=bh X.prog X.w) hall hl h0 h15 (thn (h pins _ σ _ _ I1 (q _ hn)) λws s2 zq=>?_);obtain⟨ps,H2,I2,rel,e,kvs,ep,lk,q2⟩:=zq;subst ep;obtain⟨rs,c,rk⟩:=nD (P:=X.prog) (w:=X.w) rel;obtain⟨z,hd,vs0,r0,dd⟩:=Df I2.hok e;cases r0;refine⟨rs,c,dd,λh' dd' hs=>⟨.ref s.heap.objs.size,_,?_,rfl,q2⟩⟩
 have hz:(eU [] kvs).length<=sizeLine:=by have h1:=jz kvs [];rw[Yi]at h1;rw[Qu];omega
 have he:∃q,h'.get? s.heap.objs.size=some q:=let ⟨q,_,_,hq,_⟩:=dd';⟨q,hq⟩
 exact qO I2 (by rw[e];exact True.intro) hs he (zG hz hd (rk.merge .nil) dd')
structure M2(X:Cx)(o:Expr)(m:Str)(apos:Pos)(e f:Expr)(cpos:Pos):Prop where
 base:attributeBase o m X.env (eval o X.env)=eval o X.env
 few:((backTo cpos (starEach [e,f] X.env)).all (λx=>!x.1)&&(backToKw cpos (keywordEach [] X.env)).all (λx=>x.1.isSome)
  && decide (([e,f]:List Expr).length+([]:List Keyword).length+(if ([]:List Keyword).isEmpty then 0 else 1)<30))=true
 line:(apos.endLine == cpos.line)=true
 trees:backTo cpos (starEach [e,f] X.env)=[(false,eval e X.env),(false,eval f X.env)]
def IsD(H:Hp)(a:Addr):Prop:=(∃kvs,Rd H a (.dK kvs)) \/ ∃kvs,Rd H a (.dT kvs)
theorem zJ(I:Inv X pins σ H s)(d:IsD H a):
  s.TypeIs (.ref a) "dict"/\(∀b,Value.ref a=.ref b->∃ob,s.heap.get? b=some ob/\ob.dict=none)/\(a == sysModules)=false:=by
 rcases d with⟨kvs,e⟩|⟨kvs,e⟩
 ·obtain⟨_,hd,vs,_,dd⟩:=j8 I.hok e;refine⟨dd.typeIs,λb q=>?_,hd⟩;cases q;obtain⟨ob,_,_,h1,h2,_⟩:=dd;exact⟨ob,h1,h2.2.1⟩
 ·obtain⟨_,hd,xs,_,dd⟩:=nC I.hok e;refine⟨dd.typeIs,λb q=>?_,hd⟩;cases q;obtain⟨ob,_,_,h1,h2,_⟩:=dd;exact⟨ob,h1,h2.2.1⟩
section
variable{X:Cx}{pins:List (Addr×Obj)}{σ:St}{H:Hp}{s:Shared}{a:Addr}{y d:V}{u r:Value}{o:Option V}{A:Around}{E:Value->Shared->Prop}
theorem El(hu:A.units+1<cLine)(I:Inv X pins σ H s)(g:vh H a y o)(ry:RelV y u)(rd:RelV d r)(h:∀w' s',Inv X pins σ H s'->RelV (o.getD d) w'->Q w' s'):
  wpAny (model X.prog X.w) A (call (.builtin "dict.get") [.ref a,u,r]) Q E s:=by
 rcases g with⟨kvs,k,e,ey,l⟩|⟨kvs,k,b,e,ey,eb,l⟩
 ·subst ey;obtain⟨z,hd,vs,rel,dd⟩:=j8 I.hok e;refine call_meetsIn Vk dd.typeIs PySem.F.entry_dict_get (PySem.F.args_dict_get_3 _ _ _) (meets_dict_get_default (bh X.prog X.w) a (lX ry) hd r) ⟨_,dd.mapOf,h _ _ (I.tok _) ?_⟩;rw[l];exact(rel.val k).getD rd
 ·subst ey
  cases (show u=Value.ref b from ry)
  obtain⟨z,hd,xs,rel,dd⟩:=nC I.hok e;refine call_meetsIn Vk dd.typeIs PySem.F.entry_dict_get (PySem.F.args_dict_get_3 _ _ _) (meetsH_dict_get_default (tupleKind (bh X.prog X.w)) a b hd r) ⟨W7 hu,k,xs,lj I.hok eb,dd,h _ _ (I.tok _) ?_⟩;rw[l];exact(rel.val k).getD rd
end
noncomputable def Em(td ty tx:TE):TE:=λσ H Q=>td σ H λx H1=>∃a,x=.ref a/\IsD H1 a/\ty σ H1 λy H2=>tx σ H2 λz H3=>∃o,vh H3 a y o/\Q (o.getD z) H3
section
variable{X:Cx}{o e f:Expr}{apos cpos:Pos}{td ty tx:TE}
theorem zK(hu:X.A.units+1<cLine)(ho:PE X o td)(he:PE X e ty)(hf:PE X f tx)(m:M2 X o "get" apos e f cpos):PE X (.Call (.Attribute o "get" apos) [e,f] [] cpos) (Em td ty tx):=by
 intro pins s σ H Q I h;refine wpAny_Call_method m.base m.few m.line PySem.F.plainAttrs_dict Vk PySem.F.type_dict_get (thn (ho pins s σ H _ I h) λu s1 zq=>?_);obtain⟨x,H1,I1,rx,a,ex,d,q1⟩:=zq;subst ex;obtain rfl:u=Value.ref a:=rx;obtain⟨t1,t2,_⟩:=zJ I1 d;refine⟨t1,t2,?_⟩;rw[m.trees]
 refine Calls.callWith_builtin rfl (Calls.evalArgs_plain (U4 (thn (he pins s1 σ H1 _ I1 q1) λiv s2 zq=>ex5 zq λy H2 I2 ry q2=>
  U4 (thn (hf pins s2 σ H2 _ I2 q2) λfv s3 ⟨z,H3,I3,rz,ov,g,q3⟩=>Calls.spliced_nil ?_))))
 exact El hu I3 g ry rz λw' s4 I4 rw'=>⟨_,H3,I4,rw',q3⟩
end
end L2
namespace Att
open PySem PySem.W PySem.Calls PyProof.Rows
theorem mQ{P:Params}{h:Heap}:∀(ns:List Int)(vs:List Value),WellAll P h vs (ns.map WData.int)->IntsAre vs ns:=by
 intro ns
 induction ns with
 |nil=>
  intro vs w;rw[V4]at w;cases w;exact .nil
 |cons n ns ih=>
  intro vs w;rw[Jl]at w;cases w with
  |cons a b=>
   cases a;exact .cons _ _ (ih _ b)
theorem yx{l:OpenLaw}{n:Nat}(hn:l.most=some n){P:Params}{h:Heap}{args:List WData}{vals:List Value}
  (hpre:l.row.toRowW.claim.pre args=true) (hwl:WellAll P h vals args):
  ∃a vs ns,vals=[Value.ref a]/\args=[WData.list (ns.map WData.int)]/\h.get? a=some { cls:=.type "list",data:=.seq vs.toArray }/\IntsAre vs ns/\ns.length<=n:=by
 have hsh:WShape.hasAll [] args [.list .int]=true:=(pre_splitW hpre).1;have hc:l.pre.holds [] { args:=args }=true:=(pre_splitW hpre).2;obtain⟨d,r,rfl,h1,h2⟩:=hasAllW_cons hsh;obtain rfl:=hasAllW_nil h2;obtain⟨xs,rfl,h3⟩:=hasW_list h1;obtain⟨ns,rfl⟩:=items_int h3
 have hlen:ns.length<=n:=by
  unfold OpenLaw.pre at hc
  have h4:(WTm.not (.lt (.lit (.int (n:Int))) (.len (.arg 0)))).holds [] { args:=[.list (ns.map .int)] }=true:=by have h4:=(holds_andW hc).1;rw[hn]at h4;exact h4
  have h5:=condW_of h4 (w_not (w_lt w_lit (w_len_list (w_arg rfl))));rw[Jg]at h5;refine Nat.le_of_not_lt λq=>?_
  have q':(n:Int)<((ns.length:Nat):Int):=by omega
  first
   |(rw[Jx q']at h5;exact absurd h5 (by decide))
   |(simp at h5;omega)
 cases hwl with
 |cons w1 w2=>
  cases w2;cases w1 with
  |list ho hall=>exact⟨_,_,ns,rfl,rfl,ho,mQ ns _ hall,hlen⟩
theorem yy(l:OpenLaw)(args:List WData):l.row.toRowW.claim.post args (.bool true) args=true:=
 postW_of (r:=l.row.toRowW) (X:=(true == true))
  (show WShape.has [] (.bool true) .bool=true by first|rfl|decide|simp[WShape.has,WShape.arms,WShape.armsAll])
  (show(WTm.eq .res (.lit (.bool true))).value [] { args:=args,res:=some (.bool true),after:=args }=some (.bool (true == true)) from w_eq_bool (w_res rfl) w_lit) rfl
theorem attach_call{l:OpenLaw}{n:Nat}{q:Program}{loose:List Str}{XP:(Str->Option Value)->Heap->Prop}{YP:World->Heap->Prop}{d:DefRec}
  (hn:l.most=some n) (hdf:d.params.defaults=[])
  (call:∀(w:World)(s₀ s₁:Shared)(mg mb:Str->Option Value)(fa:Addr)(o:Obj)(pm cd doc:Value)(a:Addr)(vs:List Value)(ns:List Int),
   Ground q loose [] XP w s₀ mg mb s₁.heap->YP w s₁.heap->
   s₁.heap.get? fa=some o->o.data=.func (docDef d.name d.params d.body d.scope pm cd doc)->s₁.heap.CodeRec cd d.name->mg d.name=some (.ref fa)->
   s₁.heap.get? a=some { cls:=.type "list",data:=.seq vs.toArray }->IntsAre vs ns->ns.length<=n->s₁.gens = #[]->
   codeAny (model l.prog w) callerA (.call (.ref fa) ⟨[.ref a],[]⟩) (λr s'=>r=.ok (.ret (.bool true))/\OldK s₁.heap s'.heap/\s'.os=s₁.os/\AllBare s'.gens) s₁):
  WalkO q loose XP YP l.row.toRowW d [] (λf vs=>PySem.call f vs):=by
 intro w s₀ s₁ mg mb G Y fa o pm cd doc dV kV ho hd hcd hD hmg hg args vals as hpre hlay hrd hwl hlo;obtain rfl:dV=.none:=Dflts.none hD hdf;obtain rfl:kV=.none:=Dflts.noKw hD;obtain⟨a,vs,ns,rfl,rfl,hobj,hints,hlen⟩:=yx hn hpre hwl;refine enter_call (codeAny_mono (call w s₀ s₁ mg mb fa o pm cd doc a vs ns G Y ho (fd_plain hd) hcd hmg hobj hints hlen hg) λr s' hq=>?_);obtain⟨rfl,h2,h3,h4⟩:=hq
 exact⟨.inl ⟨.bool true,.bool true,[],rfl,λ_=>rfl,.bool true,yy l _,λ_=>⟨List.Pairwise.nil,λ_ hm=>(nomatch hm)⟩⟩,h2,h3,h4⟩
end Att
namespace L2
open PySem PySem.Spec PyProof.Rows
variable{x:Str}
theorem pE:∀{vs:List Value}{ns:List Int},IntsAre vs ns->Vals (ns.map V.int) vs
 |_,_,.nil=>.nil
 |_,_,.cons n t h=>.cons ⟨t,rfl⟩ (pE h)
def zL(H:Hp):Prop:=∀b,H b=none \/ ∃o xs,H b=some (.frz o (.lst xs))
theorem zM{P:Program}{w:World}{K:PySem.W.Frag}{mg mb:Str->Option Value}{CX:CXT}{k:Nat}{fa a:Addr}{fd:FuncData}{x:Str}{sp:Sp}{s₁:Shared}{vs:List Value}{ns:List Int}
  (KX:K.In s₁.heap) (hns:s₁.heap.Ns mainGlobals mg) (hb:s₁.heap.Ns builtinsNs mb) (hbb:∀x:Str,x ≠ "__name__"->mb x=bootBuiltins x) (hlim:s₁.heap.NoLimit) (hg:s₁.gens = #[])
  (ha:s₁.heap.get? a=some { cls:=.type "list",data:=.seq vs.toArray }) (hi:IntsAre vs ns) (hl:ns.length<=sizeLine) (hr:Room k callerA)
  (F:∀base:Heap,K.In base->base.Ns mainGlobals mg->FnOk P w K mg base CX k fa fd [x] sp) (hbind:∀(s:Shared)(u:Value),BindsTo s fd ⟨[u],[]⟩ [(x,u)])
  (hsp:∀H:Hp,zL H->SqL K H a (ns.map V.int)->sp [.ref a] H (λv _=>v=.bl true) λ_ _ _=>False)
  (hCX:∀H e s',CX [] H s₁ (λ_ _ _=>False) e s'->False):
  codeAny (model P w) callerA (.call (.ref fa) ⟨[.ref a],[]⟩) (λr s'=>r=.ok (.ret (.bool true))/\OldK s₁.heap s'.heap/\s'.os=s₁.os/\AllBare s'.gens) s₁:=by
 have rv:=pE hi;have lenV:=hi.length
 -- from an abstract heap in which nothing but the script may be tracked
 have core:∀H:Hp,zL H->SqL K H a (ns.map V.int)->HOk P w H s₁.heap->(∀b,H b≠none->b=a)->(H a≠none->K.lookup a=none)->
   codeAny (model P w) callerA (.call (.ref fa) ⟨[.ref a],[]⟩) (λr s'=>r=.ok (.ret (.bool true))/\OldK s₁.heap s'.heap/\s'.os=s₁.os/\AllBare s'.gens) s₁:=by
  intro H hO hS hok hA hK;have base_of:∀{b:Addr}{o:Obj},s₁.heap.get? b=some o->H b=none->(qG s₁.heap H).get? b=some o:=λe n=>zk e n
  have noA:∀{b:Addr}{o:Obj}{es:Array DictEntry}{ep:Nat},s₁.heap.get? b=some o->o.data=.dict es ep->H b=none:=λ{b o es ep} e d=>by
   cases q:H b with
   |none=>rfl
   |some u=>
    have e':b=a:=hA b (by rw[q];simp)
    subst e';rw[ha]at e;cases e;have d':Data.seq vs.toArray _=Data.dict es ep:=d;cases d'
  have nsK:∀{b:Addr}{m:Str->Option Value},s₁.heap.Ns b m->(qG s₁.heap H).Ns b m:=λ{b m} ⟨o,es,ep,e,d,r⟩=>⟨o,es,ep,base_of e (noA e d),d,r⟩
  have hKb:K.In (qG s₁.heap H):=λb o e=>base_of (KX b o e) (by
   cases q:H b with
   |none=>rfl
   |some u=>
    have e':b=a:=hA b (by rw[q];simp)
    subst e'
    rw[hK (by rw[q];simp)]at e;cases e)
  have hM:Mod K mg (qG s₁.heap H):=⟨hKb,nsK hns,⟨mb,nsK hb,hbb⟩,let ⟨mc,h1,h2⟩:=hlim;⟨mc,nsK h1,h2⟩⟩
  have e0:Env0 P w K mg (qG s₁.heap H) callerA [] s₁ H:=⟨rfl,hM,λb o e=>BA e,Nat.le_of_eq (yk _ _),trivial,λb hb=>absurd (show b∈([]:List Addr) from hb) (by simp),hok,.of_eq hg⟩
  refine codeAny_mono ((F _ hKb (nsK hns)).run callerA [] s₁ H ⟨[.ref a],[]⟩ [.ref a] [.ref a] _ _ hr e0 (hbind s₁ (.ref a)) (.cons rfl .nil) (hsp H hO hS)) λr s' h=>?_;cases r with
  |error e=>exact(hCX H e s' h).elim
  |ok fl=>
   cases fl with
   |next=>exact False.elim h
   |brk=>exact False.elim h
   |cont=>exact False.elim h
   |ret u=>
    obtain⟨v,H',os,bare,un,hok',r',q⟩:=h;have q':v=.bl true:=q;subst q';obtain rfl:u=Value.bool true:=r';refine⟨rfl,OldK.of_keep λb o e=>?_,os,bare⟩;cases q:H b with
    |none=>exact un.keep b o e q (by intro z;exact absurd (show b∈([]:List Addr) from z) (by simp)) (by simp)
    |some u=>
     rcases hO b with z|⟨ob,xs,z⟩
     ·rw[q]at z;cases z
     ·have z2:=un.frzs b ob _ z;obtain⟨e1,_⟩:=hok b _ z;obtain⟨e2,_⟩:=hok' b _ z2;rw[e]at e1;cases e1;exact e2
 cases hk:K.lookup a with
 |some o=>
  -- the script is one of the module's own objects
  have e:=KX a o hk;rw[ha]at e;cases e
  refine core (λ_=>none) (λ_=>.inl rfl) (.inr ⟨_,vs.toArray,_,hk,rfl,rfl,rfl,by rw[Js,lenV];exact hl,by simpa using rv⟩) (λb u z=>by have z':(none:Option HO)=some u:=z;cases z') (λb z=>absurd rfl z) λz=>absurd rfl z
 |none=>
  refine core (λb=>if b=a then some (.frz { cls:=.type "list",data:=.seq vs.toArray } (.lst (ns.map V.int))) else none) (λb=>?_) (.inl (.inr ⟨{ cls:=.type "list",data:=.seq vs.toArray },J8 rfl⟩)) (λb u z=>?_) (λb z=>?_) λ_=>hk
  ·by_cases hb:b=a
   ·exact .inr ⟨_,_,J8 hb⟩
   ·exact .inl (Jb hb)
  ·by_cases hb:b=a
   ·have z':=(J8 hb).symm.trans z;cases z';subst hb
    exact⟨ha,by rw[Jg];exact hl,vs,_,rv,ha⟩
   ·have z':=(Jb hb).symm.trans z;cases z'
  ·by_cases hb:b=a
   ·exact hb
   ·exact absurd (Jb hb) z
theorem B5{l:PySem.W.OpenLaw}{n k:Nat}{q:Program}{loose:List Str}{XP:(Str->Option Value)->Heap->Prop}{YP:World->Heap->Prop}{d:DefRec}{K:Params->PySem.W.Frag}{CX:World->CXT}{sp:World->Sp}{x:Str}
  (hn:l.most=some n) (hn2:n<=sizeLine) (hdf:d.params.defaults=[]) (hr:Room k callerA)
  (hY:∀(w:World)(h:Heap),YP w h->(K w.params).In h)
  (F:∀(w:World)(mg:Str->Option Value)(fa:Addr)(h:Heap),(K w.params).In h->h.Ns mainGlobals mg->mg d.name=some (.ref fa)->
   ∃fd:FuncData,(∀(s:Shared)(u:Value),BindsTo s fd ⟨[u],[]⟩ [(x,u)])/\
    ∀base:Heap,(K w.params).In base->base.Ns mainGlobals mg->FnOk l.prog w (K w.params) mg base (CX w) k fa fd [x] (sp w))
  (hsp:∀(w:World)(H:Hp)(a:Addr)(ns:List Int),ns.length<=n->zL H->SqL (K w.params) H a (ns.map V.int)->sp w [.ref a] H (λv _=>v=.bl true) λ_ _ _=>False)
  (hCX:∀(w:World)(H:Hp)(s:Shared)(e:Value)(s':Shared),CX w [] H s (λ_ _ _=>False) e s'->False):
  PySem.W.WalkO q loose XP YP l.row.toRowW d [] (λf vs=>PySem.call f vs):=by
 refine Att.attach_call hn hdf λw s₀ s₁ mg mb fa o pm cd doc a vs ns G Y ho hd hcd hmg hobj hints hlen hg=>?_;have KX:=hY w _ Y;obtain⟨fd,hb,hF⟩:=F w mg fa _ KX G.T.g hmg;exact zM KX G.T.g G.T.b G.T.builtins G.T.nolimit hg hobj hints (Y2 hlen hn2) hr hF hb (λH hO hS=>hsp w H a ns hlen hO hS) λH e s'=>hCX w H s₁ e s'
noncomputable def defArgs(s:Stmt):Arguments:=match s with
 |.FunctionDef _ a _ _ _ _ _ _ _ _=>a
 |_=>{ posonlyargs:=[],args:=[],vararg:=none,kwonlyargs:=[],kw_defaults:=[],kwarg:=none,defaults:=[] }
noncomputable def defBody(s:Stmt):List Stmt:=match s with
 |.FunctionDef _ _ b _ _ _ _ _ _ _=>b
 |_=>[]
noncomputable def defScope(s:Stmt):Scope:=match s with
 |.FunctionDef _ _ _ _ _ _ sc _ _ _=>sc
 |_=>{ kind:=.function,names:=[],isGenerator:=false,isCoroutine:=false }
noncomputable abbrev E0:XK:=λ_ _ _=>False
structure Fun(K:PySem.W.Frag)(x qual:Str)(st:Stmt)(f:Addr)(fd:FuncData):Prop where
 ex:∃(oc:Value)(od:Option Addr)(kV doc pm:Value)(an:Option Addr)(cdv ct:Value)(osl:Array (Option Value)),
  fd=PySem.W.fnOf x qual (defArgs st) (defBody st) (defScope st) .none kV doc pm an cdv ct/\K.lookup f=some ⟨oc,od,.func fd,osl⟩/\PySem.W.codeIn K cdv qual=true
 kp:PySem.W.keepIn K (.ref f)=true
section
variable{P:Program}{w:World}{K:PySem.W.Frag}{mg:Str->Option Value}{base:Heap}
theorem Fun.binds{qual:Str}{st:Stmt}{f:Addr}{fd:FuncData}{ps:List Str}(F:Fun K x qual st f fd)
  (h:∀(kV doc pm:Value)(an:Option Addr)(cdv ct:Value)(us:List Value),us.length=ps.length->bindArgs (PySem.W.fnOf x qual (defArgs st) (defBody st) (defScope st) .none kV doc pm an cdv ct) ⟨us,[]⟩=pure (ps.zip us)):Binds K fd ps []:=by
 obtain⟨oc,od,kV,doc,pm,an,cdv,ct,osl,rfl,lk,hcd⟩:=F.ex;exact .all (h kV doc pm an cdv ct)
theorem aP{qual:Str}{st:Stmt}{f:Addr}{oc:Value}{od an:Option Addr}{osl:Array (Option Value)}{kV doc pm cdv ct:Value}(l:K.lookup f=some ⟨oc,od,.func (PySem.W.fnOf x qual (defArgs st) (defBody st) (defScope st) .none kV doc pm an cdv ct),osl⟩)
 (c:PySem.W.codeIn K cdv qual=true) (k:PySem.W.keepIn K (.ref f)=true):Fun K x qual st f (PySem.W.fnOf x qual (defArgs st) (defBody st) (defScope st) .none kV doc pm an cdv ct):=⟨⟨oc,od,kV,doc,pm,an,cdv,ct,osl,rfl,l,c⟩,k⟩
end
section
variable{X:Cx}
theorem pv(i:Nat){pos:Pos}(hN:autoParam (X.N[i]?=some x) Au.h1._auto_1)(hv:Vis X.env.scope x)(hd:autoParam ((x == ("__debug__":Str))=false) Au.h2._auto_1)
 (hcd:autoParam ((x == ("__classdict__":Str))=false) Au.h2._auto_1):PE X (.Name x pos) (FK i):=DC hN hv hd hcd
end
theorem qQ{A B:Prop}(h:B):if false=true then A else B:=by rw[Jb Jk];exact h
theorem qR{A B:Prop}(h:A):if true=true then A else B:=by rw[J8 rfl];exact h
section
variable{X:Cx}
theorem pG:bF X (.builtin "len") (λxs H Q=>∃a kvs,xs=[V.ref a]/\H a=some (.dK kvs)/\Q (.int kvs.length) H):=by intro pins s σ H xs us Q I r h;obtain⟨a,kvs,rfl,ha,q⟩:=h;obtain⟨u,rfl,ru⟩:=Wc r;cases ru;exact GD I (.inl ha) λt s' I'=>⟨.int kvs.length,H,I',⟨t,rfl⟩,q⟩
end
end L2
end
set_option autoImplicit false
namespace PD
open PySem
inductive D where
 |non|bl (b:Bool)|int (i:Int)|str (x:Str)
 |tup (xs:List D)|lst (xs:List D)|fz (xs:List D)|dic (kvs:List (Sum Int Str×D))|ref (n:Nat)|ty (n:String)
 /-- a caught exception of an own class;an own class -/
 |exc (c:Str)|cls (c:Str)
 deriving Inhabited
inductive SO where
 |lst (xs:List D)|dic (kvs:List (Sum Int Str×D))|ins (c:Str) (fs:List (Str×D))
 /-- a dict that has been walked: read,changed no more -/
 |fdic (kvs:List (Sum Int Str×D))
 /-- a list that has been walked: read,changed no more -/
 |flst (xs:List D)
 deriving Inhabited
noncomputable abbrev Sto:=List SO
set_option genInjectivity false in
structure XD where
 cls:Str
 arg:D
 deriving Inhabited
inductive R(A:Type) where
 |ok (a:A) (S:Sto)|err (x:XD) (S:Sto)|bad
noncomputable def R.bind{A B:Type}(r:R A)(f:A->Sto->R B):R B:=match r with
 |.ok a S=>f a S | .err x S=>.err x S | .bad=>.bad
theorem R.bind_ok{A B:Type}(a:A)(S:Sto)(f:A->Sto->R B):(R.ok a S).bind f=f a S:=rfl
theorem R.bind_err{A B:Type}(x:XD)(S:Sto)(f:A->Sto->R B):(R.err (A:=A) x S).bind f=.err x S:=rfl
theorem R.bind_bad{A B:Type}(f:A->Sto->R B):(R.bad (A:=A)).bind f=.bad:=rfl
noncomputable def R.of{A:Type}(S:Sto):Option A->R A
 |some a=>.ok a S|none=>.bad
theorem R.of_some{A:Type}(S:Sto)(a:A):R.of S (some a)=.ok a S:=rfl
noncomputable abbrev Rho:=List (Option D)
noncomputable abbrev EM:=Rho->Sto->R D
noncomputable abbrev TM:=Rho->Sto->R Bool
noncomputable abbrev AM:=Rho->Sto->R (List D)
set_option genInjectivity false in
inductive F where
 |nx (r:Rho)|rt (d:D)|bk (r:Rho)|ct (r:Rho)
noncomputable abbrev SM:=Rho->Sto->R F
noncomputable abbrev FM:=List D->Sto->R D
noncomputable def ai(i:Nat):EM:=λr S=>match r[i]? with
 |some (some d)=>.ok d S
 |_=>.bad
noncomputable def eC(d:D):EM:=λ_ S=>.ok d S
noncomputable def eUn(f:Sto->D->Option D)(a:EM):EM:=λr S=>(a r S).bind λx S1=>R.of S1 (f S1 x)
noncomputable def eOp(f:Sto->D->D->Option D)(a b:EM):EM:=λr S=>(a r S).bind λx S1=>(b r S1).bind λy S2=>R.of S2 (f S2 x y)
noncomputable def iT(f g:Sto->D->D->Option D)(a b c:EM):EM:=λr S=>(a r S).bind λx S1=>(b r S1).bind λy S2=>match f S2 x y with
 |some (.bl true)=>(c r S2).bind λz S3=>R.of S3 (g S3 y z)
 |some (.bl false)=>.ok (.bl false) S2
 |_=>.bad
noncomputable def ll(a b:EM):EM:=λr S=>(a r S).bind λx S1=>match x with
 |.bl true=>b r S1
 |.bl false=>.ok (.bl false) S1
 |_=>.bad
noncomputable def eOr(a b:EM):EM:=λr S=>(a r S).bind λx S1=>match x with
 |.bl true=>.ok (.bl true) S1
 |.bl false=>b r S1
 |_=>.bad
noncomputable def En(a:EM):EM:=λr S=>(a r S).bind λx S1=>match x with
 |.bl b=>.ok (.bl (!b)) S1
 |_=>.bad
noncomputable def eIf(t:TM)(a b:EM):EM:=λr S=>(t r S).bind λc S1=>if c=true then a r S1 else b r S1
noncomputable def ao:AM:=λ_ S=>.ok [] S
noncomputable def af(a:EM)(t:AM):AM:=λr S=>(a r S).bind λx S1=>(t r S1).bind λxs S2=>.ok (x::xs) S2
noncomputable def dE(t:AM):EM:=λr S=>(t r S).bind λxs S1=>if xs.length<=sizeLine then .ok (.tup xs) S1 else .bad
noncomputable def jM(t:AM):EM:=λr S=>(t r S).bind λxs S1=>if xs.length<=sizeLine then .ok (.lst xs) S1 else .bad
noncomputable def eNew(t:AM):EM:=λr S=>(t r S).bind λxs S1=>if xs.length<=sizeLine then .ok (.ref S1.length) (S1++[.lst xs]) else .bad
noncomputable def aw(f:FM)(t:AM):EM:=λr S=>(t r S).bind λxs S1=>f xs S1
noncomputable def eB(f:Sto->List D->Option D)(t:AM):EM:=λr S=>(t r S).bind λxs S1=>R.of S1 (f S1 xs)
noncomputable def eBN(f:Sto->List D->Option SO)(t:AM):EM:=λr S=>(t r S).bind λxs S1=>match f S1 xs with
 |some o=>.ok (.ref S1.length) (S1++[o])
 |none=>.bad
noncomputable def tV(a:EM):TM:=λr S=>(a r S).bind λx S1=>match x with
 |.bl b=>.ok b S1
 |_=>.bad
noncomputable def nz(a b:TM):TM:=λr S=>(a r S).bind λc S1=>if c=true then b r S1 else .ok false S1
noncomputable def tOr(a b:TM):TM:=λr S=>(a r S).bind λc S1=>if c=true then .ok true S1 else b r S1
noncomputable def gI(a:TM):TM:=λr S=>(a r S).bind λc S1=>.ok (!c) S1
noncomputable def R.nx{A:Type}:R A->R A
 |.err _ _=>.bad
 |r=>r
noncomputable def eNx(a:EM):EM:=λr S=>(a r S).nx
noncomputable def tNx(a:TM):TM:=λr S=>(a r S).nx
noncomputable def aNx(a:AM):AM:=λr S=>(a r S).nx
noncomputable def bL:SM:=λr S=>.ok (.nx r) S
noncomputable def zN:SM:=λ_ _=>.bad
noncomputable def aC(a b:SM):SM:=λr S=>(a r S).bind λf S1=>match f with
 |.nx r1=>b r1 S1
 |g=>.ok g S1
noncomputable def aV(a:EM):SM:=λr S=>(a r S).bind λx S1=>.ok (.rt x) S1
noncomputable def Ht:SM:=λ_ S=>.ok (.rt .non) S
noncomputable def bW(a:EM):SM:=λr S=>(a r S).bind λ_ S1=>.ok (.nx r) S1
noncomputable def sIf(t:TM)(a b:SM):SM:=λr S=>(t r S).bind λc S1=>if c=true then a r S1 else b r S1
noncomputable def Hm:SM:=λr S=>.ok (.bk r) S
noncomputable def Hu:SM:=λr S=>.ok (.ct r) S
set_option genInjectivity false in
inductive G where
 |nm (i:Nat)|tp (gs:List G)
mutual
noncomputable def G.put:G->D->Rho->Option Rho
 |.nm i,d,r=>some (r.set i (some d))
 |.tp gs,d,r=>match d with
  |.tup xs=>G.puts gs xs r
  |_=>none
noncomputable def G.puts:List G->List D->Rho->Option Rho
 |[],[],r=>some r
 |g::gs,x::xs,r=>match G.put g x r with
  |some r1=>G.puts gs xs r1
  |none=>none
 |_,_,_=>none
end
noncomputable def aT(i:Nat)(a:EM):SM:=λr S=>(a r S).bind λx S1=>.ok (.nx (r.set i (some x))) S1
noncomputable def Eo(g:G)(a:EM):SM:=λr S=>(a r S).bind λx S1=>match g.put x r with
 |some r1=>.ok (.nx r1) S1
 |none=>.bad
noncomputable def B6(i j:Nat)(t:AM):SM:=λr S=>(t r S).bind λxs S1=>match xs with
 |[x,y]=>.ok (.nx ((r.set i (some x)).set j (some y))) S1
 |_=>.bad
noncomputable def nE(f:Sto->D->D->D->Option Sto)(e o i:EM):SM:=λr S=>(e r S).bind λv S1=>(o r S1).bind λx S2=>(i r S2).bind λy S3=>match f S3 x y v with
 |some S4=>.ok (.nx r) S4
 |none=>.bad
noncomputable def Hv(f:Sto->D->List D->Option Sto)(o:EM)(t:AM):SM:=λr S=>(o r S).bind λx S1=>(t r S1).bind λys S2=>match f S2 x ys with
 |some S3=>.ok (.nx r) S3
 |none=>.bad
noncomputable def sNx(a:SM):SM:=λr S=>(a r S).nx
noncomputable def Hn(c:Str)(t:AM):SM:=λr S=>(t r S).bind λxs S1=>if xs.length<=sizeLine then .err ⟨c,.tup xs⟩ S1 else .bad
noncomputable def Hw(cs:List Str)(i n:Nat)(b h:SM):SM:=λr S=>match b r S with
 |.err x S1=>if cs.contains x.cls=true then (h ((List.replicate n none).set i (some (.exc x.cls))) S1).nx.bind λf S2=>match f with
   |.rt d=>.ok (.rt d) S2
   |_=>.bad
  else .bad
 |.ok f S1=>.ok f S1
 |.bad=>.bad
noncomputable def forL(g:G)(b:SM):List D->SM
 |[]=>λr S=>.ok (.nx r) S
 |x::xs=>λr S=>match g.put x r with
  |none=>.bad
  |some r1=>(b r1 S).bind λf S1=>match f with
   |.nx r2=>forL g b xs r2 S1
   |.ct r2=>forL g b xs r2 S1
   |.bk r2=>.ok (.nx r2) S1
   |.rt d=>.ok (.rt d) S1
noncomputable def gJ(it:AM)(g:G)(b:SM):SM:=λr S=>(it r S).bind λxs S1=>forL g b xs r S1
noncomputable def bS(t:TM)(b:SM):Nat->SM
 |0=>λ_ _=>.bad
 |n+1=>λr S=>(t r S).bind λc S1=>if c=true then (b r S1).bind λf S2=>match f with
   |.nx r2=>bS t b n r2 S2
   |.ct r2=>bS t b n r2 S2
   |.bk r2=>.ok (.nx r2) S2
   |.rt d=>.ok (.rt d) S2
  else .ok (.nx r) S1
noncomputable def dZ(k:Nat)(caps:List Nat)(r:Rho):Rho:=List.replicate k none++caps.map λi=>(r[i]?).join
noncomputable def cS(g:G)(t:TM)(e:EM):List D->Rho->Sto->R (List D)
 |[],_,S=>.ok [] S
 |x::xs,r,S=>match g.put x r with
  |none=>.bad
  |some r1=>(t r1 S).bind λc S1=>if c=true then (e r1 S1).bind λy S2=>(cS g t e xs r1 S2).bind λys S3=>.ok (y::ys) S3
    else cS g t e xs r1 S1
noncomputable def aU(it:AM)(k:Nat)(caps:List Nat)(g:G)(t:TM)(e:EM):EM:=λr S=>(it r S).bind λxs S1=>
 if xs.length<=sizeLine then (cS g t e xs (dZ k caps r) S1).bind λys S2=>.ok (.lst ys) S2 else .bad
noncomputable def bf:TM:=λ_ S=>.ok true S
noncomputable def fnM(n:Nat)(b:SM):FM:=λds S=>(b (ds.map some++List.replicate (n-ds.length) none) S).bind λf S1=>match f with
 |.rt d=>.ok d S1
 |.nx _=>.ok .non S1
 |_=>.bad
end PD
namespace PD
open PySem PySem.Spec PyProof.Rows L2
variable{H H' H2:Hp}{a p:Addr}{o:HO}{n:Nat}{r:Rho}{X:Cx}{e tg:Expr}{t:TT}{x:Str}{i:Int}{T:String}{op:CmpOp}{rest es:List Expr}{mt:TM}{ms:AM}{S:Sto}{qb:Bool}{N:List Str}{env:Env}{scope:Scope}{caps:List Nat}{ma:EM}{pins:List (Addr×Obj)}{s:Shared}
set_option genInjectivity false in
structure Wd where
 st:List Addr
 hid:List Addr
variable{w w' w2:Wd}
def Wd.no(w:Wd)(a:Addr):Prop:=a∉w.st/\a∉w.hid
noncomputable def Wd.add(w:Wd)(p:Addr):Wd:=⟨w.st++[p],w.hid⟩
noncomputable def Wd.hide(w:Wd)(p:Addr):Wd:=⟨w.st,p::w.hid⟩
def At(w:Wd)(H:Hp)(a:Addr)(o:HO):Prop:=H a=some o/\w.no a
def sW(K:PySem.W.Frag)(a:Addr)(vs:List V):Prop:=
 ∃(o:Obj)(its:Array Value)(n:Nat),K.lookup a=some o/\o.cls=.type "tuple"/\o.data=.seq its n/\its.size<=sizeLine/\Vals vs its.toList
def Ho(K:PySem.W.Frag)(a:Addr)(vs:List V):Prop:=
 ∃(o:Obj)(its:Array Value)(n:Nat),K.lookup a=some o/\o.cls=.type "list"/\o.dict=none/\o.data=.seq its n/\its.size<=sizeLine/\Vals vs its.toList
def vm(K:PySem.W.Frag)(w:Wd)(H:Hp)(a:Addr)(vs:List V):Prop:=(∃o,At w H a (.frz o (.lst vs)))\/Ho K a vs
theorem vm.sq{K:PySem.W.Frag}{vs:List V}(h:vm K w H a vs):SqL K H a vs:=h.elim (λ⟨o,z⟩=>.inl (.inr ⟨o,z.1⟩)) .inr
noncomputable def ExcAt(a:Addr)(C:Value):Heap->Prop:=λh=>∃o,h.get? a=some o/\o.cls=C
mutual
noncomputable def RD(K:PySem.W.Frag)(w:Wd)(H:Hp):D->V->Prop
 |.non,v=>v=.non
 |.bl b,v=>v=.bl b
 |.int i,v=>v=.int i
 |.str x,v=>v=.str x
 |.tup ds,v=>∃a vs,v=.ref a/\(At w H a (.tup vs)\/sW K a vs)/\RDs K w H ds vs
 |.lst ds,v=>∃a vs,v=.ref a/\At w H a (.lst vs)/\RDs K w H ds vs
 |.fz ds,v=>∃a vs,v=.ref a/\vm K w H a vs/\RDs K w H ds vs
 |.dic kvs,v=>∃a us,v=.ref a/\At w H a (.dK us)/\RDk K w H kvs us
 |.ref n,v=>∃a,v=.ref a/\w.st[n]?=some a
 |.ty n,v=>v=.ty n
 |.exc c,v=>∃a C o,v=.ref a/\PySem.W.nsIn K mainGlobals c=some (some C)/\At w H a (.frz o (.ext (ExcAt a C)))
 |.cls c,v=>∃C,PySem.W.nsIn K mainGlobals c=some (some (.ref C))/\v=.ref C
noncomputable def RDs(K:PySem.W.Frag)(w:Wd)(H:Hp):List D->List V->Prop
 |[],vs=>vs=[]
 |d::ds,vs=>∃v r,vs=v::r/\RD K w H d v/\RDs K w H ds r
noncomputable def RDk(K:PySem.W.Frag)(w:Wd)(H:Hp):List (Sum Int Str×D)->List (Key×V)->Prop
 |[],us=>us=[]
 |(k,d)::ds,us=>∃v r,us=(k,v)::r/\RD K w H d v/\RDk K w H ds r
end
structure Ext(w:Wd)(H:Hp)(w':Wd)(H':Hp):Prop where
 keep:∀a o,H a=some o->a∉w.st->H' a=some o
 sub:∃l,w'.st=w.st++l/\∀a∈l,H a=none
 hid:∀a,a∈w.hid->a∈w'.hid
 hnew:∀a,a∈w'.hid->a∈w.hid\/H a=none
 frz:∀a o u,H a=some (.frz o u)->H' a=some (.frz o u)
theorem Ext.refl(w:Wd)(H:Hp):Ext w H w H:=⟨λ_ _ h _=>h,⟨[],by simp,λ_ h=>nomatch h⟩,λ_ h=>h,λ_ h=>.inl h,λ_ _ _ h=>h⟩
theorem Ext.out(x:Ext w H w' H')(h:H a=some o)(n:a∉w.st):a∉w'.st:=by
 obtain⟨l,e,f⟩:=x.sub;rw[e];intro z;rcases Jr.mp z with z|z
 ·exact n z
 ·rw[f a z]at h;cases h
theorem Ext.at(x:Ext w H w' H')(h:At w H a o):At w' H' a o:=⟨x.keep a o h.1 h.2.1,x.out h.1 h.2.1,λz=>(x.hnew a z).elim h.2.2 λe=>by rw[h.1]at e;cases e⟩
theorem Ext.get(x:Ext w H w' H')(h:w.st[n]?=some a):w'.st[n]?=some a:=by obtain⟨l,e,f⟩:=x.sub;rw[e,Jv (Ja.mp h).1];exact h
theorem Ext.trans{w1:Wd}{H1:Hp}(x:Ext w H w1 H1)(y:Ext w1 H1 w2 H2)(fr:∀a∈w.st,∃o,H a=some o/\∃o',H1 a=some o'):Ext w H w2 H2:=by
 have hno:∀a,H1 a=none->H a=none:=λa z=>by
  cases e:H a with
  |none=>rfl
  |some o=>
   by_cases hw:a∈w.st
   ·obtain⟨_,_,o',e'⟩:=fr a hw;rw[z]at e';cases e'
   ·have:=x.keep a o e hw;rw[z]at this;cases this
 refine⟨λa o h n=>y.keep a o (x.keep a o h n) (x.out h n),?_,λa h=>y.hid a (x.hid a h),λa h=>(y.hnew a h).elim (x.hnew a) λz=>.inr (hno a z),λa o u h=>y.frz a o u (x.frz a o u h)⟩;obtain⟨l,e1,f⟩:=x.sub;obtain⟨l2,e2,f2⟩:=y.sub
 refine⟨l++l2,by rw[e2,e1];simp,λa ha=>?_⟩
 rcases Jr.mp ha with z|z
 ·exact f a z
 ·exact hno a (f2 a z)
section
variable{K:PySem.W.Frag}{w w':Wd}{H H':Hp}
mutual
theorem RD.ext(x:Ext w H w' H'):∀(d:D)(v:V),RD K w H d v->RD K w' H' d v
 |.non,_,h=>h
 |.bl _,_,h=>h
 |.int _,_,h=>h
 |.str _,_,h=>h
 |.tup ds,v,h=>by unfold RD at h ⊢;obtain⟨a,vs,e,p,r⟩:=h;exact⟨a,vs,e,p.imp x.at id,RDs.ext x ds vs r⟩
 |.lst ds,v,h=>by unfold RD at h ⊢;obtain⟨a,vs,e,p,r⟩:=h;exact⟨a,vs,e,x.at p,RDs.ext x ds vs r⟩
 |.fz ds,v,h=>by unfold RD at h ⊢;obtain⟨a,vs,e,p,r⟩:=h;exact⟨a,vs,e,p.imp (λ⟨o,z⟩=>⟨o,x.at z⟩) id,RDs.ext x ds vs r⟩
 |.dic kvs,v,h=>by unfold RD at h ⊢;obtain⟨a,us,e,p,r⟩:=h;exact⟨a,us,e,x.at p,RDk.ext x kvs us r⟩
 |.ref n,v,h=>by unfold RD at h ⊢;obtain⟨a,e,p⟩:=h;exact⟨a,e,x.get p⟩
 |.ty _,_,h=>h
 |.exc c,v,h=>by unfold RD at h ⊢;obtain⟨a,C,o,e,q,p⟩:=h;exact⟨a,C,o,e,q,x.at p⟩
 |.cls _,_,h=>h
theorem RDs.ext(x:Ext w H w' H'):∀(ds:List D)(vs:List V),RDs K w H ds vs->RDs K w' H' ds vs
 |[],_,h=>h
 |d::ds,vs,h=>by unfold RDs at h ⊢;obtain⟨v,r,e,p,q⟩:=h;exact⟨v,r,e,RD.ext x d v p,RDs.ext x ds r q⟩
theorem RDk.ext(x:Ext w H w' H'):∀(ds:List (Sum Int Str×D))(vs:List (Key×V)),RDk K w H ds vs->RDk K w' H' ds vs
 |[],_,h=>h
 |(k,d)::ds,vs,h=>by unfold RDk at h ⊢;obtain⟨v,r,e,p,q⟩:=h;exact⟨v,r,e,RD.ext x d v p,RDk.ext x ds r q⟩
end
end
def RDf(K:PySem.W.Frag)(w:Wd)(H:Hp)(fs:List (Str×D))(us:List (Str×V)):Prop:=fs.map (·.1)=us.map (·.1)/\RDs K w H (fs.map (·.2)) (us.map (·.2))
noncomputable def RO(K:PySem.W.Frag)(w:Wd)(H:Hp)(a:Addr):SO->Prop
 |.lst ds=>∃vs,H a=some (.lst vs)/\RDs K w H ds vs
 |.dic kvs=>∃us,H a=some (.dK us)/\RDk K w H kvs us
 |.fdic kvs=>∃o us,H a=some (.frz o (.dK us))/\RDk K w H kvs us
 |.ins c fs=>∃C dx us,PySem.W.nsIn K mainGlobals c=some (some (.ref C))/\H a=some (.ins C dx us)/\RDf K w H fs us
 |.flst ds=>∃o vs,H a=some (.frz o (.lst vs))/\RDs K w H ds vs
structure RS(K:PySem.W.Frag)(w:Wd)(H:Hp)(S:Sto):Prop where
 nd:w.st.Nodup
 len:w.st.length=S.length
 obj:∀(n:Nat)(o:SO),S[n]?=some o->∃a:Addr,w.st[n]?=some a/\RO K w H a o
 hid:∀a∈w.hid,a∉w.st/\∃o,H a=some o
section
variable{K:PySem.W.Frag}{w w':Wd}{H H':Hp}{S:Sto}
theorem RS.there(s:RS K w H S)(ha:a∈w.st):∃o,H a=some o:=by
 obtain⟨n,hn⟩:=List.mem_iff_getElem?.mp ha
 have hl:n<S.length:=by rw[<- s.len];exact(Ja.mp hn).1
 obtain⟨b,hb,r⟩:=s.obj n S[n] (Jd hl);rw[hn]at hb;cases hb;revert r;cases S[n] with
 |lst ds=>rintro⟨vs,e,_⟩;exact⟨_,e⟩
 |dic kvs=>rintro⟨vs,e,_⟩;exact⟨_,e⟩
 |fdic kvs=>rintro⟨o,vs,e,_⟩;exact⟨_,e⟩
 |ins c fs=>rintro⟨C,dx,us,_,e,_⟩;exact⟨_,e⟩
 |flst ds=>rintro⟨o,vs,e,_⟩;exact⟨_,e⟩
theorem RS.freshS(s:RS K w H S)(h:H a=none):a∉w.st:=λz=>by obtain⟨o,e⟩:=s.there z;rw[h]at e;cases e
theorem RS.fresh(s:RS K w H S)(h:H a=none):w.no a:=⟨s.freshS h,λz=>by
 obtain⟨_,o,e⟩:=s.hid a z
 rw[h]at e;cases e⟩
theorem Ext.trans'{w1:Wd}{H1:Hp}{S1:Sto}(x:Ext w H w1 H1)(y:Ext w1 H1 w2 H2)(s:RS K w H S)(s1:RS K w1 H1 S1):Ext w H w2 H2:=
 x.trans y λa ha=>by
  obtain⟨o,e⟩:=s.there ha;obtain⟨l,el,_⟩:=x.sub
  obtain⟨o',e'⟩:=s1.there (a:=a) (by rw[el];exact Qq _ ha)
  exact⟨o,e,o',e'⟩
theorem Ext.new(hp:H p=none):Ext w H w (upd H p o):=
 ⟨λa u e _=>by rw[aN (aS e hp)];exact e,⟨[],by simp,λ_ z=>nomatch z⟩,λ_ h=>h,λ_ h=>.inl h,λa o u e=>by rw[aN (aS e hp)];exact e⟩
theorem RO.ext(x:Ext w H w' H'){o:SO}(hk:∀u,H a=some u->H' a=some u)(r:RO K w H a o):RO K w' H' a o:=by
 cases o with
 |lst ds=>obtain⟨vs,e,q⟩:=r;exact⟨vs,hk _ e,RDs.ext x _ _ q⟩
 |dic kvs=>obtain⟨vs,e,q⟩:=r;exact⟨vs,hk _ e,RDk.ext x _ _ q⟩
 |fdic kvs=>obtain⟨o,vs,e,q⟩:=r;exact⟨o,vs,hk _ e,RDk.ext x _ _ q⟩
 |ins c fs=>obtain⟨C,dx,us,n,e,q1,q2⟩:=r;exact⟨C,dx,us,n,hk _ e,q1,RDs.ext x _ _ q2⟩
 |flst ds=>obtain⟨o,vs,e,q⟩:=r;exact⟨o,vs,hk _ e,RDs.ext x _ _ q⟩
theorem RS.new(s:RS K w H S)(hp:H p=none):RS K w (upd H p o) S:=
  ⟨s.nd,s.len,λn so e=>by
    obtain⟨a,ha,r⟩:=s.obj n so e
    exact⟨a,ha,r.ext (Ext.new hp) λu q=>by rw[aN (aS q hp)];exact q⟩,
   λa ha=>by
    obtain⟨h1,u,e⟩:=s.hid a ha
    exact⟨h1,u,by rw[aN (aS e hp)];exact e⟩⟩
theorem Ext.alloc(hp:H p=none):Ext w H (w.add p) (upd H p o):=
 ⟨λa u e _=>by rw[aN (aS e hp)];exact e,⟨[p],rfl,λa ha=>by
  have:a=p:=by simpa using ha
  subst this;exact hp⟩,λ_ h=>h,λ_ h=>.inl h,λa o u e=>by rw[aN (aS e hp)];exact e⟩
theorem RS.alloc{so:SO}(s:RS K w H S)(hp:H p=none)(r:RO K (w.add p) (upd H p o) p so):RS K (w.add p) (upd H p o) (S++[so]):=by
 have np:=s.freshS hp
 refine⟨?_,by simp[Wd.add,s.len],λn so' e=>?_,λa ha=>?_⟩
 ·show(w.st++[p]).Nodup;rw[Ue]
  exact⟨s.nd,by simp,λa ha b hb=>by
   have:b=p:=by simpa using hb
   subst this;rintro rfl
   exact np ha⟩
 ·by_cases hn:n<S.length
  ·rw[Jv hn]at e;obtain⟨a,ha,q⟩:=s.obj n so' e
   exact⟨a,(Ext.alloc (o:=o) hp).get ha,q.ext (Ext.alloc hp) λu z=>by rw[aN (aS z hp)];exact z⟩
  ·have hn':n=S.length:=by have:=(Ja.mp e).1;simp at this;omega
   subst hn';simp at e;subst e
   exact⟨p,by show(w.st++[p])[S.length]?=some p;rw[<- s.len];simp,r⟩
 ·obtain⟨h1,u,e⟩:=s.hid a ha
  refine⟨?_,u,by rw[aN (aS e hp)];exact e⟩
  show a∉w.st++[p];intro z;rcases Jr.mp z with z|z
  ·exact h1 z
  ·have:a=p:=by simpa using z
   subst this;rw[hp]at e;cases e
theorem Ext.mut{u0:HO}(hp:p∈w.st)(h0:H p=some u0)(hu:autoParam (∀o u,u0≠.frz o u) Au.h8._auto_1):Ext w H w (upd H p o):=
 ⟨λa u e n=>by rw[aN (λz:a=p=>n (z▸hp))];exact e,⟨[],by simp,λ_ z=>nomatch z⟩,λ_ h=>h,λ_ h=>.inl h,λa o u e=>by rw[aN (λz:a=p=>by rw[z,h0]at e;exact hu o u (Yp e))];exact e⟩
theorem RS.mut{so:SO}(s:RS K w H S)(hp:w.st[n]?=some p){u0:HO}(h0:H p=some u0)(r:RO K w (upd H p o) p so)(hu:autoParam (∀o u,u0≠.frz o u) Au.h8._auto_1):RS K w (upd H p o) (S.set n so):=by
 have hm:p∈w.st:=Z3 hp
 refine⟨s.nd,by simp[s.len],λm so' e=>?_,λa ha=>?_⟩
 ·by_cases hn:m=n
  ·subst hn
   have hl:m<S.length:=by rw[<- s.len];exact(Ja.mp hp).1
   rw[Y8 hl]at e;cases e;exact⟨p,hp,r⟩
  ·rw[Yc (Ne.symm hn)]at e;obtain⟨a,ha,q⟩:=s.obj m so' e;refine⟨a,ha,q.ext (Ext.mut hm h0 hu) λu z=>?_⟩
   have:a≠p:=λz=>by subst z;obtain⟨h1,e1⟩:=Ja.mp ha;obtain⟨h2,e2⟩:=Ja.mp hp;exact hn ((List.getElem_inj s.nd).mp (e1.trans e2.symm))
   rw[aN this];exact z
 ·obtain⟨h1,u,e⟩:=s.hid a ha
  exact⟨h1,u,by rw[aN (λz:a=p=>h1 (z▸hm))];exact e⟩
end
def RSt(K:PySem.W.Frag)(w:Wd)(H:Hp)(r:Rho)(s:L2.St):Prop:=
 s.length=r.length/\∀(i:Nat)(d:D),r[i]?=some (some d)->∃v,s[i]?=some (some v)/\RD K w H d v
theorem RSt.ext{K:PySem.W.Frag}{s:L2.St}(h:RSt K w H r s)(x:Ext w H w' H'):RSt K w' H' r s:=
 ⟨h.1,λi d e=>let ⟨v,e1,q⟩:=h.2 i d e;⟨v,e1,RD.ext x d v q⟩⟩
theorem RSt.set{K:PySem.W.Frag}{s:L2.St}(h:RSt K w H r s)(i:Nat){d:D}{v:V}(q:RD K w H d v):RSt K w H (r.set i (some d)) (s.set i (some v)):=by
 refine⟨by simp[h.1],λj d' e=>?_⟩
 by_cases hj:j=i
 ·subst hj
  have hl:j<r.length:=by have:=(Ja.mp e).1;simpa using this
  rw[Y8 hl]at e;cases e
  exact⟨v,Y8 (by rw[h.1];exact hl),q⟩
 ·rw[Yc (Ne.symm hj)]at e;obtain⟨v',e',q'⟩:=h.2 j d' e
  exact⟨v',by rw[Yc (Ne.symm hj)];exact e',q'⟩
section
variable{K:PySem.W.Frag}{w:Wd}{H:Hp}
theorem RDs.nil:RDs K w H [] []:=by unfold RDs;rfl
theorem RDs.cons{d:D}{v:V}{ds:List D}{vs:List V}(r:RD K w H d v)(q:RDs K w H ds vs):RDs K w H (d::ds) (v::vs):=by unfold RDs;exact⟨v,vs,rfl,r,q⟩
theorem RDs.nil_inv{vs:List V}(h:RDs K w H [] vs):vs=[]:=by unfold RDs at h;exact h
theorem RDs.cons_inv{d:D}{ds:List D}{vs:List V}(h:RDs K w H (d::ds) vs):∃v r,vs=v::r/\RD K w H d v/\RDs K w H ds r:=by unfold RDs at h;exact h
theorem RDs.one_inv{d:D}{vs:List V}(h:RDs K w H [d] vs):∃v,vs=[v]/\RD K w H d v:=by obtain⟨v,r,rfl,h1,h2⟩:=h.cons_inv;rw[h2.nil_inv];exact⟨v,rfl,h1⟩
theorem RDs.two_inv{d e:D}{vs:List V}(h:RDs K w H [d,e] vs):∃v u,vs=[v,u]/\RD K w H d v/\RD K w H e u:=by obtain⟨v,r,rfl,h1,h2⟩:=h.cons_inv;obtain⟨u,rfl,h3⟩:=h2.one_inv;exact⟨v,u,rfl,h1,h3⟩
theorem RDs.length:∀{ds:List D}{vs:List V},RDs K w H ds vs->vs.length=ds.length
 |[],_,h=>by rw[h.nil_inv];rfl
 |_::_,_,h=>by obtain⟨v,r,rfl,_,q⟩:=h.cons_inv;simp[q.length]
theorem RDs.get:∀{ds:List D}{vs:List V}{i:Nat}{d:D},RDs K w H ds vs->ds[i]?=some d->∃v,vs[i]?=some v/\RD K w H d v
 |[],_,_,_,_,e=>by simp at e
 |_::_,_,0,_,h,e=>by obtain⟨v,r,rfl,p,_⟩:=h.cons_inv;simp at e;subst e;exact⟨v,rfl,p⟩
 |_::ds,_,i+1,d,h,e=>by
  obtain⟨v,r,rfl,_,q⟩:=h.cons_inv
  obtain⟨u,e1,q1⟩:=q.get (i:=i) (d:=d) (by simpa using e)
  exact⟨u,by simpa using e1,q1⟩
theorem RDs.append:∀{ds es:List D}{vs us:List V},RDs K w H ds vs->RDs K w H es us->RDs K w H (ds++es) (vs++us)
 |[],_,_,_,h,q=>by rw[h.nil_inv];exact q
 |_::_,_,_,_,h,q=>by obtain⟨v,r,rfl,p,t⟩:=h.cons_inv;exact .cons p (t.append q)
theorem RDs.take:∀{ds:List D}{vs:List V}(n:Nat),RDs K w H ds vs->RDs K w H (ds.take n) (vs.take n)
 |_,_,0,_=>by simp;exact .nil
 |[],_,_+1,h=>by rw[h.nil_inv];simp;exact .nil
 |_::_,_,n+1,h=>by obtain⟨v,r,rfl,p,t⟩:=h.cons_inv;exact .cons p (t.take n)
theorem RDs.drop:∀{ds:List D}{vs:List V}(n:Nat),RDs K w H ds vs->RDs K w H (ds.drop n) (vs.drop n)
 |_,_,0,h=>h
 |[],_,_+1,h=>by rw[h.nil_inv];simp;exact .nil
 |_::_,_,n+1,h=>by obtain⟨v,r,rfl,_,t⟩:=h.cons_inv;exact t.drop n
theorem RDs.set{d:D}{v:V}(r:RD K w H d v):∀{ds:List D}{vs:List V}(i:Nat),RDs K w H ds vs->RDs K w H (ds.set i d) (vs.set i v)
 |[],_,_,h=>by rw[h.nil_inv];exact .nil
 |_::_,_,0,h=>by obtain⟨_,_,rfl,_,t⟩:=h.cons_inv;exact .cons r t
 |_::_,_,i+1,h=>by obtain⟨_,_,rfl,p,t⟩:=h.cons_inv;exact .cons p (RDs.set r i t)
end
def RX(K:PySem.W.Frag)(w:Wd)(H:Hp)(x:XD)(c:Value)(da:Option Addr):Prop:=PySem.W.nsIn K mainGlobals x.cls=some (some c)
def aF{A B:Type}(K:PySem.W.Frag)(E:XK)(rel:Wd->Hp->A->B->Prop)(w:Wd)(H:Hp)(r:R A)(Q:B->Hp->Prop):Prop:=match r with
 |.ok a S'=>∀w' H' b,Ext w H w' H'->rel w' H' a b->RS K w' H' S'->Q b H'
 |.err x S'=>∀w' H' c da,Ext w H w' H'->RS K w' H' S'->RX K w' H' x c da->E c da H'
 |.bad=>False
section
variable{A B A2 B2:Type}{K:PySem.W.Frag}{E:XK}{rel:Wd->Hp->A->B->Prop}{rel2:Wd->Hp->A2->B2->Prop}{w w1:Wd}{H H1:Hp}{S S1:Sto}
theorem aF.ext{r:R A}{Q:B->Hp->Prop}(h:aF K E rel w H r Q)(x:Ext w H w1 H1)(s:RS K w H S)(s1:RS K w1 H1 S1):aF K E rel w1 H1 r Q:=by
 cases r with
 |ok a S'=>exact λw' H' b y q t=>h w' H' b (x.trans' y s s1) q t
 |err e S'=>exact λw' H' c da y t q=>h w' H' c da (x.trans' y s s1) t q
 |bad=>exact h
theorem aF.bind{r:R A}{f:A->Sto->R A2}{Q':B->Hp->Prop}{Q:B2->Hp->Prop}(h:aF K E rel2 w H (r.bind f) Q)(s:RS K w H S)
  (k:∀a S1 w1 H1 b,Ext w H w1 H1->rel w1 H1 a b->RS K w1 H1 S1->aF K E rel2 w1 H1 (f a S1) Q->Q' b H1):aF K E rel w H r Q':=by
 cases r with
 |ok a S'=>exact λw1 H1 b x q s1=>k a S' w1 H1 b x q s1 (aF.ext (r:=f a S') h x s s1)
 |err e S'=>exact h
 |bad=>exact h
theorem aF.bindAt{w0:Wd}{H0:Hp}{S0:Sto}{r:R A}{f:A->Sto->R A2}{Q':B->Hp->Prop}{Q:B2->Hp->Prop}(h:aF K E rel2 w0 H0 (r.bind f) Q)(x:Ext w0 H0 w H)(s0:RS K w0 H0 S0)(s:RS K w H S)
  (k:∀a S1 w1 H1 b,Ext w H w1 H1->rel w1 H1 a b->RS K w1 H1 S1->aF K E rel2 w0 H0 (f a S1) Q->Q' b H1):aF K E rel w H r Q':=by
 cases r with
 |ok a S'=>exact λw1 H1 b y q s1=>k a S' w1 H1 b y q s1 h
 |err e S'=>exact λw' H' c da y t q=>h w' H' c da (x.trans' y s0 s) t q
 |bad=>exact h
theorem aF.ret{a:A}{b:B}{Q:B->Hp->Prop}(h:aF K E rel w H (.ok a S) Q)(q:rel w H a b)(s:RS K w H S):Q b H:=h w H b (Ext.refl w H) q s
theorem aF.at{a:A}{b:B}{Q:B->Hp->Prop}(h:aF K E rel w H (.ok a S) Q)(x:Ext w H w1 H1)(q:rel w1 H1 a b)(s:RS K w1 H1 S):Q b H1:=h w1 H1 b x q s
theorem aF.of{o:Option A}{Q:B->Hp->Prop}(h:aF K E rel w H (R.of S o) Q):∃a,o=some a/\aF K E rel w H (.ok a S) Q:=by
 cases o with
 |some a=>exact⟨a,rfl,h⟩
 |none=>exact h.elim
end
set_option genInjectivity false in
inductive FV where
 |nx (s:L2.St)|rt (v:V)|bk (s:L2.St)|ct (s:L2.St)
noncomputable def FV.to(D:Ends):FV->Hp->Prop
 |.nx s,H=>D.nx s H
 |.rt v,H=>D.rt v H
 |.bk s,H=>D.bk s H
 |.ct s,H=>D.ct s H
noncomputable def RF(K:PySem.W.Frag)(w:Wd)(H:Hp):F->FV->Prop
 |.nx r,f=>∃s,f=.nx s/\RSt K w H r s
 |.rt d,f=>∃v,f=.rt v/\RD K w H d v
 |.bk r,f=>∃s,f=.bk s/\RSt K w H r s
 |.ct r,f=>∃s,f=.ct s/\RSt K w H r s
def RB(w:Wd)(H:Hp)(a b:Bool):Prop:=b=a
noncomputable def uE(K:PySem.W.Frag)(E:XK)(m:EM):TE:=λs H Q=>∃w r S,RSt K w H r s/\RS K w H S/\aF K E (RD K) w H (m r S) Q
noncomputable def uT(K:PySem.W.Frag)(E:XK)(m:TM):TT:=λs H Q=>∃w r S,RSt K w H r s/\RS K w H S/\aF K E RB w H (m r S) Q
noncomputable def uA(K:PySem.W.Frag)(E:XK)(m:AM):TA:=λs H Q=>∃w r S,RSt K w H r s/\RS K w H S/\aF K E (RDs K) w H (m r S) Q
noncomputable def uS(K:PySem.W.Frag)(E:XK)(m:SM):TS:=λD s H=>∃w r S,RSt K w H r s/\RS K w H S/\aF K E (RF K) w H (m r S) (FV.to D)
theorem ex6{K:PySem.W.Frag}{s:L2.St}{c:Wd->Rho->Sto->Prop}{P:Prop}(z:∃w r S,RSt K w H r s/\RS K w H S/\c w r S)(f:∀w r S,RSt K w H r s->RS K w H S->c w r S->P):P:=by obtain⟨w,r,S,x,y,z⟩:=z;exact f w r S x y z
theorem ex8.{u} {α:Type u} {a:Wd->Rho->Prop} {b:Wd->Rho->α->Rho->Prop} {c:Wd->Rho->α->Rho->Prop} {d:Wd->Rho->α->Rho->Prop} {P:Prop} (z:∃w r e r',a w r/\b w r e r'/\c w r e r'/\d w r e r') (f:∀w r e r',a w r->b w r e r'->c w r e r'->d w r e r'->P):P:=by obtain⟨w,r,e,r',x,y,z,t⟩:=z;exact f w r e r' x y z t
structure Bx(p:Prop):Prop where
 out:p
abbrev SE(X:Cx)(E:XK)(e:Expr)(m:EM):Prop:=Bx (PE X e (uE X.K E m))
abbrev ST(X:Cx)(E:XK)(e:Expr)(m:TM):Prop:=Bx (PT X e (uT X.K E m))
abbrev SW(X:Cx)(E:XK)(e:Expr)(m:TM):Prop:=Bx (PW X e (uT X.K E m))
abbrev SA(X:Cx)(E:XK)(es:List Expr)(m:AM):Prop:=Bx (PA X es (uA X.K E m))
abbrev SS(X:Cx)(E:XK)(st:Stmt)(m:SM):Prop:=Bx (PS X st (uS X.K E m))
abbrev SSs(X:Cx)(E:XK)(st:List Stmt)(m:SM):Prop:=Bx (PSs X st (uS X.K E m))
theorem bq{t t':TE}(h:PE X e t)(k:∀s H Q,t' s H Q->t s H Q):PE X e t':=λpins s σ H Q I q=>h pins s σ H Q I (k σ H Q q)
theorem qS{t':TT}(h:PT X e t)(k:∀s H Q,t' s H Q->t s H Q):PT X e t':=λpins s σ H Q I q=>h pins s σ H Q I (k σ H Q q)
theorem wN{t':TT}(h:PW X e t)(k:∀s H Q,t' s H Q->t s H Q):PW X e t':=λwh pins s σ H Q I q=>h wh pins s σ H Q I (k σ H Q q)
theorem wO{e:List Expr}{t t':TA}(h:PA X e t)(k:∀s H Q,t' s H Q->t s H Q):PA X e t':=λp pins s σ H Q I q=>h p pins s σ H Q I (k σ H Q q)
theorem er{e:Stmt}{t t':TS}(h:PS X e t)(k:∀D s H,t' D s H->t D s H):PS X e t':=λpins s σ H Q I q=>h pins s σ H Q I (k Q σ H q)
theorem sX{e:List Stmt}{t t':TS}(h:PSs X e t)(k:∀D s H,t' D s H->t D s H):PSs X e t':=λpins s σ H Q I q=>h pins s σ H Q I (k Q σ H q)
section
variable{X:Cx}{E:XK}{a b c:Expr}{ma mb mc:EM}{pos:Pos}
theorem zO(i:Nat){pos:Pos}(hN:autoParam (X.N[i]?=some x) Au.h0._auto_1)(hv:Vis X.env.scope x)(hd:autoParam ((x == ("__debug__":Str))=false) Au.h3._auto_1)
  (hcd:autoParam ((x == ("__classdict__":Str))=false) Au.h3._auto_1):SE X E (.Name x pos) (ai i):=⟨
 bq (pv i hN hv hd hcd) λs H Q zq=>ex6 zq λw r S hr hS hp=>by
  unfold ai at hp;split at hp
  ·rename_i d e;obtain⟨v,e',q⟩:=hr.2 i d e;exact⟨v,e',hp.ret q hS⟩
  ·exact hp.elim⟩
theorem yz{v:V}{d:D}(h:PE X e (tC v))(q:∀w H,RD X.K w H d v):SE X E e (eC d):=⟨
 bq h λs H Q zq=>ex6 zq λw r S hr hS hp=>hp.ret (q w H) hS⟩
theorem av{i j pos}:SE X E (.Constant (.int i) j pos) (eC (.int i)):=yz DD λ_ _=>by unfold RD;rfl
theorem fE{i j pos}:SE X E (.Constant (.bool i) j pos) (eC (.bl i)):=yz FL λ_ _=>by unfold RD;rfl
theorem Ep{j pos}:SE X E (.Constant .none j pos) (eC .non):=yz DE λ_ _=>by unfold RD;rfl
theorem B7{t:Tok}{pos:Pos}(hg:Gl X x)(hm:X.mg x=some (.int i t))(hd:autoParam ((x == ("__debug__":Str))=false) Au.h3._auto_1):SE X E (.Name x pos) (eC (.int i)):=
 yz (wG hg hm (v:=.int i) ⟨t,rfl⟩ hd) λ_ _=>by unfold RD;rfl
theorem pH{pos:Pos}(hg:Gl X x)(hm:X.mg x=none)(hv:bootBuiltins x=some (.type T))(hn:autoParam (x ≠ "__name__") Au.h3._auto_1)(hd:autoParam ((x == ("__debug__":Str))=false) Au.h3._auto_1):SE X E (.Name x pos) (eC (.ty T)):=
 yz (BB hg hm hv (v:=.ty T) rfl hn hd) λ_ _=>by unfold RD;rfl
noncomputable def xO(K:PySem.W.Frag)(E:XK)(f:Sto->D->D->Option D):R2:=λx y H Q=>∃w S d e,RS K w H S/\RD K w H d x/\RD K w H e y/\aF K E (RD K) w H (R.of S (f S d e)) Q
noncomputable def xU(K:PySem.W.Frag)(E:XK)(f:Sto->D->Option D):V->Hp->VK->Prop:=λx H Q=>∃w S d,RS K w H S/\RD K w H d x/\aF K E (RD K) w H (R.of S (f S d)) Q
noncomputable def xC(K:PySem.W.Frag)(E:XK)(f:Sto->List D->Option D):List V->Hp->VK->Prop:=λxs H Q=>∃w S ds,RS K w H S/\RDs K w H ds xs/\aF K E (RD K) w H (R.of S (f S ds)) Q
theorem aL{op:Operator}{f:Sto->D->D->Option D}(ho:OpR X (binaryOp op) (xO X.K E f))(ha:SE X E a ma)(hb:SE X E b mb):SE X E (.BinOp a op b pos) (eOp f ma mb):=⟨
 bq (Ga ho ha.out hb.out) λs H Q zq=>ex6 zq λw r S hr hS hp=>⟨w,r,S,hr,hS,hp.bind hS λd S1 w1 H1 v x1 q1 s1 p1=>
  ⟨w1,r,S1,hr.ext x1,s1,p1.bind s1 λe S2 w2 H2 u x2 q2 s2 p2=>⟨w2,S2,d,e,s2,RD.ext x2 d v q1,q2,p2⟩⟩⟩⟩
theorem lY{op:UnaryOp}{f:Sto->D->Option D}(ho:UnR X (unaryOp op) (xU X.K E f))(ha:SE X E a ma):SE X E (.UnaryOp op a pos) (eUn f ma):=⟨
 bq (Gb ho ha.out) λs H Q zq=>ex6 zq λw r S hr hS hp=>⟨w,r,S,hr,hS,hp.bind hS λd S1 w1 H1 v x1 q1 s1 p1=>⟨w1,S1,d,s1,q1,p1⟩⟩⟩
theorem jN{f:Sto->D->D->Option D}(ho:OpR X (compareOp op) (xO X.K E f))(ha:SE X E a ma)(hb:SE X E b mb)(hm:autoParam (behindInMarks op b=false) Au.h9._auto_1):
  SE X E (.Compare a [op] [b] pos) (eOp f ma mb):=⟨
 bq (BM ho ha.out hb.out hm) λs H Q zq=>ex6 zq λw r S hr hS hp=>⟨w,r,S,hr,hS,hp.bind hS λd S1 w1 H1 v x1 q1 s1 p1=>
  ⟨w1,r,S1,hr.ext x1,s1,p1.bind s1 λe S2 w2 H2 u x2 q2 s2 p2=>⟨w2,S2,d,e,s2,RD.ext x2 d v q1,q2,p2⟩⟩⟩⟩
theorem sY{op':CmpOp}{f g:Sto->D->D->Option D}(ho:OpR X (compareOp op) (xO X.K E f))(ho':OpR X (compareOp op') (xO X.K E g))(ha:SE X E a ma)(hb:SE X E b mb)(hc:SE X E c mc)
  (hm:autoParam (lastMarks [op,op'] [b,c]=false) Au.h0._auto_1):SE X E (.Compare a [op,op'] [b,c] pos) (iT f g ma mb mc):=⟨
 bq (zy ho ho' ha.out hb.out hc.out hm) λs H Q zq=>ex6 zq λw r S hr hS hp=>⟨w,r,S,hr,hS,hp.bind hS λd S1 w1 H1 v x1 q1 s1 p1=>
  ⟨w1,r,S1,hr.ext x1,s1,p1.bind s1 λe S2 w2 H2 u x2 q2 s2 p2=>by
   refine⟨w2,S2,d,e,s2,RD.ext x2 d v q1,q2,?_⟩;cases hf:f S2 d e with
   |none=>rw[hf]at p2;exact p2.elim
   |some z=>
    rw[hf]at p2;intro w3 H3 z' x3 q3 s3;cases z with
    |bl k=>
     unfold RD at q3;subst q3;refine⟨k,rfl,?_⟩;cases k with
     |true=>
      refine qR ⟨w3,r,S2,((hr.ext x1).ext x2).ext x3,s3,?_⟩;have p3:=aF.ext p2 x3 s2 s3;refine p3.bind s3 λt S4 w4 H4 u' x4 q4 s4 p4=>⟨w4,S4,e,t,s4,RD.ext x4 e u (RD.ext x3 e u q2),q4,p4⟩
     |false=>exact qQ (aF.at p2 x3 (by unfold RD;rfl) s3)
    |_=>exact p2.elim⟩⟩⟩
theorem lp{op}(h:SE X E a ma):SE X E (.BoolOp op [a] pos) ma:=⟨DJ h.out⟩
theorem jO(ha:SE X E a ma)(hb:SE X E (.BoolOp .And (b::rest) pos) mb):SE X E (.BoolOp .And (a::b::rest) pos) (ll ma mb):=⟨
 bq (DK ha.out hb.out) λs H Q zq=>ex6 zq λw r S hr hS hp=>⟨w,r,S,hr,hS,hp.bind hS λd S1 w1 H1 v x1 q1 s1 p1=>by
  cases d with
  |bl k=>
   unfold RD at q1;subst q1;refine⟨k,rfl,?_⟩;cases k with
   |true=>exact qR ⟨w1,r,S1,hr.ext x1,s1,p1⟩
   |false=>exact qQ (aF.ret p1 (by unfold RD;rfl) s1)
  |_=>exact p1.elim⟩⟩
theorem Er(ha:SE X E a ma):SE X E (.UnaryOp .Not a pos) (En ma):=⟨
 bq (DL ha.out) λs H Q zq=>ex6 zq λw r S hr hS hp=>⟨w,r,S,hr,hS,hp.bind hS λd S1 w1 H1 v x1 q1 s1 p1=>by
  cases d with
  |bl k=>
   unfold RD at q1;subst q1
   exact⟨k,rfl,aF.ret p1 (by unfold RD;rfl) s1⟩
  |_=>exact p1.elim⟩⟩
theorem Dh(hc:ST X E c mt)(ha:SE X E a ma)(hb:SE X E b mb):SE X E (.IfExp c a b pos) (eIf mt ma mb):=⟨
 bq (zm hc.out ha.out hb.out) λs H Q zq=>ex6 zq λw r S hr hS hp=>⟨w,r,S,hr,hS,hp.bind hS λk S1 w1 H1 v x1 q1 s1 p1=>by
  have e:v=k:=q1;subst e;cases v with
  |true=>exact qR ⟨w1,r,S1,hr.ext x1,s1,p1⟩
  |false=>exact qQ ⟨w1,r,S1,hr.ext x1,s1,p1⟩⟩⟩
theorem Di{s:L2.St}{Q:Bool->Hp->Prop}(h:uT X.K E (tV ma) s H Q):uE X.K E ma s H λx H1=>∃k,x=.bl k/\Q k H1:=by
 obtain⟨w,r,S,hr,hS,hp⟩:=h
 exact⟨w,r,S,hr,hS,hp.bind hS λd S1 w1 H1 v x1 q1 s1 p1=>by
  cases d with
  |bl k=>
   unfold RD at q1;exact⟨k,q1,aF.ret p1 rfl s1⟩
  |_=>exact p1.elim⟩
theorem gK(h:SE X E a ma)(he:autoParam (∀whole,isTrue a X.env whole=(do let v <- whole;standAt a.pos;holding [v] (truthy v))) Au.h4._auto_1):ST X E a (tV ma):=⟨
 qS (DF h.out he) λs H Q q=>Di q⟩
theorem bM{f:Sto->D->D->Option D}(ho:OpR X (compareOp op) (xO X.K E f))(ha:SE X E a ma)(hb:SE X E b mb)(hm:autoParam (behindInMarks op b=false) Au.h9._auto_1):
  ST X E (.Compare a [op] [b] pos) (tV (eOp f ma mb)):=⟨
 qS (BN ho ha.out hb.out hm) λs H Q q=>by
  obtain⟨w,r,S,hr,hS,hp⟩:=Di q
  exact⟨w,r,S,hr,hS,hp.bind hS λd S1 w1 H1 v x1 q1 s1 p1=>
   ⟨w1,r,S1,hr.ext x1,s1,p1.bind s1 λe S2 w2 H2 u x2 q2 s2 p2=>⟨w2,S2,d,e,s2,RD.ext x2 d v q1,q2,p2⟩⟩⟩⟩
theorem B8(ha:ST X E a mt):SW X E (.BoolOp .And [a] pos) mt:=⟨BC ha.out⟩
theorem iU(ha:ST X E a mt):SW X E (.BoolOp .Or [a] pos) mt:=⟨DG ha.out⟩
theorem Es{mu:TM}(ha:ST X E a mt)(hb:SW X E (.BoolOp .And (b::rest) pos) mu):SW X E (.BoolOp .And (a::b::rest) pos) (PD.nz mt mu):=⟨
 wN (DH ha.out hb.out) λs H Q zq=>ex6 zq λw r S hr hS hp=>⟨w,r,S,hr,hS,hp.bind hS λk S1 w1 H1 v x1 q1 s1 p1=>by
  have e:v=k:=q1;subst e;cases v with
  |true=>exact qR ⟨w1,r,S1,hr.ext x1,s1,p1⟩
  |false=>exact qQ (aF.ret p1 rfl s1)⟩⟩
theorem lZ{mu:TM}(ha:ST X E a mt)(hb:SW X E (.BoolOp .Or (b::rest) pos) mu):SW X E (.BoolOp .Or (a::b::rest) pos) (PD.tOr mt mu):=⟨
 wN (FN ha.out hb.out) λs H Q zq=>ex6 zq λw r S hr hS hp=>⟨w,r,S,hr,hS,hp.bind hS λk S1 w1 H1 v x1 q1 s1 p1=>by
  have e:v=k:=q1;subst e;cases v with
  |false=>exact qQ ⟨w1,r,S1,hr.ext x1,s1,p1⟩
  |true=>exact qR (aF.ret p1 rfl s1)⟩⟩
theorem j9(h:SW X E a mt):ST X E a mt:=⟨PW.pt h.out⟩
theorem gL(ha:ST X E a mt):ST X E (.UnaryOp .Not a pos) (PD.gI mt):=⟨
 qS (DI ha.out) λs H Q zq=>ex6 zq λw r S hr hS hp=>⟨w,r,S,hr,hS,hp.bind hS λk S1 w1 H1 v x1 q1 s1 p1=>by
  have e:v=k:=q1;subst e
  exact aF.ret p1 rfl s1⟩⟩
theorem ak:SA X E [] ao:=⟨wO D9 λs H Q zq=>ex6 zq λw r S hr hS hp=>aF.ret hp RDs.nil hS⟩
theorem ae(ha:SE X E a ma)(hrr:SA X E es ms)(hs:autoParam (starEach (a::es) X.env=(false,eval a X.env)::starEach es X.env) Au.h0._auto_1):SA X E (a::es) (af ma ms):=⟨
 wO (BP ha.out hrr.out hs) λs H Q zq=>ex6 zq λw r S hr hS hp=>⟨w,r,S,hr,hS,hp.bind hS λd S1 w1 H1 v x1 q1 s1 p1=>
  ⟨w1,r,S1,hr.ext x1,s1,p1.bind s1 λe S2 w2 H2 u x2 q2 s2 p2=>aF.ret p2 (RDs.cons (RD.ext x2 d v q1) q2) s2⟩⟩⟩
theorem dU{k}(h:SA X E es ms):SE X E (.Tuple es k pos) (dE ms):=⟨
 bq (Ea h.out) λs H Q zq=>ex6 zq λw r S hr hS hp=>⟨w,r,S,hr,hS,hp.bind hS λds S1 w1 H1 vs x1 q1 s1 p1=>by
  by_cases hl:ds.length<=sizeLine
  ·rw[J8 hl]at p1
   refine⟨by rw[q1.length];exact hl,λp hp=>?_⟩
   exact aF.at p1 (Ext.new hp) (by unfold RD;exact⟨p,vs,rfl,.inl ⟨aQ,s1.fresh hp⟩,RDs.ext (Ext.new hp) _ _ q1⟩) (s1.new hp)
  ·rw[Jb hl]at p1;exact p1.elim⟩⟩
theorem nF(h:SA X E es ms):SE X E (.List es pos) (jM ms):=⟨
 bq (zA h.out) λs H Q zq=>ex6 zq λw r S hr hS hp=>⟨w,r,S,hr,hS,hp.bind hS λds S1 w1 H1 vs x1 q1 s1 p1=>by
  by_cases hl:ds.length<=sizeLine
  ·rw[J8 hl]at p1
   refine⟨by rw[q1.length];exact hl,λp hp=>?_⟩
   exact aF.at p1 (Ext.new hp) (by unfold RD;exact⟨p,vs,rfl,⟨aQ,s1.fresh hp⟩,RDs.ext (Ext.new hp) _ _ q1⟩) (s1.new hp)
  ·rw[Jb hl]at p1;exact p1.elim⟩⟩
theorem RS.lastRef{K:PySem.W.Frag}(s:RS K w H S):RD K (w.add p) H' (.ref S.length) (.ref p):=by
 unfold RD
 exact⟨p,rfl,by show(w.st++[p])[S.length]?=some p;rw[<- s.len];simp⟩
theorem lq(h:SA X E es ms):SE X E (.List es pos) (eNew ms):=⟨
 bq (zA h.out) λs H Q zq=>ex6 zq λw r S hr hS hp=>⟨w,r,S,hr,hS,hp.bind hS λds S1 w1 H1 vs x1 q1 s1 p1=>by
  by_cases hl:ds.length<=sizeLine
  ·rw[J8 hl]at p1
   refine⟨by rw[q1.length];exact hl,λp hp=>?_⟩
   exact aF.at p1 (Ext.alloc hp) s1.lastRef (s1.alloc hp ⟨vs,aQ,RDs.ext (Ext.alloc hp) _ _ q1⟩)
  ·rw[Jb hl]at p1;exact p1.elim⟩⟩
noncomputable def spM(K:PySem.W.Frag)(n:Nat)(f:FM):Sp:=λvs H Q E=>vs.length=n/\∃w S ds,RS K w H S/\RDs K w H ds vs/\aF K E (RD K) w H (f ds S) Q
variable{CX:CXT}{k n:Nat}{fa:Addr}{fd:FuncData}{ps:List Str}{f:FM}{x:Str}{p:Pos}{es:List Expr}{ms:AM}
theorem aB{id:String}{f:Sto->List D->Option D}(hc:bF X (.builtin id) (xC X.K E f))(hg:Gl X x)(hm:X.mg x=none)(hv:bootBuiltins x=some (.builtin id))(ha:SA X E (a::es) ms)(hn:autoParam (x ≠ "__name__") Au.h3._auto_1)(hdb:autoParam ((x == ("__debug__":Str))=false) Au.h3._auto_1)
  (he:autoParam (starEach (a::es) X.env=(false,eval a X.env)::starEach es X.env) Au.h0._auto_1) (hpl:autoParam ((backTo pos (starEach es X.env)).any (·.1)=false) Au.h0._auto_1):SE X E (.Call (.Name x p) (a::es) [] pos) (eB f ms):=⟨
 bq (zB hc hg hm hv ha.out hn hdb he hpl) λs H Q zq=>ex6 zq λw r S hr hS hp=>⟨w,r,S,hr,hS,hp.bind hS λds S1 w1 H1 vs x1 q1 s1 p1=>⟨w1,S1,ds,s1,q1,p1⟩⟩⟩
theorem cN{f:Sto->List D->Option D}(hc:bF X (.type T) (xC X.K E f))(hg:Gl X x)(hm:X.mg x=none)(hv:bootBuiltins x=some (.type T))(ha:SA X E (a::es) ms)(hn:autoParam (x ≠ "__name__") Au.h3._auto_1)(hdb:autoParam ((x == ("__debug__":Str))=false) Au.h3._auto_1)
  (he:autoParam (starEach (a::es) X.env=(false,eval a X.env)::starEach es X.env) Au.h0._auto_1) (hpl:autoParam ((backTo pos (starEach es X.env)).any (·.1)=false) Au.h0._auto_1):SE X E (.Call (.Name x p) (a::es) [] pos) (eB f ms):=⟨
 bq (pC hc hg hm hv ha.out hn hdb he hpl) λs H Q zq=>ex6 zq λw r S hr hS hp=>⟨w,r,S,hr,hS,hp.bind hS λds S1 w1 H1 vs x1 q1 s1 p1=>⟨w1,S1,ds,s1,q1,p1⟩⟩⟩
variable{st:Stmt}{rest:List Stmt}{m m':SM}
theorem cx:SSs X E [] bL:=⟨sX BD λD s H zq=>ex6 zq λw r S hr hS hp=>aF.ret (b:=FV.nx s) hp ⟨s,rfl,hr⟩ hS⟩
theorem au(h1:SS X E st m)(h2:SSs X E rest m'):SSs X E (st::rest) (aC m m'):=⟨
 sX (zo h1.out h2.out) λD s H zq=>ex6 zq λw r S hr hS hp=>⟨w,r,S,hr,hS,hp.bind hS λf S1 w1 H1 fv x1 q1 s1 p1=>by
  cases f with
  |nx r1=>obtain⟨s',rfl,q⟩:=q1;exact⟨w1,r1,S1,q,s1,p1⟩
  |rt d=>obtain⟨v,rfl,q⟩:=q1;have z:=aF.ret (Q:=FV.to D) (rel:=RF X.K) (a:=F.rt d) (b:=FV.rt v) p1 ⟨v,rfl,q⟩ s1;exact z
  |bk r1=>obtain⟨s',rfl,q⟩:=q1;have z:=aF.ret (Q:=FV.to D) (rel:=RF X.K) (a:=F.bk r1) (b:=FV.bk s') p1 ⟨s',rfl,q⟩ s1;exact z
  |ct r1=>obtain⟨s',rfl,q⟩:=q1;have z:=aF.ret (Q:=FV.to D) (rel:=RF X.K) (a:=F.ct r1) (b:=FV.ct s') p1 ⟨s',rfl,q⟩ s1;exact z⟩⟩
theorem aA(h1:SS X E st m):SSs X E [st] m:=⟨BE h1.out⟩
theorem ka:SS X E st zN:=⟨er zp λD s H zq=>ex6 zq λw r S hr hS hp=>hp.elim⟩
theorem bE(ha:SE X E a ma)(hs:autoParam (swapsWith a none pos.line X.env=pure false) Au.h0._auto_1):SS X E (.Expr a pos) (bW ma):=⟨
 er (BF ha.out hs) λD s H zq=>ex6 zq λw r S hr hS hp=>⟨w,r,S,hr,hS,hp.bind hS λd S1 w1 H1 v x1 q1 s1 p1=>aF.ret (b:=FV.nx s) p1 ⟨s,rfl,hr.ext x1⟩ s1⟩⟩
theorem aI(ha:SE X E a ma):SS X E (.Return (some a) pos) (aV ma):=⟨
 er (DM ha.out) λD s H zq=>ex6 zq λw r S hr hS hp=>⟨w,r,S,hr,hS,hp.bind hS λd S1 w1 H1 v x1 q1 s1 p1=>aF.ret (b:=FV.rt v) p1 ⟨v,rfl,q1⟩ s1⟩⟩
theorem dF{sa sb:List Stmt}(hc:ST X E c mt)(ha:SSs X E sa m)(hb:SSs X E sb m'):SS X E (.If c sa sb pos) (sIf mt m m'):=⟨
 er (FU hc.out ha.out hb.out) λD s H zq=>ex6 zq λw r S hr hS hp=>⟨w,r,S,hr,hS,hp.bind hS λk S1 w1 H1 v x1 q1 s1 p1=>by
  have e:v=k:=q1;subst e;cases v with
  |true=>exact qR ⟨w1,r,S1,hr.ext x1,s1,p1⟩
  |false=>exact qQ ⟨w1,r,S1,hr.ext x1,s1,p1⟩⟩⟩
theorem aM{i:Nat}{x:Str}{pos':Pos}(hN:X.N.Nodup)(hi:X.N[i]?=some x)(hx:Loc X.env.scope x)(ha:SE X E a ma)(hs:autoParam (swapsWith a (some (.Name x pos')) pos.line X.env=pure false) Au.h0._auto_1)(hf:autoParam (X.fn x=true\/X.env.scope.names.lookup x=some .local) Au.h7._auto_1):
  SS X E (.Assign [.Name x pos'] a pos) (aT i ma):=⟨
 er (DR hN hi hx ha.out hs hf) λD s H zq=>ex6 zq λw r S hr hS hp=>⟨w,r,S,hr,hS,hp.bind hS λd S1 w1 H1 v x1 q1 s1 p1=>
  aF.ret (b:=FV.nx (s.set i (some v))) p1 ⟨_,rfl,(hr.ext x1).set i q1⟩ s1⟩⟩
end
noncomputable def uG(K:PySem.W.Frag)(g:G):TG:=λv s H Q=>∃w r d r',RSt K w H r s/\RD K w H d v/\g.put d r=some r'/\∀s',RSt K w H r' s'->Q s' H
noncomputable def uGs(K:PySem.W.Frag)(gs:List G):TGs:=λvs s H Q=>∃w r ds r',RSt K w H r s/\RDs K w H ds vs/\G.puts gs ds r=some r'/\∀s',RSt K w H r' s'->Q s' H
abbrev SG(X:Cx)(e:Expr)(g:G):Prop:=Bx (PG X e (uG X.K g))
abbrev SGs(X:Cx)(es:List Expr)(gs:List G):Prop:=Bx (PGs X es (uGs X.K gs))
theorem wQ{t t':TG}(h:PG X e t)(k:∀v s H Q,t' v s H Q->t v s H Q):PG X e t':=λpins s σ H v u Q I r q=>h pins s σ H v u Q I r (k v σ H Q q)
theorem sZ{e:List Expr}{t t':TGs}(h:PGs X e t)(k:∀v s H Q,t' v s H Q->t v s H Q):PGs X e t':=λpins s σ H v u Q I r q=>h pins s σ H v u Q I r (k v σ H Q q)
theorem iV:∀{gs:List G}{ds:List D}{r r':Rho},G.puts gs ds r=some r'->ds.length=gs.length
 |[],[],_,_,_=>rfl
 |[],_::_,_,_,h=>by simp[G.puts]at h
 |_::_,[],_,_,h=>by simp[G.puts]at h
 |g::gs,d::ds,r,r',h=>by
  unfold G.puts at h;cases e:G.put g d r with
  |none=>rw[e]at h;cases h
  |some r1=>
   rw[e]at h;have:=iV h;simp[this]
section
variable{X:Cx}{E:XK}{a b c:Expr}{ma mb mc:EM}{pos:Pos}
theorem aG{i:Nat}(hN:X.N.Nodup)(hi:X.N[i]?=some x)(hx:Loc X.env.scope x)(hf:autoParam (X.fn x=true\/X.env.scope.names.lookup x=some .local) Au.h7._auto_1):SG X (.Name x pos) (.nm i):=⟨
 wQ (BH hN hi hx hf) λv s H Q zq=>ex8 zq λw r d r' hr q e k=>by
  unfold G.put at e;cases e
  exact k _ (hr.set i q)⟩
theorem et:SGs X [] []:=⟨
 sZ BI λv s H Q zq=>ex8 zq λw r ds r' hr q e k=>by
  cases ds with
  |nil=>
   unfold G.puts at e;cases e;exact⟨q.nil_inv,k s hr⟩
  |cons d ds=>simp[G.puts]at e⟩
theorem aZ{g:G}{gs:List G}(h1:SG X e g)(h2:SGs X es gs)
  (hs:autoParam ((assignEach (e::es) X.env).map (·.2)=assign e X.env::(assignEach es X.env).map (·.2)) Au.h0._auto_1):SGs X (e::es) (g::gs):=⟨
 sZ (zt h1.out h2.out hs) λv s H Q zq=>ex8 zq λw r ds r' hr q e k=>by
  cases ds with
  |nil=>simp[G.puts]at e
  |cons d ds=>
   obtain⟨v1,vs,rfl,q1,q2⟩:=q.cons_inv;unfold G.puts at e;cases e1:G.put g d r with
   |none=>rw[e1]at e;cases e
   |some r1=>
    rw[e1]at e
    exact⟨v1,vs,rfl,w,r,d,r1,hr,q1,e1,λs' hs'=>⟨w,r1,ds,r',hs',q2,e,k⟩⟩⟩
theorem cj{K:PySem.W.Frag}{vs:List V}(h:At w H p (.tup vs)\/sW K p vs):SqT K H p vs:=h.elim (λz=>SqT.of z.1) .inr
theorem fX{k:Nat}{gs:List G}(hc:X.calm=true)(h:SGs X es gs)
  (hn:autoParam ((assignEach es X.env).length=gs.length) Au.h0._auto_1) (hst:autoParam ((assignEach es X.env).findIdx? (·.1)=none) Au.h0._auto_1):SG X (.Tuple es k pos) (.tp gs):=⟨
 wQ (DO hc h.out hn hst) λv s H Q zq=>ex8 zq λw r d r' hr q e k=>by
  cases d with
  |tup ds=>
   unfold RD at q;obtain⟨p,vs,rfl,h1,q1⟩:=q;unfold G.put at e
   exact⟨p,vs,rfl,cj h1,by rw[q1.length];exact iV e,w,r,ds,r',hr,q1,e,k⟩
  |_=>simp[G.put]at e⟩
theorem Et{g:G}(ha:SE X E a ma)(hg:SG X tg g)(hs:autoParam (swapsWithSole [tg] a pos.line X.env=pure false) Au.h0._auto_1)(hw:autoParam (swappedStores [tg] a X.env=pure none) Au.h0._auto_1)
  (h1:autoParam ((assignEach [tg] X.env).map (·.2)=[assign tg X.env]) Au.h0._auto_1):SS X E (.Assign [tg] a pos) (Eo g ma):=⟨
 er (zu ha.out hg.out hs hw h1) λD s H zq=>ex6 zq λw r S hr hS hp=>⟨w,r,S,hr,hS,hp.bind hS λd S1 w1 H1 v x1 q1 s1 p1=>by
  cases e:g.put d r with
  |none=>rw[e]at p1;exact p1.elim
  |some r'=>
   rw[e]at p1
   exact⟨w1,r,d,r',hr.ext x1,q1,e,λs' hs'=>aF.ret (b:=FV.nx s') p1 ⟨s',rfl,hs'⟩ s1⟩⟩⟩
theorem Eu{i j:Nat}{y:Str}{ms:AM}{px py pt:Pos}{kt k2 pt2}(hc:X.calm=true)(hN:X.N.Nodup)(hi:X.N[i]?=some x)(hj:X.N[j]?=some y)(hij:i≠j)
  (hx:X.env.scope.names.lookup x=some .local) (hy:X.env.scope.names.lookup y=some .local) (ha:SA X E [a,b] ms)
  (hw:autoParam (swappedStores [.Tuple [.Name x px,.Name y py] kt pt] (.Tuple [a,b] k2 pt2) X.env=pure (some [x,y])) Au.h0._auto_1)
  (hs:autoParam (swapsWithSole [.Tuple [.Name x px,.Name y py] kt pt] (.Tuple [a,b] k2 pt2) pos.line X.env=pure false) Au.h0._auto_1):
  SS X E (.Assign [.Tuple [.Name x px,.Name y py] kt pt] (.Tuple [a,b] k2 pt2) pos) (B6 i j ms):=⟨
 er (DS hc hN hi hj hij hx hy ha.out hw hs) λD s H zq=>ex6 zq λw r S hr hS hp=>⟨w,r,S,hr,hS,hp.bind hS λds S1 w1 H1 vs x1 q1 s1 p1=>by
  match ds,q1,p1 with
  |[d,e],q1,p1=>
   obtain⟨v,u,rfl,q2,q3⟩:=q1.two_inv;exact⟨v,u,rfl,aF.ret (b:=FV.nx _) p1 ⟨_,rfl,((hr.ext x1).set i q2).set j q3⟩ s1⟩
  |[],_,p1=>exact p1.elim
  |[_],_,p1=>exact p1.elim
  |_::_::_::_,_,p1=>exact p1.elim⟩⟩
noncomputable def xS(K:PySem.W.Frag)(f:Sto->D->D->D->Option Sto):BG:=λo i v H Q=>∃w S x y z S',RS K w H S/\RD K w H x o/\RD K w H y i/\RD K w H z v/\f S x y z=some S'/\∀w' H',Ext w H w' H'->RS K w' H' S'->Q H'
theorem vn{f:Sto->D->D->D->Option Sto}{tpos:Pos}(hf:qH X (xS X.K f))(ha:SE X E a ma)(ho:SE X E b mb)(hi:SE X E c mc)(hs:autoParam (swapsWithSole [.Subscript b c tpos] a pos.line X.env=pure false) Au.h0._auto_1)(hw:autoParam (swappedStores [.Subscript b c tpos] a X.env=pure none) Au.h0._auto_1)
  (h1:autoParam ((assignEach [.Subscript b c tpos] X.env).map (·.2)=[assign (.Subscript b c tpos) X.env]) Au.h0._auto_1)
  (hz:autoParam (∀v,assign (.Subscript b c tpos) X.env v=(do
   let ov <- holding [v] (eval b X.env)
   let iv <- holding [v,ov] (eval c X.env)
   standAt tpos
   holding [v,ov,iv] (setItem ov iv v)
   release [v,ov,iv] [])) Au.h4._auto_1):SS X E (.Assign [.Subscript b c tpos] a pos) (nE f ma mb mc):=⟨
 er (zu ha.out (DP ho.out hi.out hf hz) hs hw h1) λD s H zq=>ex6 zq λw r S hr hS hp=>⟨w,r,S,hr,hS,hp.bind hS λd S1 w1 H1 v x1 q1 s1 p1=>
  ⟨w1,r,S1,hr.ext x1,s1,p1.bind s1 λe S2 w2 H2 u x2 q2 s2 p2=>⟨w2,r,S2,(hr.ext x1).ext x2,s2,p2.bind s2 λt S3 w3 H3 y x3 q3 s3 p3=>by
   cases hf:f S3 e t d with
   |none=>rw[hf]at p3;exact p3.elim
   |some S4=>
    rw[hf]at p3
    exact⟨w3,S3,e,t,d,S4,s3,RD.ext x3 _ _ q2,q3,RD.ext x3 _ _ (RD.ext x2 _ _ q1),hf,λw' H' x4 s4=>aF.at (b:=FV.nx s) p3 x4 ⟨s,rfl,(((hr.ext x1).ext x2).ext x3).ext x4⟩ s4⟩⟩⟩⟩⟩
def RI(K:PySem.W.Frag)(w:Wd)(H:Hp)(ds:List D)(J:It):Prop:=∀(i:Nat)(w':Wd)(H':Hp),Ext w H w' H'->
 (i<ds.length->J.go i H'/\∀x H'',J.yld i H' x H''->(H''=H' \/ ∃p o,H' p=none/\H''=upd H' p o)/\∀S,RS K w' H' S->∃d,ds[i]?=some d/\RD K w' H'' d x)/\(ds.length<=i->J.stop i H')
noncomputable def uI(K:PySem.W.Frag)(E:XK)(m:AM):TI:=λs H Q=>∃w r S,RSt K w H r s/\RS K w H S/\aF K E (RI K) w H (m r S) Q
abbrev SIb(qb:Bool)(X:Cx)(E:XK)(tg iter:Expr)(m:AM):Prop:=Bx (PIb qb X tg iter (uI X.K E m))
abbrev SI(X:Cx)(E:XK)(tg iter:Expr)(m:AM):Prop:=Bx (PI X tg iter (uI X.K E m))
theorem nG{K:PySem.W.Frag}(h:H'=H \/ ∃p o,H p=none/\H'=upd H p o)(s:RS K w H S):Ext w H w H'/\RS K w H' S:=by
 rcases h with rfl|⟨p,o,hp,rfl⟩
 ·exact⟨Ext.refl _ _,s⟩
 ·exact⟨Ext.new hp,s.new hp⟩
theorem fu{iter:Expr}{body:List Stmt}{it:AM}{g:G}{m:SM}(hp:PassesOwn (model X.prog X.w) X.A X.env X.xe)(hc:X.calm=true)(hi:SI X E tg iter it)(hg:SG X tg g)(hb:SSs X E body m)
  (hs:autoParam (∀x,foldedSetIterable iter X.env x=pure x) Au.h4._auto_1):SS X E (.For tg iter body [] pos) (gJ it g m):=⟨
 er (DW hp hc hi.out hg.out hb.out hs) λD s H zq=>ex6 zq λw r S hr hS hp=>⟨w,r,S,hr,hS,hp.bind hS λds S1 w1 H1 J x1 q1 s1 p1=>by
  refine⟨λi n s' H'=>n=ds.length-i/\i<=ds.length/\∃w' r' S',Ext w1 H1 w' H'/\RSt X.K w' H' r' s'/\RS X.K w' H' S'/\aF X.K E (RF X.K) w' H' (forL g m (ds.drop i) r' S') (FV.to D),
   ⟨ds.length,by simp,Y0 _,w1,r,S1,Ext.refl _ _,hr.ext x1,s1,p1⟩,?_⟩
  rintro i n s2 H2 ⟨rfl,hi.out,w2,r2,S2,x2,hr2,hS2,hp2⟩;by_cases hlt:i<ds.length
  ·obtain⟨go,yld⟩:=(q1 i w2 H2 x2).1 hlt
   refine .inr ⟨go,λs' H'=>∃w' r' S',Ext w1 H1 w' H'/\RSt X.K w' H' r' s'/\RS X.K w' H' S'/\aF X.K E (RF X.K) w' H' (forL g m (ds.drop (i+1)) r' S') (FV.to D),
    λs' H' hN=>⟨ds.length-(i+1),by omega,rfl,hlt,hN⟩,λx H3 hy=>?_⟩
   obtain⟨gr,rd⟩:=yld x H3 hy;obtain⟨d,ed,qd⟩:=rd S2 hS2;obtain⟨x3,s3⟩:=nG gr hS2;have x13:Ext w1 H1 w2 H3:=x2.trans' x3 s1 hS2
   have hdrop:ds.drop i=d::ds.drop (i+1):=by rw[Zl hlt];rw[Jd hlt]at ed;cases ed;rfl
   rw[hdrop]at hp2;have hp3:=aF.ext hp2 x3 hS2 s3;unfold forL at hp3;cases e:g.put d r2 with
   |none=>rw[e]at hp3;exact hp3.elim
   |some r3=>
    rw[e]at hp3;refine⟨w2,r2,d,r3,hr2.ext x3,qd,e,λs4 hr4=>⟨w2,r3,S2,hr4,s3,?_⟩⟩;refine aF.bind (rel:=RF X.K) hp3 s3 λf S5 w5 H5 fv x5 q5 s5 p5=>?_;cases f with
    |nx r6=>obtain⟨s6,rfl,q6⟩:=q5;exact⟨w5,r6,S5,x13.trans' x5 s1 s3,q6,s5,p5⟩
    |ct r6=>obtain⟨s6,rfl,q6⟩:=q5;exact⟨w5,r6,S5,x13.trans' x5 s1 s3,q6,s5,p5⟩
    |bk r6=>obtain⟨s6,rfl,q6⟩:=q5;have z:=aF.ret (Q:=FV.to D) (rel:=RF X.K) (a:=F.nx r6) (b:=FV.nx s6) p5 ⟨s6,rfl,q6⟩ s5;exact z
    |rt d6=>obtain⟨v6,rfl,q6⟩:=q5;have z:=aF.ret (Q:=FV.to D) (rel:=RF X.K) (a:=F.rt d6) (b:=FV.rt v6) p5 ⟨v6,rfl,q6⟩ s5;exact z
  ·have e:i=ds.length:=by omega
   subst e;rw[Ul]at hp2
   exact .inl ⟨(q1 _ w2 H2 x2).2 (J9 _),aF.ret (b:=FV.nx s2) hp2 ⟨s2,rfl,hr2⟩ hS2⟩⟩⟩
noncomputable def bN(m:EM)(f:Sto->D->Option (List D)):AM:=λr S=>(m r S).bind λd S1=>R.of S1 (f S1 d)
noncomputable def GF:Sto->D->Option (List D)
 |_,.tup ds=>some ds
 |_,_=>none
noncomputable def GG:Sto->D->Option (List D)
 |_,.lst ds=>some ds
 |_,.fz ds=>some ds
 |_,_=>none
noncomputable def dM(t:AM):AM:=λr S=>(t r S).bind λxs S1=>match xs with
 |[.int n]=>if n<2^62/\-(2^62)<=n then .ok ((List.range n.toNat).map λ(i:Nat)=>D.int i) S1 else .bad
 |_=>.bad
theorem fI{X:Cx}{t t':TI}(h:PIb qb X tg e t)(k:∀s H Q,t' s H Q->t s H Q):PIb qb X tg e t':=λpins s σ H Q I q=>h pins s σ H Q I (k σ H Q q)
theorem Ew(ha:SE X E a ma):SI X E tg a (bN ma GF):=⟨
 fI (DV ha.out) λs H Q zq=>ex6 zq λw r S hr hS hp=>⟨w,r,S,hr,hS,hp.bind hS λd S1 w1 H1 v x1 q1 s1 p1=>by
  cases d with
  |tup ds=>
   unfold RD at q1;obtain⟨p,vs,rfl,h1,q⟩:=q1;refine⟨p,rfl,⟨vs,cj h1⟩,aF.ret p1 ?_ s1⟩;intro i w' H' x';have h1':At w' H' p (.tup vs)\/sW X.K p vs:=h1.imp x'.at id;have q':=RDs.ext x' _ _ q
   refine⟨λhi=>⟨⟨vs,vs[i]'(by rw[q.length];exact hi),cj h1',Jd _⟩,λx H'' y=>?_⟩,λhi=>⟨vs,cj h1',by rw[q.length];exact hi⟩⟩
   obtain⟨rfl,y⟩:=y;refine⟨.inl rfl,λS _=>⟨ds[i],Jd hi,?_⟩⟩;obtain⟨v,e,rv⟩:=q'.get (Jd hi);rw[y vs (cj h1')]at e;cases e;exact rv
  |_=>exact p1.elim⟩⟩
theorem Ey(ha:SE X E a ma):SI X E tg a (bN ma GG):=⟨
 fI (BJ ha.out) λs H Q zq=>ex6 zq λw r S hr hS hp=>⟨w,r,S,hr,hS,hp.bind hS λd S1 w1 H1 v x1 q1 s1 p1=>by
  have main:∀(ds:List D)(p:Addr)(vs:List V),RDs X.K w1 H1 ds vs->(∀w' H',Ext w1 H1 w' H'->SqL X.K H' p vs)->RI X.K w1 H1 ds (Itl X.K p):=by
   intro ds p vs q sq i w' H' x';have q':=RDs.ext x' _ _ q
   refine⟨λhi=>⟨⟨vs,vs[i]'(by rw[q.length];exact hi),sq _ _ x',Jd _⟩,λx H'' y=>?_⟩,λhi=>⟨vs,sq _ _ x',by rw[q.length];exact hi⟩⟩
   obtain⟨rfl,y⟩:=y;refine⟨.inl rfl,λS _=>⟨ds[i],Jd hi,?_⟩⟩;obtain⟨v,e,rv⟩:=q'.get (Jd hi);rw[y vs (sq _ _ x')]at e;cases e;exact rv
  cases d with
  |lst ds=>
   unfold RD at q1;obtain⟨p,vs,rfl,h1,q⟩:=q1;exact⟨p,rfl,⟨vs,SqL.of h1.1⟩,aF.ret p1 (main ds p vs q λw' H' x'=>SqL.of (x'.at h1).1) s1⟩
  |fz ds=>
   unfold RD at q1;obtain⟨p,vs,rfl,h1,q⟩:=q1;exact⟨p,rfl,⟨vs,h1.sq⟩,aF.ret p1 (main ds p vs q λw' H' x'=>vm.sq (w:=w') (h1.imp (λ⟨o,z⟩=>⟨o,x'.at z⟩) id)) s1⟩
  |_=>exact p1.elim⟩⟩
noncomputable def bw:Sto->D->Option (List D)
 |_,.tup ds=>some ds
 |_,.lst ds=>some ds
 |_,.fz ds=>some ds
 |_,_=>none
theorem GH{t u:TI}(h1:PI X tg e t)(h2:PI X tg e u):PI X tg e (λs H Q=>t s H Q\/u s H Q):=λpins s σ H Q I q=>q.elim (h1 pins s σ H Q I) (h2 pins s σ H Q I)
theorem cF(ha:SE X E a ma):SI X E tg a (bN ma bw):=⟨
 fI (GH (Ew ha).out (Ey ha).out) λs H Q zq=>ex6 zq λw r S hr hS hp=>by
  unfold bN at hp;cases e:ma r S with
  |bad=>rw[e]at hp;exact hp.elim
  |err y S'=>rw[e]at hp;exact .inl ⟨w,r,S,hr,hS,by unfold bN;rw[e];exact hp⟩
  |ok d S'=>
   rw[e]at hp;cases d with
   |tup ds=>exact .inl ⟨w,r,S,hr,hS,by unfold bN;rw[e];exact hp⟩
   |lst ds=>exact .inr ⟨w,r,S,hr,hS,by unfold bN;rw[e];exact hp⟩
   |fz ds=>exact .inr ⟨w,r,S,hr,hS,by unfold bN;rw[e];exact hp⟩
   |_=>exact hp.elim⟩
theorem jh{p:Pos}(hg:Gl X "range")(hm:X.mg "range" = none)(ha:SA X E [a] ms)(hs:autoParam (starEach [a] X.env=[(false,eval a X.env)]) Au.h0._auto_1):SIb qb X E tg (.Call (.Name "range" p) [a] [] pos) (dM ms):=⟨
 fI (yl hg hm ha.out hs) λs H Q zq=>ex6 zq λw r S hr hS hp=>⟨w,r,S,hr,hS,hp.bind hS λds S1 w1 H1 vs x1 q1 s1 p1=>by
  rcases ds with _|⟨d,_|⟨d',ds⟩⟩
  ·exact p1.elim
  ·cases d with
   |int n=>
    obtain⟨v,rfl,q2⟩:=q1.one_inv;unfold RD at q2;subst q2;by_cases hn:n<2^62/\-(2^62)<=n
    ·have p2:aF X.K E (RI X.K) w1 H1 (if n<2^62/\-(2^62)<=n then R.ok ((List.range n.toNat).map λ(i:Nat)=>D.int i) S1 else R.bad) Q:=p1
     rw[J8 hn]at p2;refine⟨n,rfl,hn.2,hn.1,aF.ret p2 ?_ s1⟩;intro i w' H' x'
     refine⟨λhi=>⟨show i<n.toNat by simpa using hi,λx H'' y=>?_⟩,λhi=>show n.toNat<=i by simpa using hi⟩
     obtain⟨rfl,rfl⟩:=y;refine⟨.inl rfl,λS _=>⟨.int i,?_,?_⟩⟩
     ·have:i<n.toNat:=by simpa using hi
      simp[this]
     ·unfold RD;simp
    ·have p2:aF X.K E (RI X.K) w1 H1 (if n<2^62/\-(2^62)<=n then R.ok ((List.range n.toNat).map λ(i:Nat)=>D.int i) S1 else R.bad) Q:=p1
     rw[Jb hn]at p2;exact p2.elim
   |_=>exact p1.elim
  ·cases d<;>exact p1.elim⟩⟩
end
section
variable{P:Program}{w:World}{K:PySem.W.Frag}{mg:Str->Option Value}{base:Heap}
theorem yA{K:PySem.W.Frag}{w:Wd}{ds:List D}{vs:List V}(q:RDs K w H ds vs):RSt K w H (ds.map some++List.replicate (N.length-ds.length) none) (L2.start N vs):=by
 unfold L2.start
 refine⟨by simp[q.length],λi d e=>?_⟩
 by_cases hi:i<ds.length
 ·rw[Jv (by simpa using hi),Z9]at e
  rw[Jv (by rw[Jg,q.length];exact hi),Z9]
  cases e1:ds[i]? with
  |none=>rw[e1]at e;cases e
  |some d'=>
   rw[e1]at e;cases e;obtain⟨v,ev,rv⟩:=q.get e1
   exact⟨v,by rw[ev];rfl,rv⟩
 ·rw[Yg (by simpa using hi),W0]at e
  split at e<;>cases e
end
section
variable{prog:Program}{w:World}{A:Around}{R:Result->Shared->Prop}{s:Shared}
theorem kc{elt target iter:Expr}{ifs:List Expr}{scope:Scope}{pos:Pos}{it acc:Value}{env:Env}(I:Nat->Shared->Prop)
  (turn:∀n s,I n s->wpAny (model prog w) A (pyNext it) (λr s1=>match r with
   |none=>R (.ok .next) s1
   |some v=>wpAny (model prog w) A (letOwnedTupleGo target it v) (λ_ s1'=>wpAny (model prog w) A (assign target env v) (λ_ s2=>
     wpAny (model prog w) A (forIn ifs true λc r=>if r=true then do let ok <- isTrue c env (eval c env);pure (ForInStep.yield ok) else pure (ForInStep.yield r)) (λok s3=>
      if ok=true then wpAny (model prog w) A (eval elt env) (λx s4=>
       wpAny (model prog w) A (call (.builtin "list.append") [acc,x]) (λ_ s5=>∃m,m<n/\I m s5) (λ_ _=>False) s4) (λ_ _=>False) s3
      else ∃m,m<n/\I m s3) (λ_ _=>False) s2) (λ_ _=>False) s1') (λ_ _=>False) s1) (λ_ _=>False) s)
  (n:Nat) (h:I n s):
  codeAny (model prog w) A (.compLoop (.ListComp elt [⟨target,iter,ifs,0⟩] scope pos) 0 it acc env) R s:=by
 refine codeAny_loop rfl I (λn s hI=>?_) n h
 show wpAny _ A ((compTurn (.ListComp elt [⟨target,iter,ifs,0⟩] scope pos) 0 it acc env).onRaise (λx=>do noteFrame x env;theTreesLotGoes x)) _ _ s
 refine wpAny_noted ?_;rw[compTurn_list];refine J6 (U8 (J6 (Zk (turn n s hI) (λr s1 h1=>?_) λ_ _ h'=>h'.elim)));cases r with
 |none=>exact Jc h1
 |some v=>
  refine J6 (Zk h1 (λ_ s1' h1'=>?_) λ_ _ h'=>h'.elim);refine J6 (Zk h1' (λ_ s2 h2=>J6 (Zk h2 (λok s3 h3=>?_) λ_ _ h'=>h'.elim)) λ_ _ h'=>h'.elim);cases ok with
  |false=>exact Jc ⟨rfl,h3⟩
  |true=>
   exact J6 (J6 (Zk h3 (λx s4 h4=>J6 (Zk h4 (λ_ s5 h5=>Jc (Jc ⟨rfl,h5⟩)) λ_ _ h'=>h'.elim)) λ_ _ h'=>h'.elim))
end
def zP(X:Cx)(ifs:List Expr)(t:TT):Prop:=
 ∀(pins:List (Addr×Obj))(s:Shared)(σ:L2.St)(H:Hp)(Q:Bool->Hp->Prop),Inv X pins σ H s->t σ H Q->
  wpAny (model X.prog X.w) X.A (forIn ifs true λc r=>if r=true then do let ok <- isTrue c X.env (eval c X.env);pure (ForInStep.yield ok) else pure (ForInStep.yield r)) (TP X pins σ Q) X.xe s
theorem zQ:zP X [] (λ_ H Q=>Q true H):=λpins s σ H Q I h=>wpAny_tests_nil ⟨H,I,h⟩
theorem zR{c:Expr}(h:PT X c t):zP X [c] t:=λpins s σ H Q I q=>wpAny_tests_one (h pins s σ H Q I q)
noncomputable def cxC(X:Cx)(N:List Str)(scope:Scope)(cl:List (Str×Addr))(s0:Shared)(H0:Hp)(ex:List Addr):Cx:=
 { X with N:=N,s₀:=s0,H₀:=H0,env:=compEnvC scope cl s0.heap.objs.size X.env,outer:=X.stack,ex:=ex,fn:=λ_=>false }
noncomputable def mf(k:Nat)(caps:List Nat)(s:L2.St):L2.St:=List.replicate k none++caps.map λi=>(s[i]?).join
structure CompScope(X:Cx)(N:List Str)(k:Nat)(caps:List Nat)(scope:Scope):Prop where
 kind:scope.kind=.function
 nocell:∀x∈scope.names,x.2≠.cell
 names:∀x∈scope.names,x.2=.local->scope.names.lookup x.1=some .local
 free:∀x∈scope.names,x.2=.free->X.env.kindOf x.1=some .cell\/X.env.kindOf x.1=some .free
 len:N.length=k+caps.length
 cap:∀t i,caps[t]?=some i->∃x,X.N[i]?=some x/\N[k+t]?=some x/\scope.names.lookup x=some .free
theorem eu{A B:Type}[BEq A][LawfulBEq A]:∀{l:List (A×B)}{x:A}{b:B},l.lookup x=some b->(x,b)∈l
 |[],_,_,h=>by simp at h
 |(y,c)::r,x,b,h=>by
  rw[Qe]at h;cases e:x == y with
  |true=>
   rw[e]at h;have:=eq_of_beq e;subst this;cases h;exact Y4
  |false=>
   rw[e]at h;exact Y3 _ (eu h)
theorem jP:∀(names:List (Str×NameKind))(cs:List (Str×Addr)),(∀x∈names,x.2=.free->∃c,env.cells.lookup x.1=some c)->
  ∃cl,(forIn names cs λ(x:Str×NameKind)(r:List (Str×Addr))=>(if x.2 == NameKind.free then do let a <- cellOf env x.1;pure (ForInStep.yield ((x.1,a)::r)) else pure (ForInStep.yield r):Sem (ForInStep (List (Str×Addr)))))=pure cl/\
   (∀p∈cl,p∈cs\/env.cells.lookup p.1=some p.2)/\(∀p∈cs,p∈cl)/\∀x∈names,x.2=.free->∃c,(x.1,c)∈cl
 |[],cs,_=>⟨cs,rfl,λp h=>.inl h,λp h=>h,λx h=>nomatch h⟩
 |(n,k)::r,cs,h=>by
  by_cases hk:k=.free
  ·subst hk;obtain⟨c,hc⟩:=h (n,.free) Y4 rfl;obtain⟨cl,e,h1,h2,h3⟩:=jP r ((n,c)::cs) λx hx=>h x (Y3 _ hx);refine⟨cl,?_,λp hp=>?_,λp hp=>h2 p (Y3 _ hp),λx hx hf=>?_⟩
   ·rw[Vt]
    have hco:cellOf env n=pure c:=by unfold cellOf;rw[hc]
    simp only[beq_self_eq_true,Yd,hco,pure_bind];exact e
   ·rcases h1 p hp with z|z
    ·rcases Jj.mp z with z|z
     ·subst z;exact .inr hc
     ·exact .inl z
    ·exact .inr z
   ·rcases Jj.mp hx with z|z
    ·subst z;exact⟨c,h2 _ Y4⟩
    ·exact h3 x z hf
  ·obtain⟨cl,e,h1,h2,h3⟩:=jP r cs λx hx=>h x (Y3 _ hx)
   have hb:(k == NameKind.free)=false:=by simpa using hk
   refine⟨cl,?_,h1,h2,λx hx hf=>?_⟩
   ·rw[Vt];simp only[hb,Jw,Yj,pure_bind];exact e
   ·rcases Jj.mp hx with z|z
    ·subst z;exact absurd hf hk
    ·exact h3 x z hf
theorem mn(h:∀x∈scope.names,x.2=.free->∃c,env.cells.lookup x.1=some c):
  ∃cl,closureFor scope env=pure cl/\(∀x c,cl.lookup x=some c->env.cells.lookup x=some c)/\∀x∈scope.names,x.2=.free->∃c,cl.lookup x.1=some c:=by
 obtain⟨cl,e,h1,h2,h3⟩:=jP (env:=env) scope.names [] h;refine⟨cl,?_,λx c hx=>?_,λx hx hf=>?_⟩
 ·unfold closureFor
  show((forIn scope.names [] λ(x:Str×NameKind)(r:List (Str×Addr))=>(if x.2 == NameKind.free then do let a <- cellOf env x.1;pure (ForInStep.yield ((x.1,a)::r)) else pure (ForInStep.yield r):Sem (ForInStep (List (Str×Addr))))) >>= λl=>pure l)=pure cl
  rw[e,pure_bind]
 ·rcases h1 _ (eu hx) with z|z
  ·exact nomatch z
  ·exact z
 ·obtain⟨c,hc⟩:=h3 x hx hf;cases e2:cl.lookup x.1 with
  |some c'=>exact⟨c',rfl⟩
  |none=>
   rw[List.lookup_eq_none_iff]at e2;have:=e2 _ hc;simp at this
theorem tf{k:NameKind}(h:(relabel scope env).names.lookup x=some k):(x,k)∈scope.names\/(k=.cell/\(x,NameKind.free)∈scope.names):=by
 have m:=eu h;obtain⟨⟨n,j⟩,hn,e⟩:=Y1.mp m;dsimp only at e;split at e
 ·rename_i hc;cases e
  have:j=NameKind.free:=by have:=(Yt _ _ |>.mp (Yt _ _ |>.mp hc).1).1;simpa using this
  subst this;exact .inr ⟨rfl,hn⟩
 ·cases e;exact .inl hn
theorem kf{scope:Scope}{env:Env}{x:Str}:∀{names:List (Str×NameKind)},names.lookup x=some .free->
  ((names.map λ(n,k)=>if (k == NameKind.free&&env.scope.kind == .function&&env.kindOf n == some .cell) then (n,NameKind.cell) else (n,k)).lookup x=some .cell) \/
  ((names.map λ(n,k)=>if (k == NameKind.free&&env.scope.kind == .function&&env.kindOf n == some .cell) then (n,NameKind.cell) else (n,k)).lookup x=some .free)
 |[],h=>by simp at h
 |(n,k)::r,h=>by
  have ih:=@kf scope env x r;simp only[Jl];cases hx:x == n with
  |true=>
   simp only[Qe,hx]at h;cases h;by_cases hc:(NameKind.free == NameKind.free&&env.scope.kind == .function&&env.kindOf n == some .cell)=true
   ·left;rw[J8 hc];simp[Qe,hx]
   ·right;rw[Jb hc];simp[Qe,hx]
  |false=>
   simp only[Qe,hx]at h;by_cases hc:(k == NameKind.free&&env.scope.kind == .function&&env.kindOf n == some .cell)=true
   ·rw[J8 hc];simp only[Qe,hx];exact ih h
   ·rw[Jb hc];simp only[Qe,hx];exact ih h
section
variable{X:Cx}{pins:List (Addr×Obj)}{σ:L2.St}{H:Hp}{s:Shared}
theorem nH{k:Nat}{cl:List (Str×Addr)}{fp:List Addr}{h':Heap}{m:Str->Option Value}{t:Nat}(I:Inv X pins σ H s)(C:CompScope X N k caps scope)
  (hcl:∀x c,cl.lookup x=some c->X.env.cells.lookup x=some c) (hcf:∀x∈scope.names,x.2=.free->∃c,cl.lookup x.1=some c)
  (hfp:∀b∈fp,FpOk X pins H b/\b<s.heap.objs.size) (hn:h'.Ns s.heap.objs.size m) (hk:∀b o,s.heap.get? b=some o->h'.get? b=some o):
  Inv (cxC X N scope cl s H fp) pins (mf k caps σ) H { s with heap:=h',toks:=t }:=by
 have hfs:∀b,b∈frs X.stack->b<s.heap.objs.size:=λb hb=>by obtain⟨_,o,ho,_⟩:=I.stack.mem hb;exact Jh ho
 refine⟨⟨I.ok.mod,C.kind,I.ok.glob,I.ok.blt,J9 _,λx y c h1 h2=>I.ok.inj x y c (hcl x c h1) (hcl y c h2),λx hx=>?_,(λx c h=>nomatch h),I.ok.hd,I.ok.frames,.inl rfl,λb hb=>?_,λb o e=>?_,?_,λb o e hb=>?_,λb hb=>?_,I.stack,λb hb=>I.stkFree b hb⟩,
  rfl,I.bare,Un.kept hk,?_,λx c e=>?_,I.hok.fresh (J9 _),λx c e=>I.freeC x c (hcl x c e),λp hp=>?_,I.hok.kept hk,?_⟩
 ·-- has
  have key:∀kk,(kk=NameKind.cell\/kk=NameKind.free)->(relabel scope X.env).names.lookup x=some kk->∃c,cl.lookup x=some c:=λkk hkk hl=>by
   rcases tf hl with z|⟨_,z⟩
   ·rcases hkk with q|q
    ·subst q;exact absurd rfl (C.nocell _ z)
    ·subst q;exact hcf _ z rfl
   ·exact hcf _ z rfl
  rcases hx with z|z
  ·exact key _ (.inl rfl) z
  ·exact key _ (.inr rfl) z
 ·obtain⟨f,lt⟩:=hfp b hb;exact⟨Jq lt,λx c e=>f.2.2.2.2.1 x c (hcl x c e)⟩
 ·exact I.bs b o e
 ·exact Y2 I.ok.bsz I.sz
 ·obtain⟨f,lt⟩:=hfp b hb;rcases f.2.2.2.1 with z|z
  ·exact I.ok.noex b o e z
  ·exact absurd (Jt (Jh e) (Y2 I.ok.bsz z)) (Qb _)
 ·obtain⟨f,lt⟩:=hfp b hb;intro z;rcases Jj.mp (I.stkSub b z) with q|q
  ·exact f.2.1 q
  ·exact f.2.2.1 q
 ·obtain⟨m0,hn0,hl0⟩:=I.loc;refine⟨m,hn,λi x v e1 e2 e3=>?_⟩;unfold mf at e2;by_cases hi:i<k
  ·rw[Jv (by simpa using hi),W0]at e2
   split at e2<;>cases e2
  ·rw[Yg (by simpa using hi),Z9,Wh]at e2
   cases ec:caps[i-k]? with
   |none=>rw[ec]at e2;cases e2
   |some j=>
    rw[ec]at e2;have e2':(σ[j]?).join=some v:=Yp e2;obtain⟨y,hy1,hy2,hy3⟩:=C.cap _ _ ec;have e1':N[i]?=some x:=e1
    rw[show k+(i-k)=i by omega]at hy2
    rw[hy2]at e1';have exy:y=x:=Yp e1';subst exy;have hfr:(y,NameKind.free)∈scope.names:=eu hy3
    have hsj:σ[j]?=some (some v):=by
     cases q:σ[j]? with
     |none=>rw[q]at e2';cases e2'
     |some o=>rw[q]at e2';rw[show o=some v from e2']
    have kinds:=C.free _ hfr rfl
    have hvis:Vis X.env.scope y:=by
     rcases kinds with z|z
     ·exact .inr (.inl z)
     ·exact .inr (.inr z)
    obtain⟨u,ru,lk⟩:=hl0 j y v hy1 hsj hvis;refine⟨u,ru,?_⟩;rcases lk with⟨z,_⟩|⟨_,c,hc,hcell⟩
    ·rcases kinds with q|q<;>(rw[q]at z;cases z)
    ·obtain⟨c',hc'⟩:=hcf _ hfr rfl;have:=hcl _ _ hc';rw[hc]at this;cases this;refine .inr ⟨?_,c,hc',hcell.keeps hk⟩;exact kf (scope:=scope) (env:=X.env) hy3
 ·obtain⟨v,z⟩:=I.cell x c (hcl x c e);exact⟨v,z.keeps hk⟩
 ·obtain⟨e,n,ne,nf,d⟩:=I.pin p hp;refine⟨hk _ _ e,n,Jq (Jh e),λz=>?_,d⟩;rcases Jj.mp (I.stkSub _ z) with q|q
  ·exact ne q
  ·exact nf q
 ·unfold mf;show _=N.length;rw[C.len];simp
end
noncomputable def wR(wi:TI)(k:Nat)(caps:List Nat)(g:TG)(tt:TT)(te:TE):TE:=λσ H Q=>wi σ H λJ H1=>∀p,H1 p=none->∃W:Nat->Nat->L2.St->Hp->Prop,(∃m,W 0 m (mf k caps σ) (upd H1 p (.lst [])))/\∀i m σ' H',W i m σ' H'->
 (J.stop i H'/\Q (.ref p) H')\/(J.go i H'/\∃N:L2.St->Hp->Prop,(∀σ2 H2,N σ2 H2->∃m',m'<m/\W (i+1) m' σ2 H2)/\
  ∀x H3,J.yld i H' x H3->g x σ' H3 λσ4 H4=>tt σ4 H4 λb H5=>if b=true then te σ4 H5 λy H6=>∃ys,H6 p=some (.lst ys)/\ys.length<sizeLine/\N σ4 (upd H6 p (.lst (ys++[y]))) else N σ4 H5)
theorem zS{elt tg iter:Expr}{ifs:List Expr}{pos:Pos}{k:Nat}{wi:TI}{g:TG}{tt:TT}{te:TE}(hX:Cd qb X)(hxe:∀e s,¬X.xe e s)(C:CompScope X N k caps scope)
  (hi:PIb qb X tg iter wi) (hg:∀cl s0 H0 ex,Cd qb (cxC X N scope cl s0 H0 ex)->PG (cxC X N scope cl s0 H0 ex) tg g) (ht:∀cl s0 H0 ex,Cd qb (cxC X N scope cl s0 H0 ex)->zP (cxC X N scope cl s0 H0 ex) ifs tt) (he:∀cl s0 H0 ex,Cd qb (cxC X N scope cl s0 H0 ex)->PE (cxC X N scope cl s0 H0 ex) elt te)
  (hs:autoParam (∀x,foldedSetIterable iter X.env x=pure x) Au.h4._auto_1):PE X (.ListComp elt [⟨tg,iter,ifs,0⟩] scope pos) (wR wi k caps g tt te):=by
 intro pins s σ H Q I h;have noX:∀{α:Type}{t:Sem α}{Q':α->Shared->Prop}{s':Shared},wpAny (model X.prog X.w) X.A t Q' X.xe s'->wpAny (model X.prog X.w) X.A t Q' (λ_ _=>False) s':=λh=>Zk h (λ_ _ x=>x) λe s z=>hxe e s z;obtain⟨cl,hclos,hcl,hcf⟩:=mn (scope:=scope) (env:=X.env) λx hx hf=>I.ok.has _ (C.free x hx hf);rw[eval_ListComp];refine wpAny_comprehension_free (use:=none) (cl:=cl) rfl hs hclos C.kind C.names ?_;refine thn (hi pins s σ H _ I h) λv s1 h1=>thn h1 λitv s2 h2=>?_;obtain⟨it,fp,tn,J,H2,e,I2,T,st2,f2,q⟩:=h2;subst e
 refine W4 (items:=[]) ?_ (by show 0<=sizeLine;exact Y0 _)
 have hp:H2 s2.heap.objs.size=none:=I2.hok.fresh (J9 _);obtain⟨W,⟨m0,w0⟩,turn⟩:=q _ hp
 have I3:Inv X pins σ (upd H2 s2.heap.objs.size (.lst [])) { s2 with heap:=s2.heap.push { cls:=.type "list",data:=.seq ([]:List Value).toArray } }:=
  I2.laid (t':=s2.toks) (λb u e=>J7 _ e) (J9 _) ⟨Y0 _,[],0,.nil,Ji _ rfl⟩
 refine wpAny_newFunctionEnv C.nocell (λx hx=>nomatch hx) (λh4 hn4 hs4=>?_) C.kind
 have ltfp:∀b∈fp,b<s2.heap.objs.size:=λb hb=>by obtain⟨o,ho,_⟩:=T.obj _ _ st2 b hb;exact Jh ho
 have hk4:∀b o,(s2.heap.push { cls:=.type "list",data:=.seq ([]:List Value).toArray }).get? b=some o->h4.get? b=some o:=λb o e=>by
  have ne:b≠(s2.heap.push { cls:=.type "list",data:=.seq ([]:List Value).toArray }).objs.size:=Jq (Jh e)
  rw[hs4.2 b ne];exact J7 _ e
 have f3:∀b∈fp,FpOk X pins (upd H2 s2.heap.objs.size (.lst [])) b:=λb hb=>by
  obtain⟨a1,a2⟩:=f2 b hb
  exact⟨by rw[aN (Jq (ltfp b hb))];exact a1,a2⟩
 have I4:=nH (N:=N) (k:=k) (caps:=caps) (scope:=scope) (cl:=cl) (fp:=fp) (t:=s2.toks+0) I3 C hcl hcf (λb hb=>⟨f3 b hb,by rw[show({ s2 with heap:=s2.heap.push { cls:=.type "list",data:=.seq ([]:List Value).toArray } }:Shared).heap.objs.size=s2.heap.objs.size+1 from Y7 ..];exact Za (ltfp b hb)⟩) hn4 hk4
 have tn4:tn 0 h4:=T.keep _ _ _ st2 λb hb o e=>hk4 b o (J7 _ e)
 have loop:codeAny (model X.prog X.w) X.A (.compLoop (.ListComp elt [⟨tg,iter,ifs,0⟩] scope pos) 0 (.ref it) (.ref s2.heap.objs.size) (compEnvC scope cl ({ s2 with heap:=s2.heap.push { cls:=.type "list",data:=.seq ([]:List Value).toArray } }:Shared).heap.objs.size X.env))
   (compPost (model X.prog X.w) X.A X.xe none (EP X pins σ Q) (.ref s2.heap.objs.size) ({ s2 with heap:=s2.heap.push { cls:=.type "list",data:=.seq ([]:List Value).toArray } }:Shared).heap.objs.size) { s2 with heap:=h4,toks:=s2.toks+0 }:=by
  generalize hs3:({ s2 with heap:=s2.heap.push { cls:=.type "list",data:=.seq ([]:List Value).toArray } }:Shared)=s3 at *
  have sz3:s2.heap.objs.size<=s3.heap.objs.size:=by rw[<- hs3];show _<=(s2.heap.push _).objs.size;rw[Y7];exact W9 _
  have k23:∀b o,s2.heap.get? b=some o->s3.heap.get? b=some o:=λb o e=>by rw[<- hs3];exact J7 _ e
  have hos:s3.os=s2.os:=by rw[<- hs3]
  have stat:∀{H':Hp},(∀b∈fp,H' b=none)->∀b∈fp,FpOk (cxC X N scope cl s3 (upd H2 s2.heap.objs.size (.lst [])) fp) pins H' b:=λ{H'} hn b hb=>by
   obtain⟨a1,a2,a3,a4,a5,a6⟩:=f3 b hb;refine⟨hn b hb,Jq (Jt (ltfp b hb) sz3),λz=>?_,.inl hb,λx c e=>a5 x c (hcl x c e),a6⟩;rcases Jj.mp (I2.stkSub b z) with q|q
   ·exact a2 q
   ·exact a3 q
  have I4':Inv (cxC X N scope cl s3 (upd H2 s2.heap.objs.size (.lst [])) fp) pins (mf k caps σ) (upd H2 s2.heap.objs.size (.lst [])) { s2 with heap:=h4,toks:=s2.toks+0 }:=by subst hs3;exact I4
  have hX2:Cd qb (cxC X N scope cl s3 (upd H2 s2.heap.objs.size (.lst [])) fp):=by
   rcases hX with z|⟨z,y|⟨a,o,u,e1,e2,e3⟩⟩
   ·exact .inl z
   ·exact .inr ⟨z,.inl y⟩
   ·refine .inr ⟨z,.inr ⟨a,o,u,e1,?_,e3⟩⟩;have q0:=I2.base.frzs a o u e2;show upd H2 s2.heap.objs.size (.lst []) a=_
    rw[aN (λy=>by rw[y,hp]at q0;cases q0)]
    exact q0
  refine kc (λn s'=>∃i σ' H',Inv (cxC X N scope cl s3 (upd H2 s2.heap.objs.size (.lst [])) fp) pins σ' H' s'/\tn i s'.heap/\(∀b∈fp,H' b=none)/\W i n σ' H') ?_ m0 ⟨0,_,_,I4',tn4,λb hb=>(f3 b hb).1,w0⟩;rintro n s5 ⟨i,σ5,H5,I5,st5,fr5,w5⟩;rcases turn i n σ5 H5 w5 with⟨stop,qn⟩|⟨go,Nn,hN,step⟩
  ·refine thn (T.done (cxC X N scope cl s3 (upd H2 s2.heap.objs.size (.lst [])) fp) rfl rfl rfl hX2 i pins s5 σ5 H5 _ I5 (stat fr5) st5 stop) λr s6 zq=>?_;obtain⟨hr,I6⟩:=zq;subst hr;obtain⟨m6,hn6,_⟩:=I6.loc;refine⟨m6,hn6,λh7 hs7=>⟨.ref s2.heap.objs.size,H5,?_,rfl,qn⟩⟩;have u1:Un (frs X.stack) fp H2 (upd H2 s2.heap.objs.size (.lst [])) s2.heap s3.heap:=Un.laid k23 (J9 _) hp;have u2:Un (frs X.stack) fp H2 H5 s2.heap s6.heap:=u1.trans I6.base;have neC:∀b o,s2.heap.get? b=some o->b≠s3.heap.objs.size:=λb o e=>Jq (Jt (Jh e) sz3);have hfree:H5 s3.heap.objs.size=none:=I6.free
   refine I2.call' (s':={ s6 with heap:=h7 }) (ch:=fp) (by rw[<- hos];exact I6.os) ⟨λb o e n hb hx=>?_,λb o e n hb hx=>?_,u2.free,λb o e hx=>?_,u2.tups,u2.frzs,u2.tbls⟩ (λb ob e=>?_) I6.bare λb hb=>?_
   ·exact(hs7.2 b (neC b o e)).trans (u2.keep b o e n hb hx)
   ·obtain⟨sl,e1⟩:=u2.slot b o e n hb hx;exact⟨sl,(hs7.2 b (neC b o e)).trans e1⟩
   ·obtain⟨o',e1⟩:=u2.there b o e hx;exact⟨o',(hs7.2 b (neC b o e)).trans e1⟩
   ·refine(I6.hok b ob e).stay (λc v hc z=>(hs7.2 c ?_).trans z) (λ_ z=>z) λ_ _ z=>z;intro y;rcases hc with z|z
    ·rw[<- z,y,hfree]at e;cases e
    ·rw[y,hfree]at z;cases z
   ·obtain⟨a1,a2,a3,a4,a5,a6⟩:=f2 b hb;exact⟨a4,a2,a5,a6⟩
  ·refine thn (T.item (cxC X N scope cl s3 (upd H2 s2.heap.objs.size (.lst [])) fp) rfl rfl rfl hX2 i pins s5 σ5 H5 _ I5 (stat fr5) st5 go) λr s6 zq=>?_;obtain⟨u,hr,h6⟩:=zq;subst hr;refine thn h6 λ_ s7 zq=>?_;obtain⟨x,H7,I7,r7,y7,st7,fr7⟩:=zq;have I7':=I7.pinned (stat fr7) (T.obj _ _ st7);refine noX (thn (hg cl s3 _ fp hX2 _ s7 σ5 H7 x u _ I7' r7 (step x H7 y7)) λ_ s8 zq=>?_);obtain⟨σ8,H8,I8,q8⟩:=zq;refine noX (thn (ht cl s3 _ fp hX2 _ s8 σ8 H8 _ I8 q8) λok s9 zq=>?_);obtain⟨H9,I9,q9⟩:=zq
   have again:∀{s':Shared}{σ':L2.St}{H':Hp},Inv (cxC X N scope cl s3 (upd H2 s2.heap.objs.size (.lst [])) fp) (pins++kZ fp s7.heap) σ' H' s'->Nn σ' H'->
     ∃m,m<n/\∃i σ' H',Inv (cxC X N scope cl s3 (upd H2 s2.heap.objs.size (.lst [])) fp) pins σ' H' s'/\tn i s'.heap/\(∀b∈fp,H' b=none)/\W i m σ' H':=λ{s' σ' H'} I' n'=>by
    obtain⟨m',hm,w'⟩:=hN σ' H' n';refine⟨m',hm,i+1,σ',H',I'.unpinned,T.keep _ _ _ st7 λb hb o e=>(I'.pin (b,o) (Y5 _ (Y5 _ (eT hb e)))).1,λb hb=>?_,w'⟩;obtain⟨o,e,d⟩:=T.obj _ _ st7 b hb;exact(I'.pin (b,o) (Y5 _ (Y5 _ (eT hb e)))).2.1
   cases ok with
   |false=>exact again I9 q9
   |true=>
    refine noX (thn (he cl s3 _ fp hX2 _ s9 σ8 H9 _ I9 q9) λy s10 zq=>?_);obtain⟨yv,H10,I10,r10,ys,hys,hlt,q10⟩:=zq;refine noX (thn (lh (X:=cxC X N scope cl s3 (upd H2 s2.heap.objs.size (.lst [])) fp) _ s10 σ8 H10 (.ref s2.heap.objs.size) [yv] _ [y] (λ_ H'=>Nn σ8 H') I10 rfl (.cons r10 .nil) ⟨_,ys,yv,rfl,rfl,hys,hlt,q10⟩) λ_ s11 zq=>?_);obtain⟨_,H11,I11,_,q11⟩:=zq;exact again I11 q11
 exact codeAny_compStart_list loop (T.self X.A 0 _ _ _ tn4 loop)
def cG(i:Int):Prop:=-(2^64)<i/\i<2^64
noncomputable instance (i:Int):Decidable (cG i):=by unfold cG;infer_instance
noncomputable def ba:Sto->D->D->Option D
 |_,.int i,.int j=>some (.int (i+j))
 |_,.str a,.str b=>if a.length+b.length<=sizeLine then some (.str (a++b)) else none
 |_,.tup a,.tup b=>if a.length+b.length<=sizeLine then some (.tup (a++b)) else none
 |_,.lst a,.lst b=>if a.length+b.length<=sizeLine then some (.lst (a++b)) else none
 |_,_,_=>none
noncomputable def fJ:Sto->D->D->Option D
 |_,.int i,.int j=>some (.int (i-j))
 |_,_,_=>none
noncomputable def cq:Sto->D->D->Option D
 |_,.int i,.int j=>if cG i\/cG j then some (.int (i*j)) else none
 |_,.tup a,.int k=>if -(2^63)<=k/\k<2^63/\a.length*k.toNat<=sizeLine then some (.tup (List.replicate k.toNat a).flatten) else none
 |_,.lst a,.int k=>if -(2^63)<=k/\k<2^63/\a.length*k.toNat<=sizeLine then some (.lst (List.replicate k.toNat a).flatten) else none
 |_,_,_=>none
noncomputable def jA:Sto->D->D->Option D
 |_,.int i,.int j=>if 0<j/\j<1073741824 then some (.int (i/j)) else none
 |_,_,_=>none
noncomputable def oMod:Sto->D->D->Option D
 |_,.int i,.int j=>if 0<j then some (.int (i%j)) else none
 |_,_,_=>none
noncomputable def vo:Sto->D->D->Option D
 |_,.int i,.int j=>if 0<=j/\j<=1000000/\i.natAbs<2^64 then some (.int (i^j.toNat)) else none
 |_,_,_=>none
noncomputable def vp:Sto->D->D->Option D
 |_,.int i,.int j=>if 0<=j/\j<=1000000/\i.natAbs<2^64 then some (.int (i*2^j.toNat)) else none
 |_,_,_=>none
noncomputable def iW:Sto->D->Option D
 |_,.int i=>some (.int (-i))
 |_,_=>none
noncomputable def nI(p:Int->Int->Bool):Sto->D->D->Option D
 |_,.int i,.int j=>some (.bl (p i j))
 |_,_,_=>none
noncomputable abbrev oLt:=nI λi j=>decide (i<j)
noncomputable abbrev oLe:=nI λi j=>decide (i<=j)
noncomputable abbrev oGt:=nI λi j=>decide (j<i)
noncomputable abbrev oGe:=nI λi j=>decide (j<=i)
noncomputable def eqS:D->D->Option Bool
 |.int i,.int j=>some (decide (i=j))
 |.bl i,.bl j=>some (decide (i=j))
 |.str i,.str j=>some (decide (i=j))
 |.non,.non=>some true
 |.non,.int _=>some false
 |.int _,.non=>some false
 |.non,.bl _=>some false
 |.bl _,.non=>some false
 |.non,.str _=>some false
 |.str _,.non=>some false
 |.int _,.str _=>some false
 |.str _,.int _=>some false
 |.bl _,.str _=>some false
 |.str _,.bl _=>some false
 |_,_=>none
noncomputable def oEq:Sto->D->D->Option D:=λ_ a b=>(eqS a b).map .bl
noncomputable def oNe:Sto->D->D->Option D:=λ_ a b=>(eqS a b).map λc=>.bl (!c)
noncomputable def iX:D->Bool
 |.non=>true
 |.bl _=>true
 |.int _=>true
 |.str _=>true
 |_=>false
noncomputable def eqF:D->D->Bool
 |.non,.non=>true
 |.bl a,.bl b=>a == b
 |.bl a,.int b=>(if a then 1 else 0) == b
 |.int a,.bl b=>a == (if b then 1 else 0)
 |.int a,.int b=>a == b
 |.str a,.str b=>a == b
 |_,_=>false
noncomputable def bu(S:Sto):D->Option (List D)
 |.tup a=>some a
 |.lst a=>some a
 |.fz a=>some a
 |.ref n=>match S[n]? with
  |some (.lst a)=>some a
  |some (.flst a)=>some a
  |_=>none
 |_=>none
noncomputable def oIn(neg:Bool):Sto->D->D->Option D:=λS x y=>match bu S y with
 |some a=>if iX x=true/\a.all iX=true then some (.bl (if neg then !(a.any λz=>eqF z x) else a.any λz=>eqF z x)) else none
 |none=>none
noncomputable def oIx:Sto->D->D->Option D:=λS x y=>match bu S x,y with
 |some a,.int i=>atI a i
 |_,_=>none
noncomputable def cutD(xs:List D)(lo hi:Option Int):List D:=(xs.drop (HT.sIx xs.length 0 lo)).take (HT.sIx xs.length xs.length hi-HT.sIx xs.length 0 lo)
section
variable{X:Cx}{E:XK}
theorem RD.int{K:PySem.W.Frag}{v:V}(q:RD K w H (.int i) v):v=.int i:=by unfold RD at q;exact q
theorem RD.bl{K:PySem.W.Frag}{i:Bool}{v:V}(q:RD K w H (.bl i) v):v=.bl i:=by unfold RD at q;exact q
theorem RD.str{K:PySem.W.Frag}{i:Str}{v:V}(q:RD K w H (.str i) v):v=.str i:=by unfold RD at q;exact q
theorem RD.non{K:PySem.W.Frag}{v:V}(q:RD K w H .non v):v=.non:=by unfold RD at q;exact q
theorem RD.mkI{K:PySem.W.Frag}:RD K w H (.int i) (.int i):=by unfold RD;rfl
theorem RD.mkB{K:PySem.W.Frag}{i:Bool}:RD K w H (.bl i) (.bl i):=by unfold RD;rfl
theorem RD.mkS{K:PySem.W.Frag}{i:Str}:RD K w H (.str i) (.str i):=by unfold RD;rfl
theorem RD.tupI{K:PySem.W.Frag}{ds:List D}{v:V}(q:RD K w H (.tup ds) v):∃a vs,v=.ref a/\(At w H a (.tup vs)\/sW K a vs)/\RDs K w H ds vs:=by unfold RD at q;exact q
theorem RD.lstI{K:PySem.W.Frag}{ds:List D}{v:V}(q:RD K w H (.lst ds) v):∃a vs,v=.ref a/\At w H a (.lst vs)/\RDs K w H ds vs:=by unfold RD at q;exact q
theorem RD.fzI{K:PySem.W.Frag}{ds:List D}{v:V}(q:RD K w H (.fz ds) v):∃a vs,v=.ref a/\vm K w H a vs/\RDs K w H ds vs:=by unfold RD at q;exact q
theorem RD.refI{K:PySem.W.Frag}{v:V}(q:RD K w H (.ref n) v):∃a,v=.ref a/\w.st[n]?=some a:=by unfold RD at q;exact q
theorem RD.newTup{K:PySem.W.Frag}{ds:List D}{vs:List V}(s:RS K w H S)(hp:H p=none)(q:RDs K w H ds vs):RD K w (upd H p (.tup vs)) (.tup ds) (.ref p):=by unfold RD;exact⟨p,vs,rfl,.inl ⟨aQ,s.fresh hp⟩,RDs.ext (Ext.new hp) _ _ q⟩
theorem RD.newLst{K:PySem.W.Frag}{ds:List D}{vs:List V}(s:RS K w H S)(hp:H p=none)(q:RDs K w H ds vs):RD K w (upd H p (.lst vs)) (.lst ds) (.ref p):=by unfold RD;exact⟨p,vs,rfl,⟨aQ,s.fresh hp⟩,RDs.ext (Ext.new hp) _ _ q⟩
theorem B9{f:Value->Value->Sem Value}{C:Int->Int->Prop}{g:Int->Int->D}{gv:Int->Int->V}{o:Sto->D->D->Option D}(h:OpR X f (rI C gv))(hg:∀K w H i j,RD K w H (g i j) (gv i j))
  (ho:∀S d e z,o S d e=some z->∃i j,d=.int i/\e=.int j/\C i j/\z=g i j):OpR X f (xO X.K E o):=by
 rintro pins s σ H x y v u Q I rx ry ⟨w,S,d,e,hS,qd,qe,p⟩;obtain⟨z,hz,p⟩:=p.of;obtain⟨i,j,rfl,rfl,c,rfl⟩:=ho _ _ _ _ hz;cases qd.int;cases qe.int;exact h pins s σ H _ _ v u Q I rx ry ⟨i,j,rfl,rfl,c,p.ret (hg _ _ _ _ _) hS⟩
theorem tj{f:Value->Value->Sem Value}{g:Int->Int->D}{gv:Int->Int->V}{o:Sto->D->D->Option D}(h:OpR X f (rI0 gv))(hg:∀K w H i j,RD K w H (g i j) (gv i j))
  (ho:∀S d e z,o S d e=some z->∃i j,d=.int i/\e=.int j/\z=g i j):OpR X f (xO X.K E o):=by
 rintro pins s σ H x y v u Q I rx ry ⟨w,S,d,e,hS,qd,qe,p⟩;obtain⟨z,hz,p⟩:=p.of;obtain⟨i,j,rfl,rfl,rfl⟩:=ho _ _ _ _ hz;cases qd.int;cases qe.int;exact h pins s σ H _ _ v u Q I rx ry ⟨i,j,rfl,rfl,p.ret (hg _ _ _ _ _) hS⟩
theorem gM:OpR X (binaryOp .Sub) (xO X.K E fJ):=tj (g:=λi j=>.int (i-j)) D0 (λ_ _ _ _ _=>RD.mkI) λS d e z h=>by
 unfold fJ at h;split at h
 ·cases h;exact⟨_,_,rfl,rfl,rfl⟩
 ·cases h
theorem m9:OpR X (binaryOp .FloorDiv) (xO X.K E jA):=B9 (g:=λi j=>.int (i/j)) BL (λ_ _ _ _ _=>RD.mkI) λS d e z h=>by
 unfold jA at h;split at h
 ·split at h
  ·cases h;exact⟨_,_,rfl,rfl,by assumption,rfl⟩
  ·cases h
 ·cases h
theorem lr:OpR X (binaryOp .Mod) (xO X.K E oMod):=B9 (g:=λi j=>.int (i%j)) D2 (λ_ _ _ _ _=>RD.mkI) λS d e z h=>by
 unfold oMod at h;split at h
 ·split at h
  ·cases h;exact⟨_,_,rfl,rfl,by assumption,rfl⟩
  ·cases h
 ·cases h
theorem Ez:OpR X (binaryOp .Pow) (xO X.K E vo):=B9 (g:=λi j=>.int (i^j.toNat)) D3 (λ_ _ _ _ _=>RD.mkI) λS d e z h=>by
 unfold vo at h;split at h
 ·split at h
  ·cases h;exact⟨_,_,rfl,rfl,by assumption,rfl⟩
  ·cases h
 ·cases h
theorem EA:OpR X (binaryOp .LShift) (xO X.K E vp):=B9 (g:=λi j=>.int (i*2^j.toNat)) D4 (λ_ _ _ _ _=>RD.mkI) λS d e z h=>by
 unfold vp at h;split at h
 ·split at h
  ·cases h;exact⟨_,_,rfl,rfl,by assumption,rfl⟩
  ·cases h
 ·cases h
theorem kg{p:Int->Int->Bool}{d e z:D}(h:nI p S d e=some z):∃i j,d=.int i/\e=.int j/\z=.bl (p i j):=by
 unfold nI at h;split at h
 ·cases h;exact⟨_,_,rfl,rfl,rfl⟩
 ·cases h
theorem wU:OpR X (compareOp .Lt) (xO X.K E oLt):=tj (g:=λi j=>.bl (decide (i<j))) Gi (λ_ _ _ _ _=>RD.mkB) λS d e z h=>kg h
theorem wV:OpR X (compareOp .LtE) (xO X.K E oLe):=tj (g:=λi j=>.bl (decide (i<=j))) Gj (λ_ _ _ _ _=>RD.mkB) λS d e z h=>kg h
theorem tm:OpR X (compareOp .Gt) (xO X.K E oGt):=tj (g:=λi j=>.bl (decide (j<i))) Gk (λ_ _ _ _ _=>RD.mkB) λS d e z h=>kg h
theorem zT:OpR X (compareOp .GtE) (xO X.K E oGe):=tj (g:=λi j=>.bl (decide (j<=i))) Gm (λ_ _ _ _ _=>RD.mkB) λS d e z h=>kg h
theorem iY:UnR X (unaryOp .USub) (xU X.K E iW):=by
 rintro pins s σ H x v Q I rx ⟨w,S,d,hS,qd,p⟩;obtain⟨z,hz,p⟩:=p.of;unfold iW at hz;split at hz
 ·cases hz;cases qd.int;exact D5 pins s σ H _ v Q I rx ⟨_,rfl,p.ret RD.mkI hS⟩
 ·cases hz
theorem zU{K:PySem.W.Frag}{d e:D}{x y:V}{c:Bool}(qd:RD K w H d x)(qe:RD K w H e y)(h:eqS d e=some c):D6 x y=true/\decide (x=y)=c:=by
 unfold eqS at h
 split at h<;>(try (cases h;done))<;>(unfold RD at qd qe;subst qd;subst qe;cases h;refine⟨rfl,?_⟩;simp)
theorem GI:OpR X (compareOp .Eq) (xO X.K E oEq):=by
 rintro pins s σ H x y v u Q I rx ry ⟨w,S,d,e,hS,qd,qe,p⟩;obtain⟨z,hz,p⟩:=p.of;unfold oEq at hz;cases h:eqS d e with
 |none=>rw[h]at hz;cases hz
 |some c=>
  rw[h]at hz;cases hz;obtain⟨h1,h2⟩:=zU qd qe h
  exact Gg pins s σ H _ _ v u Q I rx ry ⟨h1,by rw[h2];exact p.ret RD.mkB hS⟩
theorem GJ:OpR X (compareOp .NotEq) (xO X.K E oNe):=by
 rintro pins s σ H x y v u Q I rx ry ⟨w,S,d,e,hS,qd,qe,p⟩;obtain⟨z,hz,p⟩:=p.of;unfold oNe at hz;cases h:eqS d e with
 |none=>rw[h]at hz;cases hz
 |some c=>
  rw[h]at hz;cases hz;obtain⟨h1,h2⟩:=zU qd qe h
  exact Gh pins s σ H _ _ v u Q I rx ry ⟨h1,by rw[h2];exact p.ret RD.mkB hS⟩
theorem jQ{K:PySem.W.Frag}{d:D}{v:V}{a:List D}(s:RS K w H S)(q:RD K w H d v)(h:bu S d=some a):∃p vs,v=.ref p/\(SqL K H p vs\/SqT K H p vs)/\RDs K w H a vs:=by
 unfold bu at h;split at h
 ·cases h;obtain⟨p,vs,e,z,r⟩:=q.tupI;exact⟨p,vs,e,.inr (cj z),r⟩
 ·cases h;obtain⟨p,vs,e,z,r⟩:=q.lstI;exact⟨p,vs,e,.inl (SqL.of z.1),r⟩
 ·cases h;obtain⟨p,vs,e,z,r⟩:=q.fzI;exact⟨p,vs,e,.inl z.sq,r⟩
 ·split at h
  ·rename_i n b hn;cases h;obtain⟨p,e,hp⟩:=q.refI;obtain⟨p',hp',vs,hv,r⟩:=s.obj _ _ hn;rw[hp]at hp';cases hp';exact⟨p,vs,e,.inl (SqL.of hv),r⟩
  ·rename_i n b hn;cases h;obtain⟨p,e,hp⟩:=q.refI;obtain⟨p',hp',o,vs,hv,r⟩:=s.obj _ _ hn;rw[hp]at hp';cases hp';exact⟨p,vs,e,.inl (.inl (.inr ⟨o,hv⟩)),r⟩
  ·cases h
 ·cases h
theorem RDs.atI{K:PySem.W.Frag}{a:List D}{vs:List V}{d:D}(r:RDs K w H a vs)(h:atI a i=some d):∃v,L2.atI vs i=some v/\RD K w H d v:=by
 unfold L2.atI at h ⊢;rw[r.length];cases e:ixN a.length i with
 |none=>rw[e]at h;cases h
 |some j=>
  rw[e]at h
  obtain⟨v,ev,rv⟩:=r.get (show a[j]?=some d from h)
  exact⟨v,ev,rv⟩
theorem cg:IxR X (xO X.K E oIx):=by
 rintro va sl pins s σ H x y v u Q I rx ry ⟨w,S,d,e,hS,qd,qe,p⟩ hsub;obtain⟨z,hz,p'⟩:=p.of;clear p;unfold oIx at hz;split at hz
 ·rename_i a i ha;obtain⟨q,vs,rfl,sq,r⟩:=jQ hS qd ha;cases qe.int;obtain⟨v',ev,rv⟩:=r.atI hz;exact Ef va sl pins s σ H _ _ v u Q I rx ry (sq.elim (λz=>.inl ⟨q,vs,i,v',rfl,rfl,z,ev,p'.ret rv hS⟩) λz=>.inr (.inl ⟨q,vs,i,v',rfl,rfl,z,ev,p'.ret rv hS⟩)) hsub
 ·cases hz
theorem qT{K:PySem.W.Frag}{d:D}{v:V}(q:RD K w H d v)(h:iX d=true):jx v=true:=by
 unfold iX at h;split at h
 ·cases q.non;rfl
 ·cases q.bl;rfl
 ·cases q.int;rfl
 ·cases q.str;rfl
 ·cases h
theorem nJ{K:PySem.W.Frag}:∀{ds:List D}{vs:List V},RDs K w H ds vs->ds.all iX=true->vs.all jx=true
 |[],_,q,_=>by rw[q.nil_inv];rfl
 |d::ds,_,q,h=>by obtain⟨v,r,rfl,p,t⟩:=q.cons_inv;rw[Ub,Yt]at h ⊢;exact⟨qT p h.1,nJ t h.2⟩
theorem EB{K:PySem.W.Frag}{d e:D}{x y:V}(qd:RD K w H d x)(qe:RD K w H e y)(h1:iX d=true)(h2:iX e=true):eqV x y=eqF d e:=by
 unfold iX at h1 h2
 split at h1<;>(try (cases h1;done))<;>split at h2<;>(try (cases h2;done))<;>(unfold RD at qd qe;subst qd;subst qe;rfl)
theorem qU{K:PySem.W.Frag}{d:D}{x:V}(qd:RD K w H d x)(hd:iX d=true):∀{ds:List D}{vs:List V},RDs K w H ds vs->ds.all iX=true->(vs.any λy=>eqV y x)=ds.any λz=>eqF z d
 |[],_,q,_=>by rw[q.nil_inv];rfl
 |e::ds,_,q,h=>by obtain⟨v,r,rfl,p,t⟩:=q.cons_inv;rw[Ub,Yt]at h;rw[Q4,Q4,EB p qd h.1 hd,qU qd hd t h.2]
theorem GK:OpR X (compareOp .In) (xO X.K E (oIn false)):=by
 rintro pins s σ H x y v u Q I rx ry ⟨w,S,d,e,hS,qd,qe,p⟩;obtain⟨z,hz,p⟩:=p.of;unfold oIn at hz;split at hz
 ·rename_i a ha;split at hz
  ·rename_i hf;obtain⟨q,vs,rfl,sq,r⟩:=jQ hS qe ha;cases hz;refine yt pins s σ H _ _ v u Q I rx ry ⟨q,vs,rfl,sq,qT qd hf.1,nJ r hf.2,?_⟩;have hi:inV x vs=a.any λz=>eqF z d:=qU qd hf.1 r hf.2;simp only[Jw,Yj]at p ⊢;rw[hi];exact p.ret RD.mkB hS
  ·cases hz
 ·cases hz
theorem nK:OpR X (compareOp .NotIn) (xO X.K E (oIn true)):=by
 rintro pins s σ H x y v u Q I rx ry ⟨w,S,d,e,hS,qd,qe,p⟩;obtain⟨z,hz,p⟩:=p.of;unfold oIn at hz;split at hz
 ·rename_i a ha;split at hz
  ·rename_i hf;obtain⟨q,vs,rfl,sq,r⟩:=jQ hS qe ha;cases hz;refine qL pins s σ H _ _ v u Q I rx ry ⟨q,vs,rfl,sq,qT qd hf.1,nJ r hf.2,?_⟩;have hi:inV x vs=a.any λz=>eqF z d:=qU qd hf.1 r hf.2;simp only[Yd]at p ⊢;rw[hi];exact p.ret RD.mkB hS
  ·cases hz
 ·cases hz
end
section
open PySem.SeqAt
open PySem.AutoSeq1 (wpAny_loadPart')
open PySem.MeetsSeq PySem.MeetsSeq2 PySem.MeetsSeq3
theorem qV(a:Int)(t:Tok)(l:Addr)(items:Array Value)(n:Nat)(dd:Option Addr)(sl:Array (Option Value)):
  Meets (Builtin.«int.__rmul__» ⟨[.int a t,.ref l],[]⟩) (λ_ R s=>s.heap.get? l=some { cls:=.type "tuple",dict:=dd,data:=.seq items n,slots:=sl }/\R (.ok (.ret Value.notImplemented)) s):=
 .of_wp λprog w A R s h=>by obtain⟨hp,g,d,tk,os⟩:=s;obtain⟨hl,h⟩:=h;wp_walk using wpAny_loadPart' hl;exact⟨_,rfl,h⟩
theorem qW(l:Addr)(items:Array Value)(n:Nat)(k:Int)(t:Tok)(dd:Option Addr)(sl:Array (Option Value))(h1:¬(decide (k < -(2^63))||decide (k >= 2^63))=true)(h2:(items.isEmpty||k == 1)=true):
  Meets (Builtin.«tuple.__mul__» ⟨[.ref l,.int k t],[]⟩) (λ_ R s=>s.heap.get? l=some { cls:=.type "tuple",dict:=dd,data:=.seq items n,slots:=sl }/\R (.ok (.ret (.ref l))) s):=
 .of_wp λprog w A R s h=>by obtain⟨hp,g,d,tk,os⟩:=s;obtain⟨hl,h⟩:=h;have f1:=AutoSeq1.idx_int;wp_walk using wpAny_loadPart' hl;rw[Jb h1];wp_walk using wpAny_loadPart' hl;exact⟨_,rfl,h⟩
theorem qX(l:Addr)(items:Array Value)(n:Nat)(k:Int)(t:Tok)(dd:Option Addr)(sl:Array (Option Value))(h1:¬(decide (k < -(2^63))||decide (k >= 2^63))=true)(h2:¬(items.isEmpty||k == 1)=true)(h3:(decide (k<=0)||items.isEmpty)=true):
  Meets (Builtin.«tuple.__mul__» ⟨[.ref l,.int k t],[]⟩) (λ_ R s=>s.heap.get? l=some { cls:=.type "tuple",dict:=dd,data:=.seq items n,slots:=sl }/\R (.ok (.ret (Value.ref s.heap.objs.size))) { s with heap:=s.heap.push { cls:=Value.type "tuple",data:=Data.seq #[] },toks:=s.toks }):=
 .of_wp λprog w A R s h=>by obtain⟨hp,g,d,tk,os⟩:=s;obtain⟨hl,h⟩:=h;have f1:=AutoSeq1.idx_int;wp_walk using wpAny_loadPart' hl;rw[Jb h1];wp_walk using wpAny_loadPart' hl;exact⟨_,rfl,h⟩
theorem qY(l:Addr)(items:Array Value)(n:Nat)(k:Int)(t:Tok)(dd:Option Addr)(sl:Array (Option Value))(h1:¬(decide (k < -(2^63))||decide (k >= 2^63))=true)(h2:¬(items.isEmpty||k == 1)=true)(h3:¬(decide (k<=0)||items.isEmpty)=true)
  (h4:¬(items.size:Int)*k>(2^63-1)/8) (h5:¬Builtin.Tuple.tupleTooMany ((items.size:Int)*k)=true) (hsz:(List.foldl (λx1 x2=>x1++x2) #[] (List.replicate k.toNat items)).size<=sizeLine):
  Meets (Builtin.«tuple.__mul__» ⟨[.ref l,.int k t],[]⟩) (λ_ R s=>s.heap.get? l=some { cls:=.type "tuple",dict:=dd,data:=.seq items n,slots:=sl }/\R (.ok (.ret (Value.ref s.heap.objs.size))) { s with heap:=s.heap.push { cls:=Value.type "tuple",data:=Data.seq (List.foldl (λx1 x2=>x1++x2) #[] (List.replicate k.toNat items)) },toks:=s.toks }):=
 .of_wp λprog w A R s h=>by obtain⟨hp,g,d,tk,os⟩:=s;obtain⟨hl,h⟩:=h;have f1:=AutoSeq1.idx_int;wp_walk using wpAny_loadPart' hl;rw[Jb h1];wp_walk using wpAny_loadPart' hl;rw[Jb h4];wp_walk using wpAny_loadPart' hl;exact⟨_,rfl,h⟩
end
section
variable{prog:Program}{w:World}{A:Around}{E:Value->Shared->Prop}{s:Shared}
theorem lu:fillsNumberSlot (.type "tuple") "mul" = pure false:=
 PySem.fillsNumberSlot_seq (id:="tuple.__mul__") (r:=some (.builtin "tuple.__rmul__")) F.slot_tuple_mul.lookup (by decide +kernel) F.slot_tuple_rmul.lookup (by decide +kernel)
theorem qZ:seqRepeat? (.type "tuple")=pure (some (.builtin "tuple.__mul__")):=by
 unfold seqRepeat?
 rw[PySem.seqSlot_of (T:="tuple") (name:="__mul__") (id:="tuple.__mul__") F.slot_tuple_mul.lookup (by decide +kernel),PySem.seqSlot_of (T:="tuple") (name:="__rmul__") (id:="tuple.__rmul__") F.slot_tuple_rmul.lookup (by decide +kernel)]
 rfl
theorem Ca{t:Addr}{vs:List Value}{k:Int}{tk:Tok}{Q:Value->Shared->Prop}(ht:IsTup s.heap t vs.toArray)(h1:-(2^63)<=k)(h2:k<2^63)(hz:vs.length*k.toNat<=sizeLine)
  (q1:(vs=[]\/k=1)->Q (.ref t) s) (q2:¬(vs=[]\/k=1)->Q (.ref s.heap.objs.size) { s with heap:=s.heap.push { cls:=.type "tuple",data:=.seq (List.replicate k.toNat vs).flatten.toArray } }):
  wpAny (model prog w) A (binaryOp .Mult (.ref t) (.int k tk)) Q E s:=by
 obtain⟨⟨cls,dd,data,sl⟩,ho,hc,n,hd⟩:=id ht;simp only at hc hd;subst hc hd
 have hk:¬(decide (k < -(2^63))||decide (k >= 2^63))=true:=by simp;omega
 refine wpAny_binaryOp_repeat_ref (T:="tuple") (U:="int") (by decide) ⟨_,ho,rfl⟩ (λs'=>V7 s' k tk) lu F.fills_int_mul Vr qZ F.slot_int_index.lookup
  (Wp Vr (V7 s k tk) F.entry_int_rmul (F.args_int_rmul_2 _ _) (qV k tk t vs.toArray n dd sl) ⟨ho,rfl,⟨_,ho,rfl⟩,?_⟩)
 have hfold:∀m:Nat,List.foldl (λx1 x2=>x1++x2) #[] (List.replicate m vs.toArray)=(List.replicate m vs).flatten.toArray:=λm=>by have:=foldl_rep vs m [];rw[Q0]at this;exact this
 by_cases c1:vs=[]\/k=1
 ·refine Wp F.slot_tuple_mul ⟨_,ho,rfl⟩ Uf (U5 _ _) (qW t vs.toArray n k tk dd sl hk ?_) ⟨ho,q1 c1⟩;rcases c1 with rfl|rfl
  ·rfl
  ·simp
 ·have c2:¬(vs.toArray.isEmpty||k == 1)=true:=by
   intro z;rw[Bool.or_eq_true]at z;rcases z with z|z
   ·exact c1 (.inl (by simpa using z))
   ·exact c1 (.inr (by simpa using z))
  by_cases c3:k<=0
  ·refine Wp F.slot_tuple_mul ⟨_,ho,rfl⟩ Uf (U5 _ _) (qX t vs.toArray n k tk dd sl hk c2 (by simp[c3])) ⟨ho,?_⟩
   have:=q2 c1
   rw[show k.toNat=0 by omega]at this
   exact this
  ·have c4:¬(decide (k<=0)||vs.toArray.isEmpty)=true:=by
    intro z;rw[Bool.or_eq_true]at z;rcases z with z|z
    ·exact c3 (Zw z)
    ·exact c1 (.inl (by simpa using z))
   have hmul:((vs.toArray.size:Nat):Int)*k=((vs.length*k.toNat:Nat):Int):=by rw[Js,Int.natCast_mul,Int.toNat_of_nonneg (by omega)]
   have hs0:(sizeLine:Nat)=2^24:=rfl;refine Wp F.slot_tuple_mul ⟨_,ho,rfl⟩ Uf (U5 _ _) (qY t vs.toArray n k tk dd sl hk c2 c4 ?_ ?_ ?_) ⟨ho,?_⟩
   ·rw[hmul];intro z
    have:((2:Int)^63-1)/8 >= 2^24:=by decide
    omega
   ·rw[hmul];unfold Builtin.Tuple.tupleTooMany;simp only[decide_eq_true_eq];intro z;have z':((sizeLine:Nat):Int)<((vs.length*k.toNat:Nat):Int):=z;omega
   ·rw[hfold,Js,len_rep,Uk];exact hz
   ·rw[hfold];exact q2 c1
end
section
variable{prog:Program}{w:World}{A:Around}{E:Value->Shared->Prop}{s:Shared}
theorem zV{t b:Addr}{ws:List Value}{Q:Value->Shared->Prop}(ht:IsTup s.heap t ([]:List Value).toArray)(hb:IsTup s.heap b ws.toArray)(h:Q (.ref b) s):wpAny (model prog w) A (binaryOp .Add (.ref t) (.ref b)) Q E s:=by obtain⟨⟨cls,dd,data,sl⟩,ho,hc,n,hd⟩:=id ht;obtain⟨⟨cls2,dd2,data2,sl2⟩,ho2,hc2,n2,hd2⟩:=id hb;simp only at hc hd hc2 hd2;subst hc hd hc2 hd2;exact concat_meets ⟨_,ho,rfl⟩ ⟨_,ho2,rfl⟩ noFill_tuple_add seq_tuple_add Vb V8 (V3 _ _) (tuple_addW0 t b _ ws.toArray n n2 dd dd2 sl sl2 rfl) ⟨ho,ho2,h⟩
open HT in
theorem jt{t sl:Addr}{items:Array Value}{vl vu:Value}{lo hi:Option Int}{Q:Value->Shared->Prop}(ht:IsTup s.heap t items)(hs:s.heap.IsSliceOf sl vl vu .none)(pl:IsPart vl lo)(pu:IsPart vu hi)
  (hw:sIx items.size 0 lo=0/\sIx items.size items.size hi=items.size) (h:Q (.ref t) s):wpAny (model prog w) A (getItem (.ref t) (.ref sl)) Q E s:=by
 obtain⟨os,hos,hcs,hds⟩:=id hs;have hTs:s.TypeIs (.ref sl) "slice":=⟨os,hos,hcs⟩
 unfold getItem
 try with_reducible refine Yw ?_
 first|refine J6 (Jc ?_)|skip
 refine J6 (Ud ht.typeIs (by decide) ?_)
 refine J6 (Yu (name:=Str.ofString "__getitem__") ht.typeIs Z0
  (Z4 Z0 ht.typeIs entry_tuple_getitem ?_ (args_tuple_getitem _ _)))
 show wpAny _ _ (Builtin.Tuple.tupleItemsOf (.ref t) >>= _) _ _ s;refine J6 (tupleItemsOf_ ht ?_);refine J6 (Wi hTs ?_)
 rw[J8 (by decide)]
 refine J6 (gU hs pl pu ?_)
 have hyes:(((sIx items.size 0 lo:Nat):Int) == 0&&(1:Int) == 1&&(sIx items.size items.size hi-sIx items.size 0 lo) == items.size)=true:=by rw[hw.1,hw.2];simp
 show wpAny _ _ (if (((sIx items.size 0 lo:Nat):Int) == 0&&(1:Int) == 1&&(sIx items.size items.size hi-sIx items.size 0 lo) == items.size)=true then _ else _) _ _ s
 rw[J8 hyes];obtain⟨ob,hob,hcl,_⟩:=id ht
 have hex:∀{Q':Bool->Shared->Prop},Q' true s->wpAny (model prog w) A.in1 (Builtin.Tuple.tupleIsExact (.ref t)) Q' E s:=λq=>by unfold Builtin.Tuple.tupleIsExact;refine J6 (Wi ht.typeIs (Jc ?_));exact q
 refine J6 (hex ?_);rw[J8 rfl]
 first
  |exact J6 (Yv (Jc ⟨_,rfl,Jc h⟩))
  |exact J6 (Yv (J6 (Jc ⟨_,rfl,Jc h⟩)))
  |exact J6 (Yv (J6 (Jc (Jc ⟨_,rfl,Jc h⟩))))
  |exact J6 (J6 (Yv (Jc (Jc ⟨_,rfl,Jc h⟩))))
end
section
variable{X:Cx}{E:XK}
theorem kh{K:PySem.W.Frag}{vs:List V}{ds:List D}(z:At w H p (.tup vs)\/sW K p vs)(r:RDs K w H ds vs):RD K w H (.tup ds) (.ref p):=by unfold RD;exact⟨p,vs,rfl,z,r⟩
theorem bD:OpR X (binaryOp .Add) (xO X.K E ba):=by
 rintro pins s σ H x y v u Q I rx ry ⟨w,S,d,e,hS,qd,qe,p⟩;obtain⟨z,hz,p'⟩:=p.of;clear p;unfold ba at hz;split at hz
 ·cases hz;cases qd.int;cases qe.int;exact DZ pins s σ H _ _ v u Q I rx ry ⟨_,_,rfl,rfl,p'.ret RD.mkI hS⟩
 ·split at hz
  ·cases hz;cases qd.str;cases qe.str
   exact vc pins s σ H _ _ v u Q I rx ry ⟨_,_,rfl,rfl,by assumption,p'.ret RD.mkS hS⟩
  ·cases hz
 ·split at hz
  ·rename_i S' a b hl;cases hz;obtain⟨pa,xs,rfl,za,ra⟩:=qd.tupI;obtain⟨pb,ys,rfl,zb,rb⟩:=qe.tupI;by_cases ha:a=[]
   ·subst ha;have hxs:=ra.nil_inv;subst hxs;cases rx;cases ry;obtain⟨its,r1,p1,_⟩:=I.tuple (cj za);obtain⟨its2,r2,p2,_⟩:=I.tuple (cj zb);have:its=[]:=r1.nil_iff.mpr rfl;subst this;exact zV p1 p2 ⟨.ref pb,H,I,rfl,p'.ret (kh zb rb) hS⟩
   ·refine BV pins s σ H _ _ v u Q I rx ry ⟨pa,pb,xs,ys,rfl,rfl,cj za,cj zb,λz=>ha ?_,by rw[ra.length,rb.length];exact hl,λz=>?_,λz q hq=>?_⟩
    ·have:=ra.length;rw[z]at this;exact Zg.mp this.symm
    ·have hb:b=[]:=by have:=rb.length;rw[z]at this;exact Zg.mp this.symm
     subst hb;rw[Yr]at p';exact p'.ret (kh za ra) hS
    ·exact p'.at (Ext.new hq) (RD.newTup hS hq (ra.append rb)) (hS.new hq)
  ·cases hz
 ·split at hz
  ·rename_i S' a b hl;cases hz;obtain⟨pa,xs,rfl,za,ra⟩:=qd.lstI;obtain⟨pb,ys,rfl,zb,rb⟩:=qe.lstI
   exact Ei pins s σ H _ _ v u Q I rx ry ⟨pa,pb,xs,ys,rfl,rfl,za.1,zb.1,by rw[ra.length,rb.length];exact hl,λq hq=>p'.at (Ext.new hq) (RD.newLst hS hq (ra.append rb)) (hS.new hq)⟩
  ·cases hz
 ·cases hz
theorem RDs.rep{K:PySem.W.Frag}{ds:List D}{vs:List V}(r:RDs K w H ds vs):∀k:Nat,RDs K w H (List.replicate k ds).flatten (List.replicate k vs).flatten
 |0=>by simp;exact .nil
 |k+1=>by rw[Q2,Q2,Qo,Qo];exact r.append (RDs.rep r k)
theorem cQ:OpR X (binaryOp .Mult) (xO X.K E cq):=by
 rintro pins s σ H x y v u Q I rx ry ⟨w,S,d,e,hS,qd,qe,p⟩;obtain⟨z,hz,p'⟩:=p.of;clear p;unfold cq at hz;split at hz
 ·split at hz
  ·cases hz;cases qd.int;cases qe.int
   exact D1 pins s σ H _ _ v u Q I rx ry ⟨_,_,rfl,rfl,by assumption,p'.ret RD.mkI hS⟩
  ·cases hz
 ·split at hz
  ·rename_i S' a k hl;cases hz;obtain⟨pa,xs,rfl,za,ra⟩:=qd.tupI;cases qe.int;cases rx;obtain⟨t,rfl⟩:=ry;obtain⟨its,r1,p1,_⟩:=I.tuple (cj za)
   have e1:its.length=a.length:=by rw[<- r1.length,ra.length]
   refine Ca p1 hl.1 hl.2.1 (by rw[e1];exact hl.2.2) (λc=>?_) λc=>?_
   ·refine⟨.ref pa,H,I,rfl,?_⟩
    have:(List.replicate k.toNat a).flatten=a:=by
     rcases c with c|c
     ·have:a=[]:=by rw[c]at e1;exact Zg.mp e1.symm
      subst this;simp
     ·subst c;simp
    rw[this]at p';exact p'.ret (kh za ra) hS
   ·have hn:H s.heap.objs.size=none:=I.hok.fresh (J9 _);refine⟨.ref s.heap.objs.size,_,I.laid (t':=s.toks) (o:=.tup (List.replicate k.toNat xs).flatten) (λb ob q=>J7 _ q) (J9 _) ?_,rfl,p'.at (Ext.new hn) (RD.newTup hS hn (ra.rep _)) (hS.new hn)⟩
    exact⟨by rw[len_rep,Uk,ra.length];exact hl.2.2,_,r1.rep _,IsTup.new _ _⟩
  ·cases hz
 ·split at hz
  ·rename_i S' a k hl;cases hz;obtain⟨pa,xs,rfl,za,ra⟩:=qd.lstI;cases qe.int
   exact Ej pins s σ H _ _ v u Q I rx ry ⟨pa,k,xs,rfl,rfl,za.1,hl.1,hl.2.1,by rw[ra.length];exact hl.2.2,λq hq=>p'.at (Ext.new hq) (RD.newLst hS hq (ra.rep _)) (hS.new hq)⟩
  ·cases hz
 ·cases hz
theorem bO{a b:Expr}{mb:EM}{pos:Pos}{f:Sto->D->D->Option D}(hr:IxR X (xO X.K E f))(ha:SE X E a ma)(hb:SE X E b mb)(hs:wM b:=by intro _ _;kernel_rfl):SE X E (.Subscript a b pos) (eOp f ma mb):=⟨
 bq (Gw hr ha.out hb.out hs) λs H Q zq=>ex6 zq λw r S hr hS hp=>⟨w,r,S,hr,hS,hp.bind hS λd S1 w1 H1 v x1 q1 s1 p1=>
  ⟨w1,r,S1,hr.ext x1,s1,p1.bind s1 λe S2 w2 H2 u x2 q2 s2 p2=>⟨w2,S2,d,e,s2,RD.ext x2 d v q1,q2,p2⟩⟩⟩⟩
noncomputable abbrev OM:=Rho->Sto->R (Option Int)
def ROp(w:Wd)(H:Hp)(a b:Option Int):Prop:=b=a
noncomputable def uO(K:PySem.W.Frag)(E:XK)(m:OM):TO:=λs H Q=>∃w r S,RSt K w H r s/\RS K w H S/\aF K E ROp w H (m r S) Q
noncomputable def oNo:OM:=λ_ S=>.ok none S
noncomputable def jB(a:EM):OM:=λr S=>(a r S).bind λx S1=>match x with
 |.int i=>.ok (some i) S1
 |_=>.bad
abbrev SO'(X:Cx)(E:XK)(e:Option Expr)(m:OM):Prop:=Bx (PO X e (uO X.K E m))
theorem rf:SO' X E none oNo:=⟨λpins s σ H Q I zq=>ex6 zq λw r S hr hS hp=>BS pins s σ H Q I (hp.ret rfl hS)⟩
theorem rh{a:Expr}(ha:SE X E a ma):SO' X E (some a) (jB ma):=⟨λpins s σ H Q I zq=>ex6 zq λw r S hr hS hp=>BU ha.out pins s σ H Q I
 ⟨w,r,S,hr,hS,hp.bind hS λd S1 w1 H1 v x1 q1 s1 p1=>by
  cases d with
  |int i=>cases q1.int;exact⟨i,rfl,p1.ret rfl s1⟩
  |_=>exact p1.elim⟩⟩
noncomputable def xL(K:PySem.W.Frag)(E:XK)(f:Sto->D->Option Int->Option Int->Option D):V->Option Int->Option Int->Hp->VK->Prop:=λx lo hi H Q=>∃w S d,RS K w H S/\RD K w H d x/\aF K E (RD K) w H (R.of S (f S d lo hi)) Q
noncomputable def eSl(f:Sto->D->Option Int->Option Int->Option D)(a:EM)(lo hi:OM):EM:=λr S=>(a r S).bind λx S1=>(lo r S1).bind λl S2=>(hi r S2).bind λu S3=>R.of S3 (f S3 x l u)
theorem zW{a:Expr}{lo hi:Option Expr}{ml mh:OM}{p2 pos:Pos}{f:Sto->D->Option Int->Option Int->Option D}(hf:SlR X (xL X.K E f))(ha:SE X E a ma)(hl:SO' X E lo ml)(hh:SO' X E hi mh):
  SE X E (.Subscript a (.Slice lo hi none p2) pos) (eSl f ma ml mh):=⟨
 bq (zD hf ha.out hl.out hh.out) λs H Q zq=>ex6 zq λw r S hr hS hp=>⟨w,r,S,hr,hS,hp.bind hS λd S1 w1 H1 v x1 q1 s1 p1=>
  ⟨w1,r,S1,hr.ext x1,s1,p1.bind s1 λl S2 w2 H2 l' x2 q2 s2 p2=>⟨w2,r,S2,(hr.ext x1).ext x2,s2,p2.bind s2 λu S3 w3 H3 u' x3 q3 s3 p3=>by
   have e1:l'=l:=q2;have e2:u'=u:=q3;subst e1 e2
   exact⟨w3,S3,d,s3,RD.ext x3 _ _ (RD.ext x2 _ _ q1),p3⟩⟩⟩⟩⟩
noncomputable def mR:Sto->D->Option Int->Option Int->Option D
 |_,.tup a,lo,hi=>some (.tup (cutD a lo hi))
 |_,.lst a,lo,hi=>some (.lst (cutD a lo hi))
 |_,_,_,_=>none
theorem RDs.cut{K:PySem.W.Frag}{ds:List D}{vs:List V}(r:RDs K w H ds vs)(lo hi:Option Int):RDs K w H (cutD ds lo hi) (sS vs lo hi):=by unfold cutD sS;rw[r.length];exact(r.drop _).take _
theorem vq:SlR X (xL X.K E mR):=by
 rintro pins s σ H x v vl vu lo hi sl Q I rx hs pl pu ⟨w,S,d,hS,qd,p⟩;obtain⟨z,hz,p'⟩:=p.of;clear p;unfold mR at hz;split at hz
 ·rename_i a;cases hz;obtain⟨pa,xs,rfl,za,ra⟩:=qd.tupI;by_cases hw:HT.sIx xs.length 0 lo=0/\HT.sIx xs.length xs.length hi=xs.length
  ·cases rx;obtain⟨its,r,ht,hz⟩:=I.tuple (cj za)
   have hlen:its.toArray.size=xs.length:=by rw[Js];exact r.length.symm
   refine⟨"tuple",_,PyProof.Rows.slot_tuple_getitem.lookup,ht.typeIs,?_⟩
   refine jt ht hs pl pu (by rw[hlen];exact hw) ⟨.ref pa,H,I,rfl,?_⟩
   have e:cutD a lo hi=a:=by unfold cutD;rw[<- ra.length,hw.1,hw.2];rw[List.drop_zero,Nat.sub_zero,ra.length,Wq]
   rw[e]at p';exact p'.ret (kh za ra) hS
  ·exact Ed pins s σ H _ v vl vu lo hi sl Q I rx hs pl pu ⟨pa,xs,rfl,cj za,hw,λq hq=>p'.at (Ext.new hq) (RD.newTup hS hq (ra.cut lo hi)) (hS.new hq)⟩
 ·rename_i a;cases hz;obtain⟨pa,xs,rfl,za,ra⟩:=qd.lstI;exact BY pins s σ H _ v vl vu lo hi sl Q I rx hs pl pu ⟨pa,xs,rfl,SqL.of za.1,λq hq=>p'.at (Ext.new hq) (RD.newLst hS hq (ra.cut lo hi)) (hS.new hq)⟩
 ·cases hz
noncomputable def cY:Sto->List D->Option D
 |_,[.str x]=>if x.length<=sizeLine then some (.int x.length) else none
 |_,[.dic x]=>some (.int x.length)
 |S,[d]=>match bu S d with
  |some a=>some (.int a.length)
  |none=>match d with
   |.ref n=>match S[n]? with
    |some (.dic kvs)=>some (.int kvs.length)
    |_=>none
   |_=>none
 |_,_=>none
theorem RDk.length{K:PySem.W.Frag}:∀{ds:List (Sum Int Str×D)}{vs:List (Key×V)},RDk K w H ds vs->vs.length=ds.length
 |[],_,h=>by unfold RDk at h;rw[h];rfl
 |(k,d)::ds,_,h=>by unfold RDk at h;obtain⟨v,r,rfl,_,q⟩:=h;simp[RDk.length q]
theorem dW:bF X (.builtin "len") (xC X.K E cY):=by
 rintro pins s σ H xs us Q I r ⟨w,S,ds,hS,qs,p⟩;obtain⟨z,hz,p'⟩:=p.of;clear p;unfold cY at hz;split at hz
 ·split at hz
  ·cases hz;obtain⟨v,rfl,q⟩:=qs.one_inv;cases q.str
   exact qN pins s σ H _ us Q I r ⟨_,rfl,by assumption,p'.ret RD.mkI hS⟩
  ·cases hz
 ·cases hz;obtain⟨v,rfl,q⟩:=qs.one_inv;unfold RD at q;obtain⟨a,uu,rfl,z,rk⟩:=q
  exact pG pins s σ H _ us Q I r ⟨_,_,rfl,z.1,by rw[rk.length];exact p'.ret RD.mkI hS⟩
 ·obtain⟨v,rfl,q⟩:=qs.one_inv;split at hz
  ·rename_i a ha;cases hz;obtain⟨pp,vs,rfl,sq,ra⟩:=jQ hS q ha
   exact qM pins s σ H _ us Q I r ⟨pp,vs,rfl,sq,by rw[ra.length];exact p'.ret RD.mkI hS⟩
  ·split at hz
   ·split at hz
    ·rename_i n kvs hn;cases hz;obtain⟨pp,rfl,hp⟩:=q.refI;obtain⟨p2,hp2,vs,hv,rk⟩:=hS.obj _ _ hn;rw[hp]at hp2;cases hp2
     exact pG pins s σ H _ us Q I r ⟨_,_,rfl,hv,by rw[rk.length];exact p'.ret RD.mkI hS⟩
    ·cases hz
   ·cases hz
 ·cases hz
noncomputable def tq:Sto->List D->Option D
 |_,[.int i]=>some (.int (if i<0 then -i else i))
 |_,_=>none
theorem vt:bF X (.builtin "abs") (xC X.K E tq):=by
 rintro pins s σ H xs us Q I r ⟨w,S,ds,hS,qs,p⟩;obtain⟨z,hz,p'⟩:=p.of;clear p;unfold tq at hz;split at hz
 ·cases hz;obtain⟨v,rfl,q⟩:=qs.one_inv;cases q.int;exact zz pins s σ H _ us Q I r ⟨_,rfl,p'.ret RD.mkI hS⟩
 ·cases hz
noncomputable def rj:Sto->List D->Option D
 |_,[.int i,.int j]=>some (.int (if j>i then j else i))
 |_,_=>none
theorem vw(hc:X.calm=true):bF X (.builtin "max") (xC X.K E rj):=by
 rintro pins s σ H xs us Q I r ⟨w,S,ds,hS,qs,p⟩;obtain⟨z,hz,p'⟩:=p.of;clear p;unfold rj at hz;split at hz
 ·cases hz;obtain⟨v,u,rfl,q,q'⟩:=qs.two_inv;cases q.int;cases q'.int;exact yo hc pins s σ H _ us Q I r ⟨_,_,rfl,p'.ret RD.mkI hS⟩
 ·cases hz
noncomputable def yB:Sto->List D->Option D
 |_,[.int i,.int j]=>some (.int (if j<i then j else i))
 |_,_=>none
theorem zX(hc:X.calm=true):bF X (.builtin "min") (xC X.K E yB):=by
 rintro pins s σ H xs us Q I r ⟨w,S,ds,hS,qs,p⟩;obtain⟨z,hz,p'⟩:=p.of;clear p;unfold yB at hz;split at hz
 ·cases hz;obtain⟨v,u,rfl,q,q'⟩:=qs.two_inv;cases q.int;cases q'.int;exact yp hc pins s σ H _ us Q I r ⟨_,_,rfl,p'.ret RD.mkI hS⟩
 ·cases hz
noncomputable def ng:Sto->List D->Option D
 |_,[.int i,.int j]=>if 0<j/\j<1073741824 then some (.tup [.int (i/j),.int (i%j)]) else none
 |_,_=>none
theorem yC:bF X (.builtin "divmod") (xC X.K E ng):=by
 rintro pins s σ H xs us Q I r ⟨w,S,ds,hS,qs,p⟩;obtain⟨z,hz,p'⟩:=p.of;clear p;unfold ng at hz;split at hz
 ·split at hz
  ·cases hz;obtain⟨v,u,rfl,q,q'⟩:=qs.two_inv;cases q.int;cases q'.int
   exact sP pins s σ H _ us Q I r ⟨_,_,rfl,by assumption,λt ht=>p'.at (Ext.new ht) (RD.newTup hS ht (.cons RD.mkI (.cons RD.mkI .nil))) (hS.new ht)⟩
  ·cases hz
 ·cases hz
noncomputable def tu:Sto->List D->Option D
 |_,[.int i]=>some (.int i)
 |_,[.bl b]=>some (.int (if b then 1 else 0))
 |_,_=>none
theorem zY:bF X (.type "int") (xC X.K E tu):=by
 rintro pins s σ H xs us Q I r ⟨w,S,ds,hS,qs,p⟩;obtain⟨z,hz,p'⟩:=p.of;clear p;unfold tu at hz;split at hz
 ·cases hz;obtain⟨v,rfl,q⟩:=qs.one_inv;cases q.int;exact pf pins s σ H _ us Q I r (.inl ⟨_,rfl,p'.ret RD.mkI hS⟩)
 ·cases hz;obtain⟨v,rfl,q⟩:=qs.one_inv;cases q.bl;exact pf pins s σ H _ us Q I r (.inr ⟨_,rfl,p'.ret RD.mkI hS⟩)
 ·cases hz
noncomputable def de:Sto->List D->Option D
 |_,[.tup a]=>some (.tup a)
 |S,[d]=>(bu S d).map .tup
 |_,_=>none
theorem fj:bF X (.type "tuple") (xC X.K E de):=by
 rintro pins s σ H xs us Q I r ⟨w,S,ds,hS,qs,p⟩;obtain⟨z,hz,p'⟩:=p.of;clear p;unfold de at hz;split at hz
 ·cases hz;obtain⟨v,rfl,q⟩:=qs.one_inv;obtain⟨pa,vs,rfl,za,ra⟩:=q.tupI;exact jy pins s σ H _ us Q I r ⟨pa,vs,rfl,.inr ⟨cj za,p'.ret (kh za ra) hS⟩⟩
 ·rename_i d hd;obtain⟨v,rfl,q⟩:=qs.one_inv;cases ha:bu S d with
  |none=>rw[ha]at hz;cases hz
  |some a=>
   rw[ha]at hz;cases hz
   have hq:∃pa vs,v=.ref pa/\SqL X.K H pa vs/\RDs X.K w H a vs:=by
    unfold bu at ha;split at ha
    ·exact(hd _ rfl).elim
    ·cases ha;obtain⟨p,vs,e,z,r⟩:=q.lstI;exact⟨p,vs,e,SqL.of z.1,r⟩
    ·cases ha;obtain⟨p,vs,e,z,r⟩:=q.fzI;exact⟨p,vs,e,z.sq,r⟩
    ·split at ha
     ·rename_i n b hn;cases ha;obtain⟨p,e,hp⟩:=q.refI;obtain⟨p2,hp2,vs,hv,rk⟩:=hS.obj _ _ hn;rw[hp]at hp2;cases hp2;exact⟨p,vs,e,SqL.of hv,rk⟩
     ·rename_i n b hn;cases ha;obtain⟨p,e,hp⟩:=q.refI;obtain⟨p2,hp2,o,vs,hv,rk⟩:=hS.obj _ _ hn;rw[hp]at hp2;cases hp2;exact⟨p,vs,e,.inl (.inr ⟨o,hv⟩),rk⟩
     ·cases ha
    ·cases ha
   obtain⟨pa,vs,rfl,sq,ra⟩:=hq;exact jy pins s σ H _ us Q I r ⟨pa,vs,rfl,.inl ⟨sq,λt ht=>p'.at (Ext.new ht) (RD.newTup hS ht ra) (hS.new ht)⟩⟩
 ·cases hz
end
section
variable{X:Cx}{E:XK}
noncomputable def boolsOf:List D->Option (List Bool)
 |[]=>some []
 |.bl b::r=>(boolsOf r).map (b :: ·)
 |_::_=>none
noncomputable def gW:Sto->List D->Option D
 |_,[.lst a]=>(boolsOf a).map λbs=>.bl (bs.all id)
 |_,_=>none
theorem tw{K:PySem.W.Frag}:∀{ds:List D}{vs:List V}{us:List Value}{bs:List Bool},RDs K w H ds vs->Vals vs us->boolsOf ds=some bs->LSm.BoolsAre us bs
 |[],_,_,_,q,r,h=>by rw[q.nil_inv]at r;cases r;unfold boolsOf at h;cases h;exact .nil
 |d::ds,_,_,bs,q,r,h=>by
  obtain⟨v,vs,rfl,p,t⟩:=q.cons_inv;cases d with
  |bl b=>
   unfold boolsOf at h;cases e:boolsOf ds with
   |none=>rw[e]at h;cases h
   |some cs=>
    rw[e]at h;cases h;cases p.bl;cases r with
    |cons r1 r2=>
     cases r1;exact .cons b (tw t r2 e)
  |_=>unfold boolsOf at h;cases h
theorem iZ(hc:X.calm=true):bF X (.builtin "all") (xC X.K E gW):=by
 rintro pins s σ H xs us Q I r ⟨w,S,ds,hS,qs,p⟩;obtain⟨z,hz,p'⟩:=p.of;clear p;unfold gW at hz;split at hz
 ·rename_i a;cases e:boolsOf a with
  |none=>rw[e]at hz;cases hz
  |some bs=>
   rw[e]at hz;cases hz;obtain⟨v,rfl,q⟩:=qs.one_inv;obtain⟨pa,vs,rfl,za,ra⟩:=q.lstI;obtain⟨u,rfl,ru⟩:=Wc r;cases ru;obtain⟨its,r1,⟨o,n,ho,hcl,hdn,hd⟩,_⟩:=I.list (SqL.of za.1);have hb:=tw ra r1 e;have hlt:pa<s.heap.objs.size:=Jh ho;have hl:s.heap.IsList pa its.toArray:=⟨o,ho,hcl,n,hd⟩;refine call_all_walk (Zj hl ?_)
   refine⟨s.heap.objs.size,[s.heap.objs.size,pa],[s.heap.objs.size],its.toArray.size,_,_,λi=>(bs[i]?).getD true,rfl,Vu (A:=X.A.in1) (I.ok.hd hc) _ pa (Jq hlt) its.toArray,
    ⟨⟨_,Ji _ rfl,rfl,rfl⟩,hl.push _⟩,λi v s' Q' E' hP hQ=>?_,λh' tk hk=>?_⟩
   ·obtain⟨b,e,rfl⟩:=hb.get i v (by simpa using hP)
    simp only[e,Option.getD_some]at hQ;exact Qa hQ
   ·have e:((List.range its.toArray.size).all λi=>(bs[i]?).getD true)=bs.all id:=by rw[Js,hb.length];exact LSm.range_all bs
    rw[e];exact⟨.bl _,H,I.kept (Vd hk),rfl,p'.ret RD.mkB hS⟩
 ·cases hz
noncomputable def tyD(S:Sto):D->Option String
 |.non=>some "NoneType"
 |.bl _=>some "bool"
 |.int _=>some "int"
 |.str _=>some "str"
 |.tup _=>some "tuple"
 |.lst _=>some "list"
 |.fz _=>none
 |.dic _=>some "dict"
 |.ref n=>match S[n]? with
  |some (.lst _)=>some "list"
  |some (.dic _)=>some "dict"
  |_=>none
 |.ty _=>none
 |.exc _=>none
 |.cls _=>none
noncomputable def fw:List String:=["int","bool","tuple","str","list","dict"]
noncomputable def gX:Sto->List D->Option D
 |S,[d,.ty T]=>match tyD S d with
  |some t=>if T∈fw then some (.bl (t == T||(t == "bool" && T == "int"))) else none
  |none=>none
 |_,_=>none
theorem zZ(K:PySem.W.Frag){t:String}(ht:t∈["NoneType","bool","int","str","tuple","list","dict"])(hT:T∈fw):PySem.W.kitOne K (.type t) (.type T)=some (t == T||(t == "bool" && T == "int")):=by unfold fw at hT;simp only[Jj,Y6,Zb]at ht hT;rcases ht with rfl|rfl|rfl|rfl|rfl|rfl|rfl<;>rcases hT with rfl|rfl|rfl|rfl|rfl|rfl<;>first|rfl|(with_unfolding_all rfl)|(unfold PySem.W.kitOne PySem.W.kitCls;with_unfolding_all decide)
theorem Cb{K:PySem.W.Frag}{d:D}{v:V}{t:String}(hS:RS K w H S)(q:RD K w H d v)(h:tyD S d=some t)(hk:∀a vs,¬sW K a vs\/True):
  (L2.TyOf K H v (.type t) \/ ∃a vs,v=.ref a/\t = "tuple"/\sW K a vs)/\t∈["NoneType","bool","int","str","tuple","list","dict"]:=by
 cases d with
 |non=>cases q.non;cases h;exact⟨.inl .non,by simp⟩
 |bl b=>cases q.bl;cases h;exact⟨.inl (.bl b),by simp⟩
 |int i=>cases q.int;cases h;exact⟨.inl (.int i),by simp⟩
 |str x=>cases q.str;cases h;exact⟨.inl (.str x),by simp⟩
 |tup ds=>
  obtain⟨p,vs,rfl,z,_⟩:=q.tupI;cases h
  refine⟨?_,by simp⟩
  rcases z with z|z
  ·exact .inl (.tup z.1)
  ·exact .inr ⟨p,vs,rfl,rfl,z⟩
 |lst ds=>obtain⟨p,vs,rfl,z,_⟩:=q.lstI;cases h;exact⟨.inl (.lst z.1),by simp⟩
 |fz ds=>cases h
 |dic kvs=>unfold RD at q;obtain⟨p,us,rfl,z,_⟩:=q;cases h;exact⟨.inl (.dK z.1),by simp⟩
 |ref n=>
  obtain⟨p,rfl,hp⟩:=q.refI;unfold tyD at h;simp only at h;cases e:S[n]? with
  |none=>rw[e]at h;cases h
  |some o=>
   rw[e]at h;obtain⟨p',hp',r⟩:=hS.obj n o e;rw[hp]at hp';cases hp';cases o with
   |lst a=>cases h;obtain⟨vs,hv,_⟩:=r;exact⟨.inl (.lst hv),by simp⟩
   |dic a=>cases h;obtain⟨vs,hv,_⟩:=r;exact⟨.inl (.dK hv),by simp⟩
   |fdic a=>cases h
   |ins c fs=>cases h
   |flst a=>cases h
 |ty n=>cases h
 |exc c=>cases h
 |cls c=>cases h
theorem lx:bF X (.builtin "isinstance") (xC X.K E gX):=by
 rintro pins s σ H xs us Q I r ⟨w,S,ds,hS,qs,p⟩;obtain⟨z,hz,p'⟩:=p.of;clear p;unfold gX at hz;split at hz
 ·rename_i d T;split at hz
  ·rename_i t ht;split at hz
   ·rename_i hT;cases hz;obtain⟨v,u,rfl,q,q'⟩:=qs.two_inv;unfold RD at q';subst q';obtain⟨v1,v2,rfl,rv,rt⟩:=vals2 r
    cases (show v2=Value.type T from rt)
    obtain⟨ty,hm⟩:=Cb hS q ht λ_ _=>.inr trivial;have kk:=zZ X.K hm hT;rcases ty with ty|⟨a,vs,rfl,rfl,kt⟩
    ·exact ph I rv ty kk λtk=>⟨.bl _,H,I.tok tk,rfl,p'.ret RD.mkB hS⟩
    ·cases (show v1=Value.ref a from rv)
     obtain⟨o,its,n,e,hcl,_⟩:=kt
     exact Z2 PySem.W.kitx_tuple I.kIn ⟨o,I.kIn _ _ e,hcl⟩ kk (λz=>nomatch z) λtk=>⟨.bl _,H,I.tok tk,rfl,p'.ret RD.mkB hS⟩
   ·cases hz
  ·cases hz
 ·cases hz
noncomputable def z6:Sto->D->D->D->Option Sto
 |S,.ref n,.int i,v=>match S[n]? with
  |some (.lst a)=>(ixN a.length i).map λj=>S.set n (.lst (a.set j v))
  |_=>none
 |_,_,_,_=>none
theorem z8:qH X (xS X.K z6):=by
 rintro pins s σ H o i v ov iv u Q I ro ri ru ⟨w,S,x,y,z,S',hS,qx,qy,qz,hf,k⟩;unfold z6 at hf;split at hf
 ·rename_i n j;split at hf
  ·rename_i a hn;cases e:ixN a.length j with
   |none=>rw[e]at hf;cases hf
   |some m=>
    rw[e]at hf;cases hf;obtain⟨p,rfl,hp⟩:=qx.refI;cases qy.int;obtain⟨p',hp',vs,hv,ra⟩:=hS.obj _ _ hn;rw[hp]at hp';cases hp';have hm:p∈w.st:=Z3 hp
    refine set_list pins s σ H _ _ _ ov iv u Q I ro ri ru ⟨p,vs,j,m,rfl,rfl,hv,by rw[ra.length];exact e,k w _ (Ext.mut hm hv) ?_⟩
    exact hS.mut hp hv ⟨_,aQ,RDs.ext (Ext.mut hm hv) _ _ (RDs.set qz m ra)⟩
  ·cases hf
 ·cases hf
noncomputable def xM(K:PySem.W.Frag)(E:XK)(f:Sto->D->List D->R D):V->List V->Hp->VK->Prop:=λx xs H Q=>∃w S d ds,RS K w H S/\RD K w H d x/\RDs K w H ds xs/\aF K E (RD K) w H (f S d ds) Q
noncomputable def isL(S:Sto):D->Bool
 |.lst _=>true
 |.fz _=>true
 |.ref n=>match S[n]? with
  |some (.lst _)=>true
  |_=>false
 |_=>false
theorem EC{K:PySem.W.Frag}{d:D}{v:V}(hS:RS K w H S)(q:RD K w H d v)(h:isL S d=true):tyV K "list" v H:=by
 cases d with
 |lst ds=>obtain⟨p,vs,rfl,z,_⟩:=q.lstI;exact .inl ⟨rfl,vs,SqL.of z.1⟩
 |fz ds=>obtain⟨p,vs,rfl,z,_⟩:=q.fzI;exact .inl ⟨rfl,vs,z.sq⟩
 |ref n=>
  obtain⟨p,rfl,hp⟩:=q.refI;unfold isL at h;simp only at h;cases e:S[n]? with
  |none=>rw[e]at h;cases h
  |some o=>
   rw[e]at h;cases o with
   |lst a=>
    obtain⟨p',hp',vs,hv,_⟩:=hS.obj n _ e;rw[hp]at hp';cases hp';exact .inl ⟨rfl,vs,SqL.of hv⟩
   |_=>cases h
 |_=>cases h
noncomputable def ki(f:Sto->D->List D->R D)(o:EM)(t:AM):EM:=λr S=>(o r S).bind λx S1=>if isL S1 x=true then (t r S1).bind λys S2=>f S2 x ys else .bad
theorem rm{o e:Expr}{es:List Expr}{mo:EM}{ms:AM}{name:Str}{apos cpos:Pos}{id:String}{f:Sto->D->List D->R D}(pa:PlainAttrs "list")(slot:Slot "list" name id)(hty:typeOf (.builtin id)=pure (.type "method_descriptor"))(hm:MtR X id (xM X.K E f))
  (ho:SE X E o mo) (ha:SA X E (e::es) ms) (hbase:autoParam (attributeBase o name X.env (eval o X.env)=eval o X.env) Au.h0._auto_1)
  (hfew:autoParam (((backTo cpos (starEach (e::es) X.env)).all (λx=>!x.1)&&(backToKw cpos (keywordEach [] X.env)).all (λx=>x.1.isSome)
   && decide ((e::es).length+([]:List Keyword).length+(if ([]:List Keyword).isEmpty then 0 else 1)<30))=true) Au.h0._auto_1)
  (hline:autoParam ((apos.endLine == cpos.line)=true) Au.h0._auto_1) (hs:autoParam (starEach (e::es) X.env=(false,eval e X.env)::starEach es X.env) Au.h0._auto_1) (hplain:autoParam ((backTo cpos (starEach es X.env)).any (·.1)=false) Au.h0._auto_1):
  SE X E (.Call (.Attribute o name apos) (e::es) [] cpos) (ki f mo ms):=⟨
 bq (GB pa slot hty hm ho.out ha.out hbase hfew hline hs hplain) λs H Q zq=>ex6 zq λw r S hr hS hp=>⟨w,r,S,hr,hS,hp.bind hS λd S1 w1 H1 v x1 q1 s1 p1=>by
  by_cases hl:isL S1 d=true
  ·rw[J8 hl]at p1;exact⟨EC s1 q1 hl,w1,r,S1,hr.ext x1,s1,p1.bind s1 λds S2 w2 H2 us x2 q2 s2 p2=>⟨w2,S2,d,ds,s2,RD.ext x2 _ _ q1,q2,p2⟩⟩
  ·rw[Jb hl]at p1
   exact p1.elim⟩⟩
noncomputable def cu:Sto->D->List D->R D
 |S,.ref n,[v]=>match S[n]? with
  |some (.lst a)=>if a.length<sizeLine then .ok .non (S.set n (.lst (a++[v]))) else .bad
  |_=>.bad
 |_,_,_=>.bad
theorem ji:MtR X "list.append" (xM X.K E cu):=by
 rintro pins s σ H x xs v us Q I rx rs ⟨w,S,d,ds,hS,qd,qs,p⟩;unfold cu at p;split at p
 ·rename_i n y;split at p
  ·rename_i a hn;split at p
   ·rename_i hl;obtain⟨pp,rfl,hp⟩:=qd.refI;obtain⟨yv,rfl,qy⟩:=qs.one_inv;obtain⟨p',hp',vs,hv,ra⟩:=hS.obj _ _ hn;rw[hp]at hp';cases hp';have hm:pp∈w.st:=Z3 hp
    refine lh pins s σ H _ _ v us Q I rx rs ⟨pp,vs,yv,rfl,rfl,hv,by rw[ra.length];exact hl,p.at (Ext.mut hm hv) (by unfold RD;rfl) ?_⟩
    exact hS.mut hp hv ⟨_,aQ,RDs.ext (Ext.mut hm hv) _ _ (ra.append (.cons qy .nil))⟩
   ·exact p.elim
  ·exact p.elim
 ·exact p.elim
end
noncomputable def z9:Sum Int Str->PyData
 |.inl i=>.int i
 |.inr x=>.str x
mutual
noncomputable def toPy:D->Option PyData
 |.non=>some .none
 |.bl b=>some (.bool b)
 |.int i=>some (.int i)
 |.str x=>some (.str x)
 |.tup ds=>(fk ds).map .tuple
 |.lst ds=>(fk ds).map .list
 |.dic kvs=>(iN kvs).map .dict
 |.fz _=>none
 |.ref _=>none
 |.ty _=>none
 |.exc _=>none
 |.cls _=>none
noncomputable def fk:List D->Option (List PyData)
 |[]=>some []
 |d::ds=>match toPy d,fk ds with
  |some p,some q=>some (p::q)
  |_,_=>none
noncomputable def iN:List (Sum Int Str×D)->Option (List (PyData×PyData))
 |[]=>some []
 |(k,d)::r=>match toPy d,iN r with
  |some p,some q=>some ((z9 k,p)::q)
  |_,_=>none
end
mutual
noncomputable def noL:D->Bool
 |.tup ds=>Cc ds
 |.lst _=>false
 |.dic kvs=>Ce kvs
 |_=>true
noncomputable def Cc:List D->Bool
 |[]=>true
 |d::ds=>noL d&&Cc ds
noncomputable def Ce:List (Sum Int Str×D)->Bool
 |[]=>true
 |(_,d)::r=>noL d&&Ce r
end
section
variable{X:Cx}{E:XK}
mutual
theorem gY{σ:L2.St}(I:Inv X pins σ H s):∀(d:D)(v:V)(u:Value)(p:PyData),RD X.K w H d v->RelV v u->toPy d=some p->∃as,Reads s.heap u p as/\(noL d=true->sysModules∉as)
 |.non,v,u,p,q,r,h=>by cases q.non;cases (show u=Value.none from r);unfold toPy at h;cases h;exact⟨_,.none,λ_ z=>nomatch z⟩
 |.bl b,v,u,p,q,r,h=>by cases q.bl;cases (show u=Value.bool b from r);unfold toPy at h;cases h;exact⟨_,.bool b,λ_ z=>nomatch z⟩
 |.int i,v,u,p,q,r,h=>by cases q.int;obtain⟨t,rfl⟩:=(show ∃t,u=Value.int i t from r);unfold toPy at h;cases h;exact⟨_,.int i t,λ_ z=>nomatch z⟩
 |.str x,v,u,p,q,r,h=>by cases q.str;obtain⟨t,rfl⟩:=(show ∃t,u=Value.str x t from r);unfold toPy at h;cases h;exact⟨_,.str x t,λ_ z=>nomatch z⟩
 |.tup ds,v,u,p,q,r,h=>by
  obtain⟨a,vs,rfl,z,rs⟩:=q.tupI
  cases (show u=Value.ref a from r)
  unfold toPy at h;cases e:fk ds with
  |none=>rw[e]at h;cases h
  |some ps=>
   rw[e]at h;cases h;obtain⟨its,r1,⟨o,ho,hc,n,hd⟩,_⟩:=I.tuple (cj z);obtain⟨as,ra,hn⟩:=ly I ds vs its ps rs r1 e
   exact⟨as,.tuple ho hc hd ra,λz=>hn (by unfold noL at z;exact z)⟩
 |.lst ds,v,u,p,q,r,h=>by
  obtain⟨a,vs,rfl,z,rs⟩:=q.lstI
  cases (show u=Value.ref a from r)
  unfold toPy at h;cases e:fk ds with
  |none=>rw[e]at h;cases h
  |some ps=>
   rw[e]at h;cases h;obtain⟨its,r1,⟨o,n,ho,hc,_,hd⟩,_⟩:=I.list (SqL.of z.1);obtain⟨as,ra,hn⟩:=ly I ds vs its ps rs r1 e
   exact⟨a::as,.list ho hc hd ra,λz=>by unfold noL at z;cases z⟩
 |.dic kvs,v,u,p,q,r,h=>by
  unfold RD at q;obtain⟨a,us,rfl,z,rk⟩:=q
  cases (show u=Value.ref a from r)
  unfold toPy at h;cases e:iN kvs with
  |none=>rw[e]at h;cases h
  |some ps=>
   rw[e]at h;cases h
   obtain⟨_,hsys,vs,kv,o,es,ep,ho,hex,hd,_,hp,_⟩:=(show bR X.prog X.w H s.heap a (.dK us) from I.hok a _ z.1)
   obtain⟨as,bs,ra,rb,hn⟩:=pI I kvs us vs es.toList ps rk kv hp e;refine⟨a::as++bs,.dict ho hex.1 hd ra rb,λz=>?_⟩;unfold noL at z;intro hm;rcases Jr.mp hm with hm|hm
   ·rcases Jj.mp hm with hm|hm
    ·rw[<- hm]at hsys;simp at hsys
    ·exact(hn z).1 hm
   ·exact(hn z).2 hm
 |.fz _,_,_,_,_,_,h=>by unfold toPy at h;cases h
 |.ref _,_,_,_,_,_,h=>by unfold toPy at h;cases h
 |.ty _,_,_,_,_,_,h=>by unfold toPy at h;cases h
 |.exc _,_,_,_,_,_,h=>by unfold toPy at h;cases h
 |.cls _,_,_,_,_,_,h=>by unfold toPy at h;cases h
theorem ly{σ:L2.St}(I:Inv X pins σ H s):∀(ds:List D)(vs:List V)(us:List Value)(ps:List PyData),RDs X.K w H ds vs->Vals vs us->fk ds=some ps->∃as,ReadsAll s.heap us ps as/\(Cc ds=true->sysModules∉as)
 |[],vs,us,ps,q,r,h=>by
  rw[q.nil_inv]at r;cases r;unfold fk at h;cases h
  exact⟨_,.nil,λ_ z=>nomatch z⟩
 |d::ds,_,us,ps,q,r,h=>by
  obtain⟨v,vs,rfl,p,t⟩:=q.cons_inv;unfold fk at h;cases e1:toPy d with
  |none=>rw[e1]at h;cases h
  |some p1=>
   cases e2:fk ds with
   |none=>rw[e1,e2]at h;cases h
   |some p2=>
    rw[e1,e2]at h;cases h;cases r with
    |cons r1 r2=>
     obtain⟨as,ra,h1⟩:=gY I d v _ p1 p r1 e1;obtain⟨bs,rb,h2⟩:=ly I ds vs _ p2 t r2 e2;refine⟨as++bs,.cons ra rb,λz=>?_⟩;unfold Cc at z;rw[Yt]at z;intro hm;rcases Jr.mp hm with hm|hm
     ·exact h1 z.1 hm
     ·exact h2 z.2 hm
theorem pI{σ:L2.St}(I:Inv X pins σ H s):∀(ds:List (Sum Int Str×D))(us:List (Key×V))(vs:List (Key×Value))(es:List DictEntry)(ps:List (PyData×PyData)),RDk X.K w H ds us->KV us vs->Pairs (bh X.prog X.w) es vs->iN ds=some ps->
  ∃as bs,ReadsAll s.heap (es.map (·.key)) (ps.map (·.1)) as/\ReadsAll s.heap (es.map (·.val)) (ps.map (·.2)) bs/\(Ce ds=true->sysModules∉as/\sysModules∉bs)
 |[],us,vs,es,ps,q,r,hp,h=>by
  unfold RDk at q;subst q;cases r;unfold iN at h;cases h;cases hp
  exact⟨_,_,.nil,.nil,λ_=>⟨(λz=>nomatch z),(λz=>nomatch z)⟩⟩
 |(k,d)::ds,us,vs,es,ps,q,r,hp,h=>by
  unfold RDk at q;obtain⟨v,ur,rfl,p,t⟩:=q;unfold iN at h;cases e1:toPy d with
  |none=>rw[e1]at h;cases h
  |some p1=>
   cases e2:iN ds with
   |none=>rw[e1,e2]at h;cases h
   |some p2=>
    rw[e1,e2]at h;cases h;cases r with
    |cons r1 r2=>
     cases hp with
     |cons hk hv hr=>
      rename_i q0 vr e0 es0;obtain⟨k',v'⟩:=q0;obtain⟨ek,rv⟩:=r1;have ek':k=k':=ek;subst ek';obtain⟨as,ra,h1⟩:=gY I d v _ p1 p rv e1;obtain⟨as2,bs2,ra2,rb2,h2⟩:=pI I ds ur vr es0 p2 t r2 hr e2
      have hkey:∃cs,Reads s.heap e0.key (z9 k) cs/\cs=[]:=by
       rcases bK hk with⟨i,tk,z1,z2⟩|⟨x,tk,z1,z2⟩
       ·have z1':k=Sum.inl i:=z1;subst z1';rw[z2];exact⟨_,.int i tk,rfl⟩
       ·have z1':k=Sum.inr x:=z1;subst z1';rw[z2];exact⟨_,.str x tk,rfl⟩
      obtain⟨cs,rc,ec⟩:=hkey;subst ec;have hv':e0.val=v':=hv
      refine⟨[]++as2,as++bs2,.cons rc ra2,.cons (by show Reads s.heap e0.val p1 as;rw[hv'];exact ra) rb2,λz=>?_⟩
      unfold Ce at z;rw[Yt]at z
      refine⟨by rw[Q0];exact(h2 z.2).1,λhm=>?_⟩
      rcases Jr.mp hm with hm|hm
      ·exact h1 z.1 hm
      ·exact(h2 z.2).2 hm
end
end
section
variable{K:PySem.W.Frag}{w:Wd}{H:Hp}
structure Mv(w:Wd)(H:Hp)(w2:Wd)(H2:Hp):Prop where
 st:∀(n:Nat)(a:Addr),w.st[n]?=some a->w2.st[n]?=some a
 at_:∀a o,At w H a o->At w2 H2 a o
mutual
theorem RD.mv(x:Mv w H w2 H2):∀(d:D)(v:V),RD K w H d v->RD K w2 H2 d v
 |.non,_,h=>h
 |.bl _,_,h=>h
 |.int _,_,h=>h
 |.str _,_,h=>h
 |.tup ds,v,h=>by unfold RD at h ⊢;obtain⟨a,vs,e,p,r⟩:=h;exact⟨a,vs,e,p.imp (x.at_ _ _) id,RDs.mv x ds vs r⟩
 |.lst ds,v,h=>by unfold RD at h ⊢;obtain⟨a,vs,e,p,r⟩:=h;exact⟨a,vs,e,x.at_ _ _ p,RDs.mv x ds vs r⟩
 |.fz ds,v,h=>by unfold RD at h ⊢;obtain⟨a,vs,e,p,r⟩:=h;exact⟨a,vs,e,p.imp (λ⟨o,z⟩=>⟨o,x.at_ _ _ z⟩) id,RDs.mv x ds vs r⟩
 |.dic kvs,v,h=>by unfold RD at h ⊢;obtain⟨a,us,e,p,r⟩:=h;exact⟨a,us,e,x.at_ _ _ p,RDk.mv x kvs us r⟩
 |.ref n,v,h=>by unfold RD at h ⊢;obtain⟨a,e,p⟩:=h;exact⟨a,e,x.st n a p⟩
 |.ty _,_,h=>h
 |.exc c,v,h=>by unfold RD at h ⊢;obtain⟨a,C,o,e,q,p⟩:=h;exact⟨a,C,o,e,q,x.at_ _ _ p⟩
 |.cls _,_,h=>h
theorem RDs.mv(x:Mv w H w2 H2):∀(ds:List D)(vs:List V),RDs K w H ds vs->RDs K w2 H2 ds vs
 |[],_,h=>h
 |d::ds,vs,h=>by unfold RDs at h ⊢;obtain⟨v,r,e,p,q⟩:=h;exact⟨v,r,e,RD.mv x d v p,RDs.mv x ds r q⟩
theorem RDk.mv(x:Mv w H w2 H2):∀(ds:List (Sum Int Str×D))(vs:List (Key×V)),RDk K w H ds vs->RDk K w2 H2 ds vs
 |[],_,h=>h
 |(k,d)::ds,vs,h=>by unfold RDk at h ⊢;obtain⟨v,r,e,p,q⟩:=h;exact⟨v,r,e,RD.mv x d v p,RDk.mv x ds r q⟩
end
theorem RO.mv(x:Mv w H w2 H2){o:SO}(hk:∀u,H a=some u->H2 a=some u)(r:RO K w H a o):RO K w2 H2 a o:=by
 cases o with
 |lst ds=>obtain⟨vs,e,q⟩:=r;exact⟨vs,hk _ e,RDs.mv x _ _ q⟩
 |dic kvs=>obtain⟨vs,e,q⟩:=r;exact⟨vs,hk _ e,RDk.mv x _ _ q⟩
 |fdic kvs=>obtain⟨o,vs,e,q⟩:=r;exact⟨o,vs,hk _ e,RDk.mv x _ _ q⟩
 |ins c fs=>obtain⟨C,dx,us,n,e,q1,q2⟩:=r;exact⟨C,dx,us,n,hk _ e,q1,RDs.mv x _ _ q2⟩
 |flst ds=>obtain⟨o,vs,e,q⟩:=r;exact⟨o,vs,hk _ e,RDs.mv x _ _ q⟩
theorem RSt.mv{s:L2.St}(x:Mv w H w2 H2)(h:RSt K w H r s):RSt K w2 H2 r s:=
 ⟨h.1,λi d e=>let ⟨v,e1,q⟩:=h.2 i d e;⟨v,e1,RD.mv x d v q⟩⟩
theorem Ext.hide(hp:H p=none):Ext w H (w.hide p) (upd H p o):=
 ⟨λa u e _=>by rw[aN (aS e hp)];exact e,⟨[],by simp[Wd.hide],λ_ z=>nomatch z⟩,λa h=>Y3 _ h,λa h=>(Jj.mp h).elim (λe=>.inr (e▸hp)) .inl,λa o u e=>by rw[aN (aS e hp)];exact e⟩
noncomputable def Wd.unhide(w:Wd)(p:Addr):Wd:=⟨w.st,w.hid.filter λa=>decide (a≠p)⟩
theorem Wd.mem_unhide(h:a∈(w.unhide p).hid):a∈w.hid/\a≠p:=⟨(Yq.mp h).1,Zw (Yq.mp h).2⟩
theorem Mv.write(hp:p∈w.hid):Mv w H w (upd H p o):=
 ⟨λ_ _ z=>z,λa u h=>⟨by rw[aN (λz:a=p=>h.2.2 (z▸hp))];exact h.1,h.2⟩⟩
theorem Mv.unhide:Mv w H (w.unhide p) H:=
 ⟨λ_ _ z=>z,λa u h=>⟨h.1,h.2.1,λz=>h.2.2 (Wd.mem_unhide z).1⟩⟩
theorem RS.hide(s:RS K w H S)(hp:H p=none):RS K (w.hide p) (upd H p o) S:=by
 refine⟨s.nd,s.len,λn so e=>?_,λa ha=>?_⟩
 ·obtain⟨a,ha,r⟩:=s.obj n so e
  exact⟨a,ha,r.ext (Ext.hide hp) λu z=>by rw[aN (aS z hp)];exact z⟩
 ·rcases Jj.mp ha with z|z
  ·subst z;exact⟨s.freshS hp,o,aQ⟩
  ·obtain⟨h1,u,e⟩:=s.hid a z
   exact⟨h1,u,by rw[aN (aS e hp)];exact e⟩
theorem RS.write(s:RS K w H S)(hp:p∈w.hid):RS K w (upd H p o) S:=by
 have np:=(s.hid p hp).1;refine⟨s.nd,s.len,λn so e=>?_,λa ha=>?_⟩
 ·obtain⟨a,ha,r⟩:=s.obj n so e;have:a≠p:=λz=>np (z▸Z3 ha)
  exact⟨a,ha,r.mv (Mv.write hp) λu z=>by rw[aN this];exact z⟩
 ·obtain⟨h1,u,e⟩:=s.hid a ha;by_cases z:a=p
  ·subst z;exact⟨h1,o,aQ⟩
  ·exact⟨h1,u,by rw[aN z];exact e⟩
theorem RS.unhide(s:RS K w H S):RS K (w.unhide p) H S:=
 ⟨s.nd,s.len,λn so e=>by
  obtain⟨a,ha,r⟩:=s.obj n so e
  exact⟨a,ha,r.mv Mv.unhide λu z=>z⟩,λa ha=>s.hid a (Wd.mem_unhide ha).1⟩
theorem wW{s:L2.St}(k:Nat)(caps:List Nat)(h:RSt K w H r s):RSt K w H (dZ k caps r) (mf k caps s):=by
 unfold dZ mf
 refine⟨by simp,λi d e=>?_⟩
 by_cases hi:i<k
 ·rw[Jv (by simpa using hi),W0]at e
  split at e<;>cases e
 ·rw[Yg (by simpa using hi),Z9,Wh]at e
  rw[Yg (by simpa using hi),Z9,Wh]
  cases ec:caps[i-k]? with
  |none=>rw[ec]at e;cases e
  |some j=>
   rw[ec]at e;have e':(r[j]?).join=some d:=Yp e
   have hj:r[j]?=some (some d):=by
    cases q:r[j]? with
    |none=>rw[q]at e';cases e'
    |some o=>rw[q]at e';rw[show o=some d from e']
   obtain⟨v,ev,rv⟩:=h.2 j d hj
   exact⟨v,by show some ((s[j]?).join)=some (some v);rw[ev];rfl,rv⟩
end
abbrev SIf(X:Cx)(E:XK)(ifs:List Expr)(m:TM):Prop:=Bx (zP X ifs (uT X.K E m))
theorem bG{E:XK}:SIf X E [] bf:=⟨λpins s σ H Q I zq=>ex6 zq λw r S hr hS hp=>zQ pins s σ H Q I (hp.ret rfl hS)⟩
theorem wX{E:XK}{c:Expr}{m:TM}(h:ST X E c m):SIf X E [c] m:=⟨zR h.out⟩
theorem Aa{E:XK}{elt tg iter:Expr}{ifs:List Expr}{pos:Pos}{k:Nat}{it:AM}{g:G}{mt:TM}{me:EM}(hX:Cd qb X)(hxe:∀e s,¬X.xe e s)(C:CompScope X N k caps scope)
  (hi:SIb qb X E tg iter it) (hg:∀cl s0 H0 ex,Cd qb (cxC X N scope cl s0 H0 ex)->SG (cxC X N scope cl s0 H0 ex) tg g) (ht:∀cl s0 H0 ex,Cd qb (cxC X N scope cl s0 H0 ex)->SIf (cxC X N scope cl s0 H0 ex) E ifs mt) (he:∀cl s0 H0 ex,Cd qb (cxC X N scope cl s0 H0 ex)->SE (cxC X N scope cl s0 H0 ex) E elt me)
  (hs:autoParam (∀x,foldedSetIterable iter X.env x=pure x) Au.h4._auto_1):SE X E (.ListComp elt [⟨tg,iter,ifs,0⟩] scope pos) (aU it k caps g mt me):=⟨
 bq (zS hX hxe C hi.out (g:=uG X.K g) (λcl s0 H0 ex z=>(hg cl s0 H0 ex z).out) (tt:=uT X.K E mt) (λcl s0 H0 ex z=>(ht cl s0 H0 ex z).out) (te:=uE X.K E me) (λcl s0 H0 ex z=>(he cl s0 H0 ex z).out) hs) λs H Q zq=>ex6 zq λw r S hr hS hp=>⟨w,r,S,hr,hS,hp.bind hS λds S1 w1 H1 J x1 q1 s1 p1=>by
  intro p hp;have hr1:=hr.ext x1;have pno:p∉w1.hid:=(s1.fresh hp).2
  have hz:ds.length<=sizeLine:=by
   rcases Nat.lt_or_ge sizeLine ds.length with z|z
   ·rw[Jb (by omega)]at p1;exact p1.elim
   ·exact z
  rw[J8 hz]at p1
  -- the list is made at p,which is hidden
  refine⟨λi n s' H'=>n=ds.length-i/\i<=ds.length/\∃w' r' S' ys vs,Ext w1 H1 w' H'/\p∈w'.hid/\RSt X.K w' H' r' s'/\RS X.K w' H' S'/\H' p=some (.lst vs)/\RDs X.K w' H' ys vs/\ys.length<=i/\
    aF X.K E (RD X.K) w1 H1 ((cS g mt me (ds.drop i) r' S').bind λzs S2=>R.ok (.lst (ys++zs)) S2) Q,
   ⟨ds.length,by simp,Y0 _,w1.hide p,dZ k caps r,S1,[],[],Ext.hide hp,Y4,(wW k caps hr1).ext (Ext.hide hp),s1.hide hp,aQ,.nil,J9 _,p1⟩,?_⟩
  rintro i n s2 H2 ⟨rfl,hi.out,w2,r2,S2,ys,vs,x2,hph,hr2,hS2,hpv,ry,hyl,hp2⟩;have hpn:p∉w2.st:=(hS2.hid p hph).1;by_cases hlt:i<ds.length
  ·obtain⟨go,yld⟩:=(q1 i w2 H2 x2).1 hlt
   refine .inr ⟨go,λs' H'=>∃w' r' S' ys vs,Ext w1 H1 w' H'/\p∈w'.hid/\RSt X.K w' H' r' s'/\RS X.K w' H' S'/\H' p=some (.lst vs)/\RDs X.K w' H' ys vs/\ys.length<=i+1/\
     aF X.K E (RD X.K) w1 H1 ((cS g mt me (ds.drop (i+1)) r' S').bind λzs S2=>R.ok (.lst (ys++zs)) S2) Q,
    λs' H' hN=>⟨ds.length-(i+1),by omega,rfl,hlt,hN⟩,λx H3 hy=>?_⟩
   obtain⟨gr,rd⟩:=yld x H3 hy;obtain⟨d,ed,qd⟩:=rd S2 hS2;obtain⟨x3,s3⟩:=nG gr hS2
   have hdrop:ds.drop i=d::ds.drop (i+1):=by rw[Zl hlt];rw[Jd hlt]at ed;cases ed;rfl
   rw[hdrop]at hp2;have hpv3:H3 p=some (.lst vs):=x3.keep _ _ hpv hpn;have ry3:=RDs.ext x3 _ _ ry;have x13:Ext w1 H1 w2 H3:=x2.trans' x3 s1 hS2;unfold cS at hp2;cases e:g.put d r2 with
   |none=>rw[e]at hp2;exact hp2.elim
   |some r3=>
    rw[e]at hp2;refine⟨w2,r2,d,r3,hr2.ext x3,qd,e,λs4 hr4=>⟨w2,r3,S2,hr4,s3,?_⟩⟩
    -- hp2:(mt r3 S2).bind .. |>.bind ..
    have hass:∀{A B C:Type}(r:R A)(f:A->Sto->R B)(h:B->Sto->R C),(r.bind f).bind h=r.bind λa S=>(f a S).bind h:=λr f h=>by cases r<;>rfl
    simp only[hass]at hp2;refine aF.bindAt (rel:=RB) hp2 x13 s1 s3 λc S5 w5 H5 c' x5 q5 s5 p5=>?_;have ec:c'=c:=q5;subst ec;have x15:Ext w1 H1 w5 H5:=x13.trans' x5 s1 s3;have hph5:p∈w5.hid:=x5.hid p hph;have hpv5:H5 p=some (.lst vs):=x5.keep _ _ hpv3 hpn;cases c' with
    |false=>
     refine qQ ⟨w5,r3,S5,ys,vs,x15,hph5,hr4.ext x5,s5,hpv5,RDs.ext x5 _ _ ry3,Ug hyl,p5⟩
    |true=>
     refine qR ⟨w5,r3,S5,hr4.ext x5,s5,?_⟩;have p5':aF X.K E (RD X.K) w1 H1 (((me r3 S5).bind λy S2=>(cS g mt me (ds.drop (i+1)) r3 S2).bind λys S3=>R.ok (y::ys) S3).bind λzs S2=>R.ok (D.lst (ys++zs)) S2) Q:=p5;simp only[hass]at p5';refine aF.bindAt (rel:=RD X.K) p5' x15 s1 s5 λy S6 w6 H6 yv x6 q6 s6 p6=>?_;have x16:Ext w1 H1 w6 H6:=x15.trans' x6 s1 s5;have hph6:p∈w6.hid:=x6.hid p hph5;have hpn5:p∉w5.st:=(s5.hid p hph5).1;have hpn6:p∉w6.st:=(s6.hid p hph6).1;have hpv6:H6 p=some (.lst vs):=x6.keep _ _ hpv5 hpn5;have ry6:=RDs.ext x6 _ _ (RDs.ext x5 _ _ ry3)
     refine⟨vs,hpv6,by rw[ry6.length];omega,w6,r3,S6,ys++[y],vs++[yv],⟨λa o h n=>?_,x16.sub,x16.hid,x16.hnew,λa o u h=>by have z:=x16.frz a o u h;rw[aN (λe:a=p=>by rw[e,hpv6]at z;cases z)];exact z⟩,hph6,(hr4.ext x5).ext x6 |>.mv (Mv.write hph6),s6.write hph6,aQ,(RDs.mv (Mv.write hph6) _ _ ry6).append (.cons (RD.mv (Mv.write hph6) _ _ q6) .nil),by simp;omega,?_⟩
     ·have:a≠p:=aS h hp;rw[aN this];exact x16.keep a o h n
     ·have he2:∀zs:List D,(ys++[y])++zs=ys++y::zs:=λzs=>by simp
      simp only[he2];exact p6
  ·have e:i=ds.length:=by omega
   subst e;rw[Ul]at hp2;refine .inl ⟨(q1 _ w2 H2 x2).2 (J9 _),?_⟩;have hp3:aF X.K E (RD X.K) w1 H1 (R.ok (D.lst (ys++[])) S2) Q:=hp2;rw[Yr]at hp3;refine aF.at hp3 (w1:=w2.unhide p) ⟨x2.keep,x2.sub,λa h=>Yq.mpr ⟨x2.hid a h,Jx λz=>pno (z▸h)⟩,λa h=>x2.hnew a (Wd.mem_unhide h).1,x2.frz⟩ ?_ hS2.unhide;unfold RD
   exact⟨p,vs,rfl,⟨hpv,hpn,λz=>(Wd.mem_unhide z).2 rfl⟩,RDs.mv Mv.unhide _ _ ry⟩⟩⟩
theorem bH{E:XK}{elt tg iter:Expr}{ifs:List Expr}{pos:Pos}{k:Nat}{it:AM}{g:G}{mt:TM}{me:EM}(hX:X.calm=true)(hxe:∀e s,¬X.xe e s)(C:CompScope X N k caps scope)
 (hi:SI X E tg iter it) (hg:∀cl s0 H0 ex,SG (cxC X N scope cl s0 H0 ex) tg g) (ht:∀cl s0 H0 ex,SIf (cxC X N scope cl s0 H0 ex) E ifs mt) (he:∀cl s0 H0 ex,SE (cxC X N scope cl s0 H0 ex) E elt me)
 (hs:autoParam (∀x,foldedSetIterable iter X.env x=pure x) Au.h4._auto_1):SE X E (.ListComp elt [⟨tg,iter,ifs,0⟩] scope pos) (aU it k caps g mt me):=Aa (qb:=false) (.inl hX) hxe C hi (λa b c d _=>hg a b c d) (λa b c d _=>ht a b c d) (λa b c d _=>he a b c d) hs
noncomputable abbrev KD:=Sum Int Str
noncomputable def ju:D->Option KD
 |.int i=>some (.inl i)
 |.str x=>some (.inr x)
 |_=>none
noncomputable def putD(kvs:List (KD×D))(k:KD)(d:D):List (KD×D):=
 if kvs.any (λkv=>decide (kv.1=k)) then kvs.map (λkv=>if kv.1=k then (kv.1,d) else kv) else kvs++[(k,d)]
noncomputable def ir(kvs more:List (KD×D)):List (KD×D):=more.foldl (λacc kv=>putD acc kv.1 kv.2) kvs
noncomputable def mq:List (D×D)->Option (List (KD×D))
 |[]=>some []
 |(k,v)::r=>match ju k,mq r with
  |some k',some r'=>some ((k',v)::r')
  |_,_=>none
noncomputable def pM:List (EM×EM)->Rho->Sto->R (List (D×D))
 |[],_,S=>.ok [] S
 |(a,b)::t,r,S=>(a r S).bind λx S1=>(b r S1).bind λy S2=>(pM t r S2).bind λps S3=>.ok ((x,y)::ps) S3
noncomputable def nM(ms:List (EM×EM)):EM:=λr S=>(pM ms r S).bind λps S1=>match mq ps with
 |some kvs=>if kvs.length<=15 then .ok (.ref S1.length) (S1++[.dic (ir [] kvs)]) else .bad
 |none=>.bad
section
variable{K:PySem.W.Frag}{w:Wd}{H:Hp}
theorem RDk.nil:RDk K w H [] []:=by unfold RDk;rfl
theorem RDk.cons{k:KD}{d:D}{v:V}{ds:List (KD×D)}{vs:List (Key×V)}(r:RD K w H d v)(q:RDk K w H ds vs):RDk K w H ((k,d)::ds) ((k,v)::vs):=by unfold RDk;exact⟨v,vs,rfl,r,q⟩
theorem RDk.nil_inv{vs:List (Key×V)}(h:RDk K w H [] vs):vs=[]:=by unfold RDk at h;exact h
theorem RDk.cons_inv{k:KD}{d:D}{ds:List (KD×D)}{vs:List (Key×V)}(h:RDk K w H ((k,d)::ds) vs):∃v r,vs=(k,v)::r/\RD K w H d v/\RDk K w H ds r:=by unfold RDk at h;exact h
theorem RDk.append:∀{ds es:List (KD×D)}{vs us:List (Key×V)},RDk K w H ds vs->RDk K w H es us->RDk K w H (ds++es) (vs++us)
 |[],_,_,_,h,q=>by rw[h.nil_inv];exact q
 |(_,_)::_,_,_,_,h,q=>by obtain⟨v,r,rfl,p,t⟩:=h.cons_inv;exact .cons p (RDk.append t q)
theorem RDk.any:∀{ds:List (KD×D)}{vs:List (Key×V)}(k:KD),RDk K w H ds vs->(ds.any λkv=>decide (kv.1=k))=(vs.any λkv=>decide (kv.1=k))
 |[],_,_,h=>by rw[h.nil_inv];rfl
 |(_,_)::_,_,k,h=>by obtain⟨v,r,rfl,p,t⟩:=h.cons_inv;rw[Q4,Q4,RDk.any k t]
theorem RDk.repl{d:D}{v:V}(r:RD K w H d v):∀{ds:List (KD×D)}{vs:List (Key×V)}(k:KD),RDk K w H ds vs->RDk K w H (ds.map λkv=>if kv.1=k then (kv.1,d) else kv) (vs.map λkv=>if kv.1=k then (kv.1,v) else kv)
 |[],_,_,h=>by rw[h.nil_inv];exact .nil
 |(j,_)::_,_,k,h=>by
  obtain⟨v',r',rfl,p,t⟩:=h.cons_inv;simp only[Jl];by_cases hj:j=k
  ·rw[J8 hj,J8 hj];exact .cons r (RDk.repl r k t)
  ·rw[Jb hj,Jb hj];exact .cons p (RDk.repl r k t)
theorem RDk.put{ds:List (KD×D)}{vs:List (Key×V)}{d:D}{v:V}(q:RDk K w H ds vs)(k:KD)(r:RD K w H d v):RDk K w H (putD ds k d) (putK vs k v):=by
 unfold putD putK;rw[q.any k];split
 ·exact q.repl r k
 ·exact q.append (.cons r .nil)
theorem RDk.merge:∀{more:List (KD×D)}{mvs:List (Key×V)}{ds:List (KD×D)}{vs:List (Key×V)},RDk K w H more mvs->RDk K w H ds vs->RDk K w H (ir ds more) (eU vs mvs)
 |[],_,_,_,h,q=>by rw[h.nil_inv];exact q
 |(k,d)::r,_,ds,vs,h,q=>by obtain⟨v',r',rfl,p,t⟩:=h.cons_inv;show RDk K w H (ir (putD ds k d) r) (eU (putK vs k v') r');exact RDk.merge t (q.put k p)
theorem iu{d:D}{v:V}{k:KD}(q:RD K w H d v)(h:ju d=some k):v=kV k:=by
 cases d with
 |int i=>cases q.int;cases h;rfl
 |str x=>cases q.str;cases h;rfl
 |_=>cases h
noncomputable def RPs(K:PySem.W.Frag)(w:Wd)(H:Hp):List (D×D)->List (V×V)->Prop
 |[],vs=>vs=[]
 |(a,b)::r,vs=>∃x y t,vs=(x,y)::t/\RD K w H a x/\RD K w H b y/\RPs K w H r t
theorem tD:∀{ps:List (D×D)}{vs:List (V×V)}{kvs:List (KD×D)},RPs K w H ps vs->mq ps=some kvs->∃us:List (Key×V),vs=us.map (λkv=>(kV kv.1,kv.2))/\RDk K w H kvs us
 |[],_,_,h,e=>by have h':_=[]:=h;subst h';unfold mq at e;cases e;exact⟨[],rfl,.nil⟩
 |(a,b)::r,_,kvs,h,e=>by
  obtain⟨u,v,t,rfl,h1,h2,h3⟩:=h;unfold mq at e;cases e1:ju a with
  |none=>rw[e1]at e;cases e
  |some k=>
   cases e2:mq r with
   |none=>rw[e1,e2]at e;cases e
   |some r'=>
    rw[e1,e2]at e;cases e;obtain⟨us,rfl,q⟩:=tD h3 e2
    exact⟨(k,v)::us,by rw[iu h1 e1];rfl,.cons h2 q⟩
end
section
variable{X:Cx}{E:XK}{pos:Pos}
noncomputable def uPs(K:PySem.W.Frag)(E:XK)(ms:List (EM×EM)):List (TE×TE):=ms.map λp=>(uE K E p.1,uE K E p.2)
theorem Dj{A2 B2:Type}{K:PySem.W.Frag}{rel2:Wd->Hp->A2->B2->Prop}{w0:Wd}{H0:Hp}{S0:Sto}{Q:B2->Hp->Prop}(s0:RS K w0 H0 S0):∀(ms:List (EM×EM)){w:Wd}{H:Hp}{S:Sto}{r:Rho}{s:L2.St}{f:List (D×D)->Sto->R A2}{Q':List (V×V)->Hp->Prop},RSt K w H r s->RS K w H S->Ext w0 H0 w H->
  aF K E rel2 w0 H0 ((pM ms r S).bind f) Q->(∀ps S1 w1 H1 vs,Ext w H w1 H1->RPs K w1 H1 ps vs->RS K w1 H1 S1->aF K E rel2 w0 H0 (f ps S1) Q->Q' vs H1)->qP (uPs K E ms) s H Q'
 |[],w,H,S,r,s,f,Q',hr,hS,x,hp,k=>k [] S w H [] (Ext.refl _ _) rfl hS hp
 |(a,b)::t,w,H,S,r,s,f,Q',hr,hS,x,hp,k=>by
  have hass:∀{A B C:Type}(r:R A)(f:A->Sto->R B)(h:B->Sto->R C),(r.bind f).bind h=r.bind λa S=>(f a S).bind h:=λr f h=>by cases r<;>rfl
  unfold pM at hp;rw[hass]at hp;refine⟨w,r,S,hr,hS,aF.bindAt (rel:=RD K) hp x s0 hS λd S1 w1 H1 u x1 q1 s1 p1=>?_⟩;rw[hass]at p1;have x01:=x.trans' x1 s0 hS;refine⟨w1,r,S1,hr.ext x1,s1,aF.bindAt (rel:=RD K) p1 x01 s0 s1 λe S2 w2 H2 v x2 q2 s2 p2=>?_⟩;rw[hass]at p2;have x02:=x01.trans' x2 s0 s1
  exact Dj s0 t ((hr.ext x1).ext x2) s2 x02 p2 λps S3 w3 H3 vs x3 q3 s3 p3=>
   k ((d,e)::ps) S3 w3 H3 ((u,v)::vs) ((x1.trans' x2 hS s1).trans' x3 hS s2) ⟨u,v,vs,rfl,RD.ext x3 _ _ (RD.ext x2 _ _ q1),RD.ext x3 _ _ q2,q3⟩ s3 p3
abbrev SPs(X:Cx)(E:XK)(pos:Pos)(keys:List (Option Expr))(values:List Expr)(ms:List (EM×EM)):Prop:=Bx (PPs X pos keys values (uPs X.K E ms))
theorem rn:SPs X E pos [] [] []:=⟨B3⟩
theorem nN{k v:Expr}{ks:List (Option Expr)}{vs:List Expr}{mk mv:EM}{ms:List (EM×EM)}(hk:SE X E k mk)(hv:SE X E v mv)(hr:SPs X E pos ks vs ms):SPs X E pos (some k::ks) (v::vs) ((mk,mv)::ms):=⟨zI hk.out hv.out hr.out⟩
theorem yD{keys:List (Option Expr)}{values:List Expr}{ms:List (EM×EM)}{m:EM}{s:L2.St}{H:Hp}{Q:VK}{fin:List (KD×D)->Sto->R D}
  (hm:∀r S,m r S=(pM ms r S).bind λps S1=>match mq ps with|some kvs=>if kvs.length<=15 then fin kvs S1 else .bad|none=>.bad)
  (hfin:∀(kvs:List (KD×D))(us:List (Key×V))(w0 w:Wd)(H0 H:Hp)(S0 S:Sto)(p:Addr),H0 p=none->RS X.K w0 H0 S0->RS X.K w H S->Ext w0 H0 w H->p∈w.hid->RDk X.K w H (ir [] kvs) (eU [] us)->aF X.K E (RD X.K) w0 H0 (fin kvs S) Q->Q (.ref p) (upd H p (.dK (eU [] us))))
  (h:uE X.K E m s H Q):Dg (uPs X.K E ms) s H Q:=by
 obtain⟨w,r,S,hr,hS,hp⟩:=h;rw[hm]at hp;intro p hpn;refine Dj hS ms (hr.ext (Ext.hide hpn)) (hS.hide hpn) (Ext.hide hpn) hp λps S1 w1 H1 vs x1 q1 s1 p1=>?_;have hh:p∈w1.hid:=x1.hid p Y4;have hx:Ext w H w1 H1:=(Ext.hide hpn).trans' x1 hS (hS.hide hpn);refine⟨x1.keep p _ aQ ((hS.hide (o:=HO.dK []) hpn).hid p Y4).1,?_⟩;cases e:mq ps with
 |none=>rw[e]at p1;exact p1.elim
 |some kvs=>
  rw[e]at p1;obtain⟨us,rfl,rk⟩:=tD q1 e;have hl:=rk.length;by_cases hz:kvs.length<=15
  ·have p2:aF X.K E (RD X.K) w H (if kvs.length<=15 then fin kvs S1 else R.bad) Q:=p1
   rw[J8 hz]at p2
   exact⟨us,rfl,by rw[hl];exact hz,hfin kvs us w w1 H H1 S S1 p hpn hS s1 hx hh (rk.merge .nil) p2⟩
  ·have p2:aF X.K E (RD X.K) w H (if kvs.length<=15 then fin kvs S1 else R.bad) Q:=p1
   rw[Jb hz]at p2;exact p2.elim
end
def Cf(m:AM)(n:Nat):Prop:=∀r S ds S',m r S=.ok ds S'->ds.length=n
theorem aq:Cf ao 0:=λr S ds S' h=>by unfold ao at h;cases h;rfl
theorem aj{a:EM}{t:AM}(h:Cf t n):Cf (af a t) (n+1):=λr S ds S' e=>by
 unfold af at e;cases e1:a r S with
 |bad=>rw[e1]at e;cases e
 |err x S1=>rw[e1]at e;cases e
 |ok d S1=>
  rw[e1]at e;cases e2:t r S1 with
  |bad=>simp only[R.bind_ok,e2,R.bind_bad]at e;cases e
  |err x S2=>simp only[R.bind_ok,e2,R.bind_err]at e;cases e
  |ok es S2=>
   simp only[R.bind_ok,e2]at e;cases e;simp[h r S1 es _ e2]
section
variable{X:Cx}{E:XK}
theorem Dk{pos:Pos}(hm:∃t,X.mg x=some (.int i t))(hg:Gl X x)(hd:autoParam ((x == ("__debug__":Str))=false) Au.h3._auto_1):SE X E (.Name x pos) (eC (.int i)):=by obtain⟨t,e⟩:=hm;exact B7 hg e hd
end
noncomputable def rp(N0 N:List Str)(k:Nat)(scope:Scope):List Nat->Nat->Bool
 |[],_=>true
 |i::r,t=>(match N0[i]?,N[k+t]? with
  |some x,some y=>x == y&&scope.names.lookup x == some .free
  |_,_=>false)&&rp N0 N k scope r (t+1)
theorem nO{N0:List Str}{k:Nat}:∀{caps:List Nat}{t0:Nat},rp N0 N k scope caps t0=true->∀(t i:Nat),caps[t]?=some i->∃x,N0[i]?=some x/\N[k+(t0+t)]?=some x/\scope.names.lookup x=some .free
 |[],_,_,_,_,h=>by simp at h
 |j::r,t0,h,t,i,e=>by
  unfold rp at h;rw[Yt]at h;cases t with
  |zero=>
   simp at e;subst e;have h1:=h.1;cases e1:N0[j]? with
   |none=>rw[e1]at h1;cases h1
   |some x=>
    cases e2:N[k+t0]? with
    |none=>rw[e1,e2]at h1;cases h1
    |some y=>
     rw[e1,e2]at h1;simp only[Yt]at h1;have hxy:x=y:=eq_of_beq h1.1;subst hxy
     exact⟨x,rfl,by simpa using e2,eq_of_beq h1.2⟩
  |succ t=>
   obtain⟨x,a,b,c⟩:=nO h.2 t i (by simpa using e)
   exact⟨x,a,by rw[show t0+(t+1)=t0+1+t by omega];exact b,c⟩
theorem dg{X:Cx}{N:List Str}{k:Nat}{caps:List Nat}(h1:scope.kind=.function)(h2:scope.names.all (λx=>x.2 != .cell)=true)(h3:scope.names.all (λx=>x.2 != .local||scope.names.lookup x.1 == some .local)=true)
  (h4:scope.names.all (λx=>x.2 != .free||X.env.kindOf x.1 == some .cell||X.env.kindOf x.1 == some .free)=true) (h5:N.length=k+caps.length) (h6:rp X.N N k scope caps 0=true):CompScope X N k caps scope:=by
 refine⟨h1,λx hx z=>?_,λx hx z=>?_,λx hx z=>?_,h5,λt i e=>?_⟩
 ·have:=Yx.mp h2 x hx;rw[z]at this;simp at this
 ·have:=Yx.mp h3 x hx;rw[z]at this;simpa using this
 ·have:=Yx.mp h4 x hx;rw[z]at this;simpa using this
 ·obtain⟨x,a,b,c⟩:=nO h6 t i e
  exact⟨x,a,by simpa using b,c⟩
theorem ED{f:FM}(h:∀ns:List Int,ns.length<=63->∃S,f [.fz (ns.map .int)] []=.ok (.bl true) S)(K:PySem.W.Frag)(H:Hp)(a:Addr)(ns:List Int)(hn:ns.length<=63)(ho:zL H)(hs:SqL K H a (ns.map V.int)):
  spM K 1 f [.ref a] H (λv _=>v=.bl true) λ_ _ _=>False:=by
 obtain⟨S,e⟩:=h ns hn
 have hfz:vm K ⟨[],[]⟩ H a (ns.map V.int):=by
  rcases hs with(hs|⟨o,hs⟩)|hs
  ·rcases ho a with z|⟨o,xs,z⟩
   ·rw[z]at hs;cases hs
   ·rw[z]at hs;cases hs
  ·exact .inl ⟨o,hs,(λz=>nomatch z),(λz=>nomatch z)⟩
  ·exact .inr hs
 have hints:∀l:List Int,RDs K ⟨[],[]⟩ H (l.map D.int) (l.map V.int):=λl=>by
  induction l with
  |nil=>exact .nil
  |cons i l ih=>exact .cons RD.mkI ih
 refine⟨rfl,⟨[],[]⟩,[],[.fz (ns.map .int)],⟨List.nodup_nil,rfl,λn o z=>?_,(λa z=>nomatch z)⟩,.cons (by unfold RD;exact⟨a,_,rfl,hfz,hints ns⟩) .nil,?_⟩
 ·simp at z
 ·rw[e];intro w' H' b x q s;unfold RD at q;exact q
end PD
namespace PD
open PySem L2
variable{S:Sto}{i j:Int}
theorem fA(h:cG i\/cG j):cq S (.int i) (.int j)=some (.int (i*j)):=J8 h
theorem EE(h:0<j):oMod S (.int i) (.int j)=some (.int (i%j)):=J8 h
theorem EF{i:Nat}(h:i<1000):vp S (.int 1) (.int i)=some (.int (2^i)):=by
 have:vp S (.int 1) (.int i)=some (.int (1*2^((i:Int)).toNat)):=J8 ⟨by omega,by omega,by decide⟩
 rw[this,We,Int.one_mul]
theorem EG(h:0<=j/\j<=1000000/\i.natAbs<2^64):vo S (.int i) (.int j)=some (.int (i^j.toNat)):=J8 h
theorem vx:vo S (.int 10) (.int 12)=some (.int 1000000000000):=by
 rw[EG ⟨by decide,by decide,by decide⟩]
 have e:(10:Int)^(12:Int).toNat=1000000000000:=by decide
 rw[e]
theorem nP{A:Type}{xs:List A}{i:Nat}(h:i<xs.length):atI xs (i:Int)=some xs[i]:=BW (Jd h)
end PD
namespace L2
open PySem PySem.Spec PyProof.Rows
def Fly(l:List Env)(H':Hp)(h hs:Heap)(ea:Addr)(cls:Value):Prop:=
 ∃(B:Heap)(a0:Value),Heap.FlyingW B l ea cls a0 hs/\(∀b o,h.get? b=some o->b∉frs l->∃o',B.get? b=some o')/\(∀b u,H' b=some u->∃o',B.get? b=some o')/\hs.Zat ea
noncomputable def CX1(P:Program)(w:World):CXT:=λouter H s E e s'=>
 ∃ea cls H',e=.ref ea/\s'.os=s.os/\AllBare s'.gens/\Un (frs outer) [] H H' s.heap s'.heap/\HOk P w H' s'.heap/\Fly outer H' s.heap s'.heap ea cls/\E cls none H'
end L2
namespace PD
open PySem PySem.Spec PyProof.Rows L2
section
variable{P:Program}{w:World}{K:PySem.W.Frag}{mg:Str->Option Value}{base:Heap}{N:List Str}{qual:Str}{scope:Scope}{f:Addr}{cdv:Value}{A:Around}{outer:List Env}{s:Shared}{H:Hp}{E:XK}
theorem yE{X:Cx}:Passes (CX1 X.prog X.w) X E0:=λ_ _ _ _ _ _ _ zq=>by obtain⟨_,_,_,_,_,_,_,_,_,z⟩:=zq;exact z.elim
end
variable{x:Str}{st:Stmt}{f:Addr}{fd:FuncData}
noncomputable def spN(K:PySem.W.Frag)(n:Nat)(f:FM):Sp:=λvs H Q _=>vs.length=n/\∃w S ds,RS K w H S/\RDs K w H ds vs/\aF K E0 (RD K) w H (f ds S) Q
structure DefN(P:Program)(w:World)(K:PySem.W.Frag)(mg:Str->Option Value)(base:Heap)(x:Str)(k n:Nat)(f:FM):Prop where
 ex:∃(fa:Addr)(fd:FuncData)(ps:List Str),mg x=some (.ref fa)/\PySem.W.keepIn K (.ref fa)=true/\Binds K fd ps []/\FnOk P w K mg base (CX1 P w) k fa fd ps (spN K n f)
section
variable{X:Cx}{E:XK}{x:Str}{k n:Nat}{f:FM}{a:Expr}{es:List Expr}{ms:AM}{p pos:Pos}
theorem az(D:DefN X.prog X.w X.K X.mg X.base x k n f)(hr:Room k X.A)(hg:Gl X x)(ha:SA X E0 (a::es) ms)(hn:Cf ms n)(hdb:autoParam ((x == ("__debug__":Str))=false) Au.h3._auto_1)
  (he:autoParam (starEach (a::es) X.env=(false,eval a X.env)::starEach es X.env) Au.h0._auto_1) (hpl:autoParam ((backTo pos (starEach es X.env)).any (·.1)=false) Au.h0._auto_1):
  SE X E0 (.Call (.Name x p) (a::es) [] pos) (aw f ms):=by
 obtain⟨fa,fd,ps,hm,hk,hb,F⟩:=D.ex;refine⟨bq (BQ F hr hg hm hk hb (dvs:=[]) .nil yE ha.out hdb he hpl) λs H Q zq=>?_⟩;obtain⟨w,r,S,hr,hS,hp⟩:=zq;refine⟨w,r,S,hr,hS,?_⟩;have hp':aF X.K E0 (RD X.K) w H ((ms r S).bind λxs S1=>f xs S1) Q:=hp;cases e:ms r S with
 |bad=>rw[e]at hp';exact hp'.elim
 |err y S'=>rw[e]at hp';exact hp'
 |ok ds S'=>
  rw[e]at hp';intro w1 H1 vs x1 q1 s1;rw[Yr]
  exact⟨by rw[q1.length];exact hn r S ds S' e,w1,S',ds,s1,q1,aF.ext (r:=f ds S') hp' x1 hS s1⟩
end
section
variable{P:Program}{w:World}{K:PySem.W.Frag}{mg:Str->Option Value}{base:Heap}
theorem Ab{qual:Str}{N ps:List Str}{k:Nat}{m:SM}(F:Fun K x qual st f fd)(S:FnScope N ps (defScope st))
  (hbody:∀(cdv:Value)(A:Around)(outer:List Env)(s:Shared)(H:Hp)(E:XK),Room k (A.deeper (envOfC qual (defScope st) s.heap.objs.size f cdv))->
   SSs (sQ (CX1 P w) P w K mg base N qual (defScope st) f cdv A outer s H E).nox E0 (defBody st) m):FnOk P w K mg base (CX1 P w) (k+1) f fd ps (spN K ps.length (fnM N.length m)):=by
 obtain⟨oc,od,kV,doc,pm,an,cdv,ct,osl,rfl,lk,hcd⟩:=F.ex;refine Gs lk hcd S (λvs H Q E h=>h.1) λA outer s H vs Q E hr h=>?_;obtain⟨hl,u,T,ds,hT,q,p⟩:=h;refine⟨_,(hbody cdv A outer s H E hr).out.nox,u,_,T,yA q,hT,?_⟩;refine aF.bind (rel:=RF K) p hT λg S1 w1 H1 fv x1 q1 s1 p1=>?_;cases g with
 |nx r=>obtain⟨s',rfl,_⟩:=q1;have z:=aF.ret (Q:=Q) (rel:=RD K) (a:=D.non) (b:=V.non) p1 (by unfold RD;rfl) s1;exact z
 |rt d=>obtain⟨v,rfl,q2⟩:=q1;have z:=aF.ret (Q:=Q) (rel:=RD K) (a:=d) (b:=v) p1 q2 s1;exact z
 |bk r=>exact p1.elim
 |ct r=>exact p1.elim
theorem aH{m:SM}(N ps:List Str)(k k1 n0 n1:Nat)(hk:k1=k+1)(h0:n0=ps.length)(h1:n1=N.length)(F:Fun K x x st f fd)(hm:mg x=some (.ref f))(hb:Binds K fd ps [])(S:FnScope N ps (defScope st))
  (hbody:∀(cdv:Value)(A:Around)(outer:List Env)(s:Shared)(H:Hp)(E:XK),Room k (A.deeper (envOfC x (defScope st) s.heap.objs.size f cdv))->
   SSs (sQ (CX1 P w) P w K mg base N x (defScope st) f cdv A outer s H E).nox E0 (defBody st) m):DefN P w K mg base x k1 n0 (fnM n1 m):=by
 subst hk h0 h1;exact⟨f,fd,ps,hm,F.kp,hb,Ab F S hbody⟩
theorem Cg{m:SM}(N ps:List Str)(k k1 n0 n1:Nat)(hk:k1=k+1)(h0:n0=ps.length)(h1:n1=N.length)(F:Fun K x x st f fd)(S:FnScope N ps (defScope st))
  (hbody:∀(cdv:Value)(A:Around)(outer:List Env)(s:Shared)(H:Hp)(E:XK),Room k (A.deeper (envOfC x (defScope st) s.heap.objs.size f cdv))->
   SSs (sQ (CX1 P w) P w K mg base N x (defScope st) f cdv A outer s H E).nox E0 (defBody st) m):FnOk P w K mg base (CX1 P w) k1 f fd ps (spN K n0 (fnM n1 m)):=by
 subst hk h0 h1;exact Ab F S hbody
end
end PD
namespace L2
open PySem PySem.Spec PyProof.Rows
section
variable{X:Cx}{pins:List (Addr×Obj)}{σ:St}{H:Hp}{s:Shared}
noncomputable abbrev Cx.with(X:Cx)(p:List (Addr×Obj))(W:Value->Shared->Prop):Cx:={ X with pn:=p,xe:=W }
end
section
variable{prog:Program}{w:World}{A:Around}{E:Value->Shared->Prop}{s:Shared}{K:PySem.W.Frag}{ea C:Addr}{ox:Obj}{od:Option Obj}
structure ExK(K:PySem.W.Frag)(C:Addr):Prop where
 ga:PySem.W.findIn K (.ref C) "__getattribute__" = some (some (.builtin "BaseException.__getattribute__"))
 gh:PySem.W.findIn K (.ref C) "__getattr__" = some none
 cl:PySem.W.findIn K (.ref C) "__class__" = some (some (.builtin "object.__class__"))
 bs:PySem.W.mroIn K C (.type "BaseException")=some true
 ob:PySem.W.mroIn K C (.type "object")=some true
 is:(PySem.W.clsIn K C).isSome=true
end
end L2
namespace PD
open PySem PySem.Spec PyProof.Rows L2
structure Cls(K:PySem.W.Frag)(cs ks:List Str)(isa:Str->Str->Bool):Prop where
 gt:PySem.W.specialIn K (.builtin "object.__class__") "__get__" = some (some (.builtin "getset_descriptor.__get__"))
 tk:PySem.W.takesIn K (.builtin "object.__class__")=some true
 ex:∀c∈cs,∃C,PySem.W.nsIn K mainGlobals c=some (some (.ref C))/\ExK K C/\PySem.W.kitOne K (.ref C) (.type "ValueError")=some true
 isa:∀c∈cs,∀k∈ks,∃C D,PySem.W.nsIn K mainGlobals c=some (some C)/\PySem.W.nsIn K mainGlobals k=some (some D)/\PySem.W.kitOne K C D=some (isa c k)
section
variable{X:Cx}{E:XK}
noncomputable def intsOf:List D->Option (List Int)
 |[]=>some []
 |.int b::r=>(intsOf r).map (b :: ·)
 |_::_=>none
noncomputable def mS:Sto->List D->Option D
 |S,[d]=>match bu S d with
  |some a=>(intsOf a).map λns=>.int ns.sum
  |none=>none
 |_,_=>none
theorem nQ:∀{ds:List D}{ns:List Int},intsOf ds=some ns->ns.length=ds.length
 |[],_,h=>by unfold intsOf at h;cases h;rfl
 |d::ds,ns,h=>by
  cases d with
  |int i=>
   unfold intsOf at h;cases e:intsOf ds with
   |none=>rw[e]at h;cases h
   |some cs=>rw[e]at h;cases h;simp[nQ e]
  |_=>unfold intsOf at h;cases h
theorem jj{K:PySem.W.Frag}{w:Wd}{H:Hp}:∀{ds:List D}{vs:List V}{us:List Value}{ns:List Int},RDs K w H ds vs->Vals vs us->intsOf ds=some ns->∀(i:Nat)(v:Value),us[i]?=some v->∃t,v=.int ((ns[i]?).getD 0) t
 |[],_,_,_,q,r,h,i,v,e=>by rw[q.nil_inv]at r;cases r;simp at e
 |d::ds,_,_,ns,q,r,h,i,v,e=>by
  obtain⟨y,vs,rfl,p,t⟩:=q.cons_inv;cases d with
  |int b=>
   unfold intsOf at h;cases e':intsOf ds with
   |none=>rw[e']at h;cases h
   |some cs=>
    rw[e']at h;cases h;cases p.int;cases r with
    |cons r1 r2=>
     cases i with
     |zero=>
      obtain⟨t,rfl⟩:=r1;simp at e
      exact⟨t,by simp[e]⟩
     |succ i=>
      have z:=jj t r2 e' i v (by simpa using e)
      simpa using z
  |_=>unfold intsOf at h;cases h
theorem mw(ns:List Int):∀k,k<=ns.length->preSum (λi=>(ns[i]?).getD 0) k=(ns.take k).sum
 |0,_=>by simp[preSum]
 |k+1,h=>by have hk:k<ns.length:=h;show preSum _ k+(ns[k]?).getD 0=_;rw[mw ns k (Vl hk),U0,List.sum_append,Jd hk];simp
theorem vA(hc:X.calm=true):bF X (.builtin "sum") (xC X.K E mS):=by
 rintro pins s σ H xs us Q I r ⟨w,S,ds,hS,qs,p⟩;obtain⟨z,hz,p'⟩:=p.of;clear p;unfold mS at hz;split at hz
 ·rename_i d;cases ea:bu S d with
  |none=>rw[ea]at hz;cases hz
  |some a=>
   rw[ea]at hz;simp only at hz;cases e:intsOf a with
   |none=>rw[e]at hz;cases hz
   |some ns=>
    rw[e]at hz;cases hz;obtain⟨v,rfl,q⟩:=qs.one_inv;obtain⟨pa,vs,rfl,sq,ra⟩:=jQ hS q ea;obtain⟨u,rfl,ru⟩:=Wc r;cases ru;have hlen:=nQ e
    have fin:∀n,n=ns.length->preSum (λi=>(ns[i]?).getD 0) n=ns.sum:=λn hn=>by rw[hn,mw ns _ (J9 _),Wq]
    rcases sq with sq|sq
    ·obtain⟨its,r1,⟨o,n,ho,hcl,hdn,hd⟩,_⟩:=I.list sq;have hlt:pa<s.heap.objs.size:=Jh ho;have hl:s.heap.IsList pa its.toArray:=⟨o,ho,hcl,n,hd⟩;refine call_sum_walkG (Zj hl ?_)
     refine⟨s.heap.objs.size,[s.heap.objs.size,pa],[s.heap.objs.size],its.toArray.size,_,_,λi=>(ns[i]?).getD 0,rfl,Vu (A:=X.A.in1) (I.ok.hd hc) _ pa (Jq hlt) its.toArray,
      ⟨⟨_,Ji _ rfl,rfl,rfl⟩,hl.push _⟩,λb hb=>?_,λi v hP=>jj ra r1 e i v (by simpa using hP),λh' tk t' hk=>?_⟩
     ·simp only[Jj,Y6,Zb]at hb;rw[Y7];rcases hb with rfl|rfl
      ·exact Zq _
      ·exact Za hlt
     ·rw[fin _ (by rw[hlen,<- ra.length,r1.length];simp)]
      exact⟨.int _,H,I.kept (Vd hk),⟨t',rfl⟩,p'.ret RD.mkI hS⟩
    ·obtain⟨its,r1,⟨o,ho,hcl,n,hd⟩,_⟩:=I.tuple sq;have hlt:pa<s.heap.objs.size:=Jh ho;have hl:s.heap.IsTuple pa its.toArray:=⟨o,ho,hcl,n,hd⟩;refine call_sum_walkG (W5 hl ?_)
     refine⟨s.heap.objs.size,[s.heap.objs.size,pa],[s.heap.objs.size],its.toArray.size,_,_,λi=>(ns[i]?).getD 0,rfl,Walks.tuple (A:=X.A.in1) (I.ok.hd hc) _ pa (Jq hlt) its.toArray,
      ⟨⟨_,Ji _ rfl,rfl,rfl⟩,hl.push _⟩,λb hb=>?_,λi v hP=>jj ra r1 e i v (by simpa using hP),λh' tk t' hk=>?_⟩
     ·simp only[Jj,Y6,Zb]at hb;rw[Y7];rcases hb with rfl|rfl
      ·exact Zq _
      ·exact Za hlt
     ·rw[fin _ (by rw[hlen,<- ra.length,r1.length];simp)]
      exact⟨.int _,H,I.kept (Vd hk),⟨t',rfl⟩,p'.ret RD.mkI hS⟩
 ·cases hz
end
theorem gp(t:TM)(b:SM):∀(n k:Nat)(r:Rho)(S:Sto),bS t b n r S≠.bad->bS t b (n+k) r S=bS t b n r S
 |0,k,r,S,h=>absurd rfl h
 |n+1,k,r,S,h=>by
  rw[show n+1+k=(n+k)+1 by omega]
  unfold bS at h ⊢;cases e:t r S with
  |bad=>rfl
  |err x S1=>rfl
  |ok c S1=>
   rw[e]at h;simp only[R.bind_ok]at h ⊢;cases c with
   |false=>rfl
   |true=>
    simp only[Yd]at h ⊢;cases e2:b r S1 with
    |bad=>rfl
    |err x S2=>rfl
    |ok f S2=>
     rw[e2]at h;simp only[R.bind_ok]at h ⊢;cases f with
     |nx r2=>exact gp t b n k r2 S2 h
     |ct r2=>exact gp t b n k r2 S2 h
     |bk r2=>rfl
     |rt d=>rfl
open Classical in
noncomputable def sWh(t:TM)(b:SM):SM:=λr S=>if h:∃n,bS t b n r S≠.bad then bS t b h.choose r S else .bad
theorem Ac{t:TM}{b:SM}{r:Rho}{S:Sto}(n:Nat)(h:bS t b n r S≠.bad):sWh t b r S=bS t b n r S:=by
 have hx:∃n,bS t b n r S≠.bad:=⟨n,h⟩;unfold sWh;rw[dif_pos hx];have hc:=hx.choose_spec;rcases Nat.le_total n hx.choose with z|z
 ·obtain⟨k,e⟩:=Nat.exists_eq_add_of_le z;rw[e];exact gp t b n k r S h
 ·obtain⟨k,e⟩:=Nat.exists_eq_add_of_le z;have:=gp t b hx.choose k r S hc;rw[<- e]at this;exact this.symm
section
variable{X:Cx}{E:XK}{c:Expr}{body:List Stmt}{mt:TM}{m:SM}{pos:Pos}
theorem tE(hp:PassesOwn (model X.prog X.w) X.A X.env X.xe)(hc:ST X E c mt)(hb:SSs X E body m):SS X E (.While c body [] pos) (sWh mt m):=⟨
 er (zv hp hc.out hb.out) λD s H zq=>ex6 zq λw r S hr hS hp=>by
  have h0:∃n,aF X.K E (RF X.K) w H (bS mt m n r S) (FV.to D):=by
   have hp':aF X.K E (RF X.K) w H (sWh mt m r S) (FV.to D):=hp;unfold sWh at hp';split at hp'
   ·exact⟨_,hp'⟩
   ·exact hp'.elim
  obtain⟨n0,hp0⟩:=h0;refine⟨λn s' H'=>∃w' r' S',RSt X.K w' H' r' s'/\RS X.K w' H' S'/\aF X.K E (RF X.K) w' H' (bS mt m n r' S') (FV.to D),⟨n0,w,r,S,hr,hS,hp0⟩,?_⟩;rintro n s1 H1 ⟨w1,r1,S1,hr1,hS1,hp1⟩;cases n with
  |zero=>exact hp1.elim
  |succ n=>
   unfold bS at hp1;refine⟨w1,r1,S1,hr1,hS1,hp1.bind hS1 λk S2 w2 H2 v x2 q2 s2 p2=>?_⟩;have e:v=k:=q2;subst e;cases v with
   |false=>exact qQ (aF.ret (b:=FV.nx s1) p2 ⟨s1,rfl,hr1.ext x2⟩ s2)
   |true=>
    refine qR ⟨λs' H'=>∃w' r' S',RSt X.K w' H' r' s'/\RS X.K w' H' S'/\aF X.K E (RF X.K) w' H' (bS mt m n r' S') (FV.to D),λs' H' hN=>⟨n,Zq n,hN⟩,?_⟩;simp only[Yd]at p2;refine⟨w2,r1,S2,hr1.ext x2,s2,aF.bind (rel:=RF X.K) p2 s2 λf S5 w5 H5 fv x5 q5 s5 p5=>?_⟩;cases f with
    |nx r6=>obtain⟨s6,rfl,q6⟩:=q5;exact⟨w5,r6,S5,q6,s5,p5⟩
    |ct r6=>obtain⟨s6,rfl,q6⟩:=q5;exact⟨w5,r6,S5,q6,s5,p5⟩
    |bk r6=>obtain⟨s6,rfl,q6⟩:=q5;have z:=aF.ret (Q:=FV.to D) (rel:=RF X.K) (a:=F.nx r6) (b:=FV.nx s6) p5 ⟨s6,rfl,q6⟩ s5;exact z
    |rt d6=>obtain⟨v6,rfl,q6⟩:=q5;have z:=aF.ret (Q:=FV.to D) (rel:=RF X.K) (a:=F.rt d6) (b:=FV.rt v6) p5 ⟨v6,rfl,q6⟩ s5;exact z⟩
end
section
variable{X:Cx}{E:XK}
noncomputable def eqP(a b:D):Option Bool:=match eqS a b with
 |some c=>some c
 |none=>match toPy a,toPy b with
  |some p,some q=>if SeqAt.shaped p=true/\SeqAt.shaped q=true then some (PyData.eqv p q) else none
  |_,_=>none
noncomputable def fB:Sto->D->D->Option D:=λ_ a b=>(eqP a b).map .bl
noncomputable def jv:Sto->D->D->Option D:=λ_ a b=>(eqP a b).map λc=>.bl (!c)
theorem pJ{a b:D}{c:Bool}(h:eqP a b=some c):eqS a b=some c \/ ∃p q,toPy a=some p/\toPy b=some q/\SeqAt.shaped p=true/\SeqAt.shaped q=true/\c=PyData.eqv p q:=by
 unfold eqP at h;split at h
 ·rename_i c' e;cases h;exact .inl e
 ·split at h
  ·rename_i p q e1 e2;split at h
   ·rename_i hs;cases h;exact .inr ⟨p,q,e1,e2,hs.1,hs.2,rfl⟩
   ·cases h
  ·cases h
theorem iw{k:Nat}(hr:Room k X.A):OpR X (compareOp .Eq) (xO X.K E fB):=by
 rintro pins s σ H x y v u Q I rx ry ⟨w,S,d,e,hS,qd,qe,p⟩;obtain⟨z,hz,p⟩:=p.of;unfold fB at hz;cases h:eqP d e with
 |none=>rw[h]at hz;cases hz
 |some c=>
  rw[h]at hz;cases hz;rcases pJ h with h|⟨a,b,e1,e2,s1,s2,rfl⟩
  ·exact GI pins s σ H x y v u Q I rx ry ⟨w,S,d,e,hS,qd,qe,by unfold oEq;rw[h];exact p⟩
  ·obtain⟨as,r1,_⟩:=gY I d x v a qd rx e1;obtain⟨bs,r2,_⟩:=gY I e y u b qe ry e2;exact eq_dataH r1 r2 s1 s2 hr.units ⟨.bl _,H,I,rfl,p.ret RD.mkB hS⟩
theorem jR{k:Nat}(hr:Room k X.A):OpR X (compareOp .NotEq) (xO X.K E jv):=by
 rintro pins s σ H x y v u Q I rx ry ⟨w,S,d,e,hS,qd,qe,p⟩;obtain⟨z,hz,p⟩:=p.of;unfold jv at hz;cases h:eqP d e with
 |none=>rw[h]at hz;cases hz
 |some c=>
  rw[h]at hz;cases hz;rcases pJ h with h|⟨a,b,e1,e2,s1,s2,rfl⟩
  ·exact GJ pins s σ H x y v u Q I rx ry ⟨w,S,d,e,hS,qd,qe,by unfold oNe;rw[h];exact p⟩
  ·obtain⟨as,r1,_⟩:=gY I d x v a qd rx e1;obtain⟨bs,r2,_⟩:=gY I e y u b qe ry e2;exact ne_dataH r1 r2 s1 s2 hr.units ⟨.bl _,H,I,rfl,p.ret RD.mkB hS⟩
end
theorem Ci{f:FM}(h:∀ns:List Int,ns.length<=63->∃S,f [.fz (ns.map .int)] []=.ok (.bl true) S)(K:PySem.W.Frag)(H:Hp)(a:Addr)(ns:List Int)(hn:ns.length<=63)(ho:zL H)(hs:SqL K H a (ns.map V.int)):
 spN K 1 f [.ref a] H (λv _=>v=.bl true) λ_ _ _=>False:=ED h K H a ns hn ho hs
theorem EH{P:Program}{w:World}{l:List Env}{H:Hp}{s s':Shared}{e:Value}(h:CX1 P w l H s (λ_ _ _=>False) e s'):False:=by obtain⟨_,_,_,_,_,_,_,_,_,z⟩:=h;exact z
end PD
namespace SQ
open PySem PySem.Spec PyProof.Rows
open Sem (wp)
variable{h h':Heap}{it a l z i1 i2 l1 l2:Addr}{i:Nat}{xs:Array Value}
noncomputable def nm:Bool->String
 |true=>"tuple_iterator"
 |false=>"list_iterator"
noncomputable def Is:Bool->Heap->Addr->Array Value->Prop
 |true,h,a,xs=>h.IsTuple a xs
 |false,h,a,xs=>h.IsList a xs
def It(k:Bool)(h:Heap)(it a:Addr)(i:Nat):Prop:=∃o,h.get? it=some o/\o.cls=.type (nm k)/\o.data=.fields #[.ref a,.int i 0]
theorem It.move{k:Bool}(x:It k h it a i)(q:∀o,h.get? it=some o->h'.get? it=some o):It k h' it a i:=let ⟨o,e,r⟩:=x;⟨o,q o e,r⟩
theorem Is.move{k:Bool}(x:Is k h a xs)(q:∀o,h.get? a=some o->h'.get? a=some o):Is k h' a xs:=by
 cases k with
 |true=>obtain⟨o,e,r⟩:=x;exact⟨o,q o e,r⟩
 |false=>obtain⟨o,e,r⟩:=x;exact⟨o,q o e,r⟩
theorem Is.obj{k:Bool}(x:Is k h a xs):∃o,h.get? a=some o/\(o.cls=.type "tuple" \/ o.cls=.type "list")/\∃n,o.data=.seq xs n:=by
 cases k with
 |true=>obtain⟨o,e,c,n,d⟩:=x;exact⟨o,e,.inl c,n,d⟩
 |false=>obtain⟨o,e,c,n,d⟩:=x;exact⟨o,e,.inr c,n,d⟩
section
variable{prog:Program}{w:World}{A:Around}{E:Value->Shared->Prop}{s:Shared}
theorem iter{k:Bool}{t:Addr}{items}{Q:Value->Shared->Prop}(ht:Is k s.heap t items)
  (hQ:Q (.ref s.heap.objs.size) { s with heap:=s.heap.push { cls:=.type (nm k),data:=.fields #[.ref t,.int 0 0] } }):wpAny (model prog w) A (pyIter (.ref t)) Q E s:=by
 cases k with
 |true=>exact W5 ht hQ
 |false=>exact Zj ht hQ
theorem Ad{items}{x:Value}{Q:Value->Shared->Prop}(hit:s.heap.IsTupleIter it l i)(hl:s.heap.IsTuple l items)(hx:items[i]?=some x)
  (hQ:∀h',h'.IsTupleIter it l (i+1)->Heap.SameBut it s.heap h'->Q x { s with heap:=h' }):wpAny (model prog w) A (Builtin.SmallTypes.nextOf (.ref it)) Q E s:=by
 obtain⟨o,ho,hc,hd⟩:=id hit;obtain⟨ol,hol,_,nl,hdl⟩:=hl;unfold Builtin.SmallTypes.nextOf;refine J6 (Yu (name:=Str.ofString "__next__") hit.typeIs Ql (Z4 Ql hit.typeIs F.entry_tuple_iterator_next ?_ (F.args_tuple_iterator_next_1 _)))
 show wpAny _ _ (field (.ref it) 0 >>= _) _ _ s;refine J6 (Yh ho hd (x:=.ref l) rfl ?_);show wpAny _ _ (if (Value.ref l == Value.none)=true then _ else _) _ _ s
 rw[Jb (show ¬((Value.ref l == Value.none)=true) from Jk)];show wpAny _ _ (field (.ref it) 1 >>= _) _ _ s;refine J6 (Yh ho hd (x:=.int i 0) rfl ?_)
 show wpAny _ _ (seqItems? (.ref l) >>= _) _ _ s;refine J6 (Z1 hol hdl ?_);simp only[We,hx]
 refine J6 (wpAny_setField ho hd (by simp) (Jc ⟨x,rfl,Jc (hQ _ ?_ (Q3 ..))⟩));exact⟨_,Qi _ ho (Vj (U3 hd _)),(Obj.cls_mapFields ..).trans hc,by rw[U3 hd];simp[rawInt]⟩
theorem Cj{items}{Q:Value->Shared->Prop}(hh:A.handled=none)(hit:s.heap.IsTupleIter it l i)(hl:s.heap.IsTuple l items)(hx:items[i]?=none)
  (hE:∀h' e,Heap.ExtBut it s.heap h'->(∃o,h'.get? e=some o/\o.cls=.type "StopIteration")->E (.ref e) { s with heap:=h' }):wpAny (model prog w) A (Builtin.SmallTypes.nextOf (.ref it)) Q E s:=by
 obtain⟨o,ho,hc,hd⟩:=id hit;obtain⟨ol,hol,_,nl,hdl⟩:=hl;unfold Builtin.SmallTypes.nextOf;refine J6 (Yu (name:=Str.ofString "__next__") hit.typeIs Ql (Z4 Ql hit.typeIs F.entry_tuple_iterator_next ?_ (F.args_tuple_iterator_next_1 _)))
 show wpAny _ _ (field (.ref it) 0 >>= _) _ _ s;refine J6 (Yh ho hd (x:=.ref l) rfl ?_);show wpAny _ _ (if (Value.ref l == Value.none)=true then _ else _) _ _ s
 rw[Jb (show ¬((Value.ref l == Value.none)=true) from Jk)];show wpAny _ _ (field (.ref it) 1 >>= _) _ _ s;refine J6 (Yh ho hd (x:=.int i 0) rfl ?_)
 show wpAny _ _ (seqItems? (.ref l) >>= _) _ _ s;refine J6 (Z1 hol hdl ?_);simp only[We,hx]
 refine J6 (Yv (J6 (wpAny_setField ho hd (by simp) ?_)));show wpAny _ _ (newExc (.type "StopIteration") [] >>= _) _ _ _;refine J6 ?_
 simp only[newExc,newTuple];refine J6 (Yb ?_ (by size_fits));refine J6 (m:=firstArgMember _ _) (U2 (a:=Value.none) (by first|rfl|(simp only[firstArgMember];rfl)) ?_)
 refine Yb ?_ (by size_fits);simp only[raiseNew];refine J6 (wpAny_handled ?_);first|rw[show A.in1.handled=none from hh]|rw[hh]
 refine J6 (Jc (wpAny_throw ?_));exact hE _ _ (((Q3 ..).extBut.push _).push _) ⟨_,Ji _ rfl,rfl⟩
theorem next{k:Bool}{items}{x:Value}{Q:Value->Shared->Prop}(hit:It k s.heap it l i)(hl:Is k s.heap l items)(hx:items[i]?=some x)
  (hQ:∀h',It k h' it l (i+1)->Heap.SameBut it s.heap h'->Q x { s with heap:=h' }):wpAny (model prog w) A (Builtin.SmallTypes.nextOf (.ref it)) Q E s:=by
 cases k with
 |true=>exact Ad hit hl hx hQ
 |false=>exact wpAny_nextOf_list_item hit hl hx hQ
theorem ends{k:Bool}{items}{Q:Value->Shared->Prop}(hh:A.handled=none)(hit:It k s.heap it l i)(hl:Is k s.heap l items)(hx:items[i]?=none)
  (hE:∀h' e,Heap.ExtBut it s.heap h'->(∃o,h'.get? e=some o/\o.cls=.type "StopIteration")->E (.ref e) { s with heap:=h' }):wpAny (model prog w) A (Builtin.SmallTypes.nextOf (.ref it)) Q E s:=by
 cases k with
 |true=>exact Cj hh hit hl hx hE
 |false=>exact wpAny_nextOf_list_end hh hit hl hx hE
structure Apart(z TI TO i1 i2 l1 l2:Addr):Prop where
 a:TI≠z/\TO≠z/\i1≠z/\i2≠z/\TI≠TO/\TI≠i1/\TI≠i2
 b:TO≠i1/\TO≠i2/\i1≠i2
 c:l1≠z/\l1≠TO/\l1≠i1/\l1≠i2
 d:l2≠z/\l2≠TO/\l2≠i1/\l2≠i2
theorem sb{t b:Addr}{o:Obj}(hs:Heap.SameBut t h h')(n:b≠t)(e:h.get? b=some o):h'.get? b=some o:=(hs.2 b n).trans e
theorem Ae{k m:Bool}{TI TO:Addr}{k1 k2:Nat}{xs ys:Array Value}{x y a b:Value}{Q:Value->Shared->Prop}(D:Apart z TI TO i1 i2 l1 l2)
  (hz:IsZip s.heap z TI TO .none) (hTI:IsPair s.heap TI (.ref i1) (.ref i2)) (hTO:IsPair s.heap TO a b)
  (h1:It k s.heap i1 l1 k1) (h2:It m s.heap i2 l2 k2) (hl1:Is k s.heap l1 xs) (hl2:Is m s.heap l2 ys) (hx:xs[k1]?=some x) (hy:ys[k2]?=some y)
  (hQ:∀h',IsZip h' z TI TO (rawInt s.heap.objs.size)->IsPair h' TO x y->It k h' i1 l1 (k1+1)->It m h' i2 l2 (k2+1)->IsPair h' s.heap.objs.size x y->h'.objs.size=s.heap.objs.size+1->
   (∀c o,c∉[z,TI,TO,i1,i2]->s.heap.get? c=some o->h'.get? c=some o)->IsPair h' TI (.ref i1) (.ref i2)->Q (.ref s.heap.objs.size) { s with heap:=h' }):
  wpAny (model prog w) A (Builtin.«zip.__next__» ⟨[.ref z],[]⟩) (λfin s'=>∃v,fin=.done (.ret v)/\Q v s') E s:=by
 obtain⟨⟨nTIz,nTOz,n1z,n2z,nTITO,nTI1,nTI2⟩,⟨nTO1,nTO2,n12⟩,⟨p1,p2,p3,p4⟩,⟨q1,q2,q3,q4⟩⟩:=D;show wpAny _ _ (field (.ref z) 2 >>= _) _ _ _;refine J6 (Yh hz rfl (x:=.bool false) rfl ?_);show wpAny _ _ (field (.ref z) 3 >>= _) _ _ _;refine J6 (Yh hz rfl (x:=.ref TI) rfl ?_);refine J6 (Z1 hTI rfl ?_);show wpAny _ _ (Builtin.SmallTypes.ownedTupleIsFree (.ref z) >>= _) _ _ _;refine J6 ?_;unfold Builtin.SmallTypes.ownedTupleIsFree;refine J6 (Yh hz rfl (x:=.none) rfl (Jc ?_));simp only[Yd]
 refine J6 (Yv ?_);refine J6 (Yh hz rfl (x:=.ref TO) rfl ?_);refine J6 (Qh hz (by simp) λh₁ hz₁ s1=>?_)
 replace hz₁:IsZip h₁ z TI TO .ellipsis:=hz₁;refine J6 ?_;simp only[Wr,List.zipIdx_nil,Vt,List.forIn_nil];refine J6 (J6 (Uc ?_));show wpAny _ _ (Builtin.SmallTypes.nextOf (.ref i1) >>= _) _ _ _
 refine J6 (next (h1.move λo=>sb s1 n1z) (hl1.move λo=>sb s1 p1) hx λh₂ h1₂ s2=>Jc ?_)
 have hTO₂:IsPair h₂ TO a b:=sb s2 nTO1 (sb s1 nTOz hTO);refine J6 (Z1 hTO₂ rfl ?_);refine J6 (Vv hTO₂ λh₃ hTO₃ s3=>?_);replace hTO₃:IsPair h₃ TO x b:=hTO₃;refine J6 (V0 (Jc ?_));refine J6 (J6 (Uc ?_));show wpAny _ _ (Builtin.SmallTypes.nextOf (.ref i2) >>= _) _ _ _
 refine J6 (next (h2.move λo e=>sb s3 nTO2.symm (sb s2 n12.symm (sb s1 n2z e))) (hl2.move λo e=>sb s3 q2 (sb s2 q3 (sb s1 q1 e))) hy λh₄ h2₄ s4=>Jc ?_)
 have hTO₄:IsPair h₄ TO x b:=sb s4 nTO2 hTO₃;refine J6 (Z1 hTO₄ rfl ?_);refine J6 (Vv hTO₄ λh₅ hTO₅ s5=>?_);replace hTO₅:IsPair h₅ TO x y:=hTO₅;refine J6 (V0 (Jc (Jc ?_)));refine J6 (Z1 hTO₅ rfl ?_);refine J6 (wpAny_newTuple ?_)
 have hsz:h₅.objs.size=s.heap.objs.size:=by rw[s5.1,s4.1,s3.1,s2.1,s1.1]
 have k5:∀c o,c≠z->c≠TO->c≠i1->c≠i2->s.heap.get? c=some o->h₅.get? c=some o:=λc o c1 c2 c3 c4 e=>sb s5 c2 (sb s4 c4 (sb s3 c2 (sb s2 c3 (sb s1 c1 e))));have hz₅:IsZip h₅ z TI TO .ellipsis:=sb s5 nTOz.symm (sb s4 n2z.symm (sb s3 nTOz.symm (sb s2 n1z.symm hz₁)));have h1₅:It k h₅ i1 l1 (k1+1):=h1₂.move λo e=>sb s5 nTO1.symm (sb s4 n12 (sb s3 nTO1.symm e));have h2₅:It m h₅ i2 l2 (k2+1):=h2₄.move λo e=>sb s5 nTO2.symm e;have zlt:z<h₅.objs.size:=Jh hz₅;show wpAny _ _ (Builtin.SmallTypes.ownedTupleHandOut (.ref z) (.ref h₅.objs.size) >>= _) _ _ _;refine J6 ?_;unfold Builtin.SmallTypes.ownedTupleHandOut;have hz₆:IsZip (h₅.push { cls:=.type "tuple",data:=.seq #[x,y] }) z TI TO .ellipsis:=J7 _ hz₅
 refine J6 (Qh hz₆ (by simp) λh₇ hz₇ s7=>?_);replace hz₇:IsZip h₇ z TI TO (rawInt h₅.objs.size):=hz₇
 refine Qh hz₇ (by simp) λh₈ hz₈ s8=>?_;replace hz₈:IsZip h₈ z TI TO (rawInt h₅.objs.size):=hz₈
 have up:∀c o,c≠z->h₅.get? c=some o->h₈.get? c=some o:=λc o c1 e=>sb s8 c1 (sb s7 c1 (J7 _ e));have hT₈:IsPair h₈ h₅.objs.size x y:=sb s8 (Q7 zlt) (sb s7 (Q7 zlt) (Ji _ rfl))
 have hz8:h₈.objs.size=h₅.objs.size+1:=by rw[s8.1,s7.1,Y7]
 rw[hsz]at hz₈ hT₈ hz8;refine Jc ⟨_,rfl,?_⟩;show Q (.ref h₅.objs.size) _;rw[hsz];refine hQ h₈ hz₈ (up _ _ nTOz hTO₅) (h1₅.move λo e=>up _ o n1z e) (h2₅.move λo e=>up _ o n2z e) hT₈ hz8 (λc o hc e=>?_) (up _ _ nTIz (k5 _ _ nTIz nTITO nTI1 nTI2 hTI));simp only[Jj,Y6,Zb,not_or]at hc;exact up c o hc.1 (k5 c o hc.1 hc.2.2.1 hc.2.2.2.1 hc.2.2.2.2 e)
theorem Ck{k m:Bool}{TI TO:Addr}{k1 k2:Nat}{xs ys:Array Value}{a b:Value}{Q:Fin->Shared->Prop}(hh:A.handled=none)(D:Apart z TI TO i1 i2 l1 l2)
  (hz:IsZip s.heap z TI TO .none) (hTI:IsPair s.heap TI (.ref i1) (.ref i2)) (hTO:IsPair s.heap TO a b)
  (h1:It k s.heap i1 l1 k1) (h2:It m s.heap i2 l2 k2) (hl1:Is k s.heap l1 xs) (hl2:Is m s.heap l2 ys) (hend:xs[k1]?=none\/ys[k2]?=none)
  (hE:∀h' e,(∀c o,c∉[z,TI,TO,i1,i2]->s.heap.get? c=some o->h'.get? c=some o)->(∃o,h'.get? e=some o/\o.cls=.type "StopIteration")->E (.ref e) { s with heap:=h' }):
  wpAny (model prog w) A (Builtin.«zip.__next__» ⟨[.ref z],[]⟩) Q E s:=by
 obtain⟨⟨nTIz,nTOz,n1z,n2z,nTITO,nTI1,nTI2⟩,⟨nTO1,nTO2,n12⟩,⟨p1,p2,p3,p4⟩,⟨q1,q2,q3,q4⟩⟩:=D;show wpAny _ _ (field (.ref z) 2 >>= _) _ _ _;refine J6 (Yh hz rfl (x:=.bool false) rfl ?_);show wpAny _ _ (field (.ref z) 3 >>= _) _ _ _;refine J6 (Yh hz rfl (x:=.ref TI) rfl ?_);refine J6 (Z1 hTI rfl ?_);show wpAny _ _ (Builtin.SmallTypes.ownedTupleIsFree (.ref z) >>= _) _ _ _;refine J6 ?_;unfold Builtin.SmallTypes.ownedTupleIsFree;refine J6 (Yh hz rfl (x:=.none) rfl (Jc ?_));simp only[Yd]
 refine J6 (Yv ?_);refine J6 (Yh hz rfl (x:=.ref TO) rfl ?_);refine J6 (Qh hz (by simp) λh₁ hz₁ s1=>?_)
 replace hz₁:IsZip h₁ z TI TO .ellipsis:=hz₁;refine J6 ?_;simp only[Wr,List.zipIdx_nil,Vt,List.forIn_nil];refine J6 (J6 (Uc ?_));show wpAny _ _ (Builtin.SmallTypes.nextOf (.ref i1) >>= _) _ _ _;cases hx:xs[k1]? with
 |none=>
  refine J6 (ends hh (h1.move λo=>sb s1 n1z) (hl1.move λo=>sb s1 p1) hx λh₂ e s2 he=>?_);obtain⟨oe,hoe,hce⟩:=he;have hz₂:IsZip h₂ z TI TO .ellipsis:=s2 _ _ n1z.symm hz₁
  have hez:e≠z:=λx=>by subst x;rw[hz₂]at hoe;cases hoe;simp at hce
  refine Qh hz₂ (by simp) λh₃ _ s3=>hE h₃ e (λc o hc x=>?_) ⟨oe,sb s3 hez hoe,hce⟩
  simp only[Jj,Y6,Zb,not_or]at hc;exact sb s3 hc.1 (s2 _ _ hc.2.2.2.1 (sb s1 hc.1 x))
 |some x=>
  have hy:ys[k2]?=none:=hend.resolve_left λh=>by rw[hx]at h;cases h
  refine J6 (next (h1.move λo=>sb s1 n1z) (hl1.move λo=>sb s1 p1) hx λh₂ h1₂ s2=>Jc ?_)
  have hTO₂:IsPair h₂ TO a b:=sb s2 nTO1 (sb s1 nTOz hTO);refine J6 (Z1 hTO₂ rfl ?_);refine J6 (Vv hTO₂ λh₃ hTO₃ s3=>?_);refine J6 (V0 (Jc ?_));refine J6 (J6 (Uc ?_));show wpAny _ _ (Builtin.SmallTypes.nextOf (.ref i2) >>= _) _ _ _;refine J6 (ends hh (h2.move λo e=>sb s3 nTO2.symm (sb s2 n12.symm (sb s1 n2z e))) (hl2.move λo e=>sb s3 q2 (sb s2 q3 (sb s1 q1 e))) hy λh₄ e s4 he=>?_);obtain⟨oe,hoe,hce⟩:=he;have hz₄:IsZip h₄ z TI TO .ellipsis:=s4 _ _ n2z.symm (sb s3 nTOz.symm (sb s2 n1z.symm hz₁))
  have hez:e≠z:=λx=>by subst x;rw[hz₄]at hoe;cases hoe;simp at hce
  refine Qh hz₄ (by simp) λh₅ _ s5=>hE h₅ e (λc o hc x=>?_) ⟨oe,sb s5 hez hoe,hce⟩
  simp only[Jj,Y6,Zb,not_or]at hc;exact sb s5 hc.1 (s4 _ _ hc.2.2.2.2 (sb s3 hc.2.2.1 (sb s2 hc.2.2.2.1 (sb s1 hc.1 x))))
theorem zip_next{k m:Bool}{TI TO:Addr}{k1 k2:Nat}{xs ys:Array Value}{x y a b:Value}{Q:Option Value->Shared->Prop}(D:Apart z TI TO i1 i2 l1 l2)
  (hz:IsZip s.heap z TI TO .none) (hTI:IsPair s.heap TI (.ref i1) (.ref i2)) (hTO:IsPair s.heap TO a b)
  (h1:It k s.heap i1 l1 k1) (h2:It m s.heap i2 l2 k2) (hl1:Is k s.heap l1 xs) (hl2:Is m s.heap l2 ys) (hx:xs[k1]?=some x) (hy:ys[k2]?=some y)
  (hQ:∀h',IsZip h' z TI TO (rawInt s.heap.objs.size)->IsPair h' TO x y->It k h' i1 l1 (k1+1)->It m h' i2 l2 (k2+1)->IsPair h' s.heap.objs.size x y->h'.objs.size=s.heap.objs.size+1->
   (∀c o,c∉[z,TI,TO,i1,i2]->s.heap.get? c=some o->h'.get? c=some o)->IsPair h' TI (.ref i1) (.ref i2)->Q (some (.ref s.heap.objs.size)) { s with heap:=h' }):wpAny (model prog w) A (pyNext (.ref z)) Q E s:=by
 have hT:s.TypeIs (.ref z) "zip":=⟨_,hz,rfl⟩;unfold pyNext
 exact J6 (Vc (Yu (name:=Str.ofString "__next__") hT Vw (Z4 Vw hT F.entry_zip_next (Ae D hz hTI hTO h1 h2 hl1 hl2 hx hy λh' a1 a2 a3 a4 a5 a6 a7 a8=>Jc (hQ h' a1 a2 a3 a4 a5 a6 a7 a8)) (F.args_zip_next_1 _))))
theorem zip_stop{k m:Bool}{TI TO:Addr}{k1 k2:Nat}{xs ys:Array Value}{a b:Value}{Q:Option Value->Shared->Prop}(hh:A.handled=none)(D:Apart z TI TO i1 i2 l1 l2)
  (hz:IsZip s.heap z TI TO .none) (hTI:IsPair s.heap TI (.ref i1) (.ref i2)) (hTO:IsPair s.heap TO a b)
  (h1:It k s.heap i1 l1 k1) (h2:It m s.heap i2 l2 k2) (hl1:Is k s.heap l1 xs) (hl2:Is m s.heap l2 ys) (hend:xs[k1]?=none\/ys[k2]?=none)
  (hQ:∀h',(∀c o,c∉[z,TI,TO,i1,i2]->s.heap.get? c=some o->h'.get? c=some o)->Q none { s with heap:=h' }):wpAny (model prog w) A (pyNext (.ref z)) Q E s:=by
 have hT:s.TypeIs (.ref z) "zip":=⟨_,hz,rfl⟩;unfold pyNext
 refine J6 (Vc (Yu (name:=Str.ofString "__next__") hT Vw (Z4 Vw hT F.entry_zip_next (Ck hh D hz hTI hTO h1 h2 hl1 hl2 hend λh' e hk he=>?_) (F.args_zip_next_1 _))))
 obtain⟨o,ho,hc⟩:=he;refine J6 (wpAny_isInstance (T:="StopIteration") (b:=true) ⟨o,ho,hc⟩ isSubtype_stop ?_);exact Jc (hQ _ hk)
end
noncomputable abbrev z1(k:Bool)(h:Heap)(l1:Addr):Heap:=h.push { cls:=.type (nm k),data:=.fields #[.ref l1,.int 0 0] }
noncomputable abbrev z2(k m:Bool)(h:Heap)(l1 l2:Addr):Heap:=(z1 k h l1).push { cls:=.type (nm m),data:=.fields #[.ref l2,.int 0 0] }
noncomputable abbrev z3(k m:Bool)(h:Heap)(l1 l2:Addr):Heap:=(z2 k m h l1 l2).push { cls:=.type "tuple",data:=.seq #[.ref h.objs.size,.ref (z1 k h l1).objs.size] }
noncomputable abbrev z4(k m:Bool)(h:Heap)(l1 l2:Addr):Heap:=(z3 k m h l1 l2).push { cls:=.type "tuple",data:=.seq #[.none,.none] }
noncomputable abbrev z5(k m:Bool)(h:Heap)(l1 l2:Addr):Heap:=(z4 k m h l1 l2).push { cls:=.type "zip",data:=.fields #[.none,.bool false,.bool false,.ref (z2 k m h l1 l2).objs.size,.ref (z3 k m h l1 l2).objs.size] }
theorem yF(k m:Bool)(l1 l2:Addr)(xs ys:Array Value):
  Meets (Builtin.«zip.__new__» ⟨[.type "zip",.ref l1,.ref l2],[]⟩) (λ_ R s=>Is k s.heap l1 xs/\Is m s.heap l2 ys/\R (.ok (.ret (.ref (z4 k m s.heap l1 l2).objs.size))) { s with heap:=z5 k m s.heap l1 l2 }):=
 .of_wp λprog w A R s h=>by
  obtain⟨hp,g,d,tk,os⟩:=s;obtain⟨hl1,hl2,h⟩:=h;have hsub:=sub_zip;have hL1:Is k (Shared.heap ⟨hp,g,d,tk,os⟩) l1 xs:=hl1;have hL2:Is m (Shared.heap ⟨hp.push { cls:=.type (nm k),data:=.fields #[.ref l1,.int 0 0] },g,d,tk,os⟩) l2 ys:=hl2.move λo e=>J7 _ e
  wp_walk using iter hL1,iter hL2
  exact⟨_,rfl,h⟩
section
variable{prog:Program}{w:World}{A:Around}{E:Value->Shared->Prop}{s:Shared}
theorem call_zip{k m:Bool}{ys:Array Value}{Q:Value->Shared->Prop}(hl1:Is k s.heap l1 xs)(hl2:Is m s.heap l2 ys)
  (h:∀h',IsZip h' (s.heap.objs.size+4) (s.heap.objs.size+2) (s.heap.objs.size+3) .none->IsPair h' (s.heap.objs.size+2) (.ref s.heap.objs.size) (.ref (s.heap.objs.size+1))->
   IsPair h' (s.heap.objs.size+3) .none .none->It k h' s.heap.objs.size l1 0->It m h' (s.heap.objs.size+1) l2 0->h'.objs.size=s.heap.objs.size+5->
   (∀c o,s.heap.get? c=some o->h'.get? c=some o)->Q (.ref (s.heap.objs.size+4)) { s with heap:=h' }):wpAny (model prog w) A (call (.type "zip") [.ref l1,.ref l2]) Q E s:=by
 refine callType_new F.called_zip (by decide) (F.typeCall_zip_2 _ _) (F.newCall_zip_2 _ _) (λobj=>F.args_object_init_3 obj _ _) F.entry_zip_new (yF k m l1 l2 xs ys) ⟨hl1,hl2,?_⟩
 have e1:(z1 k s.heap l1).objs.size=s.heap.objs.size+1:=Y7 ..
 have e2:(z2 k m s.heap l1 l2).objs.size=s.heap.objs.size+2:=by rw[Y7,e1]
 have e3:(z3 k m s.heap l1 l2).objs.size=s.heap.objs.size+3:=by rw[Y7,e2]
 have e4:(z4 k m s.heap l1 l2).objs.size=s.heap.objs.size+4:=by rw[Y7,e3]
 have e5:(z5 k m s.heap l1 l2).objs.size=s.heap.objs.size+5:=by rw[Y7,e4]
 have g5:(z5 k m s.heap l1 l2).get? (z4 k m s.heap l1 l2).objs.size=some _:=Ji _ rfl;have g4:(z5 k m s.heap l1 l2).get? (z3 k m s.heap l1 l2).objs.size=some _:=J7 _ (Ji _ rfl);have g3:(z5 k m s.heap l1 l2).get? (z2 k m s.heap l1 l2).objs.size=some _:=J7 _ (J7 _ (Ji _ rfl));have g2:(z5 k m s.heap l1 l2).get? (z1 k s.heap l1).objs.size=some _:=J7 _ (J7 _ (J7 _ (Ji _ rfl)));have g1:(z5 k m s.heap l1 l2).get? s.heap.objs.size=some _:=J7 _ (J7 _ (J7 _ (J7 _ (Ji _ rfl))));show _/\_;rw[e2,e3,e4]at g5;rw[e1,e2]at g3;rw[e3]at g4;rw[e1]at g2;rw[e4];exact⟨⟨_,g5,rfl⟩,h _ g5 g3 g4 ⟨_,g1,rfl,rfl⟩ ⟨_,g2,rfl,rfl⟩ e5 λc o x=>J7 _ (J7 _ (J7 _ (J7 _ (J7 _ x))))⟩
end
theorem vB(k:Bool)(l:Addr)(items:Array Value)(ob:Obj):
  Meets (Builtin.«enumerate.__new__» ⟨[.type "enumerate",.ref l],[]⟩) (λ_ R s=>Is k s.heap l items/\s.heap.get? l=some ob/\
   R (.ok (.ret (.ref (s.heap.push { cls:=.type (nm k),data:=.fields #[.ref l,.int 0 0] }).objs.size)))
    { s with heap:=(s.heap.push { cls:=.type (nm k),data:=.fields #[.ref l,.int 0 0] }).push { cls:=.type "enumerate",data:=.fields #[.none,.bool false,.ref s.heap.objs.size,rawInt 0,.none,.none] } }):=
 .of_wp λprog w A R s h=>by
  obtain⟨hp,g,d,tk,os⟩:=s;obtain⟨hl,ho,h⟩:=h;have hsub:=sub_enumerate;have hL:Is k (Shared.heap ⟨hp,g,d,tk,os⟩) l items:=hl
  wp_walk using Qv ho
  refine wpAny_stack_any λst=>Jc ?_;split
  ·rename_i c _ _ _ _ _;cases (c == Value.type "enumerate")
   ·wp_walk using Qv ho,iter hL
    exact⟨_,rfl,h⟩
   ·wp_walk using Qv ho,iter hL
    exact⟨_,rfl,h⟩
  ·wp_walk using Qv ho,iter hL
   exact⟨_,rfl,h⟩
section
variable{prog:Program}{w:World}{A:Around}{E:Value->Shared->Prop}{s:Shared}
theorem call_enum{k:Bool}{items:Array Value}{Q:Value->Shared->Prop}(hL:Is k s.heap l items)
  (h:∀h',IsEnum h' (s.heap.objs.size+1) s.heap.objs.size 0 .none->It k h' s.heap.objs.size l 0->h'.objs.size=s.heap.objs.size+2->
   (∀b o,s.heap.get? b=some o->h'.get? b=some o)->Q (.ref (s.heap.objs.size+1)) { s with heap:=h' }):wpAny (model prog w) A (call (.type "enumerate") [.ref l]) Q E s:=by
 obtain⟨ob,ho,_,_,_⟩:=hL.obj
 refine callType_new F.called_enumerate (by decide) (F.typeCall_enumerate_1 _) (F.newCall_enumerate_1 _) (λobj=>F.args_object_init_2 obj _) F.entry_enumerate_new (vB k l items ob) ⟨hL,ho,?_⟩
 have hz:(s.heap.push { cls:=.type (nm k),data:=.fields #[.ref l,.int 0 0] }).objs.size=s.heap.objs.size+1:=Y7 ..;show _/\_;rw[hz]
 have he:IsEnum ((s.heap.push { cls:=.type (nm k),data:=.fields #[.ref l,.int 0 0] }).push { cls:=.type "enumerate",data:=.fields #[.none,.bool false,.ref s.heap.objs.size,rawInt 0,.none,.none] }) (s.heap.objs.size+1) s.heap.objs.size 0 .none:=by
  have:=Ji (s.heap.push { cls:=.type (nm k),data:=.fields #[.ref l,.int 0 0] }) (o:={ cls:=.type "enumerate",data:=.fields #[.none,.bool false,.ref s.heap.objs.size,rawInt 0,.none,.none] }) rfl
  rw[hz]at this;exact this
 exact⟨⟨_,he,rfl⟩,h _ he ⟨_,J7 _ (Ji _ rfl),rfl,rfl⟩ (by rw[Y7,hz]) λb o x=>J7 _ (J7 _ x)⟩
end
theorem draws{prog:Program}{w:World}{A:Around}(k:Bool)(hh:A.handled=none)(it l:Addr)(hne:l≠it)(items:Array Value):
  Draws prog w A it [it,l] items.size (λi v=>items[i]?=some v) (λi h=>It k h it l i/\Is k h l items) where
 live:=λ_ _ st=>let ⟨o,ho,_⟩:=st.1;⟨o,ho⟩
 frame:=λ_ _ _ st hk=>⟨st.1.move λo e=>hk it (by simp) o e,st.2.move λo e=>hk l (by simp) o e⟩
 item:=λi s Q E hi st hQ=>next st.1 st.2 (x:=items[i]) (by simp[hi]) λh' hit' hs'=>hQ _ h' s.toks (by simp[hi]) ⟨hit',st.2.move λo=>sb hs' hne⟩ hs'
 done:=λs Q E st hE=>ends hh st.1 st.2 (by simp) hE
end SQ
namespace L2
open PySem PySem.Spec PyProof.Rows
section
variable{X:Cx}{pins:List (Addr×Obj)}{σ:St}{H:Hp}{s:Shared}{h':Heap}
theorem Inv.turnedS{t':Nat}{fp:List Addr}(I:Inv X pins σ H s)(k:∀b o,b∉fp->s.heap.get? b=some o->h'.get? b=some o)(hf:∀b∈fp,FpOk X pins H b):Inv X pins σ H { s with heap:=h',toks:=t' }:=by
 refine I.step (g':=s.gens) (d':=s.drawn) (ch:=fp) (λb hb=>?_) (λb o _ _ hc e _=>k b o hc e) (λb o _ _ hc e _=>⟨o.slots,k b o hc e⟩) (λ_ _ _ _ n=>n)
  (λb o hc e=>⟨o,k b o hc e⟩) (λ_ _ e=>e) (λ_ _ _ e=>e) (λb ps e=>⟨#[],by rw[e];simp⟩) (λm hm=>?_) (λb u e=>?_) I.bare
 ·obtain⟨f0,f1,f2,f3,f4,f5⟩:=hf b hb;exact⟨f3,f1,f4,f5⟩
 ·obtain⟨o,es,ep,ho,r⟩:=hm;exact⟨o,es,ep,k _ o (λz=>(hf _ z).2.1 rfl) ho,r⟩
 ·refine(I.hok b u e).stay (λc v hc q=>k c v (λz=>?_) q) (λ_ q=>q) λ_ _ q=>q;have hn:=(hf c z).1;rcases hc with y|y
  ·rw[y,e]at hn;cases hn
  ·rw[y]at hn;cases hn
theorem Inv.turnedP{t':Nat}{fp:List Addr}{x y:V}{u v:Value}(I:Inv X pins σ H s)(hf:∀b∈fp,FpOk X pins H b)(hlt:∀b∈fp,b<s.heap.objs.size)(rx:RelV x u)(ry:RelV y v)
  (k:∀b o,b∉fp->s.heap.get? b=some o->h'.get? b=some o) (hp:IsPair h' s.heap.objs.size u v):Inv X pins σ (upd H s.heap.objs.size (.tup [x,y])) { s with heap:=h',toks:=t' }:=by
 have I1:Inv X pins σ (upd H s.heap.objs.size (.tup [x,y])) { s with heap:=s.heap.push { cls:=.type "tuple",data:=.seq #[u,v] },toks:=t' }:=
  I.laid (t':=t') (λb u e=>J7 _ e) (J9 _) ⟨by show 2<=sizeLine;decide,[u,v],.cons rx (.cons ry .nil),⟨_,Ji _ rfl,rfl,_,rfl⟩⟩
 refine Inv.turnedS (s:={ s with heap:=s.heap.push { cls:=.type "tuple",data:=.seq #[u,v] },toks:=t' }) (fp:=fp) (t':=t') (h':=h') I1 (λb o hb e=>?_) λb hb=>?_
 ·rcases Heap.get?_push_cases e with⟨rfl,rfl⟩|e
  ·exact hp
  ·exact k b o hb e
 ·obtain⟨f0,f1⟩:=hf b hb
  exact⟨by rw[aN (Jq (hlt b hb))];exact f0,f1⟩
theorem rq{fp:List Addr}(hf:∀b∈fp,FpOk X pins H b)(hlt:∀b∈fp,b<s.heap.objs.size){o:HO}:∀b∈fp,upd H s.heap.objs.size o b=none:=λb hb=>by rw[aN (Jq (hlt b hb))];exact(hf b hb).1
end
noncomputable def SqK(K:PySem.W.Frag):Bool->Hp->Addr->List V->Prop
 |true,H,a,xs=>SqT K H a xs
 |false,H,a,xs=>SqL K H a xs
theorem Inv.sqk{X:Cx}{pins:List (Addr×Obj)}{σ:St}{H:Hp}{s:Shared}{k:Bool}{a:Addr}{xs:List V}(I:Inv X pins σ H s)(h:SqK X.K k H a xs):∃its:List Value,Vals xs its/\SQ.Is k s.heap a its.toArray/\xs.length<=sizeLine:=by
 cases k with
 |true=>obtain⟨its,r,p,z⟩:=I.tuple h;exact⟨its,r,show s.heap.IsTuple a its.toArray from p,z⟩
 |false=>obtain⟨its,r,p,z⟩:=I.list h;exact⟨its,r,p.isList,z⟩
theorem Inv.sqk_inj{X:Cx}{pins:List (Addr×Obj)}{σ:St}{H:Hp}{s:Shared}{k:Bool}{a:Addr}{xs ys:List V}(I:Inv X pins σ H s)(h:SqK X.K k H a xs)(h2:SqK X.K k H a ys):xs=ys:=by
 cases k with
 |true=>exact I.tuple_inj h h2
 |false=>exact I.list_inj h h2
noncomputable def Itz(K:PySem.W.Frag)(k m:Bool)(a b:Addr):It:=
  ⟨λi H=>∃xs ys x y,SqK K k H a xs/\SqK K m H b ys/\xs[i]?=some x/\ys[i]?=some y,
   λi H v H'=>∃p x y,v=.ref p/\H p=none/\H'=upd H p (.tup [x,y])/\∀xs ys,SqK K k H a xs->SqK K m H b ys->xs[i]?=some x/\ys[i]?=some y,
   λi H=>∃xs ys,SqK K k H a xs/\SqK K m H b ys/\(xs.length<=i\/ys.length<=i)⟩
noncomputable def Ite(K:PySem.W.Frag)(k:Bool)(a:Addr):It:=
  ⟨λi H=>∃xs x,SqK K k H a xs/\xs[i]?=some x,
   λi H v H'=>∃p x,v=.ref p/\H p=none/\H'=upd H p (.tup [.int i,x])/\∀xs,SqK K k H a xs->xs[i]?=some x,
   λi H=>∃xs,SqK K k H a xs/\xs.length<=i⟩
structure Zst(k m:Bool)(z TI TO i1 i2 a b:Addr)(i:Nat)(h:Heap):Prop where
 hz:IsZip h z TI TO .none
 hTI:IsPair h TI (.ref i1) (.ref i2)
 hTO:∃u v,IsPair h TO u v
 h1:SQ.It k h i1 a i
 h2:SQ.It m h i2 b i
structure Znd(z TI TO i1 i2:Addr):Prop where
 a:TI≠z/\TO≠z/\i1≠z/\i2≠z/\TI≠TO/\TI≠i1/\TI≠i2
 b:TO≠i1/\TO≠i2/\i1≠i2
theorem Af{P:Program}{w:World}{K:PySem.W.Frag}{es:List Expr}{n:Nat}{pos:Pos}{k m:Bool}(z TI TO i1 i2 a b:Addr)(N:Znd z TI TO i1 i2)(na:a∉[z,TI,TO,i1,i2])(nb:b∉[z,TI,TO,i1,i2]):
  Turn false P w K (.Tuple es n pos) (Itz K k m a b) [z,TI,TO,i1,i2] z (Zst k m z TI TO i1 i2 a b) where
 mem:=by simp
 obj:=λi h st c hc=>by
  obtain⟨hz,hTI,⟨u,v,hTO⟩,⟨o1,e1,c1,d1⟩,⟨o2,e2,c2,d2⟩⟩:=st;simp only[Jj,Y6,Zb]at hc;rcases hc with rfl|rfl|rfl|rfl|rfl
  ·exact⟨_,hz,λv z=>by cases z⟩
  ·exact⟨_,hTI,λv z=>by cases z⟩
  ·exact⟨_,hTO,λv z=>by cases z⟩
  ·exact⟨_,e1,λv z=>by rw[d1]at z;cases z⟩
  ·exact⟨_,e2,λv z=>by rw[d2]at z;cases z⟩
 keep:=λi h h' ⟨hz,hTI,⟨u,v,hTO⟩,h1,h2⟩ q=>⟨q z (by simp) _ hz,q TI (by simp) _ hTI,⟨u,v,q TO (by simp) _ hTO⟩,h1.move λo e=>q i1 (by simp) o e,h2.move λo e=>q i2 (by simp) o e⟩
 item:=by
  intro X hP hw hK hc i pins s σ H E I hf st hg;subst hP hw hK;obtain⟨xs,ys,x,y,hq,hr,hx,hy⟩:=hg;obtain⟨us,ru,pu,_⟩:=I.sqk hq;obtain⟨vs,rv,pv,_⟩:=I.sqk hr;obtain⟨u,hu,rxu⟩:=ru.get hx;obtain⟨v,hv,ryv⟩:=rv.get hy;obtain⟨hz,hTI,⟨u0,v0,hTO⟩,h1,h2⟩:=st;simp only[Jj,Y6,Zb,not_or]at na nb;have D:SQ.Apart z TI TO i1 i2 a b:=⟨N.a,N.b,⟨na.1,na.2.2.1,na.2.2.2.1,na.2.2.2.2⟩,⟨nb.1,nb.2.2.1,nb.2.2.2.1,nb.2.2.2.2⟩⟩
  have hlt:∀c∈[z,TI,TO,i1,i2],c<s.heap.objs.size:=λc hc=>by
   simp only[Jj,Y6,Zb]at hc;rcases hc with rfl|rfl|rfl|rfl|rfl
   ·exact Jh hz
   ·exact Jh hTI
   ·exact Jh hTO
   ·obtain⟨_,e,_⟩:=h1;exact Jh e
   ·obtain⟨_,e,_⟩:=h2;exact Jh e
  refine SQ.zip_next D hz hTI hTO h1 h2 pu pv (x:=u) (y:=v) (by simpa using hu) (by simpa using hv) λh' a1 a2 a3 a4 a5 a6 a7 a8=>⟨_,rfl,?_⟩
  refine wpAny_letOwnedTupleGo_zip (s:={ s with heap:=h' }) a1 λh2' hz' hs'=>?_
  have up:∀c o,c≠z->h'.get? c=some o->h2'.get? c=some o:=λc o n e=>SQ.sb hs' n e;obtain⟨⟨nTIz,nTOz,n1z,n2z,_⟩,_⟩:=id N
  refine⟨.ref s.heap.objs.size,_,I.turnedP (t':=s.toks) (h':=h2') hf hlt rxu ryv (λc o hc e=>up c o (λq=>hc (by simp[q])) (a7 c o hc e)) (up _ _ (Q7 (Jh hz)) a5),rfl,
   ⟨_,x,y,rfl,I.fresh,rfl,λxs' ys' q1 q2=>⟨by rw[I.sqk_inj q1 hq];exact hx,by rw[I.sqk_inj q2 hr];exact hy⟩⟩,
   ⟨hz',up _ _ nTIz a8,⟨_,_,up _ _ nTOz a2⟩,a3.move λo e=>up _ o n1z e,a4.move λo e=>up _ o n2z e⟩,rq hf hlt⟩
 done:=by
  intro X hP hw hK hc i pins s σ H E I hf st hg;subst hP hw hK;obtain⟨xs,ys,hq,hr,hx⟩:=hg;obtain⟨us,ru,pu,_⟩:=I.sqk hq;obtain⟨vs,rv,pv,_⟩:=I.sqk hr;obtain⟨hz,hTI,⟨u0,v0,hTO⟩,h1,h2⟩:=st;simp only[Jj,Y6,Zb,not_or]at na nb;have D:SQ.Apart z TI TO i1 i2 a b:=⟨N.a,N.b,⟨na.1,na.2.2.1,na.2.2.2.1,na.2.2.2.2⟩,⟨nb.1,nb.2.2.1,nb.2.2.2.1,nb.2.2.2.2⟩⟩;have l1:=ru.length;have l2:=rv.length
  refine SQ.zip_stop (I.ok.hd hc.cm) D hz hTI hTO h1 h2 pu pv (hx.imp (λq=>by simp;omega) λq=>by simp;omega) λh' kk=>⟨rfl,I.turnedS (t':=s.toks) kk hf⟩
 self:=λ_ _ _ _ _ st h=>wpAny_pyIter_zip st.hz h
structure Est(k:Bool)(e it a:Addr)(i:Nat)(h:Heap):Prop where
 he:∃old,IsEnum h e it i old
 h1:SQ.It k h it a i
theorem yG{P:Program}{w:World}{K:PySem.W.Frag}{es:List Expr}{n:Nat}{pos:Pos}{k:Bool}(e it a:Addr)(ne:e≠it)(na:a≠e/\a≠it):
  Turn false P w K (.Tuple es n pos) (Ite K k a) [e,it] e (Est k e it a) where
 mem:=by simp
 obj:=λi h st c hc=>by
  obtain⟨⟨old,he⟩,⟨o1,e1,c1,d1⟩⟩:=st;simp only[Jj,Y6,Zb]at hc;rcases hc with rfl|rfl
  ·exact⟨_,he,λv z=>by cases z⟩
  ·exact⟨_,e1,λv z=>by rw[d1]at z;cases z⟩
 keep:=λi h h' ⟨⟨old,he⟩,h1⟩ q=>⟨⟨old,q e (by simp) _ he⟩,h1.move λo x=>q it (by simp) o x⟩
 item:=by
  intro X hP hw hK hc i pins s σ H E I hf st hg;subst hP hw hK;obtain⟨xs,x,hq,hx⟩:=hg;obtain⟨us,ru,pu,_⟩:=I.sqk hq;obtain⟨u,hu,rxu⟩:=ru.get hx;obtain⟨⟨old,he⟩,h1⟩:=st
  have hlt:∀c∈[e,it],c<s.heap.objs.size:=λc hc=>by
   simp only[Jj,Y6,Zb]at hc;rcases hc with rfl|rfl
   ·exact Jh he
   ·obtain⟨_,e,_⟩:=h1;exact Jh e
  have hi:i<us.toArray.size:=by have:=(Ja.mp hu).1;simpa using this
  have D:=SQ.draws (prog:=X.prog) (w:=X.w) (A:=X.A.in1) k (I.ok.hd hc.cm) it a na.2 us.toArray
  refine wpAny_pyNext_enum_itemD D he ⟨h1,pu⟩ hi ne (by simp[ne,Ne.symm na.1]) λy h' tk hy a1 a2 a3 a4 a5=>⟨_,rfl,?_⟩
  have ey:y=u:=by simpa[hu] using hy.symm
  subst ey
  refine wpAny_letOwnedTupleGo_enum (s:={ s with heap:=h',toks:=tk+1 }) a1 λh2' hz' hs'=>?_
  have up:∀c o,c≠e->h'.get? c=some o->h2'.get? c=some o:=λc o n q=>SQ.sb hs' n q
  refine⟨.ref s.heap.objs.size,_,Inv.turnedP (s:=s) (t':=tk+1) (h':=h2') (x:=.int i) (u:=.int i tk) I hf hlt ⟨tk,rfl⟩ rxu (λc o hc q=>up c o (λr=>hc (by simp[r])) (a5 c o (λr=>hc (by simp[r])) (λr=>hc (by simp[r])) q)) (up _ _ (Q7 (Jh he)) a3),rfl,
   ⟨_,x,rfl,I.fresh,rfl,λxs' q1=>by rw[I.sqk_inj q1 hq];exact hx⟩,
   ⟨⟨y,by simpa using hz'⟩,a2.1.move λo q=>up _ o (Ne.symm ne) q⟩,rq hf hlt⟩
 done:=by
  intro X hP hw hK hc i pins s σ H E I hf st hg;subst hP hw hK;obtain⟨xs,hq,hx⟩:=hg;obtain⟨us,ru,pu,_⟩:=I.sqk hq;obtain⟨⟨old,he⟩,h1⟩:=st;have l1:=ru.length;have hT:s.TypeIs (.ref e) "enumerate":=⟨_,he,rfl⟩
  unfold pyNext;refine J6 (Vc (Yu (name:=Str.ofString "__next__") hT F.slot_enumerate_next (Z4 F.slot_enumerate_next hT F.entry_enumerate_next ?_ (F.args_enumerate_next_1 _))))
  show wpAny _ _ (field (.ref e) 2 >>= _) _ _ _;refine J6 (Yh he rfl (x:=.ref it) rfl ?_)
  refine J6 (SQ.ends (I.ok.hd hc.cm) h1 pu (by simp;omega) λh' x he' hx'=>?_)
  obtain⟨o,ho,hcl⟩:=hx';refine J6 (wpAny_isInstance (T:="StopIteration") (b:=true) ⟨o,ho,hcl⟩ isSubtype_stop ?_)
  exact Jc ⟨rfl,I.turnedS (t':=s.toks) (λb o hb q=>he' b o (λr=>hb (by simp[r])) q) hf⟩
 self:=λ_ _ _ _ _ st h=>let ⟨⟨_,he⟩,_⟩:=st;wpAny_pyIter_enum he h
section
variable{X:Cx}{es:List Expr}{n:Nat}{tp:Pos}
theorem boot_zip:bootBuiltins "zip" = some (.type "zip"):=by decide +kernel
theorem boot_enumerate:bootBuiltins "enumerate" = some (.type "enumerate"):=by decide +kernel
theorem EI(n:Nat):Znd (n+4) (n+2) (n+3) n (n+1):=by
 have h:((n+2≠n+4/\n+3≠n+4/\n≠n+4/\n+1≠n+4/\n+2≠n+3/\n+2≠n/\n+2≠n+1)/\(n+3≠n/\n+3≠n+1/\n≠n+1)):=by omega
 exact⟨h.1,h.2⟩
theorem pK(n a:Nat)(h:a<n):a∉[n+4,n+2,n+3,n,n+1]:=by intro hc;simp only[Jj,Y6,Zb]at hc;omega
theorem pL(n c:Nat)(hc:c∈[n+4,n+2,n+3,n,n+1]):n<=c:=by simp only[Jj,Y6,Zb]at hc;omega
theorem wY(n a:Nat)(h:a<n):(n+1≠n)/\a≠n+1/\a≠n:=by omega
theorem nR(n c:Nat)(hc:c∈[n+1,n]):n<=c:=by simp only[Jj,Y6,Zb]at hc;omega
noncomputable def Hq(K:PySem.W.Frag)(ta:TA):TI:=λσ H R=>ta σ H λvs H1=>∃a b k m,vs=[.ref a,.ref b]/\(∃xs,SqK K k H1 a xs)/\(∃ys,SqK K m H1 b ys)/\R (Itz K k m a b) H1
noncomputable def GL(K:PySem.W.Frag)(ta:TA):TI:=λσ H R=>ta σ H λvs H1=>∃a k,vs=[.ref a]/\(∃xs,SqK K k H1 a xs)/\R (Ite K k a) H1
theorem EJ{a b:Expr}{ta:TA}{p pos:Pos}(hg:Gl X "zip")(hm:X.mg "zip" = none)(ha:PA X [a,b] ta)(hs:autoParam (starEach [a,b] X.env=[(false,eval a X.env),(false,eval b X.env)]) Au.h0._auto_1)(hs2:autoParam (starEach [b] X.env=[(false,eval b X.env)]) Au.h0._auto_1):
  PI X (.Tuple es n tp) (.Call (.Name "zip" p) [a,b] [] pos) (Hq X.K ta):=by
 intro pins s σ H R I h
 refine Call_ (ig I hg hm boot_zip (Zz (thn (ha pos pins s σ H _ I h) λus s1 zq=>?_) (by rw[hs,hs2]) (by rw[hs2];rfl)))
 obtain⟨vs,H1,I1,r1,q1⟩:=zq;obtain⟨a,b,k,m,e,⟨xs,hx⟩,⟨ys,hy⟩,q⟩:=q1;subst e;cases r1 with
 |cons r rr=>
  cases rr with
  |cons r' rr=>
   cases rr;cases r;cases r';obtain⟨us,ru,pu,_⟩:=I1.sqk hx;obtain⟨vs,rv,pv,_⟩:=I1.sqk hy;refine SQ.call_zip pu pv λh' a1 a2 a3 a4 a5 a6 a7=>?_
   have I2:Inv X pins σ H1 { s1 with heap:=h' }:=I1.kept (t':=s1.toks) a7
   obtain⟨oa,ea,_⟩:=pu.obj;obtain⟨ob,eb,_⟩:=pv.obj;have la:=Jh ea;have lb:=Jh eb
   refine wpAny_pyIter_zip (s:={ s1 with heap:=h' }) a1 ⟨_,[s1.heap.objs.size+4,s1.heap.objs.size+2,s1.heap.objs.size+3,s1.heap.objs.size,s1.heap.objs.size+1],_,_,H1,rfl,I2,
    Af (k:=k) (m:=m) _ _ _ _ _ a b (EI _) (pK _ a la) (pK _ b lb),⟨a1,a2,⟨_,_,a3⟩,a4,a5⟩,λc hc=>?_,q⟩
   exact I1.fpOk (pL _ c hc) (I1.hok.fresh (pL _ c hc))
theorem Cm{a:Expr}{ta:TA}{p pos:Pos}(hg:Gl X "enumerate")(hm:X.mg "enumerate" = none)(ha:PA X [a] ta)(hs:autoParam (starEach [a] X.env=[(false,eval a X.env)]) Au.h0._auto_1):
  PI X (.Tuple es n tp) (.Call (.Name "enumerate" p) [a] [] pos) (GL X.K ta):=by
 intro pins s σ H R I h;refine Call_ (ig I hg hm boot_enumerate (Zz (thn (ha pos pins s σ H _ I h) λus s1 zq=>?_) hs rfl));obtain⟨vs,H1,I1,r1,q1⟩:=zq;obtain⟨a,k,e,⟨xs,hx⟩,q⟩:=q1;subst e;cases r1 with
 |cons r rr=>
  cases rr;cases r;obtain⟨us,ru,pu,_⟩:=I1.sqk hx;refine SQ.call_enum pu λh' a1 a2 a3 a4=>?_
  have I2:Inv X pins σ H1 { s1 with heap:=h' }:=I1.kept (t':=s1.toks) a4
  obtain⟨oa,ea,_⟩:=pu.obj;have la:=Jh ea
  refine wpAny_pyIter_enum (s:={ s1 with heap:=h' }) a1 ⟨_,[s1.heap.objs.size+1,s1.heap.objs.size],_,_,H1,rfl,I2,yG (k:=k) _ _ a (wY _ a la).1 (wY _ a la).2,⟨⟨_,a1⟩,a2⟩,λc hc=>?_,q⟩
  exact I1.fpOk (nR _ c hc) (I1.hok.fresh (nR _ c hc))
end
end L2
namespace PD
open PySem PySem.Spec PyProof.Rows L2
noncomputable def oT:D->Option (List D)
 |.tup ds=>some ds
 |.lst ds=>some ds
 |.fz ds=>some ds
 |_=>none
noncomputable def lD:List D->List D->List D
 |x::xs,y::ys=>.tup [x,y]::lD xs ys
 |_,_=>[]
noncomputable def numbered:Nat->List D->List D
 |_,[]=>[]
 |i,x::xs=>.tup [.int i,x]::numbered (i+1) xs
noncomputable def vD(t:AM):AM:=λr S=>(t r S).bind λxs S1=>match xs with
 |[a,b]=>match oT a,oT b with
  |some us,some vs=>.ok (lD us vs) S1
  |_,_=>.bad
 |_=>.bad
noncomputable def kj(t:AM):AM:=λr S=>(t r S).bind λxs S1=>match xs with
 |[a]=>match oT a with
  |some us=>.ok (numbered 0 us) S1
  |_=>.bad
 |_=>.bad
theorem kl:∀(us vs:List D)(i:Nat),(i<(lD us vs).length↔i<us.length/\i<vs.length)/\∀x y,us[i]?=some x->vs[i]?=some y->(lD us vs)[i]?=some (.tup [x,y])
 |[],vs,i=>by simp[lD]
 |_::_,[],i=>by simp[lD]
 |u::us,v::vs,0=>by simp[lD]
 |u::us,v::vs,i+1=>by have ih:=kl us vs i;simp only[lD,Jm,Zh,Nat.add_lt_add_iff_right];exact ih
theorem fK:∀(us:List D)(j i:Nat),(numbered j us).length=us.length/\∀x,us[i]?=some x->(numbered j us)[i]?=some (.tup [.int ((j+i:Nat):Int),x])
 |[],j,i=>by simp[numbered]
 |u::us,j,0=>by simp[numbered,(fK us (j+1) 0).1]
 |u::us,j,i+1=>by have ih:=fK us (j+1) i;simp only[numbered,Jm,Zh,ih.1,true_and];intro x hx;rw[ih.2 x hx];congr 4;omega
theorem vE{K:PySem.W.Frag}{w:Wd}{H:Hp}{d:D}{ds:List D}{v:V}(e:oT d=some ds)(q:RD K w H d v):∃p k vs,v=.ref p/\RDs K w H ds vs/\∀w' H',Ext w H w' H'->SqK K k H' p vs:=by
 cases d with
 |tup us=>
  cases e;unfold RD at q;obtain⟨p,vs,rfl,h1,q⟩:=q;exact⟨p,true,vs,rfl,q,λw' H' x'=>cj (h1.imp x'.at id)⟩
 |lst us=>
  cases e;unfold RD at q;obtain⟨p,vs,rfl,h1,q⟩:=q;exact⟨p,false,vs,rfl,q,λw' H' x'=>SqL.of (x'.at h1).1⟩
 |fz us=>
  cases e;unfold RD at q;obtain⟨p,vs,rfl,h1,q⟩:=q;exact⟨p,false,vs,rfl,q,λw' H' x'=>vm.sq (w:=w') (h1.imp (λ⟨o,z⟩=>⟨o,x'.at z⟩) id)⟩
 |_=>cases e
section
variable{X:Cx}{E:XK}{a b:Expr}{pos:Pos}
theorem Ag{es:List Expr}{n:Nat}{tp:Pos}{ms:AM}{p:Pos}(hg:Gl X "zip")(hm:X.mg "zip" = none)(ha:SA X E [a,b] ms)(hs:autoParam (starEach [a,b] X.env=[(false,eval a X.env),(false,eval b X.env)]) Au.h0._auto_1)(hs2:autoParam (starEach [b] X.env=[(false,eval b X.env)]) Au.h0._auto_1):
  SI X E (.Tuple es n tp) (.Call (.Name "zip" p) [a,b] [] pos) (vD ms):=⟨
 fI (EJ hg hm ha.out hs hs2) λs H Q zq=>ex6 zq λw r S hr hS hp=>⟨w,r,S,hr,hS,hp.bind hS λds S1 w1 H1 vs x1 q1 s1 p1=>by
  match ds,q1,p1 with
  |[d,e],q1,p1=>
   obtain⟨v,u,rfl,q2,q3⟩:=q1.two_inv
   change aF X.K E (RI X.K) w1 H1 (match oT d,oT e with|some us,some vs=>R.ok (lD us vs) S1|_,_=>R.bad) Q at p1
   cases e1:oT d with
   |none=>rw[e1]at p1;exact p1.elim
   |some us=>
    cases e2:oT e with
    |none=>rw[e1,e2]at p1;exact p1.elim
    |some vs=>
     rw[e1,e2]at p1;obtain⟨pa,k,xs,rfl,ra,sa⟩:=vE e1 q2;obtain⟨pb,m,ys,rfl,rb,sbb⟩:=vE e2 q3;refine⟨pa,pb,k,m,rfl,⟨xs,sa _ _ (Ext.refl _ _)⟩,⟨ys,sbb _ _ (Ext.refl _ _)⟩,aF.ret p1 ?_ s1⟩;intro i w' H' x';have ra':=RDs.ext x' _ _ ra;have rb':=RDs.ext x' _ _ rb;have la:=ra.length;have lb:=rb.length;refine⟨λhi=>?_,λhi=>⟨xs,ys,sa _ _ x',sbb _ _ x',?_⟩⟩
     ·obtain⟨h1,h2⟩:=(kl us vs i).1.mp hi
      refine⟨⟨xs,ys,xs[i]'(by omega),ys[i]'(by omega),sa _ _ x',sbb _ _ x',Jd _,Jd _⟩,λv H'' y=>?_⟩
      obtain⟨p,x,y,rfl,hp,rfl,q⟩:=y;obtain⟨qx,qy⟩:=q xs ys (sa _ _ x') (sbb _ _ x');obtain⟨x0,ex,rx⟩:=ra'.get (Jd h1);obtain⟨y0,ey,ry⟩:=rb'.get (Jd h2);rw[qx]at ex;cases ex;rw[qy]at ey;cases ey;refine⟨.inr ⟨p,_,hp,rfl⟩,λS hS=>⟨_,(kl us vs i).2 _ _ (Jd h1) (Jd h2),?_⟩⟩;unfold RD;refine⟨p,[x,y],rfl,.inl ⟨aQ,hS.fresh hp⟩,?_⟩;unfold RDs RDs RDs;exact⟨x,[y],rfl,RD.ext (Ext.new hp) _ _ rx,y,[],rfl,RD.ext (Ext.new hp) _ _ ry,rfl⟩
     ·have:=(kl us vs i).1;omega
  |[],_,p1=>exact p1.elim
  |[_],_,p1=>exact p1.elim
  |_::_::_::_,_,p1=>exact p1.elim⟩⟩
theorem wZ{es:List Expr}{n:Nat}{tp:Pos}{ms:AM}{p:Pos}(hg:Gl X "enumerate")(hm:X.mg "enumerate" = none)(ha:SA X E [a] ms)(hs:autoParam (starEach [a] X.env=[(false,eval a X.env)]) Au.h0._auto_1):
  SI X E (.Tuple es n tp) (.Call (.Name "enumerate" p) [a] [] pos) (kj ms):=⟨
 fI (Cm hg hm ha.out hs) λs H Q zq=>ex6 zq λw r S hr hS hp=>⟨w,r,S,hr,hS,hp.bind hS λds S1 w1 H1 vs x1 q1 s1 p1=>by
  match ds,q1,p1 with
  |[d],q1,p1=>
   obtain⟨v,rfl,q2⟩:=q1.one_inv
   change aF X.K E (RI X.K) w1 H1 (match oT d with|some us=>R.ok (numbered 0 us) S1|_=>R.bad) Q at p1
   cases e1:oT d with
   |none=>rw[e1]at p1;exact p1.elim
   |some us=>
    rw[e1]at p1;obtain⟨pa,k,xs,rfl,ra,sa⟩:=vE e1 q2;refine⟨pa,k,rfl,⟨xs,sa _ _ (Ext.refl _ _)⟩,aF.ret p1 ?_ s1⟩;intro i w' H' x';have ra':=RDs.ext x' _ _ ra;have la:=ra.length;have ln:=(fK us 0 i).1
    refine⟨λhi=>?_,λhi=>⟨xs,sa _ _ x',by omega⟩⟩
    have h1:i<us.length:=by omega
    refine⟨⟨xs,xs[i]'(by omega),sa _ _ x',Jd _⟩,λv H'' y=>?_⟩
    obtain⟨p,x,rfl,hp,rfl,q⟩:=y;have qx:=q xs (sa _ _ x');obtain⟨x0,ex,rx⟩:=ra'.get (Jd h1);rw[qx]at ex;cases ex;refine⟨.inr ⟨p,_,hp,rfl⟩,λS hS=>⟨_,(fK us 0 i).2 _ (Jd h1),?_⟩⟩;unfold RD;refine⟨p,[.int i,x],rfl,.inl ⟨aQ,hS.fresh hp⟩,?_⟩;unfold RDs RDs RDs
    exact⟨.int i,[x],rfl,by unfold RD;simp,x,[],rfl,RD.ext (Ext.new hp) _ _ rx,rfl⟩
  |[],_,p1=>exact p1.elim
  |_::_::_,_,p1=>exact p1.elim⟩⟩
end
noncomputable def yH(x:Int):List Int->List Int
 |[]=>[x]
 |y::r=>if x<=y then x::y::r else y::yH x r
noncomputable def jC:List Int->List Int
 |[]=>[]
 |x::r=>yH x (jC r)
theorem lE(x:Int):∀l:List Int,(yH x l).Perm (x::l)
 |[]=>.refl _
 |y::r=>by
  unfold yH;split
  ·exact .refl _
  ·exact((lE x r).cons y).trans (.swap x y r)
theorem eV:∀l:List Int,(jC l).Perm l
 |[]=>.refl _
 |x::r=>(lE x _).trans ((eV r).cons x)
theorem my(x:Int):∀l:List Int,l.Pairwise (· <= ·)->(yH x l).Pairwise (· <= ·)
 |[],_=>Qc _ _
 |y::r,h=>by
  obtain⟨h1,h2⟩:=Ze.mp h;unfold yH;split
  ·rename_i hxy
   exact Ze.mpr ⟨λz hz=>by
    rcases Jj.mp hz with rfl|hz
    ·exact hxy
    ·exact Zr hxy (h1 z hz),h⟩
  ·rename_i hxy
   exact Ze.mpr ⟨λz hz=>by
    rcases Jj.mp ((lE x r).mem_iff.mp hz) with rfl|hz
    ·omega
    ·exact h1 z hz,my x r h2⟩
theorem eD:∀l:List Int,(jC l).Pairwise (· <= ·)
 |[]=>.nil
 |x::r=>my x _ (eD r)
theorem mz:∀{a b:List Int},a.Perm b->a.Pairwise (· <= ·)->b.Pairwise (· <= ·)->a=b
 |[],b,p,_,_=>p.nil_eq
 |x::r,[],p,_,_=>absurd p.length_eq (by simp)
 |x::r,y::t,p,h1,h2=>by
  obtain⟨a1,a2⟩:=Ze.mp h1;obtain⟨b1,b2⟩:=Ze.mp h2
  have e:x=y:=by
   have hx:x∈y::t:=p.mem_iff.mp (.head _);have hy:y∈x::r:=p.mem_iff.mpr (.head _);rcases Jj.mp hx with h|h
   ·exact h
   ·rcases Jj.mp hy with h'|h'
    ·exact h'.symm
    ·exact Int.le_antisymm (a1 y h') (b1 x h)
  subst e;rw[mz (List.Perm.cons_inv p) a2 b2]
end PD
namespace SQ
open PySem PySem.Spec PyProof.Rows
section
variable{prog:Program}{w:World}{A:Around}{E:Value->Shared->Prop}{s:Shared}
theorem tF{l:Addr}{vs:List Value}{Q:List Value->Shared->Prop}(hl:s.heap.IsTuple l vs.toArray)
  (h:Q vs { s with heap:=(s.heap.push (seqObj "list" #[] 0)).update s.heap.objs.size (Obj.mapSeq (· ++ vs.toArray)) }) (hsz:vs.length<=sizeLine):wpAny (model prog w) A (collect (.ref l)) Q E s:=by
 obtain⟨o,ho,hc,n,hd⟩:=id hl;unfold collect;refine J6 (wpAny_runValue (Zy entry_proto_collect' ?_))
 show wpAny _ _ (do again (.builtin "list.__iadd__" ⟨[<- newList [],.ref l],[]⟩)) _ _ s;refine J6 (W4 (Jc ⟨Code.quiet_builtin _ (by decide +kernel),Zy entry_list_iadd' ?_⟩))
 show wpAny _ _ (Builtin.List.listExtendWith (.ref s.heap.objs.size) (.ref l) (.ref s.heap.objs.size)) _ _ { s with heap:=s.heap.push (seqObj "list" #[] 0) };unfold Builtin.List.listExtendWith
 have ho':(s.heap.push (seqObj "list" #[] 0)).get? l=some o:=J7 _ ho
 refine J6 (Wi (T:="tuple") ⟨o,ho',hc⟩ ?_)
 have ht:(Value.type "tuple" == Value.type "tuple")=true:=by rfl
 rw[J8 (by rw[ht];simp)];refine J6 (listItems_at ho' hd ?_);refine J6 (listItems_at (xs:=#[]) (n:=0) (Ji _ rfl) rfl ?_);rw[Jb (by simp)]
 refine J6 (Ve (xs:=#[]) (n:=0) (Ji _ rfl) rfl ?_ (Y0 _) (by show(#[]++vs.toArray).size<=sizeLine+1;simp only[Array.size_append,Js,Yi];omega));refine Jc ?_
 show wpAny (model prog w) A (do
   let o <- load s.heap.objs.size
   match o.data with
   |.seq xs _=>pure xs.toList
   |_=>unsupported "internal:collect") Q E { s with heap:=(s.heap.push (seqObj "list" #[] 0)).update s.heap.objs.size (Obj.mapSeq (· ++ vs.toArray)) }
 refine J6 (wpAny_load (V2 (Ji _ rfl) _) ?_);show wpAny _ _ (pure ((#[]:Array Value)++vs.toArray).toList) Q E _
 rw[show((#[]:Array Value)++vs.toArray).toList=vs by simp];exact Jc h
theorem collects{k:Bool}{l:Addr}{vs:List Value}{Q:List Value->Shared->Prop}(hl:Is k s.heap l vs.toArray)
  (h:Q vs { s with heap:=(s.heap.push (seqObj "list" #[] 0)).update s.heap.objs.size (Obj.mapSeq (· ++ vs.toArray)) }) (hsz:vs.length<=sizeLine):wpAny (model prog w) A (collect (.ref l)) Q E s:=by
 cases k with
 |true=>exact tF hl h hsz
 |false=>exact collect_list hl h hsz
end
end SQ
namespace PD
open PySem PySem.Spec PyProof.Rows L2
section
variable{X:Cx}{E:XK}
theorem gZ{K:PySem.W.Frag}{w:Wd}{H:Hp}:∀{ds:List D}{vs:List V}{us:List Value}{ns:List Int},RDs K w H ds vs->Vals vs us->intsOf ds=some ns->IntsAre us ns
 |[],_,_,_,q,r,h=>by rw[q.nil_inv]at r;cases r;unfold intsOf at h;cases h;exact .nil
 |d::ds,_,_,ns,q,r,h=>by
  obtain⟨y,vs,rfl,p,t⟩:=q.cons_inv;cases d with
  |int b=>
   unfold intsOf at h;cases e':intsOf ds with
   |none=>rw[e']at h;cases h
   |some cs=>
    rw[e']at h;cases h;cases p.int;cases r with
    |cons r1 r2=>
     obtain⟨t',rfl⟩:=r1;exact .cons _ _ (gZ t r2 e')
  |_=>unfold intsOf at h;cases h
theorem w8:∀{us:List Value}{ns:List Int},IntsAre us ns->Vals (ns.map .int) us
 |_,_,.nil=>.nil
 |_,_,.cons _ _ h=>.cons ⟨_,rfl⟩ (w8 h)
theorem tG{K:PySem.W.Frag}{w:Wd}{H:Hp}:∀ns:List Int,RDs K w H (ns.map .int) (ns.map .int)
 |[]=>.nil
 |n::ns=>.cons (by unfold RD;rfl) (tG ns)
end
variable{X:Cx}{caps:List Nat}
noncomputable def eBR(f:Sto->List D->R D)(t:AM):EM:=λr S=>(t r S).bind λxs S1=>f S1 xs
noncomputable def xCR(K:PySem.W.Frag)(E:XK)(f:Sto->List D->R D):List V->Hp->VK->Prop:=λxs H Q=>∃w S ds,RS K w H S/\RDs K w H ds xs/\aF K E (RD K) w H (f S ds) Q
section
variable{X:Cx}{E:XK}{a b:Expr}{es:List Expr}{ms:AM}{x:Str}{p pos:Pos}
theorem vF{T:String}{f:Sto->List D->R D}(hc:bF X (.type T) (xCR X.K E f))(hg:Gl X x)(hm:X.mg x=none)(hv:bootBuiltins x=some (.type T))(ha:SA X E (a::es) ms)(hn:autoParam (x ≠ "__name__") Au.h3._auto_1)(hdb:autoParam ((x == ("__debug__":Str))=false) Au.h3._auto_1)
  (he:autoParam (starEach (a::es) X.env=(false,eval a X.env)::starEach es X.env) Au.h0._auto_1) (hpl:autoParam ((backTo pos (starEach es X.env)).any (·.1)=false) Au.h0._auto_1):SE X E (.Call (.Name x p) (a::es) [] pos) (eBR f ms):=⟨
 bq (pC hc hg hm hv ha.out hn hdb he hpl) λs H Q zq=>ex6 zq λw r S hr hS hp=>⟨w,r,S,hr,hS,hp.bind hS λds S1 w1 H1 vs x1 q1 s1 p1=>⟨w1,S1,ds,s1,q1,p1⟩⟩⟩
end
theorem yI{E:XK}{k:Nat}{it:AM}{g:G}{mt:TM}{me:EM}:∀s H Q,uE X.K E (aU it k caps g mt me) s H Q->wR (uI X.K E it) k caps (uG X.K g) (uT X.K E mt) (uE X.K E me) s H Q:=
 λs H Q zq=>ex6 zq λw r S hr hS hp=>⟨w,r,S,hr,hS,hp.bind hS λds S1 w1 H1 J x1 q1 s1 p1=>by
  intro p hp;have hr1:=hr.ext x1;have pno:p∉w1.hid:=(s1.fresh hp).2
  have hz:ds.length<=sizeLine:=by
   rcases Nat.lt_or_ge sizeLine ds.length with z|z
   ·rw[Jb (by omega)]at p1;exact p1.elim
   ·exact z
  rw[J8 hz]at p1
  -- the list is made at p,which is hidden
  refine⟨λi n s' H'=>n=ds.length-i/\i<=ds.length/\∃w' r' S' ys vs,Ext w1 H1 w' H'/\p∈w'.hid/\RSt X.K w' H' r' s'/\RS X.K w' H' S'/\H' p=some (.lst vs)/\RDs X.K w' H' ys vs/\ys.length<=i/\
    aF X.K E (RD X.K) w1 H1 ((cS g mt me (ds.drop i) r' S').bind λzs S2=>R.ok (.lst (ys++zs)) S2) Q,
   ⟨ds.length,by simp,Y0 _,w1.hide p,dZ k caps r,S1,[],[],Ext.hide hp,Y4,(wW k caps hr1).ext (Ext.hide hp),s1.hide hp,aQ,.nil,J9 _,p1⟩,?_⟩
  rintro i n s2 H2 ⟨rfl,hi.out,w2,r2,S2,ys,vs,x2,hph,hr2,hS2,hpv,ry,hyl,hp2⟩;have hpn:p∉w2.st:=(hS2.hid p hph).1;by_cases hlt:i<ds.length
  ·obtain⟨go,yld⟩:=(q1 i w2 H2 x2).1 hlt
   refine .inr ⟨go,λs' H'=>∃w' r' S' ys vs,Ext w1 H1 w' H'/\p∈w'.hid/\RSt X.K w' H' r' s'/\RS X.K w' H' S'/\H' p=some (.lst vs)/\RDs X.K w' H' ys vs/\ys.length<=i+1/\
     aF X.K E (RD X.K) w1 H1 ((cS g mt me (ds.drop (i+1)) r' S').bind λzs S2=>R.ok (.lst (ys++zs)) S2) Q,
    λs' H' hN=>⟨ds.length-(i+1),by omega,rfl,hlt,hN⟩,λx H3 hy=>?_⟩
   obtain⟨gr,rd⟩:=yld x H3 hy;obtain⟨d,ed,qd⟩:=rd S2 hS2;obtain⟨x3,s3⟩:=nG gr hS2
   have hdrop:ds.drop i=d::ds.drop (i+1):=by rw[Zl hlt];rw[Jd hlt]at ed;cases ed;rfl
   rw[hdrop]at hp2;have hpv3:H3 p=some (.lst vs):=x3.keep _ _ hpv hpn;have ry3:=RDs.ext x3 _ _ ry;have x13:Ext w1 H1 w2 H3:=x2.trans' x3 s1 hS2;unfold cS at hp2;cases e:g.put d r2 with
   |none=>rw[e]at hp2;exact hp2.elim
   |some r3=>
    rw[e]at hp2;refine⟨w2,r2,d,r3,hr2.ext x3,qd,e,λs4 hr4=>⟨w2,r3,S2,hr4,s3,?_⟩⟩
    -- hp2:(mt r3 S2).bind .. |>.bind ..
    have hass:∀{A B C:Type}(r:R A)(f:A->Sto->R B)(h:B->Sto->R C),(r.bind f).bind h=r.bind λa S=>(f a S).bind h:=λr f h=>by cases r<;>rfl
    simp only[hass]at hp2;refine aF.bindAt (rel:=RB) hp2 x13 s1 s3 λc S5 w5 H5 c' x5 q5 s5 p5=>?_;have ec:c'=c:=q5;subst ec;have x15:Ext w1 H1 w5 H5:=x13.trans' x5 s1 s3;have hph5:p∈w5.hid:=x5.hid p hph;have hpv5:H5 p=some (.lst vs):=x5.keep _ _ hpv3 hpn;cases c' with
    |false=>
     refine qQ ⟨w5,r3,S5,ys,vs,x15,hph5,hr4.ext x5,s5,hpv5,RDs.ext x5 _ _ ry3,Ug hyl,p5⟩
    |true=>
     refine qR ⟨w5,r3,S5,hr4.ext x5,s5,?_⟩;have p5':aF X.K E (RD X.K) w1 H1 (((me r3 S5).bind λy S2=>(cS g mt me (ds.drop (i+1)) r3 S2).bind λys S3=>R.ok (y::ys) S3).bind λzs S2=>R.ok (D.lst (ys++zs)) S2) Q:=p5;simp only[hass]at p5';refine aF.bindAt (rel:=RD X.K) p5' x15 s1 s5 λy S6 w6 H6 yv x6 q6 s6 p6=>?_;have x16:Ext w1 H1 w6 H6:=x15.trans' x6 s1 s5;have hph6:p∈w6.hid:=x6.hid p hph5;have hpn5:p∉w5.st:=(s5.hid p hph5).1;have hpn6:p∉w6.st:=(s6.hid p hph6).1;have hpv6:H6 p=some (.lst vs):=x6.keep _ _ hpv5 hpn5;have ry6:=RDs.ext x6 _ _ (RDs.ext x5 _ _ ry3)
     refine⟨vs,hpv6,by rw[ry6.length];omega,w6,r3,S6,ys++[y],vs++[yv],⟨λa o h n=>?_,x16.sub,x16.hid,x16.hnew,λa o u h=>by have z:=x16.frz a o u h;rw[aN (λe:a=p=>by rw[e,hpv6]at z;cases z)];exact z⟩,hph6,(hr4.ext x5).ext x6 |>.mv (Mv.write hph6),s6.write hph6,aQ,(RDs.mv (Mv.write hph6) _ _ ry6).append (.cons (RD.mv (Mv.write hph6) _ _ q6) .nil),by simp;omega,?_⟩
     ·have:a≠p:=aS h hp;rw[aN this];exact x16.keep a o h n
     ·have he2:∀zs:List D,(ys++[y])++zs=ys++y::zs:=λzs=>by simp
      simp only[he2];exact p6
  ·have e:i=ds.length:=by omega
   subst e;rw[Ul]at hp2;refine .inl ⟨(q1 _ w2 H2 x2).2 (J9 _),?_⟩;have hp3:aF X.K E (RD X.K) w1 H1 (R.ok (D.lst (ys++[])) S2) Q:=hp2;rw[Yr]at hp3;refine aF.at hp3 (w1:=w2.unhide p) ⟨x2.keep,x2.sub,λa h=>Yq.mpr ⟨x2.hid a h,Jx λz=>pno (z▸h)⟩,λa h=>x2.hnew a (Wd.mem_unhide h).1,x2.frz⟩ ?_ hS2.unhide;unfold RD
   exact⟨p,vs,rfl,⟨hpv,hpn,λz=>(Wd.mem_unhide z).2 rfl⟩,RDs.mv Mv.unhide _ _ ry⟩⟩
theorem Cn{elt tg iter:Expr}{ifs:List Expr}{scope:Scope}{pos pos' spos:Pos}{N:List Str}{i0:Nat}{x0:Str}{k:Nat}{wi:TI}{g:TG}{tt:TT}{te:TE}(hN:X.N.Nodup)(hi0:X.N[i0]?=some x0)(hx0:Loc X.env.scope x0)(hX:X.calm=true)(hxe:∀e s,¬X.xe e s)(C:CompScope X N k caps scope)
  (hi:PI X tg iter wi) (hg:∀cl s0 H0 ex,PG (cxC X N scope cl s0 H0 ex) tg g) (ht:∀cl s0 H0 ex,zP (cxC X N scope cl s0 H0 ex) ifs tt) (he:∀cl s0 H0 ex,PE (cxC X N scope cl s0 H0 ex) elt te)
  (hs:autoParam (∀x,foldedSetIterable iter X.env x=pure x) Au.h4._auto_1) (hsw:autoParam (swapsWith (.ListComp elt [⟨tg,iter,ifs,0⟩] scope pos) (some (.Name x0 pos')) spos.line X.env=pure true) Au.h0._auto_1) (hf0:autoParam (X.fn x0=true\/X.env.scope.names.lookup x0=some .local) Au.h7._auto_1):PS X (.Assign [.Name x0 pos'] (.ListComp elt [⟨tg,iter,ifs,0⟩] scope pos) spos) (DQ (wR wi k caps g tt te) (zr i0)):=by
 intro pins s σ H D I h;have h:wR wi k caps g tt te σ H (λv H1=>D.nx (σ.set i0 (some v)) H1):=h;have noX:∀{α:Type}{t:Sem α}{Q':α->Shared->Prop}{s':Shared},wpAny (model X.prog X.w) X.A t Q' X.xe s'->wpAny (model X.prog X.w) X.A t Q' (λ_ _=>False) s':=λh=>Zk h (λ_ _ x=>x) λe s z=>hxe e s z;obtain⟨cl,hclos,hcl,hcf⟩:=mn (scope:=scope) (env:=X.env) λx hx hf=>I.ok.has _ (C.free x hx hf);rw[exec_Assign_Name_used _ _ _ _ hsw];refine J6 (U8 (J6 ?_))
 show wpAny _ X.A (do let _ <- comprehension (.ListComp elt [⟨tg,iter,ifs,0⟩] scope pos) scope X.env _ (newList []) false (eval iter X.env) (some (assign (.Name x0 pos') X.env))) _ _ s
 refine J6 (Zk (wpAny_comprehension_free (use:=some (assign (.Name x0 pos') X.env)) (Q:=λ_ s'=>∃σ' H',Inv X pins σ' H' s'/\D.nx σ' H') (cl:=cl) rfl hs hclos C.kind C.names ?_) (λ_ s' hq=>Jc (Jc hq)) λ_ _ e=>e);refine thn (hi pins s σ H _ I h) λv s1 h1=>thn h1 λitv s2 h2=>?_;obtain⟨it,fp,tn,J,H2,e,I2,T,st2,f2,q⟩:=h2;subst e
 refine W4 (items:=[]) ?_ (by show 0<=sizeLine;exact Y0 _)
 have hp:H2 s2.heap.objs.size=none:=I2.hok.fresh (J9 _);obtain⟨W,⟨m0,w0⟩,turn⟩:=q _ hp
 have I3:Inv X pins σ (upd H2 s2.heap.objs.size (.lst [])) { s2 with heap:=s2.heap.push { cls:=.type "list",data:=.seq ([]:List Value).toArray } }:=
  I2.laid (t':=s2.toks) (λb u e=>J7 _ e) (J9 _) ⟨Y0 _,[],0,.nil,Ji _ rfl⟩
 refine wpAny_newFunctionEnv C.nocell (λx hx=>nomatch hx) (λh4 hn4 hs4=>?_) C.kind
 have ltfp:∀b∈fp,b<s2.heap.objs.size:=λb hb=>by obtain⟨o,ho,_⟩:=T.obj _ _ st2 b hb;exact Jh ho
 have hk4:∀b o,(s2.heap.push { cls:=.type "list",data:=.seq ([]:List Value).toArray }).get? b=some o->h4.get? b=some o:=λb o e=>by
  have ne:b≠(s2.heap.push { cls:=.type "list",data:=.seq ([]:List Value).toArray }).objs.size:=Jq (Jh e)
  rw[hs4.2 b ne];exact J7 _ e
 have f3:∀b∈fp,FpOk X pins (upd H2 s2.heap.objs.size (.lst [])) b:=λb hb=>by
  obtain⟨a1,a2⟩:=f2 b hb
  exact⟨by rw[aN (Jq (ltfp b hb))];exact a1,a2⟩
 have I4:=nH (N:=N) (k:=k) (caps:=caps) (scope:=scope) (cl:=cl) (fp:=fp) (t:=s2.toks+0) I3 C hcl hcf (λb hb=>⟨f3 b hb,by rw[show({ s2 with heap:=s2.heap.push { cls:=.type "list",data:=.seq ([]:List Value).toArray } }:Shared).heap.objs.size=s2.heap.objs.size+1 from Y7 ..];exact Za (ltfp b hb)⟩) hn4 hk4
 have tn4:tn 0 h4:=T.keep _ _ _ st2 λb hb o e=>hk4 b o (J7 _ e)
 have loop:codeAny (model X.prog X.w) X.A (.compLoop (.ListComp elt [⟨tg,iter,ifs,0⟩] scope pos) 0 (.ref it) (.ref s2.heap.objs.size) (compEnvC scope cl ({ s2 with heap:=s2.heap.push { cls:=.type "list",data:=.seq ([]:List Value).toArray } }:Shared).heap.objs.size X.env))
   (compPost (model X.prog X.w) X.A X.xe (some (assign (.Name x0 pos') X.env)) (λ_ s'=>∃σ' H',Inv X pins σ' H' s'/\D.nx σ' H') (.ref s2.heap.objs.size) ({ s2 with heap:=s2.heap.push { cls:=.type "list",data:=.seq ([]:List Value).toArray } }:Shared).heap.objs.size) { s2 with heap:=h4,toks:=s2.toks+0 }:=by
  generalize hs3:({ s2 with heap:=s2.heap.push { cls:=.type "list",data:=.seq ([]:List Value).toArray } }:Shared)=s3 at *
  have sz3:s2.heap.objs.size<=s3.heap.objs.size:=by rw[<- hs3];show _<=(s2.heap.push _).objs.size;rw[Y7];exact W9 _
  have k23:∀b o,s2.heap.get? b=some o->s3.heap.get? b=some o:=λb o e=>by rw[<- hs3];exact J7 _ e
  have hos:s3.os=s2.os:=by rw[<- hs3]
  have stat:∀{H':Hp},(∀b∈fp,H' b=none)->∀b∈fp,FpOk (cxC X N scope cl s3 (upd H2 s2.heap.objs.size (.lst [])) fp) pins H' b:=λ{H'} hn b hb=>by
   obtain⟨a1,a2,a3,a4,a5,a6⟩:=f3 b hb;refine⟨hn b hb,Jq (Jt (ltfp b hb) sz3),λz=>?_,.inl hb,λx c e=>a5 x c (hcl x c e),a6⟩;rcases Jj.mp (I2.stkSub b z) with q|q
   ·exact a2 q
   ·exact a3 q
  have I4':Inv (cxC X N scope cl s3 (upd H2 s2.heap.objs.size (.lst [])) fp) pins (mf k caps σ) (upd H2 s2.heap.objs.size (.lst [])) { s2 with heap:=h4,toks:=s2.toks+0 }:=by subst hs3;exact I4
  refine kc (λn s'=>∃i σ' H',Inv (cxC X N scope cl s3 (upd H2 s2.heap.objs.size (.lst [])) fp) pins σ' H' s'/\tn i s'.heap/\(∀b∈fp,H' b=none)/\W i n σ' H') ?_ m0 ⟨0,_,_,I4',tn4,λb hb=>(f3 b hb).1,w0⟩;rintro n s5 ⟨i,σ5,H5,I5,st5,fr5,w5⟩;rcases turn i n σ5 H5 w5 with⟨stop,qn⟩|⟨go,Nn,hN,step⟩
  ·refine thn (T.done (cxC X N scope cl s3 (upd H2 s2.heap.objs.size (.lst [])) fp) rfl rfl rfl (.inl hX) i pins s5 σ5 H5 _ I5 (stat fr5) st5 stop) λr s6 zq=>?_;obtain⟨hr,I6⟩:=zq;subst hr;obtain⟨m6,hn6,_⟩:=I6.loc;have u1:Un (frs X.stack) fp H2 (upd H2 s2.heap.objs.size (.lst [])) s2.heap s3.heap:=Un.laid k23 (J9 _) hp;have u2:Un (frs X.stack) fp H2 H5 s2.heap s6.heap:=u1.trans I6.base;have neC:∀b o,s2.heap.get? b=some o->b≠s3.heap.objs.size:=λb o e=>Jq (Jt (Jh e) sz3);have hfree:H5 s3.heap.objs.size=none:=I6.free
   have IX:Inv X pins σ H5 s6:=by
    refine I2.call' (s':=s6) (ch:=fp) (by rw[<- hos];exact I6.os) ⟨λb o e n hb hx=>?_,λb o e n hb hx=>?_,u2.free,λb o e hx=>?_,u2.tups,u2.frzs,u2.tbls⟩ (λb ob e=>?_) I6.bare λb hb=>?_
    ·exact u2.keep b o e n hb hx
    ·obtain⟨sl,e1⟩:=u2.slot b o e n hb hx;exact⟨sl,e1⟩
    ·obtain⟨o',e1⟩:=u2.there b o e hx;exact⟨o',e1⟩
    ·exact I6.hok b ob e
    ·obtain⟨a1,a2,a3,a4,a5,a6⟩:=f2 b hb;exact⟨a4,a2,a5,a6⟩
   have lC:∀b o,s2.heap.get? b=some o->b≠s3.heap.objs.size:=neC;have nL:X.env.locals≠s3.heap.objs.size:=Jq (Jt I2.lt sz3)
   have nc:∀x c,X.env.cells.lookup x=some c->c≠s3.heap.objs.size:=λx c e=>by obtain⟨v,o,ho,_⟩:=I2.cell x c e;exact neC c o ho
   show wpAny _ X.A (assign (.Name x0 pos') X.env (.ref s2.heap.objs.size)) _ _ _;refine wpAny_assign_Name (pd IX hN hi0 hx0 (v:=.ref s2.heap.objs.size) rfl (λs8 I8 ⟨a,sa,ha⟩=>⟨m6,hn6.sameBut sa ?_,λh9 hs9=>⟨_,H5,?_,qn⟩⟩) hf0)
   ·rcases ha with ha|ha
    ·rw[ha];exact Ne.symm nL
    ·exact Ne.symm (nc _ _ ha)
   ·exact I8.turned (t':=s8.toks) (it:=s3.heap.objs.size) (λb o n e=>(hs9.2 b n).trans e) hfree (Ne.symm nL) (.inr (Y2 I2.sz sz3)) nc λp hp=>neC p.1 p.2 (I2.pin p hp).1
  ·refine thn (T.item (cxC X N scope cl s3 (upd H2 s2.heap.objs.size (.lst [])) fp) rfl rfl rfl (.inl hX) i pins s5 σ5 H5 _ I5 (stat fr5) st5 go) λr s6 zq=>?_;obtain⟨u,hr,h6⟩:=zq;subst hr;refine thn h6 λ_ s7 zq=>?_;obtain⟨x,H7,I7,r7,y7,st7,fr7⟩:=zq;have I7':=I7.pinned (stat fr7) (T.obj _ _ st7);refine noX (thn (hg cl s3 _ fp _ s7 σ5 H7 x u _ I7' r7 (step x H7 y7)) λ_ s8 zq=>?_);obtain⟨σ8,H8,I8,q8⟩:=zq;refine noX (thn (ht cl s3 _ fp _ s8 σ8 H8 _ I8 q8) λok s9 zq=>?_);obtain⟨H9,I9,q9⟩:=zq
   have again:∀{s':Shared}{σ':L2.St}{H':Hp},Inv (cxC X N scope cl s3 (upd H2 s2.heap.objs.size (.lst [])) fp) (pins++kZ fp s7.heap) σ' H' s'->Nn σ' H'->
     ∃m,m<n/\∃i σ' H',Inv (cxC X N scope cl s3 (upd H2 s2.heap.objs.size (.lst [])) fp) pins σ' H' s'/\tn i s'.heap/\(∀b∈fp,H' b=none)/\W i m σ' H':=λ{s' σ' H'} I' n'=>by
    obtain⟨m',hm,w'⟩:=hN σ' H' n';refine⟨m',hm,i+1,σ',H',I'.unpinned,T.keep _ _ _ st7 λb hb o e=>(I'.pin (b,o) (Y5 _ (Y5 _ (eT hb e)))).1,λb hb=>?_,w'⟩;obtain⟨o,e,d⟩:=T.obj _ _ st7 b hb;exact(I'.pin (b,o) (Y5 _ (Y5 _ (eT hb e)))).2.1
   cases ok with
   |false=>exact again I9 q9
   |true=>
    refine noX (thn (he cl s3 _ fp _ s9 σ8 H9 _ I9 q9) λy s10 zq=>?_);obtain⟨yv,H10,I10,r10,ys,hys,hlt,q10⟩:=zq;refine noX (thn (lh (X:=cxC X N scope cl s3 (upd H2 s2.heap.objs.size (.lst [])) fp) _ s10 σ8 H10 (.ref s2.heap.objs.size) [yv] _ [y] (λ_ H'=>Nn σ8 H') I10 rfl (.cons r10 .nil) ⟨_,ys,yv,rfl,rfl,hys,hlt,q10⟩) λ_ s11 zq=>?_);obtain⟨_,H11,I11,_,q11⟩:=zq;exact again I11 q11
 exact codeAny_compStart_list loop (T.self X.A 0 _ _ _ tn4 loop)
theorem w9{E:XK}{elt tg iter:Expr}{ifs:List Expr}{scope:Scope}{pos pos' spos:Pos}{N:List Str}{k i0:Nat}{x0:Str}{it:AM}{g:G}{mt:TM}{me:EM}(hN:X.N.Nodup)(hi0:X.N[i0]?=some x0)(hx0:Loc X.env.scope x0)(hX:X.calm=true)(hxe:∀e s,¬X.xe e s)(C:CompScope X N k caps scope)
  (hi:SI X E tg iter it) (hg:∀cl s0 H0 ex,SG (cxC X N scope cl s0 H0 ex) tg g) (ht:∀cl s0 H0 ex,SIf (cxC X N scope cl s0 H0 ex) E ifs mt) (he:∀cl s0 H0 ex,SE (cxC X N scope cl s0 H0 ex) E elt me)
  (hs:autoParam (∀x,foldedSetIterable iter X.env x=pure x) Au.h4._auto_1) (hsw:autoParam (swapsWith (.ListComp elt [⟨tg,iter,ifs,0⟩] scope pos) (some (.Name x0 pos')) spos.line X.env=pure true) Au.h0._auto_1) (hf0:autoParam (X.fn x0=true\/X.env.scope.names.lookup x0=some .local) Au.h7._auto_1):
  SS X E (.Assign [.Name x0 pos'] (.ListComp elt [⟨tg,iter,ifs,0⟩] scope pos) spos) (aT i0 (aU it k caps g mt me)):=⟨
 er (Cn hN hi0 hx0 hX hxe C hi.out (g:=uG X.K g) (λcl s0 H0 ex=>(hg cl s0 H0 ex).out) (tt:=uT X.K E mt) (λcl s0 H0 ex=>(ht cl s0 H0 ex).out) (te:=uE X.K E me) (λcl s0 H0 ex=>(he cl s0 H0 ex).out) hs hsw hf0) λD s H zq=>ex6 zq λw r S hr hS hp=>
  yI s H _ ⟨w,r,S,hr,hS,hp.bind hS λd S1 w1 H1 v x1 q1 s1 p1=>aF.ret (b:=FV.nx (s.set i0 (some v))) p1 ⟨_,rfl,(hr.ext x1).set i0 q1⟩ s1⟩⟩
noncomputable def dh(S:Sto):D->Option (List (KD×D))
 |.dic kvs=>some kvs
 |.ref n=>match S[n]? with
  |some (.dic kvs)=>some kvs
  |some (.fdic kvs)=>some kvs
  |_=>none
 |_=>none
noncomputable def fL(kvs:List (KD×D))(k:KD):Option D:=(kvs.find? λkv=>decide (kv.1=k)).map (·.2)
section
variable{K:PySem.W.Frag}{w:Wd}{H:Hp}{S:Sto}
theorem lF{d:D}{v:V}{kvs:List (KD×D)}(hS:RS K w H S)(q:RD K w H d v)(h:dh S d=some kvs):∃p us,v=.ref p/\Rd H p (.dK us)/\RDk K w H kvs us:=by
 unfold dh at h;split at h
 ·cases h;unfold RD at q;obtain⟨p,us,rfl,z,r⟩:=q;exact⟨p,us,rfl,.inl z.1,r⟩
 ·rename_i n;obtain⟨p,rfl,hp⟩:=q.refI;split at h
  ·rename_i e;cases h;obtain⟨p',hp',us,hv,r⟩:=hS.obj _ _ e;rw[hp]at hp';cases hp';exact⟨p,us,rfl,.inl hv,r⟩
  ·rename_i e;cases h;obtain⟨p',hp',o,us,hv,r⟩:=hS.obj _ _ e;rw[hp]at hp';cases hp';exact⟨p,us,rfl,.inr ⟨o,hv⟩,r⟩
  ·cases h
 ·cases h
theorem RDk.get(k:KD):∀{ds:List (KD×D)}{us:List (Key×V)},RDk K w H ds us->(∀d,fL ds k=some d->∃v,iq us k=some v/\RD K w H d v)/\(fL ds k=none->iq us k=none)
 |[],us,q=>by
  rw[q.nil_inv]
  exact⟨λd h=>(by cases h),λ_=>rfl⟩
 |(j,d)::ds,_,q=>by
  obtain⟨v,r,rfl,p,t⟩:=q.cons_inv;by_cases hj:j=k
  ·have e1:fL ((j,d)::ds) k=some d:=by unfold fL;rw[Zd];simp[hj]
   have e2:iq ((j,v)::r) k=some v:=by unfold iq;rw[Zd];simp[hj]
   rw[e1,e2]
   exact⟨λd' h=>by cases h;exact⟨v,rfl,p⟩,λh=>by cases h⟩
  ·have e1:fL ((j,d)::ds) k=fL ds k:=by unfold fL;rw[Zd];simp[hj]
   have e2:iq ((j,v)::r) k=iq r k:=by unfold iq;rw[Zd];simp[hj]
   rw[e1,e2];exact RDk.get k t
theorem RDk.getO{ds:List (KD×D)}{us:List (Key×V)}(q:RDk K w H ds us)(k:KD):(iq us k).isSome=(fL ds k).isSome:=by
 obtain⟨h1,h2⟩:=q.get k;cases e:fL ds k with
 |none=>rw[h2 e];rfl
 |some d=>obtain⟨v,hv,_⟩:=h1 d e;rw[hv];rfl
end
section
variable{X:Cx}{E:XK}
theorem Dl{f:Value->Value->Sem Value}{o o1 o2:Sto->D->D->Option D}(h1:OpR X f (xO X.K E o1))(h2:OpR X f (xO X.K E o2))(h:∀S x y,o S x y=o1 S x y\/o S x y=o2 S x y):OpR X f (xO X.K E o):=by
 rintro pins s σ H x y v u Q I rx ry ⟨w,S,d,e,hS,qd,qe,p⟩;rcases h S d e with z|z
 ·exact h1 pins s σ H x y v u Q I rx ry ⟨w,S,d,e,hS,qd,qe,z▸p⟩
 ·exact h2 pins s σ H x y v u Q I rx ry ⟨w,S,d,e,hS,qd,qe,z▸p⟩
theorem GN{o o1 o2:Sto->D->D->Option D}(h1:IxR X (xO X.K E o1))(h2:IxR X (xO X.K E o2))(h:∀S x y,o S x y=o1 S x y\/o S x y=o2 S x y):IxR X (xO X.K E o):=by
 rintro va sl pins s σ H x y v u Q I rx ry ⟨w,S,d,e,hS,qd,qe,p⟩ hsub;rcases h S d e with z|z
 ·exact h1 va sl pins s σ H x y v u Q I rx ry ⟨w,S,d,e,hS,qd,qe,z▸p⟩ hsub
 ·exact h2 va sl pins s σ H x y v u Q I rx ry ⟨w,S,d,e,hS,qd,qe,z▸p⟩ hsub
theorem Room.hu{k:Nat}{A:Around}(r:Room k A):A.units+1<cLine:=by have:=r.un;omega
noncomputable def vG(neg:Bool):Sto->D->D->Option D:=λS x y=>match dh S y,ju x with
 |some kvs,some k=>some (.bl (if neg then !(fL kvs k).isSome else (fL kvs k).isSome))
 |_,_=>none
noncomputable def lG(neg:Bool):Sto->D->D->Option D:=λS x y=>if (bu S y).isSome then oIn neg S x y else vG neg S x y
theorem EK{k:Nat}(hr:Room k X.A):OpR X (compareOp .In) (xO X.K E (vG false)):=by
 rintro pins s σ H x y v u Q I rx ry ⟨w,S,d,e,hS,qd,qe,p⟩;obtain⟨z,hz,p⟩:=p.of;unfold vG at hz;split at hz
 ·rename_i kvs k e1 e2;cases hz;obtain⟨pp,us,rfl,rd,rk⟩:=lF hS qe e1;cases ry;have ex:=iu qd e2;subst ex;refine Hl (Room.hu hr) I (.inl ⟨us,k,rd,rfl,rfl⟩) rx λs' I'=>⟨.bl _,H,I',rfl,?_⟩;rw[rk.getO k];exact p.ret RD.mkB hS
 ·cases hz
theorem yJ{k:Nat}(hr:Room k X.A):OpR X (compareOp .NotIn) (xO X.K E (vG true)):=by
 rintro pins s σ H x y v u Q I rx ry ⟨w,S,d,e,hS,qd,qe,p⟩;obtain⟨z,hz,p⟩:=p.of;unfold vG at hz;split at hz
 ·rename_i kvs k e1 e2;cases hz;obtain⟨pp,us,rfl,rd,rk⟩:=lF hS qe e1;cases ry;have ex:=iu qd e2;subst ex;refine B1 (Room.hu hr) I (.inl ⟨us,k,rd,rfl,rfl⟩) rx λs' I'=>⟨.bl _,H,I',rfl,?_⟩;rw[rk.getO k];exact p.ret RD.mkB hS
 ·cases hz
theorem EL{k:Nat}(hr:Room k X.A):OpR X (compareOp .In) (xO X.K E (lG false)):=Dl GK (EK hr) λS x y=>by
 unfold lG;cases (bu S y).isSome with
 |true=>exact .inl rfl
 |false=>exact .inr rfl
theorem yK{k:Nat}(hr:Room k X.A):OpR X (compareOp .NotIn) (xO X.K E (lG true)):=Dl nK (yJ hr) λS x y=>by
 unfold lG;cases (bu S y).isSome with
 |true=>exact .inl rfl
 |false=>exact .inr rfl
noncomputable def Co:Sto->D->D->Option D:=λS x y=>match dh S x,ju y with
 |some kvs,some k=>fL kvs k
 |_,_=>none
noncomputable def gn:Sto->D->D->Option D:=λS x y=>if (bu S x).isSome then oIx S x y else Co S x y
theorem EN{k:Nat}(hr:Room k X.A):IxR X (xO X.K E Co):=by
 rintro va sl pins s σ H x y v u Q I rx ry ⟨w,S,d,e,hS,qd,qe,p⟩ hsub;obtain⟨z,hz,p⟩:=p.of;unfold Co at hz;split at hz
 ·rename_i kvs k e1 e2;obtain⟨pp,us,rfl,rd,rk⟩:=lF hS qd e1;cases rx;have ey:=iu qe e2;subst ey;obtain⟨vv,hv,rv⟩:=(rk.get k).1 z hz;have g:vh H pp (kV k) (some vv):=.inl ⟨us,k,rd,rfl,hv.symm⟩;have hT:=sU I g;have h2:wpAny (model X.prog X.w) X.A (getItem (.ref pp) u) (EP X pins σ Q) X.xe s:=yu (Room.hu hr) I g ry λw' s' I' r'=>⟨vv,H,I',r',p.ret rv hS⟩;unfold subscriptTail;refine J6 ?_;rw[getitemInPython_of_ne hT.not_modules];refine J6 (wpAny_specialOf hT PySem.F.slot_dict_getitem.lookup ?_)
  have fin:wpAny (model X.prog X.w) X.A (subscripted sl false (.ref pp) u) (λr s₃=>wpAny (model X.prog X.w) X.A (letTemporaryGo va (.ref pp) r >>= λ_=>pure r) (EP X pins σ Q) X.xe s₃) X.xe s:=by rw[hsub];exact wpAny_operating (Zk h2 (λr s₃ h₃=>J6 (wpAny_letTemporaryGo (Jc h₃))) λ_ _ x=>x)
  first|exact Jc (J6 fin)|exact J6 (Jc (J6 fin))|exact J6 fin
 ·cases hz
theorem lH{k:Nat}(hr:Room k X.A):IxR X (xO X.K E gn):=GN cg (EN hr) λS x y=>by
 unfold gn;cases (bu S x).isSome with
 |true=>exact .inl rfl
 |false=>exact .inr rfl
noncomputable def tH:Sto->D->D->D->Option Sto
 |S,.ref n,y,v=>match S[n]? with
  |some (.dic kvs)=>match ju y with
   |some k=>if kvs.length<sizeLine then some (S.set n (.dic (putD kvs k v))) else none
   |none=>none
  |_=>none
 |_,_,_,_=>none
noncomputable def pN(S:Sto):D->Bool
 |.ref n=>match S[n]? with
  |some (.dic _)=>true
  |_=>false
 |_=>false
noncomputable def jD:Sto->D->D->D->Option Sto:=λS x y v=>if pN S x then tH S x y v else z6 S x y v
theorem Cp{k:Nat}(hr:Room k X.A):qH X (xS X.K tH):=by
 rintro pins s σ H o i v ov iv u Q I ro ri ru ⟨w,S,x,y,z,S',hS,qx,qy,qz,hf,kk⟩;unfold tH at hf;split at hf
 ·rename_i n;split at hf
  ·rename_i kvs hn;split at hf
   ·rename_i ky hk;split at hf
    ·rename_i hl;cases hf;obtain⟨pp,rfl,hp⟩:=qx.refI;cases ro;obtain⟨p',hp',us,hv,rk⟩:=hS.obj _ _ hn;rw[hp]at hp';cases hp';have ey:=iu qy hk;subst ey;have hm:pp∈w.st:=Z3 hp
     have hul:us.length<sizeLine:=by rw[rk.length];exact hl
     refine yw (Room.hu hr) I (B0.k hv hul) ri ru λs' I'=>⟨_,I',kk w _ (Ext.mut hm hv) (hS.mut hp hv ⟨_,aQ,?_⟩)⟩;exact RDk.ext (Ext.mut hm hv) _ _ (rk.put ky qz)
    ·cases hf
   ·cases hf
  ·cases hf
 ·cases hf
theorem GO{f f1 f2:Sto->D->D->D->Option Sto}(h1:qH X (xS X.K f1))(h2:qH X (xS X.K f2))(h:∀S x y v,f S x y v=f1 S x y v\/f S x y v=f2 S x y v):qH X (xS X.K f):=by
 rintro pins s σ H o i v ov iv u Q I ro ri ru ⟨w,S,x,y,z,S',hS,qx,qy,qz,hf,kk⟩;rcases h S x y z with e|e
 ·exact h1 pins s σ H o i v ov iv u Q I ro ri ru ⟨w,S,x,y,z,S',hS,qx,qy,qz,e▸hf,kk⟩
 ·exact h2 pins s σ H o i v ov iv u Q I ro ri ru ⟨w,S,x,y,z,S',hS,qx,qy,qz,e▸hf,kk⟩
theorem xa{k:Nat}(hr:Room k X.A):qH X (xS X.K jD):=GO (Cp hr) z8 λS x y v=>by
 unfold jD;cases pN S x with
 |true=>exact .inl rfl
 |false=>exact .inr rfl
noncomputable def fY(o a b:EM):EM:=λr S=>(o r S).bind λd S1=>if (dh S1 d).isSome=true then (a r S1).bind λy S2=>(b r S2).bind λz S3=>(match dh S3 d,ju y with
 |some kvs,some k=>R.ok ((fL kvs k).getD z) S3
 |_,_=>R.bad) else R.bad
theorem xb{o e f:Expr}{m:Str}{apos cpos:Pos}(h1:attributeBase o m X.env (eval o X.env)=eval o X.env)(h2:((backTo cpos (starEach [e,f] X.env)).all (λx=>!x.1)&&(backToKw cpos (keywordEach [] X.env)).all (λx=>x.1.isSome)
 && decide (([e,f]:List Expr).length+([]:List Keyword).length+(if ([]:List Keyword).isEmpty then 0 else 1)<30))=true) (h3:(apos.endLine == cpos.line)=true) (h4:backTo cpos (starEach [e,f] X.env)=[(false,eval e X.env),(false,eval f X.env)]):M2 X o m apos e f cpos:=⟨h1,h2,h3,h4⟩
theorem nh{o e f:Expr}{mo ma mb:EM}{apos cpos:Pos}{k:Nat}(hr:Room k X.A)(ho:SE X E o mo)(ha:SE X E e ma)(hb:SE X E f mb)(m:M2 X o "get" apos e f cpos):SE X E (.Call (.Attribute o "get" apos) [e,f] [] cpos) (fY mo ma mb):=⟨
 bq (zK (Room.hu hr) ho.out ha.out hb.out m) λs H Q zq=>ex6 zq λw r S hrr hS hp=>⟨w,r,S,hrr,hS,hp.bind hS λd S1 w1 H1 v x1 q1 s1 p1=>by
  cases hd:dh S1 d with
  |none=>rw[hd]at p1;exact p1.elim
  |some kvs=>
   rw[hd]at p1;obtain⟨pp,us,rfl,rd,rk⟩:=lF s1 q1 hd;refine⟨pp,rfl,.inl ⟨us,rd⟩,w1,r,S1,hrr.ext x1,s1,aF.bind (rel:=RD X.K) p1 s1 λy S2 w2 H2 vy x2 q2 s2 p2=>⟨w2,r,S2,(hrr.ext x1).ext x2,s2,aF.bind (rel:=RD X.K) p2 s2 λz S3 w3 H3 vz x3 q3 s3 p3=>?_⟩⟩;have q1':=RD.ext x3 _ _ (RD.ext x2 _ _ q1);have q2':=RD.ext x3 _ _ q2;cases hd3:dh S3 d with
   |none=>rw[hd3]at p3;exact p3.elim
   |some kvs3=>
    cases hk:ju y with
    |none=>rw[hd3,hk]at p3;exact p3.elim
    |some ky=>
     rw[hd3,hk]at p3;obtain⟨pp3,us3,e3,rd3,rk3⟩:=lF s3 q1' hd3;cases e3;have ey:=iu q2' hk;subst ey;refine⟨iq us3 ky,.inl ⟨us3,ky,rd3,rfl,rfl⟩,?_⟩;obtain⟨g1,g2⟩:=rk3.get ky;have p4:aF X.K E (RD X.K) w3 H3 (R.ok ((fL kvs3 ky).getD z) S3) Q:=p3;cases hg:fL kvs3 ky with
     |none=>rw[hg]at p4;rw[g2 hg];exact aF.ret p4 q3 s3
     |some dd=>rw[hg]at p4;obtain⟨vd,hv,rv⟩:=g1 dd hg;rw[hv];exact aF.ret p4 rv s3⟩⟩
end
end PD
namespace L2
open PySem PySem.Spec PyProof.Rows
variable{X:Cx}{s:Shared}
theorem tI{P:Program}{w:World}{k:Key}{u:Value}(h:(bh P w).is k u=true):RelV (kV k) u:=by
 rw[u6]at h;cases k with
 |inl i=>obtain⟨t,e⟩:=Value.isInt_shape (k:=i) (v:=u) h;exact⟨t,e⟩
 |inr x=>obtain⟨t,e⟩:=Value.isStrOf_shape (x:=x) (v:=u) h;exact⟨t,e⟩
theorem KV.getI{kvs:List (Key×V)}{vs:List (Key×Value)}(r:KV kvs vs){i:Nat}{k:Key}{x:V}(h:kvs[i]?=some (k,x)):∃v,vs[i]?=some (k,v)/\RelV x v:=by
 unfold KV at r
 induction r generalizing i with
 |nil=>simp at h
 |cons hd tl ih=>
  cases i with
  |zero=>
   simp at h;rename_i p q _ _;obtain⟨e,rv⟩:=hd;subst h
   exact⟨q.2,by simp;exact Prod.ext e.symm rfl,rv⟩
  |succ i=>simpa using ih (by simpa using h)
noncomputable def Iti(a:Addr)(o:Obj)(us:List (Key×V)):It:=
  ⟨λi H=>H a=some (.frz o (.dK us))/\∃kv,us[i]?=some kv,
   λi H v H'=>∃p k x,v=.ref p/\H p=none/\H'=upd H p (.tup [kV k,x])/\us[i]?=some (k,x),
   λi H=>H a=some (.frz o (.dK us))/\us.length<=i⟩
theorem rA{pins:List (Addr×Obj)}{σ:St}{H:Hp}{a:Addr}{o:Obj}{us:List (Key×V)}{es:Array DictEntry}{ep:Nat}(I:Inv X pins σ H s)(h:H a=some (.frz o (.dK us)))(ed:o.data=.dict es ep):
  ∃vs,KV us vs/\s.heap.DictAt (bh X.prog X.w) a vs ep/\(a == sysModules)=false:=by
 obtain⟨e,z,hd,vs,rel,⟨o',es',ep',ho,hx,hdat,k1,k2,k3⟩⟩:s.heap.get? a=some o/\bR X.prog X.w H s.heap a (.dK us):=I.hok a _ h;rw[e]at ho;cases ho;rw[ed]at hdat;cases hdat;exact⟨vs,rel,⟨o,es,e,hx,ed,k1,k2,k3⟩,hd⟩
theorem rB:entryFor table "dict_itemiterator.__iter__" = some Builtin.«dict_keyiterator.__iter__»:=
 entryFor_alias (id':="dict_keyiterator.__iter__") (by kernel_rfl) (by first|rfl|decide +kernel|(unfold String.splitOn;simp +decide [String.splitOnAux])) (by decide +kernel) (by kernel_rfl)
theorem tJ{prog:Program}{w:World}{A:Around}{E:Value->Shared->Prop}{it d:Addr}{i n ep:Nat}{ok ov:Value}{Q:Value->Shared->Prop}(hz:IsItemIter s.heap it d i n ep ok ov)(h:Q (.ref it) s):wpAny (model prog w) A (pyIter (.ref it)) Q E s:=by
 have hT:s.TypeIs (.ref it) "dict_itemiterator":=⟨_,hz,rfl⟩
 refine wpAny_pyIter_slot hT F.slot_dict_itemiterator_iter (Z4 F.slot_dict_itemiterator_iter hT rB ?_ (F.args_dict_itemiterator_iter_1 _));show wpAny _ _ (ret (.ref it)) _ _ s;exact Jc ⟨_,rfl,"dict_itemiterator",_,hT,F.slot_dict_itemiterator_next.lookup,h⟩
theorem vH{P:Program}{w:World}{K:PySem.W.Frag}{es:List Expr}{n:Nat}{pos:Pos}(it a:Addr)(o:Obj)(us:List (Key×V))(ee:Array DictEntry)(ep:Nat)(ed:o.data=.dict ee ep)(na:a≠it):
  Turn false P w K (.Tuple es n pos) (Iti a o us) [it] it (λi h=>∃ok ov,IsItemIter h it a i us.length ep ok ov) where
 mem:=by simp
 obj:=λi h ⟨ok,ov,st⟩ c hc=>by
  simp only[Jj,Y6,Zb]at hc;subst hc
  exact⟨_,st,λv z=>by cases z⟩
 keep:=λi h h' ⟨ok,ov,st⟩ q=>⟨ok,ov,q it (by simp) _ st⟩
 item:=by
  intro X hP hw hK hc i pins s σ H E I hf ⟨ok,ov,st⟩ hg;subst hP hw hK;obtain⟨ha,⟨k,x⟩,hx⟩:=hg;obtain⟨vs,rel,dd,_⟩:=rA I ha ed;obtain⟨v,hv,rv⟩:=rel.getI hx;have hl:=rel.length;rw[hl]at st
  have hlt:∀c∈[it],c<s.heap.objs.size:=λc hc=>by simp only[Jj,Y6,Zb]at hc;subst hc;exact Jh st
  refine wpAny_pyNext_items_item st dd hv λkey h' hk a1 a2 a3 a4=>⟨_,rfl,?_⟩
  refine wpAny_letOwnedTupleGo_items (s:={ s with heap:=h' }) a1 λh2' hz' hs'=>?_
  have up:∀c ob,c≠it->h'.get? c=some ob->h2'.get? c=some ob:=λc ob n q=>SQ.sb hs' n q
  refine⟨.ref s.heap.objs.size,_,I.turnedP (t':=s.toks) (h':=h2') hf hlt (tI hk) rv (λc ob hc q=>up c ob (λr=>hc (by simp[r])) (a4 c ob (λr=>hc (by simp[r])) q)) (up _ _ (Q7 (Jh st)) a2),rfl,
   ⟨_,k,x,rfl,I.fresh,rfl,hx⟩,⟨_,_,by rw[hl];exact hz'⟩,rq hf hlt⟩
 done:=by
  intro X hP hw hK hc i pins s σ H E I hf ⟨ok,ov,st⟩ hg;subst hP hw hK;obtain⟨ha,hx⟩:=hg;obtain⟨vs,rel,dd,_⟩:=rA I ha ed;have hl:=rel.length;rw[hl]at st
  exact wpAny_pyNext_items_end (I.ok.hd hc.cm) st dd (by simp;omega) λh' eb=>⟨rfl,I.turnedS (t':=s.toks) (λb ob hb q=>eb b ob (λr=>hb (by simp[r])) q) hf⟩
 self:=λ_ _ _ _ _ ⟨_,_,st⟩ h=>tJ st h
theorem Inv.freeze{pins:List (Addr×Obj)}{σ:St}{H:Hp}{a:Addr}{us:List (Key×V)}(I:Inv X pins σ H s)(h:H a=some (.dK us)):∃o,Inv X pins σ (upd H a (.frz o (.dK us))) s:=by
 obtain⟨z,hd,vs,rel,⟨o,es,ep,ho,r⟩⟩:bR X.prog X.w H s.heap a (.dK us):=I.hok a _ h
 have I2:Inv X pins σ (upd H a (.frz o (.dK us))) { s with heap:=s.heap,toks:=s.toks }:=I.write (x:=a) (e:=a) (by rw[h];exact True.intro) (.inl rfl) (λb u _ q=>q) ⟨o,ho⟩ ⟨ho,z,hd,vs,rel,⟨o,es,ep,ho,r⟩⟩
 exact⟨o,I2⟩
noncomputable def EO(td:TE):TI:=λσ H R=>td σ H λx H1=>∃a us,x=.ref a/\((H1 a=some (.dK us)/\∀o,R (Iti a o us) (upd H1 a (.frz o (.dK us)))) \/ ∃o,H1 a=some (.frz o (.dK us))/\R (Iti a o us) H1)
theorem Ah{es:List Expr}{n:Nat}{tp:Pos}{d:Expr}{td:TE}{apos pos:Pos}(hd:PE X d td)(hbase:autoParam (attributeBase d "items" X.env (eval d X.env)=eval d X.env) Au.h0._auto_1)(hline:autoParam ((apos.endLine == pos.line)=true) Au.h0._auto_1)
  (hfew:autoParam (((backTo pos (starEach [] X.env)).all (λx=>!x.1)&&(backToKw pos (keywordEach [] X.env)).all (λx=>x.1.isSome)&&decide (([]:List Expr).length+([]:List Keyword).length+(if ([]:List Keyword).isEmpty then 0 else 1)<30))=true) Au.h0._auto_1):
  PI X (.Tuple es n tp) (.Call (.Attribute d "items" apos) [] [] pos) (EO td):=by
 intro pins s σ H R I h;refine wpAny_Call_method (T:="dict") (id:="dict.items") hbase hfew hline F.plainAttrs_dict F.slot_dict_items F.type_dict_items (thn (hd pins s σ H _ I h) λu s1 zq=>?_)
 obtain⟨x,H1,I1,rx,a,us,ex,q1⟩:=zq;subst ex;obtain rfl:u=Value.ref a:=rx
 have main:∀(H2:Hp)(o:Obj),Inv X pins σ H2 s1->H2 a=some (.frz o (.dK us))->R (Iti a o us) H2->s1.TypeIs (.ref a) "dict"/\(∀b,Value.ref a=.ref b->∃ob,s1.heap.get? b=some ob/\ob.dict=none)/\
   wpAny (model X.prog X.w) X.A (callWith pos (.builtin "dict.items") [.ref a] (backTo pos (starEach [] X.env)) []) (λv s2=>wpAny (model X.prog X.w) X.A (pyIter v) (PIE X pins σ (.Tuple es n tp) R) X.xe s2) X.xe s1:=λH2 o I2 hH2 q=>by
  obtain⟨t1,t2,t3⟩:=zJ I2 (a:=a) (.inl ⟨us,.inr ⟨o,hH2⟩⟩);refine⟨t1,t2,?_⟩;obtain⟨eo,z,hdd,vs,rel,⟨o',ee,ep,ho,hx,hdat,k1,k2,k3⟩⟩:s1.heap.get? a=some o/\bR X.prog X.w H2 s1.heap a (.dK us):=I2.hok a _ hH2;rw[eo]at ho;cases ho;have dat:s1.heap.DictAt (bh X.prog X.w) a vs ep:=⟨o,ee,eo,hx,hdat,k1,k2,k3⟩;show wpAny _ _ (callWith pos (.builtin "dict.items") [.ref a] [] []) _ _ s1
  refine method_meetsIn F.slot_dict_items F.entry_dict_items rfl (PySem.evalArgs_none ⟨rfl,t1,F.args_dict_items_1 _,_,meets_dict_items (bh X.prog X.w) a t3,⟨vs,dat.dictOf⟩,?_⟩)
  have I3:Inv X pins σ H2 { s1 with heap:=s1.heap.push { cls:=.type "dict_items",data:=.fields #[.ref a] } }:=I2.kept (t':=s1.toks) λb u e=>J7 _ e
  refine wpAny_pyIter_items (s:={ s1 with heap:=s1.heap.push { cls:=.type "dict_items",data:=.fields #[.ref a] } }) ⟨_,Ji _ rfl,rfl,rfl⟩ (dat.push _) ?_
  have hl:=rel.length;have la:a<s1.heap.objs.size:=Jh eo
  have sz:({ s1 with heap:=s1.heap.push { cls:=.type "dict_items",data:=.fields #[.ref a] } }:Shared).heap.objs.size=s1.heap.objs.size+1:=Y7 ..
  refine⟨_,[_],_,_,H2,rfl,I3.kept (t':=s1.toks) λb u e=>J7 _ e,vH _ a o us ee ep hdat (by rw[sz];exact Jq (Za la)),⟨.none,.none,by rw[hl];exact Ji _ rfl⟩,λc hc=>?_,q⟩
  have ec:c=({ s1 with heap:=s1.heap.push { cls:=.type "dict_items",data:=.fields #[.ref a] } }:Shared).heap.objs.size:=by simpa using hc
  subst ec;exact I3.fpOk (J9 _) (I3.hok.fresh (J9 _))
 rcases q1 with⟨hH,q⟩|⟨o,hH,q⟩
 ·obtain⟨o,I2⟩:=I1.freeze hH;exact main _ o I2 aQ (q o)
 ·exact main _ o I1 hH q
end L2
namespace PD
open PySem PySem.Spec PyProof.Rows L2
variable{w:Wd}{H:Hp}
noncomputable def kD:KD->D
 |.inl i=>.int i
 |.inr x=>.str x
noncomputable def pairD(kv:KD×D):D:=.tup [kD kv.1,kv.2]
noncomputable def eE(m:EM):AM:=λr S=>(m r S).bind λd S1=>match d with
 |.ref n=>match S1[n]? with
  |some (.dic kvs)=>.ok (kvs.map pairD) (S1.set n (.fdic kvs))
  |some (.fdic kvs)=>.ok (kvs.map pairD) S1
  |_=>.bad
 |_=>.bad
theorem RDk.getI{K:PySem.W.Frag}:∀{ds:List (KD×D)}{us:List (Key×V)}{i:Nat}{k:KD}{d:D},RDk K w H ds us->ds[i]?=some (k,d)->∃v,us[i]?=some (k,v)/\RD K w H d v
 |[],_,_,_,_,_,h=>by simp at h
 |(j,e)::ds,_,i,k,d,q,h=>by
  obtain⟨v,r,rfl,p,t⟩:=q.cons_inv;cases i with
  |zero=>simp at h;obtain⟨rfl,rfl⟩:=h;exact⟨v,by simp,p⟩
  |succ i=>simpa using RDk.getI t (by simpa using h)
theorem ER{K:PySem.W.Frag}(k:KD):RD K w H (kD k) (kV k):=by
 cases k with
 |inl i=>unfold kD RD;rfl
 |inr x=>unfold kD RD;rfl
theorem tK{K:PySem.W.Frag}{a:Addr}{o:Obj}{kvs:List (KD×D)}{us:List (Key×V)}(hst:∀w' H',Ext w H w' H'->H' a=some (.frz o (.dK us)))(rk:RDk K w H kvs us):RI K w H (kvs.map pairD) (Iti a o us):=by
 intro i w' H' x';have rk':=RDk.ext x' _ _ rk;have hl:=rk.length;have ha:=hst w' H' x'
 refine⟨λhi=>?_,λhi=>⟨ha,by rw[Jg]at hi;omega⟩⟩
 rw[Jg]at hi
 refine⟨⟨ha,us[i]'(by omega),Jd _⟩,λv H'' y=>?_⟩
 obtain⟨p,k,x,rfl,hp,rfl,hx⟩:=y
 obtain⟨v2,e2,r2⟩:=rk'.getI (i:=i) (k:=kvs[i].1) (d:=kvs[i].2) (by rw[Jd hi])
 rw[hx]at e2;cases e2
 refine⟨.inr ⟨p,_,hp,rfl⟩,λS hS=>⟨pairD kvs[i],by simp[hi],?_⟩⟩
 unfold pairD RD;refine⟨p,[kV kvs[i].1,x],rfl,.inl ⟨aQ,hS.fresh hp⟩,?_⟩;unfold RDs RDs RDs;exact⟨_,_,rfl,ER _,_,_,rfl,RD.ext (Ext.new hp) _ _ r2,rfl⟩
section
variable{X:Cx}{E:XK}
theorem km{es:List Expr}{n:Nat}{tp:Pos}{d:Expr}{md:EM}{apos pos:Pos}(ha:SE X E d md)(hbase:autoParam (attributeBase d "items" X.env (eval d X.env)=eval d X.env) Au.h0._auto_1)(hline:autoParam ((apos.endLine == pos.line)=true) Au.h0._auto_1)
  (hfew:autoParam (((backTo pos (starEach [] X.env)).all (λx=>!x.1)&&(backToKw pos (keywordEach [] X.env)).all (λx=>x.1.isSome)&&decide (([]:List Expr).length+([]:List Keyword).length+(if ([]:List Keyword).isEmpty then 0 else 1)<30))=true) Au.h0._auto_1):
  SI X E (.Tuple es n tp) (.Call (.Attribute d "items" apos) [] [] pos) (eE md):=⟨
 fI (Ah ha.out hbase hline hfew) λs H Q zq=>ex6 zq λw r S hr hS hp=>⟨w,r,S,hr,hS,hp.bind hS λd S1 w1 H1 v x1 q1 s1 p1=>by
  cases d with
  |ref m=>
   obtain⟨pp,rfl,hp⟩:=q1.refI;have hm:pp∈w1.st:=Z3 hp;cases e:S1[m]? with
   |none=>simp only[e]at p1;exact p1.elim
   |some ob=>
    obtain⟨p',hp',ro⟩:=s1.obj _ _ e;rw[hp]at hp';cases hp';cases ob with
    |dic kvs=>
     simp only[e]at p1;obtain⟨us,hv,rk⟩:=ro;refine⟨pp,us,rfl,.inl ⟨hv,λo=>?_⟩⟩;have rk':=RDk.ext (Ext.mut hm hv (o:=.frz o (.dK us))) _ _ rk;exact aF.at p1 (Ext.mut hm hv) (tK (λw' H' x'=>x'.frz _ _ _ aQ) rk') (s1.mut hp hv ⟨o,us,aQ,rk'⟩)
    |fdic kvs=>
     simp only[e]at p1;obtain⟨o,us,hv,rk⟩:=ro;exact⟨pp,us,rfl,.inr ⟨o,hv,aF.ret p1 (tK (λw' H' x'=>x'.frz _ _ _ hv) rk) s1⟩⟩
    |lst xs=>simp only[e]at p1;exact p1.elim
    |ins c fs=>simp only[e]at p1;exact p1.elim
    |flst xs=>simp only[e]at p1;exact p1.elim
  |_=>exact p1.elim⟩⟩
end
def TupAt(K:PySem.W.Frag)(mg:Str->Option Value)(x:Str)(is:List Int):Prop:=∃a,mg x=some (.ref a)/\sW K a (is.map .int)
section
variable{X:Cx}{E:XK}
theorem rdi{K:PySem.W.Frag}:∀is:List Int,RDs K w H (is.map .int) (is.map .int)
 |[]=>.nil
 |i::is=>.cons (by unfold RD;rfl) (rdi is)
theorem pO{x:Str}{is:List Int}{pos:Pos}(h:TupAt X.K X.mg x is)(hg:Gl X x)(hd:autoParam ((x == ("__debug__":Str))=false) Au.h3._auto_1):SE X E (.Name x pos) (eC (.tup (is.map .int))):=by
 obtain⟨a,hm,k⟩:=h
 exact yz (wG hg hm (v:=.ref a) rfl hd) λ_ _=>by unfold RD;exact⟨a,_,rfl,.inr k,rdi is⟩
end
theorem Cq{K:PySem.W.Frag}{h:Heap}{mg:Str->Option Value}(X:K.In h)(G:h.Ns mainGlobals mg){x:Str}{a:Addr}{od:Option Addr}{n:Nat}{sl:Array (Option Value)}{i j:Int}{t1 t2:Tok}(hn:PySem.W.nsIn K mainGlobals x=some (some (.ref a)))(hl:K.lookup a=some ⟨.type "tuple",od,.seq #[.int i t1,.int j t2] n,sl⟩):TupAt K mg x [i,j]:=
 ⟨a,Jo X G hn,_,_,n,hl,rfl,rfl,by show 2<=sizeLine;decide,.cons ⟨t1,rfl⟩ (.cons ⟨t2,rfl⟩ .nil)⟩
section
variable{K:PySem.W.Frag}{w:Wd}{H:Hp}
theorem Mv.adopt{p:Addr}{o:HO}(hh:p∈w.hid):Mv w H ((w.unhide p).add p) (upd H p o):=
  ⟨λn a h=>by
      show(w.st++[p])[n]?=some a
      rw[Jv (Ja.mp h).1];exact h,
   λa u h=>⟨by rw[aN (λz:a=p=>h.2.2 (z▸hh))];exact h.1,λz=>by
      rcases Jr.mp z with z|z
      · exact h.2.1 z
      · exact h.2.2 (by rw[Ju.mp z];exact hh),λz=>h.2.2 (Wd.mem_unhide z).1⟩⟩
theorem RS.adopt{p:Addr}{o:HO}{so:SO}{S:Sto}(s:RS K w H S)(hh:p∈w.hid)(r:RO K ((w.unhide p).add p) (upd H p o) p so):RS K ((w.unhide p).add p) (upd H p o) (S++[so]):=by
 have np:=(s.hid p hh).1
 refine⟨?_,by simp[Wd.add,Wd.unhide,s.len],λn so' e=>?_,λa ha=>?_⟩
 ·show(w.st++[p]).Nodup;rw[Ue]
  exact⟨s.nd,by simp,λa ha b hb=>by
   have:b=p:=by simpa using hb
   subst this;rintro rfl
   exact np ha⟩
 ·by_cases hn:n<S.length
  ·rw[Jv hn]at e;obtain⟨a,ha,q⟩:=s.obj n so' e;have ne:a≠p:=λz=>np (z▸Z3 ha)
   exact⟨a,(Mv.adopt (H:=H) (o:=o) hh).st n a ha,q.mv (Mv.adopt hh) λu z=>by rw[aN ne];exact z⟩
  ·have hn':n=S.length:=by have:=(Ja.mp e).1;simp at this;omega
   subst hn';simp at e;subst e
   exact⟨p,by show(w.st++[p])[S.length]?=some p;rw[<- s.len];simp,r⟩
 ·obtain⟨h1,h2⟩:=Wd.mem_unhide ha;obtain⟨h3,u,e⟩:=s.hid a h1
  refine⟨?_,u,by rw[aN h2];exact e⟩
  show a∉w.st++[p];intro z;rcases Jr.mp z with z|z
  ·exact h3 z
  ·exact h2 (by simpa using z)
end
section
variable{X:Cx}{E:XK}{pos:Pos}
theorem rC{keys:List (Option Expr)}{values:List Expr}{ms:List (EM×EM)}(h:SPs X E pos keys values ms)(hall:autoParam (keys.all (·.isSome)=true) Au.h0._auto_1)(hl:autoParam (keys.length=values.length) Au.h0._auto_1)(h0:keys≠[]:=by intro z;cases z)(h15:autoParam (keys.length<=15) Au.h3._auto_1):
  SE X E (.Dict keys values pos) (nM ms):=⟨
 bq (B4 h.out hall hl h0 h15) λs H Q q=>yD (keys:=keys) (values:=values) (m:=nM ms) (fin:=λkvs S1=>R.ok (D.ref S1.length) (S1++[SO.dic (ir [] kvs)])) (λr S=>rfl) (λkvs us w0 w H0 H S0 S p hp s0 s x hh rk p1=>by
  have hpn:=(s.hid p hh).1
  refine aF.at p1 (w1:=(w.unhide p).add p) ⟨λa o h n=>by rw[aN (aS h hp)];exact x.keep a o h n,?_,λa h=>Yq.mpr ⟨x.hid a h,Jx λz=>(s0.fresh hp).2 (z▸h)⟩,λa h=>x.hnew a (Wd.mem_unhide h).1,λa o u h=>by rw[aN (aS h hp)];exact x.frz a o u h⟩ ?_ (s.adopt hh ⟨_,aQ,RDk.mv (Mv.adopt hh) _ _ rk⟩)
  ·obtain⟨l,e,f⟩:=x.sub
   exact⟨l++[p],by show w.st++[p]=_;rw[e,Ye],λa ha=>(Jr.mp ha).elim (f a) λz=>by rw[Ju.mp z];exact hp⟩
  ·unfold RD
   exact⟨p,rfl,by show(w.st++[p])[S.length]?=some p;rw[<- s.len];simp⟩) q⟩
noncomputable def Ai:EM:=λ_ S=>.ok (.ref S.length) (S++[.dic []])
theorem xc:SE X E (.Dict [] [] pos) Ai:=⟨
 bq zH λs H Q zq=>ex6 zq λw r S hr hS hp=>λp hpn=>aF.at hp (Ext.alloc hpn) hS.lastRef (hS.alloc hpn ⟨[],aQ,RDk.nil⟩)⟩
end
noncomputable def eR:Int->List Int->Int
 |m,[]=>m
 |m,x::r=>eR (if x<m then x else m) r
theorem ni:∀(l:List Int)(m:Int),(eR m l<=m/\∀x∈l,eR m l<=x)/\(eR m l=m\/eR m l∈l)
 |[],m=>⟨⟨Z6 _,λx h=>nomatch h⟩,.inl rfl⟩
 |x::r,m=>by
  obtain⟨⟨h1,h2⟩,h3⟩:=ni r (if x<m then x else m)
  show(eR (if x<m then x else m) r<=m/\∀y∈x::r,eR (if x<m then x else m) r<=y)/\(eR (if x<m then x else m) r=m\/eR (if x<m then x else m) r∈x::r)
  generalize eR (if x<m then x else m) r=z at *
  by_cases hx:x<m
  ·rw[J8 hx]at h1 h3
   refine⟨⟨by omega,λy hy=>?_⟩,.inr ?_⟩
   ·rcases Jj.mp hy with e|hy
    ·rw[e];exact h1
    ·exact h2 y hy
   ·rcases h3 with e|h3
    ·rw[e];exact .head _
    ·exact .tail _ h3
  ·rw[Jb hx]at h1 h3;refine⟨⟨h1,λy hy=>?_⟩,?_⟩
   ·rcases Jj.mp hy with e|hy
    ·rw[e];omega
    ·exact h2 y hy
   ·rcases h3 with e|h3
    ·exact .inl e
    ·exact .inr (.tail _ h3)
noncomputable def kn(S:Sto):D->Option (List D)
 |.lst a=>some a
 |.ref n=>match S[n]? with
  |some (.lst a)=>some a
  |_=>none
 |_=>none
noncomputable def tL:Sto->List D->Option D
 |S,[d]=>match kn S d with
  |some a=>match intsOf a with
   |some (n::ns)=>some (.int (eR n ns))
   |_=>none
  |none=>none
 |_,_=>none
noncomputable def tM:Sto->List D->Option D:=λS ds=>if ds.length=1 then tL S ds else yB S ds
section
variable{X:Cx}{E:XK}
theorem oU{prog:Program}{w:World}{A:Around}{Ex:Value->Shared->Prop}{s:Shared}{l:Addr}{vs:List Value}{ns:List Int}{Q:Value->Shared->Prop}(hh:A.handled=none)(hl:s.heap.IsList l vs.toArray)(hi:IntsAre vs ns)(hne:0<ns.length)
  (h:∀h' M (t:Tok) tk,(∀b o,s.heap.get? b=some o->h'.get? b=some o)->M∈ns->(∀a,a∈ns->M<=a)->Q (.int M t) { s with heap:=h',toks:=tk }):wpAny (model prog w) A (call (.builtin "min") [.ref l]) Q Ex s:=by
 obtain⟨xs,e⟩:=hi.allInts.items
 have hns:ns=xs.toList.map (·.1):=(by rw[<- hi.numsOf,<- nums_intItems,<- e])
 have hsz:0<xs.size:=(by have h3:=hne;rw[hns,Jg,Jy]at h3;exact h3)
 rw[e]at hl;refine min_intList hh hl hsz λv h' tk hv hk=>?_;obtain⟨t,rfl⟩:=intItems_at hv;obtain⟨h1,h2⟩:=argBest_lt (numAt xs) (xs.size-1);refine h _ _ t tk hk ?_ λa ha=>?_
 ·rw[hns,numAt_eq];exact getD_mem (by rw[Jg,Jy];omega)
 ·rw[hns]at ha;obtain⟨j,hj,rfl⟩:=mem_getD ha;rw[Jg,Jy]at hj;rw[<- numAt_eq];exact h2 j (by omega)
theorem rD{K:PySem.W.Frag}{S:Sto}{d:D}{v:V}{a:List D}(s:RS K w H S)(q:RD K w H d v)(h:kn S d=some a):∃p vs,v=.ref p/\SqL K H p vs/\RDs K w H a vs:=by
 unfold kn at h;split at h
 ·cases h;obtain⟨p,vs,e,z,r⟩:=q.lstI;exact⟨p,vs,e,SqL.of z.1,r⟩
 ·rename_i n;split at h
  ·rename_i e;cases h;obtain⟨p,rfl,hp⟩:=q.refI;obtain⟨p',hp',vs,hv,r⟩:=s.obj _ _ e;rw[hp]at hp';cases hp';exact⟨p,vs,rfl,SqL.of hv,r⟩
  ·cases h
 ·cases h
theorem Cr(hc:X.calm=true):bF X (.builtin "min") (xC X.K E tL):=by
 rintro pins s σ H xs us Q I r ⟨w,S,ds,hS,qs,p⟩;obtain⟨z,hz,p'⟩:=p.of;clear p;unfold tL at hz;split at hz
 ·rename_i d;obtain⟨v,rfl,q⟩:=qs.one_inv;split at hz
  ·rename_i a ha;split at hz
   ·rename_i n ns hns;cases hz;obtain⟨pa,vs,rfl,sq,ra⟩:=rD hS q ha;obtain⟨u,rfl,rx⟩:=Wc r;cases rx;obtain⟨its,r',pl,hz⟩:=I.list sq
    refine oU (I.ok.hd hc) pl.isList (gZ ra r' hns) (by simp) λh' M t tk hk h1 h2=>?_
    have eM:M=eR n ns:=by
     obtain⟨⟨a1,a2⟩,a3⟩:=ni ns n
     have b1:=h2 (eR n ns) (by rcases a3 with e|h;rw[e];exact .head _;exact .tail _ h)
     have b2:eR n ns<=M:=by
      rcases Jj.mp h1 with e|h
      ·rw[e];exact a1
      ·exact a2 M h
     omega
    subst eM
    exact⟨.int _,H,I.kept (t':=tk) hk,⟨t,rfl⟩,p'.ret (by unfold RD;rfl) hS⟩
   ·cases hz
  ·cases hz
 ·cases hz
theorem Dm{f:Value}{g g1 g2:Sto->List D->Option D}(h1:bF X f (xC X.K E g1))(h2:bF X f (xC X.K E g2))(h:∀S ds,g S ds=g1 S ds\/g S ds=g2 S ds):bF X f (xC X.K E g):=by
 rintro pins s σ H xs us Q I r ⟨w,S,ds,hS,qs,p⟩;rcases h S ds with z|z
 ·exact h1 pins s σ H xs us Q I r ⟨w,S,ds,hS,qs,z▸p⟩
 ·exact h2 pins s σ H xs us Q I r ⟨w,S,ds,hS,qs,z▸p⟩
theorem xf(hc:X.calm=true):bF X (.builtin "min") (xC X.K E tM):=Dm (Cr hc) (zX hc) λS ds=>by
 unfold tM;split
 ·exact .inl rfl
 ·exact .inr rfl
end
end PD
namespace PD
open PySem PySem.Spec PyProof.Rows L2
open AutoSeq1 (wpAny_loadPart')
open MeetsSeq MeetsSeq2 MeetsSeq3 SeqRoads2 PySem.SeqAt
variable{xs ys:List Int}
noncomputable def ltZ:List Int->List Int->Bool
 |[],[]=>false
 |[],_::_=>true
 |_::_,[]=>false
 |x::xs,y::ys=>if x=y then ltZ xs ys else decide (x<y)
theorem ltZ_eq{x y:Int}(h:x=y):ltZ (x::xs) (y::ys)=ltZ xs ys:=J8 h
theorem gN{x y:Int}(h:¬x=y):ltZ (x::xs) (y::ys)=decide (x<y):=Jb h
theorem xg{A:Around}{s:Shared}{a b:Int}{t u:Tok}(prog:Program)(w:World){E:Value->Shared->Prop}{Q:Value->Shared->Prop}(h:Q (.bool (decide (a<b))) s):wpAny (model prog w) A (richCompare .Lt (.int a t) (.int b u)) Q E s:=
 richCompare_gives (op:=.Lt) (V7 s _ t) (V7 s _ u) F.slot_int_lt F.entry_int_lt (F.args_int_lt_2 _ _) (gives_int_lt _ _ t u) (λx=>nomatch x) h
theorem rE(l b:Addr)(items items2:Array Value)(n n2:Nat)(dd dd2:Option Addr)(sl sl2:Array (Option Value))(hx:IntsAre items.toList xs)(hy:IntsAre items2.toList ys):
  Meets (Builtin.«tuple.__lt__» ⟨[.ref l,.ref b],[]⟩)
   (λA R s=>s.heap.get? l=some { cls:=.type "tuple",dict:=dd,data:=.seq items n,slots:=sl }/\s.heap.get? b=some { cls:=.type "tuple",dict:=dd2,data:=.seq items2 n2,slots:=sl2 }/\
    R (.ok (.ret (.bool (ltZ xs ys)))) s):=
 .of_wp λprog w A R s h=>by
  obtain⟨hp,g,d,tk,os⟩:=s;obtain⟨hl,hb,h⟩:=h;have f2:=AutoSeq1.sub_tuple_tuple
  wp_walk using wpAny_loadPart' hl,wpAny_loadPart' hb,wpAny_forIn_list _ (λrest b s'=>b.1=none/\s'=⟨hp,g,d,tk,os⟩/\∃(as bs:List Value)(xs ys:List Int),rest=as.zip bs/\IntsAre as xs/\IntsAre bs ys/\as.length+items2.size=bs.length+items.size/\
   R (.ok (.ret (.bool (ltZ xs ys)))) ⟨hp,g,d,tk,os⟩) _
  case turn=>
   rintro⟨y,x⟩ rest b s' ⟨hb',rfl,as,bs,xs,ys,hz,h1,h2,hlen,hR⟩;cases h1 with
   |nil=>cases hz
   |cons a t h1=>
    cases h2 with
    |nil=>cases hz
    |cons c u h2=>
     cases hz;refine J6 (EqAt.int_int a t c u prog w _ _ ?_);by_cases hac:a=c
     ·have e:(a == c)=true:=by simp[hac]
      rw[e]
      wp_walk
      refine⟨rfl,rfl,_,_,_,_,rfl,h1,h2,by simp only[Jm]at hlen;omega,?_⟩
      rw[ltZ_eq hac]at hR;exact hR
     ·have e:(a == c)=false:=by simp[hac]
      rw[gN hac]at hR;rw[e];simp only[Bool.not_false,Yd];refine J6 (Yv ?_);refine J6 (xg prog w ?_)
      wp_walk
      exact⟨_,rfl,hR⟩
  case fin=>
   rintro⟨b1,b2⟩ s' ⟨hb',rfl,as,bs,xs,ys,hz,h1,h2,hlen,hR⟩;simp only at hb';subst hb'
   have e:ltZ xs ys=decide (items.size<items2.size):=by
    cases h1 with
    |nil=>
     cases h2 with
     |nil=>simp only[Yi]at hlen;unfold ltZ;exact(Jz (by omega)).symm
     |cons c u h2=>simp only[Yi,Jm]at hlen;unfold ltZ;exact(Jx (by omega)).symm
    |cons a t h1=>
     cases h2 with
     |nil=>simp only[Yi,Jm]at hlen;unfold ltZ;exact(Jz (by omega)).symm
     |cons c u h2=>cases hz
   rw[e]at hR
   wp_walk
   exact⟨_,rfl,by simpa[Builtin.Tuple.tupleCompareSizes] using hR⟩
  case h=>
   exact⟨rfl,rfl,_,_,_,_,rfl,hx,hy,by simp[Uj],h⟩
theorem xh{A:Around}{s:Shared}{l b:Addr}{items items2:Array Value}(hl:s.heap.IsTuple l items)(hb:s.heap.IsTuple b items2)(hx:IntsAre items.toList xs)(hy:IntsAre items2.toList ys)(hu:A.units<cLine)(prog:Program)(w:World){E:Value->Shared->Prop}{Q:Value->Shared->Prop}
  (h:Q (.bool (ltZ xs ys)) s):wpAny (model prog w) A (richCompare .Lt (.ref l) (.ref b)) Q E s:=by
 obtain⟨⟨cls,dd,data,sl⟩,ho,hc,n,hd⟩:=id hl;obtain⟨⟨cls2,dd2,data2,sl2⟩,ho2,hc2,n2,hd2⟩:=id hb;simp only at hc hd hc2 hd2;subst hc hd hc2 hd2;exact richCompare_meets_room (op:=.Lt) ⟨_,ho,rfl⟩ ⟨_,ho2,rfl⟩ F.slot_tuple_lt F.entry_tuple_lt (F.args_tuple_lt_2 _ _) (rE l b items items2 n n2 dd dd2 sl sl2 hx hy)
  ⟨ho,ho2,show Value.bool (ltZ xs ys)≠Value.notImplemented/\Q (.bool (ltZ xs ys)) s from ⟨(λx=>nomatch x),h⟩⟩ hu
end PD
namespace PD
open PySem PySem.Spec PyProof.Rows L2
def yL(prog:Program)(w:World)(A:Around)(h0:Heap)(P:Nat->Value->Prop)(bt:Nat->Nat->Bool):Prop:=
 ∀(i j:Nat)(vi vj:Value)(s:Shared)(Q:Value->Shared->Prop)(E:Value->Shared->Prop),(∀b o,h0.get? b=some o->s.heap.get? b=some o)->P i vi->P j vj->Q (.bool (bt i j)) s->wpAny (model prog w) A (richCompare .Lt vi vj) Q E s
noncomputable abbrev Aj(vs:Array Value)(c:Nat):Obj:={ cls:=.type "list",dict:=none,data:=.seq vs c,slots:=#[] }
section
variable{prog:Program}{w:World}{A:Around}{R:Result->Shared->Prop}{I:Addr}{fp wr:List Addr}{n:Nat}{P:Nat->Value->Prop}{St:Nat->Heap->Prop}{h0:Heap}{bt:Nat->Nat->Bool}{S:Addr}{kw:List (Str×Value)}
theorem yM(W:Walks prog w A.in1 I fp wr n P St)(hcmp:yL prog w A.in1 h0 P bt)(hSf:S∉fp)(hw:∀b∈wr,h0.get? b=none)(hS0:h0.get? S=none):
  ∀(k j:Nat)(s:Shared)(vb:Value)(c:Nat),n-(j+1)=k->j+1<=n->St (j+1) s.heap->P (argBest bt j) vb->s.heap.get? S=some (Aj #[vb,vb] c)->(∀b o,h0.get? b=some o->s.heap.get? b=some o)->
  (∀v h' tk,P (argBest bt (n-1)) v->(∀b o,h0.get? b=some o->h'.get? b=some o)->R (.ok (.ret v)) { s with heap:=h',toks:=tk })->
  codeAny (model prog w) A (.builtin "min.loop" ⟨[.ref I,.none,.ref S],kw⟩) R s:=by
 have hSw:S∉wr:=λh=>hSf (W.sub _ h)
 have nw:∀{b:Addr}{o:Obj},h0.get? b=some o->b∉wr:=λe h=>by rw[hw _ h]at e;cases e
 have nS:∀{b:Addr}{o:Obj},h0.get? b=some o->S≠b:=λe h=>by rw[<- h,hS0]at e;cases e
 have hname:(toString "min" ++ toString ".loop":String) = "min.loop":=by decide
 intro k
 induction k with
 |zero=>
  intro j s vb c hk hj hst hPb hS hkp hR
  have hin:j+1=n:=by omega
  refine Zy Vg ?_;rw[Zs Zi _];show wpAny _ A.in1 (seqItems? (.ref S) >>= _) _ _ s;refine J6 (Z1 hS rfl ?_);show wpAny _ A.in1 (tryCatch (pyNext (.ref I)) _ >>= _) _ _ s;refine J6 (Wj (W.done s _ _ (hin▸hst) λh' tk hk'=>?_));show wpAny _ A.in1 (updateSeq S (λ_=>#[]) >>= _) _ _ _;refine J6 ?_;refine wpAny_updateSeq (hk' S _ hSw hS) rfl (J6 (V0 (Jc ?_)))
  exact hR vb _ tk (by rw[<- hin];exact hPb) λb o e=>(Z5 _ _ (nS e)).trans (hk' b o (nw e) (hkp b o e))
 |succ k ih=>
  intro j s vb c hk hj hst hPb hS hkp hR
  have hlt:j+1<n:=by omega
  refine Zy Vg ?_;rw[Zs Zi _];show wpAny _ A.in1 (seqItems? (.ref S) >>= _) _ _ s;refine J6 (Z1 hS rfl ?_);show wpAny _ A.in1 (tryCatch (pyNext (.ref I)) _ >>= _) _ _ s;refine J6 (Wj (W.item (j+1) s _ _ hlt hst λv h' tk hP hst' hk'=>?_));have hS':=hk' S _ hSw hS;have hkp':∀b o,h0.get? b=some o->h'.get? b=some o:=λb o e=>hk' b o (nw e) (hkp b o e);show wpAny _ A.in1 (tryCatch (holding [v,v] (richCompare .Lt v vb >>= _)) _ >>= _) _ _ _;refine J6 (Wj (Yw (J6 (hcmp (j+1) (argBest bt j) v vb _ _ _ hkp' hP hPb ?_))));refine J6 (Yw (Qa ?_));refine J6 (V0 (Jc ?_));cases hb:bt (j+1) (argBest bt j) with
  |true=>
   simp only[Yd];refine J6 ?_;refine wpAny_updateSeq hS' rfl (J6 (V0 ?_));rw[hname]
   refine Jc ⟨Qm Zi _,ih (j+1) _ v _ (by omega) hlt (W.frame _ _ _ hst' λb hbf o e=>(Z5 _ _ (λh:S=b=>hSf (by rw[h];exact hbf))).trans e) (by simp only[argBest,hb,Yd];exact hP) (Qi _ hS' rfl)
    (λb o e=>(Z5 _ _ (nS e)).trans (hkp' b o e)) λv' h'' tk'' hP' hk''=>hR v' h'' tk'' hP' hk''⟩
  |false=>
   simp only[Jw,Yj];refine J6 (V0 ?_);rw[hname]
   exact Jc ⟨Qm Zi _,ih (j+1) _ vb c (by omega) hlt hst' (by simp only[argBest,hb,Jw,Yj];exact hPb) hS' hkp' λv' h'' tk'' hP' hk''=>hR v' h'' tk'' hP' hk''⟩
theorem nT(W:Walks prog w A.in1 I fp wr n P St)(hcmp:yL prog w A.in1 h0 P bt)(hSf:S∉fp)(hw:∀b∈wr,h0.get? b=none)(hS0:h0.get? S=none)(hn:0<n){s:Shared}{c:Nat}(hst:St 0 s.heap)
  (hS:s.heap.get? S=some (Aj #[] c)) (hkp:∀b o,h0.get? b=some o->s.heap.get? b=some o)
  (hR:∀v h' tk,P (argBest bt (n-1)) v->(∀b o,h0.get? b=some o->h'.get? b=some o)->R (.ok (.ret v)) { s with heap:=h',toks:=tk }):
  codeAny (model prog w) A (.builtin "min.loop" ⟨[.ref I,.none,.ref S],kw⟩) R s:=by
 have hSw:S∉wr:=λh=>hSf (W.sub _ h)
 have nw:∀{b:Addr}{o:Obj},h0.get? b=some o->b∉wr:=λe h=>by rw[hw _ h]at e;cases e
 have nS:∀{b:Addr}{o:Obj},h0.get? b=some o->S≠b:=λe h=>by rw[<- h,hS0]at e;cases e
 have hname:(toString "min" ++ toString ".loop":String) = "min.loop":=by decide
 refine Zy Vg ?_;rw[Zs Zi _];show wpAny _ A.in1 (seqItems? (.ref S) >>= _) _ _ s;refine J6 (Z1 hS rfl ?_);show wpAny _ A.in1 (tryCatch (pyNext (.ref I)) _ >>= _) _ _ s;refine J6 (Wj (W.item 0 s _ _ hn hst λv h' tk hP hst' hk'=>?_));have hS':=hk' S _ hSw hS;have hkp':∀b o,h0.get? b=some o->h'.get? b=some o:=λb o e=>hk' b o (nw e) (hkp b o e);show wpAny _ A.in1 (updateSeq S (λ_=>#[v,v]) >>= _) _ _ _;refine J6 ?_;refine wpAny_updateSeq hS' rfl ?_;rw[hname]
 exact Jc ⟨Qm Zi _,yM W hcmp hSf hw hS0 _ 0 _ v _ rfl hn (W.frame _ _ _ hst' λb hbf o e=>(Z5 _ _ (λh:S=b=>hSf (by rw[h];exact hbf))).trans e) hP (Qi _ hS' rfl)
  (λb o e=>(Z5 _ _ (nS e)).trans (hkp' b o e)) λv' h'' tk'' hP' hk''=>hR v' h'' tk'' hP' hk''⟩
theorem yN{d:Value}{nm:Str}(W:Walks prog w A.in1 I fp wr 0 P St)(hSf:S∉fp){s:Shared}{c:Nat}(hst:St 0 s.heap)(hS:s.heap.get? S=some (Aj #[] c))
  (hR:∀h' tk,(∀b o,b∉wr->s.heap.get? b=some o->h'.get? b=some o)->R (.ok (.ret d)) { s with heap:=h',toks:=tk }):
  codeAny (model prog w) A (.builtin "min.loop" ⟨[.ref I,.none,.ref S],[(nm,d)]⟩) R s:=by
 refine Zy Vg ?_;rw[Zs Zi _];show wpAny _ A.in1 (seqItems? (.ref S) >>= _) _ _ s;refine J6 (Z1 hS rfl ?_);show wpAny _ A.in1 (tryCatch (pyNext (.ref I)) _ >>= _) _ _ s;refine J6 (Wj (W.done s _ _ hst λh' tk hk'=>?_));show wpAny _ A.in1 (rule _ >>= _) _ _ _;refine J6 (Yv (Jc ?_));exact hR h' tk hk'
theorem rF{id:String}{b:Builtin}{args:List Value}{Q:Value->Shared->Prop}{E:Value->Shared->Prop}{s:Shared}(hk:builtinKind id=none)(hp:plainId id=true)
  (hb:entryFor table id=some b) (ha:argsOk id ⟨args,kw⟩)
  (hc:wpAny (model prog w) A.in1 (b ⟨args,kw⟩) (λfin s'=>match fin with
   |.done f=>(match (Except.ok f:Result) with | .ok (.ret v)=>Q v s' | .ok _=>False | .error e=>E e s')
   |.again c'=>c'.quiet=true/\codeAny (model prog w) A c' (λr s'=>match r with | .ok (.ret v)=>Q v s' | .ok _=>False | .error e=>E e s') s') E s):
  wpAny (model prog w) A (call (.builtin id) args kw) Q E s:=by
 refine wpAny_call (codeAny_call_builtin hp hb ?_);simp only[checkBuiltinCall,hk];cases hsig:Manifest.signature? id with
 |none=>exact Jc hc
 |some sig=>
  have h2:Bind.checkArgs id sig ⟨args,kw⟩=pure ():=by simpa only[argsOk,hsig] using ha
  simp only[h2];exact Jc hc
theorem lI(a d:Value):argsOk "min" ⟨[a],[("default",d)]⟩:=by unfold argsOk;kernel_rfl
end
noncomputable def nU(m:List Int)(l:List (List Int)):List Int:=l.foldl (λm x=>if ltZ x m=true then x else m) m
noncomputable def gO:List D->Option (List (List Int))
 |[]=>some []
 |.tup a::r=>match intsOf a,gO r with
  |some n,some ns=>some (n::ns)
  |_,_=>none
 |_::_=>none
def xi(h:Heap)(us:List Value)(ns:List (List Int)):Prop:=us.length=ns.length/\∀(i:Nat)(v:Value),us[i]?=some v->∃a items,v=.ref a/\h.IsTuple a items/\IntsAre items.toList (ns.getD i [])
theorem pP(ns:List (List Int)):∀k:Nat,k<ns.length->argBest (λi j=>ltZ (ns.getD i []) (ns.getD j [])) k<=k/\ns.getD (argBest (λi j=>ltZ (ns.getD i []) (ns.getD j [])) k) []=nU (ns.getD 0 []) ((ns.drop 1).take k)
 |0,h=>⟨J9 _,rfl⟩
 |k+1,h=>by
  obtain⟨h1,h2⟩:=pP ns k (by omega)
  have hd:(ns.drop 1)[k]?=some (ns.getD (k+1) []):=by rw[V5,Uj 1 k,Jn,Jd h];rfl
  have ht:(ns.drop 1).take (k+1)=(ns.drop 1).take k++[ns.getD (k+1) []]:=by rw[U0,hd];rfl
  rw[ht];unfold nU at h2 ⊢;rw[List.foldl_append,<- h2];simp only[argBest,List.foldl_cons,List.foldl_nil];by_cases hb:ltZ (ns.getD (k+1) []) (ns.getD (argBest (λi j=>ltZ (ns.getD i []) (ns.getD j [])) k) [])=true
  ·rw[J8 hb,J8 hb];exact⟨J9 _,rfl⟩
  ·rw[Jb hb,Jb hb];exact⟨by omega,rfl⟩
theorem lJ:∀{ds:List D}{ns:List Int},intsOf ds=some ns->ds=ns.map .int
 |[],ns,h=>by unfold intsOf at h;cases h;rfl
 |d::r,ns,h=>by
  unfold intsOf at h;split at h
  ·rename_i e;cases e
  ·rename_i b r' e;cases e;cases e:intsOf r with
   |none=>rw[e]at h;cases h
   |some cs=>rw[e]at h;cases h;rw[lJ e];rfl
  ·cases h
section
variable{X:Cx}{E:XK}{pins:List (Addr×Obj)}{σ:L2.St}{H:Hp}{s:Shared}
theorem nV{w:Wd}(I:Inv X pins σ H s):∀{ds:List D}{vs:List V}{us:List Value}{ns:List (List Int)},RDs X.K w H ds vs->Vals vs us->gO ds=some ns->xi s.heap us ns/\∀(i:Nat)(v:Value),us[i]?=some v->∃y,RelV y v/\RD X.K w H (.tup ((ns.getD i []).map .int)) y
 |[],_,_,_,q,r,h=>by
  rw[q.nil_inv]at r;cases r;unfold gO at h;cases h
  exact⟨⟨rfl,λi v h=>by simp at h⟩,λi v h=>by simp at h⟩
 |d::ds,_,_,ns,q,r,h=>by
  obtain⟨y,vs,rfl,p,t⟩:=q.cons_inv;unfold gO at h;split at h
  ·rename_i e;cases e
  ·rename_i a r' eq;cases eq;split at h
   ·rename_i n ns' e1 e2;cases h;cases r with
    |cons rv rr=>
     obtain⟨⟨l,g⟩,g2⟩:=nV I t rr e2;obtain⟨pa,xs,rfl,za,ra⟩:=p.tupI;obtain⟨its,r1,p1,_⟩:=I.tuple (cj za);cases rv
     refine⟨⟨by simp[l],λi v hv=>?_⟩,λi v hv=>?_⟩
     ·cases i with
      |zero=>cases hv;exact⟨pa,its.toArray,rfl,p1,by simpa using gZ ra r1 e1⟩
      |succ i=>exact g i v (by simpa using hv)
     ·cases i with
      |zero=>cases hv;exact⟨.ref pa,rfl,by have:=lJ e1;subst this;exact p⟩
      |succ i=>exact g2 i v (by simpa using hv)
   ·cases h
  ·cases h
end
section
variable{prog:Program}{w:World}{A:Around}{E:Value->Shared->Prop}{s:Shared}
theorem pQ{h0:Heap}{us:List Value}{ns:List (List Int)}(t:xi h0 us ns)(hu:A.units<cLine):yL prog w A h0 (λi v=>us.toArray[i]?=some v) λi j=>ltZ (ns.getD i []) (ns.getD j []):=by
 intro i j vi vj s Q E hk hi hj h
 obtain⟨a,xs,rfl,ta,ia⟩:=t.2 i vi (by simpa using hi)
 obtain⟨b,ys,rfl,tb,ib⟩:=t.2 j vj (by simpa using hj)
 exact xh (ta.at λo e=>hk _ o e) (tb.at λo e=>hk _ o e) ia ib hu prog w h
theorem pR{l:Addr}{us:List Value}{bt:Nat->Nat->Bool}{kw:List (Str×Value)}{df:Option Value}{Q:Value->Shared->Prop}(hh:A.handled=none)(hl:s.heap.IsList l us.toArray)(hne:0<us.length)
  (ha:argsOk "min" ⟨[.ref l],kw⟩) (hb:Builtin.Builtins.bindParams "min" ["key","default"] 0 ⟨[],kw⟩=pure [none,df])
  (hcmp:yL prog w A.in1 s.heap (λi v=>us.toArray[i]?=some v) bt)
  (h:∀v h' tk,us[argBest bt (us.length-1)]?=some v->(∀b o,s.heap.get? b=some o->h'.get? b=some o)->Q v { s with heap:=h',toks:=tk }):
  wpAny (model prog w) A (call (.builtin "min") [.ref l] kw) Q E s:=by
 have hname:(toString "min" ++ toString ".loop":String) = "min.loop":=by decide
 have hlt:l<s.heap.objs.size:=by obtain⟨_,e,_⟩:=hl;exact Jh e
 refine rF F.kind_min F.plain_min F.entry_min ha ?_;show wpAny _ A.in1 (Builtin.Builtins.bindParams "min" ["key","default"] 0 ⟨[],kw⟩ >>= _) _ _ s
 refine J6 (U2 hb ?_);refine J6 (Jc ?_);refine J6 (Zj hl ?_);refine J6 (Yb ?_);have hsz:(s.heap.push { cls:=.type "list_iterator",data:=.fields #[.ref l,.int 0 0] }).objs.size=s.heap.objs.size+1:=Y7 ..
 have W:=Vu (prog:=prog) (w:=w) (A:=A.in1) hh s.heap.objs.size l (Jq hlt) us.toArray
 have hSf:s.heap.objs.size+1∉[s.heap.objs.size,l]:=λhm=>by
  rcases Jj.mp hm with e|hm
  ·exact absurd e (Um _)
  ·rcases Jj.mp hm with e|hm
   ·exact Qb _ (Nat.lt_of_succ_lt (e▸hlt:s.heap.objs.size+1<s.heap.objs.size))
   ·cases hm
 rw[hname];refine Jc ⟨Qm Zi _,?_⟩;show codeAny _ A (.builtin "min.loop" ⟨[.ref s.heap.objs.size,.none,.ref (s.heap.push _).objs.size],_⟩) _ _
 rw[hsz]
 refine nT (h0:=s.heap) W hcmp hSf (λb hb=>?_) (Qp (W9 _)) (by simpa using hne) (W.frame _ _ _ ⟨⟨_,Ji _ rfl,rfl,rfl⟩,hl.push _⟩ λb _ o e=>J7 _ e) (by rw[<- hsz];exact Ji _ rfl)
  (λb o e=>J7 _ (J7 _ e)) λv h' tk hP hk=>h v h' tk (by simpa using hP) hk
 ·simp at hb;rw[hb];exact Qp (J9 _)
theorem vI{l:Addr}{d:Value}{Q:Value->Shared->Prop}(hh:A.handled=none)(hl:s.heap.IsList l #[])
  (h:∀h' tk,(∀b o,s.heap.get? b=some o->h'.get? b=some o)->Q d { s with heap:=h',toks:=tk }):
  wpAny (model prog w) A (call (.builtin "min") [.ref l] [("default",d)]) Q E s:=by
 have hname:(toString "min" ++ toString ".loop":String) = "min.loop":=by decide
 have hlt:l<s.heap.objs.size:=by obtain⟨_,e,_⟩:=hl;exact Jh e
 refine rF F.kind_min F.plain_min F.entry_min (lI _ _) ?_;show wpAny _ A.in1 (Builtin.Builtins.bindParams "min" ["key","default"] 0 ⟨[],[("default",d)]⟩ >>= _) _ _ s
 refine J6 (U2 (show Builtin.Builtins.bindParams "min" ["key","default"] 0 ⟨[],[("default",d)]⟩=pure [none,some d] from rfl) ?_)
 refine J6 (Jc ?_);refine J6 (Zj hl ?_);refine J6 (Yb ?_);have hsz:(s.heap.push { cls:=.type "list_iterator",data:=.fields #[.ref l,.int 0 0] }).objs.size=s.heap.objs.size+1:=Y7 ..
 have W:=Vu (prog:=prog) (w:=w) (A:=A.in1) hh s.heap.objs.size l (Jq hlt) #[]
 have hSf:s.heap.objs.size+1∉[s.heap.objs.size,l]:=λhm=>by
  rcases Jj.mp hm with e|hm
  ·exact absurd e (Um _)
  ·rcases Jj.mp hm with e|hm
   ·exact Qb _ (Nat.lt_of_succ_lt (e▸hlt:s.heap.objs.size+1<s.heap.objs.size))
   ·cases hm
 rw[hname];refine Jc ⟨Qm Zi _,?_⟩;show codeAny _ A (.builtin "min.loop" ⟨[.ref s.heap.objs.size,.none,.ref (s.heap.push _).objs.size],[("default",d)]⟩) _ _
 rw[hsz]
 refine yN W hSf (W.frame _ _ _ ⟨⟨_,Ji _ rfl,rfl,rfl⟩,hl.push _⟩ λb _ o e=>J7 _ e) (by rw[<- hsz];exact Ji _ rfl) λh' tk hk=>h h' tk λb o e=>hk b o (λhm=>?_) (J7 _ (J7 _ e))
 simp at hm;exact absurd (hm▸Jh e) (Qb _)
end
section
variable{prog:Program}{w:World}{A:Around}{E:Value->Shared->Prop}{s:Shared}
theorem Ak{x y:Value}{bt:Nat->Nat->Bool}{Q:Value->Shared->Prop}(hh:A.handled=none)
  (hcmp:yL prog w A.in1 s.heap (λi v=>([x,y]:List Value).toArray[i]?=some v) bt)
  (h:∀h' tk,(∀b o,s.heap.get? b=some o->h'.get? b=some o)->Q (if bt 1 0=true then y else x) { s with heap:=h',toks:=tk }):
  wpAny (model prog w) A (call (.builtin "min") [x,y]) Q E s:=by
 have hname:(toString "min" ++ toString ".loop":String) = "min.loop":=by decide
 refine rF F.kind_min F.plain_min F.entry_min (F.args_min2 _ _) ?_;show wpAny _ A.in1 (Builtin.Builtins.bindParams "min" ["key","default"] 0 ⟨[],[]⟩ >>= _) _ _ s
 refine J6 (U2 (show Builtin.Builtins.bindParams "min" ["key","default"] 0 ⟨[],[]⟩=pure [none,none] from rfl) ?_)
 show wpAny _ A.in1 (newTuple [x,y] >>= _) _ _ s;refine J6 (Yb ?_);have hT:(s.heap.push { cls:=.type "tuple",data:=.seq ([x,y]:List Value).toArray }).IsTuple s.heap.objs.size ([x,y]:List Value).toArray:=⟨_,Ji _ rfl,rfl,0,rfl⟩
 refine J6 (W5 hT ?_);refine J6 (Yb ?_);have hsz:(s.heap.push { cls:=.type "tuple",data:=.seq ([x,y]:List Value).toArray }).objs.size=s.heap.objs.size+1:=Y7 ..
 have W:=Walks.tuple (prog:=prog) (w:=w) (A:=A.in1) hh (s.heap.objs.size+1) s.heap.objs.size (Jq (Zq _)) ([x,y]:List Value).toArray
 have hSf:s.heap.objs.size+2∉[s.heap.objs.size+1,s.heap.objs.size]:=λhm=>by
  rcases Jj.mp hm with e|hm
  ·exact absurd e (Um _)
  ·rcases Jj.mp hm with e|hm
   ·exact absurd e (Q7 (Za (Zq _)))
   ·cases hm
 rw[hname];refine Jc ⟨Qm Zi _,?_⟩
 have hsz2:∀o:Obj,((s.heap.push { cls:=.type "tuple",data:=.seq ([x,y]:List Value).toArray }).push o).objs.size=s.heap.objs.size+2:=λo=>by rw[Y7,hsz]
 show codeAny _ A (.builtin "min.loop" ⟨[.ref (s.heap.push { cls:=.type "tuple",data:=.seq ([x,y]:List Value).toArray }).objs.size,.none,.ref ((s.heap.push { cls:=.type "tuple",data:=.seq ([x,y]:List Value).toArray }).push _).objs.size],[]⟩) _ _
 rw[hsz2,hsz]
 refine nT (h0:=s.heap) W hcmp hSf (λb hb=>?_) (Qp (Ug (W9 _))) (Vx _) (W.frame _ _ _ ⟨⟨_,by rw[<- hsz];exact Ji _ rfl,rfl,rfl⟩,hT.push _⟩ λb _ o e=>J7 _ e) (by rw[<- hsz2];exact Ji _ rfl)
  (λb o e=>J7 _ (J7 _ (J7 _ e))) λv h' tk hP hk=>?_
 ·rcases Jj.mp hb with e|hb
  ·rw[e];exact Qp (W9 _)
  ·cases hb
 ·have hv:v=if bt 1 0=true then y else x:=by
   have hP':([x,y]:List Value).toArray[argBest bt 1]?=some v:=hP;by_cases hb:bt 1 0=true
   ·have e:argBest bt 1=1:=by simp[argBest,hb]
    rw[e]at hP';rw[J8 hb];cases hP';rfl
   ·have e:argBest bt 1=0:=by simp[argBest,hb]
    rw[e]at hP';rw[Jb hb];cases hP';rfl
  rw[hv];exact h h' tk hk
end
theorem tN:∀(l:List Int)(m x:Int),eR m (l++[x])=if x<eR m l then x else eR m l
 |[],m,x=>rfl
 |y::l,m,x=>tN l (if y<m then y else m) x
theorem pS(ns:List Int):∀k:Nat,k<ns.length->ns.getD (argBest (λi j=>decide (ns.getD i 0<ns.getD j 0)) k) 0=eR (ns.getD 0 0) ((ns.drop 1).take k)
 |0,h=>rfl
 |k+1,h=>by
  have h2:=pS ns k (by omega)
  have hd:(ns.drop 1)[k]?=some (ns.getD (k+1) 0):=by rw[V5,Uj 1 k,Jn,Jd h];rfl
  have ht:(ns.drop 1).take (k+1)=(ns.drop 1).take k++[ns.getD (k+1) 0]:=by rw[U0,hd];rfl
  rw[ht,tN,<- h2];simp only[argBest];by_cases hb:ns.getD (k+1) 0<ns.getD (argBest (λi j=>decide (ns.getD i 0<ns.getD j 0)) k) 0
  ·rw[J8 (Jx hb),J8 hb]
  ·rw[Jb (by simpa using hb),Jb hb]
theorem rG:∀{vs:List Value}{ns:List Int},IntsAre vs ns->∀(i:Nat)(v:Value),vs[i]?=some v->∃t,v=.int (ns.getD i 0) t
 |_,_,.nil,i,v,h=>by simp at h
 |_,_,.cons n t r,0,v,h=>by cases h;exact⟨t,rfl⟩
 |_,_,.cons n t r,i+1,v,h=>rG r i v (by simpa using h)
noncomputable def tO:Sto->List D->Option D
 |_,[.tup a,.tup b]=>match intsOf a,intsOf b with
  |some n,some m=>some (if ltZ m n=true then .tup (m.map .int) else .tup (n.map .int))
  |_,_=>none
 |_,_=>none
noncomputable def nW:Sto->List D->Option D
 |S,[.tup a,.tup b]=>tO S [.tup a,.tup b]
 |S,ds=>tM S ds
noncomputable def mB:Sto->List D->Option D
 |S,[d]=>match kn S d with
  |some []=>some .non
  |some (x::a)=>match gO (x::a),intsOf (x::a) with
   |some (n::ns),_=>some (.tup ((nU n ns).map .int))
   |none,some (n::ns)=>some (.int (eR n ns))
   |_,_=>none
  |none=>none
 |_,_=>none
def pU(X:Cx)(f:Value)(kw:List (Str×Value))(r:List V->Hp->VK->Prop):Prop:=
 ∀(pins:List (Addr×Obj))(s:Shared)(σ:L2.St)(H:Hp)(xs:List V)(us:List Value)(Q:VK),Inv X pins σ H s->Vals xs us->r xs H Q->
  wpAny (model X.prog X.w) X.A (call f us kw) (EP X pins σ Q) X.xe s
theorem Cs{α:Type}{us:List α}(h:us.length=2):∃x y,us=[x,y]:=by
 rcases us with _|⟨x,_|⟨y,_|⟨z,r⟩⟩⟩
 ·simp at h
 ·simp at h
 ·exact⟨x,y,rfl⟩
 ·simp at h
section
variable{X:Cx}{E:XK}
theorem Ct{k:Nat}(hc:X.calm=true)(hr:Room k X.A):bF X (.builtin "min") (xC X.K E tO):=by
 rintro pins s σ H xs us Q I r ⟨w,S,ds,hS,qs,p⟩;obtain⟨z,hz,p'⟩:=p.of;clear p;unfold tO at hz;split at hz
 ·rename_i a b;split at hz
  ·rename_i n m e1 e2;cases hz
   have e:gO [.tup a,.tup b]=some [n,m]:=by simp only[gO,e1,e2]
   obtain⟨t,g⟩:=nV I qs r e;obtain⟨x,y,rfl⟩:∃x y,us=[x,y]:=Cs t.1
   refine Ak (I.ok.hd hc) (pQ t (by have:=hr.un;show X.A.units+1<cLine;omega)) λh' tk hk=>?_
   have e0:ltZ (([n,m]:List (List Int)).getD 1 []) (([n,m]:List (List Int)).getD 0 [])=ltZ m n:=rfl;rw[e0];by_cases hb:ltZ m n=true
   ·rw[J8 hb]at p' ⊢;obtain⟨v,rv,rd⟩:=g 1 y rfl;exact⟨v,H,I.kept (t':=tk) hk,rv,p'.ret rd hS⟩
   ·rw[Jb hb]at p' ⊢;obtain⟨v,rv,rd⟩:=g 0 x rfl;exact⟨v,H,I.kept (t':=tk) hk,rv,p'.ret rd hS⟩
  ·cases hz
 ·cases hz
theorem xj{k:Nat}(hc:X.calm=true)(hr:Room k X.A):bF X (.builtin "min") (xC X.K E nW):=Dm (Ct hc hr) (xf hc) λS ds=>by
 unfold nW;split
 ·exact .inl rfl
 ·exact .inr rfl
theorem xk{k:Nat}(hc:X.calm=true)(hr:Room k X.A):pU X (.builtin "min") [("default",.none)] (xC X.K E mB):=by
 rintro pins s σ H xs us Q I r ⟨w,S,ds,hS,qs,p⟩;obtain⟨z,hz,p'⟩:=p.of;clear p;unfold mB at hz;split at hz
 ·rename_i d;obtain⟨v,rfl,q⟩:=qs.one_inv;obtain⟨u,rfl,rx⟩:=Wc r;split at hz
  ·rename_i ha;cases hz;obtain⟨pa,vs,rfl,sq,ra⟩:=rD hS q ha;cases rx;obtain⟨its,r',pl,_⟩:=I.list sq;rw[ra.nil_inv]at r';cases r'
   exact vI (I.ok.hd hc) pl.isList λh' tk hk=>⟨.non,H,I.kept (t':=tk) hk,rfl,p'.ret (by unfold RD;rfl) hS⟩
  ·rename_i x a ha;obtain⟨pa,vs,rfl,sq,ra⟩:=rD hS q ha;cases rx;obtain⟨its,r',pl,_⟩:=I.list sq;split at hz
   ·rename_i n ns e;cases hz;obtain⟨t,g⟩:=nV I ra r' e
    have hl:its.length=ns.length+1:=by rw[t.1];rfl
    refine pR (df:=some .none) (I.ok.hd hc) pl.isList (by omega) (lI _ _) rfl (pQ t (by have:=hr.un;show X.A.units+1<cLine;omega)) λv h' tk hv hk=>?_
    obtain⟨y,ry,rd⟩:=g _ v hv
    obtain⟨_,b2⟩:=pP (n::ns) (its.length-1) (by rw[hl];exact Zq _)
    have b3:nU ((n::ns).getD 0 []) (((n::ns).drop 1).take (its.length-1))=nU n ns:=by rw[hl];show nU n (ns.take ns.length)=nU n ns;rw[Wq]
    rw[b2,b3]at rd;exact⟨y,H,I.kept (t':=tk) hk,ry,p'.ret rd hS⟩
   ·rename_i n ns _ e;cases hz;have ia:=gZ ra r' e;have hl:its.length=(n::ns).length:=ia.length
    have hcmp:yL X.prog X.w X.A.in1 s.heap (λi v=>its.toArray[i]?=some v) (λi j=>decide ((n::ns).getD i 0<(n::ns).getD j 0)):=by
     intro i j vi vj s1 Q1 E1 hk hi hj h
     obtain⟨t1,rfl⟩:=rG ia i vi (by simpa using hi)
     obtain⟨t2,rfl⟩:=rG ia j vj (by simpa using hj)
     exact xg X.prog X.w h
    refine pR (df:=some .none) (I.ok.hd hc) pl.isList (by rw[hl];exact Vx _) (lI _ _) rfl hcmp λv h' tk hv hk=>?_
    obtain⟨t1,rfl⟩:=rG ia _ v hv
    have b:=pS (n::ns) (its.length-1) (by rw[hl];exact Zq _)
    have b3:eR ((n::ns).getD 0 0) (((n::ns).drop 1).take (its.length-1))=eR n ns:=by rw[hl];show eR n (ns.take ns.length)=eR n ns;rw[Wq]
    rw[b3]at b;refine⟨.int (eR n ns),H,I.kept (t':=tk) hk,⟨t1,?_⟩,p'.ret RD.mkI hS⟩;rw[b]
   ·cases hz
  ·cases hz
 ·cases hz
variable{a:Expr}{ms:AM}{x:Str}{p pos kp:Pos}{id:String}{nm:Str}
theorem yO{r:List V->Hp->VK->Prop}{t:TA}{j:Nat}{cp:Pos}(hc:pU X (.builtin id) [(nm,.none)] r)(hg:Gl X x)(hm:X.mg x=none)(hv:bootBuiltins x=some (.builtin id))(ha:PA X [a] t)(hn:autoParam (x ≠ "__name__") Au.h2._auto_1)(hdb:autoParam ((x == ("__debug__":Str))=false) Au.h2._auto_1)
  (he:autoParam (backTo pos (starEach [a] X.env)=(false,eval a X.env)::backTo pos (starEach [] X.env)) Au.h1._auto_1) (hpl:autoParam ((backTo pos (starEach [a] X.env)).any (·.1)=false) Au.h1._auto_1):PE X (.Call (.Name x p) [a] [⟨some nm,.Constant .none j cp,kp⟩] pos) (tCB r t):=by
 intro pins s σ H Q I h;refine W6 (ig I hg hm hv ?_ hn hdb);refine callWith_kw (thn (ha pos pins s σ H _ I h) λus s1 zq=>ex5 zq λvs H1 I1 r1 q1=>kws_cons ?_) he hpl;exact Constant_none (kws_nil (hc pins s1 σ H1 vs us Q I1 r1 q1))
theorem pV{f:Sto->List D->Option D}{j:Nat}{cp:Pos}(hc:pU X (.builtin id) [(nm,.none)] (xC X.K E f))(hg:Gl X x)(hm:X.mg x=none)(hv:bootBuiltins x=some (.builtin id))(ha:SA X E [a] ms)(hn:autoParam (x ≠ "__name__") Au.h3._auto_1)(hdb:autoParam ((x == ("__debug__":Str))=false) Au.h3._auto_1)
  (he:autoParam (backTo pos (starEach [a] X.env)=(false,eval a X.env)::backTo pos (starEach [] X.env)) Au.h0._auto_1) (hpl:autoParam ((backTo pos (starEach [a] X.env)).any (·.1)=false) Au.h0._auto_1):SE X E (.Call (.Name x p) [a] [⟨some nm,.Constant .none j cp,kp⟩] pos) (eB f ms):=⟨
 bq (yO hc hg hm hv ha.out hn hdb he hpl) λs H Q zq=>ex6 zq λw r S hr hS hp=>⟨w,r,S,hr,hS,hp.bind hS λds S1 w1 H1 vs x1 q1 s1 p1=>⟨w1,S1,ds,s1,q1,p1⟩⟩⟩
end
end PD
namespace SR
open PySem PyProof.Rows
variable{xs a b:Array Keyed}{i lo j n:Nat}{st:SortSt}{p key:Keyed}{Q:Option Bool→SortSt→Prop}{tot o L X Y:List Keyed}{c:Prop}
noncomputable abbrev SM(α:Type):=StateT SortSt Sem α
def Up(xs:Array Keyed)(lo hi:Nat):Prop:=∀i j,lo<=i->i<=j->j<hi->K xs i<=K xs j
def Dn(xs:Array Keyed)(lo hi:Nat):Prop:=∀i j,lo<=i->i<=j->j<hi->K xs j<=K xs i
def Num(p:Keyed):Prop:=∃n t,p.1=.int n t
def IK(xs:Array Keyed):Prop:=∀p∈xs.toList,Num p
theorem IK.get(h:IK xs)(hi:i<xs.size):Num xs[i]:=h _ (by simp)
theorem bT(hi:i<xs.size):K xs i=numOf xs[i].1:=by unfold K;rw[Uo xs i hi]
section
variable{prog:Program}{w:World}{A:Around}{E:Value->Shared->Prop}{s:Shared}
theorem tP{q:Keyed}(hk:kindOf st=oneType')(hp:Num p)(hq:Num q)(h:Q (some (decide (numOf p.1<numOf q.1))) st):wpS (model prog w) A E s (lt' p q) Q st:=by obtain⟨p1,p2⟩:=p;obtain⟨q1,q2⟩:=q;obtain⟨a,t,e1⟩:=hp;obtain⟨b,u,e2⟩:=hq;dsimp only at e1 e2;subst e1 e2;rw[lt'_eq];refine Je (Wk ?_);rw[hk,keyLt'_oneType];exact Je (Vh (Vc (oneLt_int ⟨rfl,Jf h⟩)))
theorem aY{Q:Keyed->SortSt->Prop}(hi:i<xs.size)(h:Q xs[i] st):wpS (model prog w) A E s (elem' xs i) Q st:=by rw[elem'_eq,Uo xs i hi];exact Jf h
end
noncomputable def gal:Bool->Keyed->Array Keyed->Nat->Nat->Nat->SM (Option Nat):=sortPriv% PySem.Builtin.gallop
noncomputable def by1(left:Bool)(key:Keyed)(arr:Array Keyed)(z:Nat):SM (Option Bool):=do
 let x <- elem' arr z
 if left then lt' x key else return (<- lt' key x).map (!·)
theorem ES(left:Bool)(key:Keyed)(arr:Array Keyed)(base n hint:Nat):gal left key arr base n hint=(do
 let f:Nat->SM (Option Bool):=λi=>by1 left key arr (base+i)
 let mut l1:=0
 let mut o1:=1
 let mut lo:=0
 let mut hi:=0
 let some rg <- f hint|return none
 if rg then
  let mx:=n-hint
  for _ in [0:n] do
   if o1 >= mx then break
   let some b <- f (hint+o1)|return none
   if !b then break
   l1:=o1
   o1:=2*o1+1
  lo:=hint+l1+1
  hi:=hint+min o1 mx
 else
  let mx:=hint+1
  for _ in [0:n] do
   if o1 >= mx then break
   let some b <- f (hint-o1)|return none
   if b then break
   l1:=o1
   o1:=2*o1+1
  lo:=hint+1-min o1 mx
  hi:=hint-l1
 for _ in [0:n] do
  if lo >= hi then break
  let m:=lo+(hi-lo)/2
  let some b <- f m|return none
  if b then lo:=m+1 else hi:=m
 return some hi):=rfl
section
variable{prog:Program}{w:World}{A:Around}{E:Value->Shared->Prop}{s:Shared}
noncomputable def bef(left:Bool)(key:Keyed)(arr:Array Keyed)(i:Nat):Bool:=if left=true then decide (K arr i<numOf key.1) else !decide (numOf key.1<K arr i)
theorem ko{left:Bool}{arr:Array Keyed}{hi:Nat}(hs:Up arr lo hi)(hi1:lo<=i)(hij:i<=j)(hj:j<hi)(h:bef left key arr j=true):bef left key arr i=true:=by
 have z:=hs i j hi1 hij hj;cases left
 ·simp[bef]at h ⊢;omega
 ·simp[bef]at h ⊢;omega
theorem rH{left:Bool}{arr:Array Keyed}(hk:kindOf st=oneType')(ha:IK arr)(hy:Num key)(hi:i<arr.size)(h:Q (some (bef left key arr i)) st):wpS (model prog w) A E s (by1 left key arr i) Q st:=by
 unfold by1;refine Je (aY hi ?_);have e:=bT hi;cases left
 ·refine Je (tP hk hy (ha.get hi) (Jf ?_));simpa[bef,e] using h
 ·refine tP hk (ha.get hi) hy ?_;simpa[bef,e] using h
theorem Dp{left:Bool}{arr:Array Keyed}{base lo hi:Nat}{Q:Option (Option Nat)×Nat×Nat->SortSt->Prop}(hk:kindOf st=oneType')(ha:IK arr)(hy:Num key)(hn:base+n<=arr.size)(hs:Up arr base (base+n))
  (h1:lo<=hi) (h2:hi<=n) (h3:∀i,i<lo->bef left key arr (base+i)=true) (h4:∀i,hi<=i->i<n->bef left key arr (base+i)=false)
  (h:∀l k,k<=n->(∀i,i<k->bef left key arr (base+i)=true)->(∀i,k<=i->i<n->bef left key arr (base+i)=false)->Q (none,l,k) st):
  wpS (model prog w) A E s (forIn [0:n] ((none,lo,hi):Option (Option Nat)×Nat×Nat) λ_ c=>
    if c.2.1 >= c.2.2 then pure (.done (none,c.2.1,c.2.2)) else do
     match <- by1 left key arr (base+(c.2.1+(c.2.2-c.2.1)/2)) with
     |some b=>if b=true then pure (.yield (none,c.2.1+(c.2.2-c.2.1)/2+1,c.2.2)) else pure (.yield (none,c.2.1,c.2.1+(c.2.2-c.2.1)/2))
     |_=>pure (.done (some none,c.2.1,c.2.2))) Q st:=by
 refine Z7 (Ym (I:=λx c st'=>st'=st/\∃l u,c=(none,l,u)/\l<=u/\u<=n/\u-l<=n-x/\(∀i,i<l->bef left key arr (base+i)=true)/\(∀i,u<=i->i<n->bef left key arr (base+i)=false))
  (Q:=λc st'=>st'=st/\∃l u,c=(none,l,u)/\u<=n/\(∀i,i<u->bef left key arr (base+i)=true)/\(∀i,u<=i->i<n->bef left key arr (base+i)=false)) ?a ?b ⟨rfl,lo,hi,rfl,h1,h2,by omega,h3,h4⟩) ?c
 case b=>
  rintro c st' ⟨rfl,l,u,rfl,b1,b2,b3,b4,b5⟩
  have:l=u:=by omega
  subst this;exact⟨rfl,l,l,rfl,b2,b4,b5⟩
 case c=>
  rintro c st' ⟨rfl,l,u,rfl,b2,b4,b5⟩;exact h l u b2 b4 b5
 case a=>
  rintro x c st' _ hx ⟨rfl,l,u,rfl,b1,b2,b3,b4,b5⟩;dsimp only;by_cases g:l >= u
  ·rw[J8 g]
   have:l=u:=by omega
   subst this;exact Jf ⟨rfl,l,l,rfl,b2,b4,b5⟩
  ·rw[Jb g]
   refine Je (rH hk ha hy (by omega) ?_)
   dsimp only;cases eb:bef left key arr (base+(l+(u-l)/2)) with
   |true=>
    rw[J8 rfl]
    refine Jf ⟨rfl,_,_,rfl,by omega,b2,by omega,λi hi=>?_,b5⟩
    exact ko hs (by omega) (by omega) (by omega) eb
   |false=>
    rw[Jb Jk]
    refine Jf ⟨rfl,_,_,rfl,by omega,by omega,by omega,b4,λi h1 h2=>?_⟩
    cases e2:bef left key arr (base+i) with
    |false=>rfl
    |true=>
     have:=ko (left:=left) (key:=key) hs (i:=base+(l+(u-l)/2)) (j:=base+i) (by omega) (by omega) (by omega) e2
     rw[eb]at this;cases this
theorem jS{left:Bool}{arr:Array Keyed}{base hint:Nat}{Q:Option Nat->SortSt->Prop}(hk:kindOf st=oneType')(ha:IK arr)(hy:Num key)(hn:base+n<=arr.size)(hh:hint<n)(hs:Up arr base (base+n))
  (h:∀k,k<=n->(∀i,i<k->bef left key arr (base+i)=true)->(∀i,k<=i->i<n->bef left key arr (base+i)=false)->Q (some k) st):
  wpS (model prog w) A E s (gal left key arr base n hint) Q st:=by
 have no:∀i j,i<=j->j<n->bef left key arr (base+i)=false->bef left key arr (base+j)=false:=λi j h1 h2 e=>by
  cases e2:bef left key arr (base+j) with
  |false=>rfl
  |true=>
   have:=ko (left:=left) (key:=key) hs (i:=base+i) (j:=base+j) (by omega) (by omega) (by omega) e2
   rw[e]at this;cases this
 have ys:∀i j,i<=j->j<n->bef left key arr (base+j)=true->bef left key arr (base+i)=true:=λi j h1 h2 e=>
  ko hs (by omega) (by omega) (by omega) e
 rw[ES];dsimp only
 refine Je (rH hk ha hy (by omega) ?_)
 dsimp only;cases e0:bef left key arr (base+hint) with
 |true=>
  rw[J8 rfl]
  refine Je (Z7 (Ym (I:=λx c st'=>st'=st/\∃l o,c=(none,l,o)/\l<o/\x+1<=o/\l<n-hint/\bef left key arr (base+(hint+l))=true)
   (Q:=λc st'=>st'=st/\∃l o,c=(none,l,o)/\l<o/\l<n-hint/\bef left key arr (base+(hint+l))=true/\(o<n-hint->bef left key arr (base+(hint+o))=false)) ?a ?b ⟨rfl,0,1,rfl,by omega,by omega,by omega,e0⟩) ?c)
  case b=>
   rintro c st' ⟨rfl,l,o,rfl,b1,b2,b3,b4⟩
   exact⟨rfl,l,o,rfl,b1,b3,b4,λz=>by omega⟩
  case a=>
   rintro x c st' _ hx ⟨rfl,l,o,rfl,b1,b2,b3,b4⟩;dsimp only;by_cases g:o >= n-hint
   ·rw[J8 g]
    exact Jf ⟨rfl,l,o,rfl,b1,b3,b4,λz=>by omega⟩
   ·rw[Jb g]
    refine Je (rH hk ha hy (by omega) ?_)
    dsimp only;cases eb:bef left key arr (base+(hint+o)) with
    |false=>
     rw[J8 (by decide)]
     exact Jf ⟨rfl,l,o,rfl,b1,b3,b4,λ_=>eb⟩
    |true=>
     rw[Jb (by decide)]
     exact Jf ⟨rfl,o,2*o+1,rfl,by omega,by omega,by omega,eb⟩
  case c=>
   rintro c st' ⟨rfl,l,o,rfl,b1,b3,b4,b5⟩;dsimp only
   refine Je (Dp (lo:=hint+l+1) (hi:=hint+min o (n-hint)) hk ha hy hn hs (by omega) (by omega) (λi hi=>?_) (λi h1 h2=>?_) λ_ k a b c=>Jf (h k a b c))
   ·exact ys i (hint+l) (by omega) (by omega) b4
   ·by_cases g:o<n-hint
    ·exact no (hint+o) i (by omega) h2 (b5 g)
    ·omega
 |false=>
  rw[Jb Jk]
  refine Je (Z7 (Ym (I:=λx c st'=>st'=st/\∃l o,c=(none,l,o)/\l<o/\x+1<=o/\l<=hint/\bef left key arr (base+(hint-l))=false)
   (Q:=λc st'=>st'=st/\∃l o,c=(none,l,o)/\l<o/\l<=hint/\bef left key arr (base+(hint-l))=false/\(o<=hint->bef left key arr (base+(hint-o))=true)) ?a ?b ⟨rfl,0,1,rfl,by omega,by omega,by omega,e0⟩) ?c)
  case b=>
   rintro c st' ⟨rfl,l,o,rfl,b1,b2,b3,b4⟩
   exact⟨rfl,l,o,rfl,b1,b3,b4,λz=>by omega⟩
  case a=>
   rintro x c st' _ hx ⟨rfl,l,o,rfl,b1,b2,b3,b4⟩;dsimp only;by_cases g:o >= hint+1
   ·rw[J8 g]
    exact Jf ⟨rfl,l,o,rfl,b1,b3,b4,λz=>by omega⟩
   ·rw[Jb g]
    refine Je (rH hk ha hy (by omega) ?_)
    dsimp only;cases eb:bef left key arr (base+(hint-o)) with
    |true=>
     rw[J8 rfl];exact Jf ⟨rfl,l,o,rfl,b1,b3,b4,λ_=>eb⟩
    |false=>
     rw[Jb Jk]
     exact Jf ⟨rfl,o,2*o+1,rfl,by omega,by omega,by omega,eb⟩
  case c=>
   rintro c st' ⟨rfl,l,o,rfl,b1,b3,b4,b5⟩;dsimp only
   refine Je (Dp (lo:=hint+1-min o (hint+1)) (hi:=hint-l) hk ha hy hn hs (by omega) (by omega) (λi hi=>?_) (λi h1 h2=>?_) λ_ k a b c=>Jf (h k a b c))
   ·by_cases g:o<=hint
    ·exact ys i (hint-o) (by omega) (by omega) (b5 g)
    ·omega
   ·exact no (hint-l) i (by omega) h2 b4
end
noncomputable def mLo:Array Keyed->Array Keyed->SM (Array Keyed):=sortPriv% PySem.Builtin.mergeLo
noncomputable def sMG:Nat->SM Unit:=sortPriv% PySem.Builtin.setMinGallop
theorem ET(a b:Array Keyed):mLo a b=(do
 rule "list.sort.merge-lo"
 let tt:=a.size+b.size
 let dn (o:Array Keyed) (i j:Nat):=o++a.extract i a.size++b.extract j b.size
 let la (o:Array Keyed) (i j:Nat):=o++b.extract j b.size++a.extract i a.size
 let mut o:Array Keyed:=#[<- elem' b 0]
 let mut i:=0
 let mut j:=1
 if j == b.size then return dn o i j
 if i+1 == a.size then return la o i j
 let mut g:=gallopOf (<- get)
 for _ in [0:tt] do
  let mut ca:=0
  let mut cb:=0
  for _ in [0:tt] do
   let some v <- lt' (<- elem' b j) (<- elem' a i)|return dn o i j
   if v then
    o:=o.push (<- elem' b j);j:=j+1;cb:=cb+1;ca:=0
    if j == b.size then return dn o i j
    if cb >= g then break
   else
    o:=o.push (<- elem' a i);i:=i+1;ca:=ca+1;cb:=0
    if i+1 == a.size then return la o i j
    if ca >= g then break
  rule "list.sort.gallop"
  g:=g+1
  for _ in [0:tt] do
   if g>1 then g:=g-1
   sMG g
   let some k <- gal false (<- elem' b j) a i (a.size-i) 0|return dn o i j
   ca:=k
   if k>0 then
    o:=o++a.extract i (i+k);i:=i+k
    if i+1 == a.size then return la o i j
    if i == a.size then return dn o i j
   o:=o.push (<- elem' b j);j:=j+1
   if j == b.size then return dn o i j
   let some k <- gal true (<- elem' a i) b j (b.size-j) 0|return dn o i j
   cb:=k
   if k>0 then
    o:=o++b.extract j (j+k);j:=j+k
    if j == b.size then return dn o i j
   o:=o.push (<- elem' a i);i:=i+1
   if i+1 == a.size then return la o i j
   if ca<7&&cb<7 then break
  g:=g+1
  sMG g
 unsupported "internal:list.sort.merge-bound"):=rfl
noncomputable def ke(p:Keyed):Int:=numOf p.1
def Sd(l:List Keyed):Prop:=l.Pairwise λp q=>ke p<=ke q
structure Ml(tot o X Y:List Keyed):Prop where
 perm:(o++(X++Y)).Perm tot
 sd:Sd o
 le:∀p∈o,∀q∈X++Y,ke p<=ke q
theorem Ml.left(h:Ml tot o (L++X) Y)(hs:Sd (L++X))(hl:∀p∈L,∀q∈Y,ke p<=ke q):Ml tot (o++L) X Y:=by
 obtain⟨s1,s2,s3⟩:=Qr.mp hs
 refine⟨by simpa[Ye] using h.perm,Qr.mpr ⟨h.sd,s1,λp hp q hq=>h.le p hp q (by simp[hq])⟩,λp hp q hq=>?_⟩
 rcases Jr.mp hp with hp|hp
 ·refine h.le p hp q ?_;rcases Jr.mp hq with hq|hq<;>simp[hq]
 ·rcases Jr.mp hq with hq|hq
  ·exact s3 p hp q hq
  ·exact hl p hp q hq
theorem Ml.swap(h:Ml tot o X Y):Ml tot o Y X:=⟨(List.perm_append_comm.append_left o).trans h.perm,h.sd,λp hp q hq=>h.le p hp q (by rcases Jr.mp hq with z|z<;>simp[z])⟩
theorem Ml.right(h:Ml tot o X (L++Y))(hs:Sd (L++Y))(hl:∀p∈L,∀q∈X,ke p<=ke q):Ml tot (o++L) X Y:=(h.swap.left hs hl).swap
theorem Ml.done(h:Ml tot o [] []):o.Perm tot/\Sd o:=⟨by simpa using h.perm,h.sd⟩
def Mg(a b o:Array Keyed)(i j:Nat):Prop:=Ml (a.toList++b.toList) o.toList (a.toList.drop i) (b.toList.drop j)
def Good(a b r:Array Keyed):Prop:=r.toList.Perm (a.toList++b.toList)/\Sd r.toList
theorem fF(h:Up a 0 a.size):Sd a.toList:=by
 unfold Sd;rw[Q6];intro i j hi hj hij
 have hi':i<a.size:=by simpa using hi
 have hj':j<a.size:=by simpa using hj
 have z:=h i j (Y0 _) (Vl hij) hj';rw[bT hi',bT hj']at z;simpa[ke] using z
theorem GP(h:Sd a.toList):Up a 0 a.size:=by
 intro i j _ hij hj;by_cases e:i=j
 ·subst e;exact Z6 _
 ·unfold Sd at h;rw[Q6]at h
  have z:=h i j (by simpa using(by omega:i<a.size)) (by simpa using hj) (by omega)
  rw[bT (by omega),bT hj]
  simpa[ke] using z
theorem Sd.drop{l:List Keyed}(h:Sd l)(i:Nat):Sd (l.drop i):=List.Pairwise.sublist (List.drop_sublist i l) h
theorem kq(hi:i<a.size):a.toList.drop i=[a[i]]++a.toList.drop (i+1):=by
 rw[Zl (by simpa using hi)]
 simp
theorem kr(i k:Nat):a.toList.drop i=(a.toList.drop i).take k++a.toList.drop (i+k):=by rw[<- U1,Zc]
theorem eF(a:Array Keyed)(i j:Nat):(a.extract i j).toList=(a.toList.drop i).take (j-i):=by rw[Array.toList_extract]
theorem g6(h:p∈a.toList.drop i):∃t,i<=t/\t<a.size/\ke p=K a t:=by
 obtain⟨n,hn,e⟩:=Qs.mp h
 have hl:i+n<a.size:=by simp at hn;omega
 refine⟨i+n,by omega,hl,?_⟩
 rw[bT hl,<- e];simp[ke]
theorem jk{k:Nat}(h:p∈(a.toList.drop i).take k):∃t,t<k/\i+t<a.size/\ke p=K a (i+t):=by
 obtain⟨n,hn,e⟩:=Qs.mp h
 have hl:n<k/\i+n<a.size:=by simp at hn;omega
 refine⟨n,hl.1,hl.2,?_⟩;rw[bT hl.2,<- e];simp[ke]
section
variable{a b o:Array Keyed}{i j k:Nat}
theorem Mg.bulkA(ha:Up a 0 a.size)(hb:Up b 0 b.size)(h:Mg a b o i j)(hj:j<b.size)(hk:∀t,t<k->i+t<a.size->K a (i+t)<=K b j):Mg a b (o++a.extract i (i+k)) (i+k) j:=by
 unfold Mg at h ⊢
 have e:(o++a.extract i (i+k)).toList=o.toList++(a.toList.drop i).take k:=by rw[Yk,eF];simp
 rw[e];rw[kr i k]at h
 refine h.left (by rw[<- kr];exact(fF ha).drop i) λp hp q hq=>?_
 obtain⟨t,t1,t2,e1⟩:=jk hp;obtain⟨u,u1,u2,e2⟩:=g6 hq;have:=hk t t1 t2;have:=hb j u (Y0 _) u1 u2;omega
theorem Mg.bulkB(ha:Up a 0 a.size)(hb:Up b 0 b.size)(h:Mg a b o i j)(hi:i<a.size)(hk:∀t,t<k->j+t<b.size->K b (j+t)<=K a i):Mg a b (o++b.extract j (j+k)) i (j+k):=by
 unfold Mg at h ⊢
 have e:(o++b.extract j (j+k)).toList=o.toList++(b.toList.drop j).take k:=by rw[Yk,eF];simp
 rw[e];rw[kr j k]at h
 refine h.right (by rw[<- kr];exact(fF hb).drop j) λp hp q hq=>?_
 obtain⟨t,t1,t2,e1⟩:=jk hp;obtain⟨u,u1,u2,e2⟩:=g6 hq;have:=hk t t1 t2;have:=ha i u (Y0 _) u1 u2;omega
theorem Mg.pushA(ha:Up a 0 a.size)(hb:Up b 0 b.size)(h:Mg a b o i j)(hi:i<a.size)(hj:j<b.size)(hk:K a i<=K b j):Mg a b (o.push a[i]) (i+1) j:=by
 unfold Mg at h ⊢;rw[kq hi]at h;rw[Wf]
 refine h.left (by rw[<- kq hi];exact(fF ha).drop i) λp hp q hq=>?_
 rw[Ju.mp hp];obtain⟨u,u1,u2,e2⟩:=g6 hq;have:=hb j u (Y0 _) u1 u2;have e:=bT hi;unfold ke at e2 ⊢;omega
theorem Mg.pushB(ha:Up a 0 a.size)(hb:Up b 0 b.size)(h:Mg a b o i j)(hi:i<a.size)(hj:j<b.size)(hk:K b j<=K a i):Mg a b (o.push b[j]) i (j+1):=by
 unfold Mg at h ⊢;rw[kq hj]at h;rw[Wf]
 refine h.right (by rw[<- kq hj];exact(fF hb).drop j) λp hp q hq=>?_
 rw[Ju.mp hp];obtain⟨u,u1,u2,e2⟩:=g6 hq;have:=ha i u (Y0 _) u1 u2;have e:=bT hj;unfold ke at e2 ⊢;omega
theorem nj(a:Array Keyed)(i:Nat):(a.extract i a.size).toList=a.toList.drop i:=by rw[eF,Qf (by simp)]
theorem Mg.dn(ha:Up a 0 a.size)(hb:Up b 0 b.size)(h:Mg a b o i j)(hz:j=b.size\/i=a.size):Good a b (o++a.extract i a.size++b.extract j b.size):=by
 unfold Mg at h;unfold Good;rw[Yk,Yk,nj,nj];rcases hz with rfl|rfl
 ·have e:b.toList.drop b.size=[]:=by simp
  rw[e]at h ⊢;rw[Yr]
  refine Ml.done (Ml.left (by simpa using h) (by simpa using(fF ha).drop i) λp hp q hq=>by cases hq)
 ·have e:a.toList.drop a.size=[]:=by simp
  rw[e]at h ⊢;rw[Yr]
  refine Ml.done (Ml.right (by simpa using h) (by simpa using(fF hb).drop j) λp hp q hq=>by cases hq)
theorem Mg.la(ha:Up a 0 a.size)(hb:Up b 0 b.size)(h:Mg a b o i j)(hi:i+1=a.size)(hl:∀t,t<b.size->K b t<=K a (a.size-1)):Good a b (o++b.extract j b.size++a.extract i a.size):=by
 unfold Mg at h;unfold Good;rw[Yk,Yk,nj,nj]
 have h1:Ml (a.toList++b.toList) (o.toList++b.toList.drop j) (a.toList.drop i) []:=by
  refine Ml.right (by simpa using h) (by simpa using(fF hb).drop j) λp hp q hq=>?_
  obtain⟨t,t1,t2,e1⟩:=g6 hp;obtain⟨u,u1,u2,e2⟩:=g6 hq;have:=hl t t2
  have:u=a.size-1:=by omega
  subst this;omega
 exact Ml.done (Ml.left (by simpa using h1) (by simpa using(fF ha).drop i) λp hp q hq=>by cases hq)
end
section
variable{prog:Program}{w:World}{A:Around}{E:Value->Shared->Prop}{s:Shared}
def Sg(st st':SortSt):Prop:=kindOf st'=kindOf st/\arrOf st'=arrOf st/\pendingOf st'=pendingOf st/\failedOf st'=failedOf st
theorem Sg.refl(st:SortSt):Sg st st:=⟨rfl,rfl,rfl,rfl⟩
theorem rJ{st0:SortSt}{g:Nat}{Q:Unit->SortSt->Prop}(h0:Sg st0 st)(h:∀st',Sg st0 st'->Q () st'):wpS (model prog w) A E s (sMG g) Q st:=by have e:sMG g=modify λst=>SortSt.mk' (kindOf st) (arrOf st) (pendingOf st) g (failedOf st):=rfl;rw[e];exact Qt (h _ ⟨h0.1,h0.2.1,h0.2.2.1,h0.2.2.2⟩)
end
section
variable{prog:Program}{w:World}{A:Around}{E:Value->Shared->Prop}{s:Shared}
structure Mid(a b o:Array Keyed)(i j:Nat):Prop where
 mg:Mg a b o i j
 ia:i+1<a.size
 jb:j<b.size
theorem Cu{σ α β:Type}{M:Model}{dc:Decidable c}{T:β->StateT σ Sem α}{p:StateT σ Sem α}{Q:α->σ->Prop}{st:σ}{y x:β}(hp:p=T x)(h:∀g,wpS M A E s (T g) Q st):wpS M A E s (if c then p else T y) Q st:=by
 split
 ·rw[hp];exact h x
 ·exact h y
theorem Am{σ α β γ:Type}{M:Model}{dc:Decidable c}{T:β->γ->StateT σ Sem α}{p:StateT σ Sem α}{Q:α->σ->Prop}{st:σ}{I:β->γ->Prop}{y1:β}{y2:γ}(hn:¬c->I y1 y2)
  (ht:∀o i,I o i->wpS M A E s (T o i) Q st) (hp:c->(∀o i,I o i->wpS M A E s (T o i) Q st)->wpS M A E s p Q st):wpS M A E s (if c then p else T y1 y2) Q st:=by
 by_cases hc:c
 ·rw[J8 hc];exact hp hc ht
 ·rw[Jb hc];exact ht _ _ (hn hc)
theorem EU{Q:Array Keyed->SortSt->Prop}(hk:kindOf st=oneType')(ia:IK a)(ib:IK b)(ha:Up a 0 a.size)(hb:Up b 0 b.size)(a1:1<=a.size)(b1:1<=b.size)(h0:K b 0<=K a 0)(hl:∀t,t<b.size->K b t<=K a (a.size-1))
  (h:∀r st',Good a b r->Sg st st'->Q r st'):wpS (model prog w) A E s (mLo a b) Q st:=by
 rw[ET];dsimp only;refine Je (Vh (Yv ⟨rfl,?_⟩))
 refine Je (aY (by omega) ?_)
 have m0:Mg a b #[b[0]] 0 1:=by
  have z:Mg a b #[] 0 0:=⟨by simp,List.Pairwise.nil,λp hp=>by cases hp⟩
  exact z.pushB ha hb (by omega) (by omega) h0
 by_cases g1:1=b.size
 ·rw[J8 (by simpa using g1)]
  exact Jf (h _ _ (m0.dn ha hb (.inl g1)) (Sg.refl st))
 rw[Jb (by simpa using g1)]
 by_cases g2:0+1=a.size
 ·rw[J8 (by simpa using g2)]
  exact Jf (h _ _ (m0.la ha hb g2 hl) (Sg.refl st))
 rw[Jb (by simpa using g2)]
 refine Je (Wk ?_);have kd:∀{st'},Sg st st'->kindOf st'=oneType':=λz=>z.1.trans hk
 refine Je (Z7 (Ym (I:=λx c st'=>Sg st st'/\∃o i j g,c=(none,o,i,j,g)/\Mid a b o i j/\x+1<=i+j)
  (Q:=λc st'=>Sg st st'/\∃r,c.1=some r/\Good a b r) ?step ?fin ⟨Sg.refl st,_,0,1,_,rfl,⟨m0,by omega,by omega⟩,by omega⟩) ?post)
 case fin=>
  rintro c st' ⟨_,o,i,j,g,_,m,hx⟩;have:=m.ia;have:=m.jb;omega
 case post=>
  rintro⟨c,o,i,j,g⟩ st' ⟨z,r,e,hr⟩;cases e;exact Jf (h r st' hr z)
 case step=>
  rintro x c st' _ hx ⟨z,o,i,j,g,rfl,m,hp⟩;dsimp only
  refine Je (Z7 (Ym (I:=λy c st'=>Sg st st'/\∃o' i' j' ca cb,c=(none,o',i',j',ca,cb)/\Mid a b o' i' j'/\i+j+y<=i'+j')
   (Q:=λc st'=>Sg st st'/\((∃r,c.1=some r/\Good a b r) \/ ∃o' i' j' ca cb,c=(none,o',i',j',ca,cb)/\Mid a b o' i' j'/\i+j+1<=i'+j')) ?s1 ?f1 ⟨z,o,i,j,0,0,rfl,m,by omega⟩) ?p1)
  case f1=>
   rintro c st' ⟨z,o',i',j',ca,cb,rfl,m,hy⟩
   exact⟨z,.inr ⟨o',i',j',ca,cb,rfl,m,by omega⟩⟩
  case s1=>
   rintro y c st' _ hy ⟨z,o',i',j',ca,cb,rfl,m,hp'⟩;dsimp only;have mi:=m.ia;have mj:=m.jb;refine Je (aY mj ?_)
   refine Je (aY (by omega) ?_)
   refine Je (tP (kd z) (ib.get mj) (ia.get (by omega)) ?_)
   dsimp only
   rw[<- bT mj,<- bT (show i'<a.size by omega)]
   by_cases hlt:K b j'<K a i'
   ·rw[J8 (by simpa using hlt)]
    refine Je (aY mj ?_)
    have m2:=m.mg.pushB ha hb (by omega) mj (Yy hlt)
    by_cases e1:j'+1=b.size
    ·rw[J8 (by simpa using e1)]
     exact Jf ⟨z,.inl ⟨_,rfl,m2.dn ha hb (.inl e1)⟩⟩
    ·rw[Jb (by simpa using e1)]
     split
     ·exact Jf ⟨z,.inr ⟨_,_,_,_,_,rfl,⟨m2,by omega,by omega⟩,by omega⟩⟩
     ·exact Jf ⟨z,_,_,_,_,_,rfl,⟨m2,by omega,by omega⟩,by omega⟩
   ·rw[Jb (by simpa using hlt)]
    refine Je (aY (by omega) ?_)
    have m2:=m.mg.pushA ha hb (by omega) mj (Uv.mp hlt)
    by_cases e1:i'+1+1=a.size
    ·rw[J8 (by simpa using e1)]
     exact Jf ⟨z,.inl ⟨_,rfl,m2.la ha hb e1 hl⟩⟩
    ·rw[Jb (by simpa using e1)]
     split
     ·exact Jf ⟨z,.inr ⟨_,_,_,_,_,rfl,⟨m2,by omega,by omega⟩,by omega⟩⟩
     ·exact Jf ⟨z,_,_,_,_,_,rfl,⟨m2,by omega,by omega⟩,by omega⟩
  case p1=>
   rintro c st' ⟨z,⟨r,e,hr⟩|⟨o',i',j',ca,cb,rfl,m,hp'⟩⟩
   ·obtain⟨c,o',i',j',ca,cb⟩:=c;cases e;exact Jf ⟨z,r,rfl,hr⟩
   dsimp only;refine Je (Vh (Yv ⟨rfl,?_⟩))
   refine Je (Z7 (Ym (I:=λy c st'=>Sg st st'/\∃o2 i2 j2 g ca cb,c=(none,o2,i2,j2,g,ca,cb)/\Mid a b o2 i2 j2/\i+j+1<=i2+j2)
    (Q:=λc st'=>Sg st st'/\((∃r,c.1=some r/\Good a b r) \/ ∃o2 i2 j2 g ca cb,c=(none,o2,i2,j2,g,ca,cb)/\Mid a b o2 i2 j2/\i+j+1<=i2+j2)) ?s2 ?f2 ⟨z,_,_,_,_,_,_,rfl,m,hp'⟩) ?p2)
   case f2=>
    rintro c st' ⟨z,o2,i2,j2,g2,ca,cb,rfl,m,hy⟩;exact⟨z,.inr ⟨o2,i2,j2,g2,ca,cb,rfl,m,hy⟩⟩
   case p2=>
    rintro c st' ⟨z,⟨r,e,hr⟩|⟨o2,i2,j2,g2,ca,cb,rfl,m,hp'⟩⟩
    ·obtain⟨c,o2,i2,j2,g2,ca,cb⟩:=c;cases e;exact Jf ⟨z,r,rfl,hr⟩
    dsimp only
    exact Je (rJ z λst' z=>Jf ⟨z,_,_,_,_,rfl,m,by omega⟩)
   case s2=>
    rintro y c st' _ hy ⟨z,o2,i2,j2,g2,ca,cb,rfl,m,hp'⟩;dsimp only;have mi:=m.ia;have mj:=m.jb;have hm:=m.mg;clear m;apply Cu (y:=g2) (x:=g2-1)
    case hp=>rfl
    intro g3;refine Je (rJ z λst' z=>?_);refine Je (aY mj ?_)
    refine Je (jS (kd z) ia (ib.get mj) (by omega) (by omega) (λp q _ hpq hq=>ha p q (Y0 _) hpq (by omega)) λk k1 k2 k3=>?_)
    dsimp only
    have q2:∀t,t<k->i2+t<a.size->K a (i2+t)<=K b j2:=λt ht _=>by have:=k2 t ht;rw[bT mj];simpa[bef] using this
    have q3:k<a.size-i2->K b j2<=K a (i2+k):=λhkk=>by
     have:=k3 k (J9 _) hkk;rw[bT mj]
     exact Yy (by simpa[bef] using this)
    have hm':=hm.bulkA ha hb mj q2;apply Am (I:=λo3 i3=>Mg a b o3 i3 j2/\i3+1<a.size/\i2<=i3/\K b j2<=K a i3) (y1:=o2) (y2:=i2)
    case hn=>
     intro hk0
     have hk1:k=0:=by omega
     subst hk1
     have hq3:=q3 (by omega)
     rw[Nat.add_zero]at hq3
     exact⟨hm,by omega,J9 _,hq3⟩
    case hp=>
     intro hk0 key;split
     ·rename_i e3
      exact Jf ⟨z,.inl ⟨_,rfl,hm'.la ha hb (by simpa using e3) hl⟩⟩
     ·rename_i e3;split
      ·rename_i e4
       exact Jf ⟨z,.inl ⟨_,rfl,hm'.dn ha hb (.inr (by simpa using e4))⟩⟩
      ·rename_i e4;simp at e3 e4
       exact key _ _ ⟨hm',by omega,by omega,q3 (by omega)⟩
    intro o3 i3 y3;obtain⟨hm3,hi3,le3,hq3⟩:=y3
    have hi4:i3<a.size:=by omega
    refine Je (aY mj ?_)
    have m4:=hm3.pushB ha hb (by omega) mj hq3
    by_cases e4:j2+1=b.size
    ·rw[J8 (by simpa using e4)]
     exact Jf ⟨z,.inl ⟨_,rfl,m4.dn ha hb (.inl e4)⟩⟩
    rw[Jb (by simpa using e4)]
    generalize o3.push b[j2]=o5 at m4 ⊢;generalize ej:j2+1=j5 at m4 e4 ⊢;refine Je (aY hi4 ?_)
    refine Je (jS (kd z) ib (ia.get hi4) (by omega) (by omega) (λp q _ hpq hq=>hb p q (Y0 _) hpq (by omega)) λu u1 u2 u3=>?_)
    dsimp only;apply Am (I:=λo4 j4=>Mg a b o4 i3 j4/\j4<b.size/\j2+1<=j4/\K a i3<=K b j4) (y1:=o5) (y2:=j5)
    case hn=>
     intro hu
     have hu0:u=0:=by omega
     subst hu0
     have hq6:=u3 0 (J9 _) (by omega)
     simp[bef]at hq6;rw[<- bT hi4]at hq6
     exact⟨m4,by omega,by omega,hq6⟩
    case hp=>
     intro hu key
     have hm6:=m4.bulkB (k:=u) ha hb hi4 λt ht _=>by
      have:=u2 t ht;rw[bT hi4]
      exact Yy (by simpa[bef] using this)
     split
     ·rename_i e5
      exact Jf ⟨z,.inl ⟨_,rfl,hm6.dn ha hb (.inl (by simpa using e5))⟩⟩
     ·rename_i e5;simp at e5
      have hq6:=u3 u (J9 _) (by omega)
      simp[bef]at hq6;rw[<- bT hi4]at hq6
      exact key _ _ ⟨hm6,by omega,by omega,hq6⟩
    intro o4 j4 y4;obtain⟨hm6,hj6,le6,hq6⟩:=y4
    refine Je (aY (by omega) ?_)
    have m6:=hm6.pushA ha hb (by omega) hj6 hq6
    split
    ·rename_i e6
     exact Jf ⟨z,.inl ⟨_,rfl,m6.la ha hb (by simpa using e6) hl⟩⟩
    ·rename_i e6;simp at e6;split
     ·exact Jf ⟨z,.inr ⟨_,_,_,_,_,_,rfl,⟨m6,by omega,by omega⟩,by omega⟩⟩
     ·exact Jf ⟨z,_,_,_,_,_,_,rfl,⟨m6,by omega,by omega⟩,by omega⟩
end
noncomputable def mHi:Array Keyed->Array Keyed->SM (Array Keyed):=sortPriv% PySem.Builtin.mergeHi
theorem EV(a b:Array Keyed):mHi a b=(do
 rule "list.sort.merge-hi"
 let tt:=a.size+b.size
 let dn (o:Array Keyed) (i j:Nat):=a.extract 0 i++b.extract 0 j++o.reverse
 let fb (o:Array Keyed) (i j:Nat):=b.extract 0 j++a.extract 0 i++o.reverse
 let mut i:=a.size-1
 let mut j:=b.size
 let mut o:Array Keyed:=#[<- elem' a i]
 if i == 0 then return dn o i j
 if j == 1 then return fb o i j
 let mut g:=gallopOf (<- get)
 for _ in [0:tt] do
  let mut ca:=0
  let mut cb:=0
  for _ in [0:tt] do
   let some v <- lt' (<- elem' b (j-1)) (<- elem' a (i-1))|return dn o i j
   if v then
    i:=i-1;o:=o.push (<- elem' a i);ca:=ca+1;cb:=0
    if i == 0 then return dn o i j
    if ca >= g then break
   else
    j:=j-1;o:=o.push (<- elem' b j);cb:=cb+1;ca:=0
    if j == 1 then return fb o i j
    if cb >= g then break
  rule "list.sort.gallop"
  g:=g+1
  for _ in [0:tt] do
   if g>1 then g:=g-1
   sMG g
   let some z <- gal false (<- elem' b (j-1)) a 0 i (i-1)|return dn o i j
   let k:=i-z
   ca:=k
   if k>0 then
    o:=o++(a.extract z i).reverse;i:=z
    if i == 0 then return dn o i j
   j:=j-1;o:=o.push (<- elem' b j)
   if j == 1 then return fb o i j
   let some z <- gal true (<- elem' a (i-1)) b 0 j (j-1)|return dn o i j
   let k:=j-z
   cb:=k
   if k>0 then
    o:=o++(b.extract z j).reverse;j:=z
    if j == 1 then return fb o i j
    if j == 0 then return dn o i j
   i:=i-1;o:=o.push (<- elem' a i)
   if i == 0 then return dn o i j
   if ca<7&&cb<7 then break
  g:=g+1
  sMG g
 unsupported "internal:list.sort.merge-bound"):=rfl
structure Mr(tot X Y o:List Keyed):Prop where
 perm:(X++Y++o).Perm tot
 sd:Sd o
 le:∀q∈X++Y,∀p∈o,ke q<=ke p
theorem Mr.swap(h:Mr tot X Y o):Mr tot Y X o:=⟨(List.perm_append_comm.append_right o).trans h.perm,h.sd,λq hq=>h.le q (by rcases Jr.mp hq with z|z<;>simp[z])⟩
theorem Mr.left(h:Mr tot Y (X++L) o)(hs:Sd (X++L))(hl:∀q∈Y,∀p∈L,ke q<=ke p):Mr tot Y X (L++o):=by
 obtain⟨s1,s2,s3⟩:=Qr.mp hs
 refine⟨by simpa[Ye] using h.perm,Qr.mpr ⟨s2,h.sd,λp hp q hq=>h.le p (by simp[hp]) q hq⟩,λq hq p hp=>?_⟩
 rcases Jr.mp hp with hp|hp
 ·rcases Jr.mp hq with hq|hq
  ·exact hl q hq p hp
  ·exact s3 q hq p hp
 ·refine h.le q ?_ p hp;rcases Jr.mp hq with hq|hq<;>simp[hq]
theorem Mr.right(h:Mr tot (X++L) Y o)(hs:Sd (X++L))(hl:∀q∈Y,∀p∈L,ke q<=ke p):Mr tot X Y (L++o):=(h.swap.left hs hl).swap
theorem Mr.done(h:Mr tot [] [] o):o.Perm tot/\Sd o:=⟨by simpa using h.perm,h.sd⟩
def Mt(a b o:Array Keyed)(i j:Nat):Prop:=Mr (a.toList++b.toList) (a.toList.take i) (b.toList.take j) o.toList.reverse
theorem Sd.take{l:List Keyed}(h:Sd l)(i:Nat):Sd (l.take i):=List.Pairwise.sublist (List.take_sublist i l) h
theorem g7(h:p∈a.toList.take i):∃t,t<i/\t<a.size/\ke p=K a t:=by
 obtain⟨t,h1,h2,e⟩:=jk (i:=0) (k:=i) (a:=a) (p:=p) (by simpa using h)
 exact⟨t,h1,by omega,by simpa using e⟩
theorem ku(hi:i<a.size):a.toList.take (i+1)=a.toList.take i++[a[i]]:=by
 rw[List.take_succ_eq_append_getElem (by simpa using hi)]
 simp
theorem kx{z:Nat}(hz:z<=i):a.toList.take i=a.toList.take z++(a.toList.drop z).take (i-z):=by
 have e:i=z+(i-z):=by omega
 conv=>lhs;rw[e,List.take_add]
theorem kz(a:Array Keyed)(i:Nat):(a.extract 0 i).toList=a.toList.take i:=by rw[eF];simp
section
variable{a b o:Array Keyed}{i j k z:Nat}
theorem Mt.bulkA(ha:Up a 0 a.size)(hb:Up b 0 b.size)(h:Mt a b o i j)(hj:j<=b.size)(j1:1<=j)(hz:z<=i)(hi:i<=a.size)(hk:∀t,z<=t->t<i->K b (j-1)<=K a t):Mt a b (o++(a.extract z i).reverse) z j:=by
 unfold Mt at h ⊢
 have e:(o++(a.extract z i).reverse).toList.reverse=(a.toList.drop z).take (i-z)++o.toList.reverse:=by rw[Yk,V1,Ws,List.reverse_reverse,eF]
 rw[e];rw[kx hz]at h
 refine h.right (by rw[<- kx hz];exact(fF ha).take i) λq hq p hp=>?_
 obtain⟨t,t1,t2,e1⟩:=jk hp;obtain⟨u,u1,u2,e2⟩:=g7 hq
 have:=hk (z+t) (by omega) (by omega)
 have:=hb u (j-1) (Y0 _) (by omega) (by omega)
 omega
theorem Mt.bulkB(ha:Up a 0 a.size)(hb:Up b 0 b.size)(h:Mt a b o i j)(hj:j<=b.size)(i1:1<=i)(hz:z<=j)(hi:i<=a.size)(hk:∀t,z<=t->t<j->K a (i-1)<=K b t):Mt a b (o++(b.extract z j).reverse) i z:=by
 unfold Mt at h ⊢
 have e:(o++(b.extract z j).reverse).toList.reverse=(b.toList.drop z).take (j-z)++o.toList.reverse:=by rw[Yk,V1,Ws,List.reverse_reverse,eF]
 rw[e];rw[kx hz]at h
 refine h.left (by rw[<- kx hz];exact(fF hb).take j) λq hq p hp=>?_
 obtain⟨t,t1,t2,e1⟩:=jk hp;obtain⟨u,u1,u2,e2⟩:=g7 hq
 have:=hk (z+t) (by omega) (by omega)
 have:=ha u (i-1) (Y0 _) (by omega) (by omega)
 omega
theorem Mt.pushA(ha:Up a 0 a.size)(hb:Up b 0 b.size)(h:Mt a b o (i+1) j)(hi:i<a.size)(hk:∀t,t<j->t<b.size->K b t<=K a i):Mt a b (o.push a[i]) i j:=by
 unfold Mt at h ⊢;rw[ku hi]at h;rw[Wf,V1]
 refine h.right (by rw[<- ku hi];exact(fF ha).take _) λq hq p hp=>?_
 rw[Ju.mp hp];obtain⟨u,u1,u2,e2⟩:=g7 hq;have:=hk u u1 u2;have e:=bT hi;unfold ke at e2 ⊢;omega
theorem Mt.pushB(ha:Up a 0 a.size)(hb:Up b 0 b.size)(h:Mt a b o i (j+1))(hj:j<b.size)(hk:∀t,t<i->t<a.size->K a t<=K b j):Mt a b (o.push b[j]) i j:=by
 unfold Mt at h ⊢;rw[ku hj]at h;rw[Wf,V1]
 refine h.left (by rw[<- ku hj];exact(fF hb).take _) λq hq p hp=>?_
 rw[Ju.mp hp];obtain⟨u,u1,u2,e2⟩:=g7 hq;have:=hk u u1 u2;have e:=bT hj;unfold ke at e2 ⊢;omega
theorem Mt.dn(ha:Up a 0 a.size)(hb:Up b 0 b.size)(h:Mt a b o i j)(hz:i=0\/j=0):Good a b (a.extract 0 i++b.extract 0 j++o.reverse):=by
 unfold Mt at h;unfold Good;rw[Yk,Yk,kz,kz,Ws];rcases hz with rfl|rfl
 ·rw[Uu]at h ⊢;rw[Q0]
  exact Mr.done (Mr.left (by simpa using h) (by simpa using(fF hb).take j) λq hq=>by cases hq)
 ·rw[Uu]at h ⊢;rw[Yr]
  exact Mr.done (Mr.right (by simpa using h) (by simpa using(fF ha).take i) λq hq=>by cases hq)
theorem Mt.fb(ha:Up a 0 a.size)(hb:Up b 0 b.size)(h:Mt a b o i j)(hj:j=1)(hl:∀t,t<a.size->K b 0<=K a t):Good a b (b.extract 0 j++a.extract 0 i++o.reverse):=by
 subst hj;unfold Mt at h;unfold Good;rw[Yk,Yk,kz,kz,Ws,Ye]
 have h1:Mr (a.toList++b.toList) [] (b.toList.take 1) (a.toList.take i++o.toList.reverse):=by
  refine Mr.right (by simpa using h) (by simpa using(fF ha).take i) λq hq p hp=>?_
  obtain⟨t,t1,t2,e1⟩:=g7 hp;obtain⟨u,u1,u2,e2⟩:=g7 hq;have:=hl t t2
  have:u=0:=by omega
  subst this;omega
 exact Mr.done (Mr.left (by simpa using h1) (by simpa using(fF hb).take 1) λq hq=>by cases hq)
end
section
variable{prog:Program}{w:World}{A:Around}{E:Value->Shared->Prop}{s:Shared}
structure Mie(a b o:Array Keyed)(i j:Nat):Prop where
 mg:Mt a b o i j
 i1:1<=i
 ia:i<=a.size
 j1:2<=j
 jb:j<=b.size
set_option maxHeartbeats 2000000 in
theorem EW{Q:Array Keyed->SortSt->Prop}(hk:kindOf st=oneType')(ia:IK a)(ib:IK b)(ha:Up a 0 a.size)(hb:Up b 0 b.size)(a1:1<=a.size)(b1:1<=b.size)(hl:∀t,t<a.size->K b 0<=K a t)(h0:∀t,t<b.size->K b t<=K a (a.size-1))
  (h:∀r st',Good a b r->Sg st st'->Q r st'):wpS (model prog w) A E s (mHi a b) Q st:=by
 rw[EV];dsimp only;refine Je (Vh (Yv ⟨rfl,?_⟩))
 refine Je (aY (by omega) ?_)
 have m0:Mt a b #[a[a.size-1]] (a.size-1) b.size:=by
  have z:Mt a b #[] (a.size-1+1) b.size:=⟨by rw[show a.size-1+1=a.size by omega,Qf (by simp),Qf (by simp)];simp,List.Pairwise.nil,λq hq p hp=>by cases hp⟩
  exact z.pushA ha hb (by omega) λt _ ht=>h0 t ht
 by_cases g1:a.size-1=0
 ·rw[J8 (by simpa using g1)]
  exact Jf (h _ _ (m0.dn ha hb (.inl g1)) (Sg.refl st))
 rw[Jb (by simpa using g1)]
 by_cases g2:b.size=1
 ·rw[J8 (by simpa using g2)]
  exact Jf (h _ _ (m0.fb ha hb g2 hl) (Sg.refl st))
 rw[Jb (by simpa using g2)]
 refine Je (Wk ?_);have kd:∀{st'},Sg st st'->kindOf st'=oneType':=λz=>z.1.trans hk
 refine Je (Z7 (Ym (I:=λx c st'=>Sg st st'/\∃o i j g,c=(none,i,j,o,g)/\Mie a b o i j/\i+j+x+1<=a.size+b.size)
  (Q:=λc st'=>Sg st st'/\∃r,c.1=some r/\Good a b r) ?step ?fin ⟨Sg.refl st,_,_,_,_,rfl,⟨m0,by omega,by omega,by omega,by omega⟩,by omega⟩) ?post)
 all_goals skip
 case fin=>
  rintro c st' ⟨_,o,i,j,g,_,m,hx⟩;have:=m.i1;omega
 case post=>
  rintro⟨c,i,j,o,g⟩ st' ⟨z,r,e,hr⟩;cases e;exact Jf (h r st' hr z)
 case step=>
  rintro x c st' _ hx ⟨z,o,i,j,g,rfl,m,hp⟩;dsimp only
  refine Je (Z7 (Ym (I:=λy c st'=>Sg st st'/\∃o' i' j' ca cb,c=(none,i',j',o',ca,cb)/\Mie a b o' i' j'/\i'+j'+y<=i+j)
   (Q:=λc st'=>Sg st st'/\((∃r,c.1=some r/\Good a b r) \/ ∃o' i' j' ca cb,c=(none,i',j',o',ca,cb)/\Mie a b o' i' j'/\i'+j'+1<=i+j)) ?s1 ?f1 ⟨z,_,_,_,0,0,rfl,m,by omega⟩) ?p1)
  case f1=>
   rintro c st' ⟨z,o',i',j',ca,cb,rfl,m,hy⟩
   exact⟨z,.inr ⟨o',i',j',ca,cb,rfl,m,by omega⟩⟩
  case s1=>
   rintro y c st' _ hy ⟨z,o',i',j',ca,cb,rfl,⟨mm,mi1,mi,mj1,mj⟩,hp'⟩;dsimp only
   have hj9:j'-1<b.size:=by omega
   have hi9:i'-1<a.size:=by omega
   refine Je (aY hj9 ?_);refine Je (aY hi9 ?_);refine Je (tP (kd z) (ib.get hj9) (ia.get hi9) ?_);dsimp only;rw[<- bT hj9,<- bT hi9];by_cases hlt:K b (j'-1)<K a (i'-1)
   ·rw[J8 (by simpa using hlt)]
    refine Je (aY hi9 ?_)
    have m2:=Mt.pushA (i:=i'-1) ha hb (by rw[show i'-1+1=i' by omega];exact mm) hi9 λt h1 h2=>Zr (hb t (j'-1) (Y0 _) (by omega) hj9) (Yy hlt)
    by_cases e1:i'-1=0
    ·rw[J8 (by simpa using e1)]
     exact Jf ⟨z,.inl ⟨_,rfl,m2.dn ha hb (.inl e1)⟩⟩
    ·rw[Jb (by simpa using e1)]
     split
     ·exact Jf ⟨z,.inr ⟨_,_,_,_,_,rfl,⟨m2,by omega,by omega,by omega,by omega⟩,by omega⟩⟩
     ·exact Jf ⟨z,_,_,_,_,_,rfl,⟨m2,by omega,by omega,by omega,by omega⟩,by omega⟩
   ·rw[Jb (by simpa using hlt)]
    refine Je (aY hj9 ?_)
    have m2:=Mt.pushB (j:=j'-1) ha hb (by rw[show j'-1+1=j' by omega];exact mm) hj9 λt h1 h2=>Zr (ha t (i'-1) (Y0 _) (by omega) hi9) (Uv.mp hlt)
    by_cases e1:j'-1=1
    ·rw[J8 (by simpa using e1)]
     exact Jf ⟨z,.inl ⟨_,rfl,m2.fb ha hb e1 hl⟩⟩
    ·rw[Jb (by simpa using e1)]
     split
     ·exact Jf ⟨z,.inr ⟨_,_,_,_,_,rfl,⟨m2,by omega,by omega,by omega,by omega⟩,by omega⟩⟩
     ·exact Jf ⟨z,_,_,_,_,_,rfl,⟨m2,by omega,by omega,by omega,by omega⟩,by omega⟩
  case p1=>
   rintro c st' ⟨z,⟨r,e,hr⟩|⟨o',i',j',ca,cb,rfl,m,hp'⟩⟩
   ·obtain⟨c,o',i',j',ca,cb⟩:=c;cases e;exact Jf ⟨z,r,rfl,hr⟩
   dsimp only;refine Je (Vh (Yv ⟨rfl,?_⟩))
   refine Je (Z7 (Ym (I:=λy c st'=>Sg st st'/\∃o2 i2 j2 g ca cb,c=(none,i2,j2,o2,g,ca,cb)/\Mie a b o2 i2 j2/\i2+j2+1<=i+j)
    (Q:=λc st'=>Sg st st'/\((∃r,c.1=some r/\Good a b r) \/ ∃o2 i2 j2 g ca cb,c=(none,i2,j2,o2,g,ca,cb)/\Mie a b o2 i2 j2/\i2+j2+1<=i+j)) ?s2 ?f2 ⟨z,_,_,_,_,_,_,rfl,m,hp'⟩) ?p2)
   case f2=>
    rintro c st' ⟨z,o2,i2,j2,g2,ca,cb,rfl,m,hy⟩;exact⟨z,.inr ⟨o2,i2,j2,g2,ca,cb,rfl,m,hy⟩⟩
   case p2=>
    rintro c st' ⟨z,⟨r,e,hr⟩|⟨o2,i2,j2,g2,ca,cb,rfl,m,hp'⟩⟩
    ·obtain⟨c,o2,i2,j2,g2,ca,cb⟩:=c;cases e;exact Jf ⟨z,r,rfl,hr⟩
    dsimp only
    exact Je (rJ z λst' z=>Jf ⟨z,_,_,_,_,rfl,m,by omega⟩)
   case s2=>
    rintro y c st' _ hy ⟨z,o2,i2,j2,g2,ca,cb,rfl,⟨hm,mi1,mi,mj1,mj⟩,hp'⟩;dsimp only
    have hj9:j2-1<b.size:=by omega
    by_cases hg:g2>1
    all_goals (first|rw[J8 hg]|rw[Jb hg])
    all_goals
     refine Je (rJ z λst' z=>?_);refine Je (aY hj9 ?_)
     refine Je (jS (kd z) ia (ib.get hj9) (by omega) (by omega) (λp q _ hpq hq=>ha p q (Y0 _) hpq (by omega)) λk k1 k2 k3=>?_)
     dsimp only
     have q2:∀t,t<k->t<a.size->K a t<=K b (j2-1):=λt ht _=>by have:=k2 t ht;rw[bT hj9];simpa[bef] using this
     have q3:∀t,k<=t->t<i2->K b (j2-1)<=K a t:=λt h1 h2=>by
      have:=k3 t h1 h2;rw[bT hj9]
      exact Yy (by simpa[bef] using this)
     by_cases hk0:i2-k>0
     ·rw[J8 hk0]
      have hm3:=hm.bulkA (z:=k) ha hb mj (by omega) k1 mi q3
      split
      ·rename_i e3
       exact Jf ⟨z,.inl ⟨_,rfl,hm3.dn ha hb (.inl (by simpa using e3))⟩⟩
      ·rename_i e3;simp at e3;obtain⟨i3,hi3⟩:∃i3,i3=k:=⟨k,rfl⟩;subst hi3;have hq3:=q2
       refine Je (aY (by omega) ?_)
       have m4:=Mt.pushB (j:=j2-1) ha hb (by rw[show j2-1+1=j2 by omega];exact hm3) (by omega) hq3
       split
       ·rename_i e4
        exact Jf ⟨z,.inl ⟨_,rfl,m4.fb ha hb (by simpa using e4) hl⟩⟩
       rename_i e4;simp at e4
       have hi4:i3-1<a.size:=by omega
       refine Je (aY hi4 ?_)
       refine Je (jS (kd z) ib (ia.get hi4) (by omega) (by omega) (λp q _ hpq hq=>hb p q (Y0 _) hpq (by omega)) λu u1 u2 u3=>?_)
       dsimp only
       have v2:∀t,t<u->K b t<=K a (i3-1):=λt ht=>by
        have:=u2 t ht;rw[bT hi4]
        exact Yy (by simpa[bef] using this)
       have v3:∀t,u<=t->t<j2-1->K a (i3-1)<=K b t:=λt h1 h2=>by have:=u3 t h1 h2;rw[bT hi4];simpa[bef] using this
       by_cases hu:j2-1-u>0
       ·rw[J8 hu]
        have hm6:=m4.bulkB (z:=u) ha hb (by omega) (by omega) (by omega) (by omega) v3
        split
        ·rename_i e5
         exact Jf ⟨z,.inl ⟨_,rfl,hm6.fb ha hb (by simpa using e5) hl⟩⟩
        ·rename_i e5;split
         ·rename_i e7
          exact Jf ⟨z,.inl ⟨_,rfl,hm6.dn ha hb (.inr (by simpa using e7))⟩⟩
         ·rename_i e7;simp at e5 e7;have hq6:∀t,t<u->t<b.size->K b t<=K a (i3-1):=λt h1 _=>v2 t h1
          refine Je (aY (by omega) ?_)
          have m6:=Mt.pushA (i:=i3-1) ha hb (by rw[show i3-1+1=i3 by omega];exact hm6) (by omega) hq6
          split
          ·rename_i e6
           exact Jf ⟨z,.inl ⟨_,rfl,m6.dn ha hb (.inl (by simpa using e6))⟩⟩
          ·rename_i e6;simp at e6;split
           ·exact Jf ⟨z,.inr ⟨_,_,_,_,_,_,rfl,⟨m6,by omega,by omega,by omega,by omega⟩,by omega⟩⟩
           ·exact Jf ⟨z,_,_,_,_,_,_,rfl,⟨m6,by omega,by omega,by omega,by omega⟩,by omega⟩
       ·rw[Jb hu]
        have hu0:u=j2-1:=by omega
        have hm6:=m4
        have hq6:∀t,t<j2-1->t<b.size->K b t<=K a (i3-1):=λt h1 _=>v2 t (by omega)
        refine Je (aY (by omega) ?_)
        have m6:=Mt.pushA (i:=i3-1) ha hb (by rw[show i3-1+1=i3 by omega];exact hm6) (by omega) hq6
        split
        ·rename_i e6
         exact Jf ⟨z,.inl ⟨_,rfl,m6.dn ha hb (.inl (by simpa using e6))⟩⟩
        ·rename_i e6;simp at e6;split
         ·exact Jf ⟨z,.inr ⟨_,_,_,_,_,_,rfl,⟨m6,by omega,by omega,by omega,by omega⟩,by omega⟩⟩
         ·exact Jf ⟨z,_,_,_,_,_,_,rfl,⟨m6,by omega,by omega,by omega,by omega⟩,by omega⟩
     ·rw[Jb hk0]
      have hk1:k=i2:=by omega
      subst hk1;have hm3:=hm;obtain⟨i3,hi3⟩:∃i3,i3=k:=⟨k,rfl⟩;subst hi3;have hq3:=q2
      refine Je (aY (by omega) ?_)
      have m4:=Mt.pushB (j:=j2-1) ha hb (by rw[show j2-1+1=j2 by omega];exact hm3) (by omega) hq3
      split
      ·rename_i e4
       exact Jf ⟨z,.inl ⟨_,rfl,m4.fb ha hb (by simpa using e4) hl⟩⟩
      rename_i e4;simp at e4
      have hi4:i3-1<a.size:=by omega
      refine Je (aY hi4 ?_)
      refine Je (jS (kd z) ib (ia.get hi4) (by omega) (by omega) (λp q _ hpq hq=>hb p q (Y0 _) hpq (by omega)) λu u1 u2 u3=>?_)
      dsimp only
      have v2:∀t,t<u->K b t<=K a (i3-1):=λt ht=>by
       have:=u2 t ht;rw[bT hi4]
       exact Yy (by simpa[bef] using this)
      have v3:∀t,u<=t->t<j2-1->K a (i3-1)<=K b t:=λt h1 h2=>by have:=u3 t h1 h2;rw[bT hi4];simpa[bef] using this
      by_cases hu:j2-1-u>0
      ·rw[J8 hu]
       have hm6:=m4.bulkB (z:=u) ha hb (by omega) (by omega) (by omega) (by omega) v3
       split
       ·rename_i e5
        exact Jf ⟨z,.inl ⟨_,rfl,hm6.fb ha hb (by simpa using e5) hl⟩⟩
       ·rename_i e5;split
        ·rename_i e7
         exact Jf ⟨z,.inl ⟨_,rfl,hm6.dn ha hb (.inr (by simpa using e7))⟩⟩
        ·rename_i e7;simp at e5 e7;have hq6:∀t,t<u->t<b.size->K b t<=K a (i3-1):=λt h1 _=>v2 t h1
         refine Je (aY (by omega) ?_)
         have m6:=Mt.pushA (i:=i3-1) ha hb (by rw[show i3-1+1=i3 by omega];exact hm6) (by omega) hq6
         split
         ·rename_i e6
          exact Jf ⟨z,.inl ⟨_,rfl,m6.dn ha hb (.inl (by simpa using e6))⟩⟩
         ·rename_i e6;simp at e6;split
          ·exact Jf ⟨z,.inr ⟨_,_,_,_,_,_,rfl,⟨m6,by omega,by omega,by omega,by omega⟩,by omega⟩⟩
          ·exact Jf ⟨z,_,_,_,_,_,_,rfl,⟨m6,by omega,by omega,by omega,by omega⟩,by omega⟩
      ·rw[Jb hu]
       have hu0:u=j2-1:=by omega
       have hm6:=m4
       have hq6:∀t,t<j2-1->t<b.size->K b t<=K a (i3-1):=λt h1 _=>v2 t (by omega)
       refine Je (aY (by omega) ?_)
       have m6:=Mt.pushA (i:=i3-1) ha hb (by rw[show i3-1+1=i3 by omega];exact hm6) (by omega) hq6
       split
       ·rename_i e6
        exact Jf ⟨z,.inl ⟨_,rfl,m6.dn ha hb (.inl (by simpa using e6))⟩⟩
       ·rename_i e6;simp at e6;split
        ·exact Jf ⟨z,.inr ⟨_,_,_,_,_,_,rfl,⟨m6,by omega,by omega,by omega,by omega⟩,by omega⟩⟩
        ·exact Jf ⟨z,_,_,_,_,_,_,rfl,⟨m6,by omega,by omega,by omega,by omega⟩,by omega⟩
end
structure SB(a0 A0:Array Keyed)(P:Array (Nat×Nat×Nat))(lo:Nat)(st:SortSt):Prop where
 perm:(arrOf st).Perm a0
 kind:kindOf st=oneType'
 failed:failedOf st=none
 pend:pendingOf st=P
 low:∀t,t<lo->K (arrOf st) t=K A0 t
theorem SB.size{a0 A0:Array Keyed}{P:Array (Nat×Nat×Nat)}(h:SB a0 A0 P lo st):(arrOf st).size=a0.size:=h.perm.size_eq
theorem xl(h:IK b)(p:a.Perm b):IK a:=λx hx=>h x ((Wy.mp p).mem_iff.mp hx)
theorem SB.arr{a0 A0:Array Keyed}{P:Array (Nat×Nat×Nat)}(h:SB a0 A0 P lo st)(p:xs.Perm (arrOf st))(hl:∀t,t<lo->K xs t=K (arrOf st) t):SB a0 A0 P lo (setArr st xs):=
 ⟨p.trans h.perm,h.kind,h.failed,h.pend,λt ht=>(hl t ht).trans (h.low t ht)⟩
section
variable{prog:Program}{w:World}{A:Around}{E:Value->Shared->Prop}{s:Shared}{a0 A0:Array Keyed}{P:Array (Nat×Nat×Nat)}{lo:Nat}
theorem nX(hB:SB a0 A0 P lo st)(h0:IK a0)(hi:i<a0.size)(hj:j<a0.size)(h:Q (some (decide (K (arrOf st) i<K (arrOf st) j))) st):wpS (model prog w) A E s (ltAt' i j) Q st:=by
 have h1:i<(arrOf st).size:=by rw[hB.size];exact hi
 have h2:j<(arrOf st).size:=by rw[hB.size];exact hj
 have ik:=xl h0 hB.perm;rw[ltAt'_eq];refine Je (Wk ?_);refine Je (aY h1 (Je (aY h2 (tP hB.kind (ik.get h1) (ik.get h2) ?_))));rw[bT h1,bT h2]at h;exact h
theorem ix{Q:Unit->SortSt->Prop}(hB:SB a0 A0 P lo st)(hi:lo<=i)(hj:j<=a0.size)(h:SB a0 A0 P lo (setArr st (mirror (arrOf st) i j ((j-i)/2)))->Q () (setArr st (mirror (arrOf st) i j ((j-i)/2)))):wpS (model prog w) A E s (reverseSlice' i j) Q st:=by
 rw[reverseSlice'_eq];refine Qt (h (hB.arr (mirror_perm _ _ _ _) λt ht=>?_))
 rw[K_mirror (by rw[hB.size];exact hj),Jb (by omega)]
theorem Cv{ok:Nat}{Q:Bool->SortSt->Prop}(h0:IK a0)(hn:lo+n<=a0.size)(hB:SB a0 A0 P lo st)(hs:Up (arrOf st) lo (lo+ok))(hok:ok<=n)
  (h:∀st',SB a0 A0 P lo st'->Up (arrOf st') lo (lo+n)->Q true st'):wpS (model prog w) A E s (binarySort' lo n ok) Q st:=by
 rw[binarySort'_eq]
 refine Je (Z7 (Ym (I:=λk c st'=>c=(none,())/\SB a0 A0 P lo st'/\Up (arrOf st') lo (lo+min k n))
  (Q:=λc st'=>c=(none,())/\SB a0 A0 P lo st'/\Up (arrOf st') lo (lo+n)) ?ste ?fi ⟨rfl,hB,?ini⟩) ?po)
 case ini=>
  intro i j h1 h2 h3;by_cases z:ok=0
  ·have:i=j:=by omega
   subst this;exact Z6 _
  ·exact hs i j h1 h2 (by omega)
 case po=>
  rintro c st' ⟨rfl,b1,b2⟩;exact Jf (h st' b1 b2)
 case fi=>
  rintro c st' ⟨hc,b1,b2⟩
  rw[show min (max (max ok 1) n) n=n by omega]at b2
  exact⟨hc,b1,b2⟩
 case ste=>
  rintro k c st' hak hkn ⟨rfl,b1,b2⟩
  rw[show min k n=k by omega]at b2
  refine Je (Z7 (Ym (I:=λx c st2=>st2=st'/\∃l r,c=(none,l,r)/\l<=r/\r<=k/\r-l<=k-x/\(∀i,lo<=i->i<lo+l->K (arrOf st') i<=K (arrOf st') (lo+k))/\(∀i,lo+r<=i->i<lo+k->K (arrOf st') (lo+k)<K (arrOf st') i))
   (Q:=λc st2=>st2=st'/\∃l r,c=(none,l,r)/\l<=k/\(∀i,lo<=i->i<lo+l->K (arrOf st') i<=K (arrOf st') (lo+k))/\(∀i,lo+l<=i->i<lo+k->K (arrOf st') (lo+k)<K (arrOf st') i)) ?a ?b ⟨rfl,0,k,rfl,by omega,by omega,by omega,λi _ hi=>by omega,λi _ _=>by omega⟩) ?c)
  case b=>
   rintro c st2 ⟨rfl,l,r,rfl,c1,c2,c3,c4,c5⟩
   have:l=r:=by omega
   subst this;exact⟨rfl,l,l,rfl,c2,c4,c5⟩
  case a=>
   rintro x c st2 _ hx ⟨rfl,l,r,rfl,c1,c2,c3,c4,c5⟩;dsimp only;by_cases g:l >= r
   ·rw[J8 g]
    have:l=r:=by omega
    subst this;exact Jf ⟨rfl,l,l,rfl,c2,c4,c5⟩
   ·rw[Jb g]
    refine Je (nX b1 h0 (by omega) (by omega) ?_)
    by_cases hl:K (arrOf st2) (lo+k)<K (arrOf st2) (lo+(l+r)/2)
    ·simp only[hl,Qg,Yd]
     exact Jf ⟨rfl,l,(l+r)/2,rfl,by omega,by omega,by omega,c4,λi h1 h2=>Int.lt_of_lt_of_le hl (b2 _ _ (by omega) h1 h2)⟩
    ·simp only[hl,Q9,Jw,Yj]
     exact Jf ⟨rfl,(l+r)/2+1,r,rfl,by omega,by omega,by omega,λi h1 h2=>Zr (b2 i (lo+(l+r)/2) h1 (by omega) (by omega)) (Uv.mp hl),c5⟩
  case c=>
   rintro c st2 ⟨rfl,l,r,rfl,c2,c4,c5⟩
   show wpS _ _ _ _ (do moveDown' (lo+k) (lo+l);pure (ForInStep.yield (none,()))) _ _
   rw[moveDown'_eq]
   have hks:lo+k<(arrOf st2).size:=by rw[b1.size];omega
   have kb:=λt=>K_bubble (xs:=arrOf st2) (src:=lo+k) (d:=lo+k-(lo+l)) hks (by omega) t
   rw[show lo+k-(lo+k-(lo+l))=lo+l by omega]at kb
   refine Je (Qt (Jf ⟨rfl,b1.arr (bubble_perm _ _ _) λt ht=>?_,λi j h1 h2 h3=>?_⟩))
   ·rw[kb,Jb (by omega),Jb (by omega)]
   ·rw[show min (k+1) n=k+1 by omega]at h3
    show K (bubble _ _ _) i<=K (bubble _ _ _) j;rw[kb,kb]
    repeat' split
    all_goals first
     |(exfalso;omega)
     |exact Z6 _
     |exact c4 _ (by omega) (by omega)
     |exact Yy (c5 _ (by omega) (by omega))
     |exact b2 _ _ (by omega) (by omega) (by omega)
end
theorem mir(hj:j<=xs.size)(h:∀k,i<=k->k<j->K xs k=K xs (j-1))(k:Nat):K (mirror xs i j ((j-i)/2)) k=K xs k:=by
 rw[K_mirror hj];split
 ·rw[h _ (by omega) (by omega),h k (by omega) (by omega)]
 ·rfl
section
variable{prog:Program}{w:World}{A:Around}{E:Value->Shared->Prop}{s:Shared}{a0 A0:Array Keyed}{P:Array (Nat×Nat×Nat)}{lo:Nat}
noncomputable abbrev AS:=Option (Option Nat)×Nat
theorem iy{a nrem:Nat}{f:Nat->AS->SM (ForInStep AS)}{Q:AS->SortSt->Prop}(h0:IK a0)(hn:lo+nrem<=a0.size)(ha:1<=a)(han:a<=nrem)(hB:SB a0 A0 P lo st)(hs:Up (arrOf st) lo (lo+a))
  (hf:∀x n (R:ForInStep AS->SortSt->Prop),wpS (model prog w) A E s (ltAt' (lo+n) (lo+n-1)) (λr st'=>∃b,r=some b/\R (if b=true then .done (none,n) else .yield (none,n+1)) st') st->wpS (model prog w) A E s (f x (none,n)) R st)
  (h:∀n,a<=n->n<=nrem->Up (arrOf st) lo (lo+n)->(n=nrem\/K (arrOf st) (lo+n)<K (arrOf st) (lo+n-1))->Q (none,n) st):wpS (model prog w) A E s (forIn [a:nrem] ((none,a):AS) f) Q st:=by
 refine Ym (I:=λx c st'=>st'=st/\c=(none,x)/\Up (arrOf st) lo (lo+x)) ?a ?b ⟨rfl,rfl,hs⟩
 case b=>
  rintro c st' ⟨rfl,rfl,b1⟩
  rw[show max a nrem=nrem by omega]at b1 ⊢
  exact h nrem han (J9 _) b1 (.inl rfl)
 case a=>
  rintro x c st' h1 h2 ⟨rfl,rfl,b1⟩
  refine hf _ _ _ (nX hB h0 (by omega) (by omega) ⟨_,rfl,?_⟩)
  by_cases hl:K (arrOf st') (lo+x)<K (arrOf st') (lo+x-1)
  ·simp only[hl,Qg,Yd]
   exact h x h1 (by omega) b1 (.inr hl)
  ·simp only[hl,Q9,Jw,Yj];refine⟨trivial,trivial,λi j i1 i2 i3=>?_⟩;by_cases hj:j<lo+x
   ·exact b1 i j i1 i2 hj
   ·have hj':j=lo+x:=by omega
    subst hj';by_cases e:i=lo+x
    ·subst e;exact Z6 _
    ·exact Zr (b1 i (lo+x-1) i1 (by omega) (by omega)) (Uv.mp hl)
set_option maxHeartbeats 2000000 in
theorem EX{nrem:Nat}{Q:Option Nat->SortSt->Prop}(h0:IK a0)(hn:lo+nrem<=a0.size)(h1:1<=nrem)(hB:SB a0 A0 P lo st)
  (h:∀m st',SB a0 A0 P lo st'->1<=m->m<=nrem->Up (arrOf st') lo (lo+m)->Q (some m) st'):wpS (model prog w) A E s (countRun' lo nrem) Q st:=by
 rw[countRun'_eq];dsimp only
 refine Je (iy h0 hn (J9 1) h1 hB (λi j i1 i2 i3=>by rw[show i=j by omega];exact Z6 _) ?hf λn n1 n2 u ho=>?_)
 case hf=>
  intro x n R hR;dsimp only;refine Je (Z7 hR ?_);rintro r st' ⟨b,rfl,hb⟩;cases b
  ·exact Jf hb
  ·exact Jf hb
 dsimp only;by_cases e:n=nrem
 ·rw[J8 (by simpa using e)]
  exact Jf (h n st hB n1 n2 u)
 rw[Jb (by simpa using e)]
 have hlt:K (arrOf st) (lo+n)<K (arrOf st) (lo+n-1):=ho.resolve_left e;by_cases g:n>1
 ·rw[J8 g]
  refine Je (nX hB h0 (by omega) (by omega) ?_)
  by_cases hr:K (arrOf st) lo<K (arrOf st) (lo+n-1)
  ·simp only[hr,Qg,Yd];exact Jf (h n st hB n1 n2 u)
  ·simp only[hr,Q9,Jw,Yj]
   have hsz:lo+n<=(arrOf st).size:=by rw[hB.size];omega
   have all:∀k,lo<=k->k<lo+n->K (arrOf st) k=K (arrOf st) (lo+n-1):=λk k1 k2=>by
    have a1:=u lo k (J9 _) k1 k2
    have a2:=u k (lo+n-1) k1 (by omega) (by omega)
    omega
   refine Je (ix hB (J9 _) (by omega) λhB1=>?_)
   have hD1:Dn (mirror (arrOf st) lo (lo+n) ((lo+n-lo)/2)) lo (lo+(n+1)):=λi j i1 i2 i3=>by
    rw[mir hsz all,mir hsz all];by_cases hj:j<lo+n
    ·rw[all i i1 (by omega),all j (by omega) hj];exact Z6 _
    ·have hj':j=lo+n:=by omega
     subst hj';by_cases e:i=lo+n
     ·subst e;exact Z6 _
     ·rw[all i i1 (by omega)];exact Yy hlt
   refine Je (Vh (Yv ⟨rfl,?_⟩))
   refine Je (Z7 (Ym (I:=λx c st'=>∃neq,c=(none,x,neq)/\SB a0 A0 P lo st'/\Dn (arrOf st') lo (lo+x)/\neq+1<=x/\(∀i,lo+x-(neq+1)<=i->i<lo+x->K (arrOf st') i=K (arrOf st') (lo+x-1)))
    (Q:=λc st'=>∃m neq,c=(none,m,neq)/\n+1<=m/\m<=nrem/\SB a0 A0 P lo st'/\Dn (arrOf st') lo (lo+m)/\neq+1<=m/\(∀i,lo+m-(neq+1)<=i->i<lo+m->K (arrOf st') i=K (arrOf st') (lo+m-1))) ?a ?b ⟨0,rfl,hB1,hD1,by omega,λi i1 i2=>by congr 1;omega⟩) ?c)
   case b=>
    rintro c st' ⟨neq,rfl,b1,b2,b3,b4⟩
    rw[show max (n+1) nrem=nrem by omega]at b2 b3 b4 ⊢
    exact⟨nrem,neq,rfl,by omega,J9 _,b1,b2,b3,b4⟩
   case a=>
    rintro x c st' x1 x2 ⟨neq,rfl,b1,b2,b3,b4⟩;dsimp only
    have hsz:lo+x<=(arrOf st').size:=by rw[b1.size];omega
    refine Je (nX b1 h0 (by omega) (by omega) ?_)
    have more:∀xs:Array Keyed,(∀k,K xs k=K (arrOf st') k)->K (arrOf st') (lo+x)<=K (arrOf st') (lo+x-1)->Dn xs lo (lo+(x+1)):=by
     intro xs hk hle i j i1 i2 i3;rw[hk,hk];by_cases hj:j<lo+x
     ·exact b2 i j i1 i2 hj
     ·have hj':j=lo+x:=by omega
      subst hj';by_cases e:i=lo+x
      ·subst e;exact Z6 _
      ·exact Zr hle (b2 i (lo+x-1) i1 (by omega) (by omega))
    by_cases hl:K (arrOf st') (lo+x)<K (arrOf st') (lo+x-1)
    ·simp only[hl,Qg,Yd];by_cases hq:neq>0
     ·rw[J8 hq]
      refine Je (ix b1 (by omega) (by omega) λb9=>Jf ⟨0,rfl,b9,more _ (mir hsz b4) (Yy hl),by omega,λi i1 i2=>by congr 1;omega⟩)
     ·rw[Jb hq]
      exact Jf ⟨0,rfl,b1,more _ (λ_=>rfl) (Yy hl),by omega,λi i1 i2=>by congr 1;omega⟩
    ·simp only[hl,Q9,Jw,Yj]
     refine Je (nX b1 h0 (by omega) (by omega) ?_)
     by_cases hg:K (arrOf st') (lo+x-1)<K (arrOf st') (lo+x)
     ·simp only[hg,Qg,Yd]
      exact Jf ⟨x,neq,rfl,x1,by omega,b1,b2,b3,b4⟩
     ·simp only[hg,Q9,Jw,Yj]
      have he:K (arrOf st') (lo+x)=K (arrOf st') (lo+x-1):=by omega
      refine Jf ⟨neq+1,rfl,b1,more _ (λ_=>rfl) (by omega),by omega,λi i1 i2=>?_⟩
      rw[show lo+(x+1)-1=lo+x by omega]
      by_cases e:i=lo+x
      ·subst e;rfl
      ·rw[he];exact b4 i (by omega) (by omega)
   case c=>
    rintro c st' ⟨m,neq,rfl,m1,m2,b1,b2,b3,b4⟩;dsimp only
    have hsz:lo+m<=(arrOf st').size:=by rw[b1.size];omega
    have last:∀st2,SB a0 A0 P lo st2->Dn (arrOf st2) lo (lo+m)->Up (mirror (arrOf st2) lo (lo+m) ((lo+m-lo)/2)) lo (lo+m):=λst2 c1 c2 i j i1 i2 i3=>by
     rw[K_mirror (by rw[c1.size];omega),K_mirror (by rw[c1.size];omega),J8 (by omega),J8 (by omega)]
     exact c2 _ _ (by omega) (by omega) (by omega)
    by_cases hq:neq>0
    ·rw[J8 hq]
     refine Je (ix b1 (by omega) (by omega) λb9=>?_)
     have d9:Dn (mirror (arrOf st') (lo+m-(neq+1)) (lo+m) ((lo+m-(lo+m-(neq+1)))/2)) lo (lo+m):=λi j i1 i2 i3=>by rw[mir hsz b4,mir hsz b4];exact b2 i j i1 i2 i3
     refine Je (ix b9 (J9 _) (by omega) λb8=>?_)
     refine Je (iy h0 hn (by omega) m2 b8 (last _ b9 d9) ?_ λn2 n1 n3 u _=>Jf (h n2 _ b8 (by omega) n3 u))
     intro x n R hR;dsimp only;refine Je (Z7 hR ?_);rintro r st' ⟨b,rfl,hb⟩;cases b
     ·exact Jf hb
     ·exact Jf hb
    ·rw[Jb hq]
     refine Je (ix b1 (J9 _) (by omega) λb8=>?_)
     refine Je (iy h0 hn (by omega) m2 b8 (last _ b1 b2) ?_ λn2 n1 n3 u _=>Jf (h n2 _ b8 (by omega) n3 u))
     intro x n R hR;dsimp only;refine Je (Z7 hR ?_);rintro r st' ⟨b,rfl,hb⟩;cases b
     ·exact Jf hb
     ·exact Jf hb
 ·rw[Jb g]
  have hn1:n=1:=by omega
  have hB1:=hB
  have hD1:Dn (arrOf st) lo (lo+(n+1)):=λi j i1 i2 i3=>by
   by_cases e:i=j
   ·subst e;exact Z6 _
   ·have e1:i=lo+n-1:=by omega
    have e2:j=lo+n:=by omega
    rw[e1,e2];exact Yy hlt
  refine Je (Vh (Yv ⟨rfl,?_⟩))
  refine Je (Z7 (Ym (I:=λx c st'=>∃neq,c=(none,x,neq)/\SB a0 A0 P lo st'/\Dn (arrOf st') lo (lo+x)/\neq+1<=x/\(∀i,lo+x-(neq+1)<=i->i<lo+x->K (arrOf st') i=K (arrOf st') (lo+x-1)))
   (Q:=λc st'=>∃m neq,c=(none,m,neq)/\n+1<=m/\m<=nrem/\SB a0 A0 P lo st'/\Dn (arrOf st') lo (lo+m)/\neq+1<=m/\(∀i,lo+m-(neq+1)<=i->i<lo+m->K (arrOf st') i=K (arrOf st') (lo+m-1))) ?a ?b ⟨0,rfl,hB1,hD1,by omega,λi i1 i2=>by congr 1;omega⟩) ?c)
  case b=>
   rintro c st' ⟨neq,rfl,b1,b2,b3,b4⟩
   rw[show max (n+1) nrem=nrem by omega]at b2 b3 b4 ⊢
   exact⟨nrem,neq,rfl,by omega,J9 _,b1,b2,b3,b4⟩
  case a=>
   rintro x c st' x1 x2 ⟨neq,rfl,b1,b2,b3,b4⟩;dsimp only
   have hsz:lo+x<=(arrOf st').size:=by rw[b1.size];omega
   refine Je (nX b1 h0 (by omega) (by omega) ?_)
   have more:∀xs:Array Keyed,(∀k,K xs k=K (arrOf st') k)->K (arrOf st') (lo+x)<=K (arrOf st') (lo+x-1)->Dn xs lo (lo+(x+1)):=by
    intro xs hk hle i j i1 i2 i3;rw[hk,hk];by_cases hj:j<lo+x
    ·exact b2 i j i1 i2 hj
    ·have hj':j=lo+x:=by omega
     subst hj';by_cases e:i=lo+x
     ·subst e;exact Z6 _
     ·exact Zr hle (b2 i (lo+x-1) i1 (by omega) (by omega))
   by_cases hl:K (arrOf st') (lo+x)<K (arrOf st') (lo+x-1)
   ·simp only[hl,Qg,Yd];by_cases hq:neq>0
    ·rw[J8 hq]
     refine Je (ix b1 (by omega) (by omega) λb9=>Jf ⟨0,rfl,b9,more _ (mir hsz b4) (Yy hl),by omega,λi i1 i2=>by congr 1;omega⟩)
    ·rw[Jb hq]
     exact Jf ⟨0,rfl,b1,more _ (λ_=>rfl) (Yy hl),by omega,λi i1 i2=>by congr 1;omega⟩
   ·simp only[hl,Q9,Jw,Yj]
    refine Je (nX b1 h0 (by omega) (by omega) ?_)
    by_cases hg:K (arrOf st') (lo+x-1)<K (arrOf st') (lo+x)
    ·simp only[hg,Qg,Yd]
     exact Jf ⟨x,neq,rfl,x1,by omega,b1,b2,b3,b4⟩
    ·simp only[hg,Q9,Jw,Yj]
     have he:K (arrOf st') (lo+x)=K (arrOf st') (lo+x-1):=by omega
     refine Jf ⟨neq+1,rfl,b1,more _ (λ_=>rfl) (by omega),by omega,λi i1 i2=>?_⟩
     rw[show lo+(x+1)-1=lo+x by omega]
     by_cases e:i=lo+x
     ·subst e;rfl
     ·rw[he];exact b4 i (by omega) (by omega)
  case c=>
   rintro c st' ⟨m,neq,rfl,m1,m2,b1,b2,b3,b4⟩;dsimp only
   have hsz:lo+m<=(arrOf st').size:=by rw[b1.size];omega
   have last:∀st2,SB a0 A0 P lo st2->Dn (arrOf st2) lo (lo+m)->Up (mirror (arrOf st2) lo (lo+m) ((lo+m-lo)/2)) lo (lo+m):=λst2 c1 c2 i j i1 i2 i3=>by
    rw[K_mirror (by rw[c1.size];omega),K_mirror (by rw[c1.size];omega),J8 (by omega),J8 (by omega)]
    exact c2 _ _ (by omega) (by omega) (by omega)
   by_cases hq:neq>0
   ·rw[J8 hq]
    refine Je (ix b1 (by omega) (by omega) λb9=>?_)
    have d9:Dn (mirror (arrOf st') (lo+m-(neq+1)) (lo+m) ((lo+m-(lo+m-(neq+1)))/2)) lo (lo+m):=λi j i1 i2 i3=>by rw[mir hsz b4,mir hsz b4];exact b2 i j i1 i2 i3
    refine Je (ix b9 (J9 _) (by omega) λb8=>?_)
    refine Je (iy h0 hn (by omega) m2 b8 (last _ b9 d9) ?_ λn2 n1 n3 u _=>Jf (h n2 _ b8 (by omega) n3 u))
    intro x n R hR;dsimp only;refine Je (Z7 hR ?_);rintro r st' ⟨b,rfl,hb⟩;cases b
    ·exact Jf hb
    ·exact Jf hb
   ·rw[Jb hq]
    refine Je (ix b1 (J9 _) (by omega) λb8=>?_)
    refine Je (iy h0 hn (by omega) m2 b8 (last _ b1 b2) ?_ λn2 n1 n3 u _=>Jf (h n2 _ b8 (by omega) n3 u))
    intro x n R hR;dsimp only;refine Je (Z7 hR ?_);rintro r st' ⟨b,rfl,hb⟩;cases b
    ·exact Jf hb
    ·exact Jf hb
end
noncomputable def wr(xs:Array Keyed)(z:Nat)(l:List (Keyed×Nat)):Array Keyed:=l.foldl (λa (x:Keyed×Nat)=>match x with|(p,j)=>a.setIfInBounds (z+j) p) xs
theorem vJ(z:Nat):∀(m:List Keyed)(k:Nat)(xs:Array Keyed),z+k+m.length<=xs.size->∀t,(wr xs z (m.zipIdx k))[t]?=if z+k<=t/\t<z+k+m.length then m[t-(z+k)]? else xs[t]?
 |[],k,xs,_,t=>by
  rw[Jb (by rw[Yi];omega)]
  rfl
 |p::m,k,xs,h,t=>by
  rw[Jm]at h;show(wr (xs.setIfInBounds (z+k) p) z (m.zipIdx (k+1)))[t]?=_
  rw[vJ z m (k+1) _ (by rw[Array.size_setIfInBounds];omega),Jm,Array.getElem?_setIfInBounds]
  by_cases h1:z+(k+1)<=t/\t<z+(k+1)+m.length
  ·rw[J8 h1,J8 (by omega)]
   obtain⟨d,hd⟩:∃d,t-(z+k)=d+1:=⟨t-(z+k)-1,by omega⟩
   rw[hd,Zh];congr 1;omega
  ·rw[Jb h1];by_cases h2:z+k=t
   ·rw[J8 h2,J8 (by omega),J8 (by omega)]
    rw[show t-(z+k)=0 by omega]
    rfl
   ·rw[Jb h2,Jb (by omega)]
theorem Cw{z:Nat}{m:List Keyed}(h:z+m.length<=xs.size):(wr xs z m.zipIdx).toList=xs.toList.take z++(m++xs.toList.drop (z+m.length)):=by
 refine List.ext_getElem? λt=>?_
 rw[Yz,vJ z m 0 xs (by omega)]
 have hlt:(xs.toList.take z).length=z:=by rw[Zo];simp;omega
 by_cases h1:t<z
 ·rw[Jb (by omega),Jv (by omega),List.getElem?_take_of_lt h1,Yz]
 ·rw[Yg (by omega),hlt]
  by_cases h2:t<z+m.length
  ·rw[J8 (by omega),Jv (by omega)]
   rfl
  ·rw[Jb (by omega),Yg (by omega),V5,Yz]
   congr 1;omega
noncomputable def Ch(xs:Array Keyed):Nat->List (Nat×Nat×Nat)->Nat->Prop
 |z,[],y=>z=y
 |z,(s,n,_)::r,y=>s=z/\1<=n/\Up xs z (z+n)/\Ch xs (z+n) r y
theorem Ch.le:∀{l:List (Nat×Nat×Nat)}{z y:Nat},Ch xs z l y->z+l.length<=y
 |[],z,y,h=>by unfold Ch at h;simp;omega
 |(s,n,p)::r,z,y,h=>by obtain⟨_,h1,_,h2⟩:=h;have:=h2.le;rw[Jm];omega
theorem Ch.app:∀{l r:List (Nat×Nat×Nat)}{z y:Nat},Ch xs z (l++r) y↔∃m,Ch xs z l m/\Ch xs m r y
 |[],r,z,y=>⟨λh=>⟨z,rfl,h⟩,λ⟨m,h1,h2⟩=>by unfold Ch at h1;subst h1;exact h2⟩
 |(s,n,p)::l,r,z,y=>by
  constructor
  ·rintro⟨h1,h2,h3,h4⟩;obtain⟨m,h5,h6⟩:=Ch.app.mp h4;exact⟨m,⟨h1,h2,h3,h5⟩,h6⟩
  ·rintro⟨m,⟨h1,h2,h3,h5⟩,h6⟩;exact⟨h1,h2,h3,Ch.app.mpr ⟨m,h5,h6⟩⟩
theorem Ch.like{ys:Array Keyed}:∀{l:List (Nat×Nat×Nat)}{z y:Nat},Ch xs z l y->(∀t,z<=t->t<y->K ys t=K xs t)->Ch ys z l y
 |[],z,y,h,_=>h
 |(s,n,p)::r,z,y,⟨h1,h2,h3,h4⟩,hk=>by
  have:=h4.le
  refine⟨h1,h2,λi j i1 i2 i3=>?_,h4.like λt t1 t2=>hk t (by omega) t2⟩
  rw[hk i i1 (by omega),hk j (by omega) (by omega)]
  exact h3 i j i1 i2 i3
theorem Ch.pow(f:Nat×Nat×Nat->Nat×Nat×Nat)(hf:∀s n p,∃q,f (s,n,p)=(s,n,q)):∀{l:List (Nat×Nat×Nat)}{z y:Nat}(k:Nat),Ch xs z l y->Ch xs z (l.modify k f) y
 |[],z,y,k,h=>by simpa using h
 |(s,n,p)::r,z,y,0,⟨h1,h2,h3,h4⟩=>by obtain⟨q,e⟩:=hf s n p;rw[List.modify_zero_cons,e];exact⟨h1,h2,h3,h4⟩
 |(s,n,p)::r,z,y,k+1,⟨h1,h2,h3,h4⟩=>by rw[List.modify_succ_cons];exact⟨h1,h2,h3,Ch.pow f hf k h4⟩
structure Bs(a0:Array Keyed)(st:SortSt):Prop where
 perm:(arrOf st).Perm a0
 kind:kindOf st=oneType'
 failed:failedOf st=none
theorem vK(i:Nat):mergeAt' i=(do
 let s <- get
 let (some (sa,na,pw),some (sb,nb,_)):=((pendingOf s)[i]?,(pendingOf s)[i+1]?)|unsupported "internal:list.sort.pending"
 set (setPending s (((pendingOf s).setIfInBounds i (sa,na+nb,pw)).eraseIdxIfInBounds (i+1)))
 let some k <- gal false (<- elem' (arrOf s) sb) (arrOf s) sa na 0|return false
 let (sa,na):=(sa+k,na-k)
 if na == 0 then return true
 let some nb <- gal true (<- elem' (arrOf s) (sa+na-1)) (arrOf s) sb nb (nb-1)|return false
 if nb == 0 then return true
 let x:=(arrOf s).extract sa sb
 let y:=(arrOf s).extract sb (sb+nb)
 let m <- if na<=nb then mLo x y else mHi x y
 modify λs=>setArr s (m.toList.zipIdx.foldl (λa (p,j)=>a.setIfInBounds (sa+j) p) (arrOf s))
 return (failedOf (<- get)).isNone):=rfl
section
variable{prog:Program}{w:World}{A:Around}{E:Value->Shared->Prop}{s:Shared}{a0:Array Keyed}
theorem Cy{st1:SortSt}{Q:PUnit->SortSt->Prop}(h:Q ⟨⟩ st1):wpS (model prog w) A E s (set st1:StateT SortSt Sem PUnit) Q st:=by unfold wpS;rw[StateT.run_set];exact Jc ⟨rfl,h⟩
theorem pW{t:Nat}(ht:i+t<j)(hj:j<=xs.size):K (xs.extract i j) t=K xs (i+t):=by
 unfold K;rw[Array.getElem?_extract]
 rw[J8 (by omega)]
theorem rK(h:IK xs)(i j:Nat):IK (xs.extract i j):=λp hp=>h p (by
 rw[eF]at hp
 exact List.mem_of_mem_drop (List.mem_of_mem_take hp))
theorem An(h:Up xs i j)(hj:j<=xs.size):Up (xs.extract i j) 0 (xs.extract i j).size:=by
 have hs:(xs.extract i j).size=j-i:=by rw[U6];omega
 rw[hs];intro p q _ h2 h3
 rw[pW (by omega) hj,pW (by omega) hj]
 exact h _ _ (by omega) (by omega) (by omega)
theorem EY{sa na p sb nb q:Nat}{l1 l2:List (Nat×Nat×Nat)}{y:Nat}{Q:Bool->SortSt->Prop}(h0:IK a0)(hB:Bs a0 st)(hi:i=l1.length)(hP:(pendingOf st).toList=l1++(sa,na,p)::(sb,nb,q)::l2)(hC:Ch (arrOf st) 0 (pendingOf st).toList y)(hy:y<=a0.size)
  (h:∀st',Bs a0 st'->(pendingOf st').toList=l1++(sa,na+nb,p)::l2->Ch (arrOf st') 0 (pendingOf st').toList y->(∀t,y<=t->K (arrOf st') t=K (arrOf st) t)->Q true st'):wpS (model prog w) A E s (mergeAt' i) Q st:=by
 have hsz:(arrOf st).size=a0.size:=hB.perm.size_eq;have ik:=xl h0 hB.perm;rw[hP]at hC;obtain⟨z,c1,e1,n1,u1,e2,n2,u2,c2⟩:=Ch.app.mp hC;subst e1 e2;have c2l:=c2.le
 have g1:(pendingOf st)[i]?=some (sa,na,p):=by rw[<- Yz,hP,hi];simp
 have g2:(pendingOf st)[i+1]?=some (sa+na,nb,q):=by rw[<- Yz,hP,hi,Yg (by omega)];simp
 have hP2:(((pendingOf st).setIfInBounds i (sa,na+nb,p)).eraseIdxIfInBounds (i+1)).toList=l1++(sa,na+nb,p)::l2:=by
  have hl:i+1<(pendingOf st).size:=by rw[<- Jy,hP,hi,Jp,Jm,Jm];omega
  rw[Array.eraseIdxIfInBounds,dif_pos (by rw[Array.size_setIfInBounds];exact hl),Array.toList_eraseIdx,Array.toList_setIfInBounds,hP,hi]
  rw[Wl _ _ (J9 _),List.eraseIdx_append_of_length_le (by omega)]
  simp
 rw[vK];refine Je (Wk ?_);rw[g1,g2];dsimp only;refine Je (Cy ?_)
 have hsb:sa+na<(arrOf st).size:=by omega
 refine Je (aY hsb ?_)
 refine Je (jS hB.kind ik (ik.get hsb) (by omega) (by omega) u1 λk k1 k2 k3=>?_)
 dsimp only
 have q2:∀t,sa<=t->t<sa+k->K (arrOf st) t<=K (arrOf st) (sa+na):=λt t1 t2=>by
  have:=k2 (t-sa) (by omega)
  rw[show sa+(t-sa)=t by omega]at this
  rw[bT hsb];simpa[bef] using this
 have q3:∀t,sa+k<=t->t<sa+na->K (arrOf st) (sa+na)<=K (arrOf st) t:=λt t1 t2=>by
  have:=k3 (t-sa) (by omega) (by omega)
  rw[show sa+(t-sa)=t by omega]at this
  rw[bT hsb]
  exact Yy (by simpa[bef] using this)
 -- when nothing is to be moved
 have still:Up (arrOf st) sa (sa+(na+nb))->Q true (setPending st (((pendingOf st).setIfInBounds i (sa,na+nb,p)).eraseIdxIfInBounds (i+1))):=λhu=>by
  refine h _ ⟨hB.perm,hB.kind,hB.failed⟩ hP2 ?_ λt _=>rfl;show Ch (arrOf st) 0 (((pendingOf st).setIfInBounds i (sa,na+nb,p)).eraseIdxIfInBounds (i+1)).toList y;rw[hP2]
  exact Ch.app.mpr ⟨sa,c1,rfl,by omega,hu,by rw[<- Nat.add_assoc];exact c2⟩
 by_cases e1:na-k=0
 ·rw[J8 (by simpa using e1)]
  refine Jf (still λi j i1 i2 i3=>?_);by_cases hj:j<sa+na
  ·exact u1 i j i1 i2 hj
  ·by_cases hi':i<sa+na
   ·exact Zr (q2 i i1 (by omega)) (u2 (sa+na) j (J9 _) (by omega) (by omega))
   ·exact u2 i j (by omega) i2 (by omega)
 rw[Jb (by simpa using e1)]
 have hla:sa+k+(na-k)-1<(arrOf st).size:=by omega
 refine Je (aY hla ?_)
 refine Je (jS hB.kind ik (ik.get hla) (by omega) (by omega) u2 λm m1 m2 m3=>?_)
 dsimp only
 have v2:∀t,sa+na<=t->t<sa+na+m->K (arrOf st) t<=K (arrOf st) (sa+na-1):=λt t1 t2=>by
  have:=m2 (t-(sa+na)) (by omega)
  rw[show sa+na+(t-(sa+na))=t by omega]at this
  have e:sa+na-1=sa+k+(na-k)-1:=by omega
  rw[e,bT hla]
  exact Yy (by simpa[bef] using this)
 have v3:∀t,sa+na+m<=t->t<sa+na+nb->K (arrOf st) (sa+na-1)<=K (arrOf st) t:=λt t1 t2=>by
  have:=m3 (t-(sa+na)) (by omega) (by omega)
  rw[show sa+na+(t-(sa+na))=t by omega]at this
  have e:sa+na-1=sa+k+(na-k)-1:=by omega
  rw[e,bT hla];simpa[bef] using this
 by_cases e2:m=0
 ·rw[J8 (by simpa using e2)]
  refine Jf (still λi j i1 i2 i3=>?_);by_cases hj:j<sa+na
  ·exact u1 i j i1 i2 hj
  ·by_cases hi':i<sa+na
   ·exact Zr (u1 i (sa+na-1) i1 (by omega) (by omega)) (v3 j (by omega) (by omega))
   ·exact u2 i j (by omega) i2 (by omega)
 rw[Jb (by simpa using e2)]
 have sx:((arrOf st).extract (sa+k) (sa+na)).size=na-k:=by rw[U6];omega
 have sy:((arrOf st).extract (sa+na) (sa+na+m)).size=m:=by rw[U6];omega
 have ux:Up ((arrOf st).extract (sa+k) (sa+na)) 0 ((arrOf st).extract (sa+k) (sa+na)).size:=An (λi j i1 i2 i3=>u1 i j (by omega) i2 i3) (by omega)
 have uy:Up ((arrOf st).extract (sa+na) (sa+na+m)) 0 ((arrOf st).extract (sa+na) (sa+na+m)).size:=An (λi j i1 i2 i3=>u2 i j i1 i2 (by omega)) (by omega)
 have hlast:∀t,t<((arrOf st).extract (sa+na) (sa+na+m)).size->K ((arrOf st).extract (sa+na) (sa+na+m)) t<=K ((arrOf st).extract (sa+k) (sa+na)) (((arrOf st).extract (sa+k) (sa+na)).size-1):=λt ht=>by
  rw[sy]at ht
  rw[sx,pW (by omega) (by omega),pW (by omega) (by omega),show sa+k+(na-k-1)=sa+na-1 by omega]
  exact v2 _ (by omega) (by omega)
 have hfirst:∀t,t<((arrOf st).extract (sa+k) (sa+na)).size->K ((arrOf st).extract (sa+na) (sa+na+m)) 0<=K ((arrOf st).extract (sa+k) (sa+na)) t:=λt ht=>by
  rw[sx]at ht
  rw[pW (by omega) (by omega),pW (by omega) (by omega),Nat.add_zero]
  exact q3 _ (by omega) (by omega)
 have fin:∀(r:Array Keyed)(st':SortSt),Good ((arrOf st).extract (sa+k) (sa+na)) ((arrOf st).extract (sa+na) (sa+na+m)) r->Sg (setPending st (((pendingOf st).setIfInBounds i (sa,na+nb,p)).eraseIdxIfInBounds (i+1))) st'->
   Q true (setArr st' (wr (arrOf st') (sa+k) r.toList.zipIdx)):=by
  rintro r st' ⟨g1,g2⟩ ⟨s1,s2,s3,s4⟩;have s2:arrOf st'=arrOf st:=s2
  have rl:r.toList.length=na-k+m:=by rw[g1.length_eq,Jp,Jy,Jy,sx,sy]
  have hw:sa+k+r.toList.length<=(arrOf st).size:=by omega
  have hxy:((arrOf st).extract (sa+k) (sa+na)).toList++((arrOf st).extract (sa+na) (sa+na+m)).toList=((arrOf st).toList.drop (sa+k)).take (na-k+m):=by rw[eF,eF,show sa+na-(sa+k)=na-k by omega,show sa+na+m-(sa+na)=m by omega,List.take_add,U1,show sa+k+(na-k)=sa+na by omega]
  rw[hxy]at g1
  have hk:∀t,K (wr (arrOf st) (sa+k) r.toList.zipIdx) t=if sa+k<=t/\t<sa+na+m then K r (t-(sa+k)) else K (arrOf st) t:=λt=>by
   have e:=vJ (sa+k) r.toList 0 (arrOf st) (by omega) t
   rw[rl]at e;by_cases ht:sa+k<=t/\t<sa+na+m
   ·rw[J8 ht]
    rw[J8 (by omega),Yz]at e
    exact K_congr e
   ·rw[Jb ht]
    rw[Jb (by omega)]at e
    exact K_congr e
  have hfrom:∀t,sa+k<=t->t<sa+na+m->∃u,sa+k<=u/\u<sa+na+m/\K r (t-(sa+k))=K (arrOf st) u:=λt t1 t2=>by
   have ht:t-(sa+k)<r.size:=by rw[<- Jy,rl];omega
   obtain⟨u,hu1,hu2,hu3⟩:=jk (g1.mem_iff.mp (by simp:r[t-(sa+k)]∈r.toList))
   exact⟨sa+k+u,by omega,by omega,by rw[bT ht];exact hu3⟩
  have ur:=GP g2
  have rs:r.size=na-k+m:=by rw[<- Jy,rl]
  have wu:Up (wr (arrOf st) (sa+k) r.toList.zipIdx) sa (sa+(na+nb)):=by
   intro i j i1 i2 i3;rw[hk,hk]
   have low:∀a u,sa<=a->a<sa+k->sa+k<=u->u<sa+na+nb->K (arrOf st) a<=K (arrOf st) u:=λa u a1 a2 u3 u4=>by
    by_cases hu:u<sa+na
    ·exact u1 a u a1 (by omega) hu
    ·exact Zr (q2 a a1 a2) (u2 _ _ (J9 _) (by omega) u4)
   have high:∀a u,sa+k<=a->a<sa+na+m->sa+na+m<=u->u<sa+na+nb->K (arrOf st) a<=K (arrOf st) u:=λa u a1 a2 u3 u4=>by
    by_cases ha:a<sa+na
    ·exact Zr (u1 a (sa+na-1) (by omega) (by omega) (by omega)) (v3 u u3 u4)
    ·exact u2 a u (by omega) (by omega) u4
   by_cases hi1:sa+k<=i/\i<sa+na+m
   ·rw[J8 hi1];by_cases hj1:sa+k<=j/\j<sa+na+m
    ·rw[J8 hj1]
     exact ur _ _ (Y0 _) (by omega) (by omega)
    ·rw[Jb hj1];obtain⟨u,w1,w2,w3⟩:=hfrom i hi1.1 hi1.2;rw[w3]
     exact high u j w1 w2 (by omega) (by omega)
   ·rw[Jb hi1];by_cases hj1:sa+k<=j/\j<sa+na+m
    ·rw[J8 hj1];obtain⟨u,w1,w2,w3⟩:=hfrom j hj1.1 hj1.2;rw[w3]
     exact low i u i1 (by omega) w1 (by omega)
    ·rw[Jb hj1];by_cases hil:i<sa+k
     ·by_cases hjl:j<sa+na
      ·exact u1 i j i1 i2 hjl
      ·exact low i j i1 hil (by omega) (by omega)
     ·exact u2 i j (by omega) i2 (by omega)
  have wp:(wr (arrOf st) (sa+k) r.toList.zipIdx).Perm a0:=by
   refine Array.Perm.trans (Wy.mpr ?_) hB.perm;rw[Cw hw,rl];refine List.Perm.trans ((g1.append_right _).append_left _) ?_
   rw[show(arrOf st).toList.drop (sa+k+(na-k+m))=((arrOf st).toList.drop (sa+k)).drop (na-k+m) by rw[U1],Zc,Zc]
  rw[s2]
  refine h _ ⟨wp,s1.trans hB.kind,s4.trans hB.failed⟩ (by show(pendingOf st').toList=_;rw[s3];exact hP2) ?_ λt ht=>?_
  ·show Ch (wr (arrOf st) (sa+k) r.toList.zipIdx) 0 (pendingOf st').toList y;rw[s3];show Ch _ 0 (((pendingOf st).setIfInBounds i (sa,na+nb,p)).eraseIdxIfInBounds (i+1)).toList y;rw[hP2]
   refine Ch.app.mpr ⟨sa,c1.like λt t1 t2=>?_,rfl,by omega,wu,?_⟩
   ·rw[hk,Jb (by omega)]
   ·rw[<- Nat.add_assoc]
    exact c2.like λt t1 t2=>by rw[hk,Jb (by omega)]
  ·show K (wr (arrOf st) (sa+k) r.toList.zipIdx) t=_
   rw[hk,Jb (by omega)]
 have endS:∀(r:Array Keyed)(st':SortSt),Good ((arrOf st).extract (sa+k) (sa+na)) ((arrOf st).extract (sa+na) (sa+na+m)) r->Sg (setPending st (((pendingOf st).setIfInBounds i (sa,na+nb,p)).eraseIdxIfInBounds (i+1))) st'->
   wpS (model prog w) A E s (do
    modify λs=>setArr s (r.toList.zipIdx.foldl (λa (p,j)=>a.setIfInBounds (sa+k+j) p) (arrOf s))
    return (failedOf (<- get)).isNone) Q st':=λr st' g z=>by
  refine Je (Qt (Je (Wk (Jf ?_))));have hf:failedOf st'=none:=z.2.2.2.trans hB.failed;show Q (failedOf st').isNone (setArr st' (wr (arrOf st') (sa+k) r.toList.zipIdx));rw[hf];exact fin r st' g z
 by_cases hc:na-k<=m
 ·rw[J8 hc]
  exact Je (EU hB.kind (rK ik _ _) (rK ik _ _) ux uy (by omega) (by omega) (hfirst 0 (by omega)) hlast λr st' g z=>endS r st' g z)
 ·rw[Jb hc]
  exact Je (EW hB.kind (rK ik _ _) (rK ik _ _) ux uy (by omega) (by omega) hfirst hlast λr st' g z=>endS r st' g z)
end
section
variable{prog:Program}{w:World}{A:Around}{E:Value->Shared->Prop}{s:Shared}{a0:Array Keyed}
structure Al(a0:Array Keyed)(y:Nat)(st:SortSt):Prop where
 bs:Bs a0 st
 ch:Ch (arrOf st) 0 (pendingOf st).toList y
theorem EZ[Decidable c](h:2<=n):(if c then n-2-1 else n-2)+1<n:=by split<;>omega
theorem E2{l:List (Nat×Nat×Nat)}(h:i+1<l.length):∃l1 sa na p sb nb q l2,l=l1++(sa,na,p)::(sb,nb,q)::l2/\i=l1.length:=by
 refine⟨l.take i,l[i].1,l[i].2.1,l[i].2.2,l[i+1].1,l[i+1].2.1,l[i+1].2.2,l.drop (i+2),?_,by rw[Zo];omega⟩
 have e1:l.drop i=l[i]::l.drop (i+1):=Zl (by omega)
 have e2:l.drop (i+1)=l[i+1]::l.drop (i+2):=Zl h;have e3:=Zc i l;rw[e1,e2]at e3;exact e3.symm
theorem Ao{y:Nat}{Q:Bool->SortSt->Prop}(h0:IK a0)(h1:Al a0 y st)(hy:y<=a0.size)(hi:i+1<(pendingOf st).size)
  (h:∀st',Al a0 y st'->(pendingOf st').size+1=(pendingOf st).size->(∀t,y<=t->K (arrOf st') t=K (arrOf st) t)->Q true st'):wpS (model prog w) A E s (mergeAt' i) Q st:=by
 rw[<- Jy]at hi;obtain⟨l1,sa,na,p,sb,nb,q,l2,e,el⟩:=E2 hi;refine EY h0 h1.bs el e h1.ch hy λst' b1 b2 b3 b4=>h st' ⟨b1,b3⟩ ?_ b4;rw[<- Jy,<- Jy,b2,e];simp[Nat.add_assoc]
set_option maxHeartbeats 2000000 in
theorem E3{Q:Unit->SortSt->Prop}(h0:IK a0)(hB:Bs a0 st)(hP:pendingOf st = #[])(h2:1<=a0.size)
  (h:∀st',(arrOf st').Perm a0->failedOf st'=none->Up (arrOf st') 0 a0.size->Q () st'):wpS (model prog w) A E s sortRuns' Q st:=by
 rw[sortRuns'_eq];refine Je (Wk ?_);dsimp only;have hsz:(arrOf st).size=a0.size:=hB.perm.size_eq;rw[hsz];generalize minRun' a0.size a0.size 0=mr
 refine Je (Z7 (Ym (I:=λx c st'=>∃lo,c=(none,lo)/\Al a0 lo st'/\lo<=a0.size/\(x<=lo\/lo=a0.size))
  (Q:=λc st'=>c=(none,a0.size)/\Al a0 a0.size st') ?step ?fin ⟨0,rfl,⟨hB,by rw[hP];exact rfl⟩,Y0 _,.inl (J9 _)⟩) ?post)
 case fin=>
  rintro c st' ⟨lo,rfl,b1,b2,b3⟩
  have:lo=a0.size:=by omega
  subst this;exact⟨rfl,b1⟩
 case step=>
  rintro x c st' _ hx ⟨lo,rfl,b1,b2,b3⟩;dsimp only;by_cases g:lo >= a0.size
  ·rw[J8 g]
   have:lo=a0.size:=by omega
   subst this;exact Jf ⟨rfl,b1⟩
  rw[Jb g];have hSB:SB a0 (arrOf st') (pendingOf st') lo st':=⟨b1.bs.perm,b1.bs.kind,b1.bs.failed,rfl,λ_ _=>rfl⟩
  -- what follows when the run of n is there
  have nxt:∀(n:Nat)(st2:SortSt),SB a0 (arrOf st') (pendingOf st') lo st2->1<=n->lo+n<=a0.size->Up (arrOf st2) lo (lo+n)->Al a0 lo st2:=λn st2 c1 _ _ _=>
   ⟨⟨c1.perm,c1.kind,c1.failed⟩,by rw[c1.pend];exact b1.ch.like λt _ ht=>c1.low t ht⟩
  refine Je (EX h0 (by omega) (by omega) hSB λm st2 c1 m1 m2 u=>?_)
  dsimp only
  have last:∀(n:Nat)(st2:SortSt),Al a0 lo st2->1<=n->lo+n<=a0.size->Up (arrOf st2) lo (lo+n)->Al a0 (lo+n) (setPending st2 ((pendingOf st2).push (lo,n,0))):=λn st2 d1 d2 d3 d4=>by refine⟨⟨d1.bs.perm,d1.bs.kind,d1.bs.failed⟩,?_⟩;show Ch (arrOf st2) 0 ((pendingOf st2).push (lo,n,0)).toList (lo+n);rw[Wf];exact Ch.app.mpr ⟨lo,d1.ch,rfl,d2,d4,rfl⟩
  by_cases hm:m<mr
  all_goals first|rw[J8 hm]|rw[Jb hm]
  ·refine Je (Vh (Yv ⟨rfl,?_⟩))
   refine Je (Cv h0 (n:=min (a0.size-lo) mr) (by omega) c1 u (by omega) λst3 d1 d2=>?_)
   simp only[Vf,Jw,Yj];refine Je (Wk ?_);obtain⟨n,hn⟩:∃n,n=min (a0.size-lo) mr:=⟨_,rfl⟩;rw[<- hn]at d2 ⊢
   have n1:1<=n:=by omega
   have n2:lo+n<=a0.size:=by omega
   have al:=nxt n st3 d1 n1 n2 d2;cases hb:(pendingOf st3).back? with
   |none=>
    dsimp only
    exact Je (Qt (Jf ⟨lo+n,rfl,last n st3 al n1 n2 d2,n2,by omega⟩))
   |some e=>
    obtain⟨s1,n3,p3⟩:=e;dsimp only;generalize power' a0.size (2*s1+n3) (2*s1+n3+n3+n) a0.size=pw
    refine Je (Z7 (Ym (I:=λy c st4=>c=(none,())/\Al a0 lo st4/\Up (arrOf st4) lo (lo+n))
     (Q:=λc st4=>c=(none,())/\Al a0 lo st4/\Up (arrOf st4) lo (lo+n)) ?a (λ_ _ z=>z) ⟨rfl,al,d2⟩) ?b)
    case a=>
     rintro y c st4 _ _ ⟨rfl,e1,e2⟩;refine Je (Wk ?_);by_cases hp:(pendingOf st4).size>1
     ·rw[J8 hp]
      have hg:(pendingOf st4)[(pendingOf st4).size-2]?=some (pendingOf st4)[(pendingOf st4).size-2]:=Uo _ _ (by omega)
      rw[hg];dsimp only;split
      ·exact Jf ⟨rfl,e1,e2⟩
      ·refine Je (Ao h0 e1 (by omega) (by omega) λst5 f1 _ f3=>?_)
       simp only[Vf,Jw,Yj];refine Jf ⟨rfl,f1,λi j i1 i2 i3=>?_⟩
       rw[f3 i i1,f3 j (by omega)]
       exact e2 i j i1 i2 i3
     ·rw[Jb hp];exact Jf ⟨rfl,e1,e2⟩
    case b=>
     rintro c st4 ⟨rfl,e1,e2⟩;dsimp only
     refine Je (Qt (Je (Qt (Jf ⟨lo+n,rfl,last n _ ⟨⟨e1.bs.perm,e1.bs.kind,e1.bs.failed⟩,?_⟩ n1 n2 e2,n2,by omega⟩))))
     show Ch (arrOf st4) 0 ((pendingOf st4).modify ((pendingOf st4).size-1) _).toList lo;rw[Array.toList_modify];exact Ch.pow _ (λs n p=>⟨_,rfl⟩) _ e1.ch
  ·refine Je (Wk ?_)
   have n2:lo+m<=a0.size:=by omega
   have al:=nxt m st2 c1 m1 n2 u;cases hb:(pendingOf st2).back? with
   |none=>
    dsimp only
    exact Je (Qt (Jf ⟨lo+m,rfl,last m st2 al m1 n2 u,n2,by omega⟩))
   |some e=>
    obtain⟨s1,n3,p3⟩:=e;dsimp only;generalize power' a0.size (2*s1+n3) (2*s1+n3+n3+m) a0.size=pw
    refine Je (Z7 (Ym (I:=λy c st4=>c=(none,())/\Al a0 lo st4/\Up (arrOf st4) lo (lo+m))
     (Q:=λc st4=>c=(none,())/\Al a0 lo st4/\Up (arrOf st4) lo (lo+m)) ?a (λ_ _ z=>z) ⟨rfl,al,u⟩) ?b)
    case a=>
     rintro y c st4 _ _ ⟨rfl,e1,e2⟩;refine Je (Wk ?_);by_cases hp:(pendingOf st4).size>1
     ·rw[J8 hp]
      have hg:(pendingOf st4)[(pendingOf st4).size-2]?=some (pendingOf st4)[(pendingOf st4).size-2]:=Uo _ _ (by omega)
      rw[hg];dsimp only;split
      ·exact Jf ⟨rfl,e1,e2⟩
      ·refine Je (Ao h0 e1 (by omega) (by omega) λst5 f1 _ f3=>?_)
       simp only[Vf,Jw,Yj];refine Jf ⟨rfl,f1,λi j i1 i2 i3=>?_⟩
       rw[f3 i i1,f3 j (by omega)]
       exact e2 i j i1 i2 i3
     ·rw[Jb hp];exact Jf ⟨rfl,e1,e2⟩
    case b=>
     rintro c st4 ⟨rfl,e1,e2⟩;dsimp only
     refine Je (Qt (Je (Qt (Jf ⟨lo+m,rfl,last m _ ⟨⟨e1.bs.perm,e1.bs.kind,e1.bs.failed⟩,?_⟩ m1 n2 e2,n2,by omega⟩))))
     show Ch (arrOf st4) 0 ((pendingOf st4).modify ((pendingOf st4).size-1) _).toList lo;rw[Array.toList_modify];exact Ch.pow _ (λs n p=>⟨_,rfl⟩) _ e1.ch
 case post=>
  rintro c st' ⟨rfl,b1⟩;dsimp only
  have hp0:(pendingOf st').size<=a0.size:=by have:=b1.ch.le;rw[Jy]at this;omega
  refine Je (Z7 (Ym (I:=λx c st2=>c=(none,())/\Al a0 a0.size st2/\((pendingOf st2).size+x<=a0.size\/(pendingOf st2).size<=1))
   (Q:=λc st2=>c=(none,())/\Al a0 a0.size st2/\(pendingOf st2).size<=1) ?a ?b ⟨rfl,b1,.inl (by omega)⟩) ?c)
  case b=>
   rintro c st2 ⟨hc,d1,d2⟩
   exact⟨hc,d1,by omega⟩
  case a=>
   rintro x c st2 _ hx ⟨rfl,d1,d2⟩;refine Je (Wk ?_);by_cases hs:(pendingOf st2).size<=1
   ·rw[J8 hs];exact Jf ⟨rfl,d1,hs⟩
   rw[Jb hs]
   refine Je (Ao h0 d1 (J9 _) (EZ (by omega)) λst5 f1 f2 _=>?_)
   simp only[Vf,Jw,Yj]
   exact Jf ⟨rfl,f1,by omega⟩
  case c=>
   rintro c st2 ⟨rfl,d1,d2⟩;refine Jf (h st2 d1.bs.perm d1.bs.failed ?_);have hc:=d1.ch;rw[<- Jy]at d2
   match hl:(pendingOf st2).toList with
   |[]=>rw[hl]at hc;unfold Ch at hc;omega
   |[(z,n,p)]=>
    rw[hl]at hc;obtain⟨e1,e2,e3,e4⟩:=hc;unfold Ch at e4;rw[Nat.zero_add]at e3 e4;subst e4;exact e3
   |_::_::_=>rw[hl]at d2;simp at d2
end
section
variable{prog:Program}{w:World}{A:Around}{E:Value->Shared->Prop}{s:Shared}
theorem ups(h:Up xs 0 n):SortedTo xs n:=λi j i1 i2=>h i j (Y0 _) i1 i2
theorem Ap{a:Addr}{vs:List Value}{ns:List Int}{P:Fin->Shared->Prop}(ho:s.heap.get? a=some (seqObj "list" vs.toArray n))(hI:IntsAre vs ns)(hz:vs.length<=sizeLine)
  (h:∀(out:Array Value)(ns':List Int),IntsAre out.toList ns'->ns'.Perm ns->ns'.Pairwise (· <= ·)->P (.done (.ret .none)) { s with heap:=sortedHeap s.heap a vs out }):wpAny (model prog w) A (Builtin.«list.sort» ⟨[.ref a],[]⟩) P E s:=by
 by_cases h64:vs.length<64
 ·exact list_sort_tree ho hI h64 h
 rw[list_sort_plain];have lt:=Jh ho
 refine J6 (listItems_at ho rfl (J6 (Ve ho rfl ?_ (hsz:=by simpa using hz) (hsz2:=by simp))))
 obtain⟨ep,g1⟩:∃ep,(s.heap.update a (Obj.mapSeq λ_=>#[])).get? a=some (seqObj "list" #[] ep):=⟨_,V2 ho (λ_=>#[])⟩
 refine J6 (seqEpoch_at g1 rfl (J6 (wpAny_newTuple (J6 (W4 (Yw ?_))) (by simpa using hz))))
 have g2:(((s.heap.update a (Obj.mapSeq λ_=>#[])).push (seqObj "tuple" vs.toArray 0)).push (seqObj "list" #[] 0)).get? a=some (seqObj "list" #[] ep):=by
  have z1:(s.heap.update a (Obj.mapSeq λ_=>#[])).objs.size=s.heap.objs.size:=Wt ..
  rw[Va _ _ _ (by rw[size_push',z1];exact Jq (Za lt)),Va _ _ _ (by rw[z1];exact Jq lt),g1]
 have big:¬vs.toArray.size<2:=by simp;omega
 dsimp only;rw[Jb big,Jb big]
 match vs,hI,hz,h64 with
 |[],_,_,h64=>exact absurd (by decide) h64
 |[_],_,_,h64=>exact absurd (by simp) h64
 |v1::v2::vs,hI,hz,h64=>
  rw[keyKind_ints hI]
  refine J6 (Jc (J6 (Zk (E3 (a0:=pairsOf (v1::v2::vs)) (st:=SortSt.mk' oneType' ((v1::v2::vs).toArray.zip (v1::v2::vs).toArray) #[] 7 none)
   (Q:=λ_ st'=>(arrOf st').Perm (pairsOf (v1::v2::vs))/\failedOf st'=none/\SortedTo (arrOf st') (pairsOf (v1::v2::vs)).size)
   hI.intKeys ⟨Array.Perm.refl _,rfl,rfl⟩ rfl (by rw[pairsOf_size];simp) λst' b1 b2 b3=>⟨b1,b2,ups b3⟩) ?_ λ_ _ e=>e)))
  rintro⟨⟨⟩,st'⟩ s' ⟨rfl,b1,b2,b3⟩;have hsz:((arrOf st').map (·.2)).size=(v1::v2::vs).length:=(Array.size_map ..).trans (b1.size_eq.trans (pairsOf_size _));obtain⟨ns',c1,c2,c3⟩:=sorted_out hI b1 b3
  refine J6 (seqEpoch_at g2 rfl (J6 (Ve g2 rfl ?_ (hsz:=by simp) (hsz2:=by rw[hsz];omega))))
  rw[b2];simp only[bne_self_eq_false,Jw,Yj];exact Jc (h _ ns' c1 c2 c3)
end
end SR
namespace SQ
open PySem PySem.Spec PyProof.Rows
section
variable{prog:Program}{w:World}{A:Around}{E:Value->Shared->Prop}{s:Shared}
theorem sortedHeap_ok{h:Heap}{a:Addr}{vs:List Value}{n:Nat}{out:Array Value}(ho:h.get? a=some (seqObj "list" vs.toArray n)):(∃n',(sortedHeap h a vs out).get? a=some (seqObj "list" out n'))/\∀b o,b≠a->h.get? b=some o->(sortedHeap h a vs out).get? b=some o:=by
 unfold sortedHeap;obtain⟨k,g⟩:∃k,(h.update a (Obj.mapSeq λ_=>#[])).get? a=some (seqObj "list" #[] k):=⟨_,V2 ho _⟩
 refine⟨⟨_,V2 (J7 _ (J7 _ g)) _⟩,λb o hb e=>?_⟩;exact((Q3 ..).2 b hb).trans (J7 _ (J7 _ (((Q3 ..).2 b hb).trans e)))
theorem mC{s:Shared}{vs:List Value}{ns:List Int}{Q:Value->Shared->Prop}(hI:IntsAre vs ns)(hz:vs.length<=sizeLine)
  (h:∀(h':Heap)(out:Array Value)(ns':List Int)(n:Nat),(∀b o,s.heap.get? b=some o->h'.get? b=some o)->h'.get? s.heap.objs.size=some (seqObj "list" out n)->IntsAre out.toList ns'->ns'.Perm ns->ns'.Pairwise (· <= ·)->Q (.ref s.heap.objs.size) { s with heap:=h' }):
  wpAny (model prog w) A (do
   let l <- newList vs
   let _ <- holding [l] (call (.builtin "list.sort") [l] [])
   ret l) (λfin s'=>∃v,fin=.done (.ret v)/\Q v s') E s:=by
 refine J6 (W4 ?_ hz);have g:(s.heap.push (seqObj "list" vs.toArray 0)).get? s.heap.objs.size=some (seqObj "list" vs.toArray 0):=Ji _ rfl
 refine J6 (Yw (Z4 slot_list_sort ⟨_,g,rfl⟩ entry_list_sort (SR.Ap g hI hz λout ns' a1 a2 a3=>⟨_,rfl,?_⟩) (args_list_sort _)));obtain⟨⟨n,g1⟩,g2⟩:=sortedHeap_ok (out:=out) g;exact Jc ⟨_,rfl,h _ out ns' n (λb o e=>g2 b o (Jq (Jh e)) (J7 _ e)) g1 a1 a2 a3⟩
theorem sorted_seq{k:Bool}{l:Addr}{vs:List Value}{ns:List Int}{Q:Value->Shared->Prop}(hl:Is k s.heap l vs.toArray)(hI:IntsAre vs ns)(hz:vs.length<=sizeLine)
  (h:∀(a:Addr)(h':Heap)(out:Array Value)(ns':List Int)(n:Nat),s.heap.objs.size<=a->(∀b o,s.heap.get? b=some o->h'.get? b=some o)->h'.get? a=some (seqObj "list" out n)->IntsAre out.toList ns'->ns'.Perm ns->ns'.Pairwise (· <= ·)->Q (.ref a) { s with heap:=h' }):
  wpAny (model prog w) A (call (.builtin "sorted") [.ref l]) Q E s:=by
 refine Calls.call_function_entry kind_sorted plain_sorted entry_sorted (args_sorted1 _) ?_;unfold Builtin.«sorted»;refine J6 (m:=checkCount "sorted" 1 1 _) (Jc ?_)
 refine J6 (collects hl ?_ hz)
 have kp:∀b o,s.heap.get? b=some o->((s.heap.push (seqObj "list" #[] 0)).update s.heap.objs.size (Obj.mapSeq (· ++ vs.toArray))).get? b=some o:=λb o e=>
  ((Q3 ..).2 b (Jq (Jh e))).trans (J7 _ e)
 refine mC (s:={ s with heap:=(s.heap.push (seqObj "list" #[] 0)).update s.heap.objs.size (Obj.mapSeq (· ++ vs.toArray)) }) hI hz λh' out ns' n k1 k2 a1 a2 a3=>h _ h' out ns' n ?_ (λb o e=>k1 b o (kp b o e)) k2 a1 a2 a3
 show s.heap.objs.size<=((s.heap.push (seqObj "list" #[] 0)).update s.heap.objs.size (Obj.mapSeq (· ++ vs.toArray))).objs.size
 rw[Wt,size_push'];exact W9 _
theorem sorted_src{T:String}{r d:Addr}{n:Nat}{P:Nat->Value->Prop}{OK:Heap->Prop}{ns:List Int}{Q:Value->Shared->Prop}(K:PySem.W.KdlSrc prog w T r d n P OK)(hh:A.handled=none)(hok:OK s.heap)(hn:n<=sizeLine)
  (hI:∀vs:List Value,vs.length=n->(∀j v,vs[j]?=some v->P j v)->IntsAre vs ns)
  (h:∀(h1:Heap)(tk:Nat),(∀b o,s.heap.get? b=some o->h1.get? b=some o)->∀(h2:Heap)(out:Array Value)(ns':List Int)(n:Nat),(∀b o,h1.get? b=some o->h2.get? b=some o)->h2.get? h1.objs.size=some (seqObj "list" out n)->IntsAre out.toList ns'->ns'.Perm ns->ns'.Pairwise (· <= ·)->Q (.ref h1.objs.size) { s with heap:=h2,toks:=tk }):
  wpAny (model prog w) A (call (.builtin "sorted") [.ref r]) Q E s:=by
 refine Calls.call_function_entry kind_sorted plain_sorted entry_sorted (args_sorted1 _) ?_;unfold Builtin.«sorted»;refine J6 (m:=checkCount "sorted" 1 1 _) (Jc ?_)
 refine J6 (PySem.W.kdu_collect (A:=A.in1) K hh hok hn λh' tk acc hk hacc=>?_)
 have hl:acc.toList.length=n:=by rw[Jy];exact hacc.1
 have hi:=hI acc.toList hl λj v e=>hacc.2 j v (by rw[<- Yz];exact e)
 refine mC (s:={ s with heap:=h',toks:=tk }) hi (by omega) λh2 out ns' n k1 k2 a1 a2 a3=>h h' tk hk h2 out ns' n k1 k2 a1 a2 a3
end
end SQ
namespace PD
open PySem PySem.Spec PyProof.Rows L2
noncomputable def g8:List (KD×D)->Option (List Int)
 |[]=>some []
 |(.inl i,_)::r=>(g8 r).map (i :: ·)
 |_=>none
noncomputable def tQ(S:Sto)(d:D):Option (List Int):=match bu S d with
 |some a=>intsOf a
 |none=>match dh S d with
  |some kvs=>g8 kvs
  |none=>none
noncomputable def vM:Sto->List D->Option D
 |S,[d]=>match tQ S d with
  |some ns=>if ns.length<=sizeLine then some (.lst ((jC ns).map .int)) else none
  |none=>none
 |_,_=>none
section
variable{X:Cx}{E:XK}
theorem pX:∀{kvs:List (KD×D)}{ns:List Int},g8 kvs=some ns->ns.length=kvs.length
 |[],_,h=>by unfold g8 at h;cases h;rfl
 |(.inl i,_)::r,ns,h=>by
  unfold g8 at h;cases e:g8 r with
  |none=>rw[e]at h;cases h
  |some m=>rw[e]at h;cases h;simp[pX e]
 |(.inr i,_)::r,ns,h=>by unfold g8 at h;cases h
theorem tR:∀{kvs:List (KD×D)}{ns:List Int},g8 kvs=some ns->∀(j:Nat)(k:KD)(d:D),kvs[j]?=some (k,d)->∃i,ns[j]?=some i/\k=.inl i
 |[],_,h,j,k,d,e=>by simp at e
 |(.inl i,x)::r,ns,h,j,k,d,e=>by
  unfold g8 at h;cases e':g8 r with
  |none=>rw[e']at h;cases h
  |some m=>
   rw[e']at h;cases h;cases j with
   |zero=>simp at e;exact⟨i,rfl,e.1.symm⟩
   |succ j=>exact tR e' j k d (by simpa using e)
 |(.inr i,_)::r,ns,h,j,k,d,e=>by unfold g8 at h;cases h
theorem nY:∀(vs:List Value)(ns:List Int),vs.length=ns.length->(∀(j:Nat)(v:Value),vs[j]?=some v->∃i t,ns[j]?=some i/\v=.int i t)->IntsAre vs ns
 |[],[],_,_=>.nil
 |v::vs,n::ns,hl,h=>by
  obtain⟨i,t,e,rfl⟩:=h 0 v rfl;cases e
  exact .cons _ _ (nY vs ns (by simpa using hl) λj v e=>h (j+1) v (by simpa using e))
 |[],_::_,hl,_=>by simp at hl
 |_::_,[],hl,_=>by simp at hl
theorem RDk.at{K:PySem.W.Frag}{w:Wd}{H:Hp}:∀{ds:List (KD×D)}{us:List (Key×V)},RDk K w H ds us->∀(j:Nat)(k:Key)(v:V),us[j]?=some (k,v)->∃d,ds[j]?=some (k,d)
 |[],_,h,j,k,v,e=>by rw[h.nil_inv]at e;simp at e
 |(k0,d)::ds,_,h,j,k,v,e=>by
  obtain⟨v0,r,rfl,_,t⟩:=h.cons_inv;cases j with
  |zero=>simp at e;exact⟨d,by simp[e.1]⟩
  |succ j=>exact t.at j k v (by simpa using e)
theorem Aq(hc:X.calm=true):bF X (.builtin "sorted") (xC X.K E vM):=by
 rintro pins s σ H xs us Q I r ⟨w,S,ds,hS,qs,p⟩;obtain⟨z,hz,p'⟩:=p.of;clear p;unfold vM at hz;split at hz
 ·rename_i d;obtain⟨v,rfl,q⟩:=qs.one_inv;split at hz
  ·rename_i ns hns;split at hz
   ·rename_i hlt;cases hz
    -- the list that comes
    have last:∀(s1:Shared)(a:Addr)(h2:Heap)(tk:Nat)(out:Array Value)(ns':List Int)(n:Nat),Inv X pins σ H s1->s1.heap.objs.size<=a->(∀b o,s1.heap.get? b=some o->h2.get? b=some o)->h2.get? a=some (seqObj "list" out n)->IntsAre out.toList ns'->ns'.Perm ns->ns'.Pairwise (· <= ·)->EP X pins σ Q (.ref a) { s1 with heap:=h2,toks:=tk }:=λs1 a h2 tk out ns' n I1 la k1 k2 a1 a2 a3=>by
     have en:ns'=jC ns:=mz (a2.trans (eV ns).symm) a3 (eD ns);subst en;have hf:H a=none:=I1.hok.fresh la
     have hz:((jC ns).map V.int).length<=sizeLine:=by rw[Jg,(eV ns).length_eq];exact hlt
     refine⟨.ref a,_,I1.laid (t':=tk) (a:=a) (o:=.lst ((jC ns).map V.int)) k1 la ⟨hz,out.toList,n,w8 a1,by rw[Array.toArray_toList];exact k2⟩,rfl,?_⟩
     exact p'.at (Ext.new hf) (RD.newLst hS hf (tG _)) (hS.new hf)
    unfold tQ at hns;split at hns
    ·rename_i a ha;obtain⟨pa,vs,rfl,sq,ra⟩:=jQ hS q ha;obtain⟨u,rfl,rx⟩:=Wc r;cases rx
     have main:∀(k:Bool)(its:List Value),Vals vs its->SQ.Is k s.heap pa its.toArray->wpAny (model X.prog X.w) X.A (call (.builtin "sorted") [.ref pa]) (EP X pins σ Q) X.xe s:=λk its rv pl=>by
      have hI:=gZ ra rv hns;have hl:its.length=ns.length:=hI.length
      exact SQ.sorted_seq pl hI (by omega) λa h' out ns' n la k1 k2 a1 a2 a3=>last s a h' s.toks out ns' n I la k1 k2 a1 a2 a3
     rcases sq with hq|hq
     ·obtain⟨its,r',pl,hz⟩:=I.list hq;exact main false its r' pl.isList
     ·obtain⟨its,r',pl,hz⟩:=I.tuple hq;exact main true its r' pl
    ·split at hns
     ·rename_i kvs hd;obtain⟨pp,us',rfl,rd,rk⟩:=lF hS q hd;obtain⟨u,rfl,rx⟩:=Wc r;cases rx;obtain⟨hl,hm,vs,rel,dd⟩:=j8 I.hok rd;obtain⟨ep,hat⟩:=dd.dictAt;have e1:=rel.length;have e2:=rk.length;have e3:=pX hns
      refine SQ.sorted_src (ns:=ns) (PySem.W.kdl_dict (knd:=bh X.prog X.w) (kvs:=vs) (ep:=ep) hm) (I.ok.hd hc) hat (by omega) (λws hw hv=>?_) λh1 tk hk h2 out ns' n k1 k2 a1 a2 a3=>?_
      ·refine nY ws ns (by omega) λj u hu=>?_
       obtain⟨k,x,hx,hkey⟩:=hv j u hu
       obtain⟨y,hy⟩:∃y,us'[j]?=some (k,y):=by
        have e:=Zv (λl:List Key=>l[j]?) rel.keys;simp only[Z9,hx,Zm]at e;cases hu':us'[j]? with
        |none=>rw[hu']at e;cases e
        |some q=>rw[hu']at e;cases e;exact⟨q.2,rfl⟩
       obtain⟨d',hd'⟩:=rk.at j k y hy;obtain⟨i,hi,rfl⟩:=tR hns j k d' hd';have:=tI hkey;obtain⟨t,rfl⟩:∃t,u=.int i t:=this;exact⟨i,t,hi,rfl⟩
      ·exact last { s with heap:=h1,toks:=tk } _ h2 tk out ns' n (I.kept (t':=tk) hk) (J9 _) k1 k2 a1 a2 a3
     ·cases hns
   ·cases hz
  ·cases hz
 ·cases hz
end
noncomputable def iz:Int->List Int->Int
 |m,[]=>m
 |m,x::r=>iz (if m<x then x else m) r
theorem rL:∀(l:List Int)(m:Int),(m<=iz m l/\∀x∈l,x<=iz m l)/\(iz m l=m\/iz m l∈l)
 |[],m=>⟨⟨Z6 _,λx h=>nomatch h⟩,.inl rfl⟩
 |x::r,m=>by
  obtain⟨⟨h1,h2⟩,h3⟩:=rL r (if m<x then x else m)
  show(m<=iz (if m<x then x else m) r/\∀y∈x::r,y<=iz (if m<x then x else m) r)/\(iz (if m<x then x else m) r=m\/iz (if m<x then x else m) r∈x::r)
  generalize iz (if m<x then x else m) r=z at *
  by_cases hx:m<x
  ·rw[J8 hx]at h1 h3
   refine⟨⟨by omega,λy hy=>?_⟩,.inr ?_⟩
   ·rcases Jj.mp hy with e|hy
    ·rw[e];exact h1
    ·exact h2 y hy
   ·rcases h3 with e|h3
    ·rw[e];exact .head _
    ·exact .tail _ h3
  ·rw[Jb hx]at h1 h3;refine⟨⟨h1,λy hy=>?_⟩,?_⟩
   ·rcases Jj.mp hy with e|hy
    ·rw[e];omega
    ·exact h2 y hy
   ·rcases h3 with e|h3
    ·exact .inl e
    ·exact .inr (.tail _ h3)
end PD
namespace L2
open PySem PySem.Spec PyProof.Rows
theorem Inv.freezeL{X:Cx}{pins:List (Addr×Obj)}{σ:St}{H:Hp}{s:Shared}{a:Addr}{vs:List V}(I:Inv X pins σ H s)(h:H a=some (.lst vs)):∃o,Inv X pins σ (upd H a (.frz o (.lst vs))) s:=by
 obtain⟨z,its,n,r,e⟩:bR X.prog X.w H s.heap a (.lst vs):=I.hok a _ h
 have I2:Inv X pins σ (upd H a (.frz _ (.lst vs))) { s with heap:=s.heap,toks:=s.toks }:=I.write (x:=a) (e:=a) (by rw[h];exact True.intro) (.inl rfl) (λb u _ q=>q) ⟨_,e⟩ ⟨e,z,its,n,r,e⟩
 exact⟨_,I2⟩
section
variable{X:Cx}{tg:Expr}
noncomputable def Hr(K:PySem.W.Frag)(td:TE):TI:=λσ H R=>td σ H λx H1=>∃a vs,x=.ref a/\((H1 a=some (.lst vs)/\∀o,R (Itl K a) (upd H1 a (.frz o (.lst vs)))) \/ ∃o,H1 a=some (.frz o (.lst vs))/\R (Itl K a) H1)
theorem E4{d:Expr}{td:TE}(hd:PE X d td):PI X tg d (Hr X.K td):=by
 intro pins s σ H R I h;refine thn (hd pins s σ H _ I h) λu s1 zq=>?_;obtain⟨x,H1,I1,rx,a,vs,ex,q1⟩:=zq;subst ex;obtain rfl:u=Value.ref a:=rx
 have main:∀(H2:Hp)(o:Obj),Inv X pins σ H2 s1->H2 a=some (.frz o (.lst vs))->R (Itl X.K a) H2->wpAny (model X.prog X.w) X.A (pyIter (.ref a)) (PIE X pins σ tg R) X.xe s1:=λH2 o I2 hH2 q=>by
  obtain⟨its,rv,p,hz⟩:=I2.list (xs:=vs) (.inl (.inr ⟨o,hH2⟩));refine Zj p.isList ?_;refine⟨s1.heap.objs.size,[s1.heap.objs.size],_,_,H2,rfl,I2.kept (t':=s1.toks) λb o e=>J7 _ e,pe a _,⟨_,Ji _ rfl,rfl,rfl⟩,λb hb=>?_,q⟩
  have e:b=s1.heap.objs.size:=by simpa using hb
  subst e;exact I2.fpOk (J9 _) (I2.hok.fresh (J9 _))
 rcases q1 with⟨hH,q⟩|⟨o,hH,q⟩
 ·obtain⟨o,I2⟩:=I1.freezeL hH;exact main _ o I2 aQ (q o)
 ·exact main _ o I1 hH q
end
end L2
namespace PD
open PySem PySem.Spec PyProof.Rows L2
noncomputable def rM(m:EM):AM:=λr S=>(m r S).bind λd S1=>match d with
 |.ref n=>match S1[n]? with
  |some (.lst xs)=>.ok xs (S1.set n (.flst xs))
  |some (.flst xs)=>.ok xs S1
  |_=>.bad
 |_=>.bad
theorem Ar{K:PySem.W.Frag}{w:Wd}{H:Hp}{a:Addr}{o:Obj}{ds:List D}{vs:List V}(hst:∀w' H',Ext w H w' H'->H' a=some (.frz o (.lst vs)))(q:RDs K w H ds vs):RI K w H ds (Itl K a):=by
 intro i w' H' x';have q':=RDs.ext x' _ _ q;have sq:SqL K H' a vs:=.inl (.inr ⟨o,hst w' H' x'⟩)
 refine⟨λhi=>⟨⟨vs,vs[i]'(by rw[q.length];exact hi),sq,Jd _⟩,λx H'' y=>?_⟩,λhi=>⟨vs,sq,by rw[q.length];exact hi⟩⟩
 obtain⟨rfl,y⟩:=y;refine⟨.inl rfl,λS _=>⟨ds[i],Jd hi,?_⟩⟩;obtain⟨v,e,rv⟩:=q'.get (Jd hi);rw[y vs sq]at e;cases e;exact rv
section
variable{X:Cx}{E:XK}
theorem vN{tg:Expr}{d:Expr}{md:EM}(ha:SE X E d md):SI X E tg d (rM md):=⟨
 fI (E4 ha.out) λs H Q zq=>ex6 zq λw r S hr hS hp=>⟨w,r,S,hr,hS,hp.bind hS λd S1 w1 H1 v x1 q1 s1 p1=>by
  cases d with
  |ref m=>
   obtain⟨pp,rfl,hp⟩:=q1.refI;have hm:pp∈w1.st:=Z3 hp;cases e:S1[m]? with
   |none=>simp only[e]at p1;exact p1.elim
   |some ob=>
    obtain⟨p',hp',ro⟩:=s1.obj _ _ e;rw[hp]at hp';cases hp';cases ob with
    |lst xs=>
     simp only[e]at p1;obtain⟨vs,hv,rk⟩:=ro;refine⟨pp,vs,rfl,.inl ⟨hv,λo=>?_⟩⟩;have rk':=RDs.ext (Ext.mut hm hv (o:=.frz o (.lst vs))) _ _ rk;exact aF.at p1 (Ext.mut hm hv) (Ar (λw' H' x'=>x'.frz _ _ _ aQ) rk') (s1.mut hp hv ⟨o,vs,aQ,rk'⟩)
    |flst xs=>
     simp only[e]at p1;obtain⟨o,vs,hv,rk⟩:=ro;exact⟨pp,vs,rfl,.inr ⟨o,hv,aF.ret p1 (Ar (λw' H' x'=>x'.frz _ _ _ hv) rk) s1⟩⟩
    |dic xs=>simp only[e]at p1;exact p1.elim
    |fdic xs=>simp only[e]at p1;exact p1.elim
    |ins c fs=>simp only[e]at p1;exact p1.elim
  |_=>exact p1.elim⟩⟩
end
section
variable{X:Cx}{E:XK}
noncomputable def E5(neg:Bool):Sto->D->D->Option D:=λ_ a b=>match a,b with
 |.bl x,.bl y=>some (.bl (if neg then !(x == y) else x == y))
 |_,_=>none
theorem yP:OpR X (compareOp .IsNot) (xO X.K E (E5 true)):=by
 rintro pins s σ H x y v u Q I rx ry ⟨w,S,d,e,hS,qd,qe,p⟩;obtain⟨z,hz,p⟩:=p.of;unfold E5 at hz;split at hz
 ·rename_i a b;cases hz;cases qd.bl;cases qe.bl;cases rx;cases ry;by_cases e:a=b
  ·subst e;refine wpAny_isNot_self rfl ⟨.bl false,H,I,rfl,?_⟩
   have e':(a == a)=true:=by simp
   simp only[Yd,e',Vf]at p;exact p.ret RD.mkB hS
  ·refine wpAny_isNot_other rfl (λz=>e (by injection z)) ⟨.bl true,H,I,rfl,?_⟩
   have e':(a == b)=false:=by simpa using e
   simp only[Yd,e',Bool.not_false]at p;exact p.ret RD.mkB hS
 ·cases hz
end
theorem RDs.rev{K:PySem.W.Frag}{w:Wd}{H:Hp}:∀{ds:List D}{vs:List V},RDs K w H ds vs->RDs K w H ds.reverse vs.reverse
 |[],_,h=>by cases h;exact .nil
 |d::ds,_,h=>by obtain⟨v,r,rfl,q,qs⟩:=h;rw[Wg,Wg];exact RDs.append (RDs.rev qs) (.cons q .nil)
end PD
namespace PySem
open PyProof.Rows
open Sem (wp)
namespace F
theorem ul_plain:plainId "dict.update.loop" = true:=by decide +kernel
theorem ul_entry:entryFor table "dict.update.loop" = some Builtin.«dict.update.loop»:=entryFor_of_tree (by kernel_rfl)
theorem list_no_keys:typeLookup (.type "list") "keys" = pure none:=by rw[typeLookup_type,builtinLookup_eq_fast];kernel_rfl
end F
section
variable{prog:Program}{w:World}{A:Around}{E:Value->Shared->Prop}
theorem nZ{s:Shared}{l:Addr}{sl:Array (Option Value)}{xs:Array Value}{n:Nat}{Q:Option Value->Shared->Prop}(hl:s.heap.get? l=some { cls:=.type "list",dict:=none,data:=.seq xs n,slots:=sl })(hA:A.handled=none)
  (q:∀h' tk,(∀b ob,s.heap.get? b=some ob->h'.get? b=some ob)->Q none { s with heap:=h',toks:=tk }):wpAny (model prog w) A (getAttr? (.ref l) "keys") Q E s:=by
 obtain⟨hp,gs,dr,k0,os⟩:=s;have ty:∀k,(⟨hp,gs,dr,k,os⟩:Shared).TypeIs (.ref l) "list":=λ_=>⟨_,hl,rfl⟩
 have a1:=sub_AttributeError;have a2:=F.slot_list_getattribute.lookup;have a3:=F.slot_list_getattribute.bind (.ref l);have a4:=am_list_getattr_none
 have nm:(["__module__","__name__","__qualname__","__doc__","__annotations__"]:List Str).contains "keys" = false:=by decide +kernel
 unfold getAttr? getAttrBy? getAttrBy
 repeat (any_goals (first|assumption|exact ty _|((with_reducible show wpAny _ _ (call (Value.builtin "list.__getattribute__") _ _) _ _ _);refine Wp F.slot_list_getattribute (ty _) am_entry_list_getattribute (F.args_list_getattribute_2 _ _) (meets_getattribute_miss_list l xs n sl "keys" _ F.list_no_keys nm (by size_fits)) ⟨hl,hA,λh' tk' e x=>?_⟩)|wp_step))
 obtain⟨_,_,he⟩:=x.there;show wpAny _ _ (getattributeRaised _ _ _ _ _ _ _) _ _ _;unfold getattributeRaised
 repeat (any_goals (first|assumption|wp_step))
 exact q h' tk' x.keeps
end
section
variable{prog:Program}{w:World}{K:Type}[DecidableEq K]{knd:KeyKind prog w K}{A:Around}{R:Result->Shared->Prop}
def rN(knd:KeyKind prog w K)(h:Heap)(d I:Addr)(kv:K×Value)(v:Value):Prop:=∃p key,v=.ref p/\knd.is kv.1 key=true/\h.IsTuple p #[key,kv.2]/\p≠d/\p≠I
theorem rN.keep{h h':Heap}{d I:Addr}{kv:K×Value}{v:Value}(x:rN knd h d I kv v)(hk:∀b o,b≠I->b≠d->h.get? b=some o->h'.get? b=some o):rN knd h' d I kv v:=by obtain⟨p,key,e,z,⟨o,ho,r⟩,n1,n2⟩:=x;exact⟨p,key,e,z,⟨o,hk p o n2 n1 ho,r⟩,n1,n2⟩
theorem vO(a:List (K×Value))(k:K)(v:Value):(stored a k v).length<=a.length+1:=by
 unfold stored;split
 ·rw[Jg];omega
 ·rw[Jp];exact J9 _
theorem pY{I l d:Addr}(hne:l≠I)(hd1:d≠I)(hd2:d≠l)(hh:A.handled=none)(items:Array Value):
  ∀(kvs:List (K×Value))(vs:List Value)(j:Nat)(s:Shared)(acc:List (K×Value)),items.toList.drop j=vs->vs.length=kvs.length->(∀(i:Nat) kv v,kvs[i]?=some kv->vs[i]?=some v->rN knd s.heap d I kv v)->
   s.heap.IsListIter I l j->s.heap.IsList l items->s.heap.DictOf knd d acc->acc.length+kvs.length<=sizeLine->
   (∀h' tk,h'.DictOf knd d (merged acc kvs)->(∀b o,b≠I->b≠d->s.heap.get? b=some o->h'.get? b=some o)->R (.ok (.ret .none)) { s with heap:=h',toks:=tk })->
   codeAny (model prog w) A (.builtin "dict.update.loop" ⟨[.ref d,.ref I,rawInt j,.none],[]⟩) R s
 |[],vs,j,s,acc,hv,hl,_,st,il,hm,_,hR=>by
  have W:=Vu (prog:=prog) (w:=w) (A:=A.in1) hh I l hne items;have e0:vs=[]:=Zg.mp hl
  have hj:items.size<=j:=by have:=Zv List.length hv;rw[e0,Zp,Jy]at this;exact Nat.le_of_sub_eq_zero this
  refine Zy F.ul_entry ?_;rw[Zs F.ul_plain _];show wpAny _ A.in1 (pyNext (.ref I) >>= _) _ _ s
  refine J6 (wpAny_pyNext_list_end (A:=A.in1) hh st il (by simpa using hj) λh' he=>?_)
  show wpAny _ A.in1 (Builtin.Dict.addKeywords d [] >>= λ_=>ret .none) _ _ _;refine J6 (Jc (Jc ?_))
  exact hR h' s.toks (by obtain⟨o,es,ep,ho,r⟩:=hm;exact⟨o,es,ep,he d o hd1 ho,r⟩) λb o b1 b2 e=>he b o b1 e
 |kv::kvs,vs,j,s,acc,hv,hl,hp,st,il,hm,hz,hR=>by
  obtain⟨v,vs',rfl⟩:∃v vs',vs=v::vs':=by
   cases vs with
   |nil=>cases hl
   |cons v vs'=>exact⟨v,vs',rfl⟩
  have hjl:j<items.size:=by have:=Zv List.length hv;rw[Zp,Jy,Jm]at this;omega
  have hit:items[j]?=some v:=by have:=Zv (λl:List Value=>l[0]?) hv;simp only[V5,Nat.add_zero,Zu,Yz]at this;exact this
  have hv':items.toList.drop (j+1)=vs':=by rw[<- U1,hv];rfl
  rw[Jm]at hz;obtain⟨p,key,rfl,hkey,⟨o,ho,hc,n,hdat⟩,n1,n2⟩:=hp 0 kv v rfl rfl;refine Zy F.ul_entry ?_;rw[Zs F.ul_plain _];show wpAny _ A.in1 (pyNext (.ref I) >>= _) _ _ s;refine J6 (wpAny_pyNext_list_item (A:=A.in1) st il (x:=.ref p) hit λh' st' hs=>?_);have k1:∀b ob,b≠I->s.heap.get? b=some ob->h'.get? b=some ob:=λb ob hb e=>hs.extBut b ob hb e;have ho1:=k1 p o n2 ho
  have hm1:h'.DictOf knd d acc:=by obtain⟨o',es,ep,ho',r⟩:=hm;exact⟨o',es,ep,k1 d o' hd1 ho',r⟩
  have il1:h'.IsList l items:=by obtain⟨o',ho',r⟩:=il;exact⟨o',k1 l o' hne ho',r⟩
  show wpAny _ A.in1 (holding [.ref p] _ >>= _) _ _ _;refine J6 (Yw ?_);refine J6 (Wj ?_);unfold Builtin.Dict.pairItems
  refine J6 (Wi (show Shared.TypeIs { s with heap:=h' } (.ref p) "tuple" from ⟨o,ho1,hc⟩) ?_)
  rw[J8 (by decide)]
  refine J6 (Z1 ho1 hdat (Jc ?_));show wpAny _ A.in1 (holding [key,kv.2] (dictSet d key kv.2)) _ _ _
  refine Yw (wpAny_dictSet_pairs hkey hm1 (λh2 hm2 hs2=>?_) (by omega))
  refine Jc ⟨Qm F.ul_plain _,?_⟩;have k2:∀b ob,b≠I->b≠d->s.heap.get? b=some ob->h2.get? b=some ob:=λb ob b1 b2 e=>(hs2.2 b b2).trans (k1 b ob b1 e);have hlen:=vO acc kv.1 kv.2
  refine pY hne hd1 hd2 hh items kvs vs' (j+1) _ (stored acc kv.1 kv.2) hv' (by simpa using hl) (λi kv' v' e1 e2=>(hp (i+1) kv' v' e1 e2).keep k2) ?_ ?_ hm2 (by omega) λh3 tk hm3 k3=>?_
  ·obtain⟨o',ho',r⟩:=st';exact⟨o',(hs2.2 I (Ne.symm hd1)).trans ho',r⟩
  ·obtain⟨o',ho',r⟩:=il1;exact⟨o',(hs2.2 l (Ne.symm hd2)).trans ho',r⟩
  ·exact hR h3 tk hm3 λb ob b1 b2 e=>k3 b ob b1 b2 (k2 b ob b1 b2 e)
end
section
variable{prog:Program}{w:World}{K:Type}[DecidableEq K]{knd:KeyKind prog w K}{A:Around}{E:Value->Shared->Prop}{s:Shared}
theorem mT{l:Addr}{items:Array Value}{n:Nat}{sl:Array (Option Value)}{kvs:List (K×Value)}{Q:Value->Shared->Prop}(hh:A.handled=none)(hl:s.heap.get? l=some { cls:=.type "list",dict:=none,data:=.seq items n,slots:=sl })(hn:items.size=kvs.length)
  (hp:∀(i:Nat) kv v,kvs[i]?=some kv->items[i]?=some v->∃p key,v=.ref p/\knd.is kv.1 key=true/\s.heap.IsTuple p #[key,kv.2]) (hz:kvs.length<=sizeLine)
  (q:∀h' tk,h'.DictOf knd s.heap.objs.size (merged [] kvs)->(∀b o,s.heap.get? b=some o->h'.get? b=some o)->Q (.ref s.heap.objs.size) { s with heap:=h',toks:=tk }):wpAny (model prog w) A (call (.type "dict") [.ref l]) Q E s:=by
 refine callType_codes (Q₁:=λz t=>z=.ref s.heap.objs.size/\t={ s with heap:=s.heap.push { cls:=.type "dict",data:=.dict #[] } }) F.kt_called_dict (F.kt_typeCall_dict_1 _) F.entry_dict_init (kt_code_dict_new _ ⟨rfl,rfl⟩) ?_
 rintro z t ⟨rfl,rfl⟩;have hm:(s.heap.push { cls:=.type "dict",data:=.dict #[] }).DictOf knd s.heap.objs.size []:=Heap.DictOf.new s.heap
 have k0:∀b o,s.heap.get? b=some o->(s.heap.push { cls:=.type "dict",data:=.dict #[] }).get? b=some o:=λb o e=>J7 _ e
 have hl0:=k0 l _ hl;refine⟨hm.typeIs,F.args_dict_init_2 _ _,?_⟩;unfold Builtin.«dict.__init__»;refine J6 ?_;unfold Builtin.Dict.selfAndRest;refine J6 (wpAny_notOrdered_dict hm.typeIs ?_);show wpAny _ _ (pure (s.heap.objs.size,[Value.ref l])) _ _ _;refine Jc ?_;show wpAny _ _ (Builtin.Dict.updateFrom "dict.__init__" s.heap.objs.size (.ref l) [] .none) _ _ _
 unfold Builtin.Dict.updateFrom
 refine J6 (Wi (show Shared.TypeIs { s with heap:=s.heap.push { cls:=.type "dict",data:=.dict #[] } } (.ref l) "list" from ⟨_,hl0,rfl⟩) ?_)
 rw[J8 (by decide)]
 refine J6 (nZ (A:=A.in1.in1) hl0 hh λh1 tk1 k1=>?_)
 rw[J8 (show(none:Option Value).isNone=true from rfl)]
 have hl1:=k1 l _ hl0;have il1:h1.IsList l items:=⟨_,hl1,rfl,n,rfl⟩;refine J6 (Yv (J6 (Zj il1 ?_)));have k2:∀b o,s.heap.get? b=some o->(h1.push { cls:=.type "list_iterator",data:=.fields #[.ref l,.int 0 0] }).get? b=some o:=λb o e=>J7 _ (k1 b o (k0 b o e))
 have e1:=Jh hl
 have e2:s.heap.objs.size<h1.objs.size:=by obtain⟨o,es,ep,ho,r⟩:=hm;exact Jh (k1 _ o ho)
 refine Jc ⟨Qm F.ul_plain _,?_⟩
 refine pY (A:=A.in1) (knd:=knd) (l:=l) (I:=h1.objs.size) (Jq (Vs e1 e2)) (Jq e2) (Q7 e1) hh items kvs items.toList 0 _ [] rfl (by rw[Jy];exact hn) (λi kv v p1 p2=>?_) ⟨_,Ji _ rfl,rfl,rfl⟩ ⟨_,k2 l _ hl,rfl,n,rfl⟩ (by obtain⟨o,es,ep,ho,r⟩:=hm;exact⟨o,es,ep,J7 _ (k1 _ o ho),r⟩) (by simpa using hz) λh' tk hm' k3=>⟨rfl,q h' tk hm' λb o e=>?_⟩
 ·obtain⟨p,key,ev,z,⟨o,ho,r⟩⟩:=hp i kv v p1 (by rw[<- Yz];exact p2)
  have e3:=Jh ho;exact⟨p,key,ev,z,⟨o,k2 p o ho,r⟩,Jq e3,Jq (Vs e3 e2)⟩
 ·have e3:=Jh e;exact k3 b o (Jq (Vs e3 e2)) (Jq e3) (k2 b o e)
end
end PySem
namespace L2
open PySem PySem.Spec PyProof.Rows
theorem As(a:List (Key×V))(k:Key)(v:V):(putK a k v).length<=a.length+1:=by
 unfold putK;split
 ·rw[Jg];omega
 ·rw[Jp];exact J9 _
theorem n5:∀(more acc:List (Key×V)),(eU acc more).length<=acc.length+more.length
 |[],acc=>J9 _
 |kv::more,acc=>by have h1:=n5 more (putK acc kv.1 kv.2);have h2:=As acc kv.1 kv.2;show(eU (putK acc kv.1 kv.2) more).length<=acc.length+(more.length+1);omega
noncomputable def PrV(K:PySem.W.Frag)(H:Hp):List V->List (Key×V)->Prop
 |[],kvs=>kvs=[]
 |y::ys,kvs=>∃kv r p,kvs=kv::r/\y=.ref p/\SqT K H p [kV kv.1,kv.2]/\PrV K H ys r
section
variable{X:Cx}
theorem tS{pins:List (Addr×Obj)}{σ:St}{H:Hp}{s:Shared}(I:Inv X pins σ H s):∀{ys:List V}{kvs:List (Key×V)}{its:List Value},PrV X.K H ys kvs->Vals ys its->∃ks:List (Key×Value),KV kvs ks/\its.length=ks.length/\∀(i:Nat) kv v,ks[i]?=some kv->its[i]?=some v->∃pp key,v=.ref pp/\(bh X.prog X.w).is kv.1 key=true/\s.heap.IsTuple pp #[key,kv.2]
 |[],kvs,_,h,.nil=>by
  cases (show kvs=[] from h)
  exact⟨[],.nil,rfl,λi kv v e=>by cases e⟩
 |y::ys,kvs,_,h,.cons ry rr=>by
  obtain⟨kv,r,p,rfl,rfl,sq,hr⟩:=h;obtain⟨ks,h1,h2,h3⟩:=tS I hr rr;obtain⟨its2,r2,it,_⟩:=I.tuple sq;obtain⟨key,u,rfl,rk,ru⟩:=vals2 r2;cases ry
  refine⟨(kv.1,u)::ks,.cons ⟨rfl,ru⟩ h1,by rw[Jm,Jm,h2],λi kv' v e1 e2=>?_⟩
  cases i with
  |zero=>
   cases e1;cases e2;exact⟨p,key,rfl,lX rk,it⟩
  |succ i=>exact h3 i kv' v e1 e2
theorem oV(hc:X.calm=true):bF X (.type "dict") (λxs H Q=>∃p ys kvs,xs=[.ref p]/\SqL X.K H p ys/\PrV X.K H ys kvs/\∀q,H q=none->Q (.ref q) (upd H q (.dK (eU [] kvs)))):=by
 intro pins s σ H xs us Q I r h;obtain⟨p,ys,kvs,rfl,hq,hp,q⟩:=h;obtain⟨u,rfl,rx⟩:=Wc r;cases rx;obtain⟨its,r',⟨o,n,ho,hcl,hdc,hdt⟩,hz⟩:=I.list hq;obtain⟨ks,h1,h2,h3⟩:=tS I hp r';obtain⟨c,dc,dt,sl⟩:=o;simp only at hcl hdc hdt;subst hcl hdc hdt;have l1:=r'.length;have l2:=h1.length
 refine mT (knd:=bh X.prog X.w) (items:=its.toArray) (kvs:=ks) (I.ok.hd hc) ho (by simpa using h2) (λi kv v e1 e2=>h3 i kv v e1 (by simpa using e2)) (by omega) λh' tk hm hk=>?_
 have lz:=n5 kvs []
 refine⟨.ref s.heap.objs.size,_,I.laid (t':=tk) hk (J9 _) (show bR X.prog X.w _ h' _ (.dK (eU [] kvs)) from ⟨by simp only[Yi]at lz;omega,?_,_,KV.merge h1 .nil,hm⟩),rfl,q _ (I.hok.fresh (J9 _))⟩
 have:=I.big;exact Vy.mpr (Q7 this)
end
end L2
namespace PD
open PySem PySem.Spec PyProof.Rows L2
noncomputable def yQ:List D->Option (List (KD×D))
 |[]=>some []
 |.tup [k,v]::r=>match ju k,yQ r with
  |some k',some r'=>some ((k',v)::r')
  |_,_=>none
 |_=>none
noncomputable def Av:Sto->List D->R D
 |S,[d]=>match kn S d with
  |some a=>match yQ a with
   |some kvs=>.ok (.ref S.length) (S++[.dic (ir [] kvs)])
   |none=>.bad
  |none=>.bad
 |_,_=>.bad
section
variable{X:Cx}{E:XK}
theorem Aw{w:Wd}{H:Hp}:∀{a:List D}{vs:List V}{kvs:List (KD×D)},RDs X.K w H a vs->yQ a=some kvs->∃us,PrV X.K H vs us/\RDk X.K w H kvs us
 |[],vs,kvs,q,h=>by cases h;rw[q.nil_inv];exact⟨[],rfl,.nil⟩
 |d::a,vs,kvs,q,h=>by
  unfold yQ at h;split at h
  ·rename_i e;cases e
  ·rename_i k v r e;cases e;split at h
   ·rename_i k' r' e1 e2;cases h;obtain⟨y,ys,rfl,q1,q2⟩:=q.cons_inv;obtain⟨us,p1,p2⟩:=Aw q2 e2;obtain⟨p,zs,rfl,sq,qz⟩:=q1.tupI;obtain⟨z1,z2,rfl,qk,qv⟩:=qz.two_inv;have ek:=iu qk e1;subst ek;exact⟨(k',z2)::us,⟨(k',z2),us,p,rfl,rfl,cj sq,p1⟩,.cons qv p2⟩
   ·cases h
  ·cases h
theorem E6(hc:X.calm=true):bF X (.type "dict") (xCR X.K E Av):=by
 rintro pins s σ H xs us Q I r ⟨w,S,ds,hS,qs,p⟩;unfold Av at p;split at p
 ·rename_i d;obtain⟨v,rfl,q⟩:=qs.one_inv;split at p
  ·rename_i a ha;split at p
   ·rename_i kvs hk;obtain⟨pa,vs,rfl,sq,ra⟩:=rD hS q ha;obtain⟨uk,p1,p2⟩:=Aw ra hk;exact oV hc pins s σ H _ us Q I r ⟨pa,vs,uk,rfl,sq,p1,λt ht=>aF.at p (Ext.alloc ht) hS.lastRef (hS.alloc ht ⟨_,aQ,RDk.ext (Ext.alloc ht) _ _ (RDk.merge p2 .nil)⟩)⟩
   ·exact p.elim
  ·exact p.elim
 ·exact p.elim
end
noncomputable def tT:Sto->List D->Option D
 |S,[d]=>match bu S d with
  |some a=>match intsOf a with
   |some (n::ns)=>some (.int (iz n ns))
   |_=>none
  |none=>none
 |_,_=>none
theorem Ax{n:Int}{ns:List Int}{m:Nat}(hm:m<(n::ns).length)(h:∀j,j<(n::ns).length->((n::ns)[j]?).getD 0<=((n::ns)[m]?).getD 0):((n::ns)[m]?).getD 0=iz n ns:=by
 have e1:((n::ns)[m]?).getD 0∈n::ns:=by rw[Jd hm];exact Qw hm
 have e2:∀x∈n::ns,x<=((n::ns)[m]?).getD 0:=λx hx=>by obtain⟨j,hj,rfl⟩:=Qs.mp hx;have:=h j hj;rw[Jd hj]at this;exact this
 obtain⟨⟨a1,a2⟩,a3⟩:=rL ns n
 have c1:=e2 (iz n ns) (by rcases a3 with e|h;rw[e];exact .head _;exact .tail _ h)
 have c2:((n::ns)[m]?).getD 0<=iz n ns:=by
  rcases Jj.mp e1 with e|h
  ·rw[e];exact a1
  ·exact a2 _ h
 omega
section
variable{X:Cx}{E:XK}
theorem Cz(hc:X.calm=true):bF X (.builtin "max") (xC X.K E tT):=by
 rintro pins s σ H xs us Q I r ⟨w,S,ds,hS,qs,p⟩;obtain⟨z,hz,p'⟩:=p.of;clear p;unfold tT at hz;split at hz
 ·rename_i d;split at hz
  ·rename_i a ea;split at hz
   ·rename_i n ns e;cases hz;obtain⟨v,rfl,q⟩:=qs.one_inv;obtain⟨pa,vs,rfl,sq,ra⟩:=jQ hS q ea;obtain⟨u,rfl,ru⟩:=Wc r;cases ru;have hlen:=nQ e
    have fin:∀(its:List Value)(w':Value)(h':Heap)(tk:Nat),Vals vs its->its.toArray[argBest (λi j=>decide (((n::ns)[i]?).getD 0>((n::ns)[j]?).getD 0)) (its.toArray.size-1)]?=some w'->(∀b o,s.heap.get? b=some o->h'.get? b=some o)->EP X pins σ Q w' { s with heap:=h',toks:=tk }:=λits w' h' tk r1 hP hk=>by
     have hsz:its.toArray.size=(n::ns).length:=by rw[hlen,<- ra.length,r1.length];simp
     obtain⟨t,rfl⟩:=jj ra r1 e _ w' (by simpa using hP)
     obtain⟨b1,b2⟩:=argBest_gt (λi=>((n::ns)[i]?).getD 0) (its.toArray.size-1);generalize argBest (λi j=>decide (((n::ns)[i]?).getD 0>((n::ns)[j]?).getD 0)) (its.toArray.size-1)=m at *;have h0:0<(n::ns).length:=Vx _
     rw[Ax (m:=m) (by omega) λj hj=>b2 j (by omega)]
     exact⟨.int _,H,I.kept hk,⟨t,rfl⟩,p'.ret RD.mkI hS⟩
    rcases sq with sq|sq
    ·obtain⟨its,r1,⟨o,k,ho,hcl,hdn,hd⟩,_⟩:=I.list sq;have hlt:pa<s.heap.objs.size:=Jh ho;have hl:s.heap.IsList pa its.toArray:=⟨o,ho,hcl,k,hd⟩;refine call_max_walk (Zj hl ?_)
     refine⟨s.heap.objs.size,[s.heap.objs.size,pa],[s.heap.objs.size],its.toArray.size,_,_,_,rfl,Vu (A:=X.A.in1) (I.ok.hd hc) _ pa (Jq hlt) its.toArray,
      ⟨⟨_,Ji _ rfl,rfl,rfl⟩,hl.push _⟩,λb hb=>?_,?_,CmpOf.ints_gt (λi=>((n::ns)[i]?).getD 0) (λi v hP=>jj ra r1 e i v (by simpa using hP)),λw' h' tk hP hk=>fin its w' h' tk r1 hP (Vd hk)⟩
     ·simp only[Jj,Y6,Zb]at hb;rw[Y7];rcases hb with rfl|rfl
      ·exact Zq _
      ·exact Za hlt
     ·have:its.toArray.size=(n::ns).length:=by rw[hlen,<- ra.length,r1.length];simp
      rw[this];exact Vx _
    ·obtain⟨its,r1,⟨o,ho,hcl,k,hd⟩,_⟩:=I.tuple sq;have hlt:pa<s.heap.objs.size:=Jh ho;have hl:s.heap.IsTuple pa its.toArray:=⟨o,ho,hcl,k,hd⟩;refine call_max_walk (W5 hl ?_)
     refine⟨s.heap.objs.size,[s.heap.objs.size,pa],[s.heap.objs.size],its.toArray.size,_,_,_,rfl,Walks.tuple (A:=X.A.in1) (I.ok.hd hc) _ pa (Jq hlt) its.toArray,
      ⟨⟨_,Ji _ rfl,rfl,rfl⟩,hl.push _⟩,λb hb=>?_,?_,CmpOf.ints_gt (λi=>((n::ns)[i]?).getD 0) (λi v hP=>jj ra r1 e i v (by simpa using hP)),λw' h' tk hP hk=>fin its w' h' tk r1 hP (Vd hk)⟩
     ·simp only[Jj,Y6,Zb]at hb;rw[Y7];rcases hb with rfl|rfl
      ·exact Zq _
      ·exact Za hlt
     ·have:its.toArray.size=(n::ns).length:=by rw[hlen,<- ra.length,r1.length];simp
      rw[this];exact Vx _
   ·cases hz
  ·cases hz
 ·cases hz
end
end PD
namespace PD
open PySem PySem.Spec PyProof.Rows L2
open AutoSeq1 (wpAny_loadPart')
open MeetsSeq MeetsSeq2 MeetsSeq3 SeqRoads2 PySem.SeqAt
theorem tU:∀xs:List Int,ltZ xs xs=false
 |[]=>rfl
 |x::xs=>by rw[ltZ_eq rfl];exact tU xs
theorem jT{h:Heap}:∀{vs:List Value}{xs:List Int},IntsAre vs xs->ReadsAll h vs (xs.map PyData.int) []
 |_,_,.nil=>.nil
 |_,_,.cons n t r=>by have:=ReadsAll.cons (Reads.int (h:=h) n t) (jT (h:=h) r);exact this
theorem lay_ints:∀xs:List Int,PyData.canLayAll0 (xs.map PyData.int)=true
 |[]=>rfl
 |x::xs=>by rw[Jl];unfold PyData.canLayAll0;rw[lay_ints xs];rfl
theorem tW:∀xs:List Int,PyData.depthAll (xs.map PyData.int)=0
 |[]=>rfl
 |x::xs=>by rw[Jl];unfold PyData.depthAll;rw[tW xs];rfl
theorem pZ:∀xs ys:List Int,PyData.eqvAll (xs.map PyData.int) (ys.map PyData.int)=decide (xs=ys)
 |[],[]=>by simp[PyData.eqvAll]
 |[],y::ys=>by simp[PyData.eqvAll]
 |x::xs,[]=>by simp[PyData.eqvAll]
 |x::xs,y::ys=>by simp only[Jl,PyData.eqvAll,pZ xs ys,PyData.eqv];rw[Q8];simp
theorem tX{A:Around}{s:Shared}{p q:Addr}{its its2:Array Value}{xs ys:List Int}(hp:s.heap.IsTuple p its)(hq:s.heap.IsTuple q its2)(hx:IntsAre its.toList xs)(hy:IntsAre its2.toList ys)(hu:A.units+1<cLine):EqAt A s (.ref p) (.ref q) (decide (xs=ys)):=by
 obtain⟨o,ho,hc,n,hd⟩:=hp;obtain⟨o2,ho2,hc2,n2,hd2⟩:=hq
 have e:=eqAt_reads (.tuple (xs.map .int)) (.tuple (ys.map .int)) A s (.ref p) (.ref q) _ _ (.tuple ho hc hd (jT hx)) (.tuple ho2 hc2 hd2 (jT hy)) (by unfold PyData.canLay0;exact lay_ints xs) (by unfold PyData.canLay0;exact lay_ints ys) (by
  have d1:(PyData.tuple (xs.map .int)).depth<=1:=by unfold PyData.depth;rw[tW];decide
  have:min (PyData.tuple (xs.map .int)).depth (PyData.tuple (ys.map .int)).depth<=1:=Y2 (Nat.min_le_left _ _) d1
  omega)
 have e2:PyData.eqv (.tuple (xs.map .int)) (.tuple (ys.map .int))=decide (xs=ys):=by rw[PyData.eqv];exact pZ xs ys
 rw[e2]at e;exact e
noncomputable def ltP(p q:Int×List Int):Bool:=if p.1=q.1 then ltZ p.2 q.2 else decide (p.1<q.1)
def jU(h:Heap)(v:Value)(n:Int×List Int):Prop:=∃a t p its,v=.ref a/\h.IsTuple a #[.int n.1 t,.ref p]/\h.IsTuple p its/\IntsAre its.toList n.2
noncomputable def prD(n:Int×List Int):D:=.tup [.int n.1,.tup (n.2.map .int)]
noncomputable def Ay:D->Option (Int×List Int)
 |.tup [.int a,.tup b]=>(intsOf b).map λn=>(a,n)
 |_=>none
noncomputable def mD:List D->Option (List (Int×List Int))
 |[]=>some []
 |d::r=>match Ay d,mD r with
  |some n,some ns=>some (n::ns)
  |_,_=>none
theorem xm{d:D}{n:Int×List Int}(h:Ay d=some n):d=prD n/\∃b,d=.tup [.int n.1,.tup b]/\intsOf b=some n.2:=by
 unfold Ay at h;split at h
 ·rename_i a b;cases e:intsOf b with
  |none=>rw[e]at h;cases h
  |some k=>
   rw[e]at h;cases h;have:=lJ e
   exact⟨by rw[this];rfl,b,rfl,e⟩
 ·cases h
section
variable{X:Cx}{E:XK}{pins:List (Addr×Obj)}{σ:L2.St}{H:Hp}{s:Shared}
theorem E7{w:Wd}(I:Inv X pins σ H s){d:D}{y:V}{v:Value}{n:Int×List Int}(q:RD X.K w H d y)(r:RelV y v)(h:Ay d=some n):jU s.heap v n:=by
 obtain⟨_,b,rfl,e⟩:=xm h;obtain⟨pa,xs,rfl,za,ra⟩:=q.tupI;obtain⟨its,r1,p1,_⟩:=I.tuple (cj za);cases r;obtain⟨v1,vs1,rfl,q1,ra⟩:=ra.cons_inv;obtain⟨v2,vs2,rfl,q2,ra⟩:=ra.cons_inv;rw[ra.nil_inv]at r1;cases q1.int;cases r1 with
 |cons r1 rr=>
  cases rr with
  |cons r2 rr=>
   cases rr;obtain⟨t,rfl⟩:=r1;obtain⟨pb,xs2,rfl,zb,rb⟩:=q2.tupI;obtain⟨its2,r3,p2,_⟩:=I.tuple (cj zb);cases r2
   exact⟨pa,t,pb,its2.toArray,rfl,p1,p2,by simpa using gZ rb r3 e⟩
theorem xn{w:Wd}(I:Inv X pins σ H s):∀{ds:List D}{vs:List V}{us:List Value}{ns:List (Int×List Int)},RDs X.K w H ds vs->Vals vs us->mD ds=some ns->us.length=ns.length/\∀(i:Nat)(v:Value),us[i]?=some v->jU s.heap v (ns.getD i (0,[]))/\∃y,RelV y v/\RD X.K w H (prD (ns.getD i (0,[]))) y
 |[],_,_,_,q,r,h=>by
  rw[q.nil_inv]at r;cases r;unfold mD at h;cases h
  exact⟨rfl,λi v h=>by simp at h⟩
 |d::ds,_,_,ns,q,r,h=>by
  obtain⟨y,vs,rfl,p,t⟩:=q.cons_inv;unfold mD at h;split at h
  ·rename_i n ns' e1 e2;cases h;cases r with
   |cons rv rr=>
    obtain⟨l,g⟩:=xn I t rr e2
    refine⟨by simp[l],λi v hv=>?_⟩
    cases i with
    |zero=>
     cases hv
     exact⟨E7 I p rv e1,y,rv,by have:=(xm e1).1;subst this;exact p⟩
    |succ i=>exact g i v (by simpa using hv)
  ·cases h
end
end PD
namespace PD
open PySem PySem.Spec PyProof.Rows L2
noncomputable def yR:List D->Option (Int×Int)
 |[.int i,.int j]=>if -(2^62)<=i/\i<2^62/\-(2^62)<=j/\j<2^62 then some (i,j) else none
 |_=>none
theorem Az{xs:List D}{i j:Int}(h:yR xs=some (i,j)):xs=[.int i,.int j]/\(-(2^62)<=i/\i<2^62/\-(2^62)<=j/\j<2^62):=by
 unfold yR at h;split at h
 ·split at h
  ·rename_i hb;cases h;exact⟨rfl,hb⟩
  ·cases h
 ·cases h
noncomputable def kA(t:AM):AM:=λr S=>(t r S).bind λxs S1=>match yR xs with
 |some (i,j)=>.ok ((List.range (j-i).toNat).map λ(m:Nat)=>D.int (i+m)) S1
 |none=>.bad
section
variable{X:Cx}{E:XK}{a b:Expr}{pos:Pos}
theorem yS{tg:Expr}{ms:AM}{p:Pos}(hg:Gl X "range")(hm:X.mg "range" = none)(ha:SA X E [a,b] ms)(hs:autoParam (starEach [a,b] X.env=[(false,eval a X.env),(false,eval b X.env)]) Au.h0._auto_1)(hs2:autoParam (starEach [b] X.env=[(false,eval b X.env)]) Au.h0._auto_1):SI X E tg (.Call (.Name "range" p) [a,b] [] pos) (kA ms):=⟨
 fI (ym hg hm ha.out hs hs2) λs H Q zq=>ex6 zq λw r S hr hS hp=>⟨w,r,S,hr,hS,hp.bind hS λds S1 w1 H1 vs x1 q1 s1 p1=>by
  cases hq:yR ds with
  |none=>rw[hq]at p1;exact p1.elim
  |some ij=>
   obtain⟨i,j⟩:=ij;rw[hq]at p1;obtain⟨rfl,hb⟩:=Az hq;obtain⟨v1,rest,rfl,a1,q1⟩:=q1.cons_inv;obtain⟨v2,rfl,a2⟩:=q1.one_inv;unfold RD at a1 a2;subst a1 a2;refine⟨i,j,rfl,hb,aF.ret p1 ?_ s1⟩;intro m w' H' x'
   refine⟨λhi=>⟨show m<(j-i).toNat by simpa using hi,λx H'' y=>?_⟩,λhi=>show(j-i).toNat<=m by simpa using hi⟩
   obtain⟨rfl,rfl⟩:=y;refine⟨.inl rfl,λS _=>⟨.int (i+m),?_,?_⟩⟩
   ·have:m<(j-i).toNat:=by simpa using hi
    simp[this]
   ·unfold RD;rfl⟩⟩
end
noncomputable def kB:Sto->List D->Option D
 |S,[.ref n,.ty T]=>match S[n]? with
  |some (.flst _)=>if T∈fw then some (.bl ("list" == T||("list" == "bool" && T == "int"))) else none
  |_=>gX S [.ref n,.ty T]
 |S,ds=>gX S ds
section
variable{X:Cx}{E:XK}
theorem CA:bF X (.builtin "isinstance") (xC X.K E kB):=by
 rintro pins s σ H xs us Q I r ⟨w,S,ds,hS,qs,p⟩;obtain⟨z,hz,p'⟩:=p.of;by_cases hf:∃n T l,ds=[.ref n,.ty T]/\S[n]?=some (.flst l)
 ·obtain⟨n,T,l,rfl,hn⟩:=hf;unfold kB at hz;simp only[hn]at hz;split at hz
  ·rename_i hT;cases hz;obtain⟨v,u,rfl,q,q'⟩:=qs.two_inv;unfold RD at q';subst q';obtain⟨v1,v2,rfl,rv,rt⟩:=vals2 r
   cases (show v2=Value.type T from rt)
   obtain⟨pp,rfl,hpp⟩:=q.refI;obtain⟨p1,hp1,o,uk,hv,ra⟩:=hS.obj _ _ hn;rw[hpp]at hp1;cases hp1
   have kk:=zZ X.K (t:="list") (T:=T) (by simp) hT
   exact ph I rv (TyOf.frz hv) kk λtk=>⟨.bl _,H,I.tok tk,rfl,p'.ret RD.mkB hS⟩
  ·cases hz
 ·have e:kB S ds=gX S ds:=by
   unfold kB;split
   ·rename_i n T;split
    ·rename_i l hn;exact(hf ⟨n,T,l,rfl,hn⟩).elim
    ·rfl
   ·rfl
  exact lx pins s σ H xs us Q I r ⟨w,S,ds,hS,qs,by rw[<- e];exact p⟩
end
end PD
namespace HT
open PySem PySem.Spec PyProof.Rows
section
variable{prog:Program}{w:World}{A:Around}{E:Value->Shared->Prop}{s:Shared}
theorem vP(n:Nat):Builtin.Slice.sliceAdjust none none (-1) (n:Int)=((n:Int)-1,-1):=by
 unfold Builtin.Slice.sliceAdjust
 first
  |rfl
  |simp
theorem vQ(n:Nat):Builtin.Slice.slicePlaces ((n:Int)-1) (-1) (-1)=n:=by
 unfold Builtin.Slice.slicePlaces
 have h1:¬((-1:Int)>0):=by omega
 simp only[h1,Yj];split
 ·rw[show(- -1:Int)=1 by decide,Int.ediv_one];omega
 ·omega
theorem lK{sl:Addr}{t:Tok}{n:Nat}{Q:Int×Int×Nat->Shared->Prop}(hs:s.heap.IsSliceOf sl .none .none (.int (-1) t))
  (h:Q ((n:Int)-1,-1,n) s):wpAny (model prog w) A (Builtin.Slice.sliceApplied (.ref sl) (pure (n:Int))) Q E s:=by
 obtain⟨os,hos,hcs,hds⟩:=id hs;unfold Builtin.Slice.sliceApplied Builtin.Slice.sliceFields;refine J6 (J6 (Yh hos hds (x:=.none) rfl (J6 (Yh hos hds (x:=.none) rfl (J6 (Yh hos hds (x:=.int (-1) t) rfl (Jc ?_)))))));refine J6 (slicePart_int ?_)
 show wpAny _ _ (if ((-1:Int) == 0)=true then _ else _) _ _ s
 rw[Jb (by decide)]
 refine J6 (ip .none (J6 (ip .none (J6 (Jc ?_)))))
 show wpAny _ _ (match Builtin.Slice.sliceAdjust none none (-1) (n:Int) with|(lo,hi)=>pure (lo,(-1:Int),Builtin.Slice.slicePlaces lo hi (-1))) _ _ s
 rw[vP n];show wpAny _ _ (pure ((n:Int)-1,(-1:Int),Builtin.Slice.slicePlaces ((n:Int)-1) (-1) (-1))) _ _ s;rw[vQ];exact Jc h
theorem AA(xs:Array Value):((List.range xs.size).filterMap λ(m:Nat)=>xs[(((xs.size:Int)-1)+(m:Int) * -1).toNat]?).toArray=xs.toList.reverse.toArray:=by
 congr 1
 have e:(List.range xs.size).filterMap (λ(m:Nat)=>xs[(((xs.size:Int)-1)+(m:Int) * -1).toNat]?)=((List.range xs.size).map λk=>xs.size-1-k).filterMap (xs[·]?):=by
  rw[List.filterMap_map]
  have:(λ(m:Nat)=>xs[(((xs.size:Int)-1)+(m:Int) * -1).toNat]?)=(λx=>xs[x]?)∘λk=>xs.size-1-k:=by funext m;show xs[(((xs.size:Int)-1)+(m:Int) * -1).toNat]?=xs[xs.size-1-m]?;congr 1;omega
  rw[this]
 rw[e,PySem.W.krv_range,List.filterMap_reverse,PySem.W.krv_all]
theorem getItem_tuple_rev{t sl:Addr}{items:Array Value}{tk:Tok}{Q:Value->Shared->Prop}(ht:IsTup s.heap t items)(hs:s.heap.IsSliceOf sl .none .none (.int (-1) tk))
  (h:Q (.ref s.heap.objs.size) { s with heap:=s.heap.push { cls:=.type "tuple",data:=.seq items.toList.reverse.toArray } })
  (hsz:items.size<=sizeLine):wpAny (model prog w) A (getItem (.ref t) (.ref sl)) Q E s:=by
 have htake:sizeOk (.seq items.toList.reverse.toArray):=by show items.toList.reverse.toArray.size<=sizeLine;rw[Js,Qd,Jy];omega
 obtain⟨os,hos,hcs,hds⟩:=id hs;have hTs:s.TypeIs (.ref sl) "slice":=⟨os,hos,hcs⟩
 unfold getItem
 try with_reducible refine Yw ?_
 first|refine J6 (Jc ?_)|skip
 refine J6 (Ud ht.typeIs (by decide) ?_)
 refine J6 (Yu (name:=Str.ofString "__getitem__") ht.typeIs Z0
  (Z4 Z0 ht.typeIs entry_tuple_getitem ?_ (args_tuple_getitem _ _)))
 show wpAny _ _ (Builtin.Tuple.tupleItemsOf (.ref t) >>= _) _ _ s;refine J6 (tupleItemsOf_ ht ?_);refine J6 (Wi hTs ?_)
 rw[J8 (by decide)]
 refine J6 (lK hs ?_)
 show wpAny _ _ (if (((items.size:Int)-1) == 0&&(-1:Int) == 1&&items.size == items.size)=true then _ else _) _ _ s
 rw[Jb (by rw[show((-1:Int) == 1)=false from rfl,Bool.and_false,Bool.false_and];exact Jk),AA]
 first
  |exact J6 (m:=Builtin.Tuple.tupleExact _) (Yb (Jc ⟨_,rfl,Jc h⟩) htake)
  |exact J6 (m:=Builtin.Tuple.tupleExact _) (Yb (J6 (Jc (Jc ⟨_,rfl,Jc h⟩))) htake)
  |exact J6 (J6 (m:=Builtin.Tuple.tupleExact _) (Yb (Jc (Jc ⟨_,rfl,Jc h⟩)) htake))
  |exact J6 (J6 (m:=Builtin.Tuple.tupleExact _) (Yb (Jc ⟨_,rfl,Jc h⟩) htake))
end
end HT
namespace L2
open PySem PySem.Spec PyProof.Rows
section
variable{X:Cx}
def RvR(X:Cx)(r:V->Hp->VK->Prop):Prop:=
 ∀(pins:List (Addr×Obj))(s:Shared)(σ:St)(H:Hp)(x:V)(v:Value)(t:Tok)(sl:Addr)(Q:VK),Inv X pins σ H s->RelV x v->s.heap.IsSliceOf sl .none .none (.int (-1) t)->r x H Q->
  ∃T id,typeLookup (.type T) "__getitem__" = pure (some (.builtin id))/\s.TypeIs v T/\wpAny (model X.prog X.w) X.A (getItem v (.ref sl)) (EP X pins σ Q) X.xe s
noncomputable def tRv(r:V->Hp->VK->Prop)(te ts:TE):TE:=λσ H Q=>te σ H λx H1=>ts σ H1 λi H2=>i=.int (-1)/\r x H2 Q
theorem E8{r:V->Hp->VK->Prop}{e st:Expr}{te ts:TE}{p2 pos:Pos}(hr:RvR X r)(he:PE X e te)(hs:PE X st ts):PE X (.Subscript e (.Slice none none (some st) p2) pos) (tRv r te ts):=by
 intro pins s σ H Q I h;refine Subscript_ (thn (he pins s σ H _ I h) λv s1 zq=>?_);obtain⟨x,H1,I1,r1,q1⟩:=zq;refine wpAny_Slice ?_;rw[evalPart_none];refine Jc (Jc ?_);rw[evalPart_some];refine thn (hs pins s1 σ H1 _ I1 q1) λvk s3 zq=>?_;obtain⟨i,H3,I3,r3,ei,q3⟩:=zq;subst ei;obtain⟨t,rfl⟩:=r3
 have I4:Inv X pins σ H3 { s3 with heap:=s3.heap.push { cls:=.type "slice",data:=.fields #[.none,.none,.int (-1) t] } }:=I3.kept (t':=s3.toks) λb ob q=>J7 _ q
 obtain⟨T,id,hT,ht,hg⟩:=hr pins { s3 with heap:=s3.heap.push { cls:=.type "slice",data:=.fields #[.none,.none,.int (-1) t] } } σ H3 x v t s3.heap.objs.size Q I4 r1 (Heap.IsSliceOf.new ..) q3
 show wpAny (model X.prog X.w) X.A (subscriptTail e (.Slice none none (some st) p2) v (.ref s3.heap.objs.size)) (EP X pins σ Q) X.xe { s3 with heap:=s3.heap.push { cls:=.type "slice",data:=.fields #[.none,.none,.int (-1) t] } }
 exact tail_any (ops:=[v,.ref s3.heap.objs.size]) ht hT hg (by with_unfolding_all rfl)
end
end L2
namespace PD
open PySem PySem.Spec PyProof.Rows L2
section
variable{X:Cx}{E:XK}
noncomputable def E9:D->Option D
 |.tup a=>some (.tup a.reverse)
 |.lst a=>some (.lst a.reverse)
 |_=>none
noncomputable def yT(a st:EM):EM:=λr S=>(a r S).bind λx S1=>(st r S1).bind λi S2=>match i with
 |.int (-1)=>R.of S2 (E9 x)
 |_=>.bad
theorem Vals.rev:∀{xs:List V}{us:List Value},Vals xs us->Vals xs.reverse us.reverse
 |_,_,.nil=>.nil
 |_,_,.cons h t=>by rw[Wg,Wg];exact(Vals.rev t).append (.cons h .nil)
theorem Fb:RvR X (λx H Q=>∃w S d,RS X.K w H S/\RD X.K w H d x/\aF X.K E (RD X.K) w H (R.of S (E9 d)) Q):=by
 rintro pins s σ H x v t sl Q I rx hs ⟨w,S,d,hS,qd,p⟩;obtain⟨z,hz,p'⟩:=p.of;clear p;unfold E9 at hz;split at hz
 ·rename_i a;cases hz;obtain⟨pa,xs,rfl,za,ra⟩:=qd.tupI;cases rx;obtain⟨its,r,ht,hz⟩:=I.tuple (cj za)
  have hlen:its.toArray.size=xs.length:=by rw[Js];exact r.length.symm
  refine⟨"tuple",_,PyProof.Rows.slot_tuple_getitem.lookup,ht.typeIs,?_⟩
  have hn:H s.heap.objs.size=none:=I.hok.fresh (J9 _)
  refine HT.getItem_tuple_rev ht hs ⟨.ref s.heap.objs.size,_,I.laid (t':=s.toks) (o:=.tup xs.reverse) (λb ob q=>J7 _ q) (J9 _) ?_,rfl,p'.at (Ext.new hn) (RD.newTup hS hn (RDs.rev ra)) (hS.new hn)⟩ (by rw[hlen];exact hz)
  exact⟨by rw[Qd];exact hz,its.reverse,Vals.rev r,IsTup.new _ _⟩
 ·rename_i a;cases hz;obtain⟨pa,xs,rfl,za,ra⟩:=qd.lstI;cases rx;obtain⟨hz,its,n,r,ho⟩:bR X.prog X.w H s.heap pa (.lst xs):=I.hok pa _ za.1;have hl:s.heap.IsList pa its.toArray:=⟨_,ho,rfl,_,rfl⟩;refine⟨"list",_,list_getitem_lookup,hl.typeIs,?_⟩
  have hn:H s.heap.objs.size=none:=I.hok.fresh (J9 _)
  refine wpAny_getItem_list_slice hl hs .none .none (.int (-1) t) (by decide) ⟨.ref s.heap.objs.size,_,I.laid (t':=s.toks) (o:=.lst xs.reverse) (λb ob q=>J7 _ q) (J9 _) ?_,rfl,p'.at (Ext.new hn) (RD.newLst hS hn (RDs.rev ra)) (hS.new hn)⟩ (by rw[Js,<- r.length];exact hz)
  refine⟨by rw[Qd];exact hz,its.reverse,0,Vals.rev r,?_⟩
  rw[PySem.W.krv_pick];exact Ji _ rfl
 ·cases hz
theorem AB{a st:Expr}{ma ms:EM}{p2 pos:Pos}(ha:SE X E a ma)(hs:SE X E st ms):SE X E (.Subscript a (.Slice none none (some st) p2) pos) (yT ma ms):=⟨
 bq (E8 (Fb (E:=E)) ha.out hs.out) λs H Q zq=>ex6 zq λw r S hr hS hp=>⟨w,r,S,hr,hS,hp.bind hS λd S1 w1 H1 v x1 q1 s1 p1=>
  ⟨w1,r,S1,hr.ext x1,s1,p1.bind s1 λe S2 w2 H2 u x2 q2 s2 p2=>by
   cases e with
   |int i=>
    by_cases hi:i = -1
    ·subst hi;exact⟨q2.int,w2,S2,d,s2,RD.ext x2 d v q1,p2⟩
    ·exfalso;revert p2
     show ¬aF _ _ _ _ _ (match D.int i with | .int (-1)=>_|_=>_) _
     split
     ·rename_i h;cases h;exact absurd rfl hi
     ·exact λz=>z
   |_=>exact p2.elim⟩⟩⟩
end
end PD
namespace SK
open PySem PySem.W PyProof.Rows
variable{p:Array Nat}{n nrem:Nat}
noncomputable def run{α:Type}(c:Nat->Nat->Bool):KasT α->α
 |.ret a=>a
 |.ask i j k=>run c (k (c i j))
theorem run_bind{α β:Type}(c:Nat->Nat->Bool)(f:α->KasT β):∀t:KasT α,run c (t.bind f)=run c (f (run c t))
 |.ret _=>rfl
 |.ask i j k=>run_bind c f (k (c i j))
noncomputable abbrev at'(p:Array Nat)(i:Nat):Nat:=p.getD i 0
theorem jE(p:Array Nat)(i:Nat):at' p i=(p[i]?).getD 0:=by unfold at';rw[Array.getD_eq_getD_getElem?]
theorem i4{i j:Nat}(hj:j<=p.size)(k:Nat):at' (kas_rev p i j) k=if i<=k/\k<j then at' p (i+j-1-k) else at' p k:=by rw[jE,jE,jE];unfold kas_rev;rw[getElem?_mirror_all hj k];split<;>rfl
theorem AD{k d:Nat}(hk:k<p.size)(hd:d<=k)(i:Nat):at' (bubble p k d) i=if i=k-d then at' p k else if k-d<i/\i<=k then at' p (i-1) else at' p i:=by
 rw[jE,jE,jE,jE,getElem?_bubble hk d hd i]
 repeat' split
 all_goals rfl
structure Ord(c:Nat->Nat->Bool):Prop where
 asym:∀i j,c i j=true->c j i=false
 trans:∀i j k,c j i=false->c k j=false->c k i=false
section
variable{c:Nat->Nat->Bool}(O:Ord c)
abbrev le(c:Nat->Nat->Bool)(i j:Nat):Prop:=c j i=false
include O
theorem le_refl(i:Nat):le c i i:=by
 show c i i=false;cases e:c i i with
 |false=>rfl
 |true=>have:=O.asym i i e;rw[e]at this;exact this
theorem xo{i j:Nat}(h:c i j=true):le c i j:=O.asym i j h
omit O
def Srt(c:Nat->Nat->Bool)(p:Array Nat)(m:Nat):Prop:=∀i j,i<=j->j<m->le c (at' p i) (at' p j)
def Dsc(c:Nat->Nat->Bool)(p:Array Nat)(m:Nat):Prop:=∀i j,i<=j->j<m->le c (at' p j) (at' p i)
include O
theorem Srt.snoc(hn:1<=n)(h:Srt c p n)(hl:le c (at' p (n-1)) (at' p n)):Srt c p (n+1):=λi j hij hj=>by
 by_cases e:j=n
 ·subst e;by_cases e2:i=j
  ·rw[e2];exact le_refl O _
  ·exact O.trans _ _ _ (h i (j-1) (by omega) (by omega)) hl
 ·exact h i j hij (by omega)
theorem Dsc.snoc(hn:1<=n)(h:Dsc c p n)(hl:le c (at' p n) (at' p (n-1))):Dsc c p (n+1):=λi j hij hj=>by
 by_cases e:j=n
 ·subst e;by_cases e2:i=j
  ·rw[e2];exact le_refl O _
  ·exact O.trans _ _ _ hl (h i (j-1) (by omega) (by omega))
 ·exact h i j hij (by omega)
theorem Srt.one(p:Array Nat):Srt c p 1:=λi j hij hj=>by
 have e:i=j:=by omega
 rw[e];exact le_refl O _
theorem iy:∀(f n:Nat),1<=n->Srt c p n->∃m,run c (kas_asc p f n)=m/\n<=m/\m<=n+f/\Srt c p m/\(m=n+f\/c (at' p m) (at' p (m-1))=true)
 |0,n,_,h=>⟨n,rfl,J9 _,J9 _,h,.inl rfl⟩
 |f+1,n,hn,h=>by
  unfold kas_asc
  show ∃m,run c (if c (at' p n) (at' p (n-1))=true then _ else _)=m/\_
  cases e:c (at' p n) (at' p (n-1)) with
  |true=>exact⟨n,rfl,J9 _,Ui _ _,h,.inr e⟩
  |false=>
   obtain⟨m,e1,h1,h2,h3,h4⟩:=iy f (n+1) (by omega) (h.snoc O hn e)
   exact⟨m,e1,by omega,by omega,h3,h4.elim (λz=>.inl (by omega)) .inr⟩
omit O in
theorem fZ(p:Array Nat)(i j:Nat):(kas_rev p i j).size=p.size:=mirror_size _ _ _ _
omit O in
theorem eG(p:Array Nat)(i j:Nat):(kas_rev p i j).Perm p:=mirror_perm _ _ _ _
def Eqs(c:Nat->Nat->Bool)(p:Array Nat)(n q:Nat):Prop:=∀i,n-(q+1)<=i->i<n->le c (at' p i) (at' p (n-1))/\le c (at' p (n-1)) (at' p i)
theorem xp{q:Nat}(hn:n<=p.size)(hq:q+1<=n)(h:Dsc c p n)(he:Eqs c p n q):Dsc c (kas_rev p (n-(q+1)) n) n/\∀i,i<n->le c (at' (kas_rev p (n-(q+1)) n) i) (at' p i)/\le c (at' p i) (at' (kas_rev p (n-(q+1)) n) i):=by
 have key:∀i,i<n->le c (at' (kas_rev p (n-(q+1)) n) i) (at' p i)/\le c (at' p i) (at' (kas_rev p (n-(q+1)) n) i):=λi hi=>by
  rw[i4 hn];split
  ·rename_i z;have a:=he i z.1 hi
   have b:=he (n-(q+1)+n-1-i) (by omega) (by omega)
   exact⟨O.trans _ _ _ b.1 a.2,O.trans _ _ _ a.1 b.2⟩
  ·exact⟨le_refl O _,le_refl O _⟩
 exact⟨λi j hij hj=>O.trans _ _ _ (key j hj).1 (O.trans _ _ _ (h i j hij hj) (key i (by omega)).2),key⟩
theorem nk:∀(f:Nat)(p:Array Nat)(n q:Nat),n+f<=p.size->q+1<=n->Dsc c p n->Eqs c p n q->∃p' m q',run c (kas_desc f p n q)=(p',m,q')/\p'.Perm p/\p'.size=p.size/\n<=m/\m<=n+f/\q'+1<=m/\Dsc c p' m/\Eqs c p' m q'
 |0,p,n,q,_,hq,h,he=>⟨p,n,q,rfl,.rfl,rfl,J9 _,J9 _,hq,h,he⟩
 |f+1,p,n,q,hs,hq,h,he=>by
  have one:∀(x:Array Nat)(m:Nat),1<=m->Eqs c x m 0:=λx m hm i hi hi2=>by
   have e:i=m-1:=by omega
   rw[e];exact⟨le_refl O _,le_refl O _⟩
  unfold kas_desc
  show ∃p' m q',run c (if c (at' p n) (at' p (n-1))=true then _ else _)=(p',m,q')/\_
  cases e:c (at' p n) (at' p (n-1)) with
  |true=>
   have hlt:=xo O e;simp only[Yd];by_cases hq0:q>0
   ·rw[J8 hq0]
    obtain⟨d1,d2⟩:=xp O (by omega) hq h he
    have hn1:at' (kas_rev p (n-(q+1)) n) n=at' p n:=by rw[i4 (by omega),Jb (by omega)]
    obtain⟨p',m,q',e1,h1,h2,h3,h4,h5,h6,h7⟩:=nk f (kas_rev p (n-(q+1)) n) (n+1) 0 (by rw[fZ];omega) (by omega) (d1.snoc O (by omega) (by rw[hn1];exact O.trans _ _ _ hlt (d2 (n-1) (by omega)).2)) (one _ _ (by omega))
    exact⟨p',m,q',e1,h1.trans (eG _ _ _),h2.trans (fZ _ _ _),by omega,by omega,h5,h6,h7⟩
   ·rw[Jb hq0]
    obtain⟨p',m,q',e1,h1,h2,h3,h4,h5,h6,h7⟩:=nk f p (n+1) 0 (by omega) (by omega) (h.snoc O (by omega) hlt) (one _ _ (by omega))
    exact⟨p',m,q',e1,h1,h2,by omega,by omega,h5,h6,h7⟩
  |false=>
   simp only[Jw,Yj]
   show ∃p' m q',run c (if c (at' p (n-1)) (at' p n)=true then _ else _)=(p',m,q')/\_
   cases e2:c (at' p (n-1)) (at' p n) with
   |true=>exact⟨p,n,q,rfl,.rfl,rfl,J9 _,Ui _ _,hq,h,he⟩
   |false=>
    have hE:Eqs c p (n+1) (q+1):=λi hi hi2=>by
     have e9:n+1-1=n:=by omega
     rw[e9];by_cases z:i=n
     ·rw[z];exact⟨le_refl O _,le_refl O _⟩
     ·have a:=he i (by omega) (by omega)
      exact⟨O.trans _ _ _ a.1 e,O.trans _ _ _ e2 a.2⟩
    obtain⟨p',m,q',e1,h1,h2,h3,h4,h5,h6,h7⟩:=nk f p (n+1) (q+1) (by omega) (by omega) (h.snoc O (by omega) e2) hE
    exact⟨p',m,q',e1,h1,h2,by omega,by omega,h5,h6,h7⟩
theorem xq(h1:1<=n)(hn:n<=nrem)(hz:nrem<=p.size)(h:Dsc c p n):∃p' m,run c (kas_tail3 n nrem p)=(m,p')/\p'.Perm p/\p'.size=p.size/\1<=m/\m<=nrem/\Srt c p' m:=by
 have hs:Srt c (kas_rev p 0 n) n:=λi j hij hj=>by
  rw[i4 (by omega),i4 (by omega),J8 (by omega),J8 (by omega)]
  exact h _ _ (by omega) (by omega)
 obtain⟨m,e,a1,a2,a3,_⟩:=iy O (p:=kas_rev p 0 n) (nrem-n) n h1 hs
 exact⟨kas_rev p 0 n,m,by unfold kas_tail3;rw[run_bind,e];rfl,eG _ _ _,fZ _ _ _,by omega,by omega,a3⟩
theorem mE(h1:1<=n)(hn:n+1<=nrem)(hz:nrem<=p.size)(h:Dsc c p (n+1)):∃p' m,run c (kas_descPart n nrem p)=(m,p')/\p'.Perm p/\p'.size=p.size/\1<=m/\m<=nrem/\Srt c p' m:=by
 obtain⟨p',m,q',e,b1,b2,b3,b4,b5,b6,b7⟩:=nk O (nrem-(n+1)) p (n+1) 0 (by omega) (by omega) h (λi hi hi2=>by
  have e:i=n+1-1:=by omega
  rw[e];exact⟨le_refl O _,le_refl O _⟩)
 unfold kas_descPart;rw[run_bind,e];by_cases hq:q'>0
 ·obtain⟨d1,_⟩:=xp O (by omega) b5 b6 b7
  obtain⟨p2,m2,e2,f1,f2,f3,f4,f5⟩:=xq O (n:=m) (nrem:=nrem) (p:=kas_rev p' (m-(q'+1)) m) (by omega) (by omega) (by rw[fZ];omega) d1
  refine⟨p2,m2,?_,f1.trans ((eG _ _ _).trans b1),f2.trans ((fZ _ _ _).trans b2),f3,f4,f5⟩
  show run c (if q'>0 then _ else _)=_
  rw[J8 hq];exact e2
 ·obtain⟨p2,m2,e2,f1,f2,f3,f4,f5⟩:=xq O (n:=m) (nrem:=nrem) (p:=p') (by omega) (by omega) (by omega) b6
  refine⟨p2,m2,?_,f1.trans b1,f2.trans b2,f3,f4,f5⟩
  show run c (if q'>0 then _ else _)=_
  rw[Jb hq];exact e2
theorem AE(h1:1<=nrem)(hz:nrem<=p.size):∃p' m,run c (kas_count nrem p)=(m,p')/\p'.Perm p/\p'.size=p.size/\1<=m/\m<=nrem/\Srt c p' m:=by
 obtain⟨n,e,a1,a2,a3,a4⟩:=iy O (p:=p) (nrem-1) 1 (J9 _) (Srt.one O p);unfold kas_count;rw[run_bind,e];by_cases hn:n=nrem
 ·refine⟨p,n,?_,.rfl,rfl,a1,by omega,a3⟩
  show run c (if (n == nrem)=true then _ else _)=_
  rw[J8 (by simpa using hn)];rfl
 ·have hlt:c (at' p n) (at' p (n-1))=true:=a4.elim (λz=>absurd z (by omega)) id
  have hb:¬((n == nrem)=true):=by simpa using hn
  by_cases hn1:n>1
  ·cases e2:c (at' p 0) (at' p (n-1)) with
   |true=>
    refine⟨p,n,?_,.rfl,rfl,a1,by omega,a3⟩
    show run c (if (n == nrem)=true then _ else _)=_
    rw[Jb hb,J8 hn1]
    show run c (if c (at' p 0) (at' p (n-1))=true then _ else _)=_
    rw[J8 e2];rfl
   |false=>
    have heq:Dsc c (kas_rev p 0 n) n:=λi j hij hj=>by
     rw[i4 (by omega),i4 (by omega),J8 (by omega),J8 (by omega)]
     exact a3 _ _ (by omega) (by omega)
    have hlast:at' (kas_rev p 0 n) n=at' p n:=by rw[i4 (by omega),Jb (by omega)]
    have hpre:at' (kas_rev p 0 n) (n-1)=at' p 0:=by rw[i4 (by omega),J8 (by omega)];congr 1;omega
    obtain⟨p2,m2,e3,f1,f2,f3,f4,f5⟩:=mE O (n:=n) (nrem:=nrem) (p:=kas_rev p 0 n) a1 (by omega) (by rw[fZ];omega) (heq.snoc O a1 (by rw[hlast,hpre];exact O.trans _ _ _ (xo O hlt) e2))
    refine⟨p2,m2,?_,f1.trans (eG _ _ _),f2.trans (fZ _ _ _),f3,f4,f5⟩
    show run c (if (n == nrem)=true then _ else _)=_
    rw[Jb hb,J8 hn1]
    show run c (if c (at' p 0) (at' p (n-1))=true then _ else _)=_
    rw[Jb (by rw[e2];exact Jk)];exact e3
  ·have hn1':n=1:=by omega
   subst hn1'
   obtain⟨p2,m2,e3,f1,f2,f3,f4,f5⟩:=mE O (n:=1) (nrem:=nrem) (p:=p) (J9 _) (by omega) hz (Dsc.snoc O (n:=1) (J9 _) (λi j hij hj=>by
    have e:i=j:=by omega
    rw[e];exact le_refl O _) (xo O hlt))
   refine⟨p2,m2,?_,f1,f2,f3,f4,f5⟩
   show run c (if (1 == nrem)=true then _ else _)=_
   rw[Jb hb,Jb hn1];exact e3
theorem n6{k:Nat}(hs:Srt c p k):∀(f l r:Nat),l<=r->r<=k->r-l<=f->(∀i,i<l->le c (at' p i) (at' p k))->(∀i,r<=i->i<k->le c (at' p k) (at' p i))->
  ∃m,run c (kas_place p k f l r)=m/\m<=k/\(∀i,i<m->le c (at' p i) (at' p k))/\∀i,m<=i->i<k->le c (at' p k) (at' p i)
 |0,l,r,h1,h2,h3,h4,h5=>⟨l,rfl,by omega,h4,λi a b=>h5 i (by omega) b⟩
 |f+1,l,r,h1,h2,h3,h4,h5=>by
  unfold kas_place;by_cases hlr:l >= r
  ·rw[J8 hlr]
   exact⟨l,rfl,by omega,h4,λi a b=>h5 i (by omega) b⟩
  ·rw[Jb hlr]
   show ∃m,run c (if c (at' p k) (at' p ((l+r)/2))=true then _ else _)=m/\_
   cases e:c (at' p k) (at' p ((l+r)/2)) with
   |true=>exact n6 hs f l ((l+r)/2) (by omega) (by omega) (by omega) h4 λi a b=>O.trans _ _ _ (xo O e) (hs _ _ a b)
   |false=>exact n6 hs f ((l+r)/2+1) r (by omega) h2 (by omega) (λi a=>O.trans _ _ _ (hs i ((l+r)/2) (by omega) (by omega)) e) h5
theorem AF:∀(f:Nat)(p:Array Nat)(k:Nat),1<=k->k+f<=p.size->Srt c p k->∃p',run c (kas_bin f p k)=p'/\p'.Perm p/\p'.size=p.size/\Srt c p' (k+f)
 |0,p,k,_,_,h=>⟨p,rfl,.rfl,rfl,h⟩
 |f+1,p,k,h1,hz,h=>by
  obtain⟨m,e,a1,a2,a3⟩:=n6 O h k 0 k (Y0 _) (J9 _) (by omega) (λi z=>absurd z (Nat.not_lt_zero _)) λi a b=>absurd b (by omega)
  have hk:k<p.size:=by omega
  have hs:Srt c (bubble p k (k-m)) (k+1):=λi j hij hj=>by
   rw[AD hk (by omega),AD hk (by omega)]
   have e2:k-(k-m)=m:=by omega
   rw[e2];by_cases z1:i=m
   ·rw[J8 z1];by_cases z2:j=m
    ·rw[J8 z2];exact le_refl O _
    ·rw[Jb z2,J8 (by omega)];exact a3 _ (by omega) (by omega)
   ·rw[Jb z1];by_cases z3:m<i/\i<=k
    ·rw[J8 z3,Jb (by omega),J8 (by omega)];exact h _ _ (by omega) (by omega)
    ·rw[Jb z3];by_cases z2:j=m
     ·rw[J8 z2];exact a2 _ (by omega)
     ·rw[Jb z2];by_cases z4:m<j/\j<=k
      ·rw[J8 z4];exact h _ _ (by omega) (by omega)
      ·rw[Jb z4];exact h _ _ hij (by omega)
  obtain⟨p',e3,b1,b2,b3⟩:=AF f (bubble p k (k-m)) (k+1) (by omega) (by rw[bubble_size];omega) hs
  refine⟨p',?_,b1.trans (bubble_perm _ _ _),b2.trans (bubble_size _ _ _),by rw[show k+(f+1)=k+1+f by omega];exact b3⟩
  unfold kas_bin;rw[run_bind,e];exact e3
theorem xr(h1:1<=n):∃p,run c (kas_sort n)=p/\p.Perm (List.range n).toArray/\p.size=n/\Srt c p n:=by
 obtain⟨p,m,e,a1,a2,a3,a4,a5⟩:=AE O (nrem:=n) (p:=(List.range n).toArray) h1 (by simp)
 have hz:p.size=n:=by rw[a2];simp
 unfold kas_sort;rw[run_bind,e];by_cases hm:m<n
 ·obtain⟨p',e2,b1,b2,b3⟩:=AF O (n-max m 1) p (max m 1) (by omega) (by omega) (by rw[Nat.max_eq_left a3];exact a5)
  refine⟨p',?_,b1.trans a1,by omega,by rw[show max m 1+(n-max m 1)=n by omega]at b3;exact b3⟩
  show run c (if m<n then _ else _)=_
  rw[J8 hm];exact e2
 ·refine⟨p,?_,a1,hz,by rw[show m=n by omega]at a5;exact a5⟩
  show run c (if m<n then _ else _)=_
  rw[Jb hm];rfl
end
noncomputable def On{α:Type}(n:Nat)(Q:α->Prop):KasT α->Prop
 |.ret a=>Q a
 |.ask i j k=>i<n/\j<n/\∀b,On n Q (k b)
theorem On.bind{α β:Type}{Q:α->Prop}{Q':β->Prop}{f:α->KasT β}:∀{t:KasT α},On n Q t->(∀a,Q a->On n Q' (f a))->On n Q' (t.bind f)
 |.ret a,h,hf=>hf a h
 |.ask i j k,h,hf=>⟨h.1,h.2.1,λb=>On.bind (h.2.2 b) hf⟩
theorem AG{α:Type}{P:α->Prop}{c:Nat->Nat->Bool}{cmp:Nat->Nat->(Bool->Shared->Prop)->Shared->Prop}{Q:α->Shared->Prop}{s:Shared}(hc:∀i j,i<n->j<n->∀C:Bool->Shared->Prop,C (c i j) s->cmp i j C s):
  ∀{t:KasT α},On n P t->Q (run c t) s->t.kasWp cmp Q s
 |.ret _,_,q=>q
 |.ask i j k,h,q=>hc i j h.1 h.2.1 _ (AG hc (h.2.2 (c i j)) q)
section
variable{n:Nat}(h0:0<n)
abbrev Lt(n:Nat)(p:Array Nat):Prop:=∀x∈p,x<n
include h0
theorem jF(h:Lt n p)(i:Nat):at' p i<n:=by
 rw[jE];cases e:p[i]? with
 |none=>exact h0
 |some x=>exact h x (Array.mem_of_getElem? e)
omit h0 in
theorem Lt.perm{q:Array Nat}(h:Lt n p)(hp:q.Perm p):Lt n q:=λx hx=>h x (hp.mem_iff.mp hx)
theorem vR(h:Lt n p):∀(f m:Nat),On n (λ_=>True) (kas_asc p f m)
 |0,_=>True.intro
 |f+1,m=>⟨jF h0 h _,jF h0 h _,λb=>by
  cases b with
  |true=>exact True.intro
  |false=>exact vR h f (m+1)⟩
theorem nq:∀(f:Nat)(p:Array Nat)(m q:Nat),Lt n p->On n (λr=>Lt n r.1) (kas_desc f p m q)
 |0,p,_,_,h=>h
 |f+1,p,m,q,h=>⟨jF h0 h _,jF h0 h _,λb=>by
  cases b with
  |true=>
   show On n _ (if q>0 then _ else _)
   split
   ·exact nq f _ _ _ (h.perm (eG _ _ _))
   ·exact nq f _ _ _ h
  |false=>exact⟨jF h0 h _,jF h0 h _,λb=>by
    cases b with
    |true=>exact h
    |false=>exact nq f _ _ _ h⟩⟩
theorem xt{m:Nat}(h:Lt n p):On n (λr=>Lt n r.2) (kas_tail3 m nrem p):=
 On.bind (vR h0 (h.perm (eG p 0 m)) _ _) λ_ _=>h.perm (eG _ _ _)
theorem mF{m:Nat}(h:Lt n p):On n (λr=>Lt n r.2) (kas_descPart m nrem p):=
 On.bind (nq h0 _ _ _ _ h) λr hr=>by
  show On n _ (if r.2.2>0 then _ else _)
  split
  ·exact xt h0 (hr.perm (eG _ _ _))
  ·exact xt h0 hr
theorem AH(h:Lt n p):On n (λr=>Lt n r.2) (kas_count nrem p):=
 On.bind (vR h0 h _ _) λm _=>by
  show On n _ (if (m == nrem)=true then _ else _)
  split
  ·exact h
  ·split
   ·exact⟨jF h0 h _,jF h0 h _,λb=>by
     cases b with
     |true=>exact h
     |false=>exact mF h0 (h.perm (eG _ _ _))⟩
   ·exact mF h0 h
theorem n8{k:Nat}(h:Lt n p):∀(f l r:Nat),On n (λ_=>True) (kas_place p k f l r)
 |0,_,_=>True.intro
 |f+1,l,r=>by
  unfold kas_place;split
  ·exact True.intro
  ·exact⟨jF h0 h _,jF h0 h _,λb=>by
    cases b with
    |true=>exact n8 h f _ _
    |false=>exact n8 h f _ _⟩
theorem AI:∀(f:Nat)(p:Array Nat)(k:Nat),Lt n p->On n (λr=>Lt n r) (kas_bin f p k)
 |0,_,_,h=>h
 |f+1,p,k,h=>On.bind (n8 h0 h _ _ _) λl _=>AI f _ _ (h.perm (bubble_perm _ _ _))
theorem CB:On n (λr=>Lt n r) (kas_sort n):=by
 have h:Lt n (List.toArray (List.range n)):=λx hx=>by simpa using hx
 exact On.bind (AH h0 h) λr hr=>by
  show On n _ (if r.1<n then _ else _)
  split
  ·exact AI h0 _ _ _ hr
  ·exact hr
end
end SK
namespace SK
open PySem PySem.W PySem.Spec PyProof.Rows
open PD (jU ltP ltZ tX)
section
variable{prog:Program}{w:World}{A:Around}{E:Value->Shared->Prop}{s:Shared}
theorem vS{y x:Value}{n m:Int×List Int}{Q:Bool->Shared->Prop}(hy:jU s.heap y n)(hx:jU s.heap x m)(hu:A.units+2<cLine)(h:Q (ltP n m) s):
  wpAny (model prog w) A (keyLt' (tuples' true) y x) Q E s:=by
 obtain⟨l,t,p,its,rfl,hl,hp,hi⟩:=hy;obtain⟨b,u,q,its2,rfl,hb,hq,hi2⟩:=hx;obtain⟨⟨cls,dd,data,sl⟩,ho,hc,k1,hd⟩:=id hl;obtain⟨⟨cls2,dd2,data2,sl2⟩,ho2,hc2,k2,hd2⟩:=id hb;simp only at hc hd hc2 hd2;subst hc hd hc2 hd2;refine kat_lt ho rfl ho2 rfl ?_;show KatLex prog w A true _ Q [(.int n.1 t,.int m.1 u),(.ref p,.ref q)] 0 s;refine kat_cons (wpAny_eqBool_int ?_);by_cases h1:n.1=m.1
 ·rw[show(n.1 == m.1)=true by simpa using h1]
  refine kat_yes (kat_cons (tX hp hq hi hi2 (by omega) prog w _ _ ?_))
  by_cases h2:n.2=m.2
  ·rw[Jx h2];refine kat_yes (kat_nil ?_)
   have e:ltP n m=false:=by unfold ltP;rw[J8 h1,h2,PD.tU]
   rw[e]at h;exact h
  ·rw[Jz h2];refine kat_no ?_;show wpAny _ _ (oneLt' (true&&(1 == 0)) _ _) _ _ s
   have e:ltP n m=ltZ n.2 m.2:=by unfold ltP;rw[J8 h1]
   rw[e]at h
   exact kat_one _ _ (PD.xh hp hq hi hi2 (by omega) prog w h)
 ·rw[show(n.1 == m.1)=false by simpa using h1]
  refine kat_no ?_;show wpAny _ _ (oneLt' (true&&(0 == 0)) _ _) _ _ s
  have e:ltP n m=decide (n.1<m.1):=by unfold ltP;rw[Jb h1]
  rw[e]at h;exact oneLt_int h
noncomputable def mG(b:Bool)(ns:List (Int×List Int)):List Nat:=if ns.length<2 then List.range ns.length else
 (run (λi j=>ltP ((katRev b ns).getD i (0,[])) ((katRev b ns).getD j (0,[]))) (kas_sort ns.length)).toList
noncomputable def byOrd{α:Type}(b:Bool)(ns:List (Int×List Int))(d:α)(xs:List α):List α:=katRev b ((mG b ns).map λi=>(katRev b xs).getD i d)
theorem range_getD{α:Type}(d:α):∀xs:List α,(List.range xs.length).map (λi=>xs.getD i d)=xs:=λxs=>by
 apply List.ext_getElem
 ·simp
 ·intro i h1 h2;simp at h1 ⊢;simp[h1]
theorem katRev_len{α:Type}(b:Bool)(l:List α):(katRev b l).length=l.length:=by cases b<;>simp[katRev]
theorem vT{α:Type}(b:Bool)(l:List α):katRev b (katRev b l)=l:=by cases b<;>simp[katRev]
theorem tY{α β:Type}(b:Bool){xs:List α}{ys:List β}(h:xs.length=ys.length){i:Nat}{v:α}(hv:(katRev b xs)[i]?=some v)(d:β):∃j,xs[j]?=some v/\(katRev b ys).getD i d=ys.getD j d:=by
 cases b with
 |false=>exact⟨i,hv,rfl⟩
 |true=>
  have hi:i<xs.length:=by have:=(Ja.mp hv).1;simpa[katRev] using this
  have e:xs.reverse[i]?=some v:=hv;rw[List.getElem?_reverse hi]at e;refine⟨xs.length-1-i,e,?_⟩;show ys.reverse.getD i d=_
  rw[Jn,List.getElem?_reverse (by omega),Jn,h]
theorem jU.keep{h h':Heap}{v:Value}{n:Int×List Int}(x:jU h v n)(k:∀b o,h.get? b=some o->o.cls=.type "tuple"->h'.get? b=some o):jU h' v n:=by obtain⟨a,t,p,its,e,⟨o,ho,hc,r⟩,⟨o2,ho2,hc2,r2⟩,hi⟩:=x;exact⟨a,t,p,its,e,⟨o,k a o ho hc,hc,r⟩,⟨o2,k p o2 ho2 hc2,hc2,r2⟩,hi⟩
theorem firsts_of{h:Heap}:∀{vs:List Value}{ns:List (Int×List Int)},vs.length=ns.length->(∀i v,vs[i]?=some v->jU h v (ns.getD i (0,[])))->∃fs:List Value,fs.length=vs.length/\KatTups h vs fs/\∀v∈fs,∃i t,v=.int i t
 |[],ns,_,_=>⟨[],rfl,.nil,λv hv=>nomatch hv⟩
 |v::vs,[],hl,_=>by simp at hl
 |v::vs,n::ns,hl,hp=>by
  obtain⟨fs,h1,h2,h3⟩:=firsts_of (vs:=vs) (ns:=ns) (by simpa using hl) λi x hx=>by simpa using hp (i+1) x (by simpa using hx)
  obtain⟨a,t,p,its,rfl,⟨o,ho,hc,k,hd⟩,_,_⟩:=hp 0 v (by simp)
  exact⟨.int n.1 t::fs,by simp[h1],.cons ho hc hd (by simp) h2,λx hx=>(Jj.mp hx).elim (λe=>⟨_,_,e⟩) (h3 x)⟩
theorem vU{a:Addr}{vs:List Value}{ns:List (Int×List Int)}{n:Nat}{b:Bool}{P:PySem.Fin->Shared->Prop}(ho:s.heap.get? a=some (seqObj "list" vs.toArray n))
  (hl:vs.length=ns.length) (hP:∀i v,vs[i]?=some v->jU s.heap v (ns.getD i (0,[]))) (hu:A.units+2<cLine) (h64:vs.length<64)
  (h:P (.done (.ret .none)) { s with heap:=sortedHeap s.heap a vs (List.toArray (byOrd b ns Value.none vs)) }):
  wpAny (model prog w) A (Builtin.«list.sort» ⟨[.ref a],[(Str.ofString "reverse",.bool b)]⟩) P E s:=by
 rw[list_sort_rev];have ha:a<s.heap.objs.size:=Jh ho
 have hszL:vs.toArray.size<=sizeLine:=by rw[Js,Qu];omega
 refine J6 (listItems_at ho rfl ?_);refine J6 (Ve ho rfl ?_ hszL (Y0 _));obtain⟨e1,ho1⟩:∃e1,(s.heap.update a (Obj.mapSeq λ_=>#[])).get? a=some (seqObj "list" #[] e1):=⟨_,V2 ho (λ_=>#[])⟩
 refine J6 (seqEpoch_at ho1 rfl ?_)
 refine J6 (wpAny_newTuple ?_ (by show vs.length<=_;rw[Qu];omega))
 refine J6 (W4 ?_ (Y0 _));refine Yw ?_
 have ho6:(((s.heap.update a (Obj.mapSeq λ_=>#[])).push (seqObj "tuple" vs.toArray 0)).push (seqObj "list" #[] 0)).get? a=some (seqObj "list" #[] e1):=by
  rw[Va _ _ _ (by rw[size_push',Wt];exact Jq (Za ha)),Va _ _ _ (by rw[Wt];exact Jq ha)]
  exact ho1
 show wpAny (model prog w) A _ P E { s with heap:=((s.heap.update a (Obj.mapSeq λ_=>#[])).push (seqObj "tuple" vs.toArray 0)).push (seqObj "list" #[] 0) }
 have hP6:∀i v,vs[i]?=some v->jU (((s.heap.update a (Obj.mapSeq λ_=>#[])).push (seqObj "tuple" vs.toArray 0)).push (seqObj "list" #[] 0)) v (ns.getD i (0,[])):=λi v hv=>jU.keep (hP i v hv) λc o e ht=>by
  have hca:c≠a:=λz=>by
   rw[z,ho]at e;cases e;have ht':Value.type "list" = Value.type "tuple":=ht
   injection ht' with y
   exact absurd y (by decide)
  exact J7 _ (J7 _ (((Q3 s.heap a _).2 c hca).trans e))
 have hsz:vs.toArray.size=vs.length:=by simp
 dsimp only
 have step:∀t:Sem PySem.Fin,wpAny (model prog w) A t P E { s with heap:=((s.heap.update a (Obj.mapSeq λ_=>#[])).push (seqObj "tuple" vs.toArray 0)).push (seqObj "list" #[] 0) }->
   wpAny (model prog w) A (if b=true then (do let _ <- rule "list.sort.reverse";t) else t) P E { s with heap:=((s.heap.update a (Obj.mapSeq λ_=>#[])).push (seqObj "tuple" vs.toArray 0)).push (seqObj "list" #[] 0) }:=by
  intro t ht;split
  ·exact J6 (Yv ht)
  ·exact ht
 refine step _ ?_
 -- how it ends
 have fin:∀(st':SortSt)(out:List Value),failedOf st'=none->(if b=true then ((arrOf st').map (·.2)).reverse else (arrOf st').map (·.2))=List.toArray out->out.length=vs.length->out=byOrd b ns Value.none vs->
   wpAny (model prog w) A (do
    let touched:=(<- seqEpoch a) != e1
    Builtin.List.listUpdate (.ref a) λ_=>if b then ((arrOf st').map (·.2)).reverse else (arrOf st').map (·.2)
    if let some e:=failedOf st' then rule "list.sort.comparison-raised";throw e
    if touched then rule "list.sort.modified";raiseError "ValueError" "list modified during sort"
    ret .none) P E { s with heap:=((s.heap.update a (Obj.mapSeq λ_=>#[])).push (seqObj "tuple" vs.toArray 0)).push (seqObj "list" #[] 0) }:=by
  intro st' out hf ho' hlen he;refine J6 (seqEpoch_at ho6 rfl ?_);rw[ho']
  refine J6 (Ve ho6 rfl ?_ (Y0 _) (by rw[Js,hlen,Qu];omega))
  rw[hf];simp only[bne_self_eq_false,Jw,Yj];subst he;exact Jc h
 by_cases h2:vs.toArray.size<2
 ·rw[J8 h2,J8 h2];refine J6 (Jc ?_);rw[StateT.run_pure];refine J6 (Jc ?_)
  refine fin (SortSt.mk' general' (if b=true then (vs.toArray.zip vs.toArray).reverse else vs.toArray.zip vs.toArray) #[] 7 none) vs rfl ?_ rfl ?_
  ·have e:arrOf (SortSt.mk' general' (if b=true then (vs.toArray.zip vs.toArray).reverse else vs.toArray.zip vs.toArray) #[] 7 none)=(if b=true then (vs.toArray.zip vs.toArray).reverse else vs.toArray.zip vs.toArray):=rfl
   rw[e];apply Array.toList_inj.mp
   have ez:((vs.toArray.zip vs.toArray).map (·.2))=vs.toArray:=by apply Array.toList_inj.mp;rw[Array.toList_map,ksk_zip];exact List.map_snd_zip (J9 _)
   cases b with
   |false=>simp only[Jw,Yj];rw[ez]
   |true=>simp only[Yd];rw[Array.map_reverse,Array.reverse_reverse,ez]
  ·unfold byOrd mG
   rw[J8 (by omega),<- hl,<- katRev_len b vs,range_getD,vT]
 ·rw[Jb h2,Jb h2]
  have h2':2<=vs.length:=by omega
  obtain⟨fs,f1,f2,f3⟩:=firsts_of hl hP6
  refine J6 (kat_kind (T:=.type "int") (fs:=fs) f2 (by omega) (λv hv=>?_) rfl ?_)
  ·obtain⟨i,t,rfl⟩:=f3 v hv;exact .now
  show wpAny _ _ _ _ _ _;rw[kat_pairs b rfl];have hlr:(katRev b vs).length=vs.length:=katRev_len b vs
  have O:∀i j,i<vs.length->j<vs.length->∀C:Bool->Shared->Prop,C (ltP ((katRev b ns).getD i (0,[])) ((katRev b ns).getD j (0,[]))) { s with heap:=((s.heap.update a (Obj.mapSeq λ_=>#[])).push (seqObj "tuple" vs.toArray 0)).push (seqObj "list" #[] 0) }->
    kas_ask prog w A (tuples' true) (katRev b vs) i j C { s with heap:=((s.heap.update a (Obj.mapSeq λ_=>#[])).push (seqObj "tuple" vs.toArray 0)).push (seqObj "list" #[] 0) }:=λi j hi hj C hC=>by
   have at':∀i,i<vs.length->jU (((s.heap.update a (Obj.mapSeq λ_=>#[])).push (seqObj "tuple" vs.toArray 0)).push (seqObj "list" #[] 0)) ((katRev b vs).getD i Value.none) ((katRev b ns).getD i (0,[])):=λi hi=>by
    have hi':i<(katRev b vs).length:=by omega
    obtain⟨k,k1,k2⟩:=tY b hl (Jd hi') (0,[]);rw[k2,Jn,Jd hi'];exact hP6 k _ k1
   exact vS (at' i hi) (at' j hj) hu hC
  refine J6 (Zk (kat_run (ks:=katRev b vs) (vs:=katRev b vs) (Q:=λst' s'=>s'={ s with heap:=((s.heap.update a (Obj.mapSeq λ_=>#[])).push (seqObj "tuple" vs.toArray 0)).push (seqObj "list" #[] 0) }/\failedOf st'=none/\arrOf st'=(run (λi j=>ltP ((katRev b ns).getD i (0,[])) ((katRev b ns).getD j (0,[]))) (kas_sort vs.length)).map (kas_item ((katRev b vs).toArray.zip (katRev b vs).toArray))/\(run (λi j=>ltP ((katRev b ns).getD i (0,[])) ((katRev b ns).getD j (0,[]))) (kas_sort vs.length)).size=vs.length)
   (G:=λp s'=>s'={ s with heap:=((s.heap.update a (Obj.mapSeq λ_=>#[])).push (seqObj "tuple" vs.toArray 0)).push (seqObj "list" #[] 0) }/\p=run (λi j=>ltP ((katRev b ns).getD i (0,[])) ((katRev b ns).getD j (0,[]))) (kas_sort vs.length))
   rfl (by omega) (by omega) (λp st' s' a1 a2 a3 a4=>⟨a4.1,a3,by rw[<- a4.2];exact a2,by rw[<- a4.2,a1,hlr]⟩) (by rw[hlr];exact AG O (CB (by omega)) ⟨rfl,rfl⟩)) ?_ λ_ _ e=>e)
  rintro⟨⟨⟩,st'⟩ s' ⟨rfl,hf,har,hz⟩;have hsn:=kat_snds (ks:=katRev b vs) (vs:=katRev b vs) rfl har;refine fin st' (katRev b ((run (λi j=>ltP ((katRev b ns).getD i (0,[])) ((katRev b ns).getD j (0,[]))) (kas_sort vs.length)).toList.map λi=>(katRev b vs).getD i Value.none)) hf ?_ ?_ ?_
  ·rw[hsn];exact kat_outs b _
  ·rw[katRev_len,Jg,Jy,hz]
  ·unfold byOrd mG
   rw[Jb (by omega),<- hl]
theorem sorted_pairs{k:Bool}{l:Addr}{vs:List Value}{ns:List (Int×List Int)}{b:Bool}{Q:Value->Shared->Prop}(hs:SQ.Is k s.heap l vs.toArray)(hl:vs.length=ns.length)(hP:∀i v,vs[i]?=some v->jU s.heap v (ns.getD i (0,[])))(hu:A.units+4<cLine)(h64:vs.length<64)
  (h:∀(a:Addr)(h':Heap)(n:Nat),s.heap.objs.size<=a->(∀b o,s.heap.get? b=some o->h'.get? b=some o)->h'.get? a=some (seqObj "list" (List.toArray (byOrd b ns Value.none vs)) n)->Q (.ref a) { s with heap:=h' }):
  wpAny (model prog w) A (call (.builtin "sorted") [.ref l] [(Str.ofString "reverse",.bool b)]) Q E s:=by
 refine call_function_entry_kw kind_sorted plain_sorted entry_sorted (args_sorted_rev _ _) ?_;unfold Builtin.«sorted»;refine J6 (m:=checkCount "sorted" 1 1 _) (Jc ?_)
 have hz:vs.length<=sizeLine:=by rw[Qu];omega
 refine J6 (SQ.collects hs ?_ hz)
 have kp:∀b o,s.heap.get? b=some o->((s.heap.push (seqObj "list" #[] 0)).update s.heap.objs.size (Obj.mapSeq (· ++ vs.toArray))).get? b=some o:=λb o e=>
  ((Q3 ..).2 b (Jq (Jh e))).trans (J7 _ e)
 generalize hh1:((s.heap.push (seqObj "list" #[] 0)).update s.heap.objs.size (Obj.mapSeq (· ++ vs.toArray)))=h1 at kp ⊢
 have sz1:s.heap.objs.size<=h1.objs.size:=by rw[<- hh1,Wt,size_push'];exact W9 _
 refine J6 (W4 ?_ hz);have g:(h1.push (seqObj "list" vs.toArray 0)).get? h1.objs.size=some (seqObj "list" vs.toArray 0):=Ji _ rfl
 have kp2:∀b o,s.heap.get? b=some o->(h1.push (seqObj "list" vs.toArray 0)).get? b=some o:=λb o e=>J7 _ (kp b o e)
 refine J6 (Yw (wpAny_call_entry_kw slot_list_sort ⟨_,g,rfl⟩ entry_list_sort (vU (s:={ s with heap:=h1.push (seqObj "list" vs.toArray 0) }) g hl (λi v hv=>jU.keep (hP i v hv) λc o e _=>kp2 c o e) (show A.units+2+2<cLine by omega) h64 ⟨_,rfl,?_⟩) (args_list_sort_rev _ _)))
 obtain⟨⟨n,g1⟩,g2⟩:=SQ.sortedHeap_ok (out:=List.toArray (byOrd b ns Value.none vs)) g;exact Jc ⟨_,rfl,h _ _ n sz1 (λb o e=>g2 b o (Jq (Jt (Jh e) sz1)) (kp2 b o e)) g1⟩
end
end SK
namespace SK
open PySem PySem.W PySem.Spec PyProof.Rows
open PD (ltP ltZ ltZ_eq gN)
theorem AJ:∀{x y:List Int},ltZ x y=true->ltZ y x=false
 |[],[],h=>rfl
 |[],_::_,_=>rfl
 |_::_,[],h=>by cases h
 |a::x,b::y,h=>by
  by_cases e:a=b
  ·rw[ltZ_eq e]at h;rw[ltZ_eq e.symm];exact AJ h
  ·rw[gN e]at h;have h:=Zw h;rw[gN (λz=>e z.symm)]
   exact Jz (by omega)
theorem AK:∀{x y z:List Int},ltZ y x=false->ltZ z y=false->ltZ z x=false
 |[],y,[],_,_=>rfl
 |[],y,_::_,_,_=>rfl
 |_::_,[],_,h,_=>by cases h
 |_::_,_::_,[],_,h=>by cases h
 |a::x,b::y,c::z,h1,h2=>by
  by_cases e1:b=a
  ·rw[ltZ_eq e1]at h1;by_cases e2:c=b
   ·rw[ltZ_eq e2]at h2;rw[ltZ_eq (e2.trans e1)];exact AK (x:=x) (y:=y) h1 h2
   ·rw[gN e2]at h2
    rw[gN (λe=>e2 (by rw[e,e1]))]
    rw[<- e1];exact h2
  ·rw[gN e1]at h1;have h1:=W8 h1;by_cases e2:c=b
   ·rw[gN (λe=>e1 (by rw[<- e,e2]))]
    exact Jz (by omega)
   ·rw[gN e2]at h2;have h2:=W8 h2
    rw[gN (by omega)]
    exact Jz (by omega)
theorem Fc{p q:Int×List Int}(h:ltP p q=true):ltP q p=false:=by
 unfold ltP at h ⊢;by_cases e:p.1=q.1
 ·rw[J8 e]at h;rw[J8 e.symm];exact AJ h
 ·rw[Jb e]at h;rw[Jb (λz=>e z.symm)];have:=Zw h
  exact Jz (by omega)
theorem Fd{x y z:Int×List Int}(h1:ltP y x=false)(h2:ltP z y=false):ltP z x=false:=by
 unfold ltP at h1 h2 ⊢;by_cases e1:y.1=x.1
 ·rw[J8 e1]at h1;by_cases e2:z.1=y.1
  ·rw[J8 e2]at h2;rw[J8 (e2.trans e1)];exact AK h1 h2
  ·rw[Jb e2]at h2;rw[Jb (λe=>e2 (by rw[e,e1])),<- e1];exact h2
 ·rw[Jb e1]at h1;have h1:=W8 h1;by_cases e2:z.1=y.1
  ·rw[Jb (λe=>e1 (by rw[<- e,e2]))];exact Jz (by omega)
  ·rw[Jb e2]at h2;have h2:=W8 h2
   rw[Jb (by omega)];exact Jz (by omega)
theorem Dq(ns:List (Int×List Int)):Ord (λi j=>ltP (ns.getD i (0,[])) (ns.getD j (0,[]))):=⟨λ_ _ h=>Fc h,λ_ _ _ h1 h2=>Fd h1 h2⟩
theorem ordOf_perm(b:Bool)(ns:List (Int×List Int)):(mG b ns).Perm (List.range ns.length):=by
 unfold mG;split
 ·exact .refl _
 ·obtain⟨p,e,a1,a2,a3⟩:=xr (Dq (katRev b ns)) (n:=ns.length) (by omega)
  rw[e];have:=Wy.mp a1;simpa using this
theorem yU(b:Bool)(ns:List (Int×List Int)):(mG b ns).length=ns.length:=by rw[(ordOf_perm b ns).length_eq,Uh]
theorem byOrd_len{α:Type}(b:Bool)(ns:List (Int×List Int))(d:α)(xs:List α):(byOrd b ns d xs).length=ns.length:=by unfold byOrd;rw[katRev_len,Jg,yU]
theorem mH{α:Type}(b:Bool)(l:List α):(katRev b l).Perm l:=by
 cases b
 ·exact .refl _
 ·exact List.reverse_perm _
theorem byOrd_perm{α:Type}(b:Bool){ns:List (Int×List Int)}(d:α){xs:List α}(h:xs.length=ns.length):(byOrd b ns d xs).Perm xs:=by unfold byOrd;refine(mH b _).trans (((ordOf_perm b ns).map _).trans ?_);rw[<- h,<- katRev_len b xs,range_getD];exact mH b xs
theorem n9{α β:Type}(f:α->β)(b:Bool)(l:List α):katRev b (l.map f)=(katRev b l).map f:=by cases b<;>simp[katRev]
theorem byOrd_map{α β:Type}(f:α->β)(b:Bool)(ns:List (Int×List Int))(d:α)(xs:List α):byOrd b ns (f d) (xs.map f)=(byOrd b ns d xs).map f:=by
 unfold byOrd;rw[<- n9 f b,Yn,n9 f b xs];congr 1
 exact Z8 λi _=>by show((katRev b xs).map f).getD i (f d)=f ((katRev b xs).getD i d);rw[Jn,Jn,Z9];cases (katRev b xs)[i]?<;>rfl
theorem byOrd_sorted(b:Bool)(ns:List (Int×List Int)):(byOrd b ns (0,[]) ns).Pairwise λp q=>(if b=true then ltP p q else ltP q p)=false:=by
 have key:((mG b ns).map λi=>(katRev b ns).getD i (0,[])).Pairwise λp q=>ltP q p=false:=by
  unfold mG;split
  ·rename_i h;rw[<- katRev_len b ns,range_getD];rw[<- katRev_len b ns]at h
   match katRev b ns,h with
   |[],_=>exact .nil
   |[x],_=>exact Qc _ _
   |_::_::_,h=>simp at h;omega
  ·obtain⟨p,e,a1,a2,a3⟩:=xr (Dq (katRev b ns)) (n:=ns.length) (by omega)
   rw[e,Q6];intro i j hi hj hij;simp only[Jg,Jy]at hi hj
   have:=a3 i j (by omega) (by omega)
   simp only[Uq,Array.getElem_toList];rw[jE,jE,Array.getElem?_eq_getElem hi,Array.getElem?_eq_getElem hj]at this;exact this
 unfold byOrd;cases b with
 |false=>exact key
 |true=>
  show(List.reverse _).Pairwise _;rw[List.pairwise_reverse];exact key
end SK
namespace PD
open PySem PySem.Spec PyProof.Rows L2
variable{w:Wd}{H:Hp}{b:Bool}
theorem xu:∀{vs:List V}{us:List Value},Vals vs us->∀i,RelV (vs.getD i .non) (us.getD i .none)
 |_,_,.nil,i=>rfl
 |_,_,.cons h t,0=>h
 |_,_,.cons h t,i+1=>by simpa using xu t i
theorem lL{vs:List V}{us:List Value}(h:Vals vs us):∀l:List Nat,Vals (l.map λi=>vs.getD i .non) (l.map λi=>us.getD i .none)
 |[]=>.nil
 |i::l=>.cons (xu h i) (lL h l)
theorem AL{K:PySem.W.Frag}:∀{ds:List D}{vs:List V},RDs K w H ds vs->∀i,RD K w H (ds.getD i .non) (vs.getD i .non)
 |[],_,h,i=>by unfold RDs at h;subst h;show RD K w H .non .non;unfold RD;rfl
 |d::ds,_,h,i=>by
  unfold RDs at h;obtain⟨v,r,rfl,p,q⟩:=h;cases i with
  |zero=>exact p
  |succ i=>simpa using AL q i
theorem og{K:PySem.W.Frag}{ds:List D}{vs:List V}(h:RDs K w H ds vs):∀l:List Nat,RDs K w H (l.map λi=>ds.getD i .non) (l.map λi=>vs.getD i .non)
 |[]=>.nil
 |i::l=>.cons (AL h i) (og h l)
theorem AN(b:Bool)(ns:List (Int×List Int)){vs:List V}{us:List Value}(h:Vals vs us):Vals (SK.byOrd b ns .non vs) (SK.byOrd b ns .none us):=by
 cases b with
 |false=>exact lL h _
 |true=>exact Vals.rev (lL (Vals.rev h) _)
theorem CC{K:PySem.W.Frag}(b:Bool)(ns:List (Int×List Int)){ds:List D}{vs:List V}(h:RDs K w H ds vs):RDs K w H (SK.byOrd b ns .non ds) (SK.byOrd b ns .non vs):=by
 cases b with
 |false=>exact og h _
 |true=>exact RDs.rev (og (RDs.rev h) _)
noncomputable def mI(b:Bool):Sto->List D->Option D
 |_,[.lst ds]=>match mD ds with
  |some ns=>if ds.length<64 then some (.lst (SK.byOrd b ns .non ds)) else none
  |none=>none
 |_,_=>none
section
variable{X:Cx}{E:XK}
theorem xv{k:Nat}(hr:Room k X.A):pU X (.builtin "sorted") [(Str.ofString "reverse",.bool b)] (xC X.K E (mI b)):=by
 rintro pins s σ H xs us Q I r ⟨w,S,ds,hS,qs,p⟩;obtain⟨z,hz,p'⟩:=p.of;clear p;unfold mI at hz;split at hz
 ·rename_i a;obtain⟨v,rfl,q⟩:=qs.one_inv;obtain⟨u,rfl,rx⟩:=Wc r;split at hz
  ·rename_i ns e;split at hz
   ·rename_i h64;cases hz;obtain⟨pa,vs,rfl,za,ra⟩:=q.lstI;cases rx;obtain⟨its,r',pl,_⟩:=I.list (SqL.of za.1);obtain⟨t,g⟩:=xn I ra r' e
    have hl:its.length=a.length:=by rw[<- r'.length,ra.length]
    refine SK.sorted_pairs (k:=false) pl.isList t (λi v hv=>(g i v hv).1) (by have:=hr.un;omega) (by omega) λa1 h' n la k1 k2=>?_
    have hf:H a1=none:=I.hok.fresh la
    have hz:(SK.byOrd b ns V.non vs).length<=sizeLine:=by rw[SK.byOrd_len,Qu];omega
    refine⟨.ref a1,_,I.laid (t':=s.toks) (a:=a1) (o:=.lst (SK.byOrd b ns V.non vs)) k1 la ⟨hz,_,n,AN b ns r',k2⟩,rfl,?_⟩;exact p'.at (Ext.new hf) (RD.newLst hS hf (CC b ns ra)) (hS.new hf)
   ·cases hz
  ·cases hz
 ·cases hz
variable{a:Expr}{ms:AM}{x:Str}{p pos kp:Pos}{id:String}{nm:Str}
theorem yV{r:List V->Hp->VK->Prop}{t:TA}{j:Nat}{cp:Pos}(hc:pU X (.builtin id) [(nm,.bool b)] r)(hg:Gl X x)(hm:X.mg x=none)(hv:bootBuiltins x=some (.builtin id))(ha:PA X [a] t)(hn:autoParam (x ≠ "__name__") Au.h2._auto_1)(hdb:autoParam ((x == ("__debug__":Str))=false) Au.h2._auto_1)
  (he:autoParam (backTo pos (starEach [a] X.env)=(false,eval a X.env)::backTo pos (starEach [] X.env)) Au.h1._auto_1) (hpl:autoParam ((backTo pos (starEach [a] X.env)).any (·.1)=false) Au.h1._auto_1):PE X (.Call (.Name x p) [a] [⟨some nm,.Constant (.bool b) j cp,kp⟩] pos) (tCB r t):=by
 intro pins s σ H Q I h;refine W6 (ig I hg hm hv ?_ hn hdb);refine callWith_kw (thn (ha pos pins s σ H _ I h) λus s1 zq=>ex5 zq λvs H1 I1 r1 q1=>kws_cons ?_) he hpl;exact Constant_bool (kws_nil (hc pins s1 σ H1 vs us Q I1 r1 q1))
theorem qa{f:Sto->List D->Option D}{j:Nat}{cp:Pos}(hc:pU X (.builtin id) [(nm,.bool b)] (xC X.K E f))(hg:Gl X x)(hm:X.mg x=none)(hv:bootBuiltins x=some (.builtin id))(ha:SA X E [a] ms)(hn:autoParam (x ≠ "__name__") Au.h3._auto_1)(hdb:autoParam ((x == ("__debug__":Str))=false) Au.h3._auto_1)
  (he:autoParam (backTo pos (starEach [a] X.env)=(false,eval a X.env)::backTo pos (starEach [] X.env)) Au.h0._auto_1) (hpl:autoParam ((backTo pos (starEach [a] X.env)).any (·.1)=false) Au.h0._auto_1):SE X E (.Call (.Name x p) [a] [⟨some nm,.Constant (.bool b) j cp,kp⟩] pos) (eB f ms):=⟨
 bq (yV hc hg hm hv ha.out hn hdb he hpl) λs H Q zq=>ex6 zq λw r S hr hS hp=>⟨w,r,S,hr,hS,hp.bind hS λds S1 w1 H1 vs x1 q1 s1 p1=>⟨w1,S1,ds,s1,q1,p1⟩⟩⟩
end
section
variable{X:Cx}{E:XK}{a b:Expr}{es:List Expr}{ms:AM}{x:Str}{p pos:Pos}
omit X E a b es ms x p pos in
end
end PD
namespace ST
open PySem PySem.Spec PyProof.Rows
noncomputable abbrev ik(prog:Program)(w:World):KeyKind prog w Int:=intKind prog w
end ST
namespace PD
open PySem PySem.Spec PyProof.Rows L2
section
variable{X:Cx}{E:XK}
mutual
theorem Dr{pins:List (Addr×Obj)}{σ:L2.St}{H:Hp}{s:Shared}{w:Wd}(I:Inv X pins σ H s)(hz:H sysModules=none):∀(d:D)(v:V)(u:Value)(p:PyData),RD X.K w H d v->RelV v u->toPy d=some p->∃as,Reads s.heap u p as/\sysModules∉as
 |.non,v,u,p,q,r,h=>by cases q.non;cases (show u=Value.none from r);unfold toPy at h;cases h;exact⟨_,.none,λz=>nomatch z⟩
 |.bl b,v,u,p,q,r,h=>by cases q.bl;cases (show u=Value.bool b from r);unfold toPy at h;cases h;exact⟨_,.bool b,λz=>nomatch z⟩
 |.int i,v,u,p,q,r,h=>by cases q.int;obtain⟨t,rfl⟩:=(show ∃t,u=Value.int i t from r);unfold toPy at h;cases h;exact⟨_,.int i t,λz=>nomatch z⟩
 |.str x,v,u,p,q,r,h=>by cases q.str;obtain⟨t,rfl⟩:=(show ∃t,u=Value.str x t from r);unfold toPy at h;cases h;exact⟨_,.str x t,λz=>nomatch z⟩
 |.tup ds,v,u,p,q,r,h=>by
  obtain⟨a,vs,rfl,z,rs⟩:=q.tupI
  cases (show u=Value.ref a from r)
  unfold toPy at h;cases e:fk ds with
  |none=>rw[e]at h;cases h
  |some ps=>
   rw[e]at h;cases h;obtain⟨its,r1,⟨o,ho,hc,n,hd⟩,_⟩:=I.tuple (cj z);obtain⟨as,ra,hn⟩:=vV I hz ds vs its ps rs r1 e;exact⟨as,.tuple ho hc hd ra,hn⟩
 |.lst ds,v,u,p,q,r,h=>by
  obtain⟨a,vs,rfl,z,rs⟩:=q.lstI
  cases (show u=Value.ref a from r)
  unfold toPy at h;cases e:fk ds with
  |none=>rw[e]at h;cases h
  |some ps=>
   rw[e]at h;cases h;obtain⟨its,r1,⟨o,n,ho,hc,_,hd⟩,_⟩:=I.list (SqL.of z.1);obtain⟨as,ra,hn⟩:=vV I hz ds vs its ps rs r1 e;refine⟨a::as,.list ho hc hd ra,λhm=>?_⟩;rcases Jj.mp hm with hm|hm
   ·have z1:=z.1;rw[<- hm,hz]at z1;cases z1
   ·exact hn hm
 |.dic kvs,v,u,p,q,r,h=>by
  unfold RD at q;obtain⟨a,us,rfl,z,rk⟩:=q
  cases (show u=Value.ref a from r)
  unfold toPy at h;cases e:iN kvs with
  |none=>rw[e]at h;cases h
  |some ps=>
   rw[e]at h;cases h
   obtain⟨_,hsys,vs,kv,o,es,ep,ho,hex,hd,_,hp,_⟩:=(show bR X.prog X.w H s.heap a (.dK us) from I.hok a _ z.1)
   obtain⟨as,bs,ra,rb,hn⟩:=AO I hz kvs us vs es.toList ps rk kv hp e;refine⟨a::as++bs,.dict ho hex.1 hd ra rb,λhm=>?_⟩;rcases Jr.mp hm with hm|hm
   ·rcases Jj.mp hm with hm|hm
    ·rw[<- hm]at hsys;simp at hsys
    ·exact hn.1 hm
   ·exact hn.2 hm
 |.fz _,_,_,_,_,_,h=>by unfold toPy at h;cases h
 |.ref _,_,_,_,_,_,h=>by unfold toPy at h;cases h
 |.ty _,_,_,_,_,_,h=>by unfold toPy at h;cases h
 |.exc _,_,_,_,_,_,h=>by unfold toPy at h;cases h
 |.cls _,_,_,_,_,_,h=>by unfold toPy at h;cases h
theorem vV{pins:List (Addr×Obj)}{σ:L2.St}{H:Hp}{s:Shared}{w:Wd}(I:Inv X pins σ H s)(hz:H sysModules=none):∀(ds:List D)(vs:List V)(us:List Value)(ps:List PyData),RDs X.K w H ds vs->Vals vs us->fk ds=some ps->∃as,ReadsAll s.heap us ps as/\sysModules∉as
 |[],vs,us,ps,q,r,h=>by
  rw[q.nil_inv]at r;cases r;unfold fk at h;cases h
  exact⟨_,.nil,λz=>nomatch z⟩
 |d::ds,_,us,ps,q,r,h=>by
  obtain⟨v,vs,rfl,p,t⟩:=q.cons_inv;unfold fk at h;cases e1:toPy d with
  |none=>rw[e1]at h;cases h
  |some p1=>
   cases e2:fk ds with
   |none=>rw[e1,e2]at h;cases h
   |some p2=>
    rw[e1,e2]at h;cases h;cases r with
    |cons r1 r2=>
     obtain⟨as,ra,h1⟩:=Dr I hz d v _ p1 p r1 e1;obtain⟨bs,rb,h2⟩:=vV I hz ds vs _ p2 t r2 e2;exact⟨as++bs,.cons ra rb,λhm=>(Jr.mp hm).elim h1 h2⟩
theorem AO{pins:List (Addr×Obj)}{σ:L2.St}{H:Hp}{s:Shared}{w:Wd}(I:Inv X pins σ H s)(hz:H sysModules=none):∀(ds:List (Sum Int Str×D))(us:List (Key×V))(vs:List (Key×Value))(es:List DictEntry)(ps:List (PyData×PyData)),RDk X.K w H ds us->KV us vs->Pairs (bh X.prog X.w) es vs->iN ds=some ps->
  ∃as bs,ReadsAll s.heap (es.map (·.key)) (ps.map (·.1)) as/\ReadsAll s.heap (es.map (·.val)) (ps.map (·.2)) bs/\sysModules∉as/\sysModules∉bs
 |[],us,vs,es,ps,q,r,hp,h=>by
  unfold RDk at q;subst q;cases r;unfold iN at h;cases h;cases hp
  exact⟨_,_,.nil,.nil,(λz=>nomatch z),(λz=>nomatch z)⟩
 |(k,d)::ds,us,vs,es,ps,q,r,hp,h=>by
  unfold RDk at q;obtain⟨v,ur,rfl,p,t⟩:=q;unfold iN at h;cases e1:toPy d with
  |none=>rw[e1]at h;cases h
  |some p1=>
   cases e2:iN ds with
   |none=>rw[e1,e2]at h;cases h
   |some p2=>
    rw[e1,e2]at h;cases h;cases r with
    |cons r1 r2=>
     cases hp with
     |cons hk hv hr=>
      rename_i q0 vr e0 es0;obtain⟨k',v'⟩:=q0;obtain⟨ek,rv⟩:=r1;have ek':k=k':=ek;subst ek';obtain⟨as,ra,h1⟩:=Dr I hz d v _ p1 p rv e1;obtain⟨as2,bs2,ra2,rb2,h2⟩:=AO I hz ds ur vr es0 p2 t r2 hr e2
      have hkey:∃cs,Reads s.heap e0.key (z9 k) cs/\cs=[]:=by
       rcases bK hk with⟨i,tk,z1,z2⟩|⟨x,tk,z1,z2⟩
       ·have z1':k=Sum.inl i:=z1;subst z1';rw[z2];exact⟨_,.int i tk,rfl⟩
       ·have z1':k=Sum.inr x:=z1;subst z1';rw[z2];exact⟨_,.str x tk,rfl⟩
      obtain⟨cs,rc,ec⟩:=hkey;subst ec;have hv':e0.val=v':=hv
      exact⟨[]++as2,as++bs2,.cons rc ra2,.cons (by show Reads s.heap e0.val p1 as;rw[hv'];exact ra) rb2,by rw[Q0];exact h2.1,λhm=>(Jr.mp hm).elim h1 h2.2⟩
end
variable{a:Expr}{ms:AM}{x1 x2:Str}{p1 p2 q1 q2:Pos}
end
theorem vL{X:Cx}{E:XK}(i:Nat){x:Str}{pos:Pos}(hN:X.N[i]?=some x:=by kernel_rfl)(hv:X.env.scope.names.lookup x=some .local:=by kernel_rfl)(hd:(x == ("__debug__":Str))=false:=by decide +kernel)(hcd:(x == ("__classdict__":Str))=false:=by decide +kernel):SE X E (.Name x pos) (ai i):=zO i hN (Or.inl hv) hd hcd
theorem vC{X:Cx}{E:XK}(i:Nat){x:Str}{pos:Pos}(hN:X.N[i]?=some x:=by kernel_rfl)(hv:X.env.scope.names.lookup x=some .cell:=by kernel_rfl)(hd:(x == ("__debug__":Str))=false:=by decide +kernel)(hcd:(x == ("__classdict__":Str))=false:=by decide +kernel):SE X E (.Name x pos) (ai i):=zO i hN (Or.inr (Or.inl hv)) hd hcd
theorem fsk{N P:List Str}{sc:Scope}(a:sc.kind=.function:=by kernel_rfl)(b:sc.isCoroutine=false:=by kernel_rfl)(c:sc.isGenerator=false:=by kernel_rfl)(d:N.Nodup:=by decide +kernel)(e:N.take P.length=P:=by rfl)(f:∀x∈P,sc.names.lookup x=some .local\/sc.names.lookup x=some .cell:=by decide +kernel)(g:∀y∈sc.names,y.2≠.free:=by decide +kernel):FnScope N P sc:=⟨a,b,c,d,e,f,g⟩
end PD
theorem J0{α:Sort _}{a b:α}(h:a=b:=by kernel_rfl):a=b:=h
theorem J2{α:Sort _}{a b:α}{p:Prop}(h:a=b:=by kernel_rfl):a=b\/p:=Or.inl h
theorem J3{α:Sort _}{a b:α}{p q:Prop}(h:a=b:=by kernel_rfl):p\/a=b\/q:=Or.inr (Or.inl h)
theorem J5{p:Prop}[Decidable p](h:p:=by decide +kernel):p:=h
open L2 in
theorem J1{X:Cx}{x:PySem.Str}(h:Gl X x:=by unfold Gl;kernel_rfl):Gl X x:=h
namespace Lw
open PySem PySem.Spec PyProof.Rows L2 PD
variable{b:SM}{S S1 S2 S0 S3:Sto}{q j v x w u M:Int}{f:Addr}{i n m l:Nat}{xs K p ys L A B row:List Int}{e a o:EM}{tl r r1 ρ:Rho}{it:AM}{t:TM}{caps:List Nat}{T:List (Int×Int)}{Ls:List (List Int)}{fd:FuncData}
noncomputable def raisedX:List Str:=[]
noncomputable def askedX:List Str:=[]
noncomputable def isaX(c k:Str):Bool:=c == k||k == "PlusError"
noncomputable abbrev fM:Stmt:=top 53
noncomputable def gq:SM:=(aC (sIf (tV (eOp oLt (ai 1) (eB cY (af (ai 0) ao)))) (aV (eOp oIx (ai 0) (ai 1))) bL) (aV (eC (.int 0))))
noncomputable def dj:FM:=fnM 2 gq
noncomputable abbrev gu:Stmt:=top 54
noncomputable def jV:SM:=(aC (aT 2 (jM (af (eC (.int 48271)) (af (eC (.int 69621)) (af (eC (.int 16807)) (af (eC (.int 39373)) (af (eC (.int 30269)) (af (eC (.int 40014)) (af (eC (.int 40692)) (af (eC (.int 50021)) (af (eC (.int 61687)) (af (eC (.int 71993)) (af (eC (.int 83869)) (af (eC (.int 95561)) (af (eC (.int 30307)) ao))))))))))))))) (aC (aT 3 (eOp ba (eOp ba (eOp cq (eOp ba (eOp oMod (ai 0) (eC (.int 2147483647))) (eC (.int 12345))) (eOp oIx (ai 2) (eOp oMod (ai 1) (eC (.int 13))))) (eOp cq (eC (.int 977)) (ai 1))) (eOp cq (eC (.int 7919)) (eOp jA (ai 1) (eC (.int 13)))))) (aC (aT 3 (eOp oMod (ai 3) (eC (.int 1000000007)))) (aV (eOp jA (eOp oMod (eOp ba (eOp cq (ai 3) (ai 3)) (eOp cq (eC (.int 48271)) (ai 1))) (eC (.int 1000000007))) (eC (.int 7)))))))
noncomputable def dX:FM:=fnM 4 jV
noncomputable abbrev gw:Stmt:=top 55
noncomputable def iA:SM:=(aC (aT 2 (aw dj (af (ai 0) (af (ai 1) ao)))) (aC (sIf (tV (eOp fB (eOp oMod (ai 2) (eC (.int 2))) (eC (.int 0)))) (aV (eNew (af (eOp jA (eB tq (af (ai 2) ao)) (eC (.int 2))) ao))) bL) (aC (aT 3 (eC (.int 0))) (aC (gJ (dM (af (eC (.int 40)) ao)) (.nm 4) (aT 3 (eOp ba (eOp cq (ai 3) (eC (.int 142857143))) (aw dX (af (ai 2) (af (ai 4) ao)))))) (aV (eNew (af (ai 3) ao)))))))
noncomputable def dY:FM:=fnM 5 iA
noncomputable abbrev gx:Stmt:=top 8
noncomputable def jW:SM:=(aV (ll (eB gX (af (ai 0) (af (eC (.ty "int")) ao))) (En (eB gX (af (ai 0) (af (eC (.ty "bool")) ao))))))
noncomputable def bp:FM:=fnM 1 jW
noncomputable abbrev fN:Stmt:=top 9
noncomputable def mJ:SM:=(aV (ll (eB gX (af (ai 0) (af (eC (.ty "tuple")) ao))) (ll (eOp fB (eB cY (af (ai 0) ao)) (ai 1)) (eB gW (af (aU (bN (ai 0) bw) 1 [] (.nm 0) bf (aw bp (af (ai 0) ao))) ao)))))
noncomputable def dk:FM:=fnM 2 mJ
noncomputable abbrev cn:Stmt:=top 15
noncomputable def fG:SM:=(aV (ll (aw dk (af (ai 0) (af (ai 1) ao))) (eB gW (af (aU (bN (ai 0) bw) 1 [] (.nm 0) bf (eOp fB (eB tq (af (ai 0) ao)) (eC (.int 1)))) ao))))
noncomputable def bU:FM:=fnM 2 fG
noncomputable abbrev jl:Stmt:=top 10
noncomputable def i5:SM:=(aC (sIf (PD.tOr (PD.gI (tV (eB gX (af (ai 0) (af (eC (.ty "tuple")) ao))))) (tV (eOp oGt (eB cY (af (ai 0) ao)) (eC (.int (16)))))) (aV (eC (.bl false))) bL) (aV (eB gW (af (aU (bN (ai 0) bw) 1 [] (.nm 0) bf (ll (aw bp (af (ai 0) ao)) (eOp oGe (ai 0) (eC (.int 1))))) ao))))
noncomputable def fm:FM:=fnM 1 i5
noncomputable abbrev fc:Stmt:=top 11
noncomputable def iB:SM:=(sIf (PD.gI (tV (aw fm (af (ai 0) ao)))) zN bL)
noncomputable def aJ:FM:=fnM 1 iB
noncomputable abbrev eI:Stmt:=top 16
noncomputable def jG:SM:=(aC (bW (aw aJ (af (ai 1) ao))) (aV (aw bU (af (ai 0) (af (eB cY (af (ai 1) ao)) ao)))))
noncomputable def dG:FM:=fnM 2 jG
noncomputable abbrev fe:Stmt:=top 46
noncomputable def kC:SM:=(aC (aT 2 (aU (vD (af (eOp oIx (ai 0) (eC (.int 1))) (af (eOp oIx (ai 1) (eC (.int 1))) ao))) 2 [] (.tp [(.nm 0),(.nm 1)]) bf (eOp fJ (ai 0) (ai 1)))) (aV (dE (af (eOp fJ (eOp oIx (ai 0) (eC (.int 0))) (eOp oIx (ai 1) (eC (.int 0)))) (af (eB de (af (ai 2) ao)) ao)))))
noncomputable def cH:FM:=fnM 3 kC
noncomputable abbrev dN:Stmt:=top 45
noncomputable def i6:SM:=(aV (eB de (af (aU (dM (af (eB cY (af (ai 1) ao)) ao)) 1 [0] (.nm 0) bf (eIf (tV (eOp fB (ai 0) (ai 1))) (eC (.int 1)) (eC (.int 0)))) ao)))
noncomputable def bZ:FM:=fnM 2 i6
noncomputable abbrev cv:Stmt:=top 47
noncomputable def gb:SM:=(aC (aT 1 (eB (mI true) (af (aU (kj (af (ai 0) ao)) 2 [0] (.tp [(.nm 0),(.nm 1)]) bf (dE (af (ai 1) (af (aw bZ (af (ai 0) (af (ai 2) ao))) ao)))) ao))) (aC (aT 2 (eNew (af (ai 1) ao))) (aC (sWh (tV (eOp oGt (eB cY (af (ai 1) ao)) (eC (.int 1)))) (aC (aT 1 (eB (mI true) (af (eOp ba (eSl mR (ai 1) (jB (eC (.int 2))) oNo) (jM (af (aw cH (af (eOp oIx (ai 1) (eC (.int 0))) (af (eOp oIx (ai 1) (eC (.int 1))) ao))) ao))) ao))) (bW (ki cu (ai 2) (af (ai 1) ao))))) (aV (ai 2)))))
noncomputable def bb:FM:=fnM 3 gb
noncomputable abbrev cf:Stmt:=top 49
noncomputable def fo:SM:=(aC (bW (aw aJ (af (ai 0) ao))) (aC (sIf (tV (eOp fB (ai 0) (dE ao))) (aV (dE ao)) bL) (aC (aT 1 (eOp oIx (eOp oIx (aw bb (af (ai 0) ao)) (eUn iW (eC (.int 1)))) (eC (.int 0)))) (aV (eOp oIx (ai 1) (eC (.int 1)))))))
noncomputable def bP:FM:=fnM 2 fo
noncomputable abbrev dv:Stmt:=top 48
noncomputable def iO:SM:=(aC (bW (aw aJ (af (ai 0) ao))) (aV (aU (rM (aw bb (af (ai 0) ao))) 1 [] (.nm 0) bf (eB de (af (aU (bN (ai 0) bw) 2 [] (.tp [(.nm 0),(.nm 1)]) bf (ai 0)) ao)))))
noncomputable def cK:FM:=fnM 1 iO
noncomputable abbrev fO:Stmt:=top 33
noncomputable def mK:SM:=(aC (aT 1 (eOp jA (eB cY (af (ai 0) ao)) (eC (.int 2)))) (aV (dE (af (eSl mR (ai 0) oNo (jB (ai 1))) (af (eSl mR (ai 0) (jB (ai 1)) oNo) ao)))))
noncomputable def br:FM:=fnM 2 mK
noncomputable abbrev dw:Stmt:=top 12
noncomputable def fC:SM:=(sIf (PD.gI (tV (aw bp (af (ai 0) ao)))) zN bL)
noncomputable def ck:FM:=fnM 1 fC
noncomputable abbrev bI:Stmt:=top 13
noncomputable def d5:SM:=(aC (bW (aw aJ (af (ai 0) ao))) (bW (aw ck (af (ai 1) ao))))
noncomputable def aD:FM:=fnM 2 d5
noncomputable abbrev iC:Stmt:=top 25
noncomputable def qc:SM:=(aC (aT 3 Ai) (aC (gJ (eE (ai 0)) (.tp [(.nm 4),(.nm 5)]) (gJ (bN (ai 2) bw) (.nm 6) (aC (aT 7 (eOp ba (ai 4) (eOp cq (ai 6) (ai 1)))) (nE jD (eOp ba (fY (ai 3) (ai 7) (eC (.int 0))) (ai 5)) (ai 3) (ai 7))))) (aV (ai 3))))
noncomputable def dy:FM:=fnM 8 qc
noncomputable abbrev gy:Stmt:=top 26
noncomputable def oh:SM:=(aC (aT 2 (nM [((eC (.int 0)),(eC (.int 1)))])) (aC (gJ (bN (ai 0) bw) (.nm 3) (aT 2 (aw dy (af (ai 2) (af (ai 3) (af (ai 1) ao)))))) (aV (ai 2))))
noncomputable def cc:FM:=fnM 4 oh
noncomputable abbrev ff:Stmt:=top 35
noncomputable def kE:SM:=(aC (bW (aw aD (af (ai 0) (af (ai 1) ao)))) (aC (aT 2 (aU (bN (aw br (af (ai 0) ao)) bw) 1 [] (.nm 0) bf (aw cc (af (ai 0) (af (eC (.tup (([(-1),(1)]:List Int).map .int))) ao))))) (aV (eB mS (af (aU (eE (eOp gn (ai 2) (eC (.int 0)))) 2 [2,1] (.tp [(.nm 0),(.nm 1)]) bf (eOp cq (ai 1) (fY (eOp gn (ai 2) (eC (.int 1))) (eOp fJ (ai 3) (ai 0)) (eC (.int 0))))) ao)))))
noncomputable def cI:FM:=fnM 3 kE
noncomputable abbrev dz:Stmt:=top 34
noncomputable def iP:SM:=(aC (bW (aw aJ (af (ai 0) ao))) (aV (eB de (af (aU (bN (aw br (af (ai 0) ao)) bw) 1 [] (.nm 0) bf (eB de (af (eB vM (af (aw cc (af (ai 0) (af (eC (.tup (([(-1),(1)]:List Int).map .int))) ao))) ao)) ao))) ao))))
noncomputable def cL:FM:=fnM 1 iP
noncomputable abbrev jm:Stmt:=top 39
noncomputable def tZ:SM:=(aC (aT 2 (aw cL (af (ai 0) ao))) (aC (aT 3 (eNew ao)) (aC (aT 4 (eC (.int 0))) (aC (aT 5 (eOp fJ (eB cY (af (eOp oIx (ai 2) (eC (.int 1))) ao)) (eC (.int 1)))) (aC (sWh (PD.nz (tV (eOp oLt (ai 4) (eB cY (af (eOp oIx (ai 2) (eC (.int 0))) ao)))) (tV (eOp oGe (ai 5) (eC (.int 0))))) (aC (aT 6 (eOp ba (eOp oIx (eOp oIx (ai 2) (eC (.int 0))) (ai 4)) (eOp oIx (eOp oIx (ai 2) (eC (.int 1))) (ai 5)))) (aC (bW (ki cu (ai 3) (af (dE (af (ai 4) (af (ai 5) (af (ai 6) ao)))) ao))) (sIf (tV (eOp oLt (ai 6) (ai 1))) (aT 4 (eOp ba (ai 4) (eC (.int 1)))) (aT 5 (eOp fJ (ai 5) (eC (.int 1)))))))) (aV (ai 3)))))))
noncomputable def g9:FM:=fnM 7 tZ
noncomputable abbrev iD:Stmt:=top 40
noncomputable def qf:SM:=(aC (bW (aw aD (af (ai 0) (af (ai 1) ao)))) (aV (eB mB (af (aU (rM (aw g9 (af (ai 0) (af (ai 1) ao)))) 3 [1] (.tp [(.nm 0),(.nm 1),(.nm 2)]) (tV (eOp oGe (ai 2) (ai 3))) (ai 2)) ao))))
noncomputable def hJ:FM:=fnM 2 qf
noncomputable abbrev dO:Stmt:=top 42
noncomputable def i7:SM:=(aV (aw hJ (af (ai 0) (af (eC (.int 0)) ao))))
noncomputable def aE:FM:=fnM 1 i7
noncomputable abbrev cT:Stmt:=top 44
noncomputable def hU:SM:=(aC (aT 1 (aw aE (af (ai 0) ao))) (aC (aT 2 (aw cI (af (ai 0) (af (ai 1) ao)))) (aV (eIf (tV (eOp fB (ai 1) (eC (.int 0)))) (ai 2) (eOp ba (ai 2) (aw cI (af (ai 0) (af (eUn iW (ai 1)) ao))))))))
noncomputable def bj:FM:=fnM 3 hU
noncomputable abbrev cU:Stmt:=top 36
noncomputable def hW:SM:=(aC (aT 2 Ai) (aC (gJ (eE (ai 0)) (.tp [(.nm 3),(.nm 4)]) (gJ (bN (eC (.tup (([(-1),(1)]:List Int).map .int))) bw) (.nm 5) (aC (aT 6 (eOp ba (ai 3) (eOp cq (ai 5) (ai 1)))) (aC (aT 7 (eOp ba (ai 4) (dE (af (ai 5) ao)))) (nE jD (eB nW (af (ai 7) (af (fY (ai 2) (ai 6) (ai 7)) ao))) (ai 2) (ai 6)))))) (aV (ai 2))))
noncomputable def bY:FM:=fnM 8 hW
noncomputable abbrev fP:Stmt:=top 37
noncomputable def mL:SM:=(aC (aT 1 (nM [((eC (.int 0)),(dE ao))])) (aC (gJ (bN (ai 0) bw) (.nm 2) (aT 1 (aw bY (af (ai 1) (af (ai 2) ao))))) (aV (ai 1))))
noncomputable def d7:FM:=fnM 3 mL
noncomputable abbrev eJ:Stmt:=top 38
noncomputable def jH:SM:=(aC (bW (aw aD (af (ai 0) (af (ai 1) ao)))) (aC (aT 2 (aU (bN (aw br (af (ai 0) ao)) bw) 1 [] (.nm 0) bf (aw d7 (af (ai 0) ao)))) (aC (aT 3 (aU (eE (eOp gn (ai 2) (eC (.int 0)))) 2 [2,1] (.tp [(.nm 0),(.nm 1)]) (tV (eOp (lG false) (eOp fJ (ai 3) (ai 0)) (eOp gn (ai 2) (eC (.int 1))))) (eOp ba (ai 1) (eOp gn (eOp gn (ai 2) (eC (.int 1))) (eOp fJ (ai 3) (ai 0)))))) (aV (eB mB (af (ai 3) ao))))))
noncomputable def cO:FM:=fnM 4 jH
noncomputable abbrev fQ:Stmt:=top 43
noncomputable def mM:SM:=(aC (aT 1 (aw aE (af (ai 0) ao))) (aV (eB nW (af (aw cO (af (ai 0) (af (ai 1) ao))) (af (aw cO (af (ai 0) (af (eUn iW (ai 1)) ao))) ao)))))
noncomputable def fq:FM:=fnM 2 mM
noncomputable abbrev fg:Stmt:=top 23
noncomputable def kF:SM:=(aC (bW (aw aJ (af (ai 0) ao))) (sIf (tV (eOp oGt (eB cY (af (ai 0) ao)) (eC (.int (10))))) zN bL))
noncomputable def bV:FM:=fnM 1 kF
noncomputable abbrev bJ:Stmt:=top 24
noncomputable def d8:SM:=(aC (bW (aw aD (af (ai 0) (af (ai 1) ao)))) (bW (aw bV (af (ai 0) ao))))
noncomputable def bz:FM:=fnM 2 d8
noncomputable abbrev eK:Stmt:=top 27
noncomputable def jI:SM:=(aC (bW (aw bz (af (ai 0) (af (ai 1) ao)))) (aV (fY (aw cc (af (ai 0) (af (eC (.tup (([(-1),(1)]:List Int).map .int))) ao))) (ai 1) (eC (.int 0)))))
noncomputable def dH:FM:=fnM 2 jI
noncomputable abbrev iE:Stmt:=top 18
noncomputable def qg:SM:=(aC (bW (aw aJ (af (ai 0) ao))) (aV (eB mS (af (ai 0) ao))))
noncomputable def hZ:FM:=fnM 1 qg
noncomputable abbrev fR:Stmt:=top 28
noncomputable def mN:SM:=(aC (sIf (PD.tOr (PD.gI (tV (eB gX (af (ai 0) (af (eC (.ty "tuple")) ao))))) (PD.gI (tV (eB gW (af (aU (bN (ai 0) bw) 1 [] (.nm 0) bf (aw bp (af (ai 0) ao))) ao))))) (aV (eC (.bl false))) bL) (aV (eB gW (af (aU (kA (af (eC (.int 1)) (af (eB cY (af (ai 0) ao)) ao))) 1 [0] (.nm 0) bf (eOp oLt (eOp oIx (ai 1) (eOp fJ (ai 0) (eC (.int 1)))) (eOp oIx (ai 1) (ai 0)))) ao))))
noncomputable def ef:FM:=fnM 1 mN
noncomputable abbrev gz:Stmt:=top 29
noncomputable def oi:SM:=(aC (aT 4 (eBR Av (af (aU (bN (ai 1) bw) 1 [] (.nm 0) bf (dE (af (ai 0) (af (eC (.bl true)) ao)))) ao))) (aC (gJ (bN (ai 0) bw) (.nm 5) (gJ (bN (ai 3) bw) (.nm 6) (sIf (tV (eOp (lG true) (eOp ba (ai 5) (eOp cq (ai 6) (ai 2))) (ai 4))) (aV (eC (.bl false))) bL))) (aV (eC (.bl true)))))
noncomputable def eX:FM:=fnM 7 oi
noncomputable abbrev fh:Stmt:=top 30
noncomputable def kG:SM:=(aC (sIf (PD.tOr (PD.gI (tV (eB kB (af (ai 0) (af (eC (.ty "list")) ao))))) (tV (eOp jv (eB cY (af (ai 0) ao)) (eOp ba (eB cY (af (ai 1) ao)) (eC (.int 1)))))) (aV (eC (.bl false))) bL) (aC (sIf (PD.tOr (PD.gI (tV (eB gW (af (aU (rM (ai 0)) 1 [] (.nm 0) bf (aw ef (af (ai 0) ao))) ao)))) (tV (eOp (oIn true) (eC (.int 0)) (eOp oIx (ai 0) (eC (.int 0)))))) (aV (eC (.bl false))) bL) (aV (eB gW (af (aU (kj (af (ai 1) ao)) 2 [0,2] (.tp [(.nm 0),(.nm 1)]) bf (aw eX (af (eOp oIx (ai 2) (ai 0)) (af (eOp oIx (ai 2) (eOp ba (ai 0) (eC (.int 1)))) (af (ai 1) (af (ai 3) ao)))))) ao)))))
noncomputable def eN:FM:=fnM 3 kG
noncomputable abbrev cV:Stmt:=top 50
noncomputable def ic:SM:=(aC (bW (aw bV (af (ai 1) ao))) (aC (sIf (PD.gI (tV (aw eN (af (ai 0) (af (ai 1) (af (eC (.tup (([(-1),(1)]:List Int).map .int))) ao)))))) (aV (eC .non)) bL) (aV (eB tM (af (aU (bN (eOp oIx (ai 0) (eUn iW (eC (.int 1)))) bw) 1 [] (.nm 0) bf (eB tq (af (ai 0) ao))) ao)))))
noncomputable def cy:FM:=fnM 2 ic
noncomputable abbrev dP:Stmt:=top 31
noncomputable def i8:SM:=(aC (aT 2 (nM [((eC (.int 0)),(eC (.int 1)))])) (aC (aT 3 (eNew (af (dE (af (eC (.int 0)) ao)) ao))) (aC (gJ (bN (ai 0) bw) (.nm 4) (aC (aT 2 (aw dy (af (ai 2) (af (ai 4) (af (ai 1) ao))))) (bW (ki cu (ai 3) (af (eB de (af (eB vM (af (ai 2) ao)) ao)) ao))))) (aV (ai 3)))))
noncomputable def dm:FM:=fnM 5 i8
noncomputable abbrev cW:Stmt:=top 51
noncomputable def ie:SM:=(aC (bW (aw bV (af (ai 0) ao))) (aV (aw dm (af (ai 0) (af (eC (.tup (([(-1),(1)]:List Int).map .int))) ao)))))
noncomputable def cz:FM:=fnM 1 ie
noncomputable abbrev eO:Stmt:=top 14
noncomputable def jJ:SM:=(aC (bW (aw aJ (af (ai 1) ao))) (aV (ll (aw dk (af (ai 0) (af (eB cY (af (ai 1) ao)) ao))) (eB gW (af (aU (bN (ai 0) bw) 1 [] (.nm 0) bf (iT oLe oLe (eUn iW (eC (.int 1))) (ai 0) (eC (.int 1)))) ao)))))
noncomputable def dI:FM:=fnM 2 jJ
noncomputable abbrev dQ:Stmt:=top 17
noncomputable def i9:SM:=(sIf (PD.gI (tV (aw dI (af (ai 1) (af (ai 0) ao))))) zN bL)
noncomputable def dq:FM:=fnM 2 i9
noncomputable abbrev iF:Stmt:=top 19
noncomputable def qh:SM:=(aC (bW (aw dq (af (ai 0) (af (ai 1) ao)))) (aV (eB mS (af (aU (vD (af (ai 0) (af (ai 1) ao))) 2 [] (.tp [(.nm 0),(.nm 1)]) bf (eOp cq (ai 0) (ai 1))) ao))))
noncomputable def fW:FM:=fnM 2 qh
noncomputable abbrev dR:Stmt:=top 58
noncomputable def ja:SM:=(aC (B6 1 2 (af (aw aE (af (ai 0) ao)) (af (aw fq (af (ai 0) ao)) ao))) (aC (sIf (PD.tOr (tV (eOp (E5 true) (aw dG (af (ai 2) (af (ai 0) ao))) (eC (.bl true)))) (tV (eOp (oIn true) (aw fW (af (ai 0) (af (ai 2) ao))) (dE (af (ai 1) (af (eOp fJ (eC (.int 0)) (ai 1)) ao)))))) (aV (eC (.bl false))) bL) (aC (sIf (PD.tOr (tV (eOp jv (aw cy (af (aw cz (af (ai 0) ao)) (af (ai 0) ao))) (ai 1))) (tV (eOp jv (eOp oMod (eOp fJ (ai 1) (aw hZ (af (ai 0) ao))) (eC (.int 2))) (eC (.int 0))))) (aV (eC (.bl false))) bL) (aC (aT 3 (aw dH (af (ai 0) (af (ai 1) ao)))) (aC (sIf (tV (eOp jv (aw bj (af (ai 0) ao)) (eOp oIx (jM (af (eOp cq (eC (.int 2)) (ai 3)) (af (ai 3) ao))) (eB tu (af (eOp fB (ai 1) (eC (.int 0))) ao))))) (aV (eC (.bl false))) bL) (aC (aT 4 (eOp oIx (eOp ba (eOp oIx (aw cK (af (ai 0) ao)) (eUn iW (eC (.int 1)))) (dE (af (eC (.int 0)) ao))) (eC (.int 0)))) (aV (ll (iT oLe oLe (ai 1) (ai 4) (eB tT (af (eOp ba (dE (af (eC (.int 0)) ao)) (ai 0)) ao))) (eOp fB (aw fW (af (ai 0) (af (aw bP (af (ai 0) ao)) ao))) (ai 4))))))))))
noncomputable def du:FM:=fnM 5 ja
noncomputable abbrev fU:Stmt:=top 56
noncomputable def jc:SM:=(aC (Eo (.tp [(.nm 2),(.nm 3)]) (eB ng (af (eOp oIx (ai 0) (eC (.int 0))) (af (ai 1) ao)))) (aC (nE z6 (ai 2) (ai 0) (eC (.int 0))) (aV (ai 3))))
noncomputable def aO:FM:=fnM 4 jc
noncomputable abbrev gA:Stmt:=top 57
noncomputable def jX:SM:=(aC (aT 2 (aw aO (af (ai 0) (af (eOp ba (ai 1) (eC (.int 1))) ao)))) (aC (aT 3 (aw aO (af (ai 0) (af (eC (.int 7)) ao)))) (aC (aT 4 (eOp ba (eC (.int 1)) (aw aO (af (ai 0) (af (eC (.int 9)) ao))))) (aC (aT 5 (eNew ao)) (aC (gJ (dM (af (ai 2) ao)) (.nm 6) (aC (aT 7 (eOp ba (eC (.int 1)) (aw aO (af (ai 0) (af (eC (.int 12)) ao))))) (aC (aT 8 (jM (af (ai 7) (af (ai 7) (af (ai 4) (af (eOp vp (eC (.int 1)) (ai 6)) (af (eOp ba (ai 4) (eOp cq (ai 6) (ai 7))) (af (eOp cq (ai 7) (ai 7)) (af (eOp ba (eOp cq (eOp vo (eC (.int 10)) (eC (.int 12))) (ai 7)) (ai 7)) ao))))))))) (bW (ki cu (ai 5) (af (eOp oIx (jM (af (eOp oIx (ai 8) (ai 3)) (af (eOp cq (ai 4) (ai 7)) ao))) (eB tu (af (eOp fB (aw aO (af (ai 0) (af (eC (.int 9)) ao))) (eC (.int 8))) ao))) ao)))))) (aV (eB de (af (ai 5) ao))))))))
noncomputable def eY:FM:=fnM 9 jX
noncomputable abbrev lM:Stmt:=top 59
noncomputable def Dt:SM:=(aC (gJ (dM (af (eB rj (af (eC (.int 1)) (af (eB yB (af (eB cY (af (ai 0) ao)) (af (eC (.int 3)) ao))) ao))) ao)) (.nm 1) (aC (aT 2 (aw dY (af (ai 0) (af (ai 1) ao)))) (aC (aT 3 (aw eY (af (ai 2) (af (eC (.int 8)) ao)))) (aC (sIf (PD.gI (tV (aw du (af (ai 3) ao)))) (aV (eC (.bl false))) bL) (aC (aT 4 (aw aE (af (ai 3) ao))) (aC (aT 5 (eOp ba (eC (.int 1)) (aw aO (af (ai 2) (af (eC (.int 40)) ao))))) (aC (aT 6 (eOp ba (eC (.int 1)) (aw aO (af (ai 2) (af (eC (.int 9)) ao))))) (aC (sIf (PD.tOr (tV (eOp oGt (aw aE (af (eOp ba (ai 3) (dE (af (ai 5) ao))) ao)) (eB rj (af (ai 4) (af (ai 5) ao))))) (tV (eOp oGt (aw aE (af (eOp ba (dE (af (ai 5) ao)) (ai 3)) ao)) (eB rj (af (ai 4) (af (ai 5) ao)))))) (aV (eC (.bl false))) bL) (aC (sIf (tV (eOp jv (aw aE (af (eB de (af (aU (bN (ai 3) bw) 1 [6] (.nm 0) bf (eOp cq (ai 0) (ai 1))) ao)) ao)) (eOp cq (ai 6) (ai 4)))) (aV (eC (.bl false))) bL) (sIf (PD.tOr (tV (eOp jv (aw aE (af (yT (ai 3) (eUn iW (eC (.int 1)))) ao)) (ai 4))) (tV (eOp jv (aw bj (af (yT (ai 3) (eUn iW (eC (.int 1)))) ao)) (aw bj (af (ai 3) ao))))) (aV (eC (.bl false))) bL)))))))))) (aV (eC (.bl true))))
noncomputable def xw:FM:=fnM 7 Dt
structure Gr(b:Nat)(S S':Sto):Prop where
 bx:∃n,S'[b]?=some (.lst [.int n])
 oth:∀i,i≠b->i<S.length->S'[i]?=S[i]?
 len:S.length<=S'.length
theorem Gr.trans{b:Nat}(x:Gr b S S1)(y:Gr b S1 S2):Gr b S S2:=
 ⟨y.bx,λi h l=>(y.oth i h (Jt l x.len)).trans (x.oth i h l),Y2 x.len y.len⟩
theorem Gr.self{b:Nat}(x:Gr b S S1):Gr b S1 S1:=⟨x.bx,λ_ _ _=>rfl,J9 _⟩
theorem Gr.more{b:Nat}(x:Gr b S S1)(l:Sto):Gr b S (S1++l):=by
 obtain⟨n,hn⟩:=x.bx;have hb:b<S1.length:=(Ja.mp hn).1
 refine⟨⟨n,by rw[Jv hb];exact hn⟩,λi h hl=>?_,by rw[Jp];have:=x.len;omega⟩
 rw[Jv (Jt hl x.len)];exact x.oth i h hl
theorem CD{b:Nat}{n many:Int}(h:S[b]?=some (.lst [.int n]))(h0:0<many)(h1:many<1073741824):aO [.ref b,.int many] S=.ok (.int (n%many)) (S.set b (.lst [.int (n/many)])):=by simp[aO,fnM,jc,aC,Eo,nE,aV,eB,eOp,ai,eC,af,ao,R.bind,R.of,oIx,bu,h,atI,ixN,ng,h0,h1,G.put,G.puts,z6]
theorem iG{b:Nat}(h:Gr b S S){many:Int}(h0:0<many)(h1:many<1073741824):∃q S',aO [.ref b,.int many] S=.ok (.int q) S'/\0<=q/\q<many/\Gr b S S':=by
 obtain⟨n,hn⟩:=h.bx;have hb:b<S.length:=(Ja.mp hn).1
 refine⟨_,_,CD hn h0 h1,Int.emod_nonneg _ (by omega),Int.emod_lt_of_pos _ h0,⟨n/many,by simp[hb]⟩,λi hi _=>?_,by simp⟩
 rw[Yc (Ne.symm hi)]
theorem CF(ns:List Int)(k:Nat)(S:Sto):dj [.fz (ns.map .int),.int k] S=.ok (.int (ns.getD k 0)) S:=by
 by_cases hk:k<ns.length
 ·simp[dj,fnM,gq,aC,sIf,aV,bL,tV,eB,eOp,ai,eC,af,ao,R.bind,R.of,oIx,bu,atI,ixN,nI,cY,hk]
 ·simp[dj,fnM,gq,aC,sIf,aV,bL,tV,eB,eOp,ai,eC,af,ao,R.bind,R.of,oIx,bu,atI,ixN,nI,cY,hk]
theorem Fe(L:List Int)(k:Nat)(h:k<L.length):atI (L.map D.int) (k:Int)=some (.int L[k]):=by
 have e:ixN (L.map D.int).length (k:Int)=some k:=by unfold ixN;rw[J8 (Int.natCast_nonneg k),Jg,J8 (Int.ofNat_lt.mpr h),We]
 unfold atI;rw[e];show(L.map D.int)[k]?=_;rw[Z9,Jd h];rfl
theorem Ff(cell:Int)(j:Nat)(hj:j<1000)(S:Sto):∃m:Int,dX [.int cell,.int j] S=.ok (.int m) S:=by
 have hix:∃x:Int,cG x/\atI [D.int 48271,D.int 69621,D.int 16807,D.int 39373,D.int 30269,D.int 40014,D.int 40692,D.int 50021,D.int 61687,D.int 71993,D.int 83869,D.int 95561,D.int 30307] ((j:Int)%13)=some (.int x):=by
  have hk:j%13<13:=Nat.mod_lt _ (by decide)
  have ha:∀x∈([48271,69621,16807,39373,30269,40014,40692,50021,61687,71993,83869,95561,30307]:List Int),cG x:=by decide
  exact⟨_,ha _ (Qw hk),Fe [48271,69621,16807,39373,30269,40014,40692,50021,61687,71993,83869,95561,30307] (j%13) hk⟩
 obtain⟨x,hx,hix⟩:=hix
 have h2:∀y:Int,cG (y%1000000007):=λy=>by
  have:=Int.emod_nonneg y (show(1000000007:Int)≠0 by decide)
  have:=Int.emod_lt_of_pos y (show(0:Int)<1000000007 by decide)
  exact⟨by omega,by omega⟩
 have s1:cG 977:=by decide
 have s2:cG 7919:=by decide
 have s3:cG 48271:=by decide
 have hz:(13:Nat)<=sizeLine:=by decide
 simp[dX,fnM,jV,aC,aT,aV,jM,eOp,ai,eC,af,ao,R.bind,R.of,oIx,bu,ba,cq,oMod,jA,hix,hx,h2,s1,s2,s3,hz]
theorem t4(cell:Int):∀(l:List Nat)(S:Sto)(a b:Option D)(n:Int)(j:Option D),(∀i∈l,i<1000)->∃(n':Int)(j':Option D),
  forL (.nm 4) (aT 3 (eOp ba (eOp cq (ai 3) (eC (.int 142857143))) (aw dX (af (ai 2) (af (ai 4) ao))))) (l.map λ(i:Nat)=>D.int i) [a,b,some (.int cell),some (.int n),j] S=.ok (.nx [a,b,some (.int cell),some (.int n'),j']) S
 |[],S,a,b,n,j,_=>⟨n,j,rfl⟩
 |i::l,S,a,b,n,j,h=>by
  obtain⟨m,hm⟩:=Ff cell i (h i Y4) S
  have s1:cG 142857143:=by decide
  obtain⟨n',j',e⟩:=t4 cell l S a b (n*142857143+m) (some (.int i)) λx hx=>h x (Y3 _ hx);refine⟨n',j',?_⟩;simp only[Jl,forL,G.put];simp[aT,eOp,ai,eC,aw,af,ao,R.bind,R.of,ba,cq,hm,s1];exact e
theorem Fg(ns:List Int)(k:Nat)(S:Sto):∃v:Int,dY [.fz (ns.map .int),.int k] S=.ok (.ref S.length) (S++[.lst [.int v]]):=by
 have hz:(1:Nat)<=sizeLine:=by decide
 have hc':=CF ns k S;generalize ns.getD k 0=c at hc';by_cases hc:c%2=0
 ·refine⟨(if c<0 then -c else c)/2,?_⟩
  simp[dY,fnM,iA,aC,aT,sIf,aV,bL,tV,eNew,eB,aw,eOp,ai,eC,af,ao,R.bind,R.of,hc',oMod,fB,eqP,eqS,hc,tq,jA,hz]
 ·obtain⟨n',j',e⟩:=t4 c (List.range 40) S (some (.fz (ns.map .int))) (some (.int k)) 0 none (λi hi=>by have:=V6.mp hi;omega)
  refine⟨n',?_⟩;have hr:(40:Int).toNat=40:=rfl;simp[dY,fnM,iA,aC,aT,sIf,aV,bL,tV,eNew,eB,aw,eOp,ai,eC,af,ao,R.bind,R.of,hc',oMod,fB,eqP,eqS,hc,gJ,dM,hz];rw[e];simp[aV,hz]
def okN(x:Int):Prop:=1<=x/\x<1000000000000000
noncomputable abbrev jn:SM:=(aC (aT 7 (eOp ba (eC (.int 1)) (aw aO (af (ai 0) (af (eC (.int 12)) ao))))) (aC (aT 8 (jM (af (ai 7) (af (ai 7) (af (ai 4) (af (eOp vp (eC (.int 1)) (ai 6)) (af (eOp ba (ai 4) (eOp cq (ai 6) (ai 7))) (af (eOp cq (ai 7) (ai 7)) (af (eOp ba (eOp cq (eOp vo (eC (.int 10)) (eC (.int 12))) (ai 7)) (ai 7)) ao))))))))) (bW (ki cu (ai 5) (af (eOp oIx (jM (af (eOp oIx (ai 8) (ai 3)) (af (eOp cq (ai 4) (ai 7)) ao))) (eB tu (af (eOp fB (aw aO (af (ai 0) (af (eC (.int 9)) ao))) (eC (.int 8))) ao))) ao)))))
theorem AQ{b f:Nat}{kind base i q' G P T y:Int}{M1 M2 M3 M4:Int}{xs:List D}{r1 r2 r7 r8:Option D}(e1:aO [.ref b,.int 12] S=.ok (.int q) S1)(e2:aO [.ref b,.int 9] S1=.ok (.int q') S2)(hG:1+q=G)
  (hf1:S1[f]?=some (.lst xs)) (hf2:S2[f]?=some (.lst xs)) (zl:xs.length<sizeLine)
  (eShl:∀S:Sto,vp S (.int 1) (.int i)=some (.int P)) (ePow:∀S:Sto,vo S (.int 10) (.int 12)=some (.int T)) (eM1:∀S:Sto,cq S (.int i) (.int G)=some (.int M1)) (eM2:∀S:Sto,cq S (.int G) (.int G)=some (.int M2)) (eM3:∀S:Sto,cq S (.int base) (.int G)=some (.int M3)) (eM4:∀S:Sto,cq S (.int T) (.int G)=some (.int M4))
  (hix:atI [D.int G,D.int G,D.int base,D.int P,D.int (base+M1),D.int M2,D.int (M4+G)] kind=some (.int y)):
  jn [some (.ref b),r1,r2,some (.int kind),some (.int base),some (.ref f),some (.int i),r7,r8] S=.ok (.nx [some (.ref b),r1,r2,some (.int kind),some (.int base),some (.ref f),some (.int i),some (.int G),some (.lst [D.int G,D.int G,D.int base,D.int P,D.int (base+M1),D.int M2,D.int (M4+G)])]) (S2.set f (.lst (xs++[.int (if q'=8 then M3 else y)]))):=by
 have z7:(7:Nat)<=sizeLine:=by decide
 have z2:(2:Nat)<=sizeLine:=by decide
 have hA0:∀a b:D,atI [a,b] 0=some a:=λ_ _=>rfl;have hA1:∀a b:D,atI [a,b] 1=some b:=λ_ _=>rfl;by_cases h8:q'=8
 ·simp only[jn,aC,aT,bW,ki,jM,eB,aw,eOp,ai,eC,af,ao,R.bind,R.of,e1,hG,eShl,ePow,eM1,eM2,eM3,eM4,ba,isL,hf1,oIx,bu,hix,e2,fB,eqP,eqS,h8,tu,hA0,hA1,cu,hf2,zl,Jm,Yi,Zu,Zh,Yo,Zf,Yd,Nat.reduceAdd,Qg,Zm,z7,z2]
 ·simp only[jn,aC,aT,bW,ki,jM,eB,aw,eOp,ai,eC,af,ao,R.bind,R.of,e1,hG,eShl,ePow,eM1,eM2,eM3,eM4,ba,isL,hf1,oIx,bu,hix,e2,fB,eqP,eqS,h8,tu,hA0,hA1,cu,hf2,zl,Jm,Yi,Zu,Zh,Yo,Zf,Yd,Nat.reduceAdd,Qg,Q9,Yj,Jw,Zm,z7,z2]
theorem AR{b f:Nat}{kind base:Int}{r1 r2 r7 r8:Option D}(hi:i<16)(hk:0<=kind/\kind<7)(hb:1<=base/\base<10)(g:Gr b S0 S)(hf:S[f]?=some (.lst (xs.map .int)))(hfb:f≠b)(hf0:S0.length<=f)(hl:xs.length<1000):
  ∃(y:Int)(S':Sto)(r7' r8':Option D),jn [some (.ref b),r1,r2,some (.int kind),some (.int base),some (.ref f),some (.int i),r7,r8] S=.ok (.nx [some (.ref b),r1,r2,some (.int kind),some (.int base),some (.ref f),some (.int i),r7',r8']) S'/\
   okN y/\S'[f]?=some (.lst ((xs++[y]).map .int))/\Gr b S0 S':=by
 obtain⟨q,S1,e1,q0,q1,g1⟩:=iG g.self (many:=12) (by decide) (by decide)
 obtain⟨q',S2,e2,q0',q1',g2⟩:=iG g1.self (many:=9) (by decide) (by decide)
 have hfl:f<S.length:=(Ja.mp hf).1
 have hf1:S1[f]?=some (.lst (xs.map .int)):=by rw[g1.oth f hfb hfl];exact hf
 have hf2:S2[f]?=some (.lst (xs.map .int)):=by rw[g2.oth f hfb (Jt hfl g1.len)];exact hf1
 have hfl2:f<S2.length:=(Ja.mp hf2).1;generalize hG:(1:Int)+q=G
 have hG0:1<=G/\G<=12:=by omega
 have sG:cG G:=⟨by omega,by omega⟩
 have sB:cG base:=⟨by omega,by omega⟩
 have sI:cG (i:Int):=⟨by omega,by omega⟩
 have m1:(i:Int)*G<=15*12:=Wm (by omega) hG0.2 (by omega) (by omega)
 have m1':0<=(i:Int)*G:=Int.mul_nonneg (by omega) (by omega)
 have m2:G*G<=12*12:=Wm hG0.2 hG0.2 (by omega) (by omega)
 have m2':1*1<=G*G:=Wm hG0.1 hG0.1 (by omega) (by omega)
 have m3:base*G<=9*12:=Wm (by omega) hG0.2 (by omega) (by omega)
 have m3':1*1<=base*G:=Wm hb.1 hG0.1 (by omega) (by omega)
 have m4:(2:Int)^i<=32768:=by
  have h:=Zt (n:=2) (by decide) (show i<=15 by omega)
  have h':((2^i:Nat):Int)<=((2^15:Nat):Int):=by exact_mod_cast h
  simpa using h'
 have m4':1<=(2:Int)^i:=by
  have h:=Nat.one_le_two_pow (n:=i)
  have h':(1:Int)<=((2^i:Nat):Int):=by exact_mod_cast h
  simpa using h'
 have hix:∃y:Int,okN y/\atI [D.int G,D.int G,D.int base,D.int (2^i),D.int (base+(i:Int)*G),D.int (G*G),D.int (1000000000000*G+G)] kind=some (.int y):=by
  have h:kind=0\/kind=1\/kind=2\/kind=3\/kind=4\/kind=5\/kind=6:=by omega
  rcases h with h|h|h|h|h|h|h<;>subst h
  ·exact⟨_,⟨by omega,by omega⟩,rfl⟩
  ·exact⟨_,⟨by omega,by omega⟩,rfl⟩
  ·exact⟨_,⟨by omega,by omega⟩,rfl⟩
  ·exact⟨_,⟨m4',by omega⟩,rfl⟩
  ·exact⟨_,⟨by omega,by omega⟩,rfl⟩
  ·exact⟨_,⟨by omega,by omega⟩,rfl⟩
  ·exact⟨_,⟨by omega,by omega⟩,rfl⟩
 obtain⟨y,hy,hix⟩:=hix
 have hev:=AQ (r1:=r1) (r2:=r2) (r7:=r7) (r8:=r8) (base:=base) (i:=(i:Int)) e1 e2 hG hf1 hf2 (by rw[Jg];exact Vs hl (by decide)) (λS=>EF (by omega)) (λS=>vx) (λS=>fA (.inl sI)) (λS=>fA (.inl sG)) (λS=>fA (.inl sB)) (λS=>fA (.inr sG)) hix
 have hy':okN (if q'=8 then base*G else y):=by
  split
  ·exact⟨by omega,by omega⟩
  ·exact hy
 have g02:=(g.trans g1).trans g2;obtain⟨n,hn⟩:=g02.bx
 refine⟨_,_,_,_,hev,hy',by rw[Qk];simp[hfl2],⟨n,by rw[Yc hfb];exact hn⟩,λj hj hl=>?_,by simp;exact g02.len⟩
 rw[Yc (by omega)]
 exact g02.oth j hj hl
theorem t5{b f:Nat}{kind base:Int}{r1 r2:Option D}(hk:0<=kind/\kind<7)(hb:1<=base/\base<10)(hfb:f≠b)(hf0:S0.length<=f):∀(l:List Nat)(S:Sto)(xs:List Int)(r6 r7 r8:Option D),(∀i∈l,i<16)->Gr b S0 S->S[f]?=some (.lst (xs.map .int))->xs.length+l.length<1000->(∀x∈xs,okN x)->
  ∃(ys:List Int)(S':Sto)(r6' r7' r8':Option D),forL (.nm 6) jn (l.map λ(i:Nat)=>D.int i) [some (.ref b),r1,r2,some (.int kind),some (.int base),some (.ref f),r6,r7,r8] S=.ok (.nx [some (.ref b),r1,r2,some (.int kind),some (.int base),some (.ref f),r6',r7',r8']) S'/\
   ys.length=xs.length+l.length/\(∀y∈ys,okN y)/\S'[f]?=some (.lst (ys.map .int))/\Gr b S0 S'
 |[],S,xs,r6,r7,r8,_,g,hf,_,hx=>⟨xs,S,r6,r7,r8,rfl,rfl,hx,hf,g⟩
 |i::l,S,xs,r6,r7,r8,hl,g,hf,hz,hx=>by
  rw[Jm]at hz
  obtain⟨y,S1,r7',r8',e,hy,hf1,g1⟩:=AR (r1:=r1) (r2:=r2) (r7:=r7) (r8:=r8) (hl i Y4) hk hb g hf hfb hf0 (by omega)
  obtain⟨ys,S2,a6,a7,a8,e2,h1,h2,h3,h4⟩:=t5 hk hb hfb hf0 l S1 (xs++[y]) (some (.int i)) r7' r8' (λj hj=>hl j (Y3 _ hj)) g1 hf1 (by rw[Jp,Jm,Yi];omega) (λx h=>by
   rcases Jr.mp h with h|h
   ·exact hx x h
   ·rw[Ju.mp h];exact hy)
  refine⟨ys,S2,a6,a7,a8,?_,by rw[h1,Jp,Jm,Yi,Jm];omega,h2,h3,h4⟩
  rw[Jl,forL];simp only[G.put,Yo,Zf,e,R.bind_ok];exact e2
theorem Fh{b:Nat}{most:Int}(g:Gr b S S)(hm:0<=most/\most<=16):∃(xs:List Int)(S':Sto),eY [.ref b,.int most] S=.ok (.tup (xs.map .int)) S'/\(xs.length:Int)<=most/\(∀x∈xs,okN x)/\Gr b S S':=by
 obtain⟨many,S1,e1,a0,a1,g1⟩:=iG g (many:=most+1) (by omega) (by omega)
 obtain⟨kind,S2,e2,b0,b1,g2⟩:=iG g1.self (many:=7) (by decide) (by decide)
 obtain⟨bs,S3,e3,c0,c1,g3⟩:=iG g2.self (many:=9) (by decide) (by decide)
 have gs:=(g1.trans g2).trans g3;obtain⟨n0,hn0⟩:=gs.bx;have hb3:b<S3.length:=(Ja.mp hn0).1
 obtain⟨ys,S4,r6,r7,r8,e4,h1,h2,h3,h4⟩:=t5 (S0:=S) (b:=b) (f:=S3.length) (kind:=kind) (base:=1+bs) (r1:=some (.int most)) (r2:=some (.int many)) ⟨b0,b1⟩ ⟨by omega,by omega⟩ (by omega) gs.len (List.range many.toNat) (S3++[.lst []]) [] none none none (λi hi=>by have:=V6.mp hi;omega) (gs.more _) (by simp) (by simp;omega) (λx h=>nomatch h)
 refine⟨ys,S4,?_,by rw[h1];simp;omega,h2,h4⟩
 have z0:(0:Nat)<=sizeLine:=Y0 _
 have hr:many<2^62/\-(2^62)<=many:=⟨by omega,by omega⟩
 simp only[eY,fnM,jX,aC,aT,gJ,dM,eNew,aw,eOp,ai,eC,af,ao,R.bind,R.of,ba,e1,e2,e3,Jl,V4,Jm,Yi,Vi,Q0,Nat.reduceAdd,Nat.reduceSub,List.replicate,Zu,Zh,Yo,Zf,z0,Yd,hr,and_self]
 rw[show(aC (aT 7 (eOp ba (eC (.int 1)) (aw aO (af (ai 0) (af (eC (.int 12)) ao))))) _)=jn from rfl,e4]
 simp only[aV,eB,af,ao,ai,R.bind,R.of,Zu,Zh,de,bu,h3,Zm]
noncomputable def CG:D->Bool
 |.fz _=>false
 |.ref _=>false
 |.ty _=>false
 |.exc _=>false
 |.cls _=>false
 |_=>true
noncomputable def isI:D->Bool
 |.int _=>true
 |_=>false
theorem t6{d:D}(h:CG d=true):bp [d] S=.ok (.bl (isI d)) S:=by cases d<;>first|(cases h;done)|(simp[bp,fnM,jW,aV,ll,En,eB,ai,eC,af,ao,R.bind,R.of,gX,tyD,fw,isI])
noncomputable def xx:D->Bool
 |.int i=>decide (1<=i)
 |_=>false
theorem gB{A:Type}(f:A->Bool):∀xs:List A,boolsOf (xs.map λx=>D.bl (f x))=some (xs.map f)
 |[]=>rfl
 |x::xs=>by rw[Jl,boolsOf,gB f xs];rfl
theorem qi{f:D->Bool}:∀(xs:List D)(r0:Option D)(S:Sto),(∀x∈xs,e (some x::tl) S=.ok (.bl (f x)) S)->cS (.nm 0) bf e xs (r0::tl) S=.ok (xs.map λx=>D.bl (f x)) S
 |[],_,_,_=>rfl
 |x::xs,r0,S,h=>by have h1:=h x Y4;have h2:=qi xs (some x) S λy hy=>h y (Y3 _ hy);rw[cS];simp only[G.put,Yo,bf,R.bind_ok,Yd,h1,h2,Jl]
noncomputable def qj:D->Bool
 |.tup xs=>decide (xs.length<=16)&&xs.all xx
 |_=>false
def Fi(d:D):Prop:=CG d=true/\∀xs,d=.tup xs->(∀x∈xs,CG x=true)/\xs.length<=1000
theorem Fj{x:D}(h:CG x=true):(ll (aw bp (af (ai 0) ao)) (eOp oGe (ai 0) (eC (.int 1)))) [some x] S=.ok (.bl (xx x)) S:=by
 have:=t6 (S:=S) h
 cases x<;>first|(cases h;done)|(simp[ll,aw,eOp,ai,eC,af,ao,R.bind,R.of,this,isI,xx,nI])
theorem AU{d:D}(h:Fi d):fm [d] S=.ok (.bl (qj d)) S:=by
 cases d with
 |tup xs=>
  obtain⟨hs,hl⟩:=h.2 xs rfl;have hc:=qi (tl:=[]) (f:=xx) xs none S λx hx=>Fj (hs x hx)
  have z:xs.length<=sizeLine:=Y2 hl (by decide)
  by_cases h16:xs.length<=16
  ·have h16':¬(16:Int)<(xs.length:Int):=by omega
   simp only[fm,fnM,i5,aC,sIf,aV,bL,PD.tOr,PD.gI,tV,eB,aU,bN,bw,dZ,eOp,ai,eC,af,ao,R.bind,R.of,gX,tyD,cY,bu,nI,gW,Jl,V4,Jm,Yi,List.replicate,Vi,Q0,Yr,Nat.reduceAdd,Nat.reduceSub,Zu,h16',Q9,Jw,Yj,z,Yd,hc,gB,Zm,qj,h16,Qg,Bool.true_and];simp[fw];simp[z,hc,gB,gW,R.of,R.bind,aV,eB,af]
  ·have h16':(16:Int)<(xs.length:Int):=by omega
   simp[fm,fnM,i5,aC,sIf,aV,bL,PD.tOr,PD.gI,tV,eB,eOp,ai,eC,af,ao,R.bind,R.of,gX,tyD,cY,bu,nI,fw,qj,h16,h16']
 |_=>first|(cases h.1;done)|(simp[fm,fnM,i5,aC,sIf,aV,bL,PD.tOr,PD.gI,tV,eB,eOp,ai,eC,af,ao,R.bind,R.of,gX,tyD,fw,qj])
theorem AV{i:Int}:jv S (.int i) (.int j)=some (.bl (!decide (i=j))):=rfl
theorem lN{i:Int}:fB S (.int i) (.int j)=some (.bl (decide (i=j))):=rfl
theorem ay{a:SM}(h:a r S=.ok (.nx r1) S1):aC a b r S=b r1 S1:=by unfold aC;rw[h];rfl
def Row(xs:List Int):Prop:=(∀x∈xs,1<=x)/\xs.length<=16
theorem yW(h:xs.length<=1000):Fi (.tup (xs.map .int)):=⟨rfl,λys e=>by
 cases e
 refine⟨λx hx=>?_,by rw[Jg];exact h⟩
 obtain⟨i,_,rfl⟩:=Y1.mp hx
 rfl⟩
theorem Row.okay(h:Row xs):Fi (.tup (xs.map .int)):=yW (by have:=h.2;omega)
theorem Row.is(h:Row xs):qj (.tup (xs.map .int))=true:=by
 unfold qj;rw[Yt]
 refine⟨by rw[Jg];exact Jx h.2,Yx.mpr λx hx=>?_⟩
 obtain⟨i,hi,rfl⟩:=Y1.mp hx;exact Jx (h.1 i hi)
theorem nr{g:PD.G}{xs:List D}(h:it r S=.ok xs S1):gJ it g b r S=forL g b xs r S1:=by unfold gJ;rw[h,R.bind_ok]
theorem bc{ds:List D}{d:D}(hρ:ds.map some++List.replicate (n-ds.length) none = ρ)(h:b ρ S=.ok (.rt d) S1):fnM n b ds S=.ok d S1:=by unfold fnM;rw[hρ,h,R.bind_ok]
theorem rO{ds:List D}{ρ':Rho}(hρ:ds.map some++List.replicate (n-ds.length) none = ρ)(h:b ρ S=.ok (.nx ρ') S1):fnM n b ds S=.ok .non S1:=by unfold fnM;rw[hρ,h,R.bind_ok]
theorem CH{a:SM}{d:D}(h:a r S=.ok (.rt d) S1):aC a b r S=.ok (.rt d) S1:=by unfold aC;rw[h,R.bind_ok]
theorem aK{d:D}(h:a r S=.ok d S1):aT i a r S=.ok (.nx (r.set i (some d))) S1:=by unfold aT;rw[h,R.bind_ok]
theorem aR{d:D}(h:a r S=.ok d S1):aV a r S=.ok (.rt d) S1:=by unfold aV;rw[h,R.bind_ok]
theorem Du{a:SM}(h:t r S=.ok true S1):sIf t a b r S=a r S1:=by unfold sIf;rw[h,R.bind_ok];exact J8 rfl
theorem fH{a:SM}(h:t r S=.ok false S1):sIf t a b r S=b r S1:=by unfold sIf;rw[h,R.bind_ok];exact Jb Jk
theorem bo{d:D}(h:a r S=.ok d S1):bW a r S=.ok (.nx r) S1:=by unfold bW;rw[h,R.bind_ok]
theorem cP{g:PD.G}{x:D}{xs:List D}{r2:Rho}(hp:g.put x r=some r1)(h:b r1 S=.ok (.nx r2) S1):forL g b (x::xs) r S=forL g b xs r2 S1:=by rw[forL];simp only[hp,h,R.bind_ok]
theorem ar{f:FM}{t:AM}{xs:List D}(h:t r S=.ok xs S1):aw f t r S=f xs S1:=by unfold aw;rw[h,R.bind_ok]
theorem gc{g:PD.G}{d:D}{xs:List D}(h:a r S=.ok d S1)(hi:bw S1 d=some xs):gJ (bN a bw) g b r S=forL g b xs r S1:=nr (by unfold bN;rw[h,R.bind_ok,hi];rfl)
theorem ax{f:Sto->D->D->Option D}{b:EM}{x y z:D}(h1:a r S=.ok x S1)(h2:b r S1=.ok y S2)(h3:f S2 x y=some z):eOp f a b r S=.ok z S2:=by unfold eOp;rw[h1,R.bind_ok,h2,R.bind_ok,h3];rfl
theorem aW{f:Sto->List D->Option D}{t:AM}{xs:List D}{z:D}(h1:t r S=.ok xs S1)(h3:f S1 xs=some z):eB f t r S=.ok z S1:=by unfold eB;rw[h1,R.bind_ok,h3];rfl
theorem ah{t:AM}{x:D}{xs:List D}(h1:a r S=.ok x S1)(h2:t r S1=.ok xs S2):af a t r S=.ok (x::xs) S2:=by unfold af;rw[h1,R.bind_ok,h2,R.bind_ok]
theorem bX{b:Bool}(h:a r S=.ok (.bl b) S1):tV a r S=.ok b S1:=by unfold tV;rw[h,R.bind_ok]
theorem iH{a:TM}{b:Bool}(h:a r S=.ok b S1):PD.gI a r S=.ok (!b) S1:=by unfold PD.gI;rw[h,R.bind_ok]
theorem rP{f:Sto->D->List D->R D}{t:AM}{x:D}{ys:List D}(h1:o r S=.ok x S1)(hl:isL S1 x=true)(h2:t r S1=.ok ys S2):ki f o t r S=f S2 x ys:=by unfold ki;rw[h1,R.bind_ok,J8 hl,h2,R.bind_ok]
theorem Dv{b:EM}(h:t r S=.ok true S1):eIf t a b r S=a r S1:=by unfold eIf;rw[h,R.bind_ok];exact J8 rfl
theorem Dw{b:EM}(h:t r S=.ok false S1):eIf t a b r S=b r S1:=by unfold eIf;rw[h,R.bind_ok];exact Jb Jk
theorem AW{n:Int}(h0:0<=n)(h:n<=100000):n<2^62/\-(2^62)<=n:=⟨by omega,by omega⟩
theorem t7{t:AM}{m:Int}(h:t r S=.ok [.int m] S1)(h0:0<=m)(h1:m<=100000):dM t r S=.ok ((List.range m.toNat).map λ(i:Nat)=>D.int i) S1:=by have hr:=AW h0 h1;simp only[dM,h,R.bind,J8 hr]
theorem oj{t:AM}(h:t r S=.ok [.int (n:Int)] S1)(hn:n<=100000):dM t r S=.ok ((List.range n).map λ(i:Nat)=>D.int i) S1:=
 t7 h (Int.natCast_nonneg n) (Int.ofNat_le.mpr hn)
theorem iI:∀xs:List Int,intsOf (xs.map .int)=some xs
 |[]=>rfl
 |x::xs=>by rw[Jl,intsOf,iI xs];rfl
theorem Fl:mS S [.tup (xs.map .int)]=some (.int xs.sum):=by simp only[mS,bu,iI,Zm]
theorem Fm:mS S [.lst (xs.map .int)]=some (.int xs.sum):=by simp only[mS,bu,iI,Zm]
theorem comp_map{A:Type}{enc out:A->D}:∀(xs:List A)(r0:Option D),(∀x∈xs,e (some (enc x)::tl) S=.ok (out x) S)->cS (.nm 0) bf e (xs.map enc) (r0::tl) S=.ok (xs.map out) S
 |[],_,_=>rfl
 |x::xs,r0,h=>by have h1:=h x Y4;have h2:=comp_map (out:=out) xs (some (enc x)) λy hy=>h y (Y3 _ hy);rw[Jl,cS];simp only[G.put,Yo,bf,R.bind_ok,Yd,h1,h2,Jl]
theorem dC{A:Type}{enc out:A->D}(xs:List A)(hi:it r S=.ok (xs.map enc) S)(hl:xs.length<=sizeLine)(hc:caps.map (λi=>(r[i]?).join)=tl)(h:∀x∈xs,e (some (enc x)::tl) S=.ok (out x) S):aU it 1 caps (.nm 0) bf e r S=.ok (.lst (xs.map out)) S:=by
 unfold aU
 rw[hi,R.bind_ok,J8 (by rw[Jg];exact hl)]
 have:dZ 1 caps r=none::tl:=by unfold dZ;rw[hc];rfl
 rw[this,comp_map (out:=out) xs none h,R.bind_ok]
theorem om{A:Type}{x1 x2:A->D}{out:A->D}:∀(xs:List A)(r0 r1:Option D),(∀x∈xs,e (some (x1 x)::some (x2 x)::tl) S=.ok (out x) S)->cS (.tp [.nm 0,.nm 1]) bf e (xs.map λx=>.tup [x1 x,x2 x]) (r0::r1::tl) S=.ok (xs.map out) S
 |[],_,_,_=>rfl
 |x::xs,r0,r1,h=>by have h1:=h x Y4;have h2:=om (out:=out) xs (some (x1 x)) (some (x2 x)) λy hy=>h y (Y3 _ hy);rw[Jl,cS];simp only[G.put,G.puts,Yo,Zf,bf,R.bind_ok,Yd,h1,h2,Jl]
theorem jo{A:Type}{x1 x2:A->D}{out:A->D}(xs:List A)(hi:it r S=.ok (xs.map λx=>.tup [x1 x,x2 x]) S)(hl:xs.length<=sizeLine)(hc:caps.map (λi=>(r[i]?).join)=tl)(h:∀x∈xs,e (some (x1 x)::some (x2 x)::tl) S=.ok (out x) S):aU it 2 caps (.tp [.nm 0,.nm 1]) bf e r S=.ok (.lst (xs.map out)) S:=by
 unfold aU
 rw[hi,R.bind_ok,J8 (by rw[Jg];exact hl)]
 have:dZ 2 caps r=none::none::tl:=by unfold dZ;rw[hc];rfl
 rw[this,om (out:=out) xs none none h,R.bind_ok]
theorem jY{d:D}{xs:List D}(h:r[i]?=some (some d))(hx:bw S d=some xs):bN (ai i) bw r S=.ok xs S:=by unfold bN ai;rw[h];show R.bind (.ok d S) _=_;rw[R.bind_ok,hx];rfl
theorem ag{d:D}(h:r[i]?=some (some d)):ai i r S=.ok d S:=by unfold ai;rw[h]
theorem cX{t:AM}{xs:List D}(h:t r S=.ok xs S1)(hl:xs.length<=sizeLine):dE t r S=.ok (.tup xs) S1:=by unfold dE;rw[h,R.bind_ok,J8 hl]
theorem xy{t:AM}{xs:List D}(h:t r S=.ok xs S1)(hl:xs.length<=sizeLine):jM t r S=.ok (.lst xs) S1:=by unfold jM;rw[h,R.bind_ok,J8 hl]
theorem oo{b:EM}(h:a r S=.ok (.bl true) S1):ll a b r S=b r S1:=by unfold ll;rw[h,R.bind_ok]
theorem oq{a b:TM}(h:a r S=.ok false S1):PD.tOr a b r S=b r S1:=by unfold PD.tOr;rw[h,R.bind_ok];exact Jb Jk
theorem gf{A:Type}{f:A->Bool}{xs:List A}:gW S [.lst (xs.map λx=>D.bl (f x))]=some (.bl (xs.all f)):=by show Option.map (λbs=>D.bl (bs.all id)) (boolsOf (xs.map λx=>D.bl (f x)))=_;rw[gB,Zm,List.all_map];rfl
theorem t8{A:Type}(f:A->Int):∀xs:List A,intsOf (xs.map λx=>D.int (f x))=some (xs.map f)
 |[]=>rfl
 |x::xs=>by rw[Jl,intsOf,t8 f xs];rfl
theorem Fn{A:Type}{f:A->Int}{xs:List A}:mS S [.lst (xs.map λx=>D.int (f x))]=some (.int (xs.map f).sum):=by simp only[mS,bu,t8,Zm]
noncomputable def Wo(K:List Int):List Int->Int->Prop
 |[],v=>v=0
 |x::xs,v=>∃q∈K,Wo K xs (v-x*q)
theorem rQ{a b:List Int}(p:a.Perm b):∀v,Wo K a v↔Wo K b v:=by
 induction p with
 |nil=>intro v;exact Iff.rfl
 |cons x _ ih=>
  intro v;constructor
  ·rintro⟨q,hq,h⟩;exact⟨q,hq,(ih _).mp h⟩
  ·rintro⟨q,hq,h⟩;exact⟨q,hq,(ih _).mpr h⟩
 |swap x y l=>
  intro v;constructor
  ·rintro⟨q,hq,q',hq',h⟩;exact⟨q',hq',q,hq,by rw[show v-x*q'-y*q=v-y*q-x*q' by omega];exact h⟩
  ·rintro⟨q,hq,q',hq',h⟩;exact⟨q',hq',q,hq,by rw[show v-y*q'-x*q=v-x*q-y*q' by omega];exact h⟩
 |trans _ _ h1 h2=>intro v;exact(h1 v).trans (h2 v)
def Kd(K:List Int):Prop:=∀q∈K,q = -1\/q=0\/q=1
noncomputable abbrev KS:List Int:=[-1,1]
theorem kdS:Kd KS:=λq hq=>by simp only[KS,Jj,Y6,Zb]at hq;omega
noncomputable def wor:List Int->List Int->Int
 |x::xs,q::p=>x*q+wor xs p
 |_,_=>0
noncomputable def ext(K:List Int)(f:List (List Int)):List (List Int):=f.flatMap λp=>K.map λk=>p++[k]
noncomputable def mU(K:List Int):Nat->List (List Int)
 |0=>[[]]
 |n+1=>ext K (mU K n)
theorem cA:∀(n:Nat)(p:List Int),p∈mU K n↔p.length=n/\∀q∈p,q∈K
 |0,p=>by
  simp only[mU,Ju];constructor
  ·rintro rfl;exact⟨rfl,λq h=>nomatch h⟩
  ·rintro⟨h,_⟩;exact Zg.mp h
 |n+1,p=>by
  simp only[mU,ext,Ur,Y1];constructor
  ·rintro⟨p',h',k,hk,rfl⟩;obtain⟨h1,h2⟩:=(cA n p').mp h'
   refine⟨by simp[h1],λq hq=>?_⟩
   rcases Jr.mp hq with hq|hq
   ·exact h2 q hq
   ·rw[Ju.mp hq];exact hk
  ·rintro⟨h1,h2⟩
   have hne:p≠[]:=λh=>by rw[h]at h1;cases h1
   refine⟨p.dropLast,(cA n _).mpr ⟨by rw[List.length_dropLast,h1];rfl,λq hq=>h2 q ((List.dropLast_sublist p).subset hq)⟩,p.getLast hne,h2 _ (List.getLast_mem hne),List.dropLast_concat_getLast hne⟩
theorem rR:∀(xs:List Int)(v:Int),Wo K xs v↔∃p,(p.length=xs.length/\∀q∈p,q∈K)/\wor xs p=v
 |[],v=>by
  constructor
  ·intro h;exact⟨[],⟨rfl,λq h=>nomatch h⟩,(show v=0 from h).symm⟩
  ·rintro⟨p,⟨h,_⟩,e⟩;cases Zg.mp h;exact e.symm
 |x::xs,v=>by
  constructor
  ·rintro⟨q,hq,h⟩;obtain⟨p,⟨h1,h2⟩,e⟩:=(rR xs _).mp h
   refine⟨q::p,⟨by simp[h1],λr hr=>?_⟩,by show x*q+wor xs p=v;omega⟩
   rcases Jj.mp hr with rfl|hr
   ·exact hq
   ·exact h2 r hr
  ·rintro⟨p,⟨h1,h2⟩,e⟩;cases p with
   |nil=>cases h1
   |cons q p=>
    refine⟨q,h2 q (.head _),(rR xs _).mpr ⟨p,⟨by simpa using h1,λr hr=>h2 r (.tail _ hr)⟩,?_⟩⟩
    have e':x*q+wor xs p=v:=e;omega
theorem AX:Wo K xs v↔∃p∈mU K xs.length,wor xs p=v:=by
 rw[rR];constructor
 ·rintro⟨p,h,e⟩;exact⟨p,(cA _ _).mpr h,e⟩
 ·rintro⟨p,h,e⟩;exact⟨p,(cA _ _).mp h,e⟩
theorem xA(K:List Int):∀f:List (List Int),(ext K f).length=f.length*K.length
 |[]=>by simp[ext]
 |p::f=>by have:=xA K f;simp only[ext,Zx,Jp,Jg,Jm]at this ⊢;rw[this,Vq];omega
theorem t9(K:List Int):∀n,(mU K n).length=K.length^n
 |0=>rfl
 |n+1=>by rw[mU,xA,t9 K n,Nat.pow_succ]
noncomputable abbrev tupI(xs:List Int):D:=.tup (xs.map .int)
theorem Fo{a b:List D}(h:a.length+b.length<=sizeLine):ba S (.lst a) (.lst b)=some (.lst (a++b)):=J8 h
theorem lO{a b:List D}(h:a.length+b.length<=sizeLine):ba S (.tup a) (.tup b)=some (.tup (a++b)):=J8 h
theorem yX(kvs:List (KD×D))(k:KD):(fL kvs k).isSome=kvs.any λkv=>decide (kv.1=k):=by unfold fL;rw[V9,Q8,List.find?_isSome,Wu]
theorem kH{b:EM}{d y z:D}{kvs kvs':List (KD×D)}{k:KD}(ho:o r S=.ok d S1)(hd:dh S1 d=some kvs)(ha:a r S1=.ok y S2)(hb:b r S2=.ok z S3)(hd3:dh S3 d=some kvs')(hk:ju y=some k):fY o a b r S=.ok ((fL kvs' k).getD z) S3:=by unfold fY;rw[ho,R.bind_ok];simp only[hd,Option.isSome_some,Yd,ha,R.bind_ok,hb,hd3,hk]
theorem xB{f:Sto->D->D->D->Option Sto}{i:EM}{S4:Sto}{v x y:D}(he:e r S=.ok v S1)(ho:o r S1=.ok x S2)(hi:i r S2=.ok y S3)(hf:f S3 x y v=some S4):nE f e o i r S=.ok (.nx r) S4:=by unfold nE;rw[he,R.bind_ok,ho,R.bind_ok,hi,R.bind_ok,hf]
noncomputable def fS(K:List Int)(x:Int)(f:List Int):List Int:=f.flatMap λw=>K.map λq=>w+q*x
noncomputable def pT(T:List (Int×Int))(k c:Int):List (Int×Int):=if T.any (λe=>decide (e.1=k)) then T.map (λe=>if e.1=k then (e.1,c) else e) else T++[(k,c)]
noncomputable def gT(T:List (Int×Int))(k:Int):Int:=((T.find? λe=>decide (e.1=k)).map (·.2)).getD 0
noncomputable def sumH(h:Int->Int)(T:List (Int×Int)):Int:=(T.map λe=>h e.1*e.2).sum
def Keys(T:List (Int×Int)):Prop:=T.Pairwise λa b=>a.1≠b.1
theorem dD(h:Int->Int)(e:Int×Int)(T:List (Int×Int)):sumH h (e::T)=h e.1*e.2+sumH h T:=by simp[sumH]
theorem kI(h:Int->Int):∀(A B:List (Int×Int)),sumH h (A++B)=sumH h A+sumH h B
 |[],B=>by simp[sumH]
 |e::A,B=>by rw[Vi,dD,dD,kI h A B];omega
theorem AY{k:Int}(h:T.any (λe=>decide (e.1=k))=false):gT T k=0:=by
 unfold gT
 have:(T.find? λe=>decide (e.1=k))=none:=by rw[List.find?_eq_none];intro e he hd;rw[Qn]at h;exact h e he hd
 rw[this];rfl
theorem AZ{k c:Int}(h:∀e∈T,e.1≠k):T.map (λe=>if e.1=k then (e.1,c) else e)=T:=by
 induction T with
 |nil=>rfl
 |cons e T ih=>
  rw[Jl,Jb (h e (.head _)),ih λe he=>h e (.tail _ he)]
theorem rS(e:Int×Int)(T:List (Int×Int))(k:Int):gT (e::T) k=if e.1=k then e.2 else gT T k:=by
 unfold gT;rw[Zd];by_cases h:e.1=k
 ·simp[h]
 ·simp[h]
theorem uc(h:Int->Int){k c:Int}:∀{T:List (Int×Int)},Keys T->T.any (λe=>decide (e.1=k))=true->sumH h (T.map λe=>if e.1=k then (e.1,c) else e)=sumH h T+h k*(c-gT T k)
 |[],_,ha=>by simp at ha
 |e::T,hk,ha=>by
  have hk':=Ze.mp hk;rw[Jl,dD,dD,rS];by_cases he:e.1=k
  ·rw[J8 he,J8 he,AZ λe' he' h=>hk'.1 e' he' (by rw[he,h])]
   simp only;rw[he,Int.mul_sub];omega
  ·have ha':T.any (λe=>decide (e.1=k))=true:=by simp only[Q4,he,Q9,Bool.false_or]at ha;exact ha
   rw[Jb he,Jb he,uc h hk'.2 ha'];omega
theorem CI(h:Int->Int)(hk:Keys T)(k c:Int):sumH h (pT T k (gT T k+c))=sumH h T+h k*c:=by
 unfold pT;cases ha:T.any (λe=>decide (e.1=k)) with
 |true=>
  rw[J8 rfl,uc h hk ha,show gT T k+c-gT T k=c by omega]
 |false=>
  rw[Jb Jk,kI,AY ha,dD];simp[sumH]
theorem CJ(hk:Keys T)(k c:Int):Keys (pT T k c):=by
 unfold pT;cases ha:T.any (λe=>decide (e.1=k)) with
 |true=>
  rw[J8 rfl];unfold Keys;rw[List.pairwise_map];refine List.Pairwise.imp (λ{a b} h=>?_) hk;split<;>split<;>exact h
 |false=>
  rw[Jb Jk];refine Qr.mpr ⟨hk,Qc _ _,λa ha' b hb=>?_⟩;rw[Ju.mp hb];rw[Qn]at ha;have:=ha a ha';simpa using this
theorem Fp(T:List (Int×Int))(k c v:Int):(∃e∈pT T k c,e.1=v)↔(∃e∈T,e.1=v)\/v=k:=by
 unfold pT;cases ha:T.any (λe=>decide (e.1=k)) with
 |true=>
  rw[J8 rfl];constructor
  ·rintro⟨e,he,rfl⟩;obtain⟨e',he',rfl⟩:=Y1.mp he;refine .inl ⟨e',he',?_⟩;split<;>rfl
  ·rintro(⟨e,he,rfl⟩|rfl)
   ·exact⟨_,Y1.mpr ⟨e,he,rfl⟩,by split<;>rfl⟩
   ·rw[Wu]at ha;obtain⟨e,he,hd⟩:=ha
    exact⟨_,Y1.mpr ⟨e,he,rfl⟩,by split<;>exact Zw hd⟩
 |false=>
  rw[Jb Jk];constructor
  ·rintro⟨e,he,rfl⟩;rcases Jr.mp he with he|he
   ·exact .inl ⟨e,he,rfl⟩
   ·rw[Ju.mp he];exact .inr rfl
  ·rintro(⟨e,he,rfl⟩|rfl)
   ·exact⟨e,Qq _ he,rfl⟩
   ·exact⟨(v,c),Y5 _ (Ju.mpr rfl),rfl⟩
theorem Fq(T:List (Int×Int))(k c:Int):(pT T k c).length<=T.length+1:=by unfold pT;split<;>simp
structure Hist(T:List (Int×Int))(f:List Int):Prop where
 keys:Keys T
 mem:∀v,(∃e∈T,e.1=v)↔v∈f
 sum:∀h:Int->Int,sumH h T=(f.map h).sum
 len:T.length<=f.length
theorem Hist.zero:Hist [(0,1)] [0]:=⟨Qc _ _,λv=>by simp[eq_comm],λh=>by simp[sumH],J9 _⟩
theorem ud:∀(a b:List Int),(a++b).sum=a.sum+b.sum
 |[],b=>by simp
 |x::a,b=>by rw[Vi,Yl,Yl,ud a b];omega
structure HistC(T:List (Int×Int))(L:List (Int×Int)):Prop where
 keys:Keys T
 mem:∀v,(∃e∈T,e.1=v)↔∃e∈L,e.1=v
 sum:∀h:Int->Int,sumH h T=sumH h L
 len:T.length<=L.length
theorem HistC.nil:HistC [] []:=⟨List.Pairwise.nil,λv=>by simp,λh=>rfl,J9 _⟩
theorem HistC.put{L:List (Int×Int)}(h:HistC T L)(k c:Int):HistC (pT T k (gT T k+c)) (L++[(k,c)]):=by
 refine⟨CJ h.keys _ _,λv=>?_,λf=>?_,Y2 (Fq _ _ _) (by have:=h.len;simp;omega)⟩
 ·rw[Fp,h.mem v];constructor
  ·rintro(⟨e,he,e1⟩|rfl)
   ·exact⟨e,Qq _ he,e1⟩
   ·exact⟨(v,c),Y5 _ (Ju.mpr rfl),rfl⟩
  ·rintro⟨e,he,rfl⟩;rcases Jr.mp he with he|he
   ·exact .inl ⟨e,he,rfl⟩
   ·rw[Ju.mp he];exact .inr rfl
 ·rw[CI f h.keys,h.sum f,kI,dD];simp[sumH]
noncomputable def fD(K:List Int)(x:Int)(T:List (Int×Int)):List (Int×Int):=T.flatMap λe=>K.map λq=>(e.1+q*x,e.2)
theorem ql(K:List Int)(x:Int)(h:Int->Int):∀T:List (Int×Int),sumH h (fD K x T)=sumH (λy=>(K.map λq=>h (y+q*x)).sum) T
 |[]=>rfl
 |e::T=>by
  have ih:=ql K x h T;unfold fD at ih ⊢;rw[Zx,kI,dD,ih];congr 1
  have:∀l:List Int,sumH h (l.map λq=>(e.1+q*x,e.2))=(l.map λq=>h (e.1+q*x)).sum*e.2:=λl=>by
   induction l with
   |nil=>simp[sumH]
   |cons q l ih=>rw[Jl,dD,Jl,Yl,ih,Int.add_mul]
  exact this K
theorem vW(K:List Int)(x:Int)(h:Int->Int):∀f:List Int,((fS K x f).map h).sum=(f.map λy=>(K.map λq=>h (y+q*x)).sum).sum
 |[]=>rfl
 |w::f=>by have ih:=vW K x h f;unfold fS at ih ⊢;rw[Zx,Qk,ud,ih,Jl,Yl,Yn];rfl
theorem rT{f:List Int}:v∈fS K x f↔∃w∈f,∃q∈K,w+q*x=v:=by simp only[fS,Ur,Y1]
theorem jZ(K:List Int)(x:Int):∀f:List Int,(fS K x f).length=f.length*K.length
 |[]=>by simp[fS]
 |w::f=>by have:=jZ K x f;simp only[fS,Zx,Jp,Jg,Jm]at this ⊢;rw[this,Vq];omega
theorem iV(K:List Int)(x:Int):∀T:List (Int×Int),(fD K x T).length=T.length*K.length
 |[]=>by simp[fD]
 |w::f=>by have:=iV K x f;simp only[fD,Zx,Jp,Jg,Jm]at this ⊢;rw[this,Vq];omega
theorem Hist.step{T':List (Int×Int)}{f:List Int}(h:Hist T f)(h':HistC T' (fD K x T)):Hist T' (fS K x f):=by
 refine⟨h'.keys,λv=>?_,λg=>?_,?_⟩
 ·rw[h'.mem v,rT];simp only[fD,Ur,Y1];constructor
  ·rintro⟨e,⟨e0,he0,q,hq,rfl⟩,rfl⟩;exact⟨e0.1,(h.mem _).mp ⟨e0,he0,rfl⟩,q,hq,rfl⟩
  ·rintro⟨w,hw,q,hq,rfl⟩;obtain⟨e0,he0,rfl⟩:=(h.mem w).mpr hw;exact⟨_,⟨e0,he0,q,hq,rfl⟩,rfl⟩
 ·rw[h'.sum g,ql,h.sum,vW]
 ·have:=h'.len;rw[iV]at this;rw[jZ];exact Y2 this (Wv _ h.len)
theorem rV{k:Int}:∀{T:List (Int×Int)},Keys T->sumH (λy=>if y=k then 1 else 0) T=gT T k
 |[],_=>rfl
 |e::T,hk=>by
  have hk':=Ze.mp hk;rw[dD,rS];by_cases he:e.1=k
  ·rw[J8 he,J8 he,rV hk'.2,AY (by
    rw[Qn];intro e' he' hd
    exact hk'.1 e' he' (by rw[he,Zw hd]))]
   omega
  ·rw[Jb he,Jb he,rV hk'.2];omega
theorem xD(k:Int):∀f:List Int,(f.map λy=>if y=k then (1:Int) else 0).sum=(f.filter λy=>decide (y=k)).length
 |[]=>rfl
 |w::f=>by
  rw[Jl,Yl,xD k f,Ww];by_cases h:w=k
  ·simp[h];omega
  ·simp[h]
theorem Hist.get{f:List Int}(h:Hist T f)(k:Int):gT T k=((f.filter λy=>decide (y=k)).length:Int):=by rw[<- rV h.keys,h.sum,xD]
theorem ot:∀(xs p:List Int)(x q:Int),p.length=xs.length->wor (xs++[x]) (p++[q])=wor xs p+q*x
 |[],[],x,q,_=>by show x*q+0=0+q*x;rw[Us];omega
 |y::xs,r::p,x,q,h=>by
  show y*r+wor (xs++[x]) (p++[q])=y*r+wor xs p+q*x
  rw[ot xs p x q (by simpa using h)];omega
 |[],_::_,_,_,h=>by cases h
 |_::_,[],_,_,h=>by cases h
noncomputable def wsL(K:List Int)(xs:List Int):List Int:=(mU K xs.length).map (wor xs)
theorem gg(K xs:List Int)(x:Int):wsL K (xs++[x])=fS K x (wsL K xs):=by
 unfold wsL fS;rw[Jp,Jm,Yi];show(ext K (mU K xs.length)).map _=_;unfold ext;rw[List.map_flatMap,List.flatMap_map]
 have:∀l:List (List Int),(∀p∈l,p.length=xs.length)->(l.flatMap λp=>(K.map λk=>p++[k]).map (wor (xs++[x])))=l.flatMap λp=>K.map λq=>wor xs p+q*x:=λl=>by
  induction l with
  |nil=>intro _;rfl
  |cons p l ih=>
   intro h;rw[Zx,Zx,ih λp hp=>h p (.tail _ hp),Yn];congr 1;refine Z8 λk _=>?_;exact ot xs p x k (h p (.head _))
 exact this _ λp hp=>((cA _ p).mp hp).1
theorem rW:v∈wsL K xs↔Wo K xs v:=by rw[AX];simp only[wsL,Y1]
noncomputable def aX(T:List (Int×Int)):List (KD×D):=T.map λe=>(.inl e.1,.int e.2)
theorem A1(T:List (Int×Int))(k:Int):(aX T).any (λkv=>decide (kv.1=.inl k))=T.any λe=>decide (e.1=k):=by
 unfold aX;rw[List.any_map];congr 1;funext e;show decide ((Sum.inl e.1:KD)=.inl k)=decide (e.1=k);rw[Wx]
 exact⟨Wa,λh=>by rw[h]⟩
theorem A3(T:List (Int×Int))(k c:Int):putD (aX T) (.inl k) (.int c)=aX (pT T k c):=by
 unfold putD pT;rw[A1];cases T.any λe=>decide (e.1=k) with
 |true=>
  rw[J8 rfl,J8 rfl];unfold aX;rw[Yn,Yn];refine Z8 λe _=>?_;simp only[Function.comp];by_cases h:e.1=k
  ·rw[J8 (by rw[h]),J8 h]
  ·rw[Jb (λz=>h (Wa z)),Jb h]
 |false=>
  rw[Jb Jk,Jb Jk];simp[aX]
theorem ou(T:List (Int×Int))(k:Int):(fL (aX T) (.inl k)).getD (.int 0)=.int (gT T k):=by
 unfold fL gT aX;rw[List.find?_map]
 have e:((λkv:KD×D=>decide (kv.1=.inl k))∘λe:Int×Int=>((.inl e.1:KD),D.int e.2))=λe=>decide (e.1=k):=by
  funext e;show decide ((Sum.inl e.1:KD)=.inl k)=decide (e.1=k);rw[Wx]
  exact⟨Wa,λh=>by rw[h]⟩
 rw[e];cases T.find? λe=>decide (e.1=k)<;>rfl
def dAt(S:Sto)(n:Nat)(T:List (Int×Int)):Prop:=S[n]?=some (.dic (aX T))\/S[n]?=some (.fdic (aX T))
theorem dAt.dic(h:dAt S n T):dh S (.ref n)=some (aX T):=by rcases h with h|h<;>simp[dh,h]
theorem dAt.seq(h:dAt S n T):bu S (.ref n)=none:=by rcases h with h|h<;>simp[bu,h]
theorem dAt.lt(h:dAt S n T):n<S.length:=by rcases h with h|h<;>exact(Ja.mp h).1
noncomputable abbrev stI:SM:=(aC (aT 7 (eOp ba (ai 4) (eOp cq (ai 6) (ai 1)))) (nE jD (eOp ba (fY (ai 3) (ai 7) (eC (.int 0))) (ai 5)) (ai 3) (ai 7)))
noncomputable abbrev stO:SM:=(gJ (bN (ai 2) bw) (.nm 6) (aC (aT 7 (eOp ba (ai 4) (eOp cq (ai 6) (ai 1)))) (nE jD (eOp ba (fY (ai 3) (ai 7) (eC (.int 0))) (ai 5)) (ai 3) (ai 7))))
noncomputable abbrev Hs:SM:=(aT 2 (aw dy (af (ai 2) (af (ai 3) (af (ai 1) ao)))))
theorem sml(h:-1<=q/\q<=1):cG q:=⟨by omega,by omega⟩
theorem Fs{W:List (Int×Int)}{x w c:Int}(hq:-1<=q/\q<=1)(hm:S[m]?=some (.dic (aX W)))(hz:W.length<1000)(r0 r2 r7:Option D):
  stI [r0,some (.int x),r2,some (.ref m),some (.int w),some (.int c),some (.int q),r7] S=.ok (.nx [r0,some (.int x),r2,some (.ref m),some (.int w),some (.int c),some (.int q),some (.int (w+q*x))]) (S.set m (.dic (aX (pT W (w+q*x) (gT W (w+q*x)+c))))):=by
 have hd:dh S (.ref m)=some (aX W):=by simp[dh,hm]
 have z:(1000:Nat)<=sizeLine:=by decide
 refine(ay (aK (ax (ag rfl) (ax (ag rfl) (ag rfl) (fA (.inl (sml hq)))) rfl))).trans ?_
 have hg:fY (ai 3) (ai 7) (eC (.int 0)) [r0,some (.int x),r2,some (.ref m),some (.int w),some (.int c),some (.int q),some (.int (w+q*x))] S=.ok (.int (gT W (w+q*x))) S:=by rw[<- ou];exact kH (ag rfl) hd (ag rfl) rfl hd rfl
 refine xB (ax hg (ag rfl) rfl) (ag rfl) (ag rfl) ?_
 have h1:pN S (.ref m)=true:=by simp[pN,hm]
 unfold jD;rw[J8 h1];unfold tH;simp only[hm,ju]
 rw[J8 (by simp[aX];omega),A3]
theorem ue{x w c:Int}(r0 r2:Option D):∀(K:List Int)(S:Sto)(W L:List (Int×Int))(r6 r7:Option D),(∀q∈K,-1<=q/\q<=1)->S[m]?=some (.dic (aX W))->HistC W L->L.length+K.length<=1000->
  ∃(W':List (Int×Int))(r6' r7':Option D),forL (.nm 6) stI (K.map .int) [r0,some (.int x),r2,some (.ref m),some (.int w),some (.int c),r6,r7] S=.ok (.nx [r0,some (.int x),r2,some (.ref m),some (.int w),some (.int c),r6',r7']) (S.set m (.dic (aX W')))/\HistC W' (L++K.map λq=>(w+q*x,c))
 |[],S,W,L,r6,r7,_,hm,h,_=>⟨W,r6,r7,by
  have hml:m<S.length:=(Ja.mp hm).1
  have:S.set m (.dic (aX W))=S:=by have e:=(Ja.mp hm).2;rw[<- e];exact Q5 hml
  rw[this];rfl,by simpa using h⟩
 |q::K,S,W,L,r6,r7,hK,hm,h,hz=>by
  rw[Jm]at hz;have hml:m<S.length:=(Ja.mp hm).1
  have e1:=Fs (S:=S) (x:=x) (w:=w) (c:=c) (hK q (.head _)) hm (by have:=h.len;omega) r0 r2 r7
  obtain⟨W',a6,a7,e2,h2⟩:=ue r0 r2 K (S.set m (.dic (aX (pT W (w+q*x) (gT W (w+q*x)+c))))) (pT W (w+q*x) (gT W (w+q*x)+c)) (L++[(w+q*x,c)]) (some (.int q)) (some (.int (w+q*x))) (λq hq=>hK q (.tail _ hq)) (Y8 hml) (h.put (w+q*x) c) (by simp;omega)
  rw[Wn]at e2;refine⟨W',a6,a7,(cP (r1:=[r0,some (.int x),r2,some (.ref m),some (.int w),some (.int c),some (.int q),r7]) rfl e1).trans e2,?_⟩;rw[Jl];simpa using h2
theorem uf{x:Int}(hK:∀q∈K,-1<=q/\q<=1)(r0:Option D):∀(T:List (Int×Int))(S:Sto)(W L:List (Int×Int))(r4 r5 r6 r7:Option D),S[m]?=some (.dic (aX W))->HistC W L->L.length+T.length*K.length<=1000->
  ∃(W':List (Int×Int))(r4' r5' r6' r7':Option D),forL (.tp [.nm 4,.nm 5]) stO ((aX T).map pairD) [r0,some (.int x),some (tupI K),some (.ref m),r4,r5,r6,r7] S=.ok (.nx [r0,some (.int x),some (tupI K),some (.ref m),r4',r5',r6',r7']) (S.set m (.dic (aX W')))/\HistC W' (L++fD K x T)
 |[],S,W,L,r4,r5,r6,r7,hm,h,_=>⟨W,r4,r5,r6,r7,by
  have hml:m<S.length:=(Ja.mp hm).1
  have:S.set m (.dic (aX W))=S:=by have e:=(Ja.mp hm).2;rw[<- e];exact Q5 hml
  rw[this];rfl,by simpa[fD] using h⟩
 |e::T,S,W,L,r4,r5,r6,r7,hm,h,hz=>by
  have hm2:(e::T).length*K.length=T.length*K.length+K.length:=by rw[Jm,Vq]
  have hml:m<S.length:=(Ja.mp hm).1
  obtain⟨W1,a6,a7,e1,h1⟩:=ue (x:=x) (w:=e.1) (c:=e.2) r0 (some (tupI K)) K S W L r6 r7 hK hm h (by omega)
  obtain⟨W2,b4,b5,b6,b7,e2,h2⟩:=uf hK r0 T (S.set m (.dic (aX W1))) W1 (L++K.map λq=>(e.1+q*x,e.2)) (some (.int e.1)) (some (.int e.2)) a6 a7 (Y8 hml) h1 (by rw[Jp,Jg];omega)
  rw[Wn]at e2;refine⟨W2,b4,b5,b6,b7,?_,?_⟩
  ·show forL _ _ (pairD (.inl e.1,.int e.2)::(aX T).map pairD) _ _=_;exact(cP (r1:=[r0,some (.int x),some (tupI K),some (.ref m),some (.int e.1),some (.int e.2),r6,r7]) rfl ((gc (ag rfl) rfl).trans e1)).trans e2
  ·have:fD K x (e::T)=(K.map λq=>(e.1+q*x,e.2))++fD K x T:=by simp[fD]
   rw[this,<- Ye];exact h2
theorem A4(hi:ρ[i]?=some (some (.ref n)))(h:dAt S n T):eE (ai i) ρ S=.ok ((aX T).map pairD) (S.set n (.fdic (aX T))):=by
 unfold eE;rw[ag hi,R.bind_ok];rcases h with h|h
 ·simp only[h]
 ·simp only[h];have hnl:n<S.length:=(Ja.mp h).1
  have:S.set n (.fdic (aX T))=S:=by have e:=(Ja.mp h).2;rw[<- e];exact Q5 hnl
  rw[this]
theorem ow{x:Int}{f:List Int}(hK:∀q∈K,-1<=q/\q<=1)(hd:dAt S n T)(h:Hist T f)(hz:f.length*K.length<=1000):
  ∃T':List (Int×Int),dy [.ref n,.int x,tupI K] S=.ok (.ref S.length) (S.set n (.fdic (aX T))++[.dic (aX T')])/\Hist T' (fS K x f):=by
 have hnl:=hd.lt
 have hd':dAt (S++[.dic []]) n T:=by unfold dAt;rw[Jv hnl];exact hd
 have hle:T.length*K.length<=f.length*K.length:=Wv _ h.len;have e0:(S++[SO.dic []]).set n (.fdic (aX T))=S.set n (.fdic (aX T))++[.dic []]:=List.set_append_left _ _ hnl
 obtain⟨T',a4,a5,a6,a7,e1,h1⟩:=uf (x:=x) hK (some (.ref n)) (m:=S.length) T (S.set n (.fdic (aX T))++[.dic []]) [] [] none none none none (by simp[aX]) HistC.nil (by simp;omega)
 have e2:(S.set n (.fdic (aX T))++[SO.dic []]).set S.length (.dic (aX T'))=S.set n (.fdic (aX T))++[.dic (aX T')]:=by rw[Wl _ _ (by simp)];simp
 rw[e2]at e1
 refine⟨T',?_,h.step (by simpa using h1)⟩
 exact bc (ρ:=[some (.ref n),some (.int x),some (tupI K),none,none,none,none,none]) rfl ((ay (S1:=S++[.dic []]) (aK rfl)).trans ((ay (r1:=[some (.ref n),some (.int x),some (tupI K),some (.ref S.length),a4,a5,a6,a7]) ((nr (A4 rfl hd')).trans (by rw[e0];exact e1))).trans (aR (ag rfl))))
structure Pre(S0 S:Sto):Prop where
 old:∀i,i<S0.length->S[i]?=S0[i]?
 len:S0.length<=S.length
theorem Pre.refl(S:Sto):Pre S S:=⟨λ_ _=>rfl,J9 _⟩
theorem Pre.trans(a:Pre S0 S1)(b:Pre S1 S2):Pre S0 S2:=⟨λi h=>(b.old i (Jt h a.len)).trans (a.old i h),Y2 a.len b.len⟩
theorem Pre.app(S l:Sto):Pre S (S++l):=⟨λi h=>Jv h,by simp⟩
theorem Pre.set(p:Pre S0 S)(h:S0.length<=n)(o:SO):Pre S0 (S.set n o):=⟨λi hi=>by rw[Yc (by omega)];exact p.old i hi,by rw[Vp];exact p.len⟩
theorem Pre.gr{b:Nat}(g:Gr b S0 S0)(p:Pre S0 S):Gr b S0 S:=by
 obtain⟨n,hn⟩:=g.bx;have hb:b<S0.length:=(Ja.mp hn).1
 exact⟨⟨n,by rw[p.old b hb];exact hn⟩,λi _ hl=>p.old i hl,p.len⟩
theorem dAt.set{r:Nat}{o:SO}(h:dAt S r T)(hn:n≠r):dAt (S.set n o) r T:=by unfold dAt;rw[Yc hn];exact h
noncomputable def fold(K:List Int)(xs:List Int)(f:List Int):List Int:=xs.foldl (λf x=>fS K x f) f
theorem xE(K:List Int):∀(xs pre:List Int),fold K xs (wsL K pre)=wsL K (pre++xs)
 |[],pre=>by simp[fold]
 |x::xs,pre=>by have:=xE K xs (pre++[x]);rw[gg,Ye]at this;exact this
theorem xF(hK:K.length<=2){r:Nat}(h:n*2^(r+1)<=512):n*K.length<=1000/\n*K.length*2^r<=512:=by
 have h1:n*K.length<=n*2:=Nat.mul_le_mul_left _ hK
 have h2:1<=2^r:=Nat.one_le_pow _ _ (by decide)
 have h3:n*K.length*2^r<=n*2*2^r:=Wv _ h1
 have h4:n*2*2^r=n*2^(r+1):=by rw[Nat.pow_succ,Nat.mul_assoc,Uk 2]
 have h5:n*2*1<=n*2*2^r:=Nat.mul_le_mul_left _ h2;omega
theorem ug(hK:K.length<=2)(hk:∀q∈K,-1<=q/\q<=1)(r0:Option D):∀(xs:List Int)(S:Sto)(n:Nat)(T:List (Int×Int))(f:List Int)(r3:Option D),S[n]?=some (.dic (aX T))->Hist T f->f.length*2^xs.length<=512->S0.length<=n->Pre S0 S->
  ∃(S':Sto)(n':Nat)(T':List (Int×Int))(r3':Option D),forL (.nm 3) Hs (xs.map .int) [r0,some (tupI K),some (.ref n),r3] S=.ok (.nx [r0,some (tupI K),some (.ref n'),r3']) S'/\S'[n']?=some (.dic (aX T'))/\S0.length<=n'/\Hist T' (fold K xs f)/\Pre S0 S'
 |[],S,n,T,f,r3,hd,h,_,hn,p=>⟨S,n,T,r3,rfl,hd,hn,h,p⟩
 |x::xs,S,n,T,f,r3,hd,h,hz,hn,p=>by
  rw[Jm]at hz;obtain⟨z1,z2⟩:=xF hK hz;obtain⟨T1,e1,h1⟩:=ow (x:=x) hk (.inl hd) h z1;have p1:Pre S0 (S.set n (.fdic (aX T))++[SO.dic (aX T1)]):=(p.set hn _).trans (Pre.app _ _)
  obtain⟨S2,n2,T2,a3,e2,d2,dl2,h2,p2⟩:=ug hK hk r0 xs (S.set n (.fdic (aX T))++[SO.dic (aX T1)]) S.length T1 (fS K x f) (some (.int x)) (by simp) h1 (by rw[jZ];exact z2) p.len p1
  exact⟨S2,n2,T2,a3,(cP (r1:=[r0,some (tupI K),some (.ref n),some (.int x)]) rfl (aK ((ar (ah (ag rfl) (ah (ag rfl) (ah (ag rfl) rfl)))).trans e1))).trans e2,d2,dl2,h2,p2⟩
theorem xG:nM [((eC (.int 0)),(eC (.int 1)))] ρ S=.ok (.ref S.length) (S++[.dic (aX [(0,1)])]):=rfl
theorem gi(hK:K.length<=2)(hk:∀q∈K,-1<=q/\q<=1)(h6:xs.length<=9)(S:Sto):∃(S':Sto)(n:Nat)(T:List (Int×Int)),cc [tupI xs,tupI K] S=.ok (.ref n) S'/\S'[n]?=some (.dic (aX T))/\S.length<=n/\Hist T (wsL K xs)/\Pre S S':=by
 obtain⟨S',n,T,a3,e,hd,hdl,h,p⟩:=ug hK hk (S0:=S) (some (tupI xs)) xs (S++[.dic (aX [(0,1)])]) S.length [(0,1)] [0] none (by simp) Hist.zero (by
  rw[Zn,Nat.one_mul]
  exact Y2 (Zt (by decide) h6) (by decide)) (J9 _) (Pre.app _ _)
 have hf:=xE K xs [];rw[Q0]at hf;have h0:wsL K []=[0]:=rfl;rw[h0]at hf;rw[hf]at h;exact⟨S',n,T,bc (ρ:=[some (tupI xs),some (tupI K),none,none]) rfl ((ay (aK xG)).trans ((ay ((gc (ag rfl) rfl).trans e)).trans (aR (ag rfl)))),hd,hdl,h,p⟩
theorem cD(h:Row xs)(S:Sto):aJ [.tup (xs.map .int)] S=.ok .non S:=by have e:=AU (S:=S) h.okay;rw[h.is]at e;simp[aJ,fnM,iB,sIf,bL,tNx,R.nx,PD.gI,tV,aw,ai,af,ao,R.bind,e]
theorem Ft(h:Keys T){e:Int×Int}(he:e∈T):gT T e.1=e.2:=by
 induction T with
 |nil=>cases he
 |cons d T ih=>
  obtain⟨h1,h2⟩:=Ze.mp h;rw[rS];rcases Jj.mp he with rfl|he
  ·rw[J8 rfl]
  ·rw[Jb (h1 e he)];exact ih h2 he
theorem rX(K xs:List Int):(wsL K xs).length=K.length^xs.length:=by unfold wsL;rw[Jg,t9]
theorem vX{f:List Int}(h:Hist T f)(hf:f.length<=1000):∀e∈T,cG e.2:=λe he=>by
 have e1:=Ft h.keys he;rw[h.get]at e1;have:=List.length_filter_le (λy=>decide (y=e.1)) f;rw[<- e1]
 exact⟨by omega,by omega⟩
noncomputable abbrev TF:=List (Int×List Int)
noncomputable def pF(T:TF)(k:Int)(c:List Int):TF:=if T.any (λe=>decide (e.1=k)) then T.map (λe=>if e.1=k then (e.1,c) else e) else T++[(k,c)]
noncomputable def gF(T:TF)(k:Int):Option (List Int):=(T.find? λe=>decide (e.1=k)).map (·.2)
theorem vY{T:TF}{k:Int}{c:List Int}{e:Int×List Int}:e∈pF T k c↔e=(k,c)\/(e∈T/\e.1≠k):=by
 unfold pF;cases ha:T.any (λe=>decide (e.1=k)) with
 |true=>
  rw[J8 rfl,Y1];constructor
  ·rintro⟨d,hd,rfl⟩;by_cases h:d.1=k
   ·rw[J8 h,h];exact .inl rfl
   ·rw[Jb h];exact .inr ⟨hd,h⟩
  ·rintro(rfl|⟨he,h⟩)
   ·rw[Wu]at ha;obtain⟨d,hd,z⟩:=ha;have z:=Zw z
    exact⟨d,hd,by rw[J8 z,z]⟩
   ·exact⟨e,he,by rw[Jb h]⟩
 |false=>
  rw[Jb Jk,Jr,Ju];rw[Qn]at ha;constructor
  ·rintro(h|h)
   ·exact .inr ⟨h,λz=>ha e h (Jx z)⟩
   ·exact .inl h
  ·rintro(h|⟨h,_⟩)
   ·exact .inr h
   ·exact .inl h
theorem Fu(T:TF)(k:Int)(c:List Int):(pF T k c).length<=T.length+1:=by unfold pF;split<;>simp
theorem rY{T:TF}{k:Int}{u:List Int}(h:gF T k=some u):(k,u)∈T:=by
 unfold gF at h;cases hf:T.find? λe=>decide (e.1=k) with
 |none=>rw[hf]at h;cases h
 |some d=>
  rw[hf]at h;have h1:=List.find?_some hf
  have h1:d.1=k:=by simpa using h1
  have h2:=List.mem_of_find?_eq_some hf;cases h;rw[<- h1];exact h2
theorem CK{T:TF}{k:Int}(h:gF T k=none):∀e∈T,e.1≠k:=by
 unfold gF at h;cases hf:T.find? λe=>decide (e.1=k) with
 |some d=>rw[hf]at h;cases h
 |none=>
  rw[List.find?_eq_none]at hf;exact λe he z=>hf e he (Jx z)
noncomputable def min2(a b:List Int):List Int:=if ltZ b a=true then b else a
theorem kJ{k:Int}(h:k∈KS):k = -1\/k=1:=by simp only[KS,Jj,Y6,Zb]at h;exact h
def Sg(xs:List Int)(v:Int)(p:List Int):Prop:=(p.length=xs.length/\∀q∈p,q∈KS)/\wor xs p=v
theorem Sg.snoc(h:Sg xs v p)(hq:q∈KS):Sg (xs++[x]) (v+q*x) (p++[q]):=by
 refine⟨⟨by rw[Jp,Jp,h.1.1];rfl,λy hy=>?_⟩,by rw[ot _ _ _ _ h.1.1,h.2]⟩
 rcases Jr.mp hy with hy|hy
 ·exact h.1.2 y hy
 ·rw[Ju.mp hy];exact hq
structure FT(T:TF)(ys L:List Int):Prop where
 sg:∀e∈T,Sg ys e.1 e.2
 cov:∀v∈L,∃e∈T,e.1=v
 len:T.length<=L.length
theorem FT.put{T:TF}(h:FT T ys L){k:Int}{c:List Int}(hc:Sg ys k c):FT (pF T k (min2 c ((gF T k).getD c))) ys (L++[k]):=by
 have hm:Sg ys k (min2 c ((gF T k).getD c)):=by
  unfold min2;split
  ·cases hg:gF T k with
   |none=>exact hc
   |some u=>exact h.sg _ (rY hg)
  ·exact hc
 refine⟨λe he=>?_,λv hv=>?_,Y2 (Fu _ _ _) (by have:=h.len;simp;omega)⟩
 ·rcases vY.mp he with rfl|⟨he,_⟩
  ·exact hm
  ·exact h.sg e he
 ·by_cases hk:v=k
  ·exact⟨_,vY.mpr (.inl rfl),hk.symm⟩
  ·rcases Jr.mp hv with hv|hv
   ·obtain⟨e,he,z⟩:=h.cov v hv
    exact⟨e,vY.mpr (.inr ⟨he,by rw[z];exact hk⟩),z⟩
   ·exact absurd (Ju.mp hv) hk
theorem FT.step{T T':TF}(h:FT T xs (wsL KS xs))(h':FT T' (xs++[x]) (fS KS x (T.map (·.1)))):FT T' (xs++[x]) (wsL KS (xs++[x])):=by
 rw[gg];refine⟨h'.sg,λv hv=>?_,?_⟩
 ·obtain⟨w,hw,q,hq,rfl⟩:=rT.mp hv;obtain⟨e,he,rfl⟩:=h.cov w hw;exact h'.cov _ (rT.mpr ⟨e.1,Y1.mpr ⟨e,he,rfl⟩,q,hq,rfl⟩)
 ·have a:=h'.len;rw[jZ,Jg]at a;rw[jZ];exact Y2 a (Wv _ h.len)
noncomputable def bC(T:TF):List (KD×D):=T.map λe=>(.inl e.1,tupI e.2)
theorem A5(T:TF)(k:Int):(bC T).any (λkv=>decide (kv.1=.inl k))=T.any λe=>decide (e.1=k):=by
 unfold bC;rw[List.any_map];congr 1;funext e;show decide ((Sum.inl e.1:KD)=.inl k)=decide (e.1=k);rw[Wx]
 exact⟨Wa,λh=>by rw[h]⟩
theorem A6(T:TF)(k:Int)(c:List Int):putD (bC T) (.inl k) (tupI c)=bC (pF T k c):=by
 unfold putD pF;rw[A5];cases T.any λe=>decide (e.1=k) with
 |true=>
  rw[J8 rfl,J8 rfl];unfold bC;rw[Yn,Yn];refine Z8 λe _=>?_;simp only[Function.comp];by_cases h:e.1=k
  ·rw[J8 (by rw[h]),J8 h]
  ·rw[Jb (λz=>h (Wa z)),Jb h]
 |false=>
  rw[Jb Jk,Jb Jk];simp[bC]
theorem oy(T:TF)(k:Int):fL (bC T) (.inl k)=(gF T k).map tupI:=by
 unfold fL gF bC;rw[List.find?_map]
 have e:((λkv:KD×D=>decide (kv.1=.inl k))∘λe:Int×List Int=>((.inl e.1:KD),tupI e.2))=λe=>decide (e.1=k):=by
  funext e;show decide ((Sum.inl e.1:KD)=.inl k)=decide (e.1=k);rw[Wx]
  exact⟨Wa,λh=>by rw[h]⟩
 rw[e];cases T.find? λe=>decide (e.1=k)<;>rfl
noncomputable abbrev fsI:SM:=(aC (aT 6 (eOp ba (ai 3) (eOp cq (ai 5) (ai 1)))) (aC (aT 7 (eOp ba (ai 4) (dE (af (ai 5) ao)))) (nE jD (eB nW (af (ai 7) (af (fY (ai 2) (ai 6) (ai 7)) ao))) (ai 2) (ai 6))))
theorem A7(S:Sto)(p:List Int)(q:Int)(h:p.length<=100):ba S (tupI p) (.tup [.int q])=some (tupI (p++[q])):=by
 have z:(1000:Nat)<=sizeLine:=by decide
 refine(lO (by simp;omega)).trans ?_
 simp[tupI]
theorem eg:∀xs:List Int,intsOf (xs.map .int)=some xs
 |[]=>rfl
 |x::xs=>by rw[Jl,intsOf,eg xs];rfl
theorem qm(S:Sto)(a b:List Int):nW S [tupI a,tupI b]=some (tupI (min2 a b)):=by
 show tO S [.tup (a.map .int),.tup (b.map .int)]=_;unfold tO min2;simp only[eg];by_cases h:ltZ b a=true
 ·rw[J8 h,J8 h]
 ·rw[Jb h,Jb h]
theorem Fv{W:TF}{x w:Int}(hq:-1<=q/\q<=1)(hp:p.length<=100)(hm:S[m]?=some (.dic (bC W)))(hz:W.length<1000)(r0 r6 r7:Option D):
  fsI [r0,some (.int x),some (.ref m),some (.int w),some (tupI p),some (.int q),r6,r7] S=.ok (.nx [r0,some (.int x),some (.ref m),some (.int w),some (tupI p),some (.int q),some (.int (w+q*x)),some (tupI (p++[q]))]) (S.set m (.dic (bC (pF W (w+q*x) (min2 (p++[q]) ((gF W (w+q*x)).getD (p++[q]))))))):=by
 have hd:dh S (.ref m)=some (bC W):=by simp[dh,hm]
 have z:(1000:Nat)<=sizeLine:=by decide
 have z1:(1:Nat)<=sizeLine:=by decide
 refine(ay (aK (ax (ag rfl) (ax (ag rfl) (ag rfl) (fA (.inl ⟨by omega,by omega⟩))) rfl))).trans ?_
 refine(ay (aK (ax (ag rfl) (cX (xs:=[.int q]) rfl z1) (A7 S p q hp)))).trans ?_
 have hg:fY (ai 2) (ai 6) (ai 7) [r0,some (.int x),some (.ref m),some (.int w),some (tupI p),some (.int q),some (.int (w+q*x)),some (tupI (p++[q]))] S=.ok (tupI ((gF W (w+q*x)).getD (p++[q]))) S:=by
  have e:(fL (bC W) (.inl (w+q*x))).getD (tupI (p++[q]))=tupI ((gF W (w+q*x)).getD (p++[q])):=by rw[oy];cases gF W (w+q*x)<;>rfl
  rw[<- e];exact kH (ag rfl) hd (ag rfl) (ag rfl) hd rfl
 refine xB (aW (ah (ag rfl) (ah hg rfl)) (qm _ _ _)) (ag rfl) (ag rfl) ?_
 have h1:pN S (.ref m)=true:=by simp[pN,hm]
 unfold jD;rw[J8 h1];unfold tH;simp only[hm,ju]
 rw[J8 (by simp[bC];omega),A6]
noncomputable abbrev fsO:SM:=(gJ (bN (eC (.tup (([(-1),(1)]:List Int).map .int))) bw) (.nm 5) (aC (aT 6 (eOp ba (ai 3) (eOp cq (ai 5) (ai 1)))) (aC (aT 7 (eOp ba (ai 4) (dE (af (ai 5) ao)))) (nE jD (eB nW (af (ai 7) (af (fY (ai 2) (ai 6) (ai 7)) ao))) (ai 2) (ai 6)))))
theorem uh(hp:p.length<=100)(r0:Option D):∀(K:List Int)(S:Sto)(W:TF)(L:List Int)(r5 r6 r7:Option D),(∀q∈K,(-1<=q/\q<=1)/\Sg ys (w+q*x) (p++[q]))->S[m]?=some (.dic (bC W))->FT W ys L->L.length+K.length<=1000->
  ∃(W':TF)(r5' r6' r7':Option D),forL (.nm 5) fsI (K.map .int) [r0,some (.int x),some (.ref m),some (.int w),some (tupI p),r5,r6,r7] S=.ok (.nx [r0,some (.int x),some (.ref m),some (.int w),some (tupI p),r5',r6',r7']) (S.set m (.dic (bC W')))/\FT W' ys (L++K.map λq=>w+q*x)
 |[],S,W,L,r5,r6,r7,_,hm,h,_=>⟨W,r5,r6,r7,by
  have hml:m<S.length:=(Ja.mp hm).1
  have:S.set m (.dic (bC W))=S:=by have e:=(Ja.mp hm).2;rw[<- e];exact Q5 hml
  rw[this];rfl,by simpa using h⟩
 |q::K,S,W,L,r5,r6,r7,hK,hm,h,hz=>by
  rw[Jm]at hz;have hml:m<S.length:=(Ja.mp hm).1
  have e1:=Fv (S:=S) (x:=x) (w:=w) (p:=p) (hK q (.head _)).1 hp hm (by have:=h.len;omega) r0 r6 r7
  obtain⟨W',a5,a6,a7,e2,h2⟩:=uh hp r0 K (S.set m (.dic (bC (pF W (w+q*x) (min2 (p++[q]) ((gF W (w+q*x)).getD (p++[q]))))))) (pF W (w+q*x) (min2 (p++[q]) ((gF W (w+q*x)).getD (p++[q])))) (L++[w+q*x]) (some (.int q)) (some (.int (w+q*x))) (some (tupI (p++[q]))) (λq hq=>hK q (.tail _ hq)) (Y8 hml) (h.put (hK q (.head _)).2) (by simp;omega)
  rw[Wn]at e2;refine⟨W',a5,a6,a7,(cP (r1:=[r0,some (.int x),some (.ref m),some (.int w),some (tupI p),some (.int q),r6,r7]) rfl e1).trans e2,?_⟩;rw[Jl];simpa using h2
theorem ui(r0:Option D):∀(T:TF)(S:Sto)(W:TF)(L:List Int)(r3 r4 r5 r6 r7:Option D),(∀e∈T,e.2.length<=100/\Sg xs e.1 e.2)->S[m]?=some (.dic (bC W))->FT W (xs++[x]) L->L.length+T.length*2<=1000->
  ∃(W':TF)(r3' r4' r5' r6' r7':Option D),forL (.tp [.nm 3,.nm 4]) fsO ((bC T).map pairD) [r0,some (.int x),some (.ref m),r3,r4,r5,r6,r7] S=.ok (.nx [r0,some (.int x),some (.ref m),r3',r4',r5',r6',r7']) (S.set m (.dic (bC W')))/\FT W' (xs++[x]) (L++fS KS x (T.map (·.1)))
 |[],S,W,L,r3,r4,r5,r6,r7,_,hm,h,_=>⟨W,r3,r4,r5,r6,r7,by
  have hml:m<S.length:=(Ja.mp hm).1
  have:S.set m (.dic (bC W))=S:=by have e:=(Ja.mp hm).2;rw[<- e];exact Q5 hml
  rw[this];rfl,by simpa[fS] using h⟩
 |e::T,S,W,L,r3,r4,r5,r6,r7,hp,hm,h,hz=>by
  rw[Jm]at hz;have hml:m<S.length:=(Ja.mp hm).1
  obtain⟨W1,a5,a6,a7,e1,h1⟩:=uh (x:=x) (w:=e.1) (hp e (.head _)).1 r0 KS S W L r5 r6 r7 (λq hq=>⟨by have:=kdS q hq;omega,(hp e (.head _)).2.snoc hq⟩) hm h (by show L.length+2<=1000;omega)
  obtain⟨W2,b3,b4,b5,b6,b7,e2,h2⟩:=ui r0 T (S.set m (.dic (bC W1))) W1 (L++KS.map λq=>e.1+q*x) (some (.int e.1)) (some (tupI e.2)) a5 a6 a7 (λd hd=>hp d (.tail _ hd)) (Y8 hml) h1 (by rw[Jp,Jg];show L.length+2+T.length*2<=1000;omega)
  rw[Wn]at e2;refine⟨W2,b3,b4,b5,b6,b7,?_,?_⟩
  ·show forL _ _ (pairD (.inl e.1,tupI e.2)::(bC T).map pairD) _ _=_;exact(cP (r1:=[r0,some (.int x),some (.ref m),some (.int e.1),some (tupI e.2),r5,r6,r7]) rfl ((gc (d:=tupI KS) rfl rfl).trans e1)).trans e2
  ·have:fS KS x ((e::T).map (·.1))=(KS.map λq=>e.1+q*x)++fS KS x (T.map (·.1)):=by simp only[fS,Jl,Zx]
   rw[this,<- Ye];exact h2
noncomputable abbrev foB:SM:=(aT 1 (aw bY (af (ai 1) (af (ai 2) ao))))
theorem yY{T:TF}(hi:ρ[i]?=some (some (.ref n)))(h:S[n]?=some (.dic (bC T))):eE (ai i) ρ S=.ok ((bC T).map pairD) (S.set n (.fdic (bC T))):=by unfold eE;rw[ag hi,R.bind_ok];simp only[h]
theorem uj{x:Int}{T:TF}(hd:S[n]?=some (.dic (bC T)))(h:FT T xs (wsL KS xs))(hx:xs.length<=6):
  ∃T':TF,bY [.ref n,.int x] S=.ok (.ref S.length) (S.set n (.fdic (bC T))++[.dic (bC T')])/\FT T' (xs++[x]) (wsL KS (xs++[x])):=by
 have hnl:n<S.length:=(Ja.mp hd).1
 have hd':(S++[SO.dic []])[n]?=some (.dic (bC T)):=by rw[Jv hnl];exact hd
 have hlen:T.length<=64:=Y2 h.len (by rw[rX];exact Y2 (Zt (by decide) hx) (by decide))
 have e0:(S++[SO.dic []]).set n (.fdic (bC T))=S.set n (.fdic (bC T))++[.dic []]:=List.set_append_left _ _ hnl
 obtain⟨T',a3,a4,a5,a6,a7,e1,h1⟩:=ui (x:=x) (some (.ref n)) (m:=S.length) T (S.set n (.fdic (bC T))++[.dic []]) [] [] none none none none none (λe he=>by
  have:=h.sg e he
  exact⟨by have:=this.1.1;omega,this⟩) (by simp[bC]) ⟨(λe h=>nomatch h),(λv h=>nomatch h),J9 _⟩ (by simp;omega)
 have e2:(S.set n (.fdic (bC T))++[SO.dic []]).set S.length (.dic (bC T'))=S.set n (.fdic (bC T))++[.dic (bC T')]:=by rw[Wl _ _ (by simp)];simp
 rw[e2]at e1
 refine⟨T',?_,h.step (by simpa using h1)⟩
 exact bc (ρ:=[some (.ref n),some (.int x),none,none,none,none,none,none]) rfl ((ay (S1:=S++[.dic []]) (aK rfl)).trans ((ay (r1:=[some (.ref n),some (.int x),some (.ref S.length),a3,a4,a5,a6,a7]) ((nr (yY rfl hd')).trans (by rw[e0];exact e1))).trans (aR (ag rfl))))
theorem xH(r0:Option D):∀(xs ys:List Int)(S:Sto)(n:Nat)(T:TF)(r2:Option D),S[n]?=some (.dic (bC T))->FT T ys (wsL KS ys)->ys.length+xs.length<=6->S0.length<=n->Pre S0 S->
  ∃(S':Sto)(n':Nat)(T':TF)(r2':Option D),forL (.nm 2) foB (xs.map .int) [r0,some (.ref n),r2] S=.ok (.nx [r0,some (.ref n'),r2']) S'/\S'[n']?=some (.dic (bC T'))/\S0.length<=n'/\FT T' (ys++xs) (wsL KS (ys++xs))/\Pre S0 S'
 |[],ys,S,n,T,r2,hd,h,_,hn,p=>⟨S,n,T,r2,rfl,hd,hn,by simpa using h,p⟩
 |x::xs,ys,S,n,T,r2,hd,h,hz,hn,p=>by
  rw[Jm]at hz
  obtain⟨T1,e1,h1⟩:=uj (x:=x) hd h (by omega)
  have p1:Pre S0 (S.set n (.fdic (bC T))++[SO.dic (bC T1)]):=(p.set hn _).trans (Pre.app _ _)
  obtain⟨S2,n2,T2,a2,e2,d2,dl2,h2,p2⟩:=xH r0 xs (ys++[x]) (S.set n (.fdic (bC T))++[SO.dic (bC T1)]) S.length T1 (some (.int x)) (by simp) h1 (by simp;omega) p.len p1
  refine⟨S2,n2,T2,a2,(cP (r1:=[r0,some (.ref n),some (.int x)]) rfl (aK ((ar (ah (ag rfl) (ah (ag rfl) rfl))).trans e1))).trans e2,d2,dl2,?_,p2⟩;rw[Ye]at h2;exact h2
theorem mO(h6:xs.length<=6)(S:Sto):∃(S':Sto)(n:Nat)(T:TF),d7 [tupI xs] S=.ok (.ref n) S'/\S'[n]?=some (.dic (bC T))/\S.length<=n/\FT T xs (wsL KS xs)/\Pre S S':=by
 obtain⟨S',n,T,a2,e,hd,hdl,h,p⟩:=xH (S0:=S) (some (tupI xs)) xs [] (S++[.dic (bC [(0,[])])]) S.length [(0,[])] none (by simp) ⟨λe he=>by rw[Ju.mp he];exact⟨⟨rfl,(λq h=>nomatch h)⟩,rfl⟩,λv hv=>⟨_,.head _,(Ju.mp hv).symm⟩,J9 _⟩ (by simpa using h6) (J9 _) (Pre.app _ _)
 have e0:nM [((eC (.int 0)),(dE ao))] [some (tupI xs),none,none] S=.ok (.ref S.length) (S++[.dic (bC [(0,[])])]):=rfl;exact⟨S',n,T,bc (ρ:=[some (tupI xs),none,none]) rfl ((ay (aK e0)).trans ((ay ((gc (ag rfl) rfl).trans e)).trans (aR (ag rfl)))),hd,hdl,h,p⟩
theorem nt:∀(xs ys p q:List Int),p.length=xs.length->wor (xs++ys) (p++q)=wor xs p+wor ys q
 |[],ys,[],q,_=>by show wor ys q=0+wor ys q;omega
 |x::xs,ys,r::p,q,h=>by
  show x*r+wor (xs++ys) (p++q)=x*r+wor xs p+wor ys q
  rw[nt xs ys p q (by simpa using h)];omega
 |[],_,_::_,_,h=>by cases h
 |_::_,_,[],_,h=>by cases h
theorem qo{a b:Nat}:p∈mU K (a+b)↔∃q r,p=q++r/\q∈mU K a/\r∈mU K b:=by
 constructor
 ·intro h;obtain⟨h1,h2⟩:=(cA _ p).mp h
  exact⟨p.take a,p.drop a,(Zc a p).symm,(cA _ _).mpr ⟨by rw[Zo,h1];omega,λy hy=>h2 y (List.mem_of_mem_take hy)⟩,(cA _ _).mpr ⟨by rw[Zp,h1];omega,λy hy=>h2 y (List.mem_of_mem_drop hy)⟩⟩
 ·rintro⟨q,r,rfl,hq,hr⟩;obtain⟨q1,q2⟩:=(cA _ q).mp hq;obtain⟨r1,r2⟩:=(cA _ r).mp hr
  refine(cA _ _).mpr ⟨by rw[Jp,q1,r1],λy hy=>?_⟩
  rcases Jr.mp hy with hy|hy
  ·exact q2 y hy
  ·exact r2 y hy
theorem A8:(∃x∈wsL K xs,∃y∈wsL K ys,x+y=v)↔Wo K (xs++ys) v:=by
 rw[AX,Jp];constructor
 ·rintro⟨x,hx,y,hy,rfl⟩;obtain⟨p,hp,rfl⟩:=Y1.mp hx;obtain⟨q,hq,rfl⟩:=Y1.mp hy;exact⟨p++q,qo.mpr ⟨p,q,rfl,hp,hq⟩,nt xs ys p q ((cA _ _).mp hp).1⟩
 ·rintro⟨p,hp,rfl⟩;obtain⟨q,r,rfl,hq,hr⟩:=qo.mp hp;exact⟨_,Y1.mpr ⟨q,hq,rfl⟩,_,Y1.mpr ⟨r,hr,rfl⟩,(nt xs ys q r ((cA _ _).mp hq).1).symm⟩
theorem vZ{f:Sto->D->Option Int->Option Int->Option D}{lo hi:OM}{x z:D}{l u:Option Int}(h1:a r S=.ok x S1)(h2:lo r S1=.ok l S2)(h3:hi r S2=.ok u S3)(h4:f S3 x l u=some z):eSl f a lo hi r S=.ok z S3:=by unfold eSl;rw[h1,R.bind_ok,h2,R.bind_ok,h3,R.bind_ok,h4];rfl
theorem oz{i:Int}(h:a r S=.ok (.int i) S1):jB a r S=.ok (some i) S1:=by unfold jB;rw[h,R.bind_ok]
theorem A9(xs:List D)(m:Nat)(h:m<=xs.length):PD.cutD xs none (some (m:Int))=xs.take m:=by
 unfold PD.cutD;have e1:HT.sIx xs.length 0 none=0:=rfl
 have e2:HT.sIx xs.length xs.length (some (m:Int))=m:=by rw[HT.sIx_nat];exact Nat.min_eq_left h
 rw[e1,e2];simp
theorem um(xs:List D)(m:Nat)(h:m<=xs.length):PD.cutD xs (some (m:Int)) none=xs.drop m:=by
 unfold PD.cutD;have e1:HT.sIx xs.length xs.length none=xs.length:=rfl
 have e2:HT.sIx xs.length 0 (some (m:Int))=m:=by rw[HT.sIx_nat];exact Nat.min_eq_left h
 rw[e1,e2,Qf (by rw[Zp];omega)]
noncomputable abbrev CL:FM:=fnM 2 (aC (aT 1 (eOp jA (eB cY (af (ai 0) ao)) (eC (.int 2)))) (aV (dE (af (eSl mR (ai 0) oNo (jB (ai 1))) (af (eSl mR (ai 0) (jB (ai 1)) oNo) ao)))))
theorem lP(xs:List Int)(S:Sto):CL [tupI xs] S=.ok (.tup [tupI (xs.take (xs.length/2)),tupI (xs.drop (xs.length/2))]) S:=by
 have z2:(2:Nat)<=sizeLine:=by decide
 have hm:xs.length/2<=(xs.map D.int).length:=by rw[Jg];omega
 have hl:cY S [tupI xs]=some (.int xs.length):=by show some (D.int ((xs.map D.int).length:Int))=_;rw[Jg]
 have hd:jA S (.int xs.length) (.int 2)=some (.int ((xs.length/2:Nat):Int)):=by
  show(if (0:Int)<2/\(2:Int)<1073741824 then some (D.int ((xs.length:Int)/2)) else none)=_
  rw[J8 (by decide)]
  rfl
 have h1:mR S (tupI xs) none (some ((xs.length/2:Nat):Int))=some (tupI (xs.take (xs.length/2))):=by show some (D.tup (PD.cutD (xs.map .int) _ _))=_;rw[A9 _ _ hm,<- List.map_take]
 have h2:mR S (tupI xs) (some ((xs.length/2:Nat):Int)) none=some (tupI (xs.drop (xs.length/2))):=by show some (D.tup (PD.cutD (xs.map .int) _ _))=_;rw[um _ _ hm,<- List.map_drop]
 exact bc (ρ:=[some (tupI xs),none]) rfl ((ay (aK (ax (aW (ah (ag rfl) rfl) hl) rfl hd))).trans (aR (cX (ah (vZ (ag rfl) rfl (oz (ag rfl)) h1) (ah (vZ (ag rfl) (oz (ag rfl)) rfl h2) rfl)) z2)))
theorem eP{a:SM}{f:F}(h:a r S=.ok f S1):a r S=.ok f S1:=h
theorem Ba{x y u v:D}(hi:it ρ S=.ok [x,y] S1)(h1:e [some x] S1=.ok u S2)(h2:e [some y] S2=.ok v S3):aU it 1 [] (.nm 0) bf e ρ S=.ok (.lst [u,v]) S3:=by
 have z2:(2:Nat)<=sizeLine:=by decide
 unfold aU
 rw[hi,R.bind_ok,J8 (show[x,y].length<=sizeLine from z2)]
 have:dZ 1 [] ρ = [none]:=rfl;rw[this];simp only[cS,G.put,Yo,bf,R.bind_ok,Yd,h1,h2]
theorem v5{A:Type}{x1 x2:A->D}{out:A->D}(xs:List A)(hi:it r S=.ok (xs.map λx=>.tup [x1 x,x2 x]) S1)(hl:xs.length<=sizeLine)(hc:caps.map (λi=>(r[i]?).join)=tl)(h:∀x∈xs,e (some (x1 x)::some (x2 x)::tl) S1=.ok (out x) S1):aU it 2 caps (.tp [.nm 0,.nm 1]) bf e r S=.ok (.lst (xs.map out)) S1:=by
 unfold aU
 rw[hi,R.bind_ok,J8 (by rw[Jg];exact hl)]
 have:dZ 2 caps r=none::none::tl:=by unfold dZ;rw[hc];rfl
 rw[this,om (out:=out) xs none none h,R.bind_ok]
theorem qp{A:Type}{x1 x2:A->D}{out:A->D}{p:A->Bool}:∀(xs:List A)(r0 r1:Option D),(∀x∈xs,t (some (x1 x)::some (x2 x)::tl) S=.ok (p x) S)->(∀x∈xs,p x=true->e (some (x1 x)::some (x2 x)::tl) S=.ok (out x) S)->cS (.tp [.nm 0,.nm 1]) t e (xs.map λx=>.tup [x1 x,x2 x]) (r0::r1::tl) S=.ok ((xs.filter p).map out) S
 |[],_,_,_,_=>rfl
 |x::xs,r0,r1,ht,h=>by
  have h0:=ht x Y4;have h2:=qp (out:=out) xs (some (x1 x)) (some (x2 x)) (λy hy=>ht y (Y3 _ hy)) λy hy=>h y (Y3 _ hy);rw[Jl,cS];cases hp:p x with
  |true=>
   have h1:=h x Y4 hp;rw[hp]at h0;simp only[G.put,G.puts,Yo,Zf,R.bind_ok,Yd,h0,h1,h2,Jl,Ww,hp]
  |false=>
   rw[hp]at h0;simp only[G.put,G.puts,Yo,Zf,R.bind_ok,h0,h2,Ww,hp,Jw,Yj]
theorem v7{A:Type}{x1 x2:A->D}{out:A->D}{p:A->Bool}(xs:List A)(hi:it r S=.ok (xs.map λx=>.tup [x1 x,x2 x]) S1)(hl:xs.length<=sizeLine)(hc:caps.map (λi=>(r[i]?).join)=tl)(ht:∀x∈xs,t (some (x1 x)::some (x2 x)::tl) S1=.ok (p x) S1)(h:∀x∈xs,p x=true->e (some (x1 x)::some (x2 x)::tl) S1=.ok (out x) S1):aU it 2 caps (.tp [.nm 0,.nm 1]) t e r S=.ok (.lst ((xs.filter p).map out)) S1:=by
 unfold aU
 rw[hi,R.bind_ok,J8 (by rw[Jg];exact hl)]
 have:dZ 2 caps r=none::none::tl:=by unfold dZ;rw[hc];rfl
 rw[this,qp (out:=out) xs none none ht h,R.bind_ok]
theorem qq{m:EM}{kvs:List (KD×D)}(hm:m ρ S=.ok (.ref n) S)(h:S[n]?=some (.dic kvs)):eE m ρ S=.ok (kvs.map pairD) (S.set n (.fdic kvs)):=by unfold eE;rw[hm,R.bind_ok];simp only[h]
theorem rZ:∀{xs:List Int}{v:Int},Wo KS xs v->Wo KS xs (-v)
 |[],v,h=>by have h:v=0:=h;show -v=0;omega
 |x::xs,v,h=>by
  obtain⟨q,hq,h⟩:=h;refine⟨-q,?_,?_⟩
  ·rcases kJ hq with rfl|rfl<;>decide
  ·rw[show -v-x * -q = -(v-x*q) by rw[Int.mul_neg];omega]
   exact rZ h
theorem Bb:∀xs:List Int,Wo KS xs xs.sum
 |[]=>rfl
 |x::xs=>⟨1,by decide,by
  rw[Yl,show x+xs.sum-x*1=xs.sum by omega]
  exact Bb xs⟩
theorem xI:∀{xs:List Int},(∀x∈xs,1<=x)->0<=xs.sum
 |[],_=>Z6 _
 |x::xs,h=>by have h1:=h x (.head _);have h2:=xI λy hy=>h y (.tail _ hy);rw[Yl];omega
theorem iJ(h:Row xs)(v:Int)(S:Sto):aD [tupI xs,.int v] S=.ok .non S:=by
 have e2:ck [.int v] S=.ok .non S:=by have e:=t6 (d:=.int v) (S:=S) rfl;have e':isI (.int v)=true:=rfl;rw[e']at e;simp[ck,fnM,fC,sIf,bL,tNx,R.nx,PD.gI,tV,aw,ai,af,ao,R.bind,e]
 refine rO (ρ:=[some (tupI xs),some (.int v)]) rfl ((ay (bo ((ar (ah (ag rfl) rfl)).trans (cD h S)))).trans (bo ((ar (ah (ag rfl) rfl)).trans e2)))
theorem oA{x y:D}:gn S (.lst [x,y]) (.int 0)=some x/\gn S (.lst [x,y]) (.int 1)=some y:=⟨rfl,rfl⟩
theorem GQ{m k:EM}(hd:dAt S n T)(hm:m ρ S=.ok (.ref n) S)(hk:k ρ S=.ok (.int v) S):fY m k (eC (.int 0)) ρ S=.ok (.int (gT T v)) S:=by rw[<- ou];exact kH hm hd.dic hk rfl hd.dic rfl
theorem CM(h10:xs.length<=10)(hr:Row xs)(v:Int)(S:Sto):∃(S':Sto)(A B:List (Int×Int)),cI [tupI xs,.int v] S=.ok (.int (sumH (λx=>gT B (v-x)) A)) S'/\Pre S S'/\Hist A (wsL KS (xs.take (xs.length/2)))/\Hist B (wsL KS (xs.drop (xs.length/2))):=by
 have hk:∀q∈KS,-1<=q/\q<=1:=by decide
 have z:(1000:Nat)<=sizeLine:=by decide
 have hl1:(xs.take (xs.length/2)).length<=5:=by rw[Zo];omega
 have hl2:(xs.drop (xs.length/2)).length<=5:=by rw[Zp];omega
 have bnd:∀ys:List Int,ys.length<=5->(wsL KS ys).length<=32:=λys h=>by
  rw[rX]
  exact Y2 (Zt (by decide) h) (by decide)
 obtain⟨S1,a,A,eA,dA,la,hA,pA⟩:=gi (K:=KS) (xs:=xs.take (xs.length/2)) (by decide) hk (by omega) S
 obtain⟨S2,b,B,eB,dB,lb,hB,pB⟩:=gi (K:=KS) (xs:=xs.drop (xs.length/2)) (by decide) hk (by omega) S1
 have hal:a<S1.length:=(Ja.mp dA).1
 have dA2:S2[a]?=some (.dic (aX A)):=by rw[pB.old a hal];exact dA
 have hab:a≠b:=by omega
 have lA:A.length<=32:=Y2 hA.len (bnd _ hl1);refine⟨S2.set a (.fdic (aX A)),A,B,?_,(pA.trans pB).set la _,hA,hB⟩
 have hc:aU (bN (aw br (af (ai 0) ao)) bw) 1 [] (.nm 0) bf (aw cc (af (ai 0) (af (eC (.tup (([(-1),(1)]:List Int).map .int))) ao))) [some (tupI xs),some (.int v),none] S=.ok (.lst [.ref a,.ref b]) S2:=
  Ba (S1:=S) (by unfold bN;rw[(ar (ah (ag rfl) rfl)).trans (show br [tupI xs] S=_ from lP xs S),R.bind_ok];rfl) ((ar (ah (ag rfl) (ah rfl rfl))).trans eA) ((ar (ah (ag rfl) (ah rfl rfl))).trans eB)
 have hdB:dAt (S2.set a (.fdic (aX A))) b B:=dAt.set (.inl dB) hab
 have hsm:=vX hA (by have:=bnd _ hl1;omega)
 have hs:aU (eE (eOp gn (ai 2) (eC (.int 0)))) 2 [2,1] (.tp [(.nm 0),(.nm 1)]) bf (eOp cq (ai 1) (fY (eOp gn (ai 2) (eC (.int 1))) (eOp fJ (ai 3) (ai 0)) (eC (.int 0)))) [some (tupI xs),some (.int v),some (.lst [.ref a,.ref b])] S2=.ok (.lst (A.map λe=>D.int (e.2*gT B (v-e.1)))) (S2.set a (.fdic (aX A))):=
  v5 (x1:=λe:Int×Int=>.int e.1) (x2:=λe=>.int e.2) (tl:=[some (.lst [.ref a,.ref b]),some (.int v)]) A ((qq (ax (ag rfl) rfl oA.1) dA2).trans (by unfold aX;rw[Yn];rfl)) (by omega) rfl λe he=>
   ax (ag rfl) (GQ hdB (ax (ag rfl) rfl oA.2) (ax (ag rfl) (ag rfl) rfl)) (fA (.inl (hsm e he)))
 have hsum:(A.map λe=>e.2*gT B (v-e.1)).sum=sumH (λx=>gT B (v-x)) A:=by unfold sumH;congr 1;exact Z8 λe _=>Us _ _
 rw[<- hsum];exact bc (ρ:=[some (tupI xs),some (.int v),none]) rfl ((ay (bo ((ar (ah (ag rfl) (ah (ag rfl) rfl))).trans (iJ hr v S)))).trans ((ay (eP (aK hc))).trans (eP (aR (aW (ah hs rfl) Fn)))))
theorem inF{T:TF}(h:S[n]?=some (.dic (bC T)))(k:Int):lG false S (.int k) (.ref n)=some (.bl (gF T k).isSome):=by
 have hd:dh S (.ref n)=some (bC T):=by simp[dh,h]
 have hs:bu S (.ref n)=none:=by simp[bu,h]
 unfold lG;rw[hs];simp only[U7,Jw,Yj];unfold vG;simp[hd,ju,oy]
theorem ixF{T:TF}(h:S[n]?=some (.dic (bC T))){k:Int}{u:List Int}(hu:gF T k=some u):gn S (.ref n) (.int k)=some (tupI u):=by
 have hd:dh S (.ref n)=some (bC T):=by simp[dh,h]
 have hs:bu S (.ref n)=none:=by simp[bu,h]
 unfold gn;rw[hs];simp only[U7,Jw,Yj];unfold Co;simp only[hd,ju];rw[oy,hu];rfl
theorem oB:∀ms:List (List Int),gO (ms.map tupI)=some ms
 |[]=>rfl
 |m::ms=>by
  have ih:=oB ms
  show(match intsOf (m.map .int),gO (ms.map tupI) with
   |some n,some ns=>some (n::ns)
   |_,_=>none)=_
  rw[ih,eg]
noncomputable def yZ(A B:TF)(v:Int):List (List Int):=(A.filter λe=>(gF B (v-e.1)).isSome).map λe=>e.2++(gF B (v-e.1)).getD []
theorem Fw{T:TF}{k:Int}(h:∃e∈T,e.1=k):∃u,gF T k=some u:=by
 cases hg:gF T k with
 |some u=>exact⟨u,rfl⟩
 |none=>
  obtain⟨e,he,z⟩:=h;exact absurd z (CK hg e he)
theorem xJ:∀(l:List (List Int))(m:List Int),nU m l∈m::l
 |[],m=>.head _
 |x::l,m=>by
  have h:=xJ l (if ltZ x m=true then x else m)
  show nU (if ltZ x m=true then x else m) l∈m::x::l
  rcases Jj.mp h with e|e
  ·rw[e];split
   ·exact .tail _ (.head _)
   ·exact .head _
  ·exact .tail _ (.tail _ e)
theorem Sg.app{q:List Int}(a:Sg xs v p)(b:Sg ys w q):Sg (xs++ys) (v+w) (p++q):=
 ⟨⟨by rw[Jp,Jp,a.1.1,b.1.1],λy hy=>(Jr.mp hy).elim (a.1.2 y) (b.1.2 y)⟩,by rw[nt _ _ _ _ a.1.1,a.2,b.2]⟩
theorem Fx{A B:TF}(hA:FT A xs (wsL KS xs))(hB:FT B ys (wsL KS ys)){m:List Int}(h:m∈yZ A B v):Sg (xs++ys) v m:=by
 obtain⟨e,he,rfl⟩:=Y1.mp h;obtain⟨he,hs⟩:=Yq.mp he;cases hg:gF B (v-e.1) with
 |none=>rw[hg]at hs;cases hs
 |some u=>
  have:=(hA.sg e he).app (hB.sg _ (rY hg))
  rw[show e.1+((v-e.1,u):Int×List Int).1=v by show e.1+(v-e.1)=v;omega]at this
  exact this
theorem CN{A B:TF}(hA:FT A xs (wsL KS xs))(hB:FT B ys (wsL KS ys))(h:Wo KS (xs++ys) v):yZ A B v≠[]:=by
 obtain⟨x,hx,y,hy,rfl⟩:=A8.mpr h;obtain⟨e,he,rfl⟩:=hA.cov x hx;obtain⟨u,hu⟩:=Fw (hB.cov y hy)
 have hm:e.2++(gF B (e.1+y-e.1)).getD []∈yZ A B (e.1+y):=Y1.mpr ⟨e,Yq.mpr ⟨he,by rw[show e.1+y-e.1=y by omega,hu];rfl⟩,rfl⟩
 intro z;rw[z]at hm;cases hm
theorem CO(S:Sto)(m:List Int)(l:List (List Int)):mB S [.lst ((m::l).map tupI)]=some (tupI (nU m l)):=by have e:=oB (m::l);rw[Jl]at e ⊢;unfold mB;simp only[kn,e]
theorem uo(h10:xs.length<=10)(hr:Row xs)(hv:Wo KS xs v)(S:Sto):∃(S':Sto)(p:List Int),cO [tupI xs,.int v] S=.ok (tupI p) S'/\Pre S S'/\Sg xs v p:=by
 have z:(1000:Nat)<=sizeLine:=by decide
 have hl1:(xs.take (xs.length/2)).length<=5:=by rw[Zo];omega
 have hl2:(xs.drop (xs.length/2)).length<=5:=by rw[Zp];omega
 obtain⟨S1,a,A,eA,dA,la,hA,pA⟩:=mO (xs:=xs.take (xs.length/2)) (by omega) S
 obtain⟨S2,b,B,eB,dB,lb,hB,pB⟩:=mO (xs:=xs.drop (xs.length/2)) (by omega) S1
 have hal:a<S1.length:=(Ja.mp dA).1
 have dA2:S2[a]?=some (.dic (bC A)):=by rw[pB.old a hal];exact dA
 have hab:a≠b:=by omega
 have lA:A.length<=32:=Y2 hA.len (by rw[rX];exact Y2 (Zt (by decide) hl1) (by decide))
 have dB2:(S2.set a (.fdic (bC A)))[b]?=some (.dic (bC B)):=by rw[Yc hab];exact dB
 have hc:aU (bN (aw br (af (ai 0) ao)) bw) 1 [] (.nm 0) bf (aw d7 (af (ai 0) ao)) [some (tupI xs),some (.int v),none,none] S=.ok (.lst [.ref a,.ref b]) S2:=
  Ba (S1:=S) (by unfold bN;rw[(ar (ah (ag rfl) rfl)).trans (show br [tupI xs] S=_ from lP xs S),R.bind_ok];rfl) ((ar (ah (ag rfl) rfl)).trans eA) ((ar (ah (ag rfl) rfl)).trans eB)
 have hs:aU (eE (eOp gn (ai 2) (eC (.int 0)))) 2 [2,1] (.tp [(.nm 0),(.nm 1)]) (tV (eOp (lG false) (eOp fJ (ai 3) (ai 0)) (eOp gn (ai 2) (eC (.int 1))))) (eOp ba (ai 1) (eOp gn (eOp gn (ai 2) (eC (.int 1))) (eOp fJ (ai 3) (ai 0)))) [some (tupI xs),some (.int v),some (.lst [.ref a,.ref b]),none] S2=.ok (.lst ((yZ A B v).map tupI)) (S2.set a (.fdic (bC A))):=by
  have:=v7 (x1:=λe:Int×List Int=>.int e.1) (x2:=λe=>tupI e.2) (out:=λe=>tupI (e.2++(gF B (v-e.1)).getD [])) (p:=λe=>(gF B (v-e.1)).isSome) (t:=tV (eOp (lG false) (eOp fJ (ai 3) (ai 0)) (eOp gn (ai 2) (eC (.int 1))))) (e:=eOp ba (ai 1) (eOp gn (eOp gn (ai 2) (eC (.int 1))) (eOp fJ (ai 3) (ai 0)))) (it:=eE (eOp gn (ai 2) (eC (.int 0)))) (caps:=[2,1]) (tl:=[some (.lst [.ref a,.ref b]),some (.int v)]) (r:=[some (tupI xs),some (.int v),some (.lst [.ref a,.ref b]),none]) (S:=S2) (S1:=S2.set a (.fdic (bC A))) A ((qq (ax (ag rfl) rfl oA.1) dA2).trans (by unfold bC;rw[Yn];rfl)) (by omega) rfl
   (λe he=>bX (ax (ax (ag rfl) (ag rfl) rfl) (ax (ag rfl) rfl oA.2) (inF dB2 _)))
   (λe he hp=>by
    cases hg:gF B (v-e.1) with
    |none=>rw[hg]at hp;cases hp
    |some u=>
     have l1:=(hA.sg e he).1.1;have l2:=(hB.sg _ (rY hg)).1.1;refine ax (ag rfl) (ax (ax (ag rfl) rfl oA.2) (ax (ag rfl) (ag rfl) rfl) (ixF dB2 hg)) ?_;have l2:u.length=(xs.drop (xs.length/2)).length:=l2
     refine(lO (by rw[Jg,Jg];omega)).trans ?_
     simp[tupI])
  unfold yZ;rw[Yn];exact this
 have hx:xs.take (xs.length/2)++xs.drop (xs.length/2)=xs:=Zc _ _
 have hne:=CN hA hB (v:=v) (by rw[hx];exact hv)
 cases hm:yZ A B v with
 |nil=>exact absurd hm hne
 |cons m l=>
  rw[hm]at hs;refine⟨S2.set a (.fdic (bC A)),nU m l,?_,(pA.trans pB).set la _,?_⟩
  ·exact bc (ρ:=[some (tupI xs),some (.int v),none,none]) rfl ((ay (bo ((ar (ah (ag rfl) (ah (ag rfl) rfl))).trans (iJ hr v S)))).trans ((ay (eP (aK hc))).trans ((ay (eP (aK hs))).trans (eP (aR (aW (ah (ag rfl) rfl) (CO _ m l)))))))
  ·have h2:=Fx hA hB (v:=v) (by rw[hm];exact xJ l m)
   rw[hx]at h2;exact h2
noncomputable def wlk(A B:List Int)(v:Int):Nat->Nat->Nat->List (Nat×Nat×Int)
 |0,_,_=>[]
 |n+1,i,j=>if i<A.length/\1<=j then (i,j-1,A.getD i 0+B.getD (j-1) 0)::(if A.getD i 0+B.getD (j-1) 0<v then wlk A B v n (i+1) j else wlk A B v n i (j-1)) else []
theorem rise(h:A.Pairwise (· <= ·)){j:Nat}(hij:i<=j)(hj:j<A.length):A.getD i 0<=A.getD j 0:=by
 have hi:i<A.length:=by omega
 rw[Jn,Jn,Jd hi,Jd hj];by_cases e:i=j
 ·subst e;exact Z6 _
 ·exact Q6.mp h i j hi hj (by omega)
theorem j0(hA:A.Pairwise (· <= ·))(hB:B.Pairwise (· <= ·)){p q:Nat}(hp:p<A.length)(hq:q<B.length)(hv:v<=A.getD p 0+B.getD q 0)
  (hm:∀x y,x<A.length->y<B.length->v<=A.getD x 0+B.getD y 0->A.getD p 0+B.getD q 0<=A.getD x 0+B.getD y 0):
  ∀(n i j:Nat),(A.length-i)+j<=n->i<=p->q<j->j<=B.length->∃e∈wlk A B v n i j,e.2.2=A.getD p 0+B.getD q 0
 |0,i,j,h,h1,h2,_=>by omega
 |n+1,i,j,h,h1,h2,h3=>by
  unfold wlk
  rw[J8 ⟨by omega,by omega⟩]
  by_cases hlt:A.getD i 0+B.getD (j-1) 0<v
  ·rw[J8 hlt];by_cases e:i=p
   ·subst e
    have:=rise hB (i:=q) (j:=j-1) (by omega) (by omega)
    omega
   ·obtain⟨x,hx,e2⟩:=j0 hA hB hp hq hv hm n (i+1) j (by omega) (by omega) h2 h3
    exact⟨x,.tail _ hx,e2⟩
  ·rw[Jb hlt];by_cases e:j-1=q
   ·rw[e]at hlt ⊢;refine⟨_,.head _,?_⟩;have a1:=rise hA h1 hp
    have a2:=hm i q (by omega) hq (by omega)
    show A.getD i 0+B.getD q 0=_;omega
   ·obtain⟨x,hx,e2⟩:=j0 hA hB hp hq hv hm n i (j-1) (by omega) h1 (by omega) (by omega)
    exact⟨x,.tail _ hx,e2⟩
theorem oC:∀(n i j:Nat),j<=B.length->∀e∈wlk A B v n i j,∃x y,x<A.length/\y<B.length/\e=(x,y,A.getD x 0+B.getD y 0)
 |0,_,_,_,e,he=>by cases he
 |n+1,i,j,hj,e,he=>by
  unfold wlk at he;by_cases h:i<A.length/\1<=j
  ·rw[J8 h]at he;rcases Jj.mp he with rfl|he
   ·exact⟨i,j-1,h.1,by omega,rfl⟩
   ·by_cases hlt:A.getD i 0+B.getD (j-1) 0<v
    ·rw[J8 hlt]at he;exact oC n (i+1) j hj e he
    ·rw[Jb hlt]at he;exact oC n i (j-1) (by omega) e he
  ·rw[Jb h]at he;cases he
theorem oD{A B:List Int}{v:Int}:∀(n i j:Nat),(wlk A B v n i j).length<=n
 |0,_,_=>J9 _
 |n+1,i,j=>by
  unfold wlk;split
  ·rw[Jm];split
   ·have:=oD (A:=A) (B:=B) (v:=v) n (i+1) j;omega
   ·have:=oD (A:=A) (B:=B) (v:=v) n i (j-1);omega
  ·simp
theorem Bc(h:x∈A):∃p,p<A.length/\A.getD p 0=x:=by
 obtain⟨p,hp,e⟩:=Qs.mp h
 exact⟨p,hp,by rw[Jn,Jd hp];exact e⟩
theorem getD_mem'{p:Nat}(h:p<A.length):A.getD p 0∈A:=by rw[Jn,Jd h];exact Qw h
noncomputable def Bd(A B:List Int):List Int:=A.flatMap λx=>B.map λy=>x+y
theorem oE{s:Int}:s∈Bd A B↔∃x∈A,∃y∈B,x+y=s:=by simp[Bd]
theorem Be{l:List Int}{s:Int}(h:s∈l):∃m∈l,∀x∈l,m<=x:=by
 match l,h with
 |a::r,_=>
  obtain⟨⟨h1,h2⟩,h3⟩:=ni r a;refine⟨eR a r,?_,λx hx=>?_⟩
  ·rcases h3 with e|e
   ·rw[e];exact .head _
   ·exact .tail _ e
  ·rcases Jj.mp hx with rfl|hx
   ·exact h1
   ·exact h2 x hx
theorem v8(hA:A.Pairwise (· <= ·))(hB:B.Pairwise (· <= ·)){y:Int}(hx:x∈A)(hy:y∈B)(h:v<=x+y):∃e∈wlk A B v (A.length+B.length) 0 B.length,v<=e.2.2/\e.2.2<=x+y:=by
 have hs:x+y∈(Bd A B).filter λs=>decide (v<=s):=Yq.mpr ⟨oE.mpr ⟨x,hx,y,hy,rfl⟩,by simpa using h⟩
 obtain⟨m,hm,hle⟩:=Be hs;obtain⟨hm1,hm2⟩:=Yq.mp hm;obtain⟨a,ha,b,hb,rfl⟩:=oE.mp hm1;obtain⟨p,hp,rfl⟩:=Bc ha;obtain⟨q,hq,rfl⟩:=Bc hb
 have hv:v<=A.getD p 0+B.getD q 0:=by simpa using hm2
 obtain⟨e,he,ee⟩:=j0 hA hB hp hq hv (λi j hi hj hij=>hle _ (Yq.mpr ⟨oE.mpr ⟨_,getD_mem' hi,_,getD_mem' hj,rfl⟩,by simpa using hij⟩)) (A.length+B.length) 0 B.length (by omega) (Y0 _) hq (J9 _)
 exact⟨e,he,by rw[ee];exact hv,by rw[ee];exact hle _ hs⟩
noncomputable def eW(e:Nat×Nat×Int):D:=.tup [.int e.1,.int e.2.1,.int e.2.2]
theorem Fy{a b:TM}(h:a r S=.ok true S1):PD.nz a b r S=b r S1:=by unfold PD.nz;rw[h,R.bind_ok];exact J8 rfl
theorem Fz{a b:TM}(h:a r S=.ok false S1):PD.nz a b r S=.ok false S1:=by unfold PD.nz;rw[h,R.bind_ok];exact Jb Jk
noncomputable abbrev wkT:TM:=(PD.nz (tV (eOp oLt (ai 4) (eB cY (af (eOp oIx (ai 2) (eC (.int 0))) ao)))) (tV (eOp oGe (ai 5) (eC (.int 0)))))
noncomputable abbrev wkB:SM:=(aC (aT 6 (eOp ba (eOp oIx (eOp oIx (ai 2) (eC (.int 0))) (ai 4)) (eOp oIx (eOp oIx (ai 2) (eC (.int 1))) (ai 5)))) (aC (bW (ki cu (ai 3) (af (dE (af (ai 4) (af (ai 5) (af (ai 6) ao)))) ao))) (sIf (tV (eOp oLt (ai 6) (ai 1))) (aT 4 (eOp ba (ai 4) (eC (.int 1)))) (aT 5 (eOp fJ (ai 5) (eC (.int 1)))))))
theorem qJ(h:i<A.length):oIx S (tupI A) (.int (i:Int))=some (.int (A.getD i 0)):=by
 show atI (A.map D.int) (i:Int)=_
 rw[nP (by rw[Jg];exact h),Jn,Jd h];simp
theorem iK:cY S [tupI A]=some (.int A.length):=by show some (D.int ((A.map D.int).length:Int))=_;rw[Jg]
theorem CP(r0 r3 r6:Option D)(i j:Nat)(S:Sto):wkT [r0,some (.int v),some (.tup [tupI A,tupI B]),r3,some (.int i),some (.int ((j:Int)-1)),r6] S=.ok (decide (i<A.length/\1<=j)) S:=by
 have h1:tV (eOp oLt (ai 4) (eB cY (af (eOp oIx (ai 2) (eC (.int 0))) ao))) [r0,some (.int v),some (.tup [tupI A,tupI B]),r3,some (.int i),some (.int ((j:Int)-1)),r6] S=.ok (decide ((i:Int)<A.length)) S:=
  bX (ax (ag rfl) (aW (ah (ax (x:=.tup [tupI A,tupI B]) (ag rfl) rfl rfl) rfl) iK) rfl)
 have h2:tV (eOp oGe (ai 5) (eC (.int 0))) [r0,some (.int v),some (.tup [tupI A,tupI B]),r3,some (.int i),some (.int ((j:Int)-1)),r6] S=.ok (decide ((j:Int)-1 >= 0)) S:=bX (ax (ag rfl) rfl rfl);by_cases g:i<A.length
 ·rw[Jx (show(i:Int)<A.length by omega)]at h1
  rw[show wkT=PD.nz _ _ from rfl,Fy h1,h2]
  congr 1;rw[Wx];omega
 ·rw[Jz (show ¬(i:Int)<A.length by omega)]at h1
  rw[show wkT=PD.nz _ _ from rfl,Fz h1,Jz (by omega)]
def WkC(A B:List Int)(v:Int)(r0:Option D)(m n:Nat):Prop:=∀(i j:Nat)(S:Sto)(w:List D)(r6:Option D),(A.length-i)+j<=n->j<=B.length->S[m]?=some (.lst w)->w.length+n<=1000->
 ∃r4 r5 r6':Option D,bS wkT wkB (n+1) [r0,some (.int v),some (.tup [tupI A,tupI B]),some (.ref m),some (.int i),some (.int ((j:Int)-1)),r6] S=.ok (.nx [r0,some (.int v),some (.tup [tupI A,tupI B]),some (.ref m),r4,r5,r6']) (S.set m (.lst (w++(wlk A B v n i j).map eW)))
theorem xK(r0:Option D)(ih:∀k,n=k+1->WkC A B v r0 m k):WkC A B v r0 m n:=λi j S w r6 h1 h2 hm hz=>by
  have hml:m<S.length:=(Ja.mp hm).1
  have same:S.set m (.lst w)=S:=by have e:=(Ja.mp hm).2;rw[<- e];exact Q5 hml
  have ht:=CP (A:=A) (B:=B) (v:=v) r0 (some (.ref m)) r6 i j S;by_cases g:i<A.length/\1<=j
  ·rw[Jx g]at ht
   obtain⟨k,rfl⟩:∃k,n=k+1:=⟨n-1,by omega⟩
   have z3:(3:Nat)<=sizeLine:=by decide
   have z:(1000:Nat)<=sizeLine:=by decide
   have hj:((j:Int)-1)=((j-1:Nat):Int):=by omega
   have hL:isL S (.ref m)=true:=by simp[isL,hm]
   -- the body,up to its last choice
   have hb:∀(k1:SM),aC (aT 6 (eOp ba (eOp oIx (eOp oIx (ai 2) (eC (.int 0))) (ai 4)) (eOp oIx (eOp oIx (ai 2) (eC (.int 1))) (ai 5)))) (aC (bW (ki cu (ai 3) (af (dE (af (ai 4) (af (ai 5) (af (ai 6) ao)))) ao))) k1) [r0,some (.int v),some (.tup [tupI A,tupI B]),some (.ref m),some (.int i),some (.int ((j-1:Nat):Int)),r6] S
     = k1 [r0,some (.int v),some (.tup [tupI A,tupI B]),some (.ref m),some (.int i),some (.int ((j-1:Nat):Int)),some (.int (A.getD i 0+B.getD (j-1) 0))] (S.set m (.lst (w++[eW (i,j-1,A.getD i 0+B.getD (j-1) 0)]))):=λk1=>by
    refine(ay (aK (ax (ax (ax (x:=.tup [tupI A,tupI B]) (ag rfl) rfl rfl) (ag rfl) (qJ g.1)) (ax (ax (x:=.tup [tupI A,tupI B]) (ag rfl) rfl rfl) (ag rfl) (qJ (by omega))) rfl))).trans (ay (bo (d:=.non) ((rP (ys:=[eW (i,j-1,A.getD i 0+B.getD (j-1) 0)]) (ag rfl) hL (ah (cX (xs:=[.int i,.int ((j-1:Nat):Int),.int (A.getD i 0+B.getD (j-1) 0)]) rfl z3) rfl)).trans ?_)))
    unfold cu;simp only[hm]
    rw[J8 (by omega)]
   unfold bS
   rw[ht,R.bind_ok,J8 rfl,hj,show wkB=aC _ (aC _ _) from rfl,hb]
   have hw:wlk A B v (k+1) i j=(i,j-1,A.getD i 0+B.getD (j-1) 0)::(if A.getD i 0+B.getD (j-1) 0<v then wlk A B v k (i+1) j else wlk A B v k i (j-1)):=by rw[wlk,J8 g]
   rw[hw];have hm':(S.set m (.lst (w++[eW (i,j-1,A.getD i 0+B.getD (j-1) 0)])))[m]?=some (.lst (w++[eW (i,j-1,A.getD i 0+B.getD (j-1) 0)])):=Y8 hml;by_cases hlt:A.getD i 0+B.getD (j-1) 0<v
   ·obtain⟨r4,r5,r6',e⟩:=ih k rfl (i+1) j _ _ (some (.int (A.getD i 0+B.getD (j-1) 0))) (by omega) h2 hm' (by simp;omega)
    refine⟨r4,r5,r6',?_⟩;rw[J8 hlt,(Du (bX (ax (ag rfl) (ag rfl) (Zv (λb=>some (D.bl b)) (Jx hlt))))).trans (aK (ax (ag rfl) rfl rfl)),R.bind_ok];rw[hj,Wn,Ye]at e;exact e
   ·obtain⟨r4,r5,r6',e⟩:=ih k rfl i (j-1) _ _ (some (.int (A.getD i 0+B.getD (j-1) 0))) (by omega) (by omega) hm' (by simp;omega)
    refine⟨r4,r5,r6',?_⟩;rw[Jb hlt,(fH (bX (ax (ag rfl) (ag rfl) (Zv (λb=>some (D.bl b)) (Jz hlt))))).trans (aK (ax (ag rfl) rfl rfl)),R.bind_ok];rw[Wn,Ye]at e;exact e
  ·rw[Jz g]at ht
   have hw:wlk A B v n i j=[]:=by
    cases n with
    |zero=>rfl
    |succ n=>rw[wlk,Jb g]
   refine⟨some (.int i),some (.int ((j:Int)-1)),r6,?_⟩;unfold bS;rw[ht,R.bind_ok,Jb Jk,hw,V4,Yr,same]
theorem xN(r0:Option D):∀n:Nat,WkC A B v r0 m n
 |0=>xK r0 λ_ e=>Nat.noConfusion e
 |n+1=>xK r0 λk e=>(Nat.succ.inj e)▸xN r0 n
theorem CQ{a:TM}{b:Bool}(h:a r S=.ok b S1):a r S=.ok b S1:=h
theorem qr:∀T:List (Int×Int),g8 (aX T)=some (T.map (·.1))
 |[]=>rfl
 |e::T=>by show(g8 (aX T)).map (e.1 :: ·)=_;rw[qr T];rfl
noncomputable def wsS(T:List (Int×Int)):List Int:=jC (T.map (·.1))
theorem v9(h:dAt S n T)(hz:T.length<=1000):vM S [.ref n]=some (.lst ((wsS T).map .int)):=by
 have z:(1000:Nat)<=sizeLine:=by decide
 show(match tQ S (.ref n) with|some ns=>if ns.length<=sizeLine then some (D.lst ((jC ns).map .int)) else none|none=>none)=_
 have e:tQ S (.ref n)=some (T.map (·.1)):=by unfold tQ;rw[h.seq];simp only[h.dic,qr]
 rw[e];dsimp only
 rw[J8 (by rw[Jg];omega)]
 rfl
theorem kK{f:List Int}(h:Hist T f)(w:Int):w∈wsS T↔w∈f:=by unfold wsS;rw[(eV _).mem_iff,Y1,<- h.mem w]
theorem r9(T:List (Int×Int)):(wsS T).length=T.length:=by unfold wsS;rw[(eV _).length_eq,Jg]
theorem nu{l:List D}:de S [.lst l]=some (.tup l):=rfl
theorem GR(h12:xs.length<=12)(hr:Row xs)(S:Sto):∃(S':Sto)(A B:List (Int×Int)),cL [tupI xs] S=.ok (.tup [tupI (wsS A),tupI (wsS B)]) S'/\Pre S S'/\Hist A (wsL KS (xs.take (xs.length/2)))/\Hist B (wsL KS (xs.drop (xs.length/2)))/\A.length<=64/\B.length<=64:=by
 have hk:∀q∈KS,-1<=q/\q<=1:=by decide
 have hl1:(xs.take (xs.length/2)).length<=6:=by rw[Zo];omega
 have hl2:(xs.drop (xs.length/2)).length<=6:=by rw[Zp];omega
 have bnd:∀ys:List Int,ys.length<=6->(wsL KS ys).length<=64:=λys h=>by
  rw[rX]
  exact Y2 (Zt (by decide) h) (by decide)
 obtain⟨S1,a,A,tA,dA,la,hA,pA⟩:=gi (K:=KS) (xs:=xs.take (xs.length/2)) (by decide) hk (by omega) S
 obtain⟨S2,b,B,tB,dB,lb,hB,pB⟩:=gi (K:=KS) (xs:=xs.drop (xs.length/2)) (by decide) hk (by omega) S1
 have lA:A.length<=64:=Y2 hA.len (bnd _ hl1);have lB:B.length<=64:=Y2 hB.len (bnd _ hl2);refine⟨S2,A,B,?_,pA.trans pB,hA,hB,lA,lB⟩
 have hc:aU (bN (aw br (af (ai 0) ao)) bw) 1 [] (.nm 0) bf (eB de (af (eB vM (af (aw cc (af (ai 0) (af (eC (.tup (([(-1),(1)]:List Int).map .int))) ao))) ao)) ao)) [some (tupI xs)] S=.ok (.lst [tupI (wsS A),tupI (wsS B)]) S2:=
  Ba (S1:=S) (by unfold bN;rw[(ar (ah (ag rfl) rfl)).trans (show br [tupI xs] S=_ from lP xs S),R.bind_ok];rfl)
   (aW (ah (aW (ah ((ar (ah (ag rfl) (ah rfl rfl))).trans tA) rfl) (v9 (.inl dA) (by omega))) rfl) nu)
   (aW (ah (aW (ah ((ar (ah (ag rfl) (ah rfl rfl))).trans tB) rfl) (v9 (.inl dB) (by omega))) rfl) nu)
 exact bc (ρ:=[some (tupI xs)]) rfl ((ay (bo ((ar (ah (ag rfl) rfl)).trans (cD hr S)))).trans (eP (aR (aW (ah hc rfl) nu))))
noncomputable abbrev wkL(A B:List (Int×Int))(v:Int):List (Nat×Nat×Int):=wlk (wsS A) (wsS B) v ((wsS A).length+(wsS B).length) 0 (wsS B).length
theorem CS(h12:xs.length<=12)(hr:Row xs)(v:Int)(S:Sto):∃(S':Sto)(m:Nat)(A B:List (Int×Int)),g9 [tupI xs,.int v] S=.ok (.ref m) S'/\S'[m]?=some (.lst ((wkL A B v).map eW))/\Pre S S'/\Hist A (wsL KS (xs.take (xs.length/2)))/\Hist B (wsL KS (xs.drop (xs.length/2)))/\(wkL A B v).length<=128/\S.length<=m:=by
 obtain⟨S1,A,B,e1,p1,hA,hB,lA,lB⟩:=GR h12 hr S
 have hlen:(wsS A).length+(wsS B).length<=128:=by rw[r9,r9];omega
 obtain⟨r4,r5,r6,e2⟩:=xN (A:=wsS A) (B:=wsS B) (v:=v) (some (tupI xs)) (m:=S1.length) ((wsS A).length+(wsS B).length) 0 (wsS B).length (S1++[.lst []]) [] none (by omega) (J9 _) (by simp) (by simp;omega)
 have hset:(S1++[SO.lst []]).set S1.length (.lst ([]++(wkL A B v).map eW))=S1++[.lst ((wkL A B v).map eW)]:=by simp
 refine⟨S1++[.lst ((wkL A B v).map eW)],S1.length,A,B,?_,by simp,p1.trans (Pre.app _ _),hA,hB,Y2 (oD _ _ _) hlen,p1.len⟩
 have e3:sWh wkT wkB [some (tupI xs),some (.int v),some (.tup [tupI (wsS A),tupI (wsS B)]),some (.ref S1.length),some (.int ((0:Nat):Int)),some (.int (((wsS B).length:Int)-1)),none] (S1++[.lst []])=.ok (.nx [some (tupI xs),some (.int v),some (.tup [tupI (wsS A),tupI (wsS B)]),some (.ref S1.length),r4,r5,r6]) (S1++[.lst ((wkL A B v).map eW)]):=by rw[Ac _ (by rw[e2];exact λz=>by cases z),e2,hset]
 refine bc (ρ:=[some (tupI xs),some (.int v),none,none,none,none,none]) rfl ?_;refine(ay (aK ((ar (ah (ag rfl) rfl)).trans e1))).trans ?_;refine(ay (S1:=S1++[.lst []]) (eP (aK rfl))).trans ?_;refine(ay (eP (aK rfl))).trans ?_;refine(ay (eP (aK (ax (aW (ah (ax (x:=.tup [tupI (wsS A),tupI (wsS B)]) (ag rfl) rfl rfl) rfl) iK) rfl rfl)))).trans ?_;exact(ay (eP e3)).trans (eP (aR (ag rfl)))
theorem Bf{m:EM}{xs:List D}(h:m r S=.ok (.ref n) S1)(hn:S1[n]?=some (.lst xs)):rM m r S=.ok xs (S1.set n (.flst xs)):=by unfold rM;rw[h,R.bind_ok];simp only[hn]
theorem qu{A:Type}{x1 x2 x3:A->D}{out:A->D}{p:A->Bool}:∀(xs:List A)(r0 r1 r2:Option D),(∀x∈xs,t (some (x1 x)::some (x2 x)::some (x3 x)::tl) S=.ok (p x) S)->(∀x∈xs,p x=true->e (some (x1 x)::some (x2 x)::some (x3 x)::tl) S=.ok (out x) S)->cS (.tp [.nm 0,.nm 1,.nm 2]) t e (xs.map λx=>.tup [x1 x,x2 x,x3 x]) (r0::r1::r2::tl) S=.ok ((xs.filter p).map out) S
 |[],_,_,_,_,_=>rfl
 |x::xs,r0,r1,r2,ht,h=>by
  have h0:=ht x Y4;have h2:=qu (out:=out) xs (some (x1 x)) (some (x2 x)) (some (x3 x)) (λy hy=>ht y (Y3 _ hy)) λy hy=>h y (Y3 _ hy);rw[Jl,cS];cases hp:p x with
  |true=>
   have h1:=h x Y4 hp;rw[hp]at h0;simp only[G.put,G.puts,Yo,Zf,R.bind_ok,Yd,h0,h1,h2,Jl,Ww,hp]
  |false=>
   rw[hp]at h0;simp only[G.put,G.puts,Yo,Zf,R.bind_ok,h0,h2,Ww,hp,Jw,Yj]
theorem wa{A:Type}{x1 x2 x3:A->D}{out:A->D}{p:A->Bool}(xs:List A)(hi:it r S=.ok (xs.map λx=>.tup [x1 x,x2 x,x3 x]) S1)(hl:xs.length<=sizeLine)(hc:caps.map (λi=>(r[i]?).join)=tl)(ht:∀x∈xs,t (some (x1 x)::some (x2 x)::some (x3 x)::tl) S1=.ok (p x) S1)(h:∀x∈xs,p x=true->e (some (x1 x)::some (x2 x)::some (x3 x)::tl) S1=.ok (out x) S1):aU it 3 caps (.tp [.nm 0,.nm 1,.nm 2]) t e r S=.ok (.lst ((xs.filter p).map out)) S1:=by
 unfold aU
 rw[hi,R.bind_ok,J8 (by rw[Jg];exact hl)]
 have:dZ 3 caps r=none::none::none::tl:=by unfold dZ;rw[hc];rfl
 rw[this,qu (out:=out) xs none none none ht h,R.bind_ok]
noncomputable def GS:Option Int->D
 |none=>.non
 |some i=>.int i
noncomputable def CT:List Int->Option Int
 |[]=>none
 |n::ns=>some (eR n ns)
theorem GU(S:Sto):∀l:List Int,mB S [.lst (l.map .int)]=some (GS (CT l))
 |[]=>rfl
 |n::ns=>by have e:=eg (n::ns);rw[Jl]at e ⊢;unfold mB;have ht:gO (D.int n::ns.map D.int)=none:=rfl;simp only[kn,ht,e];rfl
theorem xP:∀{l:List Int}{u:Int},CT l=some u->u∈l/\∀x∈l,u<=x
 |n::ns,u,h=>by
  cases h;obtain⟨⟨h1,h2⟩,h3⟩:=ni ns n;refine⟨?_,λx hx=>?_⟩
  ·rcases h3 with e|e
   ·rw[e];exact .head _
   ·exact .tail _ e
  ·rcases Jj.mp hx with rfl|hx
   ·exact h1
   ·exact h2 x hx
noncomputable def wb(xs:List Int)(v:Int):Option Int->Prop
 |none=>∀u,Wo KS xs u->u<v
 |some u=>Wo KS xs u/\v<=u/\∀z,Wo KS xs z->v<=z->u<=z
theorem qw{A B:List (Int×Int)}(hA:Hist A (wsL KS (xs.take (xs.length/2))))(hB:Hist B (wsL KS (xs.drop (xs.length/2))))(u:Int):Wo KS xs u↔∃x∈wsS A,∃y∈wsS B,x+y=u:=by
 have:=A8 (K:=KS) (xs:=xs.take (xs.length/2)) (ys:=xs.drop (xs.length/2)) (v:=u);rw[Zc]at this;rw[<- this];constructor
 ·rintro⟨x,hx,y,hy,e⟩;exact⟨x,(kK hA x).mpr hx,y,(kK hB y).mpr hy,e⟩
 ·rintro⟨x,hx,y,hy,e⟩;exact⟨x,(kK hA x).mp hx,y,(kK hB y).mp hy,e⟩
theorem Bg(h12:xs.length<=12)(hr:Row xs)(v:Int)(S:Sto):∃(S':Sto)(o:Option Int),hJ [tupI xs,.int v] S=.ok (GS o) S'/\Pre S S'/\wb xs v o:=by
 obtain⟨S1,m,A,B,e1,hm,p1,hA,hB,hlen,hml⟩:=CS h12 hr v S
 have z:(1000:Nat)<=sizeLine:=by decide
 have hc:aU (rM (aw g9 (af (ai 0) (af (ai 1) ao)))) 3 [1] (.tp [(.nm 0),(.nm 1),(.nm 2)]) (tV (eOp oGe (ai 2) (ai 3))) (ai 2) [some (tupI xs),some (.int v)] S=.ok (.lst (((wkL A B v).filter λe=>decide (v<=e.2.2)).map λe=>D.int e.2.2)) (S1.set m (.flst ((wkL A B v).map eW))):=
  wa (x1:=λe:Nat×Nat×Int=>.int e.1) (x2:=λe=>.int e.2.1) (x3:=λe=>.int e.2.2) (tl:=[some (.int v)]) (wkL A B v) (Bf ((ar (ah (ag rfl) (ah (ag rfl) rfl))).trans e1) hm) (by omega) rfl
   (λe he=>CQ (bX (ax (ag rfl) (ag rfl) rfl))) λe he _=>ag rfl
 have hl:((wkL A B v).filter λe=>decide (v<=e.2.2)).map (λe=>D.int e.2.2)=(((wkL A B v).filter λe=>decide (v<=e.2.2)).map λe=>e.2.2).map D.int:=by rw[Yn];rfl
 rw[hl]at hc;refine⟨S1.set m (.flst ((wkL A B v).map eW)),CT (((wkL A B v).filter λe=>decide (v<=e.2.2)).map λe=>e.2.2),?_,p1.set hml _,?_⟩
 ·exact bc (ρ:=[some (tupI xs),some (.int v)]) rfl ((ay (bo ((ar (ah (ag rfl) (ah (ag rfl) rfl))).trans (iJ hr v S)))).trans (aR (aW (ah hc rfl) (GU _ _))))
 ·have hit:∀u,Wo KS xs u->v<=u->∃w∈((wkL A B v).filter λe=>decide (v<=e.2.2)).map λe=>e.2.2,w<=u:=λu hu hv=>by
   obtain⟨x,hx,y,hy,rfl⟩:=(qw hA hB u).mp hu;obtain⟨e,he,h1,h2⟩:=v8 (eD _) (eD _) hx hy hv
   exact⟨e.2.2,Y1.mpr ⟨e,Yq.mpr ⟨he,by simpa using h1⟩,rfl⟩,h2⟩
  cases ho:CT (((wkL A B v).filter λe=>decide (v<=e.2.2)).map λe=>e.2.2) with
  |none=>
   intro u hu;rcases Int.lt_or_le u v with h|h
   ·exact h
   ·obtain⟨w,hw,_⟩:=hit u hu h
    match hl:((wkL A B v).filter λe=>decide (v<=e.2.2)).map λe=>e.2.2 with
    |[]=>rw[hl]at hw;cases hw
    |n::ns=>rw[hl]at ho;cases ho
  |some u=>
   obtain⟨h1,h2⟩:=xP ho;obtain⟨e,he,rfl⟩:=Y1.mp h1;obtain⟨he,hv⟩:=Yq.mp he;obtain⟨x,y,hx,hy,rfl⟩:=oC _ _ _ (J9 _) e he
   refine⟨(qw hA hB _).mpr ⟨_,getD_mem' hx,_,getD_mem' hy,rfl⟩,by simpa using hv,λz hz hvz=>?_⟩
   obtain⟨w,hw,hwz⟩:=hit z hz hvz;exact Zr (h2 w hw) hwz
theorem qA(h12:xs.length<=12)(hr:Row xs)(S:Sto):∃(S':Sto)(u:Int),aE [tupI xs] S=.ok (.int u) S'/\Pre S S'/\wb xs 0 (some u):=by
 obtain⟨S',o,e,p,h⟩:=Bg h12 hr 0 S;cases o with
 |none=>
  have:=h _ (Bb xs);have:=xI hr.1;omega
 |some u=>exact⟨S',u,bc (ρ:=[some (tupI xs)]) rfl (aR ((ar (ah (ag rfl) (ah rfl rfl))).trans e)),p,h⟩
theorem wb.uniq{z:Int}(a:wb xs v (some u))(b:wb xs v (some z)):u=z:=Int.le_antisymm (a.2.2 z b.1 b.2.1) (b.2.2 u a.1 a.2.1)
theorem wc(hr:Row xs)(h10:xs.length<=10)(S:Sto):bV [tupI xs] S=.ok .non S:=by
 have hl:cY S [tupI xs]=some (.int xs.length):=by show some (D.int ((xs.map D.int).length:Int))=_;rw[Jg]
 have hc:tV (eOp oGt (eB cY (af (ai 0) ao)) (eC (.int (10)))) [some (tupI xs)] S=.ok (decide ((10:Int)<xs.length)) S:=bX (ax (aW (ah (ag rfl) rfl) hl) rfl rfl)
 rw[Jz (by omega)]at hc
 exact rO (ρ:=[some (tupI xs)]) rfl ((ay (bo ((ar (ah (ag rfl) rfl)).trans (cD hr S)))).trans ((fH hc).trans rfl))
structure Lay(K row:List Int)(Ls:List (List Int)):Prop where
 len:Ls.length=row.length+1
 up:∀L∈Ls,L.Pairwise (· < ·)
 mem:∀i,i<=row.length->∀v,v∈Ls.getD i []↔Wo K (row.take i) v
 sm:∀L∈Ls,L.length<=1000
noncomputable abbrev dJ(Ls:List (List Int)):List D:=Ls.map tupI
theorem FA(h:Keys T):(wsS T).Pairwise (· < ·):=by
 have a:=eD (T.map (·.1))
 have nd:(T.map (·.1)).Nodup:=by unfold Keys at h;rw[Wz,List.pairwise_map];exact h
 have b:(jC (T.map (·.1))).Pairwise (· ≠ ·):=Wz.mp ((eV (T.map (·.1))).nodup_iff.mpr nd)
 exact(a.and b).imp λ⟨x,y⟩=>by omega
theorem Lay.snoc{pre:List Int}(h:Lay K pre Ls)(hL:L.Pairwise (· < ·))(hm:∀v,v∈L↔Wo K (pre++[x]) v)(hs:L.length<=1000):Lay K (pre++[x]) (Ls++[L]):=by
 refine⟨by rw[Jp,Jp,h.len];rfl,λM hM=>?_,λi hi v=>?_,λM hM=>?_⟩
 ·rcases Jr.mp hM with q|q
  ·exact h.up M q
  ·rw[Ju.mp q];exact hL
 ·rw[Jp,Zn]at hi;by_cases c:i<=pre.length
  ·have e:(Ls++[L]).getD i []=Ls.getD i []:=by rw[Jn,Jn,Jv (by rw[h.len];omega)]
   rw[e,h.mem i c v,List.take_append_of_le_length c]
  ·have ei:i=pre.length+1:=by omega
   subst ei
   have e:(Ls++[L]).getD (pre.length+1) []=L:=by
    rw[Jn,Yg (by rw[h.len];omega),h.len]
    simp
   rw[e,hm v,Qf (by rw[Jp];simp)]
 ·rcases Jr.mp hM with q|q
  ·exact h.sm M q
  ·rw[Ju.mp q];exact hs
noncomputable abbrev llB:SM:=(aC (aT 2 (aw dy (af (ai 2) (af (ai 4) (af (ai 1) ao))))) (bW (ki cu (ai 3) (af (eB de (af (eB vM (af (ai 2) ao)) ao)) ao))))
theorem qB{f:Nat}{xs:List D}{v:D}(h:S[f]?=some (.lst xs))(hl:xs.length<sizeLine):cu S (.ref f) [v]=.ok .non (S.set f (.lst (xs++[v]))):=by unfold cu;simp only[h];rw[J8 hl]
theorem xQ{f:Nat}{xs:List D}(h:S[f]?=some (.lst xs)):isL S (.ref f)=true:=by unfold isL;simp only[h]
theorem xR(hK:K.length<=2)(hk:∀q∈K,-1<=q/\q<=1)(r0:Option D)(hl0:S0.length<=l):∀(xs pre:List Int)(S:Sto)(n:Nat)(T:List (Int×Int))(Ls:List (List Int))(r4:Option D),dAt S n T->n≠l->Hist T (wsL K pre)->(wsL K pre).length*2^xs.length<=512->S0.length<=n->Pre S0 S->S[l]?=some (.lst (dJ Ls))->Lay K pre Ls->pre.length+xs.length<=100->
  ∃(S':Sto)(Ls':List (List Int))(a2 a4:Option D),forL (.nm 4) llB (xs.map .int) [r0,some (tupI K),some (.ref n),some (.ref l),r4] S=.ok (.nx [r0,some (tupI K),a2,some (.ref l),a4]) S'/\S'[l]?=some (.lst (dJ Ls'))/\Lay K (pre++xs) Ls'/\Pre S0 S'
 |[],pre,S,n,T,Ls,r4,hd,hnl,h,hz,hn,p,hl,hL,_=>⟨S,Ls,some (.ref n),r4,rfl,hl,by rw[Yr];exact hL,p⟩
 |x::xs,pre,S,n,T,Ls,r4,hd,hnl,h,hz,hn,p,hl,hL,hb=>by
  rw[Jm]at hz hb
  have z:(1000:Nat)<=sizeLine:=by decide
  obtain⟨z1,z2⟩:=xF hK hz;obtain⟨T1,e1,h1⟩:=ow (x:=x) hk hd h z1;rw[<- gg]at h1;have hll:l<S.length:=(Ja.mp hl).1
  have hl1:(S.set n (.fdic (aX T))++[SO.dic (aX T1)])[l]?=some (.lst (dJ Ls)):=by rw[Jv (by rw[Vp];exact hll),Yc hnl];exact hl
  have p1:Pre S0 (S.set n (.fdic (aX T))++[SO.dic (aX T1)]):=(p.set hn _).trans (Pre.app _ _)
  have d1:dAt (S.set n (.fdic (aX T))++[SO.dic (aX T1)]) S.length T1:=.inl (by simp)
  have l1:(S.set n (.fdic (aX T))++[SO.dic (aX T1)]).length=S.length+1:=by simp
  generalize S.set n (.fdic (aX T))++[SO.dic (aX T1)]=S1 at *
  have tl:T1.length<=1000:=by
   have:=h1.len
   have e:(wsL K (pre++[x])).length=(wsL K pre).length*K.length:=by rw[gg,jZ]
   omega
  have hs:=v9 d1 tl
  have hap:=qB (v:=tupI (wsS T1)) hl1 (by rw[Jg,hL.len];omega)
  have eL:dJ Ls++[tupI (wsS T1)]=dJ (Ls++[wsS T1]):=by unfold dJ;rw[Qk];rfl
  rw[eL]at hap
  have hL':=hL.snoc (x:=x) (FA h1.keys) (λv=>by rw[kK h1,rW]) (by rw[r9];exact tl)
  have eb:llB [r0,some (tupI K),some (.ref n),some (.ref l),some (.int x)] S=.ok (.nx [r0,some (tupI K),some (.ref S.length),some (.ref l),some (.int x)]) (S1.set l (.lst (dJ (Ls++[wsS T1])))):=
   (ay (aK ((ar (ah (ag rfl) (ah (ag rfl) (ah (ag rfl) rfl)))).trans e1))).trans (bo ((rP (ag rfl) (xQ hl1) (ah (aW (ah (aW (ah (ag rfl) rfl) hs) rfl) rfl) rfl)).trans hap))
  have d2:dAt (S1.set l (.lst (dJ (Ls++[wsS T1])))) S.length T1:=d1.set (by omega)
  have p2:Pre S0 (S1.set l (.lst (dJ (Ls++[wsS T1])))):=p1.set hl0 _
  have hl2:(S1.set l (.lst (dJ (Ls++[wsS T1]))))[l]?=some (.lst (dJ (Ls++[wsS T1]))):=Y8 (by omega)
  obtain⟨S',Ls',a2,a4,e2,q1,q2,q3⟩:=xR hK hk r0 hl0 xs (pre++[x]) _ S.length T1 (Ls++[wsS T1]) (some (.int x)) d2 (by omega) h1 (by rw[gg,jZ];exact z2) p.len p2 hl2 hL' (by rw[Jp,Zn];omega)
  refine⟨S',Ls',a2,a4,?_,q1,?_,q3⟩
  ·rw[Jl];exact(cP (r1:=[r0,some (tupI K),some (.ref n),some (.ref l),some (.int x)]) rfl eb).trans e2
  ·rw[Ye]at q2;exact q2
theorem lay0(K:List Int):Lay K [] [[0]]:=⟨rfl,λL h=>by rw[Ju.mp h];exact Qc _ _,λi hi v=>by
 have:i=0:=by simpa using hi
 subst this;show v∈[0]↔Wo K [] v;rw[Ju]
 rfl,λL h=>by rw[Ju.mp h];decide⟩
theorem y6(hK:K.length<=2)(hk:∀q∈K,-1<=q/\q<=1)(h6:row.length<=9)(S:Sto):∃(S':Sto)(l:Nat)(Ls:List (List Int)),dm [tupI row,tupI K] S=.ok (.ref l) S'/\S'[l]?=some (.lst (dJ Ls))/\Lay K row Ls/\S.length<=l/\Pre S S':=by
 have z1:(1:Nat)<=sizeLine:=by decide
 have p0:Pre S (S++[.dic (aX [(0,1)]),.lst (dJ [[0]])]):=Pre.app _ _
 have hd:dAt (S++[SO.dic (aX [(0,1)]),.lst (dJ [[0]])]) S.length [(0,1)]:=.inl (by simp)
 have hl:(S++[SO.dic (aX [(0,1)]),.lst (dJ [[0]])])[S.length+1]?=some (.lst (dJ [[0]])):=by rw[Yg (by omega),show S.length+1-S.length=1 by omega];rfl
 obtain⟨S',Ls,a2,a4,e,q1,q2,q3⟩:=xR hK hk (S0:=S) (some (tupI row)) (l:=S.length+1) (by omega) row [] _ S.length [(0,1)] [[0]] none hd (by omega) Hist.zero (by
  show 1*2^row.length<=512;rw[Nat.one_mul]
  exact Y2 (Zt (by decide) h6) (by decide)) (J9 _) p0 hl (lay0 K) (by simp;omega)
 rw[Q0]at q2
 have es:aT 3 (eNew (af (dE (af (eC (.int 0)) ao)) ao)) [some (tupI row),some (tupI K),some (.ref S.length),none,none] (S++[.dic (aX [(0,1)])])=.ok (.nx [some (tupI row),some (tupI K),some (.ref S.length),some (.ref (S.length+1)),none]) (S++[.dic (aX [(0,1)]),.lst (dJ [[0]])]):=by
  have ht:af (dE (af (eC (.int 0)) ao)) ao [some (tupI row),some (tupI K),some (.ref S.length),none,none] (S++[SO.dic (aX [(0,1)])])=.ok (dJ [[0]]) (S++[.dic (aX [(0,1)])]):=ah (cX (xs:=[.int 0]) rfl z1) rfl
  have:eNew (af (dE (af (eC (.int 0)) ao)) ao) [some (tupI row),some (tupI K),some (.ref S.length),none,none] (S++[SO.dic (aX [(0,1)])])=.ok (.ref (S++[SO.dic (aX [(0,1)])]).length) ((S++[.dic (aX [(0,1)])])++[.lst (dJ [[0]])]):=by
   unfold eNew
   rw[ht,R.bind_ok,J8 (by show 1<=sizeLine;exact z1)]
  rw[show(S++[SO.dic (aX [(0,1)])]).length=S.length+1 by simp,Ye]at this
  exact aK this
 exact⟨S',S.length+1,Ls,bc (ρ:=[some (tupI row),some (tupI K),none,none,none]) rfl ((ay (aK xG)).trans ((ay es).trans ((ay ((gc (ag rfl) rfl).trans e)).trans (aR (ag rfl))))),q1,q2,by omega,q3⟩
theorem Bh{neg:Bool}:oIn neg S (.int v) (tupI L)=some (.bl (if neg then !decide (v∈L) else decide (v∈L))):=by
 have h1:(L.map D.int).all iX=true:=Yx.mpr λd hd=>by obtain⟨i,_,rfl⟩:=Y1.mp hd;rfl
 have h2:((L.map D.int).any λz=>eqF z (.int v))=decide (v∈L):=by
  rw[Q8,Wu,decide_eq_true_iff];constructor
  ·rintro⟨d,hd,q⟩;obtain⟨i,hi,rfl⟩:=Y1.mp hd
   have:i=v:=by simpa[eqF] using q
   rw[<- this];exact hi
  ·intro h
   exact⟨.int v,Y1.mpr ⟨v,h,rfl⟩,by simp[eqF]⟩
 unfold oIn;simp only[bu];rw[J8 ⟨rfl,h1⟩,h2]
def lAt(S:Sto)(l:Nat)(xs:List D):Prop:=S[l]?=some (.lst xs)\/S[l]?=some (.flst xs)
theorem lAt.seq{xs:List D}(h:lAt S l xs):bu S (.ref l)=some xs:=by rcases h with h|h<;>simp[bu,h]
theorem lAt.pre{S':Sto}{xs:List D}(h:lAt S l xs)(p:Pre S S'):lAt S' l xs:=by
 have hl:l<S.length:=by rcases h with h|h<;>exact(Ja.mp h).1
 unfold lAt;rw[p.old l hl];exact h
theorem wd(h:lAt S l (dJ Ls))(hi:i<Ls.length):oIx S (.ref l) (.int (i:Int))=some (tupI (Ls.getD i [])):=by
 unfold oIx;simp only[h.seq]
 have:=nP (xs:=dJ Ls) (i:=i) (by rw[Jg];exact hi)
 rw[Uq]at this;rw[this,Jn,Jd hi];rfl
theorem CU(h:lAt S l (dJ Ls))(hn:Ls.length=n+1):oIx S (.ref l) (.int (-1))=some (tupI (Ls.getD n [])):=by
 unfold oIx;simp only[h.seq]
 have hi:n<Ls.length:=by omega
 have e:atI (dJ Ls) (-1)=(dJ Ls)[n]?:=by
  unfold atI ixN
  have hl:(dJ Ls).length=n+1:=by rw[Jg,hn]
  rw[hl,Jb (by omega),J8 (by omega)]
  show(dJ Ls)[((-1:Int)+((n+1:Nat):Int)).toNat]?=_
  rw[show((-1:Int)+((n+1:Nat):Int)).toNat=n by omega]
 rw[e,Z9,Jd hi,Jn,Jd hi];rfl
theorem GV(hr:Row xs)(h10:xs.length<=10)(v:Int)(S:Sto):bz [tupI xs,.int v] S=.ok .non S:=
 rO (ρ:=[some (tupI xs),some (.int v)]) rfl ((ay (bo ((ar (ah (ag rfl) (ah (ag rfl) rfl))).trans (iJ hr v S)))).trans (bo ((ar (ah (ag rfl) rfl)).trans (wc hr h10 S))))
theorem xT(i:Int)(S:Sto):bp [.int i] S=.ok (.bl true) S:=by kernel_rfl
theorem xV(h:i<A.length):oIx S (tupI A) (.int (i:Int))=some (.int A[i]):=by
 have:=nP (xs:=A.map D.int) (i:=i) (by rw[Jg];exact h)
 rw[Uq]at this;exact this
theorem y8{t:AM}(h:t r S=.ok [.int 1,.int (n:Int)] S)(hn:n<=100000):kA t r S=.ok ((List.range (n-1)).map λ(m:Nat)=>D.int (1+m)) S:=by
 unfold kA;rw[h,R.bind_ok]
 have b1:=AW (n:=1) (by decide) (by decide)
 have b2:=AW (n:=(n:Int)) (by omega) (by omega)
 have e:PD.yR [.int 1,.int (n:Int)]=some ((1:Int),(n:Int)):=by simp only[PD.yR];rw[J8 ⟨b1.2,b1.1,b2.2,b2.1⟩]
 simp only[e]
 rw[show((n:Int)-1).toNat=n-1 by omega]
theorem GW{i:Int}:oLt S (.int i) (.int j)=some (.bl (decide (i<j))):=rfl
theorem CV(hu:L.Pairwise (· < ·))(hm:m+1<L.length)(S:Sto):eOp oLt (eOp oIx (ai 1) (eOp fJ (ai 0) (eC (.int 1)))) (eOp oIx (ai 1) (ai 0)) [some (.int (1+(m:Int))),some (tupI L)] S=.ok (.bl true) S:=by
 have e1:fJ S (.int (1+(m:Int))) (.int 1)=some (.int (m:Int)):=by
  show some (D.int (1+(m:Int)-1))=_
  rw[show(1+(m:Int)-1)=m by omega]
 have hm0:m<L.length:=by omega
 have e2:oIx S (tupI L) (.int (1+(m:Int)))=some (.int L[m+1]):=by
  rw[show(1+(m:Int))=((m+1:Nat):Int) by omega]
  exact xV hm
 have lt:L[m]<L[m+1]:=Q6.mp hu m (m+1) hm0 hm (by omega)
 have ha:eOp fJ (ai 0) (eC (.int 1)) [some (.int (1+(m:Int))),some (tupI L)] S=.ok (.int (m:Int)) S:=ax (ag rfl) rfl e1;have hb:eOp oIx (ai 1) (eOp fJ (ai 0) (eC (.int 1))) [some (.int (1+(m:Int))),some (tupI L)] S=.ok (.int L[m]) S:=ax (ag rfl) ha (xV hm0);have hd:eOp oIx (ai 1) (ai 0) [some (.int (1+(m:Int))),some (tupI L)] S=.ok (.int L[m+1]) S:=ax (ag rfl) (ag rfl) e2
 have hf:oLt S (.int L[m]) (.int L[m+1])=some (.bl true):=by rw[GW,Jx lt]
 exact ax hb hd hf
theorem y9(hu:L.Pairwise (· < ·))(hl:L.length<=1000)(S:Sto):ef [tupI L] S=.ok (.bl true) S:=by
 have z:(1000:Nat)<=sizeLine:=by decide
 have hi:gX S [tupI L,.ty "tuple"]=some (.bl true):=by simp[gX,tyD,fw]
 have hc:=dC (enc:=D.int) (out:=λ_:Int=>D.bl true) (e:=aw bp (af (ai 0) ao)) (it:=bN (ai 0) bw) (caps:=[]) (tl:=[]) (r:=[some (tupI L)]) (S:=S) L (jY rfl rfl) (by omega) rfl λx _=>(ar (ah (ag rfl) rfl)).trans (xT x S)
 have ha:gW S [.lst (L.map λ_:Int=>D.bl true)]=some (.bl true):=by rw[gf (f:=λ_=>true),Yx.mpr λ_ _=>rfl]
 have hr:kA (af (eC (.int 1)) (af (eB cY (af (ai 0) ao)) ao)) [some (tupI L)] S=.ok ((List.range (L.length-1)).map λ(m:Nat)=>D.int (1+m)) S:=y8 (ah rfl (ah (aW (ah (ag rfl) rfl) iK) rfl)) (by omega)
 have hc2:=dC (enc:=λ(m:Nat)=>D.int (1+m)) (out:=λ_:Nat=>D.bl true) (e:=eOp oLt (eOp oIx (ai 1) (eOp fJ (ai 0) (eC (.int 1)))) (eOp oIx (ai 1) (ai 0))) (caps:=[0]) (tl:=[some (tupI L)]) (List.range (L.length-1)) hr (by rw[Uh];omega) rfl λm hm=>CV hu (by have:=V6.mp hm;omega) S
 have ha2:gW S [.lst ((List.range (L.length-1)).map λ_:Nat=>D.bl true)]=some (.bl true):=by rw[gf (f:=λ_=>true),Yx.mpr λ_ _=>rfl]
 exact bc (ρ:=[some (tupI L)]) rfl ((ay ((fH ((oq (iH (b:=true) (bX (aW (ah (ag rfl) (ah rfl rfl)) hi)))).trans (iH (b:=true) (bX (aW (ah hc rfl) ha))))).trans rfl)).trans (aR (aW (ah hc2 rfl) ha2)))
noncomputable def gj(B:List Int):List (KD×D):=B.map λv=>(.inl v,.bl true)
theorem Bi:∀(U A:List Int),(A++U).Nodup->ir (gj A) (gj U)=gj (A++U)
 |[],A,_=>by rw[Yr];rfl
 |v::U,A,h=>by
  have na:(gj A).any (λkv=>decide (kv.1=(.inl v:KD)))=false:=by rw[Qn];intro kv hkv hq;obtain⟨a,ha,rfl⟩:=Y1.mp hkv;have e:a=v:=Wa (Zw hq);exact(Ue.mp h).2.2 a ha v (.head _) e
  have e1:putD (gj A) (.inl v) (.bl true)=gj (A++[v]):=by unfold putD;rw[na];simp[gj]
  have e2:A++v::U=(A++[v])++U:=by rw[Ye];rfl
  show ir (putD (gj A) (.inl v) (.bl true)) (gj U)=_;rw[e1,e2];exact Bi U (A++[v]) (e2▸h)
theorem GX:∀B:List Int,PD.yQ (B.map λv=>D.tup [.int v,.bl true])=some (gj B)
 |[]=>rfl
 |v::B=>by rw[Jl];unfold PD.yQ;simp only[ju,GX B];rfl
theorem inB{p:Nat}(hp:S[p]?=some (.dic (gj B)))(hv:v∈B):lG true S (.int v) (.ref p)=some (.bl false):=by
 have hs:bu S (.ref p)=none:=by simp[bu,hp]
 have hd:dh S (.ref p)=some (gj B):=by simp[dh,hp]
 have hk:(fL (gj B) (.inl v)).isSome=true:=by rw[yX,Wu];exact⟨_,Y1.mpr ⟨v,hv,rfl⟩,Jx rfl⟩
 unfold lG;rw[hs];simp only[U7,Jw,Yj];unfold vG;simp only[hd,ju,hk];rfl
noncomputable abbrev loI:SM:=(sIf (tV (eOp (lG true) (eOp ba (ai 5) (eOp cq (ai 6) (ai 2))) (ai 4))) (aV (eC (.bl false))) bL)
theorem uq{p:Nat}(hp:S[p]?=some (.dic (gj B))){a:Int}(r0 r1 r3:Option D):∀(K:List Int)(r6:Option D),(∀q∈K,(-1<=q/\q<=1)/\a+q*x∈B)->∃a6:Option D,forL (.nm 6) loI (K.map .int) [r0,r1,some (.int x),r3,some (.ref p),some (.int a),r6] S=.ok (.nx [r0,r1,some (.int x),r3,some (.ref p),some (.int a),a6]) S
 |[],r6,_=>⟨r6,rfl⟩
 |q::K,r6,h=>by obtain⟨hq,hB⟩:=h q (.head _);obtain⟨a6,e⟩:=uq hp r0 r1 r3 K (some (.int q)) λy hy=>h y (.tail _ hy);rw[Jl];exact⟨a6,(cP (r1:=[r0,r1,some (.int x),r3,some (.ref p),some (.int a),some (.int q)]) rfl ((fH (bX (ax (ax (ag rfl) (ax (ag rfl) (ag rfl) (fA (.inl (sml hq)))) rfl) (ag rfl) (inB hp hB)))).trans rfl)).trans e⟩
theorem uv{p:Nat}(hp:S[p]?=some (.dic (gj B)))(hK:∀q∈K,-1<=q/\q<=1)(r0 r1:Option D):∀(A:List Int)(r5 r6:Option D),(∀a∈A,∀q∈K,a+q*x∈B)->∃a5 a6:Option D,forL (.nm 5) (gJ (bN (ai 3) bw) (.nm 6) loI) (A.map .int) [r0,r1,some (.int x),some (tupI K),some (.ref p),r5,r6] S=.ok (.nx [r0,r1,some (.int x),some (tupI K),some (.ref p),a5,a6]) S
 |[],r5,r6,_=>⟨r5,r6,rfl⟩
 |a::A,r5,r6,h=>by obtain⟨b6,e1⟩:=uq hp (a:=a) (x:=x) r0 r1 (some (tupI K)) K r6 λq hq=>⟨hK q hq,h a (.head _) q hq⟩;obtain⟨a5,a6,e⟩:=uv hp hK r0 r1 A (some (.int a)) b6 λy hy=>h y (.tail _ hy);rw[Jl];exact⟨a5,a6,(cP (r1:=[r0,r1,some (.int x),some (tupI K),some (.ref p),some (.int a),r6]) rfl ((gc (ag rfl) rfl).trans e1)).trans e⟩
theorem Bj(hK:∀q∈K,-1<=q/\q<=1)(nd:B.Nodup)(hb:B.length<=1000)(hc:∀a∈A,∀q∈K,a+q*x∈B)(S:Sto):eX [tupI A,tupI B,.int x,tupI K] S=.ok (.bl true) (S++[.dic (gj B)]):=by
 have z:(1000:Nat)<=sizeLine:=by decide
 have z2:(2:Nat)<=sizeLine:=by decide
 have h1:=dC (enc:=D.int) (out:=λv:Int=>D.tup [.int v,.bl true]) (e:=dE (af (ai 0) (af (eC (.bl true)) ao))) (it:=bN (ai 1) bw) (caps:=[]) (tl:=[]) (r:=[some (tupI A),some (tupI B),some (.int x),some (tupI K),none,none,none]) (S:=S) B (jY rfl rfl) (by omega) rfl λv _=>cX (xs:=[.int v,.bl true]) (ah (ag rfl) (ah rfl rfl)) z2
 have h2:Av S [.lst (B.map λv=>D.tup [.int v,.bl true])]=.ok (.ref S.length) (S++[.dic (gj B)]):=by have hm:ir [] (gj B)=gj B:=Bi B [] nd;unfold Av;simp only[kn,GX,hm]
 have hbr:∀{f:Sto->List D->R D}{t:AM}{r:Rho}{S S1:Sto}{xs:List D},t r S=.ok xs S1->eBR f t r S=f S1 xs:=λh=>by unfold eBR;rw[h,R.bind_ok]
 have hp:(S++[SO.dic (gj B)])[S.length]?=some (.dic (gj B)):=by simp
 obtain⟨a5,a6,e⟩:=uv hp hK (x:=x) (some (tupI A)) (some (tupI B)) A none none hc;exact bc (ρ:=[some (tupI A),some (tupI B),some (.int x),some (tupI K),none,none,none]) rfl ((ay (aK ((hbr (ah h1 rfl)).trans h2))).trans ((ay ((gc (ag rfl) rfl).trans e)).trans (aR rfl)))
theorem rA{xs:List D}(hi:ρ[i]?=some (some (.ref l)))(h:lAt S l xs):∃S1:Sto,rM (ai i) ρ S=.ok xs S1/\S1[l]?=some (.flst xs)/\(∀j,j≠l->S1[j]?=S[j]?)/\S1.length=S.length:=by
 have hl:l<S.length:=by rcases h with h|h<;>exact(Ja.mp h).1
 unfold rM;rw[ag hi,R.bind_ok];rcases h with h|h
 ·simp only[h];exact⟨_,rfl,Y8 hl,λj hj=>Yc (Ne.symm hj),Vp⟩
 ·simp only[h];exact⟨S,rfl,h,λ_ _=>rfl,rfl⟩
theorem CW{xs:List D}(h:lAt S l xs):kB S [.ref l,.ty "list"]=some (.bl true):=by
 rcases h with h|h
 ·have e:kB S [.ref l,.ty "list"]=gX S [.ref l,.ty "list"]:=by simp only[kB,h]
  rw[e];simp[gX,tyD,fw,h]
 ·simp[kB,h,fw]
theorem qC{A:Type}{enc out:A->D}(xs:List A)(hi:it r S=.ok (xs.map enc) S1)(hl:xs.length<=sizeLine)(hc:caps.map (λi=>(r[i]?).join)=tl)(h:∀x∈xs,e (some (enc x)::tl) S1=.ok (out x) S1):aU it 1 caps (.nm 0) bf e r S=.ok (.lst (xs.map out)) S1:=by
 unfold aU
 rw[hi,R.bind_ok,J8 (by rw[Jg];exact hl)]
 have:dZ 1 caps r=none::tl:=by unfold dZ;rw[hc];rfl
 rw[this,comp_map (out:=out) xs none h,R.bind_ok]
noncomputable abbrev ldE:EM:=(aw eX (af (eOp oIx (ai 2) (ai 0)) (af (eOp oIx (ai 2) (eOp ba (ai 0) (eC (.int 1)))) (af (ai 1) (af (ai 3) ao)))))
theorem xW(hK:∀q∈K,-1<=q/\q<=1)(hup:∀L∈Ls,L.Pairwise (· < ·))(hsm:∀L∈Ls,L.length<=1000):∀(xs:List Int)(i:Nat)(S:Sto)(r0 r1:Option D),lAt S l (dJ Ls)->i+xs.length+1=Ls.length->(∀j,(hj:j<xs.length)->∀a∈Ls.getD (i+j) [],∀q∈K,a+q*xs[j]∈Ls.getD (i+j+1) [])->
  ∃S':Sto,cS (.tp [.nm 0,.nm 1]) bf ldE (PD.numbered i (xs.map .int)) [r0,r1,some (.ref l),some (tupI K)] S=.ok (xs.map λ_=>D.bl true) S'/\Pre S S'
 |[],i,S,r0,r1,_,_,_=>⟨S,rfl,Pre.refl _⟩
 |x::xs,i,S,r0,r1,hl,hn,hc=>by
  rw[Jm]at hn
  have gm:∀j,j<Ls.length->Ls.getD j []∈Ls:=λj hj=>by rw[Jn,Jd hj];exact Qw hj
  have h0:=hc 0 (by simp)
  have e2:oIx S (.ref l) (.int ((i:Int)+1))=some (tupI (Ls.getD (i+1) [])):=by
   rw[show(i:Int)+1=((i+1:Nat):Int) by omega]
   exact wd hl (by omega)
  have nd:(Ls.getD (i+1) []).Nodup:=Wz.mpr ((hup _ (gm (i+1) (by omega))).imp λh=>by omega)
  have ee:ldE [some (.int i),some (.int x),some (.ref l),some (tupI K)] S=.ok (.bl true) (S++[.dic (gj (Ls.getD (i+1) []))]):=
   (ar (ah (ax (ag rfl) (ag rfl) (wd hl (by omega))) (ah (ax (ag rfl) (ax (ag rfl) rfl rfl) e2) (ah (ag rfl) (ah (ag rfl) rfl))))).trans (Bj hK nd (hsm _ (gm (i+1) (by omega))) h0 S)
  obtain⟨S',e,p⟩:=xW hK hup hsm xs (i+1) (S++[.dic (gj (Ls.getD (i+1) []))]) (some (.int i)) (some (.int x)) (hl.pre (Pre.app _ _)) (by omega) (λj hj=>by
   have:=hc (j+1) (by simp;omega)
   rw[show i+(j+1)=i+1+j by omega]at this
   exact this)
  refine⟨S',?_,(Pre.app _ _).trans p⟩;rw[Jl,PD.numbered,cS];have hp:G.put (.tp [.nm 0,.nm 1]) (.tup [.int (i:Int),.int x]) [r0,r1,some (.ref l),some (tupI K)]=some [some (.int i),some (.int x),some (.ref l),some (tupI K)]:=rfl;simp only[hp,bf,R.bind_ok,Yd,ee,e,Jl]
theorem kL:∀(xs:List D)(i:Nat),(PD.numbered i xs).length=xs.length
 |[],_=>rfl
 |x::xs,i=>by rw[PD.numbered,Jm,Jm,kL xs (i+1)]
theorem FC(hK:∀q∈K,-1<=q/\q<=1)(h6:row.length<=100)(hn:Ls.length=row.length+1)(hup:∀L∈Ls,L.Pairwise (· < ·))(hsm:∀L∈Ls,L.length<=1000)(h0:0∈Ls.getD 0 [])(hc:∀j,(hj:j<row.length)->∀a∈Ls.getD j [],∀q∈K,a+q*row[j]∈Ls.getD (j+1) [])(hl:lAt S l (dJ Ls)):
  ∃S':Sto,eN [.ref l,tupI row,tupI K] S=.ok (.bl true) S'/\lAt S' l (dJ Ls)/\(∀j,j≠l->j<S.length->S'[j]?=S[j]?)/\S.length<=S'.length:=by
 have z:(1000:Nat)<=sizeLine:=by decide
 have hi:=CW hl
 have hlen:cY S [.ref l]=some (.int Ls.length):=by unfold cY;simp only[hl.seq,Zm,Jg]
 have hne:jv S (.int Ls.length) (.int ((row.length:Int)+1))=some (.bl false):=by rw[AV,Jx (by omega)];rfl
 obtain⟨S1,e1,f1,o1,l1⟩:=rA (ρ:=[some (.ref l),some (tupI row),some (tupI K)]) (i:=0) rfl hl;have hl1:lAt S1 l (dJ Ls):=.inr f1
 have hc1:=qC (enc:=tupI) (out:=λ_:List Int=>D.bl true) (e:=aw ef (af (ai 0) ao)) (caps:=[]) (tl:=[]) Ls e1 (by omega) rfl λL hL=>(ar (ah (ag rfl) rfl)).trans (y9 (hup L hL) (hsm L hL) S1)
 have ha:gW S1 [.lst (Ls.map λ_:List Int=>D.bl true)]=some (.bl true):=by rw[gf (f:=λ_=>true),Yx.mpr λ_ _=>rfl]
 have hx0:oIx S1 (.ref l) (.int 0)=some (tupI (Ls.getD 0 [])):=wd (i:=0) hl1 (by omega)
 have hin:oIn true S1 (.int 0) (tupI (Ls.getD 0 []))=some (.bl false):=by rw[Bh,Jx h0];rfl
 obtain⟨S2,e2,p2⟩:=xW hK hup hsm row 0 S1 none none hl1 (by omega) (λj hj=>by simpa using hc j hj)
 have hen:kj (af (ai 1) ao) [some (.ref l),some (tupI row),some (tupI K)] S1=.ok (PD.numbered 0 (row.map .int)) S1:=by unfold kj;rw[ah (ag rfl) rfl,R.bind_ok];rfl
 have hc2:aU (kj (af (ai 1) ao)) 2 [0,2] (.tp [(.nm 0),(.nm 1)]) bf ldE [some (.ref l),some (tupI row),some (tupI K)] S1=.ok (.lst (row.map λ_=>D.bl true)) S2:=by
  unfold aU
  rw[hen,R.bind_ok,J8 (by rw[kL,Jg];omega)]
  have:dZ 2 [0,2] [some (D.ref l),some (tupI row),some (tupI K)]=[none,none,some (.ref l),some (tupI K)]:=rfl;rw[this,e2,R.bind_ok]
 have ha2:gW S2 [.lst (row.map λ_:Int=>D.bl true)]=some (.bl true):=by rw[gf (f:=λ_=>true),Yx.mpr λ_ _=>rfl]
 refine⟨S2,?_,hl1.pre p2,λj hj hjl=>by rw[p2.old j (by omega)];exact o1 j hj,by rw[<- l1];exact p2.len⟩
 refine bc (ρ:=[some (.ref l),some (tupI row),some (tupI K)]) rfl ?_;refine(ay ((fH ((oq (iH (b:=true) (bX (aW (ah (ag rfl) (ah rfl rfl)) hi)))).trans (bX (ax (aW (ah (ag rfl) rfl) hlen) (ax (aW (ah (ag rfl) rfl) iK) rfl rfl) hne)))).trans rfl)).trans ?_;refine(ay ((fH ((oq (iH (b:=true) (bX (aW (ah hc1 rfl) ha)))).trans (bX (ax rfl (ax (ag rfl) rfl hx0) hin)))).trans rfl)).trans ?_;exact aR (aW (ah hc2 rfl) ha2)
theorem xX(hp:p.length=n)(hn:n<=100)(S:Sto):dk [tupI p,.int n] S=.ok (.bl true) S:=by
 have z:(100:Nat)<=sizeLine:=by decide
 have hi:gX S [tupI p,.ty "tuple"]=some (.bl true):=by simp[gX,tyD,fw]
 have hl:fB S (.int p.length) (.int n)=some (.bl true):=by rw[lN,Jx (by omega)]
 have hc:=dC (enc:=D.int) (out:=λ_:Int=>D.bl true) (e:=aw bp (af (ai 0) ao)) (it:=bN (ai 0) bw) (caps:=[]) (tl:=[]) (r:=[some (tupI p),some (.int n)]) (S:=S) p (jY rfl rfl) (by omega) rfl λx _=>(ar (ah (ag rfl) rfl)).trans (xT x S)
 have ha:gW S [.lst (p.map λ_:Int=>D.bl true)]=some (.bl true):=by rw[gf (f:=λ_=>true),Yx.mpr λ_ _=>rfl]
 exact bc (ρ:=[some (tupI p),some (.int n)]) rfl (aR ((oo (aW (ah (ag rfl) (ah rfl rfl)) hi)).trans ((oo (ax (aW (ah (ag rfl) rfl) iK) (ag rfl) hl)).trans (aW (ah hc rfl) ha))))
theorem CY(h:Row xs)(hp:p.length=xs.length)(hq:∀q∈p,-1<=q/\q<=1)(S:Sto):dI [tupI p,tupI xs] S=.ok (.bl true) S:=by
 have z:(100:Nat)<=sizeLine:=by decide
 have hl:=h.2
 have hc:=dC (enc:=D.int) (out:=λ_:Int=>D.bl true) (e:=iT oLe oLe (eUn iW (eC (.int 1))) (ai 0) (eC (.int 1))) (it:=bN (ai 0) bw) (caps:=[]) (tl:=[]) (r:=[some (tupI p),some (tupI xs)]) (S:=S) p (jY rfl rfl) (by omega) rfl λq hq'=>by
  obtain⟨q0,q1⟩:=hq q hq';have e1:eUn iW (eC (.int 1)) [some (.int q)] S=.ok (.int (-1)) S:=rfl
  have e2:oLe S (.int (-1)) (.int q)=some (.bl true):=by show some (D.bl (decide ((-1:Int)<=q)))=_;rw[Jx q0]
  have e3:oLe S (.int q) (.int 1)=some (.bl true):=by show some (D.bl (decide (q<=(1:Int))))=_;rw[Jx q1]
  have ev:ai 0 [some (.int q)] S=.ok (.int q) S:=ag rfl;show iT oLe oLe (eUn iW (eC (.int 1))) (ai 0) (eC (.int 1)) [some (.int q)] S=_;unfold iT;rw[e1,R.bind_ok,ev,R.bind_ok];simp only[e2];show(R.ok (D.int 1) S).bind _=_;rw[R.bind_ok,e3];rfl
 have ha:gW S [.lst (p.map λ_:Int=>D.bl true)]=some (.bl true):=by rw[gf (f:=λ_=>true),Yx.mpr λ_ _=>rfl]
 exact bc (ρ:=[some (tupI p),some (tupI xs)]) rfl ((ay (bo ((ar (ah (ag rfl) rfl)).trans (cD h S)))).trans (aR ((oo ((ar (ah (ag rfl) (ah (aW (ah (ag rfl) rfl) iK) rfl))).trans (xX hp (by omega) S))).trans (aW (ah hc rfl) ha))))
theorem CZ(h:Row xs)(hp:p.length=xs.length)(hq:∀q∈p,q = -1\/q=1)(S:Sto):dG [tupI p,tupI xs] S=.ok (.bl true) S:=by
 have z:(100:Nat)<=sizeLine:=by decide
 have hl:=h.2
 have hc:=dC (enc:=D.int) (out:=λ_:Int=>D.bl true) (e:=eOp fB (eB tq (af (ai 0) ao)) (eC (.int 1))) (it:=bN (ai 0) bw) (caps:=[]) (tl:=[]) (r:=[some (tupI p),some (.int xs.length)]) (S:=S) p (jY rfl rfl) (by omega) rfl λq hq'=>by
  rcases hq q hq' with rfl|rfl
  ·exact ax (aW (ah (ag rfl) rfl) rfl) rfl rfl
  ·exact ax (aW (ah (ag rfl) rfl) rfl) rfl rfl
 have ha:gW S [.lst (p.map λ_:Int=>D.bl true)]=some (.bl true):=by rw[gf (f:=λ_=>true),Yx.mpr λ_ _=>rfl]
 have es:bU [tupI p,.int xs.length] S=.ok (.bl true) S:=bc (ρ:=[some (tupI p),some (.int xs.length)]) rfl (aR ((oo ((ar (ah (ag rfl) (ah (ag rfl) rfl))).trans (xX hp (by omega) S))).trans (aW (ah hc rfl) ha)))
 exact bc (ρ:=[some (tupI p),some (tupI xs)]) rfl ((ay (bo ((ar (ah (ag rfl) rfl)).trans (cD h S)))).trans (aR ((ar (ah (ag rfl) (ah (aW (ah (ag rfl) rfl) iK) rfl))).trans es)))
theorem oF:∀(xs p:List Int),PD.lD (xs.map .int) (p.map .int)=(xs.zip p).map λe=>D.tup [.int e.1,.int e.2]
 |[],_=>rfl
 |_::_,[]=>rfl
 |x::xs,q::p=>by show D.tup [.int x,.int q]::PD.lD (xs.map .int) (p.map .int)=_;rw[oF xs p];rfl
theorem xY:∀(xs p:List Int),((xs.zip p).map λe=>e.1*e.2).sum=wor xs p
 |[],p=>by cases p<;>rfl
 |_::_,[]=>rfl
 |x::xs,q::p=>by rw[List.zip_cons_cons,Jl,Yl,xY xs p];rfl
theorem uw(h:Row xs)(hp:p.length=xs.length)(hq:∀q∈p,-1<=q/\q<=1)(S:Sto):fW [tupI xs,tupI p] S=.ok (.int (wor xs p)) S:=by
 have z:(100:Nat)<=sizeLine:=by decide
 have hl:=h.2;have hn:dq [tupI xs,tupI p] S=.ok .non S:=rO (ρ:=[some (tupI xs),some (tupI p)]) rfl ((fH (iH (b:=true) (bX ((ar (ah (ag rfl) (ah (ag rfl) rfl))).trans (CY h hp hq S))))).trans rfl)
 have hz:vD (af (ai 0) (af (ai 1) ao)) [some (tupI xs),some (tupI p)] S=.ok ((xs.zip p).map λe=>D.tup [.int e.1,.int e.2]) S:=by unfold vD;rw[ah (ag rfl) (ah (ag rfl) rfl),R.bind_ok];show R.ok (PD.lD (xs.map .int) (p.map .int)) S=_;rw[oF]
 have hc:=jo (x1:=λe:Int×Int=>D.int e.1) (x2:=λe=>D.int e.2) (out:=λe=>D.int (e.1*e.2)) (e:=eOp cq (ai 0) (ai 1)) (caps:=[]) (tl:=[]) (xs.zip p) hz (by rw[List.length_zip];omega) rfl λe he=>ax (ag rfl) (ag rfl) (fA (.inr (sml (hq _ (Vo he).2))))
 have hs:mS S [.lst ((xs.zip p).map λe=>D.int (e.1*e.2))]=some (.int (wor xs p)):=by
  have e:((xs.zip p).map λe=>D.int (e.1*e.2))=((xs.zip p).map λe=>e.1*e.2).map .int:=by rw[Yn];rfl
  rw[e,Fm,xY]
 exact bc (ρ:=[some (tupI xs),some (tupI p)]) rfl ((ay (bo ((ar (ah (ag rfl) (ah (ag rfl) rfl))).trans hn))).trans (aR (aW (ah hc rfl) hs)))
structure Sim(d:D)(p:PyData):Prop where
 py:toPy d=some p
 lay:p.canLay0=true
 dep:p.depth<=3
theorem FD:∀{ds:List D}{f:D->PyData},(∀d∈ds,Sim d (f d))->fk ds=some (ds.map f)/\PyData.canLayAll0 (ds.map f)=true/\PyData.depthAll (ds.map f)<=3
 |[],f,_=>⟨rfl,rfl,by show 0<=3;omega⟩
 |d::ds,f,h=>by
  have h1:=h d Y4;obtain⟨a,b,c⟩:=FD (ds:=ds) (f:=f) λx hx=>h x (Y3 _ hx)
  refine⟨by unfold fk;rw[h1.py,a];rfl,by unfold List.map PyData.canLayAll0;rw[h1.lay,b];rfl,?_⟩
  have:=h1.dep;unfold List.map PyData.depthAll;omega
theorem qD{p:PyData}(h:p.canLay0=true)(hd:p.depth<=64):SeqAt.shaped p=true:=by unfold SeqAt.shaped;rw[h,Jx hd];rfl
theorem C0{xs ys:List D}{f:D->PyData}(hx:∀d∈xs,Sim d (f d))(hy:∀d∈ys,Sim d (f d)):eqP (.tup xs) (.tup ys)=some (PyData.eqvAll (xs.map f) (ys.map f)):=by
 obtain⟨a,b,c⟩:=FD hx;obtain⟨a',b',c'⟩:=FD hy
 have e1:toPy (.tup xs)=some (.tuple (xs.map f)):=by unfold toPy;rw[a];rfl
 have e2:toPy (.tup ys)=some (.tuple (ys.map f)):=by unfold toPy;rw[a'];rfl
 have s1:SeqAt.shaped (.tuple (xs.map f))=true:=qD (by unfold PyData.canLay0;exact b) (by unfold PyData.depth;omega)
 have s2:SeqAt.shaped (.tuple (ys.map f))=true:=qD (by unfold PyData.canLay0;exact b') (by unfold PyData.depth;omega)
 unfold eqP;have e0:eqS (.tup xs) (.tup ys)=none:=rfl;rw[e0,e1,e2];simp only[s1,s2,and_self,Yd];rw[PyData.eqv]
noncomputable def pyI:D->PyData
 |.int i=>.int i
 |.tup [.int i,.int j]=>.tuple [.int i,.int j]
 |_=>.none
theorem GY(i:Int):pyI (.int i)=PyData.int i:=rfl
theorem C1(i:Int):Sim (.int i) (pyI (.int i)):=⟨rfl,rfl,by show 0<=3;omega⟩
theorem uz{is:List Int}:∀d∈is.map D.int,Sim d (pyI d):=λd hd=>by obtain⟨i,_,rfl⟩:=Y1.mp hd;exact C1 i
theorem uB:∀(xs ys:List Int),PyData.eqvAll ((xs.map D.int).map pyI) ((ys.map D.int).map pyI)=decide (xs=ys)
 |[],[]=>by simp[PyData.eqvAll]
 |[],y::ys=>by simp[PyData.eqvAll]
 |x::xs,[]=>by simp[PyData.eqvAll]
 |x::xs,y::ys=>by simp only[Jl,PyData.eqvAll,uB xs ys,GY,PyData.eqv];rw[Q8];simp
theorem zc(xs ys:List Int):eqP (.tup (xs.map .int)) (.tup (ys.map .int))=some (decide (xs=ys)):=by rw[C0 uz uz,uB]
theorem uC{L:List D}{d:D}(h:S[m]?=some (.lst (L++[d]))):oIx S (.ref m) (.int (-1))=some d:=by
 unfold oIx bu;simp only[h]
 have e:ixN (L++[d]).length (-1)=some L.length:=by
  rw[Jp,Zn];unfold ixN
  rw[Jb (by decide),J8 (by omega)]
  congr 1;omega
 unfold atI;rw[e];show(L++[d])[L.length]?=some d;simp
noncomputable abbrev Pr:=Int×List Int
noncomputable def dif(p q:Pr):Pr:=(p.1-q.1,List.zipWith (λa b=>a-b) p.2 q.2)
noncomputable def we(l:List Pr):List Pr:=SK.byOrd true l (0,[]) l
noncomputable def fs(l:List Pr):List Int:=l.map (·.1)
theorem jq(l:List Pr):(we l).Perm l:=SK.byOrd_perm true _ rfl
theorem uD(l:List Pr):(we l).length=l.length:=(jq l).length_eq
noncomputable def nxt:List Pr->List Pr
 |a::b::r=>we (r++[dif a b])
 |l=>l
theorem se{l:List Pr}(h:2<=l.length):(nxt l).length=l.length-1:=by
 match l,h with
 |a::b::r,_=>show(we (r++[dif a b])).length=_;rw[uD];simp
noncomputable def dotL(row xs:List Int):Int:=(List.zipWith (λa b=>a*b) row xs).sum
theorem uF:∀(row xs ys:List Int),xs.length=ys.length->dotL row (List.zipWith (λa b=>a-b) xs ys)=dotL row xs-dotL row ys
 |[],_,_,_=>by simp[dotL]
 |_::_,[],[],_=>by simp[dotL]
 |_::_,[],_::_,h=>by simp at h
 |_::_,_::_,[],h=>by simp at h
 |r::row,x::xs,y::ys,h=>by
  have ih:=uF row xs ys (by simpa using h)
  unfold dotL at ih ⊢;simp only[Wb,Yl];rw[ih,Int.mul_sub];omega
structure Good(row:List Int)(l:List Pr):Prop where
 len:∀p∈l,p.2.length=row.length
 val:∀p∈l,p.1=dotL row p.2
 one:∀i,i<row.length->(l.map λp=>(p.2.getD i 0).natAbs).sum=1
theorem Good.perm{l l':List Pr}(g:Good row l)(h:l'.Perm l):Good row l':=
 ⟨λp hp=>g.len p (h.mem_iff.mp hp),λp hp=>g.val p (h.mem_iff.mp hp),λi hi=>by rw[(h.map _).sum_nat];exact g.one i hi⟩
theorem Good.nxt{l:List Pr}(g:Good row l):Good row (nxt l):=by
 match l,g with
 |[],g=>exact g
 |[_],g=>exact g
 |a::b::r,g=>
  have la:=g.len a (.head _);have lb:=g.len b (.tail _ (.head _))
  have g':Good row (r++[dif a b]):=by
   refine⟨λp hp=>?_,λp hp=>?_,λi hi=>?_⟩
   ·rcases Jr.mp hp with h|h
    ·exact g.len p (.tail _ (.tail _ h))
    ·rw[Ju.mp h];show(List.zipWith _ a.2 b.2).length=_;rw[List.length_zipWith,la,lb,Nat.min_self]
   ·rcases Jr.mp hp with h|h
    ·exact g.val p (.tail _ (.tail _ h))
    ·rw[Ju.mp h];show a.1-b.1=dotL row (List.zipWith _ a.2 b.2);rw[uF row a.2 b.2 (la.trans lb.symm),<- g.val a (.head _),<- g.val b (.tail _ (.head _))]
   ·have h1:=g.one i hi;rw[Jl,Jl,Yl,Yl]at h1;rw[Qk,List.sum_append,List.map_singleton,List.sum_singleton]
    have e:(dif a b).2.getD i 0=a.2.getD i 0-b.2.getD i 0:=by
     show(List.zipWith _ a.2 b.2).getD i 0=_
     have ha:i<a.2.length:=by omega
     have hb:i<b.2.length:=by omega
     simp[Jn,List.getElem?_zipWith,ha,hb]
    rw[e];omega
  exact g'.perm (jq _)
noncomputable def gC(n i:Nat):List Int:=(List.range n).map λ(j:Nat)=>if j=i then 1 else 0
noncomputable def start(row:List Int):List Pr:=row.zipIdx.map λe=>(e.1,gC row.length e.2)
theorem qE(row:List Int):(start row).length=row.length:=by unfold start;simp
theorem C2{j:Nat}(h:j<n):(gC n i).getD j 0=if j=i then 1 else 0:=by unfold gC;simp[Jn,h]
theorem uH(j:Nat):∀(l:List Int)(k:Nat),k<=j->j<k+l.length->((l.zipIdx k).map λe:Int×Nat=>(if j=e.2 then (1:Nat) else 0)).sum=1
 |[],k,h1,h2=>by simp at h2;omega
 |x::l,k,h1,h2=>by
  rw[Wr,Jl,Yl];by_cases e:j=k
  ·have z:∀(l:List Int)(m:Nat),k<m->((l.zipIdx m).map λe:Int×Nat=>(if j=e.2 then (1:Nat) else 0)).sum=0:=by
    intro l
    induction l with
    |nil=>intro m _;rfl
    |cons y l ih=>intro m hm;rw[Wr,Jl,Yl,ih (m+1) (by omega)];simp;omega
   rw[z l (k+1) (by omega)]
   simp[e]
  ·rw[uH j l (k+1) (by omega) (by simp at h2;omega)]
   simp[e]
theorem uJ:∀(row:List Int)(n k i:Nat),i<row.length->(List.zipWith (λa b=>a*b) row ((List.range' k row.length).map λ(j:Nat)=>(if j=k+i then (1:Int) else 0))).sum=row.getD i 0
 |[],_,_,_,h=>by simp at h
 |x::row,n,k,0,h=>by
  have z:∀(row:List Int)(m:Nat),k<m->(List.zipWith (λa b=>a*b) row ((List.range' m row.length).map λ(j:Nat)=>(if j=k+0 then (1:Int) else 0))).sum=0:=by
   intro row
   induction row with
   |nil=>intro m _;rfl
   |cons y l ih=>
    intro m hm
    rw[Jm,Ut,Jl,Wb,Yl,ih (m+1) (by omega),Jb (by omega)]
    omega
  rw[Jm,Ut,Jl,Wb,Yl,z row (k+1) (by omega),J8 (by omega)]
  simp
 |x::row,n,k,i+1,h=>by
  have ih:=uJ row n (k+1) i (by simpa using h)
  rw[Jm,Ut,Jl,Wb,Yl,Jb (by omega)]
  have e:∀j,(j=k+(i+1))=(j=k+1+i):=λj=>by rw[show k+(i+1)=k+1+i by omega]
  simp only[e];rw[ih];simp
theorem wg(row:List Int):Good row (start row):=by
 refine⟨λp hp=>?_,λp hp=>?_,λi hi=>?_⟩
 ·obtain⟨e,_,rfl⟩:=Y1.mp hp;show(gC _ _).length=_;unfold gC;simp
 ·obtain⟨e,he,rfl⟩:=Y1.mp hp;obtain⟨x,i⟩:=e;have hm:=List.mem_zipIdx' he;have h:=uJ row row.length 0 i hm.1;show x=dotL row (gC row.length i);unfold dotL gC;rw[List.range_eq_range'];simp only[Nat.zero_add]at h;rw[h,hm.2];simp[Jn,hm.1]
 ·have h:=uH i row 0 (Y0 _) (by omega)
  unfold start;rw[Yn];rw[<- h];congr 1;refine Z8 λe _=>?_;show((gC row.length e.2).getD i 0).natAbs=_;rw[C2 hi];split<;>rfl
theorem z2':(2:Nat)<=sizeLine:=by decide
theorem z1':(1:Nat)<=sizeLine:=by decide
theorem GZ(xs:List Int):cY S [tupI xs]=some (.int xs.length):=by show some (D.int ((xs.map D.int).length:Int))=_;rw[Jg]
theorem G0(h:row.length<=1000)(i:Nat)(S:Sto):bZ [.int i,tupI row] S=.ok (tupI (gC row.length i)) S:=by
 have z:(1000:Nat)<=sizeLine:=by decide
 have hc:aU (dM (af (eB cY (af (ai 1) ao)) ao)) 1 [0] (.nm 0) bf (eIf (tV (eOp fB (ai 0) (ai 1))) (eC (.int 1)) (eC (.int 0))) [some (.int i),some (tupI row)] S=.ok (.lst ((List.range row.length).map λ(j:Nat)=>D.int (if j=i then 1 else 0))) S:=
  dC (enc:=λj:Nat=>D.int j) (tl:=[some (.int i)]) (List.range row.length) (oj (ah (t:=ao) (aW (ah (ag rfl) rfl) (GZ row)) rfl) (by omega)) (by rw[Uh];omega) rfl λj _=>by
   have hc:tV (eOp fB (ai 0) (ai 1)) [some (.int j),some (.int i)] S=.ok (decide ((j:Int)=(i:Int))) S:=bX (ax (ag rfl) (ag rfl) lN);by_cases e:j=i
   ·rw[Jx (by omega)]at hc
    rw[J8 e];exact Dv hc
   ·rw[Jz (by omega)]at hc
    rw[Jb e];exact Dw hc
 have e:(List.range row.length).map (λ(j:Nat)=>D.int (if j=i then 1 else 0))=(gC row.length i).map .int:=by unfold gC;rw[Yn];rfl
 rw[e]at hc;exact bc (ρ:=[some (.int i),some (tupI row)]) rfl (aR (aW (ah hc rfl) rfl))
theorem xZ:∀xs ys:List Int,(xs.zip ys).map (λe=>D.int (e.1-e.2))=(List.zipWith (λa b=>a-b) xs ys).map .int
 |[],_=>by simp
 |_::_,[]=>by simp
 |x::xs,y::ys=>by have:=xZ xs ys;simp[this]
theorem FE{p q:Pr}(hp:p.2.length<=1000)(S:Sto):cH [prD p,prD q] S=.ok (prD (dif p q)) S:=by
 have z:(1000:Nat)<=sizeLine:=by decide
 have hi:vD (af (eOp oIx (ai 0) (eC (.int 1))) (af (eOp oIx (ai 1) (eC (.int 1))) ao)) [some (prD p),some (prD q),none] S=.ok ((p.2.zip q.2).map λe=>D.tup [.int e.1,.int e.2]) S:=by unfold vD;rw[ah (x:=tupI p.2) (xs:=[tupI q.2]) (ax (ag rfl) rfl rfl) (ah (ax (ag rfl) rfl rfl) rfl),R.bind_ok];show R.ok (lD (p.2.map .int) (q.2.map .int)) S=_;rw[oF]
 have hc:=jo (x1:=λe:Int×Int=>D.int e.1) (x2:=λe=>D.int e.2) (out:=λe=>D.int (e.1-e.2)) (e:=eOp fJ (ai 0) (ai 1)) (caps:=[]) (tl:=[]) (p.2.zip q.2) hi (by rw[List.length_zip];omega) rfl λe _=>ax (ag rfl) (ag rfl) rfl
 rw[xZ]at hc;exact bc (ρ:=[some (prD p),some (prD q),none]) rfl ((ay (aK hc)).trans (aR (cX (xs:=[.int (p.1-q.1),tupI (dif p q).2]) (ah (ax (ax (ag rfl) rfl rfl) (ax (ag rfl) rfl rfl) rfl) (ah (aW (ah (ag rfl) rfl) rfl) rfl)) z2')))
theorem x8:∀l:List Pr,mD (l.map prD)=some l
 |[]=>rfl
 |p::l=>by
  have h1:Ay (prD p)=some p:=by show(intsOf (p.2.map .int)).map (λn=>(p.1,n))=some p;rw[iI];rfl
  rw[Jl,mD,h1,x8 l]
theorem zd{α:Type}(b:Bool){ns:List Pr}(d d':α){xs:List α}(h:xs.length=ns.length):SK.byOrd b ns d xs=SK.byOrd b ns d' xs:=by
 unfold SK.byOrd;congr 1;refine Z8 λi hi=>?_
 have hi':i<(PySem.W.katRev b xs).length:=by rw[SK.katRev_len,h];exact V6.mp ((SK.ordOf_perm b ns).mem_iff.mp hi)
 rw[Jn,Jn,Jd hi'];rfl
noncomputable abbrev cZ(l:List Pr):D:=.lst (l.map prD)
theorem x9{l:List Pr}(h:l.length<64)(S:Sto):mI true S [cZ l]=some (cZ (we l)):=by
 show(match mD (l.map prD) with|some ns=>if (l.map prD).length<64 then some (D.lst (SK.byOrd true ns .non (l.map prD))) else none|none=>none)=_
 rw[x8]
 show(if (l.map prD).length<64 then _ else _)=_
 rw[J8 (by rw[Jg];exact h),zd true D.non (prD (0,[])) (by rw[Jg]),SK.byOrd_map]
 rfl
theorem G1:∀(xs:List Int)(k:Nat),numbered k (xs.map .int)=(xs.zipIdx k).map λe=>D.tup [.int (e.2:Nat),.int e.1]
 |[],_=>rfl
 |x::xs,k=>by have:=G1 xs (k+1);rw[Jl,Wr,Jl,<- this];rfl
noncomputable abbrev stT:TM:=(tV (eOp oGt (eB cY (af (ai 1) ao)) (eC (.int 1))))
noncomputable abbrev stB:SM:=(aC (aT 1 (eB (mI true) (af (eOp ba (eSl mR (ai 1) (jB (eC (.int 2))) oNo) (jM (af (aw cH (af (eOp oIx (ai 1) (eC (.int 0))) (af (eOp oIx (ai 1) (eC (.int 1))) ao))) ao))) ao))) (bW (ki cu (ai 2) (af (ai 1) ao))))
theorem ya(l:List Pr)(r0 r2:Option D)(S:Sto):stT [r0,some (cZ l),r2] S=.ok (decide ((1:Int)<l.length)) S:=by refine bX (ax (y:=.int 1) (x:=.int l.length) (aW (ah (ag rfl) rfl) ?_) rfl rfl);show some (D.int ((l.map prD).length:Int))=_;rw[Jg]
theorem sl2(a b:Pr)(r:List Pr)(S:Sto):mR S (cZ (a::b::r)) (some 2) none=some (cZ r):=by
 show some (D.lst (PD.cutD ((a::b::r).map prD) (some ((2:Nat):Int)) none))=_
 rw[um _ _ (by simp)]
 rfl
theorem ixK{L:List D}{k:Nat}{d:D}(h:L[k]?=some d)(S:Sto):oIx S (.lst L) (.int (k:Int))=some d:=by
 have hk:k<L.length:=(Ja.mp h).1;show atI L (k:Int)=some d;unfold atI
 have e:ixN L.length (k:Int)=some k:=by
  unfold ixN
  rw[J8 (by omega)]
  first
   |rfl
   |(rw[J8 (by omega)];rfl)
   |simp[hk]
 rw[e];exact h
theorem C3{a b:Pr}{r:List Pr}(h:(a::b::r).length<=16)(ha:a.2.length<=1000){acc:List D}(hm:S[m]?=some (.lst acc))(hl:acc.length<=100)(r0:Option D):
  stB [r0,some (cZ (a::b::r)),some (.ref m)] S=.ok (.nx [r0,some (cZ (nxt (a::b::r))),some (.ref m)]) (S.set m (.lst (acc++[cZ (nxt (a::b::r))]))):=by
 have z:(1000:Nat)<=sizeLine:=by decide
 have hadd:ba S (cZ r) (.lst [prD (dif a b)])=some (cZ (r++[dif a b])):=by show _=some (D.lst ((r++[dif a b]).map prD));rw[Qk];refine Fo ?_;rw[Jg];simp at h ⊢;omega
 have h1:eB (mI true) (af (eOp ba (eSl mR (ai 1) (jB (eC (.int 2))) oNo) (jM (af (aw cH (af (eOp oIx (ai 1) (eC (.int 0))) (af (eOp oIx (ai 1) (eC (.int 1))) ao))) ao))) ao) [r0,some (cZ (a::b::r)),some (.ref m)] S=.ok (cZ (nxt (a::b::r))) S:=
  aW (ah (ax (vZ (ag rfl) (oz rfl) rfl (sl2 a b r S)) (xy (xs:=[prD (dif a b)]) (ah ((ar (ah (ax (ag rfl) rfl (ixK (k:=0) rfl S)) (ah (ax (ag rfl) rfl (ixK (k:=1) rfl S)) rfl))).trans (FE ha S)) rfl) z1') hadd) rfl) (x9 (by simp at h ⊢;omega) S)
 exact(ay (aK h1)).trans (bo ((rP (ag rfl) (xQ hm) (ah (ag rfl) rfl)).trans (qB hm (by omega))))
theorem FF{x:PD.F}(h:bS t b n r S=.ok x S1):sWh t b r S=.ok x S1:=(Ac n (by rw[h];intro z;cases z)).trans h
theorem C4(ht:t r S=.ok true S1)(hb:b r S1=.ok (.nx r1) S2):bS t b (n+1) r S=bS t b n r1 S2:=by rw[bS];show((t r S).bind _)=_;rw[ht,R.bind_ok,J8 rfl,hb,R.bind_ok]
theorem C5(ht:t r S=.ok false S1):bS t b (n+1) r S=.ok (.nx r) S1:=by unfold bS;rw[ht,R.bind_ok,Jb Jk]
noncomputable def oG:Nat->List Pr->List (List Pr)
 |0,_=>[]
 |k+1,l=>nxt l::oG k (nxt l)
noncomputable def jd:Nat->List Pr->List Pr
 |0,l=>l
 |k+1,l=>jd k (nxt l)
theorem uK:∀(k:Nat)(l:List Pr),(oG k l).length=k
 |0,_=>rfl
 |k+1,l=>by show(oG k (nxt l)).length+1=_;rw[uK]
theorem oH:∀(k:Nat)(l:List Pr),∃pre,l::oG k l=pre++[jd k l]
 |0,l=>⟨[],rfl⟩
 |k+1,l=>by
  obtain⟨pre,e⟩:=oH k (nxt l)
  exact⟨l::pre,by show l::(nxt l::oG k (nxt l))=_;rw[e];rfl⟩
theorem Good.fin:∀(k:Nat){l:List Pr},Good row l->Good row (jd k l)
 |0,_,g=>g
 |k+1,_,g=>Good.fin k g.nxt
theorem yb:∀(k:Nat){l:List Pr},l.length=k+1->(jd k l).length=1
 |0,_,h=>h
 |k+1,l,h=>yb k (by rw[se (by omega)];omega)
theorem set_same{o:SO}(h:S[m]?=some o):S.set m o=S:=by
 apply List.ext_getElem?;intro i;by_cases e:m=i
 ·subst e;rw[Y8 (Ja.mp h).1,h]
 ·rw[Yc e]
theorem yc(hn:row.length<=16)(r0:Option D):∀(k:Nat)(l:List Pr)(S:Sto)(acc:List D),Good row l->(l.length=k+1\/(k=0/\l=[]))->k<=15->acc.length+k<=100->S[m]?=some (.lst acc)->
  bS stT stB (k+1) [r0,some (cZ l),some (.ref m)] S=.ok (.nx [r0,some (cZ (jd k l)),some (.ref m)]) (S.set m (.lst (acc++(oG k l).map cZ)))
 |0,l,S,acc,g,hl,_,_,hm=>by
  have ht:=ya l r0 (some (.ref m)) S
  rw[Jz (by rcases hl with h|⟨_,h⟩<;>simp[h])]at ht
  rw[C5 ht];show _=R.ok (F.nx _) (S.set m (.lst (acc++[])));rw[Yr,set_same hm];rfl
 |k+1,l,S,acc,g,hl,hk,ha,hm=>by
  have hl:l.length=k+2:=hl.elim id λz=>absurd z.1 (by omega)
  match l,g,hl with
  |a::b::r,g,hl=>
   have ht:=ya (a::b::r) r0 (some (.ref m)) S
   rw[Jx (by rw[hl];omega)]at ht
   have hb:=C3 (a:=a) (b:=b) (r:=r) (by omega) (by have:=g.len a (.head _);omega) hm (by omega) r0
   rw[C4 ht hb];have hm1:(S.set m (.lst (acc++[cZ (nxt (a::b::r))])))[m]?=some (.lst (acc++[cZ (nxt (a::b::r))])):=Y8 (Ja.mp hm).1
   rw[yc hn r0 k (nxt (a::b::r)) _ _ g.nxt (.inl (by rw[se (by omega)];omega)) (by omega) (by rw[Jp];show acc.length+1+k<=100;omega) hm1]
   rw[Wn,Ye];rfl
noncomputable abbrev l0(row:List Int):List Pr:=we (start row)
theorem wj(row:List Int):(l0 row).length=row.length:=(uD _).trans (qE row)
theorem yd(row:List Int):Good row (l0 row):=(wg row).perm (jq _)
noncomputable def kM(row:List Int):List (List Pr):=l0 row::oG (row.length-1) (l0 row)
theorem ze(hn:row.length<=16)(r1 r2:Option D)(S:Sto):eB (mI true) (af (aU (kj (af (ai 0) ao)) 2 [0] (.tp [(.nm 0),(.nm 1)]) bf (dE (af (ai 1) (af (aw bZ (af (ai 0) (af (ai 2) ao))) ao)))) ao) [some (tupI row),r1,r2] S=.ok (cZ (l0 row)) S:=by
 have z:(1000:Nat)<=sizeLine:=by decide
 have hi:kj (af (ai 0) ao) [some (tupI row),r1,r2] S=.ok (row.zipIdx.map λe=>D.tup [.int (e.2:Nat),.int e.1]) S:=by unfold kj;rw[ah (x:=tupI row) (xs:=[]) (ag rfl) rfl,R.bind_ok];show R.ok (numbered 0 (row.map .int)) S=_;rw[G1]
 have hc:=jo (x1:=λe:Int×Nat=>D.int (e.2:Nat)) (x2:=λe=>D.int e.1) (out:=λe=>prD (e.1,gC row.length e.2)) (e:=dE (af (ai 1) (af (aw bZ (af (ai 0) (af (ai 2) ao))) ao))) (caps:=[0]) (tl:=[some (tupI row)]) row.zipIdx hi (by simp;omega) rfl λe _=>
  cX (xs:=[.int e.1,tupI (gC row.length e.2)]) (ah (ag rfl) (ah ((ar (ah (ag rfl) (ah (ag rfl) rfl))).trans (G0 (by omega) e.2 S)) rfl)) z2'
 have e:row.zipIdx.map (λe=>prD (e.1,gC row.length e.2))=(start row).map prD:=by unfold start;rw[Yn];rfl
 rw[e]at hc
 exact aW (ah hc rfl) (x9 (by rw[qE];omega) S)
theorem uL(hn:row.length<=16)(S:Sto):bb [tupI row] S=.ok (.ref S.length) (S++[.lst ((kM row).map cZ)]):=by
 have hN:eNew (af (ai 1) ao) [some (tupI row),some (cZ (l0 row)),none] S=.ok (.ref S.length) (S++[.lst [cZ (l0 row)]]):=by unfold eNew;rw[ah (ag rfl) rfl,R.bind_ok];exact J8 z1'
 have hw:=yc hn (some (tupI row)) (m:=S.length) (row.length-1) (l0 row) (S++[.lst [cZ (l0 row)]]) [cZ (l0 row)] (yd row) (by
  have:=wj row;by_cases h:row.length=0
  ·exact .inr ⟨by omega,Zg.mp (by omega)⟩
  ·exact .inl (by omega)) (by omega) (by show 1+_<=100;omega) (by simp)
 have es:(S++[SO.lst [cZ (l0 row)]]).set S.length (.lst ([cZ (l0 row)]++(oG (row.length-1) (l0 row)).map cZ))=S++[.lst ((kM row).map cZ)]:=by rw[Wl _ _ (J9 _)];simp[kM]
 rw[es]at hw;exact bc (ρ:=[some (tupI row),none,none]) rfl ((ay (aK (ze hn none none S))).trans ((ay (aK hN)).trans ((ay (FF hw)).trans (aR (ag rfl)))))
noncomputable abbrev fT(l:List Pr):D:=tupI (fs l)
theorem ye:∀xs ys:List Int,wor xs ys=dotL xs ys
 |[],_=>by simp[wor,dotL]
 |_::_,[]=>by simp[wor,dotL]
 |x::xs,y::ys=>by have:=ye xs ys;unfold dotL at this ⊢;simp[wor,this]
theorem FG(l:List Pr)(hl:l.length<=1000)(S:Sto):eB de (af (aU (bN (ai 0) bw) 2 [] (.tp [(.nm 0),(.nm 1)]) bf (ai 0)) ao) [some (cZ l)] S=.ok (fT l) S:=by
 have z:(1000:Nat)<=sizeLine:=by decide
 have hc:=jo (x1:=λp:Pr=>D.int p.1) (x2:=λp=>tupI p.2) (out:=λp=>D.int p.1) (e:=ai 0) (it:=bN (ai 0) bw) (caps:=[]) (tl:=[]) (r:=[some (cZ l)]) (S:=S) l (jY rfl rfl) (by omega) rfl λp _=>ag rfl
 have e:l.map (λp=>D.int p.1)=(fs l).map .int:=by unfold fs;rw[Yn];rfl
 rw[e]at hc;exact aW (ah hc rfl) rfl
theorem qF:∀(k:Nat){l:List Pr},l.length<=16->∀x∈l::oG k l,x.length<=16
 |0,l,h,x,hx=>by
  have e:x=l:=by simpa[oG] using hx
  rw[e];exact h
 |k+1,l,h,x,hx=>by
  rcases Jj.mp hx with rfl|hx
  ·exact h
  ·refine qF k ?_ x hx
   match l,h with
   |[],h=>exact h
   |[_],h=>exact h
   |a::b::r,h=>rw[se (by simp)];omega
theorem sf(h0:row≠[]):∃p:Pr,jd (row.length-1) (l0 row)=[p]/\p.2.length=row.length/\p.1=dotL row p.2/\∀y∈p.2,y = -1\/y=1:=by
 have hl:0<row.length:=List.length_pos_iff.mpr h0;have g:=Good.fin (row.length-1) (yd row)
 have e:=yb (row.length-1) (l:=l0 row) (by rw[wj];omega)
 obtain⟨p,hp⟩:=List.length_eq_one_iff.mp e;rw[hp]at g;refine⟨p,hp,g.len p (.head _),g.val p (.head _),λy hy=>?_⟩;obtain⟨i,hi,rfl⟩:=Qs.mp hy
 have h1:=g.one i (by rw[<- g.len p (.head _)];exact hi)
 simp[Jn,hi]at h1;omega
noncomputable def kN:List Int->List Int
 |[]=>[]
 |x::xs=>((jd xs.length (l0 (x::xs))).getD 0 (0,[])).2
theorem Bk(hr:Row row)(S:Sto):∃S',bP [tupI row] S=.ok (tupI (kN row)) S'/\(∀i,i<S.length->S'[i]?=S[i]?):=by
 have hq:fB S (tupI row) (.tup [])=some (.bl (decide (row=[]))):=by
  have:=zc row [];unfold fB
  rw[show(D.tup []:D)=.tup (([]:List Int).map .int) from rfl,this];rfl
 have hc:tV (eOp fB (ai 0) (dE ao)) [some (tupI row),none] S=.ok (decide (row=[])) S:=bX (ax (ag rfl) (cX (xs:=[]) rfl (Y0 _)) hq);have hnr:=cD hr S;by_cases h0:row=[]
 ·rw[Jx h0]at hc;subst h0;refine⟨S,bc (ρ:=[some (tupI []),none]) rfl ((ay (bo ((ar (ah (ag rfl) rfl)).trans hnr))).trans (CH ((Du hc).trans (aR (cX (xs:=[]) rfl (Y0 _)))))),λ_ _=>rfl⟩
 ·rw[Jz h0]at hc;obtain⟨p,hp,_⟩:=sf h0;obtain⟨pre,hpre⟩:=oH (row.length-1) (l0 row);have hs:=uL hr.2 S
  have hix:oIx (S++[SO.lst ((kM row).map cZ)]) (.ref S.length) (.int (-1))=some (cZ [p]):=by
   refine uC (L:=pre.map cZ) ?_
   have:kM row=pre++[[p]]:=by show l0 row::_=_;rw[hpre,hp]
   rw[this];simp
  have hy:kN row=p.2:=by
   cases row with
   |nil=>exact absurd rfl h0
   |cons x xs=>
    show((jd xs.length (l0 (x::xs))).getD 0 (0,[])).2=_;have hp':jd xs.length (l0 (x::xs))=[p]:=hp;rw[hp'];rfl
  rw[hy]
  refine⟨S++[.lst ((kM row).map cZ)],bc (ρ:=[some (tupI row),none]) rfl ((ay (bo ((ar (ah (ag rfl) rfl)).trans hnr))).trans ((ay ((fH hc).trans rfl)).trans ((ay (aK (d:=prD p) (ax (ax ((ar (ah (ag rfl) rfl)).trans hs) rfl hix) rfl rfl))).trans (aR (ax (ag rfl) rfl rfl))))),λi hi=>by rw[Jv hi]⟩
theorem Bl(row:List Int):(kN row).length=row.length/\∀y∈kN row,y = -1\/y=1:=by
 cases row with
 |nil=>exact⟨rfl,λy hy=>nomatch hy⟩
 |cons x xs=>
  obtain⟨p,hp,h1,_,h3⟩:=sf (row:=x::xs) (by simp)
  have hp':jd xs.length (l0 (x::xs))=[p]:=hp
  have e:kN (x::xs)=p.2:=by show((jd xs.length (l0 (x::xs))).getD 0 (0,[])).2=_;rw[hp'];rfl
  rw[e];exact⟨h1,h3⟩
noncomputable def cR(h:Int->Int):List Int->Int
 |[]=>h 0
 |x::xs=>cR (λy=>h (y-x)) xs+cR (λy=>h (y+x)) xs
theorem bQ{g h:Int->Int}(e:∀y,g y=h y)(xs:List Int):cR g xs=cR h xs:=by rw[funext e]
theorem sh:∀(xs:List Int)(h:Int->Int)(x:Int),cR h (xs++[x])=cR (λy=>h (y-x)) xs+cR (λy=>h (y+x)) xs
 |[],h,x=>rfl
 |z::xs,h,x=>by
  show cR _ (xs++[x])+cR _ (xs++[x])=(cR (λy=>h (y-z-x)) xs+cR (λy=>h (y+z-x)) xs)+(cR (λy=>h (y-z+x)) xs+cR (λy=>h (y+z+x)) xs)
  rw[sh xs,sh xs,bQ (g:=λy=>h (y-x-z)) (h:=λy=>h (y-z-x)) λy=>by rw[show y-x-z=y-z-x by omega],bQ (g:=λy=>h (y+x-z)) (h:=λy=>h (y-z+x)) λy=>by rw[show y+x-z=y-z+x by omega],bQ (g:=λy=>h (y-x+z)) (h:=λy=>h (y+z-x)) λy=>by rw[show y-x+z=y+z-x by omega],bQ (g:=λy=>h (y+x+z)) (h:=λy=>h (y+z+x)) λy=>by rw[show y+x+z=y+z+x by omega]]
  omega
theorem wk:∀(xs:List Int)(h:Int->Int),cR h xs.reverse=cR h xs
 |[],_=>rfl
 |x::xs,h=>by rw[Wg,sh,wk xs,wk xs];rfl
theorem wm(ys:List Int):∀(xs:List Int)(h:Int->Int),cR h (xs++ys)=cR (λx=>cR (λy=>h (x+y)) ys) xs
 |[],h=>bQ (λy=>by rw[Int.zero_add]) ys
 |x::xs,h=>by
  show cR _ (xs++ys)+cR _ (xs++ys)=cR _ xs+cR _ xs;rw[wm ys xs,wm ys xs];congr 1
  ·exact bQ (λa=>bQ (λy=>by rw[show a+y-x=a-x+y by omega]) ys) xs
  ·exact bQ (λa=>bQ (λy=>by rw[show a+y+x=a+x+y by omega]) ys) xs
theorem wo:∀(xs:List Int)(h:Int->Int),cR (λy=>h (-y)) xs=cR h xs
 |[],h=>rfl
 |x::xs,h=>by
  show cR (λy=>h (-(y-x))) xs+cR (λy=>h (-(y+x))) xs=cR (λy=>h (y-x)) xs+cR (λy=>h (y+x)) xs;rw[<- wo xs λy=>h (y-x),<- wo xs λy=>h (y+x),Int.add_comm];congr 1
  ·exact bQ (λy=>by rw[show -(y+x) = -y-x by omega]) xs
  ·exact bQ (λy=>by rw[show -(y-x) = -y+x by omega]) xs
theorem Dx:∀(xs pre:List Int)(h:Int->Int),((wsL KS (pre++xs)).map h).sum=((wsL KS pre).map λy=>cR (λz=>h (y+z)) xs).sum
 |[],pre,h=>by rw[Yr];refine Zv List.sum (Z8 λy _=>?_);show h y=h (y+0);rw[Int.add_zero]
 |x::xs,pre,h=>by
  have:=Dx xs (pre++[x]) h;rw[Ye]at this
  rw[show pre++x::xs=pre++([x]++xs) from rfl,this,gg,vW]
  refine Zv List.sum (Z8 λy _=>?_);show cR (λz=>h (y + -1*x+z)) xs+(cR (λz=>h (y+1*x+z)) xs+0)=cR (λz=>h (y+(z-x))) xs+cR (λz=>h (y+(z+x))) xs
  rw[bQ (g:=λz=>h (y + -1*x+z)) (h:=λz=>h (y+(z-x))) λz=>by rw[show y + -1*x+z=y+(z-x) by omega],bQ (g:=λz=>h (y+1*x+z)) (h:=λz=>h (y+(z+x))) λz=>by rw[show y+1*x+z=y+(z+x) by omega]]
  omega
noncomputable def ind(v y:Int):Int:=if y=v then 1 else 0
noncomputable def cnt(xs:List Int)(v:Int):Int:=cR (ind v) xs
theorem uM(h:Hist T (wsL KS xs))(f:Int->Int):sumH f T=cR f xs:=by
 have e:=Dx xs [] f;rw[h.sum];refine e.trans ?_;show cR (λz=>f (0+z)) xs+0=_;rw[Int.add_zero]
 exact bQ (λy=>by rw[Int.zero_add]) xs
theorem uN(h:Hist T (wsL KS xs))(v:Int):gT T v=cnt xs v:=(rV h.keys).symm.trans (uM h _)
theorem C6(xs:List Int)(v:Int):cnt xs (-v)=cnt xs v:=by
 unfold cnt;rw[<- wo xs (ind (-v))];refine bQ (λy=>?_) xs;unfold ind;by_cases h:y=v
 ·rw[J8 h,J8 (by omega)]
 ·rw[Jb h,Jb (by omega)]
theorem uP(h10:xs.length<=10)(hr:Row xs)(v:Int)(S:Sto):∃S':Sto,cI [tupI xs,.int v] S=.ok (.int (cnt xs v)) S'/\Pre S S':=by
 obtain⟨S',A,B,e,p,hA,hB⟩:=CM h10 hr v S;refine⟨S',?_,p⟩;rw[e,uM hA];congr 2
 have:cnt xs v=cR (ind v) (xs.take (xs.length/2)++xs.drop (xs.length/2)):=by rw[Zc];rfl
 rw[this,wm];refine bQ (λx=>?_) _;rw[uN hB];refine bQ (λy=>?_) _;unfold ind;by_cases h:x+y=v
 ·rw[J8 h,J8 (by omega)]
 ·rw[Jb h,Jb (by omega)]
theorem Bm(h8:xs.length<=8)(hr:Row xs)(v:Int)(S:Sto):∃S':Sto,dH [tupI xs,.int v] S=.ok (.int (cnt xs v)) S'/\Pre S S':=by
 obtain⟨S',n,T,e,hd,_,hT,p⟩:=gi (K:=KS) (xs:=xs) (by decide) (by decide) (by omega) S
 have hat:dAt S' n T:=.inl hd;refine⟨S',?_,p⟩;rw[<- uN hT,<- ou]
 exact bc (ρ:=[some (tupI xs),some (.int v)]) rfl ((ay (bo ((ar (ah (ag rfl) (ah (ag rfl) rfl))).trans (GV hr (by omega) v S)))).trans (aR (kH ((ar (ah (ag rfl) (ah rfl rfl))).trans e) hat.dic (ag rfl) rfl hat.dic rfl)))
def Un(xs:List Int)(u:Int):Prop:=wb xs 0 (some u)
theorem mP(h12:xs.length<=12)(hr:Row xs)(hu:Un xs u)(S:Sto):∃S':Sto,aE [tupI xs] S=.ok (.int u) S'/\Pre S S':=by obtain⟨S',u',e,p,h⟩:=qA h12 hr S;have:=wb.uniq h hu;subst this;exact⟨S',e,p⟩
theorem je(h10:xs.length<=10)(hr:Row xs)(hu:Un xs u)(S:Sto):∃S':Sto,bj [tupI xs] S=.ok (.int (if u=0 then cnt xs u else 2*cnt xs u)) S'/\Pre S S':=by
 obtain⟨S1,e1,p1⟩:=mP (by omega) hr hu S
 obtain⟨S2,e2,p2⟩:=uP h10 hr u S1;by_cases h0:u=0
 ·rw[J8 h0];refine⟨S2,bc (ρ:=[some (tupI xs),none,none]) rfl ?_,p1.trans p2⟩;refine(ay (aK ((ar (ah (ag rfl) rfl)).trans e1))).trans ((ay (aK ((ar (ah (ag rfl) (ah (ag rfl) rfl))).trans e2))).trans (aR ?_))
  exact(Dv (bX (ax (ag rfl) rfl (by rw[lN,Jx h0])))).trans (ag rfl)
 ·obtain⟨S3,e3,p3⟩:=uP h10 hr (-u) S2;rw[C6]at e3
  rw[Jb h0,show 2*cnt xs u=cnt xs u+cnt xs u by omega]
  refine⟨S3,bc (ρ:=[some (tupI xs),none,none]) rfl ?_,(p1.trans p2).trans p3⟩;refine(ay (aK ((ar (ah (ag rfl) rfl)).trans e1))).trans ((ay (aK ((ar (ah (ag rfl) (ah (ag rfl) rfl))).trans e2))).trans (aR ?_))
  exact(Dw (bX (ax (ag rfl) rfl (by rw[lN,Jz h0])))).trans (ax (ag rfl) ((ar (ah (ag rfl) (ah rfl rfl))).trans e3) rfl)
theorem C7(h10:xs.length<=10)(hr:Row xs)(hu:Un xs u)(S:Sto):∃(S':Sto)(p:List Int),fq [tupI xs] S=.ok (tupI p) S'/\Pre S S'/\(Sg xs u p\/Sg xs (-u) p):=by
 obtain⟨S1,e1,p1⟩:=mP (by omega) hr hu S
 obtain⟨S2,p,e2,p2,h2⟩:=uo h10 hr hu.1 S1;obtain⟨S3,q,e3,p3,h3⟩:=uo h10 hr (rZ hu.1) S2
 refine⟨S3,min2 p q,?_,(p1.trans p2).trans p3,by unfold min2;split;exact .inr h3;exact .inl h2⟩
 exact bc (ρ:=[some (tupI xs),none]) rfl ((ay (aK ((ar (ah (ag rfl) rfl)).trans e1))).trans (aR (aW (ah ((ar (ah (ag rfl) (ah (ag rfl) rfl))).trans e2) (ah ((ar (ah (ag rfl) (ah rfl rfl))).trans e3) rfl)) (qm _ _ _))))
theorem wq(h12:xs.length<=12)(hr:Row xs):∃u,Un xs u:=by obtain⟨_,u,_,_,h⟩:=qA h12 hr [];exact⟨u,h⟩
theorem Un.perm(p:xs.Perm ys)(h:Un xs u):Un ys u:=⟨(rQ p _).mp h.1,h.2.1,λz hz=>h.2.2 z ((rQ p _).mpr hz)⟩
theorem Un.more{m:Int}(h:Un xs u)(p:(m::xs).Perm ys)(hm:1<=m)(hw:Un ys w):w<=(if u<m then m else u):=by
 have h0:=h.2.1
 have a1:Wo KS ys (u-m):=(rQ p _).mp ⟨-1,by decide,by rw[show u-m-m * -1=u by omega];exact h.1⟩
 by_cases c:u<m
 ·rw[J8 c]
  have:=hw.2.2 _ (rZ a1) (by omega)
  omega
 ·rw[Jb c]
  have:=hw.2.2 _ a1 (by omega)
  omega
theorem kO{t:Int}(ht:1<=t):∀{xs:List Int}{v:Int},Wo KS (xs.map λx=>x*t) v↔∃w,v=t*w/\Wo KS xs w
 |[],v=>⟨λh=>⟨0,by have h:v=0:=h;rw[h,Int.mul_zero],rfl⟩,λ⟨w,e,h⟩=>by have h:w=0:=h;rw[e,h,Int.mul_zero];rfl⟩
 |x::xs,v=>by
  constructor
  ·rintro⟨q,hq,h⟩;obtain⟨w,e,hw⟩:=(kO ht).mp h
   refine⟨w+x*q,?_,q,hq,by rw[show w+x*q-x*q=w by omega];exact hw⟩
   have e:v-x*t*q=t*w:=e
   rw[Int.mul_add,<- e,show t*(x*q)=x*t*q by rw[Us x t,Int.mul_assoc]];omega
  ·rintro⟨w,rfl,q,hq,h⟩;refine⟨q,hq,(kO ht).mpr ⟨w-x*q,?_,h⟩⟩;show t*w-x*t*q=_
   rw[Int.mul_sub,show t*(x*q)=x*t*q by rw[Us x t,Int.mul_assoc]]
theorem Un.times{t:Int}(ht:1<=t)(h:Un xs u):Un (xs.map λx=>x*t) (t*u):=by
 refine⟨(kO ht).mpr ⟨u,rfl,h.1⟩,Int.mul_nonneg (by omega) h.2.1,λz hz h0=>?_⟩
 obtain⟨w,rfl,hw⟩:=(kO ht).mp hz
 refine Int.mul_le_mul_of_nonneg_left (h.2.2 w hw ?_) (by omega)
 rcases Int.lt_or_le w 0 with c|c
 ·have:=Int.mul_neg_of_pos_of_neg (show 0<t by omega) c
  omega
 ·exact c
theorem yf:∀{xs:List Int}{v:Int},Wo KS xs v->(v-xs.sum)%2=0
 |[],v,h=>by have h:v=0:=h;rw[h];rfl
 |x::xs,v,⟨q,hq,h⟩=>by have:=yf h;rw[Yl];rcases kJ hq with rfl|rfl<;>omega
theorem Bn(hr:Row row)(h8:row.length<=8)(S:Sto):∃(S':Sto)(l:Nat)(Ls:List (List Int)),cz [tupI row] S=.ok (.ref l) S'/\lAt S' l (dJ Ls)/\Lay KS row Ls/\S.length<=l/\Pre S S':=by
 obtain⟨S',l,Ls,e,h1,h2,h3,h4⟩:=y6 (K:=KS) (row:=row) (by decide) (by decide) (by omega) S
 exact⟨S',l,Ls,bc (ρ:=[some (tupI row)]) rfl ((ay (bo ((ar (ah (ag rfl) rfl)).trans (wc hr (by omega) S)))).trans (aR ((ar (ah (ag rfl) (ah rfl rfl))).trans e))),.inl h1,h2,h3,h4⟩
noncomputable def uQ(i:Int):Int:=if i<0 then -i else i
theorem C8(hm:∀v,v∈L->v∈L/\-v∈L)(hu:u∈L)(h0:0<=u)(hl:∀z∈L,0<=z->u<=z)(S:Sto):tM S [.lst (L.map λv=>D.int (uQ v))]=some (.int u):=by
 have e:(L.map λv=>D.int (uQ v))=(L.map uQ).map .int:=by rw[Yn];rfl
 rw[e]
 match hq:L.map uQ with
 |[]=>
  have:L=[]:=List.map_eq_nil_iff.mp hq;rw[this]at hu;cases hu
 |n::ns=>
  obtain⟨h1,h2⟩:=xP (l:=n::ns) (u:=eR n ns) rfl;rw[<- hq]at h1 h2;obtain⟨w,hw,ew⟩:=Y1.mp h1;have a1:=h2 _ (Y1.mpr ⟨u,hu,rfl⟩)
  have a2:u<=uQ w:=by
   unfold uQ;split
   ·exact hl _ (hm w hw).2 (by omega)
   ·exact hl _ hw (by omega)
  have a3:uQ u=u:=Jb (by omega)
  have a4:eR n ns=u:=by omega
  show tL S [.lst ((n::ns).map .int)]=_;unfold tL;simp only[kn,eg,a4]
theorem Bo(hr:Row row)(h8:row.length<=8)(hu:Un row u)(hl:lAt S l (dJ Ls))(hL:Lay KS row Ls):∃S':Sto,cy [.ref l,tupI row] S=.ok (.int u) S'/\(∀j,j≠l->j<S.length->S'[j]?=S[j]?)/\S.length<=S'.length:=by
 have z:(1000:Nat)<=sizeLine:=by decide
 have h0:(0:Int)∈Ls.getD 0 []:=(hL.mem 0 (Y0 _) 0).mpr (by rw[Uu];rfl)
 have hc:∀j,(hj:j<row.length)->∀a∈Ls.getD j [],∀q∈KS,a+q*row[j]∈Ls.getD (j+1) []:=λj hj a ha q hq=>by
  have hw:=(hL.mem j (by omega) a).mp ha
  rw[hL.mem (j+1) hj,U0,Jd hj];show Wo KS (row.take j++[row[j]]) _;rw[<- rW,gg,rT];exact⟨a,rW.mpr hw,q,hq,rfl⟩
 obtain⟨S1,e1,l1,o1,n1⟩:=FC (K:=KS) (row:=row) (by decide) (by omega) hL.len hL.up hL.sm h0 hc hl
 have hx:=CU (S:=S1) l1 hL.len
 have hm:∀v,v∈Ls.getD row.length []↔Wo KS row v:=λv=>by
  have:=hL.mem row.length (J9 _) v
  rwa [Wq]at this
 have hlen:(Ls.getD row.length []).length<=1000:=by
  have hi:row.length<Ls.length:=by rw[hL.len];omega
  rw[Jn,Jd hi];exact hL.sm _ (Qw hi)
 have hit:bN (eOp oIx (ai 0) (eUn iW (eC (.int 1)))) bw [some (.ref l),some (tupI row)] S1=.ok ((Ls.getD row.length []).map .int) S1:=by unfold bN;rw[ax (ag rfl) rfl hx,R.bind_ok];rfl
 have hcc:=dC (enc:=D.int) (out:=λv:Int=>D.int (uQ v)) (e:=eB tq (af (ai 0) ao)) (caps:=[]) (tl:=[]) (Ls.getD row.length []) hit (by omega) rfl λv _=>aW (ah (ag rfl) rfl) rfl
 have hmin:=C8 (L:=Ls.getD row.length []) (u:=u) (λv hv=>⟨hv,(hm _).mpr (rZ ((hm v).mp hv))⟩) ((hm u).mpr hu.1) hu.2.1 (λw hw=>hu.2.2 w ((hm w).mp hw)) S1
 exact⟨S1,bc (ρ:=[some (.ref l),some (tupI row)]) rfl ((ay (bo ((ar (ah (ag rfl) rfl)).trans (wc hr (by omega) S)))).trans ((ay ((fH (iH (b:=true) (bX ((ar (ah (ag rfl) (ah (ag rfl) (ah rfl rfl)))).trans e1)))).trans rfl)).trans (aR (aW (ah hcc rfl) hmin)))),o1,n1⟩
theorem Bp(hr:Row row)(S:Sto):∃S',cK [tupI row] S=.ok (.lst ((kM row).map fT)) S'/\Pre S S':=by
 have z:(1000:Nat)<=sizeLine:=by decide
 have hn:=hr.2;have hs:=uL hn S
 have hf:=Bf (m:=aw bb (af (ai 0) ao)) (r:=[some (tupI row)]) ((ar (ah (ag rfl) rfl)).trans hs) (by simp:(S++[SO.lst ((kM row).map cZ)])[S.length]?=some (.lst ((kM row).map cZ)))
 have hll:(kM row).length<=17:=by unfold kM;rw[Jm,uK];omega
 have hc:=qC (enc:=cZ) (out:=fT) (e:=eB de (af (aU (bN (ai 0) bw) 2 [] (.tp [(.nm 0),(.nm 1)]) bf (ai 0)) ao)) (caps:=[]) (tl:=[]) (kM row) hf (by omega) rfl λl hl=>FG l (by
  have:=qF (row.length-1) (l:=l0 row) (by rw[wj];exact hn) l hl
  omega) _
 exact⟨_,bc (ρ:=[some (tupI row)]) rfl ((ay (bo ((ar (ah (ag rfl) rfl)).trans (cD hr S)))).trans (aR hc)),(Pre.app S _).set (J9 _) _⟩
theorem Bq{L:List D}{d:D}:oIx S (.lst (L++[d])) (.int (-1))=some d:=by have h:([SO.lst (L++[d])]:Sto)[0]?=some (.lst (L++[d])):=rfl;exact uC h
def Ds(M:Int)(l:List Pr):Prop:=l.Pairwise (λp q=>q.1<=p.1)/\∀p∈l,0<=p.1/\p.1<=M
theorem Ds.srt{l:List Pr}(h:∀p∈l,0<=p.1/\p.1<=M):Ds M (we l):=by
 refine⟨(SK.byOrd_sorted true l).imp ?_,λp hp=>h p ((jq l).mem_iff.mp hp)⟩;intro p q hpq;simp only[Yd]at hpq;unfold ltP at hpq;by_cases e:p.1=q.1
 ·omega
 ·rw[Jb e]at hpq;have:=W8 hpq;omega
theorem Ds.nxt{l:List Pr}(h:Ds M l):Ds M (nxt l):=by
 match l,h with
 |[],h=>exact h
 |[_],h=>exact h
 |a::b::r,h=>
  refine Ds.srt λp hp=>?_;rcases Jr.mp hp with hq|hq
  ·exact h.2 p (.tail _ (.tail _ hq))
  ·rw[Ju.mp hq];have h1:=h.2 a (.head _);have h2:=h.2 b (.tail _ (.head _));have h3:=(Ze.mp h.1).1 b (.head _);show 0<=a.1-b.1/\a.1-b.1<=M;omega
theorem Ds.fin:∀(k:Nat){l:List Pr},Ds M l->Ds M (jd k l)
 |0,_,g=>g
 |k+1,_,g=>Ds.fin k g.nxt
theorem FH(h:∀x∈row,1<=x):Ds (iz 0 row) (l0 row):=Ds.srt λp hp=>by
 obtain⟨e,he,rfl⟩:=Y1.mp hp
 have hm:e.1∈row:=by have:=List.mem_zipIdx' he;rw[this.2];exact Qw _
 have h1:=h _ hm;have h2:=(rL row 0).1.2 _ hm
 exact⟨by show 0<=e.1;omega,h2⟩
theorem C9(h:∀x∈row,1<=x):0<=wor row (kN row)/\wor row (kN row)<=iz 0 row/\∀S:Sto,∃d,ba S (fT (jd (row.length-1) (l0 row))) (.tup [.int 0])=some d/\oIx S d (.int 0)=some (.int (wor row (kN row))):=by
 cases row with
 |nil=>exact⟨Z6 _,Z6 _,λS=>⟨_,rfl,rfl⟩⟩
 |cons x xs=>
  obtain⟨p,hp,_,hv,_⟩:=sf (row:=x::xs) (by simp)
  have hp':jd xs.length (l0 (x::xs))=[p]:=hp
  have e:kN (x::xs)=p.2:=by show((jd xs.length (l0 (x::xs))).getD 0 (0,[])).2=_;rw[hp'];rfl
  have hd:=(FH h).fin ((x::xs).length-1);rw[hp]at hd;have hd:=hd.2 p (.head _);rw[ye,e,<- hv,hp];exact⟨hd.1,hd.2,λS=>⟨.tup [.int p.1,.int 0],lO (a:=[.int p.1]) (b:=[.int 0]) z2',rfl⟩⟩
theorem Dc(ns:List Int)(c:Nat)(hn:ns.length<=63)(hc:1<=c/\c<=63)(r:Rho)(hr:r[0]?=some (some (.fz (ns.map .int))))(S:Sto):∃n:Nat,dM (af (eB rj (af (eC (.int 1)) (af (eB yB (af (eB cY (af (ai 0) ao)) (af (eC (.int c)) ao))) ao))) ao) r S=.ok ((List.range n).map (λ(i:Nat)=>D.int i)) S/\n<=c:=by
 refine⟨max 1 (min ns.length c),oj ?_ (by omega),by omega⟩
 have e:(if (1:Int)<(if (c:Int)<(ns.length:Int) then (c:Int) else (ns.length:Int)) then (if (c:Int)<(ns.length:Int) then (c:Int) else (ns.length:Int)) else 1)=((max 1 (min ns.length c):Nat):Int):=by split<;>split<;>omega
 rw[<- e];simp[af,ao,eB,eC,ai,R.bind,R.of,hr,cY,bu,yB,rj]
theorem Br(hr:Row row)(S:Sto):hZ [tupI row] S=.ok (.int row.sum) S:=
 bc (ρ:=[some (tupI row)]) rfl ((ay (bo ((ar (ah (ag rfl) rfl)).trans (cD hr S)))).trans (aR (aW (ah (ag rfl) rfl) Fl)))
theorem Dd{j:Nat}{t:AM}{x y:D}(h:t r S=.ok [x,y] S1):B6 i j t r S=.ok (.nx ((r.set i (some x)).set j (some y))) S1:=by unfold B6;rw[h,R.bind_ok]
theorem zf{f g:Sto->D->D->Option D}{b c:EM}{x y z w:D}(ha:a r S=.ok x S1)(hb:b r S1=.ok y S2)(hf:f S2 x y=some (.bl true))(hc:c r S2=.ok z S3)(hg:g S3 y z=some w):iT f g a b c r S=.ok w S3:=by unfold iT;rw[ha,R.bind_ok,hb,R.bind_ok];simp only[hf];rw[hc,R.bind_ok,hg];rfl
theorem jr(S:Sto)(i:Int):jv S (.int i) (.int i)=some (.bl false):=by rw[AV,Jx rfl];rfl
theorem Bt(hr:Row row)(h8:row.length<=8)(hu:Un row u)(S:Sto):∃S':Sto,du [tupI row] S=.ok (.bl true) S'/\Pre S S':=by
 have z:(1000:Nat)<=sizeLine:=by decide
 obtain⟨S1,e1,p1⟩:=mP (by omega) hr hu S
 obtain⟨S2,p,e2,p2,h2⟩:=C7 (by omega) hr hu S1
 have hp:(p.length=row.length/\∀q∈p,q∈KS)/\(wor row p=u\/wor row p = -u):=by
  rcases h2 with h|h
  ·exact⟨h.1,.inl h.2⟩
  ·exact⟨h.1,.inr h.2⟩
 have e3:=CZ hr hp.1.1 (λq hq=>kJ (hp.1.2 q hq)) S2
 have e4:=uw hr hp.1.1 (λq hq=>by have:=kJ (hp.1.2 q hq);omega) S2
 have hin:oIn true S2 (.int (wor row p)) (tupI [u,0-u])=some (.bl false):=by
  rw[Bh,Jx (show wor row p∈[u,0-u] from by
   rcases hp.2 with h|h
   ·rw[h];exact .head _
   ·rw[h,show -u=0-u by omega];exact .tail _ (.head _))]
  rfl
 obtain⟨S3,l,Ls,e5,hl,hL,l3,p3⟩:=Bn hr h8 S2;obtain⟨S4,e6,o4,n4⟩:=Bo hr h8 hu hl hL
 have p4:Pre S2 S4:=⟨λi hi=>by rw[o4 i (by omega) (Jt hi p3.len)];exact p3.old i hi,Y2 p3.len n4⟩
 have e7:=Br hr S4
 have hev:jv S4 (.int ((u-row.sum)%2)) (.int 0)=some (.bl false):=by rw[yf hu.1];exact jr S4 0
 obtain⟨S5,e8,p5⟩:=Bm h8 hr u S4
 obtain⟨S6,e9,p6⟩:=je (by omega) hr hu S5
 have hix:∃d,tu S6 [.bl (decide (u=0))]=some d/\oIx S6 (.lst [.int (2*cnt row u),.int (cnt row u)]) d=some (.int (if u=0 then cnt row u else 2*cnt row u)):=by
  by_cases h0:u=0
  ·rw[Jx h0,J8 h0];exact⟨_,rfl,rfl⟩
  ·rw[Jz h0,Jb h0];exact⟨_,rfl,rfl⟩
 obtain⟨di,hi1,hi2⟩:=hix;obtain⟨S7,e10,p7⟩:=Bp hr S6;obtain⟨w0,w1,hend⟩:=C9 hr.1;obtain⟨d,hd1,hd2⟩:=hend S7;obtain⟨pre,hpre⟩:=oH (row.length-1) (l0 row)
 have hlast:oIx S7 (.lst ((kM row).map fT)) (.int (-1))=some (fT (jd (row.length-1) (l0 row))):=by
  have:(kM row).map fT=pre.map fT++[fT (jd (row.length-1) (l0 row))]:=by show(l0 row::oG (row.length-1) (l0 row)).map fT=_;rw[hpre,Qk];rfl
  rw[this];exact Bq
 obtain⟨g1,g2⟩:=Bl row
 have hwo:Wo KS row (wor row (kN row)):=(rR _ _).mpr ⟨_,⟨g1,λq hq=>by rcases g2 q hq with h|h<;>rw[h]<;>decide⟩,rfl⟩
 have hle:=hu.2.2 _ hwo w0;obtain⟨S8,e11,k8⟩:=Bk hr S7
 have e12:=uw hr g1 (λq hq=>by have:=g2 q hq;omega) S8
 have hmx:tT S7 [tupI (0::row)]=some (.int (iz 0 row)):=by have h1:bu S7 (tupI (0::row))=some ((0::row).map .int):=rfl;unfold tT;simp only[h1,eg]
 have hadd:ba S7 (.tup [.int 0]) (tupI row)=some (tupI (0::row)):=lO (a:=[.int 0]) (by rw[Jg];show 1+row.length<=sizeLine;omega)
 have hl1:oLe S7 (.int u) (.int (wor row (kN row)))=some (.bl true):=by show some (D.bl (decide (u<=_)))=_;rw[Jx hle]
 have hl2:oLe S7 (.int (wor row (kN row))) (.int (iz 0 row))=some (.bl true):=by show some (D.bl (decide (_<=iz 0 row)))=_;rw[Jx w1]
 have heq:fB S8 (.int (wor row (kN row))) (.int (wor row (kN row)))=some (.bl true):=by rw[lN,Jx rfl]
 have l8:S7.length<=S8.length:=by
  rcases Nat.lt_or_ge S8.length S7.length with c|c
  ·have h:=k8 S8.length c;rw[List.getElem?_eq_none (J9 _),Jd c]at h;cases h
  ·exact c
 refine⟨S8,bc (ρ:=[some (tupI row),none,none,none,none]) rfl ?_,(((((p1.trans p2).trans p4).trans p5).trans p6).trans p7).trans ⟨k8,l8⟩⟩;refine(ay (Dd (ah ((ar (ah (ag rfl) rfl)).trans e1) (ah ((ar (ah (ag rfl) rfl)).trans e2) rfl)))).trans ?_;refine(ay ((fH ((oq (bX (ax ((ar (ah (ag rfl) (ah (ag rfl) rfl))).trans e3) rfl rfl))).trans (bX (ax ((ar (ah (ag rfl) (ah (ag rfl) rfl))).trans e4) (cX (xs:=[.int u,.int (0-u)]) (ah (ag rfl) (ah (ax rfl (ag rfl) rfl) rfl)) z2') hin)))).trans rfl)).trans ?_
 refine(ay ((fH ((oq (bX (ax ((ar (ah ((ar (ah (ag rfl) rfl)).trans e5) (ah (ag rfl) rfl))).trans e6) (ag rfl) (jr S4 u)))).trans (bX (ax (ax (ax (ag rfl) ((ar (ah (ag rfl) rfl)).trans e7) rfl) rfl (EE (by decide))) rfl hev)))).trans rfl)).trans ?_
 refine(ay (aK ((ar (ah (ag rfl) (ah (ag rfl) rfl))).trans e8))).trans ?_
 refine(ay ((fH (bX (ax ((ar (ah (ag rfl) rfl)).trans e9) (ax (xy (xs:=[.int (2*cnt row u),.int (cnt row u)]) (ah (ax rfl (ag rfl) (fA (.inl (by decide)))) (ah (ag rfl) rfl)) z2') (aW (ah (ax (ag rfl) rfl lN) rfl) hi1) hi2) (jr S6 _)))).trans rfl)).trans ?_
 refine(ay (aK (ax (ax (ax ((ar (ah (ag rfl) rfl)).trans e10) rfl hlast) (cX (xs:=[.int 0]) rfl z1') hd1) rfl hd2))).trans ?_;exact aR ((oo (zf (ag rfl) (ag rfl) hl1 (aW (ah (ax (cX (xs:=[.int 0]) rfl z1') (ag rfl) hadd) rfl) hmx) hl2)).trans (ax ((ar (ah (ag rfl) (ah ((ar (ah (ag rfl) rfl)).trans e11) rfl))).trans e12) (ag rfl) heq))
noncomputable abbrev G2:SM:=(aC (aT 2 (aw dY (af (ai 0) (af (ai 1) ao)))) (aC (aT 3 (aw eY (af (ai 2) (af (eC (.int 8)) ao)))) (aC (sIf (PD.gI (tV (aw du (af (ai 3) ao)))) (aV (eC (.bl false))) bL) (aC (aT 4 (aw aE (af (ai 3) ao))) (aC (aT 5 (eOp ba (eC (.int 1)) (aw aO (af (ai 2) (af (eC (.int 40)) ao))))) (aC (aT 6 (eOp ba (eC (.int 1)) (aw aO (af (ai 2) (af (eC (.int 9)) ao))))) (aC (sIf (PD.tOr (tV (eOp oGt (aw aE (af (eOp ba (ai 3) (dE (af (ai 5) ao))) ao)) (eB rj (af (ai 4) (af (ai 5) ao))))) (tV (eOp oGt (aw aE (af (eOp ba (dE (af (ai 5) ao)) (ai 3)) ao)) (eB rj (af (ai 4) (af (ai 5) ao)))))) (aV (eC (.bl false))) bL) (aC (sIf (tV (eOp jv (aw aE (af (eB de (af (aU (bN (ai 3) bw) 1 [6] (.nm 0) bf (eOp cq (ai 0) (ai 1))) ao)) ao)) (eOp cq (ai 6) (ai 4)))) (aV (eC (.bl false))) bL) (sIf (PD.tOr (tV (eOp jv (aw aE (af (yT (ai 3) (eUn iW (eC (.int 1)))) ao)) (ai 4))) (tV (eOp jv (aw bj (af (yT (ai 3) (eUn iW (eC (.int 1)))) ao)) (aw bj (af (ai 3) ao))))) (aV (eC (.bl false))) bL)))))))))
theorem Bu(ns:List Int)(k:Nat)(S:Sto)(r2 r3 r4 r5 r6:Option D):∃(S':Sto)(a2 a3 a4 a5 a6:Option D),G2 [some (.fz (ns.map .int)),some (.int k),r2,r3,r4,r5,r6] S=.ok (.nx [some (.fz (ns.map .int)),some (.int k),a2,a3,a4,a5,a6]) S':=by
 have z:(1000:Nat)<=sizeLine:=by decide
 obtain⟨v,e0⟩:=Fg ns k S
 have g0:Gr S.length (S++[.lst [.int v]]) (S++[.lst [.int v]]):=⟨⟨v,by simp⟩,λ_ _ _=>rfl,J9 _⟩
 obtain⟨row,S1,e1,l1,q1,g1⟩:=Fh g0 (most:=8) ⟨by decide,by decide⟩
 have h8:row.length<=8:=by omega
 have hr:Row row:=⟨λx hx=>(q1 x hx).1,by omega⟩
 obtain⟨u,hu⟩:=wq (xs:=row) (by omega) hr
 obtain⟨S2,e2,p2⟩:=Bt hr h8 hu S1
 obtain⟨S3,e3,p3⟩:=mP (by omega) hr hu S2
 obtain⟨m0,S4,e4,a0,a1,g4⟩:=iG ((p2.trans p3).gr g1.self).self (many:=40) (by decide) (by decide)
 obtain⟨t0,S5,e5,b0,b1,g5⟩:=iG g4.self (many:=9) (by decide) (by decide)
 have m1:1<=1+m0:=by omega
 have t1:1<=1+t0:=by omega
 generalize hm:1+m0=m at *;generalize ht:1+t0=t at *
 have hm':ba S4 (.int 1) (.int m0)=some (.int m):=by rw[<- hm];rfl
 have ht':ba S5 (.int 1) (.int t0)=some (.int t):=by rw[<- ht];rfl
 -- one more
 have ra:Row (row++[m]):=⟨λx hx=>by
  rcases Jr.mp hx with h|h
  ·exact hr.1 x h
  ·rw[Ju.mp h];exact m1,by rw[Jp,Zn];omega⟩
 have rb:Row (m::row):=⟨λx hx=>by
  rcases Jj.mp hx with h|h
  ·rw[h];exact m1
  ·exact hr.1 x h,by rw[Jm];omega⟩
 have la:(row++[m]).length<=12:=by rw[Jp,Zn];omega
 have lb:(m::row).length<=12:=by rw[Jm];omega
 obtain⟨ua,hua⟩:=wq la ra;obtain⟨ub,hub⟩:=wq lb rb;have ca:=hu.more (List.perm_append_singleton m row).symm m1 hua;have cb:=hu.more (List.Perm.refl _) m1 hub;obtain⟨S6,e6,p6⟩:=mP la ra hua S5;obtain⟨S7,e7,p7⟩:=mP lb rb hub S6
 have hgt:∀(S:Sto)(w:Int),w<=(if u<m then m else u)->oGt S (.int w) (.int (if m>u then m else u))=some (.bl false):=λS w h=>by
  show some (D.bl (decide ((if m>u then m else u)<w)))=_
  rw[Jz (by show ¬(if u<m then m else u)<w;omega)]
 have aa:ba S5 (tupI row) (.tup [.int m])=some (tupI (row++[m])):=(lO (by rw[Jg];show row.length+1<=sizeLine;omega)).trans (by unfold tupI;rw[Qk];rfl)
 have ab:ba S6 (.tup [.int m]) (tupI row)=some (tupI (m::row)):=lO (a:=[.int m]) (by rw[Jg];show 1+row.length<=sizeLine;omega)
 -- so many times
 have rt:Row (row.map λx=>x*t):=⟨λx hx=>by
  obtain⟨y,hy,rfl⟩:=Y1.mp hx;have h1:=hr.1 y hy
  have h2:=Wm h1 t1 (by decide) (by omega)
  omega,by rw[Jg];omega⟩
 obtain⟨S8,e8,p8⟩:=mP (by rw[Jg];omega) rt (hu.times t1) S7
 have st:cG t:=⟨by omega,by omega⟩
 have hc:=dC (enc:=D.int) (out:=λx:Int=>D.int (x*t)) (e:=eOp cq (ai 0) (ai 1)) (it:=bN (ai 3) bw) (caps:=[6]) (tl:=[some (.int t)]) (r:=[some (.fz (ns.map .int)),some (.int k),some (.ref S.length),some (tupI row),some (.int u),some (.int m),some (.int t)]) (S:=S7) row (jY rfl rfl) (by omega) rfl λx _=>ax (ag rfl) (ag rfl) (fA (.inr st))
 have ec:(row.map λx=>D.int (x*t))=(row.map λx=>x*t).map .int:=by rw[Yn];rfl
 rw[ec]at hc
 -- turned round
 have rr:Row row.reverse:=⟨λx hx=>hr.1 x (List.mem_reverse.mp hx),by rw[Qd];omega⟩
 have hur:=hu.perm (List.reverse_perm row).symm
 obtain⟨S9,e9,p9⟩:=mP (by rw[Qd];omega) rr hur S8
 obtain⟨S10,e10,p10⟩:=je (by rw[Qd];omega) rr hur S9
 obtain⟨S11,e11,p11⟩:=je (by omega) hr hu S10
 have ecr:cnt row.reverse u=cnt row u:=wk row _;rw[ecr]at e10
 have hrev:∀S':Sto,yT (ai 3) (eUn iW (eC (.int 1))) [some (.fz (ns.map .int)),some (.int k),some (.ref S.length),some (tupI row),some (.int u),some (.int m),some (.int t)] S'=.ok (tupI row.reverse) S':=λS'=>by show R.of S' (some (D.tup (row.map D.int).reverse))=_;unfold tupI;rw[List.map_reverse];rfl
 refine⟨S11,some (.ref S.length),some (tupI row),some (.int u),some (.int m),some (.int t),?_⟩;refine(ay (aK ((ar (ah (ag rfl) (ah (ag rfl) rfl))).trans e0))).trans ?_;refine(ay (aK ((ar (ah (ag rfl) (ah rfl rfl))).trans e1))).trans ?_;refine(ay ((fH (iH (b:=true) (bX ((ar (ah (ag rfl) rfl)).trans e2)))).trans rfl)).trans ?_;refine(ay (aK ((ar (ah (ag rfl) rfl)).trans e3))).trans ?_;refine(ay (aK (ax rfl ((ar (ah (ag rfl) (ah rfl rfl))).trans e4) hm'))).trans ?_;refine(ay (aK (ax rfl ((ar (ah (ag rfl) (ah rfl rfl))).trans e5) ht'))).trans ?_;refine(ay ((fH ((oq (bX (ax ((ar (ah (ax (ag rfl) (cX (xs:=[.int m]) rfl z1') aa) rfl)).trans e6) (aW (ah (ag rfl) (ah (ag rfl) rfl)) rfl) (hgt S6 _ ca)))).trans (bX (ax ((ar (ah (ax (cX (xs:=[.int m]) rfl z1') (ag rfl) ab) rfl)).trans e7) (aW (ah (ag rfl) (ah (ag rfl) rfl)) rfl) (hgt S7 _ cb))))).trans rfl)).trans ?_;refine(ay ((fH (bX (ax ((ar (ah (aW (ah hc rfl) nu) rfl)).trans e8) (ax (ag rfl) (ag rfl) (fA (.inl st))) (jr S8 _)))).trans rfl)).trans ?_;exact(fH ((oq (bX (ax ((ar (ah (hrev _) rfl)).trans e9) (ag rfl) (jr S9 u)))).trans (bX (ax ((ar (ah (hrev _) rfl)).trans e10) ((ar (ah (ag rfl) rfl)).trans e11) (jr S11 _))))).trans rfl
theorem uR(ns:List Int):∀(l:List Nat)(S:Sto)(r1 r2 r3 r4 r5 r6:Option D),∃(S':Sto)(ρ:Rho),forL (.nm 1) G2 (l.map λ(i:Nat)=>D.int i) [some (.fz (ns.map .int)),r1,r2,r3,r4,r5,r6] S=.ok (.nx ρ) S'
 |[],S,r1,r2,r3,r4,r5,r6=>⟨S,_,rfl⟩
 |k::l,S,r1,r2,r3,r4,r5,r6=>by obtain⟨S1,a2,a3,a4,a5,a6,e1⟩:=Bu ns k S r2 r3 r4 r5 r6;obtain⟨S2,ρ,e2⟩:=uR ns l S1 (some (.int k)) a2 a3 a4 a5 a6;exact⟨S2,ρ,(cP (r1:=[some (.fz (ns.map .int)),some (.int k),r2,r3,r4,r5,r6]) rfl e1).trans e2⟩
theorem Bv(ns:List Int)(hn:ns.length<=63):∃S,xw [.fz (ns.map .int)] []=.ok (.bl true) S:=by
 obtain⟨n,hg,hn3⟩:=Dc ns 3 hn (by decide) [some (.fz (ns.map .int)),none,none,none,none,none,none] rfl []
 obtain⟨S,ρ,e⟩:=uR ns (List.range n) [] none none none none none none;exact⟨S,bc (ρ:=[some (.fz (ns.map .int)),none,none,none,none,none,none]) rfl ((ay ((nr hg).trans e)).trans (aR rfl))⟩
set_option maxHeartbeats 4000000
theorem si:bootBuiltins "abs" = some (.builtin "abs"):=by decide +kernel
theorem gD:bootBuiltins "all" = some (.builtin "all"):=by decide +kernel
theorem Bw:bootBuiltins "bool" = some (.type "bool"):=by decide +kernel
theorem By:bootBuiltins "dict" = some (.type "dict"):=by decide +kernel
theorem wt:bootBuiltins "divmod" = some (.builtin "divmod"):=by decide +kernel
theorem sj:bootBuiltins "int" = some (.type "int"):=by decide +kernel
theorem cB:bootBuiltins "isinstance" = some (.builtin "isinstance"):=by decide +kernel
theorem cJ:bootBuiltins "len" = some (.builtin "len"):=by decide +kernel
theorem Bz:bootBuiltins "list" = some (.type "list"):=by decide +kernel
theorem nv:bootBuiltins "max" = some (.builtin "max"):=by decide +kernel
theorem js:bootBuiltins "min" = some (.builtin "min"):=by decide +kernel
theorem iL:bootBuiltins "sorted" = some (.builtin "sorted"):=by decide +kernel
theorem sk:bootBuiltins "sum" = some (.builtin "sum"):=by decide +kernel
theorem cC:bootBuiltins "tuple" = some (.type "tuple"):=by decide +kernel
structure Txt(K:PySem.W.Frag)(mg:Str->Option Value):Prop where
 cl:Cls K raisedX askedX isaX
 b_abs:mg "abs" = none
 b_all:mg "all" = none
 b_bool:mg "bool" = none
 b_dict:mg "dict" = none
 b_divmod:mg "divmod" = none
 b_enumerate:mg "enumerate" = none
 b_int:mg "int" = none
 b_isinstance:mg "isinstance" = none
 b_len:mg "len" = none
 b_list:mg "list" = none
 b_max:mg "max" = none
 b_min:mg "min" = none
 b_range:mg "range" = none
 b_sorted:mg "sorted" = none
 b_sum:mg "sum" = none
 b_tuple:mg "tuple" = none
 b_zip:mg "zip" = none
 c_LONGEST_ROW:∃t,mg "LONGEST_ROW" = some (.int 16 t)
 c_LONGEST_TABLED:∃t,mg "LONGEST_TABLED" = some (.int 10 t)
 m_SIGNS:TupAt K mg "SIGNS" [(-1),(1)]
section
variable{P:Program}{w:World}{K:PySem.W.Frag}{mg:Str->Option Value}{base:Heap}
theorem sr:FnScope ["script","k"] ["script","k"] (defScope fM):=fsk
theorem su(F:Fun K "_law_cell" "_law_cell" fM f fd)(hm:mg "_law_cell" = some (.ref f))(hb:Binds K fd ["script","k"] [])(T:Txt K mg):DefN P w K mg base "_law_cell" 1 2 dj:=
 aH ["script","k"] ["script","k"] 0 1 2 2 rfl rfl rfl F hm hb sr (m:=gq) λcdv A outer s H E hr=>(au (dF (bM wU (vL 1) (aB dW J1 T.b_len cJ (ae (vL 0) ak))) (aA (aI (bO cg (vL 0) (vL 1)))) cx) (aA (aI av)))
theorem gE:FnScope ["cell","k","some","stir"] ["cell","k"] (defScope gu):=fsk
theorem uU(F:Fun K "_law_mix" "_law_mix" gu f fd)(hm:mg "_law_mix" = some (.ref f))(hb:Binds K fd ["cell","k"] [])(T:Txt K mg):DefN P w K mg base "_law_mix" 1 2 dX:=
 aH ["cell","k","some","stir"] ["cell","k"] 0 1 2 4 rfl rfl rfl F hm hb gE (m:=jV) λcdv A outer s H E hr=>(au (aM gE.nd J0 J2 (nF (ae av (ae av (ae av (ae av (ae av (ae av (ae av (ae av (ae av (ae av (ae av (ae av (ae av ak))))))))))))))) (au (aM gE.nd J0 J2 (aL bD (aL bD (aL cQ (aL bD (aL lr (vL 0) av) av) (bO cg (vL 2) (aL lr (vL 1) av))) (aL cQ av (vL 1))) (aL cQ av (aL m9 (vL 1) av)))) (au (aM gE.nd J0 J2 (aL lr (vL 3) av)) (aA (aI (aL m9 (aL lr (aL bD (aL cQ (vL 3) (vL 3)) (aL cQ av (vL 1))) av) av))))))
theorem ft:FnScope ["script","k","cell","number","j"] ["script","k"] (defScope gw):=fsk
theorem uV(F:Fun K "_law_box" "_law_box" gw f fd)(hm:mg "_law_box" = some (.ref f))(hb:Binds K fd ["script","k"] [])(T:Txt K mg)(d__law_cell:DefN P w K mg base "_law_cell" 1 2 dj)(d__law_mix:DefN P w K mg base "_law_mix" 1 2 dX):DefN P w K mg base "_law_box" 2 2 dY:=
 aH ["script","k","cell","number","j"] ["script","k"] 1 2 2 5 rfl rfl rfl F hm hb ft (m:=iA) λcdv A outer s H E hr=>(au (aM ft.nd J0 J2 (az d__law_cell (hr.mono (by decide)) J1 (ae (vL 0) (ae (vL 1) ak)) (aj (aj aq)))) (au (dF (bM (iw hr) (aL lr (vL 2) av) av) (aA (aI (lq (ae (aL m9 (aB vt J1 T.b_abs si (ae (vL 2) ak)) av) ak)))) cx) (au (aM ft.nd J0 J2 av) (au (fu Ys rfl (jh J1 T.b_range (ae av ak)) (aG ft.nd J0 J2) (aA (aM ft.nd J0 J2 (aL bD (aL cQ (vL 3) av) (az d__law_mix (hr.mono (by decide)) J1 (ae (vL 2) (ae (vL 4) ak)) (aj (aj aq))))))) (aA (aI (lq (ae (vL 3) ak))))))))
theorem uW:FnScope ["thing"] ["thing"] (defScope gx):=fsk
theorem uX(F:Fun K "is_whole" "is_whole" gx f fd)(hm:mg "is_whole" = some (.ref f))(hb:Binds K fd ["thing"] [])(T:Txt K mg):DefN P w K mg base "is_whole" 1 1 bp:=
 aH ["thing"] ["thing"] 0 1 1 1 rfl rfl rfl F hm hb uW (m:=jW) λcdv A outer s H E hr=>(aA (aI (jO (aB lx J1 T.b_isinstance cB (ae (vL 0) (ae (pH J1 T.b_int sj) ak))) (lp (Er (aB lx J1 T.b_isinstance cB (ae (vL 0) (ae (pH J1 T.b_bool Bw) ak))))))))
theorem sv:FnScope ["thing","many"] ["thing","many"] (defScope fN):=fsk
theorem sA(F:Fun K "are_whole" "are_whole" fN f fd)(hm:mg "are_whole" = some (.ref f))(hb:Binds K fd ["thing","many"] [])(T:Txt K mg)(d_is_whole:DefN P w K mg base "is_whole" 1 1 bp):DefN P w K mg base "are_whole" 2 2 dk:=
 aH ["thing","many"] ["thing","many"] 1 2 2 2 rfl rfl rfl F hm hb sv (m:=mJ) λcdv A outer s H E hr=>(aA (aI (jO (aB lx J1 T.b_isinstance cB (ae (vL 0) (ae (pH J1 T.b_tuple cC) ak))) (jO (jN (iw hr) (aB dW J1 T.b_len cJ (ae (vL 0) ak)) (vL 1)) (lp (aB (iZ rfl) J1 T.b_all gD (ae (bH (N:=["number"]) (k:=1) (caps:=[]) rfl (λ_ _ z=>z) (dg J0 J0 J0 J0 rfl J0) (cF (vL 0)) (λ_ _ _ _=>(aG (show(["number"]:List Str).Nodup by decide +kernel) J0 J2)) (λ_ _ _ _=>bG) (λ_ _ _ _=>(az d_is_whole (hr.mono (by decide)) J1 (ae (vL 0) ak) (aj aq)))) ak)))))))
theorem jf:FnScope ["thing","many"] ["thing","many"] (defScope cn):=fsk
theorem jg(F:Fun K "are_so_many_signs" "are_so_many_signs" cn f fd)(hm:mg "are_so_many_signs" = some (.ref f))(hb:Binds K fd ["thing","many"] [])(T:Txt K mg)(d_are_whole:DefN P w K mg base "are_whole" 2 2 dk):DefN P w K mg base "are_so_many_signs" 3 2 bU:=
 aH ["thing","many"] ["thing","many"] 2 3 2 2 rfl rfl rfl F hm hb jf (m:=fG) λcdv A outer s H E hr=>(aA (aI (jO (az d_are_whole (hr.mono (by decide)) J1 (ae (vL 0) (ae (vL 1) ak)) (aj (aj aq))) (lp (aB (iZ rfl) J1 T.b_all gD (ae (bH (N:=["sign"]) (k:=1) (caps:=[]) rfl (λ_ _ z=>z) (dg J0 J0 J0 J0 rfl J0) (cF (vL 0)) (λ_ _ _ _=>(aG (show(["sign"]:List Str).Nodup by decide +kernel) J0 J2)) (λ_ _ _ _=>bG) (λ_ _ _ _=>(jN (iw hr) (aB vt J1 T.b_abs si (ae (vL 0) ak)) av))) ak))))))
theorem zg:FnScope ["thing"] ["thing"] (defScope jl):=fsk
theorem zh(F:Fun K "is_row" "is_row" jl f fd)(hm:mg "is_row" = some (.ref f))(hb:Binds K fd ["thing"] [])(T:Txt K mg)(d_is_whole:DefN P w K mg base "is_whole" 1 1 bp):DefN P w K mg base "is_row" 2 1 fm:=
 aH ["thing"] ["thing"] 1 2 1 1 rfl rfl rfl F hm hb zg (m:=i5) λcdv A outer s H E hr=>(au (dF (j9 (lZ (gL (gK (aB lx J1 T.b_isinstance cB (ae (vL 0) (ae (pH J1 T.b_tuple cC) ak))))) (iU (bM tm (aB dW J1 T.b_len cJ (ae (vL 0) ak)) (Dk T.c_LONGEST_ROW J1))))) (aA (aI fE)) cx) (aA (aI (aB (iZ rfl) J1 T.b_all gD (ae (bH (N:=["number"]) (k:=1) (caps:=[]) rfl (λ_ _ z=>z) (dg J0 J0 J0 J0 rfl J0) (cF (vL 0)) (λ_ _ _ _=>(aG (show(["number"]:List Str).Nodup by decide +kernel) J0 J2)) (λ_ _ _ _=>bG) (λ_ _ _ _=>(jO (az d_is_whole (hr.mono (by decide)) J1 (ae (vL 0) ak) (aj aq)) (lp (jN zT (vL 0) av))))) ak)))))
theorem oW:FnScope ["thing"] ["thing"] (defScope fc):=fsk
theorem oX(F:Fun K "need_row" "need_row" fc f fd)(hm:mg "need_row" = some (.ref f))(hb:Binds K fd ["thing"] [])(T:Txt K mg)(d_is_row:DefN P w K mg base "is_row" 2 1 fm):DefN P w K mg base "need_row" 3 1 aJ:=
 aH ["thing"] ["thing"] 2 3 1 1 rfl rfl rfl F hm hb oW (m:=iB) λcdv A outer s H E hr=>(aA (dF (gL (gK (az d_is_row (hr.mono (by decide)) J1 (ae (vL 0) ak) (aj aq)))) (aA ka) cx))
theorem oI:FnScope ["thing","row"] ["thing","row"] (defScope eI):=fsk
theorem oJ(F:Fun K "are_signs" "are_signs" eI f fd)(hm:mg "are_signs" = some (.ref f))(hb:Binds K fd ["thing","row"] [])(T:Txt K mg)(d_are_so_many_signs:DefN P w K mg base "are_so_many_signs" 3 2 bU)(d_need_row_n:DefN P w K mg base "need_row" 3 1 aJ):DefN P w K mg base "are_signs" 4 2 dG:=
 aH ["thing","row"] ["thing","row"] 3 4 2 2 rfl rfl rfl F hm hb oI (m:=jG) λcdv A outer s H E hr=>(au (bE (az d_need_row_n (hr.mono (by decide)) J1 (ae (vL 1) ak) (aj aq))) (aA (aI (az d_are_so_many_signs (hr.mono (by decide)) J1 (ae (vL 0) (ae (aB dW J1 T.b_len cJ (ae (vL 1) ak)) ak)) (aj (aj aq))))))
theorem jK:FnScope ["greater","lesser","parts"] ["greater","lesser"] (defScope fe):=fsk
theorem oY(F:Fun K "difference" "difference" fe f fd)(hm:mg "difference" = some (.ref f))(hb:Binds K fd ["greater","lesser"] [])(T:Txt K mg):DefN P w K mg base "difference" 1 2 cH:=
 aH ["greater","lesser","parts"] ["greater","lesser"] 0 1 2 3 rfl rfl rfl F hm hb jK (m:=kC) λcdv A outer s H E hr=>(au (w9 (i0:=2) (N:=["ahead","behind"]) (k:=2) (caps:=[]) jK.nd J0 J2 rfl (λ_ _ z=>z) (dg J0 J0 J0 J0 rfl J0) (Ag J1 T.b_zip (ae (bO cg (vL 0) av) (ae (bO cg (vL 1) av) ak))) (λ_ _ _ _=>(fX rfl (aZ (aG (show(["ahead","behind"]:List Str).Nodup by decide +kernel) J0 J2) (aZ (aG (show(["ahead","behind"]:List Str).Nodup by decide +kernel) J0 J2) et)))) (λ_ _ _ _=>bG) (λ_ _ _ _=>(aL gM (vL 0) (vL 1)))) (aA (aI (dU (ae (aL gM (bO cg (vL 0) av) (bO cg (vL 1) av)) (ae (cN fj J1 T.b_tuple cC (ae (vL 2) ak)) ak))))))
theorem mV:FnScope ["place","row"] ["place","row"] (defScope dN):=fsk
theorem mW(F:Fun K "parts_of_one" "parts_of_one" dN f fd)(hm:mg "parts_of_one" = some (.ref f))(hb:Binds K fd ["place","row"] [])(T:Txt K mg):DefN P w K mg base "parts_of_one" 1 2 bZ:=
 aH ["place","row"] ["place","row"] 0 1 2 2 rfl rfl rfl F hm hb mV (m:=i6) λcdv A outer s H E hr=>(aA (aI (cN fj J1 T.b_tuple cC (ae (bH (N:=["other","place"]) (k:=1) (caps:=[0]) rfl (λ_ _ z=>z) (dg J0 J0 J0 J0 rfl J0) (jh J1 T.b_range (ae (aB dW J1 T.b_len cJ (ae (vL 1) ak)) ak)) (λ_ _ _ _=>(aG (show(["other","place"]:List Str).Nodup by decide +kernel) J0 J2)) (λ_ _ _ _=>bG) (λ_ _ _ _=>(Dh (bM (iw hr) (vL 0) (vC 1)) av av))) ak))))
theorem cw:FnScope ["row","held","steps"] ["row"] (defScope cv):=fsk
theorem jw(F:Fun K "difference_steps" "difference_steps" cv f fd)(hm:mg "difference_steps" = some (.ref f))(hb:Binds K fd ["row"] [])(T:Txt K mg)(d_difference:DefN P w K mg base "difference" 1 2 cH)(d_parts_of_one:DefN P w K mg base "parts_of_one" 1 2 bZ):DefN P w K mg base "difference_steps" 2 1 bb:=
 aH ["row","held","steps"] ["row"] 1 2 1 3 rfl rfl rfl F hm hb cw (m:=gb) λcdv A outer s H E hr=>(au (aM cw.nd J0 J2 (qa (xv hr) J1 T.b_sorted iL (ae (bH (N:=["place","number","row"]) (k:=2) (caps:=[0]) rfl (λ_ _ z=>z) (dg J0 J0 J0 J0 rfl J0) (wZ J1 T.b_enumerate (ae (vC 0) ak)) (λ_ _ _ _=>(fX rfl (aZ (aG (show(["place","number","row"]:List Str).Nodup by decide +kernel) J0 J2) (aZ (aG (show(["place","number","row"]:List Str).Nodup by decide +kernel) J0 J2) et)))) (λ_ _ _ _=>bG) (λ_ _ _ _=>(dU (ae (vL 1) (ae (az d_parts_of_one (hr.mono (by decide)) J1 (ae (vL 0) (ae (vC 2) ak)) (aj (aj aq))) ak))))) ak))) (au (aM cw.nd J0 J2 (lq (ae (vL 1) ak))) (au (tE Ys (bM tm (aB dW J1 T.b_len cJ (ae (vL 1) ak)) av) (au (aM cw.nd J0 J2 (qa (xv hr) J1 T.b_sorted iL (ae (aL bD (zW vq (vL 1) (rh av) rf) (nF (ae (az d_difference (hr.mono (by decide)) J1 (ae (bO cg (vL 1) av) (ae (bO cg (vL 1) av) ak)) (aj (aj aq))) ak))) ak))) (aA (bE (rm W3 Qx Qy ji (vL 2) (ae (vL 1) ak)))))) (aA (aI (vL 2))))))
theorem eS:FnScope ["row","last"] ["row"] (defScope cf):=fsk
theorem iQ(F:Fun K "difference_signs" "difference_signs" cf f fd)(hm:mg "difference_signs" = some (.ref f))(hb:Binds K fd ["row"] [])(T:Txt K mg)(d_difference_steps:DefN P w K mg base "difference_steps" 2 1 bb)(d_need_row_n:DefN P w K mg base "need_row" 3 1 aJ):DefN P w K mg base "difference_signs" 4 1 bP:=
 aH ["row","last"] ["row"] 3 4 1 2 rfl rfl rfl F hm hb eS (m:=fo) λcdv A outer s H E hr=>(au (bE (az d_need_row_n (hr.mono (by decide)) J1 (ae (vL 0) ak) (aj aq))) (au (dF (bM (iw hr) (vL 0) (dU ak)) (aA (aI (dU ak))) cx) (au (aM eS.nd J0 J2 (bO cg (bO cg (az d_difference_steps (hr.mono (by decide)) J1 (ae (vL 0) ak) (aj aq)) (lY iY av)) av)) (aA (aI (bO cg (vL 1) av))))))
theorem lQ:FnScope ["row"] ["row"] (defScope dv):=fsk
theorem lR(F:Fun K "differences" "differences" dv f fd)(hm:mg "differences" = some (.ref f))(hb:Binds K fd ["row"] [])(T:Txt K mg)(d_difference_steps:DefN P w K mg base "difference_steps" 2 1 bb)(d_need_row_n:DefN P w K mg base "need_row" 3 1 aJ):DefN P w K mg base "differences" 4 1 cK:=
 aH ["row"] ["row"] 3 4 1 1 rfl rfl rfl F hm hb lQ (m:=iO) λcdv A outer s H E hr=>(au (bE (az d_need_row_n (hr.mono (by decide)) J1 (ae (vL 0) ak) (aj aq))) (aA (aI (bH (N:=["held"]) (k:=1) (caps:=[]) rfl (λ_ _ z=>z) (dg J0 J0 J0 J0 rfl J0) (vN (az d_difference_steps (hr.mono (by decide)) J1 (ae (vL 0) ak) (aj aq))) (λ_ _ _ _=>(aG (show(["held"]:List Str).Nodup by decide +kernel) J0 J2)) (λ_ _ _ _=>bG) (λ_ _ _ _=>(cN fj J1 T.b_tuple cC (ae (bH (N:=["number","parts"]) (k:=2) (caps:=[]) rfl (λ_ _ z=>z) (dg J0 J0 J0 J0 rfl J0) (cF (vL 0)) (λ_ _ _ _=>(fX rfl (aZ (aG (show(["number","parts"]:List Str).Nodup by decide +kernel) J0 J2) (aZ (aG (show(["number","parts"]:List Str).Nodup by decide +kernel) J0 J2) et)))) (λ_ _ _ _=>bG) (λ_ _ _ _=>(vL 0))) ak)))))))
theorem kP:FnScope ["row","middle"] ["row"] (defScope fO):=fsk
theorem sC(F:Fun K "halves_of" "halves_of" fO f fd)(hm:mg "halves_of" = some (.ref f))(hb:Binds K fd ["row"] [])(T:Txt K mg):DefN P w K mg base "halves_of" 1 1 br:=
 aH ["row","middle"] ["row"] 0 1 1 2 rfl rfl rfl F hm hb kP (m:=mK) λcdv A outer s H E hr=>(au (aM kP.nd J0 J2 (aL m9 (aB dW J1 T.b_len cJ (ae (vL 0) ak)) av)) (aA (aI (dU (ae (zW vq (vL 0) rf (rh (vL 1))) (ae (zW vq (vL 0) (rh (vL 1)) rf) ak))))))
theorem lS:FnScope ["thing"] ["thing"] (defScope dw):=fsk
theorem lT(F:Fun K "need_number" "need_number" dw f fd)(hm:mg "need_number" = some (.ref f))(hb:Binds K fd ["thing"] [])(T:Txt K mg)(d_is_whole:DefN P w K mg base "is_whole" 1 1 bp):DefN P w K mg base "need_number" 2 1 ck:=
 aH ["thing"] ["thing"] 1 2 1 1 rfl rfl rfl F hm hb lS (m:=fC) λcdv A outer s H E hr=>(aA (dF (gL (gK (az d_is_whole (hr.mono (by decide)) J1 (ae (vL 0) ak) (aj aq)))) (aA ka) cx))
theorem gP:FnScope ["row","number"] ["row","number"] (defScope bI):=fsk
theorem gQ(F:Fun K "need_row_and_number" "need_row_and_number" bI f fd)(hm:mg "need_row_and_number" = some (.ref f))(hb:Binds K fd ["row","number"] [])(T:Txt K mg)(d_need_number_n:DefN P w K mg base "need_number" 2 1 ck)(d_need_row_n:DefN P w K mg base "need_row" 3 1 aJ):DefN P w K mg base "need_row_and_number" 4 2 aD:=
 aH ["row","number"] ["row","number"] 3 4 2 2 rfl rfl rfl F hm hb gP (m:=d5) λcdv A outer s H E hr=>(au (bE (az d_need_row_n (hr.mono (by decide)) J1 (ae (vL 0) ak) (aj aq))) (aA (bE (az d_need_number_n (hr.mono (by decide)) J1 (ae (vL 1) ak) (aj aq)))))
theorem eZ:FnScope ["table","step","choices","wider","reached","ways","choice","there"] ["table","step","choices"] (defScope iC):=fsk
theorem wx(F:Fun K "stepped" "stepped" iC f fd)(hm:mg "stepped" = some (.ref f))(hb:Binds K fd ["table","step","choices"] [])(T:Txt K mg):DefN P w K mg base "stepped" 1 3 dy:=
 aH ["table","step","choices","wider","reached","ways","choice","there"] ["table","step","choices"] 0 1 3 8 rfl rfl rfl F hm hb eZ (m:=qc) λcdv A outer s H E hr=>(au (aM eZ.nd J0 J2 xc) (au (fu Ys rfl (km (vL 0)) (fX rfl (aZ (aG eZ.nd J0 J2) (aZ (aG eZ.nd J0 J2) et))) (aA (fu Ys rfl (cF (vL 2)) (aG eZ.nd J0 J2) (au (aM eZ.nd J0 J2 (aL bD (vL 4) (aL cQ (vL 6) (vL 1)))) (aA (vn (xa hr) (aL bD (nh hr (vL 3) (vL 7) av (xb J0 J0 J0 J0)) (vL 5)) (vL 3) (vL 7))))))) (aA (aI (vL 3)))))
theorem gG:FnScope ["row","choices","table","step"] ["row","choices"] (defScope gy):=fsk
theorem uY(F:Fun K "table_of" "table_of" gy f fd)(hm:mg "table_of" = some (.ref f))(hb:Binds K fd ["row","choices"] [])(T:Txt K mg)(d_stepped:DefN P w K mg base "stepped" 1 3 dy):DefN P w K mg base "table_of" 2 2 cc:=
 aH ["row","choices","table","step"] ["row","choices"] 1 2 2 4 rfl rfl rfl F hm hb gG (m:=oh) λcdv A outer s H E hr=>(au (aM gG.nd J0 J2 (rC (nN av av rn))) (au (fu Ys rfl (cF (vL 0)) (aG gG.nd J0 J2) (aA (aM gG.nd J0 J2 (az d_stepped (hr.mono (by decide)) J1 (ae (vL 2) (ae (vL 3) (ae (vL 1) ak))) (aj (aj (aj aq))))))) (aA (aI (vL 2)))))
theorem jL:FnScope ["row","number","counts"] ["row","number"] (defScope ff):=fsk
theorem oZ(F:Fun K "many_met" "many_met" ff f fd)(hm:mg "many_met" = some (.ref f))(hb:Binds K fd ["row","number"] [])(T:Txt K mg)(d_halves_of:DefN P w K mg base "halves_of" 1 1 br)(d_need_row_and_number_n:DefN P w K mg base "need_row_and_number" 4 2 aD)(d_table_of:DefN P w K mg base "table_of" 2 2 cc):DefN P w K mg base "many_met" 5 2 cI:=
 aH ["row","number","counts"] ["row","number"] 4 5 2 3 rfl rfl rfl F hm hb jL (m:=kE) λcdv A outer s H E hr=>(au (bE (az d_need_row_and_number_n (hr.mono (by decide)) J1 (ae (vL 0) (ae (vC 1) ak)) (aj (aj aq)))) (au (aM jL.nd J0 (Or.inr J0) (bH (N:=["half"]) (k:=1) (caps:=[]) rfl (λ_ _ z=>z) (dg J0 J0 J0 J0 rfl J0) (cF (az d_halves_of (hr.mono (by decide)) J1 (ae (vL 0) ak) (aj aq))) (λ_ _ _ _=>(aG (show(["half"]:List Str).Nodup by decide +kernel) J0 J2)) (λ_ _ _ _=>bG) (λ_ _ _ _=>(az d_table_of (hr.mono (by decide)) J1 (ae (vL 0) (ae (pO T.m_SIGNS J1) ak)) (aj (aj aq)))))) (aA (aI (aB (vA rfl) J1 T.b_sum sk (ae (bH (N:=["reached","ways","counts","number"]) (k:=2) (caps:=[2,1]) rfl (λ_ _ z=>z) (dg J0 J0 J0 J0 rfl J0) (km (bO (lH hr) (vC 2) av)) (λ_ _ _ _=>(fX rfl (aZ (aG (show(["reached","ways","counts","number"]:List Str).Nodup by decide +kernel) J0 J2) (aZ (aG (show(["reached","ways","counts","number"]:List Str).Nodup by decide +kernel) J0 J2) et)))) (λ_ _ _ _=>bG) (λ_ _ _ _=>(aL cQ (vL 1) (nh hr (bO (lH hr) (vC 2) av) (aL gM (vC 3) (vL 0)) av (xb J0 J0 J0 J0))))) ak))))))
theorem lU:FnScope ["row"] ["row"] (defScope dz):=fsk
theorem lV(F:Fun K "half_worths" "half_worths" dz f fd)(hm:mg "half_worths" = some (.ref f))(hb:Binds K fd ["row"] [])(T:Txt K mg)(d_halves_of:DefN P w K mg base "halves_of" 1 1 br)(d_need_row_n:DefN P w K mg base "need_row" 3 1 aJ)(d_table_of:DefN P w K mg base "table_of" 2 2 cc):DefN P w K mg base "half_worths" 4 1 cL:=
 aH ["row"] ["row"] 3 4 1 1 rfl rfl rfl F hm hb lU (m:=iP) λcdv A outer s H E hr=>(au (bE (az d_need_row_n (hr.mono (by decide)) J1 (ae (vL 0) ak) (aj aq))) (aA (aI (cN fj J1 T.b_tuple cC (ae (bH (N:=["half"]) (k:=1) (caps:=[]) rfl (λ_ _ z=>z) (dg J0 J0 J0 J0 rfl J0) (cF (az d_halves_of (hr.mono (by decide)) J1 (ae (vL 0) ak) (aj aq))) (λ_ _ _ _=>(aG (show(["half"]:List Str).Nodup by decide +kernel) J0 J2)) (λ_ _ _ _=>bG) (λ_ _ _ _=>(cN fj J1 T.b_tuple cC (ae (aB (Aq rfl) J1 T.b_sorted iL (ae (az d_table_of (hr.mono (by decide)) J1 (ae (vL 0) (ae (pO T.m_SIGNS J1) ak)) (aj (aj aq))) ak)) ak)))) ak)))))
theorem eh:FnScope ["row","number","worths","walked","i","j","both"] ["row","number"] (defScope jm):=fsk
theorem zi(F:Fun K "walk" "walk" jm f fd)(hm:mg "walk" = some (.ref f))(hb:Binds K fd ["row","number"] [])(T:Txt K mg)(d_half_worths_n:DefN P w K mg base "half_worths" 4 1 cL):DefN P w K mg base "walk" 5 2 g9:=
 aH ["row","number","worths","walked","i","j","both"] ["row","number"] 4 5 2 7 rfl rfl rfl F hm hb eh (m:=tZ) λcdv A outer s H E hr=>(au (aM eh.nd J0 J2 (az d_half_worths_n (hr.mono (by decide)) J1 (ae (vL 0) ak) (aj aq))) (au (aM eh.nd J0 J2 (lq ak)) (au (aM eh.nd J0 J2 av) (au (aM eh.nd J0 J2 (aL gM (aB dW J1 T.b_len cJ (ae (bO cg (vL 2) av) ak)) av)) (au (tE Ys (j9 (Es (bM wU (vL 4) (aB dW J1 T.b_len cJ (ae (bO cg (vL 2) av) ak))) (B8 (bM zT (vL 5) av)))) (au (aM eh.nd J0 J2 (aL bD (bO cg (bO cg (vL 2) av) (vL 4)) (bO cg (bO cg (vL 2) av) (vL 5)))) (au (bE (rm W3 Qx Qy ji (vL 3) (ae (dU (ae (vL 4) (ae (vL 5) (ae (vL 6) ak)))) ak))) (aA (dF (bM wU (vL 6) (vL 1)) (aA (aM eh.nd J0 J2 (aL bD (vL 4) av))) (aA (aM eh.nd J0 J2 (aL gM (vL 5) av)))))))) (aA (aI (vL 3))))))))
theorem wy:FnScope ["row","number"] ["row","number"] (defScope iD):=fsk
theorem wz(F:Fun K "above" "above" iD f fd)(hm:mg "above" = some (.ref f))(hb:Binds K fd ["row","number"] [])(T:Txt K mg)(d_need_row_and_number_n:DefN P w K mg base "need_row_and_number" 4 2 aD)(d_walk_n:DefN P w K mg base "walk" 5 2 g9):DefN P w K mg base "above" 6 2 hJ:=
 aH ["row","number"] ["row","number"] 5 6 2 2 rfl rfl rfl F hm hb wy (m:=qf) λcdv A outer s H E hr=>(au (bE (az d_need_row_and_number_n (hr.mono (by decide)) J1 (ae (vL 0) (ae (vC 1) ak)) (aj (aj aq)))) (aA (aI (pV (xk rfl hr) J1 T.b_min js (ae (bH (N:=["i","j","both","number"]) (k:=3) (caps:=[1]) rfl (λ_ _ z=>z) (dg J0 J0 J0 J0 rfl J0) (vN (az d_walk_n (hr.mono (by decide)) J1 (ae (vL 0) (ae (vC 1) ak)) (aj (aj aq)))) (λ_ _ _ _=>(fX rfl (aZ (aG (show(["i","j","both","number"]:List Str).Nodup by decide +kernel) J0 J2) (aZ (aG (show(["i","j","both","number"]:List Str).Nodup by decide +kernel) J0 J2) (aZ (aG (show(["i","j","both","number"]:List Str).Nodup by decide +kernel) J0 J2) et))))) (λ_ _ _ _=>(wX (bM zT (vL 2) (vC 3)))) (λ_ _ _ _=>(vL 2))) ak)))))
theorem mX:FnScope ["row"] ["row"] (defScope dO):=fsk
theorem mY(F:Fun K "unevenness" "unevenness" dO f fd)(hm:mg "unevenness" = some (.ref f))(hb:Binds K fd ["row"] [])(T:Txt K mg)(d_above_n:DefN P w K mg base "above" 6 2 hJ):DefN P w K mg base "unevenness" 7 1 aE:=
 aH ["row"] ["row"] 6 7 1 1 rfl rfl rfl F hm hb mX (m:=i7) λcdv A outer s H E hr=>(aA (aI (az d_above_n (hr.mono (by decide)) J1 (ae (vL 0) (ae av ak)) (aj (aj aq)))))
theorem eQ:FnScope ["row","least","met"] ["row"] (defScope cT):=fsk
theorem kQ(F:Fun K "evenest_many" "evenest_many" cT f fd)(hm:mg "evenest_many" = some (.ref f))(hb:Binds K fd ["row"] [])(T:Txt K mg)(d_many_met_n:DefN P w K mg base "many_met" 5 2 cI)(d_unevenness_n:DefN P w K mg base "unevenness" 7 1 aE):DefN P w K mg base "evenest_many" 8 1 bj:=
 aH ["row","least","met"] ["row"] 7 8 1 3 rfl rfl rfl F hm hb eQ (m:=hU) λcdv A outer s H E hr=>(au (aM eQ.nd J0 J2 (az d_unevenness_n (hr.mono (by decide)) J1 (ae (vL 0) ak) (aj aq))) (au (aM eQ.nd J0 J2 (az d_many_met_n (hr.mono (by decide)) J1 (ae (vL 0) (ae (vL 1) ak)) (aj (aj aq)))) (aA (aI (Dh (bM (iw hr) (vL 1) av) (vL 2) (aL bD (vL 2) (az d_many_met_n (hr.mono (by decide)) J1 (ae (vL 0) (ae (lY iY (vL 1)) ak)) (aj (aj aq)))))))))
theorem bB:FnScope ["firsts","step","longer","reached","signs","sign","there","chosen"] ["firsts","step"] (defScope cU):=fsk
theorem kR(F:Fun K "firsts_stepped" "firsts_stepped" cU f fd)(hm:mg "firsts_stepped" = some (.ref f))(hb:Binds K fd ["firsts","step"] [])(T:Txt K mg):DefN P w K mg base "firsts_stepped" 1 2 bY:=
 aH ["firsts","step","longer","reached","signs","sign","there","chosen"] ["firsts","step"] 0 1 2 8 rfl rfl rfl F hm hb bB (m:=hW) λcdv A outer s H E hr=>(au (aM bB.nd J0 J2 xc) (au (fu Ys rfl (km (vL 0)) (fX rfl (aZ (aG bB.nd J0 J2) (aZ (aG bB.nd J0 J2) et))) (aA (fu Ys rfl (cF (pO T.m_SIGNS J1)) (aG bB.nd J0 J2) (au (aM bB.nd J0 J2 (aL bD (vL 3) (aL cQ (vL 5) (vL 1)))) (au (aM bB.nd J0 J2 (aL bD (vL 4) (dU (ae (vL 5) ak)))) (aA (vn (xa hr) (aB (xj rfl hr) J1 T.b_min js (ae (vL 7) (ae (nh hr (vL 2) (vL 6) (vL 7) (xb J0 J0 J0 J0)) ak))) (vL 2) (vL 6)))))))) (aA (aI (vL 2)))))
theorem fV:FnScope ["row","firsts","step"] ["row"] (defScope fP):=fsk
theorem sD(F:Fun K "firsts_of" "firsts_of" fP f fd)(hm:mg "firsts_of" = some (.ref f))(hb:Binds K fd ["row"] [])(T:Txt K mg)(d_firsts_stepped:DefN P w K mg base "firsts_stepped" 1 2 bY):DefN P w K mg base "firsts_of" 2 1 d7:=
 aH ["row","firsts","step"] ["row"] 1 2 1 3 rfl rfl rfl F hm hb fV (m:=mL) λcdv A outer s H E hr=>(au (aM fV.nd J0 J2 (rC (nN av (dU ak) rn))) (au (fu Ys rfl (cF (vL 0)) (aG fV.nd J0 J2) (aA (aM fV.nd J0 J2 (az d_firsts_stepped (hr.mono (by decide)) J1 (ae (vL 1) (ae (vL 2) ak)) (aj (aj aq)))))) (aA (aI (vL 1)))))
theorem gk:FnScope ["row","number","firsts","met"] ["row","number"] (defScope eJ):=fsk
theorem oK(F:Fun K "first_met" "first_met" eJ f fd)(hm:mg "first_met" = some (.ref f))(hb:Binds K fd ["row","number"] [])(T:Txt K mg)(d_firsts_of:DefN P w K mg base "firsts_of" 2 1 d7)(d_halves_of:DefN P w K mg base "halves_of" 1 1 br)(d_need_row_and_number_n:DefN P w K mg base "need_row_and_number" 4 2 aD):DefN P w K mg base "first_met" 5 2 cO:=
 aH ["row","number","firsts","met"] ["row","number"] 4 5 2 4 rfl rfl rfl F hm hb gk (m:=jH) λcdv A outer s H E hr=>(au (bE (az d_need_row_and_number_n (hr.mono (by decide)) J1 (ae (vL 0) (ae (vC 1) ak)) (aj (aj aq)))) (au (aM gk.nd J0 (Or.inr J0) (bH (N:=["half"]) (k:=1) (caps:=[]) rfl (λ_ _ z=>z) (dg J0 J0 J0 J0 rfl J0) (cF (az d_halves_of (hr.mono (by decide)) J1 (ae (vL 0) ak) (aj aq))) (λ_ _ _ _=>(aG (show(["half"]:List Str).Nodup by decide +kernel) J0 J2)) (λ_ _ _ _=>bG) (λ_ _ _ _=>(az d_firsts_of (hr.mono (by decide)) J1 (ae (vL 0) ak) (aj aq))))) (au (w9 (i0:=3) (N:=["reached","signs","firsts","number"]) (k:=2) (caps:=[2,1]) gk.nd J0 J2 rfl (λ_ _ z=>z) (dg J0 J0 J0 J0 rfl J0) (km (bO (lH hr) (vC 2) av)) (λ_ _ _ _=>(fX rfl (aZ (aG (show(["reached","signs","firsts","number"]:List Str).Nodup by decide +kernel) J0 J2) (aZ (aG (show(["reached","signs","firsts","number"]:List Str).Nodup by decide +kernel) J0 J2) et)))) (λ_ _ _ _=>(wX (bM (EL hr) (aL gM (vC 3) (vL 0)) (bO (lH hr) (vC 2) av)))) (λ_ _ _ _=>(aL bD (vL 1) (bO (lH hr) (bO (lH hr) (vC 2) av) (aL gM (vC 3) (vL 0)))))) (aA (aI (pV (xk rfl hr) J1 T.b_min js (ae (vL 3) ak)))))))
theorem kS:FnScope ["row","least"] ["row"] (defScope fQ):=fsk
theorem sE(F:Fun K "evenest" "evenest" fQ f fd)(hm:mg "evenest" = some (.ref f))(hb:Binds K fd ["row"] [])(T:Txt K mg)(d_first_met_n:DefN P w K mg base "first_met" 5 2 cO)(d_unevenness_n:DefN P w K mg base "unevenness" 7 1 aE):DefN P w K mg base "evenest" 8 1 fq:=
 aH ["row","least"] ["row"] 7 8 1 2 rfl rfl rfl F hm hb kS (m:=mM) λcdv A outer s H E hr=>(au (aM kS.nd J0 J2 (az d_unevenness_n (hr.mono (by decide)) J1 (ae (vL 0) ak) (aj aq))) (aA (aI (aB (xj rfl hr) J1 T.b_min js (ae (az d_first_met_n (hr.mono (by decide)) J1 (ae (vL 0) (ae (vL 1) ak)) (aj (aj aq))) (ae (az d_first_met_n (hr.mono (by decide)) J1 (ae (vL 0) (ae (lY iY (vL 1)) ak)) (aj (aj aq))) ak))))))
theorem o6:FnScope ["row"] ["row"] (defScope fg):=fsk
theorem o7(F:Fun K "need_few" "need_few" fg f fd)(hm:mg "need_few" = some (.ref f))(hb:Binds K fd ["row"] [])(T:Txt K mg)(d_need_row_n:DefN P w K mg base "need_row" 3 1 aJ):DefN P w K mg base "need_few" 4 1 bV:=
 aH ["row"] ["row"] 3 4 1 1 rfl rfl rfl F hm hb o6 (m:=kF) λcdv A outer s H E hr=>(au (bE (az d_need_row_n (hr.mono (by decide)) J1 (ae (vL 0) ak) (aj aq))) (aA (dF (bM tm (aB dW J1 T.b_len cJ (ae (vL 0) ak)) (Dk T.c_LONGEST_TABLED J1)) (aA ka) cx)))
theorem gR:FnScope ["row","number"] ["row","number"] (defScope bJ):=fsk
theorem gS(F:Fun K "need_few_and_number" "need_few_and_number" bJ f fd)(hm:mg "need_few_and_number" = some (.ref f))(hb:Binds K fd ["row","number"] [])(T:Txt K mg)(d_need_few_n:DefN P w K mg base "need_few" 4 1 bV)(d_need_row_and_number_n:DefN P w K mg base "need_row_and_number" 4 2 aD):DefN P w K mg base "need_few_and_number" 5 2 bz:=
 aH ["row","number"] ["row","number"] 4 5 2 2 rfl rfl rfl F hm hb gR (m:=d8) λcdv A outer s H E hr=>(au (bE (az d_need_row_and_number_n (hr.mono (by decide)) J1 (ae (vL 0) (ae (vL 1) ak)) (aj (aj aq)))) (aA (bE (az d_need_few_n (hr.mono (by decide)) J1 (ae (vL 0) ak) (aj aq)))))
theorem oM:FnScope ["row","number"] ["row","number"] (defScope eK):=fsk
theorem oN(F:Fun K "sign_ways" "sign_ways" eK f fd)(hm:mg "sign_ways" = some (.ref f))(hb:Binds K fd ["row","number"] [])(T:Txt K mg)(d_need_few_and_number_n:DefN P w K mg base "need_few_and_number" 5 2 bz)(d_table_of:DefN P w K mg base "table_of" 2 2 cc):DefN P w K mg base "sign_ways" 6 2 dH:=
 aH ["row","number"] ["row","number"] 5 6 2 2 rfl rfl rfl F hm hb oM (m:=jI) λcdv A outer s H E hr=>(au (bE (az d_need_few_and_number_n (hr.mono (by decide)) J1 (ae (vL 0) (ae (vL 1) ak)) (aj (aj aq)))) (aA (aI (nh hr (az d_table_of (hr.mono (by decide)) J1 (ae (vL 0) (ae (pO T.m_SIGNS J1) ak)) (aj (aj aq))) (vL 1) av (xb J0 J0 J0 J0)))))
theorem wA:FnScope ["row"] ["row"] (defScope iE):=fsk
theorem wB(F:Fun K "total" "total" iE f fd)(hm:mg "total" = some (.ref f))(hb:Binds K fd ["row"] [])(T:Txt K mg)(d_need_row_n:DefN P w K mg base "need_row" 3 1 aJ):DefN P w K mg base "total" 4 1 hZ:=
 aH ["row"] ["row"] 3 4 1 1 rfl rfl rfl F hm hb wA (m:=qg) λcdv A outer s H E hr=>(au (bE (az d_need_row_n (hr.mono (by decide)) J1 (ae (vL 0) ak) (aj aq))) (aA (aI (aB (vA rfl) J1 T.b_sum sk (ae (vL 0) ak)))))
theorem sF:FnScope ["thing"] ["thing"] (defScope fR):=fsk
theorem sH(F:Fun K "is_rising" "is_rising" fR f fd)(hm:mg "is_rising" = some (.ref f))(hb:Binds K fd ["thing"] [])(T:Txt K mg)(d_is_whole:DefN P w K mg base "is_whole" 1 1 bp):DefN P w K mg base "is_rising" 2 1 ef:=
 aH ["thing"] ["thing"] 1 2 1 1 rfl rfl rfl F hm hb sF (m:=mN) λcdv A outer s H E hr=>(au (dF (j9 (lZ (gL (gK (aB lx J1 T.b_isinstance cB (ae (vC 0) (ae (pH J1 T.b_tuple cC) ak))))) (iU (gL (gK (aB (iZ rfl) J1 T.b_all gD (ae (bH (N:=["number"]) (k:=1) (caps:=[]) rfl (λ_ _ z=>z) (dg J0 J0 J0 J0 rfl J0) (cF (vC 0)) (λ_ _ _ _=>(aG (show(["number"]:List Str).Nodup by decide +kernel) J0 J2)) (λ_ _ _ _=>bG) (λ_ _ _ _=>(az d_is_whole (hr.mono (by decide)) J1 (ae (vL 0) ak) (aj aq)))) ak))))))) (aA (aI fE)) cx) (aA (aI (aB (iZ rfl) J1 T.b_all gD (ae (bH (N:=["place","thing"]) (k:=1) (caps:=[0]) rfl (λ_ _ z=>z) (dg J0 J0 J0 J0 rfl J0) (yS J1 T.b_range (ae av (ae (aB dW J1 T.b_len cJ (ae (vC 0) ak)) ak))) (λ_ _ _ _=>(aG (show(["place","thing"]:List Str).Nodup by decide +kernel) J0 J2)) (λ_ _ _ _=>bG) (λ_ _ _ _=>(jN wU (bO cg (vC 1) (aL gM (vL 0) av)) (bO cg (vC 1) (vL 0))))) ak)))))
theorem gH:FnScope ["layer","following","step","choices","present","reached","choice"] ["layer","following","step","choices"] (defScope gz):=fsk
theorem uZ(F:Fun K "leads_on" "leads_on" gz f fd)(hm:mg "leads_on" = some (.ref f))(hb:Binds K fd ["layer","following","step","choices"] [])(T:Txt K mg):DefN P w K mg base "leads_on" 1 4 eX:=
 aH ["layer","following","step","choices","present","reached","choice"] ["layer","following","step","choices"] 0 1 4 7 rfl rfl rfl F hm hb gH (m:=oi) λcdv A outer s H E hr=>(au (aM gH.nd J0 J2 (vF (E6 rfl) J1 T.b_dict By (ae (bH (N:=["reached"]) (k:=1) (caps:=[]) rfl (λ_ _ z=>z) (dg J0 J0 J0 J0 rfl J0) (cF (vL 1)) (λ_ _ _ _=>(aG (show(["reached"]:List Str).Nodup by decide +kernel) J0 J2)) (λ_ _ _ _=>bG) (λ_ _ _ _=>(dU (ae (vL 0) (ae fE ak))))) ak))) (au (fu Ys rfl (cF (vL 0)) (aG gH.nd J0 J2) (aA (fu Ys rfl (cF (vL 3)) (aG gH.nd J0 J2) (aA (dF (bM (yK hr) (aL bD (vL 5) (aL cQ (vL 6) (vL 2))) (vL 4)) (aA (aI fE)) cx))))) (aA (aI fE))))
theorem o8:FnScope ["thing","row","choices"] ["thing","row","choices"] (defScope fh):=fsk
theorem o9(F:Fun K "are_layers" "are_layers" fh f fd)(hm:mg "are_layers" = some (.ref f))(hb:Binds K fd ["thing","row","choices"] [])(T:Txt K mg)(d_is_rising:DefN P w K mg base "is_rising" 2 1 ef)(d_leads_on:DefN P w K mg base "leads_on" 1 4 eX):DefN P w K mg base "are_layers" 3 3 eN:=
 aH ["thing","row","choices"] ["thing","row","choices"] 2 3 3 3 rfl rfl rfl F hm hb o8 (m:=kG) λcdv A outer s H E hr=>(au (dF (j9 (lZ (gL (gK (aB CA J1 T.b_isinstance cB (ae (vC 0) (ae (pH J1 T.b_list Bz) ak))))) (iU (bM (jR hr) (aB dW J1 T.b_len cJ (ae (vC 0) ak)) (aL bD (aB dW J1 T.b_len cJ (ae (vL 1) ak)) av))))) (aA (aI fE)) cx) (au (dF (j9 (lZ (gL (gK (aB (iZ rfl) J1 T.b_all gD (ae (bH (N:=["layer"]) (k:=1) (caps:=[]) rfl (λ_ _ z=>z) (dg J0 J0 J0 J0 rfl J0) (vN (vC 0)) (λ_ _ _ _=>(aG (show(["layer"]:List Str).Nodup by decide +kernel) J0 J2)) (λ_ _ _ _=>bG) (λ_ _ _ _=>(az d_is_rising (hr.mono (by decide)) J1 (ae (vL 0) ak) (aj aq)))) ak)))) (iU (bM nK av (bO cg (vC 0) av))))) (aA (aI fE)) cx) (aA (aI (aB (iZ rfl) J1 T.b_all gD (ae (bH (N:=["place","step","thing","choices"]) (k:=2) (caps:=[0,2]) rfl (λ_ _ z=>z) (dg J0 J0 J0 J0 rfl J0) (wZ J1 T.b_enumerate (ae (vL 1) ak)) (λ_ _ _ _=>(fX rfl (aZ (aG (show(["place","step","thing","choices"]:List Str).Nodup by decide +kernel) J0 J2) (aZ (aG (show(["place","step","thing","choices"]:List Str).Nodup by decide +kernel) J0 J2) et)))) (λ_ _ _ _=>bG) (λ_ _ _ _=>(az d_leads_on (hr.mono (by decide)) J1 (ae (bO cg (vC 2) (vL 0)) (ae (bO cg (vC 2) (aL bD (vL 0) av)) (ae (vL 1) (ae (vC 3) ak)))) (aj (aj (aj (aj aq))))))) ak))))))
theorem kT:FnScope ["thing","row"] ["thing","row"] (defScope cV):=fsk
theorem kU(F:Fun K "uneven_bound" "uneven_bound" cV f fd)(hm:mg "uneven_bound" = some (.ref f))(hb:Binds K fd ["thing","row"] [])(T:Txt K mg)(d_are_layers:DefN P w K mg base "are_layers" 3 3 eN)(d_need_few_n:DefN P w K mg base "need_few" 4 1 bV):DefN P w K mg base "uneven_bound" 5 2 cy:=
 aH ["thing","row"] ["thing","row"] 4 5 2 2 rfl rfl rfl F hm hb kT (m:=ic) λcdv A outer s H E hr=>(au (bE (az d_need_few_n (hr.mono (by decide)) J1 (ae (vL 1) ak) (aj aq))) (au (dF (gL (gK (az d_are_layers (hr.mono (by decide)) J1 (ae (vL 0) (ae (vL 1) (ae (pO T.m_SIGNS J1) ak))) (aj (aj (aj aq)))))) (aA (aI Ep)) cx) (aA (aI (aB (xf rfl) J1 T.b_min js (ae (bH (N:=["reached"]) (k:=1) (caps:=[]) rfl (λ_ _ z=>z) (dg J0 J0 J0 J0 rfl J0) (cF (bO cg (vL 0) (lY iY av))) (λ_ _ _ _=>(aG (show(["reached"]:List Str).Nodup by decide +kernel) J0 J2)) (λ_ _ _ _=>bG) (λ_ _ _ _=>(aB vt J1 T.b_abs si (ae (vL 0) ak)))) ak))))))
theorem cM:FnScope ["row","choices","table","layers","step"] ["row","choices"] (defScope dP):=fsk
theorem mZ(F:Fun K "least_layers" "least_layers" dP f fd)(hm:mg "least_layers" = some (.ref f))(hb:Binds K fd ["row","choices"] [])(T:Txt K mg)(d_stepped:DefN P w K mg base "stepped" 1 3 dy):DefN P w K mg base "least_layers" 2 2 dm:=
 aH ["row","choices","table","layers","step"] ["row","choices"] 1 2 2 5 rfl rfl rfl F hm hb cM (m:=i8) λcdv A outer s H E hr=>(au (aM cM.nd J0 J2 (rC (nN av av rn))) (au (aM cM.nd J0 J2 (lq (ae (dU (ae av ak)) ak))) (au (fu Ys rfl (cF (vL 0)) (aG cM.nd J0 J2) (au (aM cM.nd J0 J2 (az d_stepped (hr.mono (by decide)) J1 (ae (vL 2) (ae (vL 4) (ae (vL 1) ak))) (aj (aj (aj aq))))) (aA (bE (rm W3 Qx Qy ji (vL 3) (ae (cN fj J1 T.b_tuple cC (ae (aB (Aq rfl) J1 T.b_sorted iL (ae (vL 2) ak)) ak)) ak)))))) (aA (aI (vL 3))))))
theorem kW:FnScope ["row"] ["row"] (defScope cW):=fsk
theorem kX(F:Fun K "uneven_paper" "uneven_paper" cW f fd)(hm:mg "uneven_paper" = some (.ref f))(hb:Binds K fd ["row"] [])(T:Txt K mg)(d_least_layers:DefN P w K mg base "least_layers" 2 2 dm)(d_need_few_n:DefN P w K mg base "need_few" 4 1 bV):DefN P w K mg base "uneven_paper" 5 1 cz:=
 aH ["row"] ["row"] 4 5 1 1 rfl rfl rfl F hm hb kW (m:=ie) λcdv A outer s H E hr=>(au (bE (az d_need_few_n (hr.mono (by decide)) J1 (ae (vL 0) ak) (aj aq))) (aA (aI (az d_least_layers (hr.mono (by decide)) J1 (ae (vL 0) (ae (pO T.m_SIGNS J1) ak)) (aj (aj aq))))))
theorem oO:FnScope ["thing","row"] ["thing","row"] (defScope eO):=fsk
theorem oP(F:Fun K "are_parts" "are_parts" eO f fd)(hm:mg "are_parts" = some (.ref f))(hb:Binds K fd ["thing","row"] [])(T:Txt K mg)(d_are_whole:DefN P w K mg base "are_whole" 2 2 dk)(d_need_row_n:DefN P w K mg base "need_row" 3 1 aJ):DefN P w K mg base "are_parts" 4 2 dI:=
 aH ["thing","row"] ["thing","row"] 3 4 2 2 rfl rfl rfl F hm hb oO (m:=jJ) λcdv A outer s H E hr=>(au (bE (az d_need_row_n (hr.mono (by decide)) J1 (ae (vL 1) ak) (aj aq))) (aA (aI (jO (az d_are_whole (hr.mono (by decide)) J1 (ae (vL 0) (ae (aB dW J1 T.b_len cJ (ae (vL 1) ak)) ak)) (aj (aj aq))) (lp (aB (iZ rfl) J1 T.b_all gD (ae (bH (N:=["part"]) (k:=1) (caps:=[]) rfl (λ_ _ z=>z) (dg J0 J0 J0 J0 rfl J0) (cF (vL 0)) (λ_ _ _ _=>(aG (show(["part"]:List Str).Nodup by decide +kernel) J0 J2)) (λ_ _ _ _=>bG) (λ_ _ _ _=>(sY wV wV (lY iY av) (vL 0) av))) ak)))))))
theorem m5:FnScope ["row","thing"] ["row","thing"] (defScope dQ):=fsk
theorem m7(F:Fun K "need_parts" "need_parts" dQ f fd)(hm:mg "need_parts" = some (.ref f))(hb:Binds K fd ["row","thing"] [])(T:Txt K mg)(d_are_parts_n:DefN P w K mg base "are_parts" 4 2 dI):DefN P w K mg base "need_parts" 5 2 dq:=
 aH ["row","thing"] ["row","thing"] 4 5 2 2 rfl rfl rfl F hm hb m5 (m:=i9) λcdv A outer s H E hr=>(aA (dF (gL (gK (az d_are_parts_n (hr.mono (by decide)) J1 (ae (vL 1) (ae (vL 0) ak)) (aj (aj aq))))) (aA ka) cx))
theorem wC:FnScope ["row","parts"] ["row","parts"] (defScope iF):=fsk
theorem wD(F:Fun K "worth" "worth" iF f fd)(hm:mg "worth" = some (.ref f))(hb:Binds K fd ["row","parts"] [])(T:Txt K mg)(d_need_parts_n:DefN P w K mg base "need_parts" 5 2 dq):DefN P w K mg base "worth" 6 2 fW:=
 aH ["row","parts"] ["row","parts"] 5 6 2 2 rfl rfl rfl F hm hb wC (m:=qh) λcdv A outer s H E hr=>(au (bE (az d_need_parts_n (hr.mono (by decide)) J1 (ae (vL 0) (ae (vL 1) ak)) (aj (aj aq)))) (aA (aI (aB (vA rfl) J1 T.b_sum sk (ae (bH (N:=["number","part"]) (k:=2) (caps:=[]) rfl (λ_ _ z=>z) (dg J0 J0 J0 J0 rfl J0) (Ag J1 T.b_zip (ae (vL 0) (ae (vL 1) ak))) (λ_ _ _ _=>(fX rfl (aZ (aG (show(["number","part"]:List Str).Nodup by decide +kernel) J0 J2) (aZ (aG (show(["number","part"]:List Str).Nodup by decide +kernel) J0 J2) et)))) (λ_ _ _ _=>bG) (λ_ _ _ _=>(aL cQ (vL 0) (vL 1)))) ak)))))
theorem dS:FnScope ["row","least","signs","many","last"] ["row"] (defScope dR):=fsk
theorem m8(F:Fun K "_law_right" "_law_right" dR f fd)(hm:mg "_law_right" = some (.ref f))(hb:Binds K fd ["row"] [])(T:Txt K mg)(d_are_signs_n:DefN P w K mg base "are_signs" 4 2 dG)(d_difference_signs_n:DefN P w K mg base "difference_signs" 4 1 bP)(d_differences_n:DefN P w K mg base "differences" 4 1 cK)(d_evenest_many_n:DefN P w K mg base "evenest_many" 8 1 bj)(d_evenest_n:DefN P w K mg base "evenest" 8 1 fq)(d_sign_ways_n:DefN P w K mg base "sign_ways" 6 2 dH)(d_total_n:DefN P w K mg base "total" 4 1 hZ)(d_uneven_bound_n:DefN P w K mg base "uneven_bound" 5 2 cy)(d_uneven_paper_n:DefN P w K mg base "uneven_paper" 5 1 cz)(d_unevenness_n:DefN P w K mg base "unevenness" 7 1 aE)(d_worth_n:DefN P w K mg base "worth" 6 2 fW):DefN P w K mg base "_law_right" 9 1 du:=
 aH ["row","least","signs","many","last"] ["row"] 8 9 1 5 rfl rfl rfl F hm hb dS (m:=ja) λcdv A outer s H E hr=>(au (Eu rfl dS.nd J0 J0 (by decide) J0 J0 (ae (az d_unevenness_n (hr.mono (by decide)) J1 (ae (vL 0) ak) (aj aq)) (ae (az d_evenest_n (hr.mono (by decide)) J1 (ae (vL 0) ak) (aj aq)) ak))) (au (dF (j9 (lZ (bM yP (az d_are_signs_n (hr.mono (by decide)) J1 (ae (vL 2) (ae (vL 0) ak)) (aj (aj aq))) fE) (iU (bM nK (az d_worth_n (hr.mono (by decide)) J1 (ae (vL 0) (ae (vL 2) ak)) (aj (aj aq))) (dU (ae (vL 1) (ae (aL gM av (vL 1)) ak))))))) (aA (aI fE)) cx) (au (dF (j9 (lZ (bM (jR hr) (az d_uneven_bound_n (hr.mono (by decide)) J1 (ae (az d_uneven_paper_n (hr.mono (by decide)) J1 (ae (vL 0) ak) (aj aq)) (ae (vL 0) ak)) (aj (aj aq))) (vL 1)) (iU (bM (jR hr) (aL lr (aL gM (vL 1) (az d_total_n (hr.mono (by decide)) J1 (ae (vL 0) ak) (aj aq))) av) av)))) (aA (aI fE)) cx) (au (aM dS.nd J0 J2 (az d_sign_ways_n (hr.mono (by decide)) J1 (ae (vL 0) (ae (vL 1) ak)) (aj (aj aq)))) (au (dF (bM (jR hr) (az d_evenest_many_n (hr.mono (by decide)) J1 (ae (vL 0) ak) (aj aq)) (bO cg (nF (ae (aL cQ av (vL 3)) (ae (vL 3) ak))) (cN zY J1 T.b_int sj (ae (jN (iw hr) (vL 1) av) ak)))) (aA (aI fE)) cx) (au (aM dS.nd J0 J2 (bO cg (aL bD (bO cg (az d_differences_n (hr.mono (by decide)) J1 (ae (vL 0) ak) (aj aq)) (lY iY av)) (dU (ae av ak))) av)) (aA (aI (jO (sY wV wV (vL 1) (vL 4) (aB (Cz rfl) J1 T.b_max nv (ae (aL bD (dU (ae av ak)) (vL 0)) ak))) (lp (jN (iw hr) (az d_worth_n (hr.mono (by decide)) J1 (ae (vL 0) (ae (az d_difference_signs_n (hr.mono (by decide)) J1 (ae (vL 0) ak) (aj aq)) ak)) (aj (aj aq))) (vL 4))))))))))))
theorem iM:FnScope ["box","many","left","digit"] ["box","many"] (defScope fU):=fsk
theorem sJ(F:Fun K "_law_take" "_law_take" fU f fd)(hm:mg "_law_take" = some (.ref f))(hb:Binds K fd ["box","many"] [])(T:Txt K mg):DefN P w K mg base "_law_take" 1 2 aO:=
 aH ["box","many","left","digit"] ["box","many"] 0 1 2 4 rfl rfl rfl F hm hb iM (m:=jc) λcdv A outer s H E hr=>(au (Et (aB yC J1 T.b_divmod wt (ae (bO cg (vL 0) av) (ae (vL 1) ak))) (fX rfl (aZ (aG iM.nd J0 J2) (aZ (aG iM.nd J0 J2) et)))) (au (vn z8 (vL 2) (vL 0) av) (aA (aI (vL 3)))))
theorem cE:FnScope ["box","most","many","kind","base","found","k","given","some"] ["box","most"] (defScope gA):=fsk
theorem u5(F:Fun K "_law_row" "_law_row" gA f fd)(hm:mg "_law_row" = some (.ref f))(hb:Binds K fd ["box","most"] [])(T:Txt K mg)(d__law_take:DefN P w K mg base "_law_take" 1 2 aO):DefN P w K mg base "_law_row" 2 2 eY:=
 aH ["box","most","many","kind","base","found","k","given","some"] ["box","most"] 1 2 2 9 rfl rfl rfl F hm hb cE (m:=jX) λcdv A outer s H E hr=>(au (aM cE.nd J0 J2 (az d__law_take (hr.mono (by decide)) J1 (ae (vL 0) (ae (aL bD (vL 1) av) ak)) (aj (aj aq)))) (au (aM cE.nd J0 J2 (az d__law_take (hr.mono (by decide)) J1 (ae (vL 0) (ae av ak)) (aj (aj aq)))) (au (aM cE.nd J0 J2 (aL bD av (az d__law_take (hr.mono (by decide)) J1 (ae (vL 0) (ae av ak)) (aj (aj aq))))) (au (aM cE.nd J0 J2 (lq ak)) (au (fu Ys rfl (jh J1 T.b_range (ae (vL 2) ak)) (aG cE.nd J0 J2) (au (aM cE.nd J0 J2 (aL bD av (az d__law_take (hr.mono (by decide)) J1 (ae (vL 0) (ae av ak)) (aj (aj aq))))) (au (aM cE.nd J0 J2 (nF (ae (vL 7) (ae (vL 7) (ae (vL 4) (ae (aL EA av (vL 6)) (ae (aL bD (vL 4) (aL cQ (vL 6) (vL 7))) (ae (aL cQ (vL 7) (vL 7)) (ae (aL bD (aL cQ (aL Ez av av) (vL 7)) (vL 7)) ak))))))))) (aA (bE (rm W3 Qx Qy ji (vL 5) (ae (bO cg (nF (ae (bO cg (vL 8) (vL 3)) (ae (aL cQ (vL 4) (vL 7)) ak))) (cN zY J1 T.b_int sj (ae (jN (iw hr) (az d__law_take (hr.mono (by decide)) J1 (ae (vL 0) (ae av ak)) (aj (aj aq))) av) ak))) ak))))))) (aA (aI (cN fj J1 T.b_tuple cC (ae (vL 5) ak)))))))))
theorem j3:FnScope ["script","k","box","row","least","more","times"] ["script"] (defScope lM):=fsk
end
/-! what the top has written -/
theorem FI{K:PySem.W.Frag}
  (gt:PySem.W.specialIn K (.builtin "object.__class__") "__get__" = some (some (.builtin "getset_descriptor.__get__")))
  (tk:PySem.W.takesIn K (.builtin "object.__class__")=some true):Cls K raisedX askedX isaX:=
 ⟨gt,tk,λc hc=>by simp[raisedX]at hc,
  λc hc k hk=>by simp[raisedX,askedX]at hc hk⟩
abbrev FnI(K:PySem.W.Frag)(n:Str)(st:Stmt):Prop:=∃(f:Addr)(oc:Value)(od:Option Addr)(sl:Array (Option Value))(kV dc pm:Value)(an:Option Addr)(cd ct:Value),PySem.W.nsIn K mainGlobals n=some (some (.ref f))/\K.lookup f=some ⟨oc,od,.func (PySem.W.fnOf n n (defArgs st) (defBody st) (defScope st) .none kV dc pm an cd ct),sl⟩/\PySem.W.codeIn K cd n=true/\PySem.W.keepIn K (.ref f)=true
theorem bg{K:PySem.W.Frag}{n:Str}{st:Stmt}{oc:Value}{od:Option Addr}{sl:Array (Option Value)}{kV dc pm:Value}{an:Option Addr}{cd ct:Value}(a:PySem.W.nsIn K mainGlobals n=some (some (.ref f)))(l:K.lookup f=some ⟨oc,od,.func (PySem.W.fnOf n n (defArgs st) (defBody st) (defScope st) .none kV dc pm an cd ct),sl⟩)(c:PySem.W.codeIn K cd n=true)(k:PySem.W.keepIn K (.ref f)=true):FnI K n st:=⟨f,oc,od,sl,kV,dc,pm,an,cd,ct,a,l,c,k⟩
theorem us1{p:List Value -> Prop}(h:∀a,p [a])(us:List Value)(e:us.length=1):p us:=by
 rcases us with _|⟨a,_|⟨b,r⟩⟩
 · simp at e
 · exact h a
 · simp at e
theorem us2{p:List Value -> Prop}(h:∀a b,p [a,b])(us:List Value)(e:us.length=2):p us:=by
 rcases us with _|⟨a,_|⟨b,_|⟨c,r⟩⟩⟩
 · simp at e
 · simp at e
 · exact h a b
 · simp at e
theorem us3{p:List Value -> Prop}(h:∀a b c,p [a,b,c])(us:List Value)(e:us.length=3):p us:=by
 rcases us with _|⟨a,_|⟨b,_|⟨c,_|⟨d,r⟩⟩⟩⟩
 · simp at e
 · simp at e
 · simp at e
 · exact h a b c
 · simp at e
theorem us4{p:List Value -> Prop}(h:∀a b c d,p [a,b,c,d])(us:List Value)(e:us.length=4):p us:=by
 rcases us with _|⟨a,_|⟨b,_|⟨c,_|⟨d,_|⟨x,r⟩⟩⟩⟩⟩
 · simp at e
 · simp at e
 · simp at e
 · simp at e
 · exact h a b c d
 · simp at e
theorem all_mk{P:Program}{w:World}{K:PySem.W.Frag}{h:Heap}{mg:Str->Option Value}{fa:Addr}(X:K.In h)(G:h.Ns mainGlobals mg)(hfa:mg "law" = some (.ref fa))   {t_LONGEST_ROW:Tok} {t_LONGEST_TABLED:Tok} {A_SIGNS:Addr} {od_SIGNS:Option Addr} {n_SIGNS:Nat} {sl_SIGNS:Array (Option Value)} {u0_SIGNS:Tok} {u1_SIGNS:Tok}
  (h0:FnI K "_law_cell" fM)
  (h1:FnI K "_law_mix" gu)
  (h2:FnI K "_law_box" gw)
  (h3:FnI K "is_whole" gx)
  (h4:FnI K "are_whole" fN)
  (h5:FnI K "are_so_many_signs" cn)
  (h6:FnI K "is_row" jl)
  (h7:FnI K "need_row" fc)
  (h8:FnI K "are_signs" eI)
  (h9:FnI K "difference" fe)
  (h10:FnI K "parts_of_one" dN)
  (h11:FnI K "difference_steps" cv)
  (h12:FnI K "difference_signs" cf)
  (h13:FnI K "differences" dv)
  (h14:FnI K "halves_of" fO)
  (h15:FnI K "need_number" dw)
  (h16:FnI K "need_row_and_number" bI)
  (h17:FnI K "stepped" iC)
  (h18:FnI K "table_of" gy)
  (h19:FnI K "many_met" ff)
  (h20:FnI K "half_worths" dz)
  (h21:FnI K "walk" jm)
  (h22:FnI K "above" iD)
  (h23:FnI K "unevenness" dO)
  (h24:FnI K "evenest_many" cT)
  (h25:FnI K "firsts_stepped" cU)
  (h26:FnI K "firsts_of" fP)
  (h27:FnI K "first_met" eJ)
  (h28:FnI K "evenest" fQ)
  (h29:FnI K "need_few" fg)
  (h30:FnI K "need_few_and_number" bJ)
  (h31:FnI K "sign_ways" eK)
  (h32:FnI K "total" iE)
  (h33:FnI K "is_rising" fR)
  (h34:FnI K "leads_on" gz)
  (h35:FnI K "are_layers" fh)
  (h36:FnI K "uneven_bound" cV)
  (h37:FnI K "least_layers" dP)
  (h38:FnI K "uneven_paper" cW)
  (h39:FnI K "are_parts" eO)
  (h40:FnI K "need_parts" dQ)
  (h41:FnI K "worth" iF)
  (h42:FnI K "_law_right" dR)
  (h43:FnI K "_law_take" fU)
  (h44:FnI K "_law_row" gA)
  (h45:FnI K "law" lM)
  (z_abs:PySem.W.nsIn K mainGlobals "abs" = some none)
  (z_all:PySem.W.nsIn K mainGlobals "all" = some none)
  (z_bool:PySem.W.nsIn K mainGlobals "bool" = some none)
  (z_dict:PySem.W.nsIn K mainGlobals "dict" = some none)
  (z_divmod:PySem.W.nsIn K mainGlobals "divmod" = some none)
  (z_enumerate:PySem.W.nsIn K mainGlobals "enumerate" = some none)
  (z_int:PySem.W.nsIn K mainGlobals "int" = some none)
  (z_isinstance:PySem.W.nsIn K mainGlobals "isinstance" = some none)
  (z_len:PySem.W.nsIn K mainGlobals "len" = some none)
  (z_list:PySem.W.nsIn K mainGlobals "list" = some none)
  (z_max:PySem.W.nsIn K mainGlobals "max" = some none)
  (z_min:PySem.W.nsIn K mainGlobals "min" = some none)
  (z_range:PySem.W.nsIn K mainGlobals "range" = some none)
  (z_sorted:PySem.W.nsIn K mainGlobals "sorted" = some none)
  (z_sum:PySem.W.nsIn K mainGlobals "sum" = some none)
  (z_tuple:PySem.W.nsIn K mainGlobals "tuple" = some none)
  (z_zip:PySem.W.nsIn K mainGlobals "zip" = some none)
  (z_LONGEST_ROW:PySem.W.nsIn K mainGlobals "LONGEST_ROW" = some (some (.int 16 t_LONGEST_ROW)))
  (z_LONGEST_TABLED:PySem.W.nsIn K mainGlobals "LONGEST_TABLED" = some (some (.int 10 t_LONGEST_TABLED)))
  (zt_SIGNS:PySem.W.nsIn K mainGlobals "SIGNS" = some (some (.ref A_SIGNS))) (yt_SIGNS:K.lookup A_SIGNS=some ⟨.type "tuple",od_SIGNS,.seq #[.int (-1) u0_SIGNS,.int (1) u1_SIGNS] n_SIGNS,sl_SIGNS⟩)
  (gt:PySem.W.specialIn K (.builtin "object.__class__") "__get__" = some (some (.builtin "getset_descriptor.__get__")))
  (tk:PySem.W.takesIn K (.builtin "object.__class__")=some true):
  ∃fd:FuncData,(∀(s:Shared)(v:Value),BindsTo s fd ⟨[v],[]⟩ [("script",v)])/\∀base:Heap,K.In base->base.Ns mainGlobals mg->FnOk P w K mg base (CX1 P w) 10 fa fd ["script"] (spN K 1 xw):=by
 obtain⟨f0,oc0,od0,sl0,kV0,dc0,pm0,an0,cd0,ct0,a0,l0,c0,k0⟩:=h0;obtain⟨f1,oc1,od1,sl1,kV1,dc1,pm1,an1,cd1,ct1,a1,l1,c1,k1⟩:=h1;obtain⟨f2,oc2,od2,sl2,kV2,dc2,pm2,an2,cd2,ct2,a2,l2,c2,k2⟩:=h2;obtain⟨f3,oc3,od3,sl3,kV3,dc3,pm3,an3,cd3,ct3,a3,l3,c3,k3⟩:=h3;obtain⟨f4,oc4,od4,sl4,kV4,dc4,pm4,an4,cd4,ct4,a4,l4,c4,k4⟩:=h4;obtain⟨f5,oc5,od5,sl5,kV5,dc5,pm5,an5,cd5,ct5,a5,l5,c5,k5⟩:=h5;obtain⟨f6,oc6,od6,sl6,kV6,dc6,pm6,an6,cd6,ct6,a6,l6,c6,k6⟩:=h6;obtain⟨f7,oc7,od7,sl7,kV7,dc7,pm7,an7,cd7,ct7,a7,l7,c7,k7⟩:=h7;obtain⟨f8,oc8,od8,sl8,kV8,dc8,pm8,an8,cd8,ct8,a8,l8,c8,k8⟩:=h8;obtain⟨f9,oc9,od9,sl9,kV9,dc9,pm9,an9,cd9,ct9,a9,l9,c9,k9⟩:=h9;obtain⟨f10,oc10,od10,sl10,kV10,dc10,pm10,an10,cd10,ct10,a10,l10,c10,k10⟩:=h10;obtain⟨f11,oc11,od11,sl11,kV11,dc11,pm11,an11,cd11,ct11,a11,l11,c11,k11⟩:=h11;obtain⟨f12,oc12,od12,sl12,kV12,dc12,pm12,an12,cd12,ct12,a12,l12,c12,k12⟩:=h12;obtain⟨f13,oc13,od13,sl13,kV13,dc13,pm13,an13,cd13,ct13,a13,l13,c13,k13⟩:=h13;obtain⟨f14,oc14,od14,sl14,kV14,dc14,pm14,an14,cd14,ct14,a14,l14,c14,k14⟩:=h14;obtain⟨f15,oc15,od15,sl15,kV15,dc15,pm15,an15,cd15,ct15,a15,l15,c15,k15⟩:=h15;obtain⟨f16,oc16,od16,sl16,kV16,dc16,pm16,an16,cd16,ct16,a16,l16,c16,k16⟩:=h16;obtain⟨f17,oc17,od17,sl17,kV17,dc17,pm17,an17,cd17,ct17,a17,l17,c17,k17⟩:=h17;obtain⟨f18,oc18,od18,sl18,kV18,dc18,pm18,an18,cd18,ct18,a18,l18,c18,k18⟩:=h18;obtain⟨f19,oc19,od19,sl19,kV19,dc19,pm19,an19,cd19,ct19,a19,l19,c19,k19⟩:=h19;obtain⟨f20,oc20,od20,sl20,kV20,dc20,pm20,an20,cd20,ct20,a20,l20,c20,k20⟩:=h20;obtain⟨f21,oc21,od21,sl21,kV21,dc21,pm21,an21,cd21,ct21,a21,l21,c21,k21⟩:=h21;obtain⟨f22,oc22,od22,sl22,kV22,dc22,pm22,an22,cd22,ct22,a22,l22,c22,k22⟩:=h22;obtain⟨f23,oc23,od23,sl23,kV23,dc23,pm23,an23,cd23,ct23,a23,l23,c23,k23⟩:=h23;obtain⟨f24,oc24,od24,sl24,kV24,dc24,pm24,an24,cd24,ct24,a24,l24,c24,k24⟩:=h24;obtain⟨f25,oc25,od25,sl25,kV25,dc25,pm25,an25,cd25,ct25,a25,l25,c25,k25⟩:=h25;obtain⟨f26,oc26,od26,sl26,kV26,dc26,pm26,an26,cd26,ct26,a26,l26,c26,k26⟩:=h26;obtain⟨f27,oc27,od27,sl27,kV27,dc27,pm27,an27,cd27,ct27,a27,l27,c27,k27⟩:=h27;obtain⟨f28,oc28,od28,sl28,kV28,dc28,pm28,an28,cd28,ct28,a28,l28,c28,k28⟩:=h28;obtain⟨f29,oc29,od29,sl29,kV29,dc29,pm29,an29,cd29,ct29,a29,l29,c29,k29⟩:=h29;obtain⟨f30,oc30,od30,sl30,kV30,dc30,pm30,an30,cd30,ct30,a30,l30,c30,k30⟩:=h30;obtain⟨f31,oc31,od31,sl31,kV31,dc31,pm31,an31,cd31,ct31,a31,l31,c31,k31⟩:=h31;obtain⟨f32,oc32,od32,sl32,kV32,dc32,pm32,an32,cd32,ct32,a32,l32,c32,k32⟩:=h32;obtain⟨f33,oc33,od33,sl33,kV33,dc33,pm33,an33,cd33,ct33,a33,l33,c33,k33⟩:=h33;obtain⟨f34,oc34,od34,sl34,kV34,dc34,pm34,an34,cd34,ct34,a34,l34,c34,k34⟩:=h34;obtain⟨f35,oc35,od35,sl35,kV35,dc35,pm35,an35,cd35,ct35,a35,l35,c35,k35⟩:=h35;obtain⟨f36,oc36,od36,sl36,kV36,dc36,pm36,an36,cd36,ct36,a36,l36,c36,k36⟩:=h36;obtain⟨f37,oc37,od37,sl37,kV37,dc37,pm37,an37,cd37,ct37,a37,l37,c37,k37⟩:=h37;obtain⟨f38,oc38,od38,sl38,kV38,dc38,pm38,an38,cd38,ct38,a38,l38,c38,k38⟩:=h38;obtain⟨f39,oc39,od39,sl39,kV39,dc39,pm39,an39,cd39,ct39,a39,l39,c39,k39⟩:=h39;obtain⟨f40,oc40,od40,sl40,kV40,dc40,pm40,an40,cd40,ct40,a40,l40,c40,k40⟩:=h40;obtain⟨f41,oc41,od41,sl41,kV41,dc41,pm41,an41,cd41,ct41,a41,l41,c41,k41⟩:=h41;obtain⟨f42,oc42,od42,sl42,kV42,dc42,pm42,an42,cd42,ct42,a42,l42,c42,k42⟩:=h42;obtain⟨f43,oc43,od43,sl43,kV43,dc43,pm43,an43,cd43,ct43,a43,l43,c43,k43⟩:=h43;obtain⟨f44,oc44,od44,sl44,kV44,dc44,pm44,an44,cd44,ct44,a44,l44,c44,k44⟩:=h44;obtain⟨f45,oc45,od45,sl45,kV45,dc45,pm45,an45,cd45,ct45,a45,l45,c45,k45⟩:=h45;have e:=hfa.symm.trans (Jo X G a45);cases e;have T:Txt K mg:=⟨FI gt tk,Y9 X G z_abs,Y9 X G z_all,Y9 X G z_bool,Y9 X G z_dict,Y9 X G z_divmod,Y9 X G z_enumerate,Y9 X G z_int,Y9 X G z_isinstance,Y9 X G z_len,Y9 X G z_list,Y9 X G z_max,Y9 X G z_min,Y9 X G z_range,Y9 X G z_sorted,Y9 X G z_sum,Y9 X G z_tuple,Y9 X G z_zip,⟨_,Jo X G z_LONGEST_ROW⟩,⟨_,Jo X G z_LONGEST_TABLED⟩,Cq X G zt_SIGNS yt_SIGNS⟩;have F0:=aP (st:=fM) l0 c0 k0;have b0:=F0.binds (ps:=["script","k"]) λ_ _ _ _ _ _=>us2 λ_ _=>rfl
 have F1:=aP (st:=gu) l1 c1 k1;have b1:=F1.binds (ps:=["cell","k"]) λ_ _ _ _ _ _=>us2 λ_ _=>rfl
 have F2:=aP (st:=gw) l2 c2 k2;have b2:=F2.binds (ps:=["script","k"]) λ_ _ _ _ _ _=>us2 λ_ _=>rfl
 have F3:=aP (st:=gx) l3 c3 k3;have b3:=F3.binds (ps:=["thing"]) λ_ _ _ _ _ _=>us1 λ_=>rfl
 have F4:=aP (st:=fN) l4 c4 k4;have b4:=F4.binds (ps:=["thing","many"]) λ_ _ _ _ _ _=>us2 λ_ _=>rfl
 have F5:=aP (st:=cn) l5 c5 k5;have b5:=F5.binds (ps:=["thing","many"]) λ_ _ _ _ _ _=>us2 λ_ _=>rfl
 have F6:=aP (st:=jl) l6 c6 k6;have b6:=F6.binds (ps:=["thing"]) λ_ _ _ _ _ _=>us1 λ_=>rfl
 have F7:=aP (st:=fc) l7 c7 k7;have b7:=F7.binds (ps:=["thing"]) λ_ _ _ _ _ _=>us1 λ_=>rfl
 have F8:=aP (st:=eI) l8 c8 k8;have b8:=F8.binds (ps:=["thing","row"]) λ_ _ _ _ _ _=>us2 λ_ _=>rfl
 have F9:=aP (st:=fe) l9 c9 k9;have b9:=F9.binds (ps:=["greater","lesser"]) λ_ _ _ _ _ _=>us2 λ_ _=>rfl
 have F10:=aP (st:=dN) l10 c10 k10;have b10:=F10.binds (ps:=["place","row"]) λ_ _ _ _ _ _=>us2 λ_ _=>rfl
 have F11:=aP (st:=cv) l11 c11 k11;have b11:=F11.binds (ps:=["row"]) λ_ _ _ _ _ _=>us1 λ_=>rfl
 have F12:=aP (st:=cf) l12 c12 k12;have b12:=F12.binds (ps:=["row"]) λ_ _ _ _ _ _=>us1 λ_=>rfl
 have F13:=aP (st:=dv) l13 c13 k13;have b13:=F13.binds (ps:=["row"]) λ_ _ _ _ _ _=>us1 λ_=>rfl
 have F14:=aP (st:=fO) l14 c14 k14;have b14:=F14.binds (ps:=["row"]) λ_ _ _ _ _ _=>us1 λ_=>rfl
 have F15:=aP (st:=dw) l15 c15 k15;have b15:=F15.binds (ps:=["thing"]) λ_ _ _ _ _ _=>us1 λ_=>rfl
 have F16:=aP (st:=bI) l16 c16 k16;have b16:=F16.binds (ps:=["row","number"]) λ_ _ _ _ _ _=>us2 λ_ _=>rfl
 have F17:=aP (st:=iC) l17 c17 k17;have b17:=F17.binds (ps:=["table","step","choices"]) λ_ _ _ _ _ _=>us3 λ_ _ _=>rfl
 have F18:=aP (st:=gy) l18 c18 k18;have b18:=F18.binds (ps:=["row","choices"]) λ_ _ _ _ _ _=>us2 λ_ _=>rfl
 have F19:=aP (st:=ff) l19 c19 k19;have b19:=F19.binds (ps:=["row","number"]) λ_ _ _ _ _ _=>us2 λ_ _=>rfl
 have F20:=aP (st:=dz) l20 c20 k20;have b20:=F20.binds (ps:=["row"]) λ_ _ _ _ _ _=>us1 λ_=>rfl
 have F21:=aP (st:=jm) l21 c21 k21;have b21:=F21.binds (ps:=["row","number"]) λ_ _ _ _ _ _=>us2 λ_ _=>rfl
 have F22:=aP (st:=iD) l22 c22 k22;have b22:=F22.binds (ps:=["row","number"]) λ_ _ _ _ _ _=>us2 λ_ _=>rfl
 have F23:=aP (st:=dO) l23 c23 k23;have b23:=F23.binds (ps:=["row"]) λ_ _ _ _ _ _=>us1 λ_=>rfl
 have F24:=aP (st:=cT) l24 c24 k24;have b24:=F24.binds (ps:=["row"]) λ_ _ _ _ _ _=>us1 λ_=>rfl
 have F25:=aP (st:=cU) l25 c25 k25;have b25:=F25.binds (ps:=["firsts","step"]) λ_ _ _ _ _ _=>us2 λ_ _=>rfl
 have F26:=aP (st:=fP) l26 c26 k26;have b26:=F26.binds (ps:=["row"]) λ_ _ _ _ _ _=>us1 λ_=>rfl
 have F27:=aP (st:=eJ) l27 c27 k27;have b27:=F27.binds (ps:=["row","number"]) λ_ _ _ _ _ _=>us2 λ_ _=>rfl
 have F28:=aP (st:=fQ) l28 c28 k28;have b28:=F28.binds (ps:=["row"]) λ_ _ _ _ _ _=>us1 λ_=>rfl
 have F29:=aP (st:=fg) l29 c29 k29;have b29:=F29.binds (ps:=["row"]) λ_ _ _ _ _ _=>us1 λ_=>rfl
 have F30:=aP (st:=bJ) l30 c30 k30;have b30:=F30.binds (ps:=["row","number"]) λ_ _ _ _ _ _=>us2 λ_ _=>rfl
 have F31:=aP (st:=eK) l31 c31 k31;have b31:=F31.binds (ps:=["row","number"]) λ_ _ _ _ _ _=>us2 λ_ _=>rfl
 have F32:=aP (st:=iE) l32 c32 k32;have b32:=F32.binds (ps:=["row"]) λ_ _ _ _ _ _=>us1 λ_=>rfl
 have F33:=aP (st:=fR) l33 c33 k33;have b33:=F33.binds (ps:=["thing"]) λ_ _ _ _ _ _=>us1 λ_=>rfl
 have F34:=aP (st:=gz) l34 c34 k34;have b34:=F34.binds (ps:=["layer","following","step","choices"]) λ_ _ _ _ _ _=>us4 λ_ _ _ _=>rfl
 have F35:=aP (st:=fh) l35 c35 k35;have b35:=F35.binds (ps:=["thing","row","choices"]) λ_ _ _ _ _ _=>us3 λ_ _ _=>rfl
 have F36:=aP (st:=cV) l36 c36 k36;have b36:=F36.binds (ps:=["thing","row"]) λ_ _ _ _ _ _=>us2 λ_ _=>rfl
 have F37:=aP (st:=dP) l37 c37 k37;have b37:=F37.binds (ps:=["row","choices"]) λ_ _ _ _ _ _=>us2 λ_ _=>rfl
 have F38:=aP (st:=cW) l38 c38 k38;have b38:=F38.binds (ps:=["row"]) λ_ _ _ _ _ _=>us1 λ_=>rfl
 have F39:=aP (st:=eO) l39 c39 k39;have b39:=F39.binds (ps:=["thing","row"]) λ_ _ _ _ _ _=>us2 λ_ _=>rfl
 have F40:=aP (st:=dQ) l40 c40 k40;have b40:=F40.binds (ps:=["row","thing"]) λ_ _ _ _ _ _=>us2 λ_ _=>rfl
 have F41:=aP (st:=iF) l41 c41 k41;have b41:=F41.binds (ps:=["row","parts"]) λ_ _ _ _ _ _=>us2 λ_ _=>rfl
 have F42:=aP (st:=dR) l42 c42 k42;have b42:=F42.binds (ps:=["row"]) λ_ _ _ _ _ _=>us1 λ_=>rfl
 have F43:=aP (st:=fU) l43 c43 k43;have b43:=F43.binds (ps:=["box","many"]) λ_ _ _ _ _ _=>us2 λ_ _=>rfl
 have F44:=aP (st:=gA) l44 c44 k44;have b44:=F44.binds (ps:=["box","most"]) λ_ _ _ _ _ _=>us2 λ_ _=>rfl
 have F45:=aP (st:=lM) l45 c45 k45;have b45:=F45.binds (ps:=["script"]) λ_ _ _ _ _ _=>us1 λ_=>rfl
 refine⟨PySem.W.fnOf "law" "law" (defArgs lM) (defBody lM) (defScope lM) .none kV45 dc45 pm45 an45 cd45 ct45,λs v=>.of_eq rfl,λbase _ _=>?_⟩
 have d__law_cell:DefN P w K mg base "_law_cell" 1 2 dj:=su F0 (Jo X G a0) b0 T
 have d__law_mix:DefN P w K mg base "_law_mix" 1 2 dX:=uU F1 (Jo X G a1) b1 T
 have d__law_box:DefN P w K mg base "_law_box" 2 2 dY:=uV F2 (Jo X G a2) b2 T d__law_cell d__law_mix
 have d_is_whole:DefN P w K mg base "is_whole" 1 1 bp:=uX F3 (Jo X G a3) b3 T
 have d_are_whole:DefN P w K mg base "are_whole" 2 2 dk:=sA F4 (Jo X G a4) b4 T d_is_whole
 have d_are_so_many_signs:DefN P w K mg base "are_so_many_signs" 3 2 bU:=jg F5 (Jo X G a5) b5 T d_are_whole
 have d_is_row:DefN P w K mg base "is_row" 2 1 fm:=zh F6 (Jo X G a6) b6 T d_is_whole
 have d_need_row_n:DefN P w K mg base "need_row" 3 1 aJ:=oX F7 (Jo X G a7) b7 T d_is_row
 have d_are_signs_n:DefN P w K mg base "are_signs" 4 2 dG:=oJ F8 (Jo X G a8) b8 T d_are_so_many_signs d_need_row_n
 have d_difference:DefN P w K mg base "difference" 1 2 cH:=oY F9 (Jo X G a9) b9 T
 have d_parts_of_one:DefN P w K mg base "parts_of_one" 1 2 bZ:=mW F10 (Jo X G a10) b10 T
 have d_difference_steps:DefN P w K mg base "difference_steps" 2 1 bb:=jw F11 (Jo X G a11) b11 T d_difference d_parts_of_one
 have d_difference_signs_n:DefN P w K mg base "difference_signs" 4 1 bP:=iQ F12 (Jo X G a12) b12 T d_difference_steps d_need_row_n
 have d_differences_n:DefN P w K mg base "differences" 4 1 cK:=lR F13 (Jo X G a13) b13 T d_difference_steps d_need_row_n
 have d_halves_of:DefN P w K mg base "halves_of" 1 1 br:=sC F14 (Jo X G a14) b14 T
 have d_need_number_n:DefN P w K mg base "need_number" 2 1 ck:=lT F15 (Jo X G a15) b15 T d_is_whole
 have d_need_row_and_number_n:DefN P w K mg base "need_row_and_number" 4 2 aD:=gQ F16 (Jo X G a16) b16 T d_need_number_n d_need_row_n
 have d_stepped:DefN P w K mg base "stepped" 1 3 dy:=wx F17 (Jo X G a17) b17 T
 have d_table_of:DefN P w K mg base "table_of" 2 2 cc:=uY F18 (Jo X G a18) b18 T d_stepped
 have d_many_met_n:DefN P w K mg base "many_met" 5 2 cI:=oZ F19 (Jo X G a19) b19 T d_halves_of d_need_row_and_number_n d_table_of
 have d_half_worths_n:DefN P w K mg base "half_worths" 4 1 cL:=lV F20 (Jo X G a20) b20 T d_halves_of d_need_row_n d_table_of
 have d_walk_n:DefN P w K mg base "walk" 5 2 g9:=zi F21 (Jo X G a21) b21 T d_half_worths_n
 have d_above_n:DefN P w K mg base "above" 6 2 hJ:=wz F22 (Jo X G a22) b22 T d_need_row_and_number_n d_walk_n
 have d_unevenness_n:DefN P w K mg base "unevenness" 7 1 aE:=mY F23 (Jo X G a23) b23 T d_above_n
 have d_evenest_many_n:DefN P w K mg base "evenest_many" 8 1 bj:=kQ F24 (Jo X G a24) b24 T d_many_met_n d_unevenness_n
 have d_firsts_stepped:DefN P w K mg base "firsts_stepped" 1 2 bY:=kR F25 (Jo X G a25) b25 T
 have d_firsts_of:DefN P w K mg base "firsts_of" 2 1 d7:=sD F26 (Jo X G a26) b26 T d_firsts_stepped
 have d_first_met_n:DefN P w K mg base "first_met" 5 2 cO:=oK F27 (Jo X G a27) b27 T d_firsts_of d_halves_of d_need_row_and_number_n
 have d_evenest_n:DefN P w K mg base "evenest" 8 1 fq:=sE F28 (Jo X G a28) b28 T d_first_met_n d_unevenness_n
 have d_need_few_n:DefN P w K mg base "need_few" 4 1 bV:=o7 F29 (Jo X G a29) b29 T d_need_row_n
 have d_need_few_and_number_n:DefN P w K mg base "need_few_and_number" 5 2 bz:=gS F30 (Jo X G a30) b30 T d_need_few_n d_need_row_and_number_n
 have d_sign_ways_n:DefN P w K mg base "sign_ways" 6 2 dH:=oN F31 (Jo X G a31) b31 T d_need_few_and_number_n d_table_of
 have d_total_n:DefN P w K mg base "total" 4 1 hZ:=wB F32 (Jo X G a32) b32 T d_need_row_n
 have d_is_rising:DefN P w K mg base "is_rising" 2 1 ef:=sH F33 (Jo X G a33) b33 T d_is_whole
 have d_leads_on:DefN P w K mg base "leads_on" 1 4 eX:=uZ F34 (Jo X G a34) b34 T
 have d_are_layers:DefN P w K mg base "are_layers" 3 3 eN:=o9 F35 (Jo X G a35) b35 T d_is_rising d_leads_on
 have d_uneven_bound_n:DefN P w K mg base "uneven_bound" 5 2 cy:=kU F36 (Jo X G a36) b36 T d_are_layers d_need_few_n
 have d_least_layers:DefN P w K mg base "least_layers" 2 2 dm:=mZ F37 (Jo X G a37) b37 T d_stepped
 have d_uneven_paper_n:DefN P w K mg base "uneven_paper" 5 1 cz:=kX F38 (Jo X G a38) b38 T d_least_layers d_need_few_n
 have d_are_parts_n:DefN P w K mg base "are_parts" 4 2 dI:=oP F39 (Jo X G a39) b39 T d_are_whole d_need_row_n
 have d_need_parts_n:DefN P w K mg base "need_parts" 5 2 dq:=m7 F40 (Jo X G a40) b40 T d_are_parts_n
 have d_worth_n:DefN P w K mg base "worth" 6 2 fW:=wD F41 (Jo X G a41) b41 T d_need_parts_n
 have d__law_right_n:DefN P w K mg base "_law_right" 9 1 du:=m8 F42 (Jo X G a42) b42 T d_are_signs_n d_difference_signs_n d_differences_n d_evenest_many_n d_evenest_n d_sign_ways_n d_total_n d_uneven_bound_n d_uneven_paper_n d_unevenness_n d_worth_n
 have d__law_take:DefN P w K mg base "_law_take" 1 2 aO:=sJ F43 (Jo X G a43) b43 T
 have d__law_row:DefN P w K mg base "_law_row" 2 2 eY:=u5 F44 (Jo X G a44) b44 T d__law_take
 exact Cg ["script","k","box","row","least","more","times"] ["script"] 9 10 1 7 rfl rfl rfl (m:=Dt) F45 j3 λcdv A outer s H E hr=>(au (fu Ys rfl (jh J1 T.b_range (ae (aB (vw rfl) J1 T.b_max nv (ae av (ae (aB (zX rfl) J1 T.b_min js (ae (aB dW J1 T.b_len cJ (ae (vL 0) ak)) (ae av ak))) ak))) ak)) (aG j3.nd J0 J2) (au (aM j3.nd J0 J2 (az d__law_box (hr.mono (by decide)) J1 (ae (vL 0) (ae (vL 1) ak)) (aj (aj aq)))) (au (aM j3.nd J0 J2 (az d__law_row (hr.mono (by decide)) J1 (ae (vL 2) (ae av ak)) (aj (aj aq)))) (au (dF (gL (gK (az d__law_right_n (hr.mono (by decide)) J1 (ae (vL 3) ak) (aj aq)))) (aA (aI fE)) cx) (au (aM j3.nd J0 J2 (az d_unevenness_n (hr.mono (by decide)) J1 (ae (vL 3) ak) (aj aq))) (au (aM j3.nd J0 J2 (aL bD av (az d__law_take (hr.mono (by decide)) J1 (ae (vL 2) (ae av ak)) (aj (aj aq))))) (au (aM j3.nd J0 (Or.inr J0) (aL bD av (az d__law_take (hr.mono (by decide)) J1 (ae (vL 2) (ae av ak)) (aj (aj aq))))) (au (dF (j9 (lZ (bM tm (az d_unevenness_n (hr.mono (by decide)) J1 (ae (aL bD (vL 3) (dU (ae (vL 5) ak))) ak) (aj aq)) (aB (vw rfl) J1 T.b_max nv (ae (vL 4) (ae (vL 5) ak)))) (iU (bM tm (az d_unevenness_n (hr.mono (by decide)) J1 (ae (aL bD (dU (ae (vL 5) ak)) (vL 3)) ak) (aj aq)) (aB (vw rfl) J1 T.b_max nv (ae (vL 4) (ae (vL 5) ak))))))) (aA (aI fE)) cx) (au (dF (bM (jR hr) (az d_unevenness_n (hr.mono (by decide)) J1 (ae (cN fj J1 T.b_tuple cC (ae (bH (N:=["one","times"]) (k:=1) (caps:=[6]) rfl (λ_ _ z=>z) (dg J0 J0 J0 J0 rfl J0) (cF (vL 3)) (λ_ _ _ _=>(aG (show(["one","times"]:List Str).Nodup by decide +kernel) J0 J2)) (λ_ _ _ _=>bG) (λ_ _ _ _=>(aL cQ (vL 0) (vC 1)))) ak)) ak) (aj aq)) (aL cQ (vC 6) (vL 4))) (aA (aI fE)) cx) (aA (dF (j9 (lZ (bM (jR hr) (az d_unevenness_n (hr.mono (by decide)) J1 (ae (AB (vL 3) (lY iY av)) ak) (aj aq)) (vL 4)) (iU (bM (jR hr) (az d_evenest_many_n (hr.mono (by decide)) J1 (ae (AB (vL 3) (lY iY av)) ak) (aj aq)) (az d_evenest_many_n (hr.mono (by decide)) J1 (ae (vL 3) ak) (aj aq)))))) (aA (aI fE)) cx))))))))))) (aA (aI fE)))
theorem walk{l:PySem.W.OpenLaw}{q:Program}{loose:List Str}{XP:(Str->Option Value)->Heap->Prop}{YP:World->Heap->Prop}{d:DefRec}{K:Params->PySem.W.Frag}(hn:l.most=some 63)(hdf:d.params.defaults=[])
  (hY:∀(w:World)(h:Heap),YP w h->(K w.params).In h)
  (F:∀(w:World)(mg:Str->Option Value)(fa:Addr)(h:Heap),(K w.params).In h->h.Ns mainGlobals mg->mg d.name=some (.ref fa)->
   ∃fd:FuncData,(∀(s:Shared)(u:Value),BindsTo s fd ⟨[u],[]⟩ [("script",u)])/\∀base:Heap,(K w.params).In base->base.Ns mainGlobals mg->FnOk l.prog w (K w.params) mg base (CX1 l.prog w) 10 fa fd ["script"] (spN (K w.params) 1 xw)):
  PySem.W.WalkO q loose XP YP l.row.toRowW d [] (λf vs=>PySem.call f vs):=
 L2.B5 (n:=63) (k:=10) (x:="script") (CX:=λw=>CX1 l.prog w) (sp:=λw=>spN (K w.params) 1 xw) hn (by decide) hdf ⟨rfl,by decide,by decide,rfl⟩ hY F (λw H a ns hl ho hS=>Ci Bv (K w.params) H a ns hl ho hS) λ_ _ _ _ _ z=>EH z
end Lw
open PySem PySem.W PyProof.Rows
set_option maxRecDepth 100000 in
set_option maxHeartbeats 0 in
theorem PySem.Challenge.cw_plusless_k28_whole_evenness_holds : PySem.Challenge.rw_plusless_k28_whole_evenness.Holds := by
  w_on; o_law
  refine holds_open (q := Lw.hV) (loose := []) (Xt := Lw.hX) (XP := XL Lw.hV []) (Yf := Hook.obs (kHook Lw.hK Lw.hA Lw.hKA)) (Ya := Hook.val (kHook Lw.hK Lw.hA Lw.hKA)) (YP := Hook.says (kHook Lw.hK Lw.hA Lw.hKA)) (N := 7600) Lw.left (Hook.of (kHook Lw.hK Lw.hA Lw.hKA)) (Hook.keeps (kHook Lw.hK Lw.hA Lw.hKA)) (λs e => xl_of s (Bool.and_eq_true_iff.mp e).1) XL.keeps (by rfl) (by rfl) (by rfl) (λs e => recFacts_of (Bool.and_eq_true_iff.mp e).2) (by rfl) (by first | assumption | decide +kernel) (by decide +kernel) ⟨rfl, rfl, rfl, rfl, rfl, by decide +kernel⟩ ?hw ?hc
  case hw => w_witness2
  k_fill
  refine Lw.walk (l := PySem.Challenge.rw_plusless_k28_whole_evenness) rfl rfl (λw h Y => by first | exact PySem.W.kIn_of Y | exact Y.1) ?F
  case F =>
    intro w mg fa h KX G hmg
    refine' Lw.all_mk KX G hmg ?h0 ?h1 ?h2 ?h3 ?h4 ?h5 ?h6 ?h7 ?h8 ?h9 ?h10 ?h11 ?h12 ?h13 ?h14 ?h15 ?h16 ?h17 ?h18 ?h19 ?h20 ?h21 ?h22 ?h23 ?h24 ?h25 ?h26 ?h27 ?h28 ?h29 ?h30 ?h31 ?h32 ?h33 ?h34 ?h35 ?h36 ?h37 ?h38 ?h39 ?h40 ?h41 ?h42 ?h43 ?h44 ?h45 ?z_abs ?z_all ?z_bool ?z_dict ?z_divmod ?z_enumerate ?z_int ?z_isinstance ?z_len ?z_list ?z_max ?z_min ?z_range ?z_sorted ?z_sum ?z_tuple ?z_zip ?z_LONGEST_ROW ?z_LONGEST_TABLED ?zt_SIGNS ?yt_SIGNS ?gt ?tk
    (case h0=>refine' Lw.bg ?a ?l ?c ?k;(case a=>k_is);(case l=>k_is);(case c=>k_is);(case k=>k_is))
    (case h1=>refine' Lw.bg ?a ?l ?c ?k;(case a=>k_is);(case l=>k_is);(case c=>k_is);(case k=>k_is))
    (case h2=>refine' Lw.bg ?a ?l ?c ?k;(case a=>k_is);(case l=>k_is);(case c=>k_is);(case k=>k_is))
    (case h3=>refine' Lw.bg ?a ?l ?c ?k;(case a=>k_is);(case l=>k_is);(case c=>k_is);(case k=>k_is))
    (case h4=>refine' Lw.bg ?a ?l ?c ?k;(case a=>k_is);(case l=>k_is);(case c=>k_is);(case k=>k_is))
    (case h5=>refine' Lw.bg ?a ?l ?c ?k;(case a=>k_is);(case l=>k_is);(case c=>k_is);(case k=>k_is))
    (case h6=>refine' Lw.bg ?a ?l ?c ?k;(case a=>k_is);(case l=>k_is);(case c=>k_is);(case k=>k_is))
    (case h7=>refine' Lw.bg ?a ?l ?c ?k;(case a=>k_is);(case l=>k_is);(case c=>k_is);(case k=>k_is))
    (case h8=>refine' Lw.bg ?a ?l ?c ?k;(case a=>k_is);(case l=>k_is);(case c=>k_is);(case k=>k_is))
    (case h9=>refine' Lw.bg ?a ?l ?c ?k;(case a=>k_is);(case l=>k_is);(case c=>k_is);(case k=>k_is))
    (case h10=>refine' Lw.bg ?a ?l ?c ?k;(case a=>k_is);(case l=>k_is);(case c=>k_is);(case k=>k_is))
    (case h11=>refine' Lw.bg ?a ?l ?c ?k;(case a=>k_is);(case l=>k_is);(case c=>k_is);(case k=>k_is))
    (case h12=>refine' Lw.bg ?a ?l ?c ?k;(case a=>k_is);(case l=>k_is);(case c=>k_is);(case k=>k_is))
    (case h13=>refine' Lw.bg ?a ?l ?c ?k;(case a=>k_is);(case l=>k_is);(case c=>k_is);(case k=>k_is))
    (case h14=>refine' Lw.bg ?a ?l ?c ?k;(case a=>k_is);(case l=>k_is);(case c=>k_is);(case k=>k_is))
    (case h15=>refine' Lw.bg ?a ?l ?c ?k;(case a=>k_is);(case l=>k_is);(case c=>k_is);(case k=>k_is))
    (case h16=>refine' Lw.bg ?a ?l ?c ?k;(case a=>k_is);(case l=>k_is);(case c=>k_is);(case k=>k_is))
    (case h17=>refine' Lw.bg ?a ?l ?c ?k;(case a=>k_is);(case l=>k_is);(case c=>k_is);(case k=>k_is))
    (case h18=>refine' Lw.bg ?a ?l ?c ?k;(case a=>k_is);(case l=>k_is);(case c=>k_is);(case k=>k_is))
    (case h19=>refine' Lw.bg ?a ?l ?c ?k;(case a=>k_is);(case l=>k_is);(case c=>k_is);(case k=>k_is))
    (case h20=>refine' Lw.bg ?a ?l ?c ?k;(case a=>k_is);(case l=>k_is);(case c=>k_is);(case k=>k_is))
    (case h21=>refine' Lw.bg ?a ?l ?c ?k;(case a=>k_is);(case l=>k_is);(case c=>k_is);(case k=>k_is))
    (case h22=>refine' Lw.bg ?a ?l ?c ?k;(case a=>k_is);(case l=>k_is);(case c=>k_is);(case k=>k_is))
    (case h23=>refine' Lw.bg ?a ?l ?c ?k;(case a=>k_is);(case l=>k_is);(case c=>k_is);(case k=>k_is))
    (case h24=>refine' Lw.bg ?a ?l ?c ?k;(case a=>k_is);(case l=>k_is);(case c=>k_is);(case k=>k_is))
    (case h25=>refine' Lw.bg ?a ?l ?c ?k;(case a=>k_is);(case l=>k_is);(case c=>k_is);(case k=>k_is))
    (case h26=>refine' Lw.bg ?a ?l ?c ?k;(case a=>k_is);(case l=>k_is);(case c=>k_is);(case k=>k_is))
    (case h27=>refine' Lw.bg ?a ?l ?c ?k;(case a=>k_is);(case l=>k_is);(case c=>k_is);(case k=>k_is))
    (case h28=>refine' Lw.bg ?a ?l ?c ?k;(case a=>k_is);(case l=>k_is);(case c=>k_is);(case k=>k_is))
    (case h29=>refine' Lw.bg ?a ?l ?c ?k;(case a=>k_is);(case l=>k_is);(case c=>k_is);(case k=>k_is))
    (case h30=>refine' Lw.bg ?a ?l ?c ?k;(case a=>k_is);(case l=>k_is);(case c=>k_is);(case k=>k_is))
    (case h31=>refine' Lw.bg ?a ?l ?c ?k;(case a=>k_is);(case l=>k_is);(case c=>k_is);(case k=>k_is))
    (case h32=>refine' Lw.bg ?a ?l ?c ?k;(case a=>k_is);(case l=>k_is);(case c=>k_is);(case k=>k_is))
    (case h33=>refine' Lw.bg ?a ?l ?c ?k;(case a=>k_is);(case l=>k_is);(case c=>k_is);(case k=>k_is))
    (case h34=>refine' Lw.bg ?a ?l ?c ?k;(case a=>k_is);(case l=>k_is);(case c=>k_is);(case k=>k_is))
    (case h35=>refine' Lw.bg ?a ?l ?c ?k;(case a=>k_is);(case l=>k_is);(case c=>k_is);(case k=>k_is))
    (case h36=>refine' Lw.bg ?a ?l ?c ?k;(case a=>k_is);(case l=>k_is);(case c=>k_is);(case k=>k_is))
    (case h37=>refine' Lw.bg ?a ?l ?c ?k;(case a=>k_is);(case l=>k_is);(case c=>k_is);(case k=>k_is))
    (case h38=>refine' Lw.bg ?a ?l ?c ?k;(case a=>k_is);(case l=>k_is);(case c=>k_is);(case k=>k_is))
    (case h39=>refine' Lw.bg ?a ?l ?c ?k;(case a=>k_is);(case l=>k_is);(case c=>k_is);(case k=>k_is))
    (case h40=>refine' Lw.bg ?a ?l ?c ?k;(case a=>k_is);(case l=>k_is);(case c=>k_is);(case k=>k_is))
    (case h41=>refine' Lw.bg ?a ?l ?c ?k;(case a=>k_is);(case l=>k_is);(case c=>k_is);(case k=>k_is))
    (case h42=>refine' Lw.bg ?a ?l ?c ?k;(case a=>k_is);(case l=>k_is);(case c=>k_is);(case k=>k_is))
    (case h43=>refine' Lw.bg ?a ?l ?c ?k;(case a=>k_is);(case l=>k_is);(case c=>k_is);(case k=>k_is))
    (case h44=>refine' Lw.bg ?a ?l ?c ?k;(case a=>k_is);(case l=>k_is);(case c=>k_is);(case k=>k_is))
    (case h45=>refine' Lw.bg ?a ?l ?c ?k;(case a=>k_is);(case l=>k_is);(case c=>k_is);(case k=>k_is))
    (case z_abs=>k_is)
    (case z_all=>k_is)
    (case z_bool=>k_is)
    (case z_dict=>k_is)
    (case z_divmod=>k_is)
    (case z_enumerate=>k_is)
    (case z_int=>k_is)
    (case z_isinstance=>k_is)
    (case z_len=>k_is)
    (case z_list=>k_is)
    (case z_max=>k_is)
    (case z_min=>k_is)
    (case z_range=>k_is)
    (case z_sorted=>k_is)
    (case z_sum=>k_is)
    (case z_tuple=>k_is)
    (case z_zip=>k_is)
    (case z_LONGEST_ROW=>k_is)
    (case z_LONGEST_TABLED=>k_is)
    (case zt_SIGNS=>k_is)
    (case yt_SIGNS=>k_is)
    (case gt=>k_is)
    (case tk=>k_is)
