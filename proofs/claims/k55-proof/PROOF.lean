import PyProof.Rows.All
import Wide.All
import OpenK.AllK
import Wide.FinOn
import PyProof.EqAt
import PyProof.EqKinds
import PyProof.TupleCall
import PyProof.ZipIter
import PyProof.EnumMake
import PyProof.Draws
import PyProof.LayNew
import PyProof.Rows.SortShell
import PyProof.IsRules
import PyProof.ListIndex
import PyProof.Cells
import PyProof.CompUse
import PyProof.DictItems
import PyProof.DictItemsLoops
import PyProof.Rows.MinMaxN
import PyProof.Rows.Range3
import KE.KRevIter
import PyProof.DictWalks
import PyProof.NeKinds
import PyProof.DictList
import PyProof.DictUpdate
import PyProof.Rows.Tup
import PyProof.FactsAll.tuple_2
import PyProof.Rows.CallKwBuiltin
import KE.KDictSum
import KE.KSortTup
import KE.KRevSl
import KE.KUnpack
import PyProof.Rows.SetFrom
import Lean
import PySem.Challenge.RW_plusless_k55_whole_swings
set_option Elab.async false
set_option linter.all false
set_option maxRecDepth 100000
set_option genSizeOf false
theorem Au.h2 (h:True:=by decide):True:=h
theorem Au.h5 (h:True:=by intro _; rfl):True:=h
theorem Au.h1 (h:True:=by rfl):True:=h
theorem Au.h8 (h:True:=by intro _ _ z; cases z):True:=h
theorem Au.h0 (h:True:=by kernel_rfl):True:=h
theorem Au.h3 (h:True:=by decide +kernel):True:=h
theorem Au.h9 (h:True:=by first | exact L2.CP _ | kernel_rfl):True:=h
theorem Au.h4 (h:True:=by intro _; kernel_rfl):True:=h
theorem Au.h7 (h:True:=by first | left; rfl | right; kernel_rfl):True:=h
theorem ex5 {α β:Type} {a b c:α->β->Prop} {P:Prop} (z:∃ x y,a x y/\b x y/\c x y) (f:∀ x y,a x y->b x y->c x y->P):P:=by
 obtain ⟨x,y,u,v,w⟩:=z
 exact f x y u v w
def J6:=@PySem.wpAny_bind
def J7:=@PySem.Heap.get?_push_of_some
def J8:=@if_pos
def J9:=@List.getElem?_eq_some_iff
def Ja:=@List.getElem?_eq_getElem
def Jb:=@Nat.le_refl
def Jc:=@if_neg
def Jd:=@PySem.wpAny_pure
def Je:=@PyProof.Rows.wpS_bind
def Jf:=@List.mem_singleton
def Jg:=@List.mem_cons
def Jh:=@List.length_map
def Ji:=@PySem.Heap.get?_push_size
def Jj:=@PyProof.Rows.wpS_pure
def Jk:=@PySem.Heap.lt_size
def Jl:=@Bool.false_ne_true
def Jm:=@List.length_cons
def Jn:=@List.map_cons
def Jo:=@List.length_append
def Jp:=@List.mem_append
def Jq:=@List.getElem?_append_left
def Jr:=@PySem.W.mg_of
def Js:=@decide_eq_true
def Jt:=@Nat.ne_of_lt
def Ju:=@List.size_toArray
def Jv:=@List.mem_map
def Jw:=@List.mem_append_right
def Jx:=@Bool.false_eq_true
def Jy:=@decide_eq_false
def Jz:=@List.not_mem_nil
def Y0:=@Nat.lt_of_lt_of_le
def Y1:=@Array.length_toList
def Y2:=@List.mem_filter
def Y3:=@Nat.zero_le
def Y4:=@PySem.Heap.size_push
def Y5:=@List.getElem?_append_right
def Y6:=@List.getElem?_set_self
def Y7:=@List.append_assoc
def Y8:=@PySem.W.mg_none_of
def Y9:=@Nat.le_trans
def Yb:=@List.mem_cons_of_mem
def Yc:=@List.getD_eq_getElem?_getD
def Yd:=@Option.some.inj
def Ye:=@List.mem_cons_self
def Yg:=@List.length_nil
def Yh:=@List.set_cons_zero
def Yi:=@PySem.PassesOwn.never
def Yj:=@if_true
def Yk:=@List.getElem?_set_ne
def Yl:=@Bool.and_eq_true
def Ym:=@PySem.wpAny_newObj_type
def Yn:=@List.flatMap_cons
def Yo:=@Int.le_refl
def Yp:=@Array.toList_append
def Yq:=@PySem.wpAny_field
def Yr:=@List.mem_append_left
def Ys:=@if_false
def Yt:=@PyProof.Rows.wpS_forRange
def Yu:=@List.append_nil
def Yv:=@List.all_eq_true
def Yw:=@List.getElem?_cons_succ
def Yx:=@List.getElem?_map
def Yy:=@of_decide_eq_true
def Yz:=@Int.le_of_lt
def Z0:=@PySem.wpAny_rule
def Z1:=@List.mem_of_getElem?
def Z2:=@or_false
def Z3:=@List.set_cons_succ
def Z4:=@List.nil_append
def Z5:=@List.find?_cons
def Z6:=@Nat.lt_succ_self
def Z7:=@Int.le_trans
def Z8:=@Array.getElem?_toList
def Z9:=@PySem.wpAny_callSpecial?_slot
def Za:=@List.length_eq_zero_iff
def Zb:=@List.getElem?_cons_zero
def Zc:=@PySem.wpAny_holding
def Zd:=@PySem.wpAny_seqItems
def Ze:=@PySem.W.kia_one
def Zf:=@PySem.wpAny_call_entry
def Zh:=@PySem.Heap.get?_update_other
def Zi:=@PySem.F.plain_min_loop
def Zj:=@PyProof.Rows.wpS_mono
def Zk:=@Nat.lt_succ_of_lt
def Zl:=@List.pairwise_append
def Zm:=@List.filter_cons
def Zn:=@List.map_map
def Zo:=@PySem.wpAny_truthy_bool
def Zp:=@PySem.wpAny_pyIter_list
def Zq:=@List.any_eq_false
def Zr:=@List.length_set
def Zs:=@Option.map_some
def Zt:=@List.length_singleton
def Zu:=@List.set_getElem_self
def Zv:=@decide_false
def Zw:=@PySem.Around.under_plainId
def Zx:=@PySem.Heap.get?_none_of_le
def Zy:=@List.mem_iff_getElem
def Zz:=@List.pairwise_singleton
def Q0:=@PySem.codeAny_builtin
def Q2:=@PyProof.Rows.callWith_type1
def Q3:=@List.replicate_succ
def Q4:=@Nat.lt_irrefl
def Q5:=@List.any_cons
def Q6:=@List.sum_cons
def Q7:=@congrArg
def Q8:=@List.length_take
def Q9:=@List.take_length
def Qa:=@List.mem_flatMap
def Qb:=@List.take_append_drop
def Qc:=@List.drop_eq_getElem_cons
def Qd:=@PyProof.Rows.slot_tuple_getitem
def Qe:=@Nat.ne_of_gt
def Qf:=@Bool.eq_iff_iff
def Qg:=@List.map_append
def Qh:=@PySem.plainId_quiet
def Qi:=@List.length_drop
def Qj:=@List.lookup_cons
def Qk:=@List.cons_append
def Ql:=@PySem.wpAny_mono
def Qm:=@List.take_of_length_le
def Qn:=@PySem.wpAny_setField_rec
def Qo:=@List.pairwise_cons
def Qp:=@PySem.Heap.get?_update_self
def Qq:=@PySem.wpAny_passesOwn
def Qr:=@PySem.F.slot_tuple_iterator_next
def Qs:=@List.nodup_iff_pairwise_ne
def Qt:=@List.flatten_cons
def Qu:=@List.pairwise_iff_getElem
def Qv:=@PyProof.Rows.wpS_modify
def Qw:=@Nat.pow_le_pow_right
def Qx:=@PySem.wpAny_of_eq
def Qy:=@Sum.inl.inj
def Qz:=@decide_true
def W0:=@List.map_nil
def W3:=@PySem.AutoSeq1.wpAny_loadPart'
def W4:=@List.any_eq_true
def W5:=@decide_eq_decide
def W6:=@List.set_set
def W7:=@PySem.F.slot_list_append
def W8:=@PySem.F.type_list_append
def W9:=@PyProof.Rows.vals1
def Wa:=@PySem.mem_of_lookup
def Wb:=@PySem.Heap.SameBut.update
def Wc:=@List.getElem?_replicate
def We:=@PySem.F.plainAttrs_list
def Wf:=@PyProof.Rows.LSm.kept_iter
def Wg:=@PySem.wpAny_pyIter_tuple
def Wh:=@Int.toNat_natCast
def Wi:=@Array.toList_push
def Wj:=@List.length_replicate
def Wk:=@PySem.wpAny_tryCatch
def Wl:=@Nat.succ_pos
def Wm:=@PyProof.Rows.wpS_get
def Wn:=@List.set_append_right
def Wp:=@List.dropLast_concat_getLast
def Wq:=@Int.mul_comm
def Wr:=@PySem.call_meets
def Ws:=@List.getElem_mem
def Wt:=@Array.toList_reverse
def Wu:=@List.all_cons
def Wv:=@Nat.le_succ
def Ww:=@PySem.wpAny_letGo
def Wx:=@List.reverse_append
def Wy:=@List.map_congr_left
def Wz:=@List.of_mem_zip
def V0:=@PySem.wpAny_Call_Name_kw
def V1:=@PySem.F.args_tuple_add_2
def V2:=@PySem.wpAny_typeOf
def V3:=@List.find?_eq_none
def V4:=@List.getElem?_drop
def V5:=@PySem.typeIs_int
def V6:=@PySem.F.entry_tuple_add
def V7:=@PySem.wpAny_dictEntries
def V8:=@List.pairwise_map
def V9:=@PySem.F.slot_tuple_add
def Va:=@PySem.wpAny_attempt
def Vb:=@Bool.not_true
def Vc:=@PySem.wpAny_isInstance
def Vd:=@Option.getD_none
def Ve:=@PySem.F.entry_min_loop
def Vf:=@Nat.succ_ne_self
def Vg:=@PyProof.Rows.wpS_lift
def Vh:=@PySem.Obj.isFreed_of_fields
def Vi:=@PySem.F.slot_dict_get
def Vj:=@Nat.le_of_lt
def Vk:=@PySem.wpAny_execs_nil
def Vl:=@List.nodup_cons
def Vm:=@Nat.succ_mul
def Vn:=@PySem.F.slot_int_rmul
def Vo:=@Nat.lt_trans
def Vp:=@List.forIn_cons
def Vq:=@PySem.Walks.list
def Vr:=@PySem.wpAny_updateSeq_pair
def Vs:=@PySem.F.slot_zip_next
def Vt:=@PyProof.Rows.get?_update_seq
def Vu:=@Nat.pow_succ
def Vv:=@Nat.mul_le_mul_right
def Vw:=@List.set_append_left
def Vx:=@beq_eq_false_iff_ne
def Vy:=@List.filterMap_cons
def Vz:=@PySem.wpAny_pyIter_values
def U0:=@List.take_succ
def U1:=@List.drop_drop
def U2:=@PySem.Obj.data_mapFields
def U3:=@PySem.Calls.spliced_cons
def U4:=@PySem.tupleKind_room_in1
def U5:=@PySem.F.args_tuple_mul_2
def U6:=@Array.size_extract
def U7:=@Int.emod_lt_of_pos
def U8:=@Int.fdiv_eq_ediv_of_nonneg
def U9:=@Int.fmod_eq_emod_of_nonneg
def Ua:=@PySem.wpAny_newList
def Ub:=@PySem.wpAny_onRaise
def Uc:=@Array.perm_iff_toList_perm
def Ud:=@Option.isSome_map
def Ue:=@PySem.wpAny_Call_method
def Uf:=@List.nodup_append
def Ug:=@PySem.F.entry_tuple_mul
def Uh:=@Nat.lt_of_succ_lt
def Ui:=@List.length_range
def Uj:=@Nat.add_comm
def Uk:=@Nat.mul_comm
def Ul:=@Nat.lt_or_ge
def Um:=@getElem?_pos
def Uo:=@Int.emod_nonneg
def Uq:=@List.filter_nil
def Ur:=@List.mem_range
def Us:=@List.take_zero
def Ut:=@List.find?_map
def Uu:=@Int.not_lt
namespace Lw
open PySem
noncomputable def top (i:Nat):Stmt:=PySem.Challenge.pw_plusless_k55_whole_swings.main.body.getD i (.Pass ⟨0,0,0,0⟩)
noncomputable def hdI (s:Stmt) (j:Nat):Stmt:=match s with
 | .ClassDef _ _ _ body _ _ _ _ _ _ _=>body.getD j (.Pass ⟨0,0,0,0⟩)
 | _=>.Pass ⟨0,0,0,0⟩
noncomputable def hdA (s:Stmt):Arguments:=match s with
 | .FunctionDef _ a _ _ _ _ _ _ _ _=>a
 | _=>{posonlyargs:=[],args:=[],vararg:=none,kwonlyargs:=[],kw_defaults:=[],kwarg:=none,defaults:=[]}
noncomputable def hdB (s:Stmt):List Stmt:=match s with
 | .FunctionDef _ _ b _ _ _ _ _ _ _=>b
 | _=>[]
noncomputable def hdS (s:Stmt):Scope:=match s with
 | .FunctionDef _ _ _ _ _ _ sc _ _ _=>sc
 | _=>{kind:=.function,names:=[],isGenerator:=false,isCoroutine:=false}
noncomputable def hE (P:Params) (n:Str) (t:Tok) (v:Value):DictEntry:={hash:=PyData.keyHash P n,key:=.str n t,val:=v}
noncomputable def hF (n:Str) (i:Nat) (m:Str) (t:Tok) (c:Addr):Obj:={cls:=.type "function",data:=.func {name:=n,qualname:=n,params:=hdA (top i),body:=.stmts (hdB (top i)),scope:=hdS (top i),globals:=3,closure:=[],defaults:=.none,kwdefaults:=.none,pyModule:=.str m t,code:=.ref c}}
noncomputable def hC (n:Str) (t0 t1 t2:Tok) (a b c d e:Int) (r0:Value) (f:Int) (r1 r2 r3 r4 r5:Value) (g h:Int) (t3:Tok):Obj:={cls:=.type "code",data:=.fields #[.str n t0,.str n t1,.str "/claim/cut.py" t2,.int a 0,.int b 0,.int c 0,.int d 0,.int e 0,r0,.bool true,.int f 0,r1,r2,r3,r4,r5,.int g 0,.int h 0,.str "/claim/cut.py" t3]}
noncomputable def hK:Params->PySem.W.Frag:=λP=>(nat_lit 2,{ cls:=.none,data:=.dict #[] })::
 (nat_lit 3,{ cls:=.type "dict",data:=.dict #[hE P "__name__" 165 (.str "law_plusless_k55_whole_swings" 563),hE P "__doc__" 166 .none,hE P "__package__" 167 .none,hE P "__loader__" 168 (.builtin "__main__.__loader__#opaque"),hE P "__spec__" 169 .none,hE P "__annotations__" 170 (.ref 6),hE P "__builtins__" 171 (.ref 4),hE P "__file__" 173 (.str "/claim/cut.py" 172),hE P "__cached__" 174 .none,hE P "PlusError" 206 (.ref 24),hE P "NoRow" 222 (.ref 37),hE P "NoNumber" 238 (.ref 49),hE P "NoSigns" 254 (.ref 61),hE P "TooMany" 270 (.ref 73),hE P "LONGEST_ROW" 274 (.int 16 273),hE P "is_whole" 281 (.ref 82),hE P "are_whole" 287 (.ref 87),hE P "is_row" 293 (.ref 92),hE P "need_row" 300 (.ref 99),hE P "need_number" 307 (.ref 106),hE P "need_row_and_number" 315 (.ref 113),hE P "are_parts" 321 (.ref 118),hE P "are_so_many_signs" 327 (.ref 123),hE P "need_parts" 335 (.ref 130),hE P "need_so_many_signs" 343 (.ref 137),hE P "turned" 349 (.ref 142),hE P "LONGEST_TABLED" 353 (.int 10 352),hE P "SIGNS" 357 (.ref 143),hE P "need_few" 364 (.ref 150),hE P "need_few_and_number" 372 (.ref 157),hE P "stepped" 386 (.ref 164),hE P "table_of" 396 (.ref 171),hE P "is_rising" 402 (.ref 176),hE P "halves_of" 412 (.ref 183),hE P "half_worths" 418 (.ref 188),hE P "firsts_stepped" 432 (.ref 195),hE P "walk" 445 (.ref 202),hE P "above" 451 (.ref 207),hE P "swing" 465 (.ref 214),hE P "swings_stepped" 479 (.ref 221),hE P "least_swing" 488 (.ref 228),hE P "kept_within" 494 (.ref 233),hE P "calm" 504 (.ref 240),hE P "tables_within" 515 (.ref 247),hE P "calm_many" 524 (.ref 254),hE P "leaning" 535 (.ref 261),hE P "leads_on_within" 541 (.ref 266),hE P "is_swing_paper" 547 (.ref 271),hE P "swing_paper" 553 (.ref 276),hE P "unevenness" 562 (.ref 283),hE P "_law_box" 576 (.ref 290),hE P "_law_take" 586 (.ref 297),hE P "_law_row" 600 (.ref 304),hE P "_law_signs" 606 (.ref 309),hE P "_law_all_signs" 617 (.ref 316),hE P "_law_right" 627 (.ref 323),hE P "law" 640 (.ref 330)] 57 })::
 (nat_lit 81,hC "is_whole" 275 276 277 14 1 0 0 3 (.ref 76) 181 (.ref 77) .none (.ref 78) (.ref 79) (.ref 80) 279 14 280)::
 (nat_lit 82,hF "is_whole" 8 "plusless.rows" 271 81)::
 (nat_lit 86,hC "are_whole" 282 283 284 16 2 0 0 3 (.ref 83) 181 (.ref 84) .none .none .none (.ref 85) 285 16 286)::
 (nat_lit 87,hF "are_whole" 9 "plusless.rows" 271 86)::
 (nat_lit 91,hC "is_row" 288 289 290 18 1 0 0 3 (.ref 88) 181 (.ref 89) .none .none .none (.ref 90) 291 18 292)::
 (nat_lit 92,hF "is_row" 10 "plusless.rows" 271 91)::
 (nat_lit 98,hC "need_row" 294 295 296 22 1 0 0 3 (.ref 93) 181 (.ref 94) .none (.ref 95) (.ref 96) (.ref 97) 298 22 299)::
 (nat_lit 99,hF "need_row" 11 "plusless.rows" 271 98)::
 (nat_lit 105,hC "need_number" 301 302 303 25 1 0 0 3 (.ref 100) 181 (.ref 101) .none (.ref 102) (.ref 103) (.ref 104) 305 25 306)::
 (nat_lit 106,hF "need_number" 12 "plusless.rows" 271 105)::
 (nat_lit 112,hC "need_row_and_number" 308 309 310 28 2 0 0 3 (.ref 107) 181 (.ref 108) .none (.ref 109) (.ref 110) (.ref 111) 313 28 314)::
 (nat_lit 113,hF "need_row_and_number" 13 "plusless.rows" 271 112)::
 (nat_lit 117,hC "are_parts" 316 317 318 31 2 0 0 3 (.ref 114) 181 (.ref 115) .none .none .none (.ref 116) 319 31 320)::
 (nat_lit 118,hF "are_parts" 14 "plusless.rows" 271 117)::
 (nat_lit 122,hC "are_so_many_signs" 322 323 324 34 2 0 0 3 (.ref 119) 181 (.ref 120) .none .none .none (.ref 121) 325 34 326)::
 (nat_lit 123,hF "are_so_many_signs" 15 "plusless.rows" 271 122)::
 (nat_lit 129,hC "need_parts" 328 329 330 36 2 0 0 3 (.ref 124) 181 (.ref 125) .none (.ref 126) (.ref 127) (.ref 128) 333 36 334)::
 (nat_lit 130,hF "need_parts" 16 "plusless.rows" 271 129)::
 (nat_lit 136,hC "need_so_many_signs" 336 337 338 39 2 0 0 3 (.ref 131) 181 (.ref 132) .none (.ref 133) (.ref 134) (.ref 135) 341 39 342)::
 (nat_lit 137,hF "need_so_many_signs" 17 "plusless.rows" 271 136)::
 (nat_lit 141,hC "turned" 344 345 346 42 2 0 0 3 (.ref 138) 181 (.ref 139) .none .none .none (.ref 140) 347 42 348)::
 (nat_lit 142,hF "turned" 18 "plusless.rows" 271 141)::
 (nat_lit 143,{ cls:=.type "tuple",data:=.seq #[.int (-1) 355,.int 1 356] })::
 (nat_lit 149,hC "need_few" 358 359 360 48 1 0 0 3 (.ref 144) 181 (.ref 145) .none (.ref 146) (.ref 147) (.ref 148) 362 48 363)::
 (nat_lit 150,hF "need_few" 22 "plusless.tables" 350 149)::
 (nat_lit 156,hC "need_few_and_number" 365 366 367 52 2 0 0 3 (.ref 151) 181 (.ref 152) .none (.ref 153) (.ref 154) (.ref 155) 370 52 371)::
 (nat_lit 157,hF "need_few_and_number" 23 "plusless.tables" 350 156)::
 (nat_lit 163,hC "stepped" 373 374 375 55 3 0 0 3 (.ref 158) 181 (.ref 159) .none (.ref 160) (.ref 161) (.ref 162) 384 55 385)::
 (nat_lit 164,hF "stepped" 24 "plusless.tables" 350 163)::
 (nat_lit 170,hC "table_of" 387 388 389 62 2 0 0 3 (.ref 165) 181 (.ref 166) .none (.ref 167) (.ref 168) (.ref 169) 394 62 395)::
 (nat_lit 171,hF "table_of" 25 "plusless.tables" 350 170)::
 (nat_lit 175,hC "is_rising" 397 398 399 67 1 0 0 3 (.ref 172) 181 (.ref 173) .none .none .none (.ref 174) 400 67 401)::
 (nat_lit 176,hF "is_rising" 26 "plusless.tables" 350 175)::
 (nat_lit 182,hC "halves_of" 405 406 407 72 1 0 0 3 (.ref 177) 181 (.ref 178) .none (.ref 179) (.ref 180) (.ref 181) 410 72 411)::
 (nat_lit 183,hF "halves_of" 28 "plusless.halves" 403 182)::
 (nat_lit 187,hC "half_worths" 413 414 415 75 1 0 0 3 (.ref 184) 181 (.ref 185) .none .none .none (.ref 186) 416 75 417)::
 (nat_lit 188,hF "half_worths" 29 "plusless.halves" 403 187)::
 (nat_lit 194,hC "firsts_stepped" 419 420 421 78 2 0 0 3 (.ref 189) 181 (.ref 190) .none (.ref 191) (.ref 192) (.ref 193) 430 78 431)::
 (nat_lit 195,hF "firsts_stepped" 30 "plusless.halves" 403 194)::
 (nat_lit 201,hC "walk" 433 434 435 86 2 0 0 3 (.ref 196) 181 (.ref 197) .none (.ref 198) (.ref 199) (.ref 200) 443 86 444)::
 (nat_lit 202,hF "walk" 31 "plusless.halves" 403 201)::
 (nat_lit 206,hC "above" 446 447 448 99 2 0 0 3 (.ref 203) 181 (.ref 204) .none .none .none (.ref 205) 449 99 450)::
 (nat_lit 207,hF "above" 32 "plusless.halves" 403 206)::
 (nat_lit 213,hC "swing" 454 455 456 103 2 0 0 3 (.ref 208) 181 (.ref 209) .none (.ref 210) (.ref 211) (.ref 212) 463 103 464)::
 (nat_lit 214,hF "swing" 34 "plusless.inturn" 452 213)::
 (nat_lit 220,hC "swings_stepped" 466 467 468 112 2 0 0 3 (.ref 215) 181 (.ref 216) .none (.ref 217) (.ref 218) (.ref 219) 477 112 478)::
 (nat_lit 221,hF "swings_stepped" 35 "plusless.inturn" 452 220)::
 (nat_lit 227,hC "least_swing" 480 481 482 120 1 0 0 3 (.ref 222) 181 (.ref 223) .none (.ref 224) (.ref 225) (.ref 226) 486 120 487)::
 (nat_lit 228,hF "least_swing" 36 "plusless.inturn" 452 227)::
 (nat_lit 232,hC "kept_within" 489 490 491 126 2 0 0 3 (.ref 229) 181 (.ref 230) .none .none .none (.ref 231) 492 126 493)::
 (nat_lit 233,hF "kept_within" 37 "plusless.inturn" 452 232)::
 (nat_lit 239,hC "calm" 495 496 497 128 1 0 0 3 (.ref 234) 181 (.ref 235) .none (.ref 236) (.ref 237) (.ref 238) 502 128 503)::
 (nat_lit 240,hF "calm" 38 "plusless.inturn" 452 239)::
 (nat_lit 246,hC "tables_within" 505 506 507 134 2 0 0 3 (.ref 241) 181 (.ref 242) .none (.ref 243) (.ref 244) (.ref 245) 513 134 514)::
 (nat_lit 247,hF "tables_within" 39 "plusless.inturn" 452 246)::
 (nat_lit 253,hC "calm_many" 516 517 518 141 2 0 0 3 (.ref 248) 181 (.ref 249) .none (.ref 250) (.ref 251) (.ref 252) 522 141 523)::
 (nat_lit 254,hF "calm_many" 40 "plusless.inturn" 452 253)::
 (nat_lit 260,hC "leaning" 525 526 527 145 1 0 0 3 (.ref 255) 181 (.ref 256) .none (.ref 257) (.ref 258) (.ref 259) 533 145 534)::
 (nat_lit 261,hF "leaning" 41 "plusless.inturn" 452 260)::
 (nat_lit 265,hC "leads_on_within" 536 537 538 154 4 0 0 3 (.ref 262) 181 (.ref 263) .none .none .none (.ref 264) 539 154 540)::
 (nat_lit 266,hF "leads_on_within" 42 "plusless.inturn" 452 265)::
 (nat_lit 270,hC "is_swing_paper" 542 543 544 162 3 0 0 3 (.ref 267) 181 (.ref 268) .none .none .none (.ref 269) 545 162 546)::
 (nat_lit 271,hF "is_swing_paper" 43 "plusless.inturn" 452 270)::
 (nat_lit 275,hC "swing_paper" 548 549 550 171 2 0 0 3 (.ref 272) 181 (.ref 273) .none .none .none (.ref 274) 551 171 552)::
 (nat_lit 276,hF "swing_paper" 44 "plusless.inturn" 452 275)::
 (nat_lit 282,hC "unevenness" 556 557 558 176 1 0 0 3 (.ref 277) 181 (.ref 278) .none (.ref 279) (.ref 280) (.ref 281) 560 176 561)::
 (nat_lit 283,hF "unevenness" 46 "plusless.evenness" 554 282)::
 (nat_lit 289,hC "_law_box" 565 566 567 179 2 0 0 3 (.ref 284) 181 (.ref 285) .none (.ref 286) (.ref 287) (.ref 288) 574 179 575)::
 (nat_lit 290,hF "_law_box" 48 "law_plusless_k55_whole_swings" 563 289)::
 (nat_lit 296,hC "_law_take" 577 578 579 191 2 0 0 3 (.ref 291) 181 (.ref 292) .none (.ref 293) (.ref 294) (.ref 295) 584 191 585)::
 (nat_lit 297,hF "_law_take" 49 "law_plusless_k55_whole_swings" 563 296)::
 (nat_lit 303,hC "_law_row" 587 588 589 195 2 0 0 3 (.ref 298) 181 (.ref 299) .none (.ref 300) (.ref 301) (.ref 302) 598 195 599)::
 (nat_lit 304,hF "_law_row" 50 "law_plusless_k55_whole_swings" 563 303)::
 (nat_lit 308,hC "_law_signs" 601 602 603 204 2 0 0 3 (.ref 305) 181 (.ref 306) .none .none .none (.ref 307) 604 204 605)::
 (nat_lit 309,hF "_law_signs" 51 "law_plusless_k55_whole_swings" 563 308)::
 (nat_lit 322,hC "_law_right" 618 619 620 214 1 0 0 3 (.ref 317) 181 (.ref 318) .none (.ref 319) (.ref 320) (.ref 321) 625 214 626)::
 (nat_lit 323,hF "_law_right" 53 "law_plusless_k55_whole_swings" 563 322)::
 (nat_lit 329,hC "law" 628 629 630 226 1 0 0 3 (.ref 324) 181 (.ref 325) .none (.ref 326) (.ref 327) (.ref 328) 638 226 639)::
 (nat_lit 330,hF "law" 54 "law_plusless_k55_whole_swings" 563 329)::[]
noncomputable def hA:List Addr:=[2,3,81,82,86,87,91,92,98,99,105,106,112,113,117,118,122,123,129,130,136,137,141,142,143,149,150,156,157,163,164,170,171,175,176,182,183,187,188,194,195,201,202,206,207,213,214,220,221,227,228,232,233,239,240,246,247,253,254,260,261,265,266,270,271,275,276,282,283,289,290,296,297,303,304,308,309,322,323,329,330]
noncomputable def hV:Program:={PySem.Challenge.pw_plusless_k55_whole_swings with main:={PySem.Challenge.pw_plusless_k55_whole_swings.main with body:=[top 1,top 2,top 3,top 4,top 5,top 7,top 8,top 9,top 10,top 11,top 12,top 13,top 14,top 15,top 16,top 17,top 18,top 20,top 21,top 22,top 23,top 24,top 25,top 26,top 28,top 29,top 30,top 31,top 32,top 34,top 35,top 36,top 37,top 38,top 39,top 40,top 41,top 42,top 43,top 44,top 46,top 48,top 49,top 50,top 51,top 52,top 53,top 54]}}
theorem hKA (P:Params):hA=(hK P).map (·.1):=by kernel_rfl
noncomputable abbrev hX (s:Shared):Bool:=PySem.W.xlAt hV [] s && PySem.W.recOk (PySem.W.RowW.records PySem.Challenge.rw_plusless_k55_whole_swings.row.toRowW) s
set_option maxHeartbeats 0 in
theorem left:PySem.W.LeftO PySem.Challenge.rw_plusless_k55_whole_swings.row.prog hV [] hX (PySem.W.Hook.obs (PySem.W.kHook hK hA hKA)) (PySem.W.Hook.val (PySem.W.kHook hK hA hKA)) 4806:=λw=>by kernel_rfl
end Lw
section
set_option Elab.async false
set_option linter.all false
set_option maxRecDepth 100000
namespace PySem
def ZO (o:Obj):Prop:=∃ fs:Array Value,o.data=.fields fs/\fs[2]?=some .none
def Heap.Zat (h:Heap) (e:Addr):Prop:=∃ o,h.get? e=some o/\ZO o
end PySem
namespace PySem
open PyProof.Rows
variable {ha:Addr}
theorem nz:entryFor table "proto.unchain" = some Builtin.«proto.unchain»:=entryFor_of_tree (by kernel_rfl)
theorem nA:plainId "proto.unchain" = true:=by decide +kernel
section
variable {prog:Program} {w:World} {A:Around} {E:Value->Shared->Prop} {s:Shared}
theorem xy {ea:Addr} {Q:Value->Shared->Prop} (z:s.heap.Zat ha) (h:Q .none s):wpAny (model prog w) A (runValue (.builtin "proto.unchain" ⟨[.ref ea,.ref ha,.ref ha,.bool false],[]⟩)) Q E s:=by
 obtain ⟨o,ho,fs,hd,h2⟩:=z
 refine wpAny_runValue (Q0 nz ?_)
 rw [Zw nA _]
 unfold Builtin.«proto.unchain»
 refine J6 (Yq ho hd h2 ?_)
 rw [J8 (by rfl)]
 refine J6 (Jd ?_)
 exact Jd h
theorem wc {α:Type} {ea:Addr} {o:Obj} {fs:Array Value} {Q:α->Shared->Prop} (hh:A.handled=some (.ref ha)) (z:s.heap.Zat ha) (ne:ha ≠ ea) (he:s.heap.get? ea=some o) (hd:o.data=.fields fs) (hs:2 < fs.size)
  (h:E (.ref ea) { s with heap:=s.heap.update ea (Obj.mapFields (λy=>y.setIfInBounds 2 (.ref ha))) }):wpAny (model prog w) A (raiseNew (.ref ea):Sem α) Q E s:=by
 unfold raiseNew
 refine J6 (wpAny_handled ?_)
 rw [hh]
 dsimp only
 rw [J8 (by simpa using ne)]
 refine J6 (Zc (xy z ?_))
 refine J6 ?_
 show wpAny _ _ (setField (.ref ea) 2 (.ref ha)) _ _ s
 exact wpAny_setField he hd hs (wpAny_throw h)
theorem wd {it:Addr} {x left step:Int} {Q:Option Value->Shared->Prop} (hh:A.handled=some (.ref ha)) (z:s.heap.Zat ha) (hit:IsRangeIter s.heap it x left step) (hl:left<=0)
  (k:∀ h',Heap.ExtBut it s.heap h'->Q none { s with heap:=h' }):wpAny (model prog w) A (pyNext (.ref it)) Q E s:=by
 have ty:s.TypeIs (.ref it) "range_iterator":=⟨_,hit,rfl⟩
 have lta:ha < s.heap.objs.size:=let ⟨o,q,_⟩:=z; Jk q
 unfold pyNext
 refine J6 (Va (Z9 (name:=Str.ofString "__next__") ty F.slot_range_iterator_next (Zf F.slot_range_iterator_next ty F.entry_range_iterator_next ?_ (F.args_range_iterator_next_1 _))))
 show wpAny _ _ (field (.ref it) 0 >>= _) _ _ s
 refine J6 (Yq hit rfl (x:=rawInt x) rfl ?_)
 show wpAny _ _ (field (.ref it) 1 >>= _) _ _ s
 refine J6 (Yq hit rfl (x:=rawInt left) rfl ?_)
 show wpAny _ _ (field (.ref it) 2 >>= _) _ _ s
 refine J6 (Yq hit rfl (x:=rawInt step) rfl ?_)
 show wpAny _ _ (if left<=0 then _ else _) _ _ s
 rw [J8 hl]
 refine J6 (Z0 ?_)
 refine J6 ?_
 show wpAny _ _ (newExc (.type "StopIteration") [] >>= _) _ _ _
 refine J6 ?_
 simp only [newExc,newTuple]
 refine J6 (Ym ?_ (by size_fits))
 refine J6 (m:=firstArgMember _ _) (Qx (a:=Value.none) (by first | rfl | (simp only [firstArgMember]; rfl)) ?_)
 refine Ym ?_ (by size_fits)
 refine wc (ha:=ha) (by first | exact hh | (show A.in1.handled=_; exact hh)) ?_ ?_ (Ji _ rfl) rfl ?_ ?_
 ·obtain ⟨o,q,r⟩:=z
  exact ⟨o,J7 _ (J7 _ q),r⟩
 ·exact Jt (Y0 lta (by rw [Y4]; exact Wv _))
 ·rw [Array.size_append]; exact Y0 (show 2 < 6 by decide) (Nat.le_add_right _ _)
 ·dsimp only
  generalize hfn:Obj.mapFields (λy=>y.setIfInBounds 2 (Value.ref ha))=fn
  generalize hg:s.heap.push { cls:=Value.type "tuple",data:=Data.seq #[] }=g
  generalize hex:({ cls:=Value.type "StopIteration",data:=Data.fields (#[Value.ref s.heap.objs.size,Value.none,Value.none,Value.none,Value.bool false,Value.none] ++ ownMembersOf (Value.type "StopIteration") []) }:Obj)=ex
  have c0:ex.cls=.type "StopIteration":=by rw [<- hex]
  have d0:∃ fs,ex.data=.fields fs:=⟨_,by rw [<- hex]⟩
  obtain ⟨fs,d0⟩:=d0
  have p0:(g.push ex).get? g.objs.size=some ex:=Ji g (Vh d0)
  have d1:(fn ex).data=.fields (fs.setIfInBounds 2 (.ref ha)):=by rw [<- hfn]; exact U2 d0 _
  have c1:(fn ex).cls=.type "StopIteration":=by rw [<- hfn]; exact (Obj.cls_mapFields _ _).trans c0
  have e1:((g.push ex).update g.objs.size fn).get? g.objs.size=some (fn ex):=Qp fn p0 (Vh d1)
  refine J6 (Vc (T:="StopIteration") (b:=true) ⟨fn ex,e1,c1⟩ isSubtype_stop ?_)
  refine Jd (k _ λb o _ q=>?_)
  have q1:g.get? b=some o:=by rw [<- hg]; exact J7 _ q
  rw [Zh (g.push ex) fn (Qe (Jk q1))]
  exact J7 ex q1
end
end PySem
namespace L2
open PySem PySem.Spec PyProof.Rows
variable {us:List Value} {u:Value} {a b:Addr} {P:Program} {w:World} {h:Heap} {i j:Nat} {x:Str} {e c tg:Expr} {A:Around} {s:Shared} {pos:Pos} {pins:List (Addr × Obj)} {qb:Bool} {fp:List Addr} {op:CmpOp} {kindOf:Str→Option NameKind}
noncomputable abbrev Key:=Sum Int Str
noncomputable def lW:Key->Value->Bool
 | .inl k,v=>Value.isInt k v
 | .inr x,v=>Value.isStrOf x v
noncomputable def Fl (w:World):Key->Int
 | .inl k=>hashInt k
 | .inr x=>hashStr w x
theorem bH:∀ {k:Key} {v:Value},lW k v=true->(∃ i t,k=Sum.inl i/\v=Value.int i t) \/ (∃ x t,k=Sum.inr x/\v=Value.str x t)
 | .inl i,v,h=>by
  obtain ⟨t,e⟩:=Value.isInt_shape (k:=i) (v:=v) h
  exact .inl ⟨i,t,rfl,e⟩
 | .inr x,v,h=>by
  obtain ⟨t,e⟩:=Value.isStrOf_shape (x:=x) (v:=v) h
  exact .inr ⟨x,t,rfl,e⟩
theorem we (i:Int) (t:Tok):lW (.inl i) (.int i t)=true:=by simp [lW,Value.isInt]
theorem wg (x:Str) (t:Tok):lW (.inr x) (.str x t)=true:=by simp [lW,Value.isStrOf]
theorem Cb (a b:Int):decide ((Sum.inl a:Key)=Sum.inl b)=(a == b):=by
 by_cases e:a=b
 ·subst e; simp
 ·have h:¬ (Sum.inl a:Key)=Sum.inl b:=λq=>e (Qy q)
  rw [Jy h]
  exact (Vx.mpr e).symm
theorem Cc (a b:Str):decide ((Sum.inr a:Key)=Sum.inr b)=decide (a=b):=by
 by_cases e:a=b
 ·subst e; simp
 ·have h:¬ (Sum.inr a:Key)=Sum.inr b:=λq=>e (Sum.inr.inj q)
  rw [Jy h,Jy e]
theorem Ce (a:Int) (b:Str):decide ((Sum.inl a:Key)=Sum.inr b)=false:=Jy (λq=>nomatch q)
theorem Cf (a:Str) (b:Int):decide ((Sum.inr a:Key)=Sum.inl b)=false:=Jy (λq=>nomatch q)
noncomputable def aQ (prog:Program) (w:World):PySem.KeyKind prog w Key where
 is:=lW
 hash:=Fl w
 inj:=λv a b ha hb=>by
  rcases bH ha with ⟨i,t,rfl,rfl⟩ | ⟨x,t,rfl,rfl⟩
  ·rcases bH hb with ⟨j,u,rfl,e⟩ | ⟨y,u,rfl,e⟩
   ·injection e with e1 _; rw [e1]
   ·exact nomatch e
  ·rcases bH hb with ⟨j,u,rfl,e⟩ | ⟨y,u,rfl,e⟩
   ·exact nomatch e
   ·injection e with e1 _; rw [e1]
 byValue:=λk v h=>by
  rcases bH h with ⟨i,t,rfl,rfl⟩ | ⟨x,t,rfl,rfl⟩ <;> rfl
 pyHash:=λhv h=>by
  rcases bH hv with ⟨i,t,rfl,rfl⟩ | ⟨x,t,rfl,rfl⟩
  ·exact wpAny_pyHash_int h
  ·exact wpAny_pyHash_str h
 eqBool:=λhu hv h=>by
  rcases bH hu with ⟨i,t,rfl,rfl⟩ | ⟨x,t,rfl,rfl⟩
  ·rcases bH hv with ⟨j,u,rfl,rfl⟩ | ⟨y,u,rfl,rfl⟩
   ·rw [Cb] at h; exact wpAny_eqBool_int h
   ·rw [Ce] at h; exact SeqAt.EqAt.int_str i t y u _ _ _ _ h
  ·rcases bH hv with ⟨j,u,rfl,rfl⟩ | ⟨y,u,rfl,rfl⟩
   ·rw [Cf] at h; exact SeqAt.EqAt.str_int x t j u _ _ _ _ h
   ·rw [Cc] at h; exact wpAny_eqBool_str h
 «strs»:=λk x t v h=>by
  rcases bH h with ⟨i,u,rfl,e⟩ | ⟨y,u,rfl,e⟩
  ·exact nomatch e
  ·injection e with e1 _
   subst e1
   cases v <;> rfl
theorem tK (prog:Program) (w:World) (k:Key) (v:Value):(aQ prog w).is k v=lW k v:=rfl
theorem qT (prog:Program) (w:World) (i:Int) (t:Tok):(aQ prog w).is (.inl i) (.int i t)=true:=we i t
theorem qU (prog:Program) (w:World) (x:Str) (t:Tok):(aQ prog w).is (.inr x) (.str x t)=true:=wg x t
inductive V where
 | non | bl (b:Bool) | int (i:Int) | str (x:Str) | byt (b:Array UInt8) | flt (b:UInt64) | ref (a:Addr) | ty (n:String)
 deriving DecidableEq
noncomputable def RelV:V->Value->Prop
 | .non,u=>u=Value.none
 | .bl b,u=>u=Value.bool b
 | .int i,u=>∃ t,u=Value.int i t
 | .str x,u=>∃ t,u=Value.str x t
 | .byt b,u=>∃ t,u=Value.bytes b t
 | .flt b,u=>∃ t,u=Value.float b t
 | .ref a,u=>u=Value.ref a
 | .ty n,u=>u=Value.type n
noncomputable abbrev Vals:List V->List Value->Prop:=Paired RelV
theorem Vals.length {xs:List V} (r:Vals xs us):xs.length=us.length:=Paired.length r
theorem Vals.get:∀ {xs:List V} {us:List Value} {i:Nat} {x:V},Vals xs us->xs[i]?=some x->∃ u,us[i]?=some u/\RelV x u
 | _,_,_,_,.nil,e=>by simp at e
 | _,_,0,_,.cons r _,e=>by simp at e; subst e; exact ⟨_,rfl,r⟩
 | _,_,i + 1,x,.cons _ t,e=>by
  obtain ⟨u,h1,h2⟩:=Vals.get (i:=i) (x:=x) t (by simpa using e)
  exact ⟨u,by simpa using h1,h2⟩
theorem Vals.set {x:V} (r:RelV x u):∀ {xs:List V} {us:List Value} (i:Nat),Vals xs us->Vals (xs.set i x) (us.set i u)
 | _,_,_,.nil=>.nil
 | _,_,0,.cons _ t=>.cons r t
 | _,_,i + 1,.cons q t=>.cons q (Vals.set r i t)
theorem Vals.append:∀ {xs ys:List V} {us ws:List Value},Vals xs us->Vals ys ws->Vals (xs ++ ys) (us ++ ws)
 | _,_,_,_,.nil,s=>s
 | _,_,_,_,.cons r t,s=>.cons r (Vals.append t s)
theorem Vals.take:∀ {xs:List V} {us:List Value} (n:Nat),Vals xs us->Vals (xs.take n) (us.take n)
 | _,_,0,_=>.nil
 | _,_,_ + 1,.nil=>.nil
 | _,_,n + 1,.cons r t=>.cons r (Vals.take n t)
theorem Vals.drop:∀ {xs:List V} {us:List Value} (n:Nat),Vals xs us->Vals (xs.drop n) (us.drop n)
 | _,_,0,r=>r
 | _,_,_ + 1,.nil=>.nil
 | _,_,n + 1,.cons _ t=>Vals.drop n t
noncomputable def oW:Option V->Option Value->Prop
 | some v,some u=>RelV v u
 | none,none=>True
 | _,_=>False
noncomputable def KV {κ:Type}:List (κ × V)->List (κ × Value)->Prop:=Paired λ(p:κ × V) (q:κ × Value)=>p.1=q.1/\RelV p.2 q.2
noncomputable def kV:Key->V
 | .inl i=>.int i
 | .inr x=>.str x
set_option genInjectivity false in
inductive HO where
 /-- a list -/
 | lst (xs:List V)
 /-- a tuple (never changes) -/
 | tup (xs:List V)
 /-- a dict whose keys are ints and texts; one whose keys are tuples of ints and texts (the empty one is both) -/
 | dK (kvs:List (Key × V)) | dT (kvs:List (List Key × V))
 /-- a set of ints: its members,its size -/
 | set (S:Int->Bool) (n:Nat)
 /-- an instance of the class at C,its dict at dx,its attributes -/
 | ins (C dx:Addr) (fs:List (Str × V))
 /-- the dict of the instance at x -/
 | own (x:Addr)
 /-- the dict of an exception -/
 | xd (fs:List (Str × V))
 /-- a bound method,f of x -/
 | met (f x:Addr)
 /-- a range object lo,lo + 1,.. below hi -/
 | rng (lo hi:Int)
 /-- a thing that is known to the object (the script; a dict while a loop walks it): read,never written while it is so -/
 | frz (o:Obj) (u:HO)
 /-- a code object's table -/
 | tbl (ps:Array Value)
 /-- any other thing,by what is true of its one object (a def of one's own: SetO a S n:=HO.ext λh=>..) -/
 | ext (φ:Heap->Prop)
variable {o:HO}
noncomputable abbrev Hp:=Addr->Option HO
variable {H:Hp}
noncomputable def upd (H:Hp) (a:Addr) (o:HO):Hp:=λb=>if b=a then some o else H b
theorem aK:upd H a o a=some o:=by unfold upd; rw [J8 rfl]
theorem aL (h:b ≠ a):upd H a o b=H b:=by unfold upd; rw [Jc h]
theorem Eb {u:HO} (h:H a=some o) (h':H b=some u) (d:o ≠ u):a ≠ b:=by
 intro e; subst e; rw [h] at h'; exact d (Yd h')
theorem aO (h:H a=some o) (h':H b=none):a ≠ b:=by
 intro e; subst e; rw [h] at h'; cases h'
section
variable (P:Program) (w:World)
noncomputable def bL (H:Hp) (h:Heap) (a:Addr):HO->Prop
 | .lst xs=>xs.length<=sizeLine/\∃ (its:List Value) (n:Nat),Vals xs its/\h.get? a=some { cls:=.type "list",data:=.seq its.toArray n }
 | .tup xs=>xs.length<=sizeLine/\∃ its:List Value,Vals xs its/\IsTup h a its.toArray
 | .dK kvs=>kvs.length<=sizeLine/\(a == sysModules)=false/\∃ vs,KV kvs vs/\h.DictOf (aQ P w) a vs
 | .dT kvs=>kvs.length<=sizeLine/\(a == sysModules)=false/\∃ xs:List (List Key × Addr × Value),
   Paired (λ(p:List Key × V) (q:List Key × Addr × Value)=>p.1=q.1/\H q.2.1=some (.tup (p.1.map kV))/\RelV p.2 q.2.2) kvs xs/\
   ∃ o es ep,h.get? a=some o/\o.ExactDict/\o.data=.dict es ep/\es.toList=xs.map (entryOfKey (tupleKind (aQ P w)))/\(xs.map (·.1)).Nodup
 | .set S n=>h.SetOf (intKind P w) a S n
 | .ins C dx fs=>H dx=some (.own a)/\fs.length<=1000/\dx ≠ a/\h.get? a=some (PySem.W.instObj C dx)/\
   ∃ mA,h.Ns1 dx mA/\(∀ f,oW (fs.lookup f) (mA f))/\PySem.Within mA (fs.map (·.1))
 | .own _=>∃ o,h.get? a=some o
 | .xd fs=>∃ mA,h.Ns1 a mA/\∀ f,oW (fs.lookup f) (mA f)
 | .rng lo hi=>∃ t u v,h.get? a=some { cls:=.type "range",data:=.fields #[.int lo t,.int hi u,.int 1 v] }
 | .frz o u=>h.get? a=some o/\bL H h a u
 | .tbl ps=>h.get? a=some { cls:=.none,data:=.fields ps }
 | .met f x=>h.get? a=some (PySem.W.methodObj (.ref f) (.ref x))
 | .ext φ=>φ h/\(∃ o,h.get? a=some o)/\∀ h1 h2:Heap,φ h1->(∀ o,h1.get? a=some o->h2.get? a=some o)->φ h2
def HOk (H:Hp) (h:Heap):Prop:=∀ a o,H a=some o->bL P w H h a o
end
section
variable {P:Program} {w:World} {H H':Hp} {h h':Heap} {a:Addr} {o:HO}
theorem bL.lt (x:bL P w H h a o):a < h.objs.size:=by
 cases o with
 | lst xs=>obtain ⟨_,_,_,_,e⟩:=x; exact Jk e
 | tup xs=>obtain ⟨_,_,_,p⟩:=x; exact p.lt
 | dK kvs=>obtain ⟨_,_,_,_,o,_,_,e,_⟩:=x; exact Jk e
 | dT kvs=>obtain ⟨_,_,_,_,o,_,_,e,_⟩:=x; exact Jk e
 | set S n=>obtain ⟨o,_,_,_,e,_⟩:=x; exact Jk e
 | ins C dx fs=>obtain ⟨_,_,_,e,_⟩:=x; exact Jk e
 | own y=>obtain ⟨_,e⟩:=x; exact Jk e
 | xd fs=>obtain ⟨_,⟨_,_,_,e,_⟩,_⟩:=x; exact Jk e
 | rng lo hi=>obtain ⟨_,_,_,e⟩:=x; exact Jk e
 | frz ob u=>obtain ⟨e,_⟩:=x; exact Jk e
 | tbl ps=>exact Jk (show h.get? a=some _ from x)
 | met f y=>exact Jk (show h.get? a=some _ from x)
 | ext φ=>obtain ⟨_,⟨_,e⟩,_⟩:=x; exact Jk e
theorem Paired.mapP {α β:Type} {F G:α->β->Prop}:∀ {l₁:List α} {l₂:List β},Paired F l₁ l₂->(∀ a b,F a b->G a b)->Paired G l₁ l₂
 | _,_,.nil,_=>.nil
 | _,_,.cons r t,f=>.cons (f _ _ r) (Paired.mapP t f)
theorem bL.stay (x:bL P w H h a o) (k:∀ b u,(b=a \/ H b=some (.own a))->h.get? b=some u->h'.get? b=some u)
  (ho:∀ b,H b=some (.own a)->H' b=some (.own a)) (ht:∀ b xs,H b=some (.tup xs)->H' b=some (.tup xs)):bL P w H' h' a o:=by
 induction o with
 | lst xs=>obtain ⟨z,its,n,r,e⟩:=x; exact ⟨z,its,n,r,k _ _ (.inl rfl) e⟩
 | tup xs=>obtain ⟨z,its,r,ob,e,c⟩:=x; exact ⟨z,its,r,ob,k _ _ (.inl rfl) e,c⟩
 | dK kvs=>obtain ⟨z,y,vs,r,ob,es,ep,e,c⟩:=x; exact ⟨z,y,vs,r,ob,es,ep,k _ _ (.inl rfl) e,c⟩
 | dT kvs=>
  obtain ⟨z,y,xs,r,ob,es,ep,e,c⟩:=x
  exact ⟨z,y,xs,Paired.mapP r λp q z=>⟨z.1,ht _ _ z.2.1,z.2.2⟩,ob,es,ep,k _ _ (.inl rfl) e,c⟩
 | set S n=>obtain ⟨ob,es,ep,t,e,c⟩:=x; exact ⟨ob,es,ep,t,k _ _ (.inl rfl) e,c⟩
 | ins C dx fs=>
  obtain ⟨d,z,ne,e,mA,⟨od,es,ep,e2,c⟩,r⟩:=x
  exact ⟨ho _ d,z,ne,k _ _ (.inl rfl) e,mA,⟨od,es,ep,k _ _ (.inr d) e2,c⟩,r⟩
 | own y=>obtain ⟨ob,e⟩:=x; exact ⟨ob,k _ _ (.inl rfl) e⟩
 | xd fs=>obtain ⟨mA,⟨od,es,ep,e,c⟩,r⟩:=x; exact ⟨mA,⟨od,es,ep,k _ _ (.inl rfl) e,c⟩,r⟩
 | rng lo hi=>obtain ⟨t,u,v,e⟩:=x; exact ⟨t,u,v,k _ _ (.inl rfl) e⟩
 | frz ob u ih=>obtain ⟨e,q⟩:=x; exact ⟨k _ _ (.inl rfl) e,ih q⟩
 | tbl ps=>
  have e:h.get? a=some { cls:=.none,data:=.fields ps }:=x
  show h'.get? a=some { cls:=.none,data:=.fields ps }
  exact k a _ (.inl rfl) e
 | met f y=>
  have e:h.get? a=some (PySem.W.methodObj (.ref f) (.ref y)):=x
  show h'.get? a=some (PySem.W.methodObj (.ref f) (.ref y))
  exact k a _ (.inl rfl) e
 | ext φ=>obtain ⟨p,⟨o,e⟩,st⟩:=x; exact ⟨st _ _ p λo q=>k _ _ (.inl rfl) q,⟨o,k _ _ (.inl rfl) e⟩,st⟩
theorem HOk.lt (x:HOk P w H h) (e:H a=some o):a < h.objs.size:=(x a o e).lt
theorem HOk.fresh (x:HOk P w H h) (e:h.objs.size<=a):H a=none:=by
 cases q:H a with
 | none=>rfl
 | some u=>exact absurd (Y0 (x.lt q) e) (Q4 _)
theorem HOk.kept (x:HOk P w H h) (k:∀ b u,h.get? b=some u->h'.get? b=some u):HOk P w H h':=λa o e=>
 (x a o e).stay (λb u _ q=>k b u q) (λ_ q=>q) λ_ _ q=>q
theorem HOk.laid (x:HOk P w H h) (k:∀ b u,h.get? b=some u->h'.get? b=some u) (hp:h.objs.size<=a) (new:bL P w (upd H a o) h' a o):HOk P w (upd H a o) h':=λb u e=>by
 have hn:=x.fresh hp
 by_cases hb:b=a
 ·subst hb; rw [aK] at e; cases e; exact new
 ·rw [aL hb] at e
  exact (x b u e).stay (λc v _ q=>k c v q) (λc q=>by rw [aL (aO q hn)]; exact q) λc xs q=>by rw [aL (aO q hn)]; exact q
end
def Rd (H:Hp) (a:Addr) (u:HO):Prop:=H a=some u \/ ∃ o,H a=some (.frz o u)
theorem Rd.ok {u:HO} (r:Rd H a u) (x:HOk P w H h):bL P w H h a u:=by
 rcases r with r | ⟨o,r⟩
 ·exact x a u r
 ·obtain ⟨_,q⟩:=x a _ r
  exact q
noncomputable def Mut:Option HO->Prop
 | some (.lst _)=>True
 | some (.dK _)=>True
 | some (.dT _)=>True
 | some (.set _ _)=>True
 | some (.ins _ _ _)=>True
 | some (.ext _)=>True
 | _=>False
section
variable {P:Program} {w:World} {H:Hp} {h h':Heap} {x e:Addr} {o':HO}
theorem HOk.write (ok:HOk P w H h) (mu:Mut (H x)) (he:e=x \/ H e=some (.own x)) (k:∀ b u,b ≠ e->h.get? b=some u->h'.get? b=some u) (heo:∃ u,h'.get? e=some u)
  (new:bL P w (upd H x o') h' x o'):HOk P w (upd H x o') h':=λb u q=>by
 have nown:∀ c y,H c=some (.own y)->c ≠ x:=λc y r z=>by subst z; rw [r] at mu; exact mu
 have ntup:∀ c xs,H c=some (.tup xs)->c ≠ x:=λc xs r z=>by subst z; rw [r] at mu; exact mu
 by_cases hb:b=x
 ·subst hb; rw [aK] at q; cases q; exact new
 ·rw [aL hb] at q
  by_cases hbe:b=e
  ·have q':H b=some (.own x):=by
    rcases he with z | z
    ·exact absurd (hbe.trans z) hb
    ·rw [hbe]; exact z
   rw [q] at q'; cases q'
   obtain ⟨v,hv⟩:=heo
   exact ⟨v,by rw [hbe]; exact hv⟩
  ·refine (ok b u q).stay (λc v hc r=>k c v ?_ r) (λc r=>by rw [aL (nown c b r)]; exact r) λc xs r=>by rw [aL (ntup c xs r)]; exact r
   rcases hc with rfl | hc
   ·exact hbe
   ·rintro rfl
    rcases he with z | z
    ·exact nown c b hc z
    ·rw [hc] at z; cases z; exact hb rfl
end
structure Un (fs ex:List Addr) (H H':Hp) (h h':Heap):Prop where
 keep:∀ b o,h.get? b=some o->H b=none->b ∉ fs->b ∉ ex->h'.get? b=some o
 slot:∀ b o,h.get? b=some o->H b=none->b ∈ fs->b ∉ ex->∃ sl,h'.get? b=some { o with slots:=sl }
 free:∀ b o,h.get? b=some o->H b=none->b ∉ ex->H' b=none
 there:∀ b o,h.get? b=some o->b ∉ ex->∃ o',h'.get? b=some o'
 tups:∀ b xs,H b=some (.tup xs)->H' b=some (.tup xs)
 frzs:∀ b o u,H b=some (.frz o u)->H' b=some (.frz o u)
 tbls:∀ b ps,H b=some (.tbl ps)->∃ more,H' b=some (.tbl (ps ++ more))
section
variable {fs fs' ex ex':List Addr} {H H1 H2:Hp} {h h1 h2 h':Heap} {a x e:Addr} {o:HO}
theorem Un.any (u:Un fs ex H H1 h h1) {ob:Obj} (q:h.get? b=some ob) (n:H b=none) (hx:b ∉ ex):∃ sl,h1.get? b=some { ob with slots:=sl }:=by
 by_cases hb:b ∈ fs
 ·exact u.slot b ob q n hb hx
 ·exact ⟨ob.slots,u.keep b ob q n hb hx⟩
theorem Un.trans (a:Un fs ex H H1 h h1) (b:Un fs ex H1 H2 h1 h2):Un fs ex H H2 h h2 where
 keep:=λc ob q n hc hx=>b.keep c ob (a.keep c ob q n hc hx) (a.free c ob q n hx) hc hx
 slot:=λc ob q n hc hx=>by
  obtain ⟨sl,e1⟩:=a.slot c ob q n hc hx
  obtain ⟨sl',e2⟩:=b.slot c _ e1 (a.free c ob q n hx) hc hx
  exact ⟨sl',e2⟩
 free:=λc ob q n hx=>by
  obtain ⟨o',e1⟩:=a.there c ob q hx
  exact b.free c o' e1 (a.free c ob q n hx) hx
 there:=λc ob q hx=>by
  obtain ⟨o',e1⟩:=a.there c ob q hx
  exact b.there c o' e1 hx
 tups:=λc xs q=>b.tups c xs (a.tups c xs q)
 frzs:=λc ob xs q=>b.frzs c ob xs (a.frzs c ob xs q)
 tbls:=λc ps q=>by
  obtain ⟨m1,e1⟩:=a.tbls c ps q
  obtain ⟨m2,e2⟩:=b.tbls c _ e1
  exact ⟨m1 ++ m2,by rw [e2,Array.append_assoc]⟩
theorem Un.kept (k:∀ b u,h.get? b=some u->h'.get? b=some u):Un fs ex H H h h':=
 ⟨λb ob q _ _ _=>k b ob q,λb ob q _ _ _=>⟨ob.slots,k b ob q⟩,λ_ _ _ n _=>n,λb ob q _=>⟨ob,k b ob q⟩,λ_ _ q=>q,λ_ _ _ q=>q,λ_ ps q=>⟨#[],by rw [q]; simp⟩⟩
theorem Un.refl:Un fs ex H H h h:=Un.kept λ_ _ q=>q
theorem Un.laid (k:∀ b u,h.get? b=some u->h'.get? b=some u) (hp:h.objs.size<=a) (hn:H a=none):Un fs ex H (upd H a o) h h' where
 keep:=λb u q _ _ _=>k b u q
 slot:=λb u q _ _ _=>⟨u.slots,k b u q⟩
 free:=λb u q n _=>by rw [aL (Jt (Y0 (Jk q) hp))]; exact n
 there:=λb u q _=>⟨u,k b u q⟩
 tups:=λb xs q=>by rw [aL (aO q hn)]; exact q
 frzs:=λb u xs q=>by rw [aL (aO q hn)]; exact q
 tbls:=λb ps q=>⟨#[],by rw [aL (aO q hn),q]; simp⟩
theorem Un.write (mu:Mut (H x)) (he:e=x \/ H e=some (.own x)) (k:∀ b u,b ≠ e->h.get? b=some u->h'.get? b=some u) (heo:∃ u,h'.get? e=some u):Un fs ex H (upd H x o) h h':=by
 have hx:∀ b,H b=none->b ≠ x:=λb n z=>by subst z; rw [n] at mu; exact mu
 have hb:∀ b,H b=none->b ≠ e:=λb n z=>by
  subst z
  rcases he with r | r
  ·exact hx b n r
  ·rw [n] at r; cases r
 have hm:∀ b u,H b=some u->¬ Mut (some u)->b ≠ x:=λb u q nm z=>by subst z; rw [q] at mu; exact nm mu
 refine ⟨λb u q n _ _=>k b u (hb b n) q,λb u q n _ _=>⟨u.slots,k b u (hb b n) q⟩,λb u q n _=>by rw [aL (hx b n)]; exact n,λb u q _=>?_,
  λb xs q=>by rw [aL (hm b _ q λz=>z)]; exact q,λb u xs q=>by rw [aL (hm b _ q λz=>z)]; exact q,λb ps q=>⟨#[],by rw [aL (hm b _ q λz=>z),q]; simp⟩⟩
 by_cases hbe:b=e
 ·subst hbe; exact heo
 ·exact ⟨u,k b u hbe q⟩
end
noncomputable def trk (h:Heap) (H:Hp):List Addr:=(List.range h.objs.size).filter λa=>(H a).isSome
noncomputable def oX (h:Heap) (H:Hp):Heap:=PySem.W.hideAll h (trk h H)
theorem wj (h:Heap) (H:Hp):(oX h H).objs.size=h.objs.size:=PySem.W.hideAll_size _ _
theorem xA {o:Obj} (e:h.get? b=some o) (n:H b=none):(oX h H).get? b=some o:=
 PySem.W.hideAll_get _ e λhm=>by
  have q:(H b).isSome=true:=(Y2.mp hm).2
  rw [n] at q; simp at q
theorem zW {o:Obj} (e:(oX h H).get? b=some o):h.get? b=some o/\H b=none:=by
 have e':h.get? b=some o:=PySem.W.of_hideAll (trk h H) e
 refine ⟨e',?_⟩
 cases q:H b with
 | none=>rfl
 | some x=>
  have hm:b ∈ trk h H:=Y2.mpr ⟨Ur.mpr (Jk e'),by simp [q]⟩
  have z:(oX h H).get? b=none:=PySem.W.hideAll_none (trk h H) hm
  rw [z] at e; cases e
structure Mod (K:PySem.W.Frag) (mg:Str->Option Value) (base:Heap):Prop where
 kin:K.In base
 glob:base.Ns mainGlobals mg
 blt:∃ mb,base.Ns builtinsNs mb/\∀ x:Str,x ≠ "__name__"->mb x=bootBuiltins x
 nolimit:base.NoLimit
structure Cx where
 prog:Program
 w:World
 K:PySem.W.Frag
 mg:Str->Option Value
 base:Heap
 A:Around
 N:List Str
 s₀:Shared
 H₀:Hp
 env:Env
 outer:List Env
 stack:List Env
 ex:List Addr
 fn:Str->Bool
 calm:Bool
 pn:List (Addr × Obj)
 xe:Value->Shared->Prop
variable {X:Cx}
noncomputable def frs (l:List Env):List Addr:=l.filterMap (·.frame)
noncomputable abbrev Cx.fs (X:Cx):List Addr:=frs X.outer
def Vis (sc:Scope) (x:Str):Prop:=sc.names.lookup x=some .local \/ sc.names.lookup x=some .cell \/ sc.names.lookup x=some .free
def Loc (sc:Scope) (x:Str):Prop:=sc.names.lookup x=some .local \/ sc.names.lookup x=some .cell
def Look (env:Env) (h:Heap) (m:Str->Option Value) (x:Str) (u:Value):Prop:=
 (env.kindOf x=some .local/\m x=some u) \/ ((env.kindOf x=some .cell \/ env.kindOf x=some .free)/\∃ c,env.cells.lookup x=some c/\h.IsCell c (some u))
structure Cx.Ok (X:Cx):Prop where
 mod:Mod X.K X.mg X.base
 kind:X.env.scope.kind=.function
 glob:X.env.globals=mainGlobals
 blt:X.env.builtins=builtinsNs
 above:X.s₀.heap.objs.size<=X.env.locals
 inj:∀ x y c,X.env.cells.lookup x=some c->X.env.cells.lookup y=some c->x=y
 has:∀ x,(X.env.kindOf x=some .cell \/ X.env.kindOf x=some .free)->∃ c,X.env.cells.lookup x=some c
 cab:∀ x c,X.fn x=true->X.env.cells.lookup x=some c->X.s₀.heap.objs.size<=c
 hd:X.calm=true->X.A.handled=none
 frames:X.A.frames=some X.stack
 stk:X.stack=X.outer \/ (X.stack=X.env :: X.outer/\X.env.frame=some X.env.locals)
 exf:∀ b ∈ X.ex,b ≠ X.env.locals/\∀ x c,X.env.cells.lookup x=some c->c ≠ b
 bs:∀ b o,X.base.get? b=some o->X.s₀.heap.get? b=some o/\X.H₀ b=none
 bsz:X.base.objs.size<=X.s₀.heap.objs.size
 noex:∀ b o,X.base.get? b=some o->b ∉ X.ex
 exfs:∀ b ∈ X.ex,b ∉ X.fs
 funs:X.s₀.heap.FunFrames X.base X.outer
 frf:∀ b ∈ X.fs,X.H₀ b=none
structure Inv (X:Cx) (pins:List (Addr × Obj)) (σ:List (Option V)) (H:Hp) (s:Shared):Prop where
 ok:X.Ok
 os:s.os=X.s₀.os
 bare:AllBare s.gens
 base:Un X.fs X.ex X.H₀ H X.s₀.heap s.heap
 loc:∃ m,s.heap.Ns X.env.locals m/\∀ (i:Nat) (x:Str) (v:V),X.N[i]?=some x->σ[i]?=some (some v)->Vis X.env.scope x->∃ u,RelV v u/\Look X.env s.heap m x u
 cell:∀ x c,X.env.cells.lookup x=some c->∃ v,s.heap.IsCell c v
 free:H X.env.locals=none
 freeC:∀ x c,X.env.cells.lookup x=some c->H c=none
 pin:∀ p ∈ X.pn ++ pins,s.heap.get? p.1=some p.2/\H p.1=none/\p.1 ≠ X.env.locals/\p.1 ∉ X.fs/\∀ v,p.2.data ≠ .cell v
 hok:HOk X.prog X.w H s.heap
 len:σ.length=X.N.length
section
variable {X:Cx} {pins:List (Addr × Obj)} {σ:List (Option V)} {H H':Hp} {s:Shared} {h':Heap}
theorem Cx.Ok.nofr (ok:X.Ok) {o:Obj} (e:X.base.get? b=some o):b ∉ X.fs:=λhb=>by
 have:=(ok.funs.mem hb).1
 rw [e] at this; cases this
theorem Inv.bs (I:Inv X pins σ H s):∀ b o,X.base.get? b=some o->s.heap.get? b=some o/\H b=none:=λb o e=>
 ⟨I.base.keep b o (I.ok.bs b o e).1 (I.ok.bs b o e).2 (I.ok.nofr e) (I.ok.noex b o e),I.base.free b o (I.ok.bs b o e).1 (I.ok.bs b o e).2 (I.ok.noex b o e)⟩
theorem Inv.bk (I:Inv X pins σ H s):∀ b o,X.base.get? b=some o->s.heap.get? b=some o:=λb o e=>(I.bs b o e).1
theorem Inv.mod (I:Inv X pins σ H s):Mod X.K X.mg X.base:=I.ok.mod
theorem Inv.kIn (I:Inv X pins σ H s):X.K.In s.heap:=I.ok.mod.kin.keeps I.bk
theorem Inv.lt (I:Inv X pins σ H s):X.env.locals < s.heap.objs.size:=let ⟨_,hn,_⟩:=I.loc; hn.lt
theorem Inv.sz (I:Inv X pins σ H s):X.s₀.heap.objs.size<=s.heap.objs.size:=Y9 I.ok.above (Vj I.lt)
theorem Inv.nofs (I:Inv X pins σ H s) (h:s.heap.objs.size<=a):a ∉ X.fs:=λhb=>by
 obtain ⟨_,o,ho,_⟩:=I.ok.funs.mem hb
 exact absurd (Y0 (Jk ho) (Y9 I.sz h)) (Q4 _)
theorem Inv.cne (I:Inv X pins σ H s):∀ x c,X.env.cells.lookup x=some c->c ≠ X.env.locals:=λx c e z=>by
 obtain ⟨v,o,ho,hd⟩:=I.cell x c e
 obtain ⟨m,⟨o',es,ep,ho',hd',_⟩,_⟩:=I.loc
 rw [z,ho'] at ho; cases ho; rw [hd'] at hd; cases hd
theorem Inv.funs (I:Inv X pins σ H s):s.heap.FunFrames X.base X.outer:=by
 have all:∀ (l:List Env),(∀ b ∈ frs l,b ∈ X.fs)->X.s₀.heap.FunFrames X.base l->s.heap.FunFrames X.base l:=by
  intro l
  induction l with
  | nil=>intro _ _; trivial
  | cons env r ih=>
   intro hs hl
   obtain ⟨hk,⟨L,o,hf,hn,ho,hd⟩,hr⟩:=hl
   have hL:L ∈ X.fs:=hs L (by unfold frs; rw [Vy,hf]; exact Ye)
   obtain ⟨sl,e⟩:=I.base.slot L o ho (I.ok.frf L hL) hL λz=>I.ok.exfs L z hL
   exact ⟨hk,⟨L,_,hf,hn,e,hd⟩,ih (λb hb=>hs b (by unfold frs; rw [Vy,hf]; exact Yb _ hb)) hr⟩
 exact all X.outer (λ_ hb=>hb) I.ok.funs
theorem Inv.stack (I:Inv X pins σ H s):s.heap.FunFrames X.base X.stack:=by
 rcases I.ok.stk with e | ⟨e,hf⟩
 ·rw [e]; exact I.funs
 ·rw [e]
  obtain ⟨m,hn,_⟩:=I.loc
  refine .cons (by rw [I.ok.kind]; decide) hf hn ?_ I.funs
  exact Zx (Y9 I.ok.bsz I.ok.above)
theorem Inv.stkSub (I:Inv X pins σ H s):∀ b ∈ frs X.stack,b ∈ X.env.locals :: X.fs:=λb hb=>by
 rcases I.ok.stk with e | ⟨e,hf⟩
 ·rw [e] at hb; exact Yb _ hb
 ·rw [e] at hb
  unfold frs at hb
  rw [Vy,hf] at hb
  exact hb
theorem Inv.stkFree (I:Inv X pins σ H s):∀ b ∈ frs X.stack,H b=none:=λb hb=>by
 rcases Jg.mp (I.stkSub b hb) with e | hb
 ·rw [e]; exact I.free
 ·obtain ⟨_,o,ho,_⟩:=I.ok.funs.mem hb
  exact I.base.free b o ho (I.ok.frf b hb) λz=>I.ok.exfs b z hb
theorem Inv.step {g':Array GenState} {t':Nat} {d':Drawn} {ch:List Addr} (I:Inv X pins σ H s)
  (hch:∀ b ∈ ch,(b ∈ X.ex \/ X.s₀.heap.objs.size<=b)/\b ≠ X.env.locals/\(∀ x c,X.env.cells.lookup x=some c->c ≠ b)/\∀ p ∈ X.pn ++ pins,p.1 ≠ b)
  (keep:∀ b o,b ≠ X.env.locals->b ∉ X.fs->b ∉ ch->s.heap.get? b=some o->H b=none->h'.get? b=some o)
  (slot:∀ b o,b ≠ X.env.locals->b ∈ X.fs->b ∉ ch->s.heap.get? b=some o->H b=none->∃ sl,h'.get? b=some { o with slots:=sl }) (free:∀ b o,b ∉ ch->s.heap.get? b=some o->H b=none->H' b=none)
  (there:∀ b o,b ∉ ch->s.heap.get? b=some o->∃ o',h'.get? b=some o')
  (tups:∀ b xs,H b=some (.tup xs)->H' b=some (.tup xs)) (frzs:∀ b o u,H b=some (.frz o u)->H' b=some (.frz o u)) (tbls:∀ b ps,H b=some (.tbl ps)->∃ more,H' b=some (.tbl (ps ++ more)))
  (ns:∀ m,s.heap.Ns X.env.locals m->h'.Ns X.env.locals m) (hok:HOk X.prog X.w H' h') (hg:AllBare g'):
  Inv X pins σ H' { s with heap:=h',gens:=g',drawn:=d',toks:=t' }:=by
 have neL:∀ b o,X.s₀.heap.get? b=some o->b ≠ X.env.locals:=λb o e=>Jt (Y0 (Jk e) I.ok.above)
 have neC:∀ b o,X.s₀.heap.get? b=some o->b ∉ X.ex->b ∉ ch:=λb o e hx hb=>by
  rcases (hch b hb).1 with z | z
  ·exact hx z
  ·exact absurd (Y0 (Jk e) z) (Q4 _)
 have cellK:∀ x c,X.env.cells.lookup x=some c->∀ v,s.heap.IsCell c v->h'.IsCell c v:=λx c e v ⟨o,ho,hd⟩=>by
  have nch:c ∉ ch:=λz=>(hch c z).2.2.1 x c e rfl
  by_cases hc:c ∈ X.fs
  ·obtain ⟨sl,q⟩:=slot c o (I.cne x c e) hc nch ho (I.freeC x c e)
   exact ⟨_,q,hd⟩
  ·exact ⟨o,keep c o (I.cne x c e) hc nch ho (I.freeC x c e),hd⟩
 refine ⟨I.ok,I.os,hg,⟨λb o e n hb hx=>?_,λb o e n hb hx=>?_,λb o e n hx=>?_,λb o e hx=>?_,λb xs e=>tups b xs (I.base.tups b xs e),λb o xs e=>frzs b o xs (I.base.frzs b o xs e),λb ps e=>?_⟩,?_,λx c e=>?_,?_,λx c e=>?_,λp hp=>?_,hok,I.len⟩
 ·exact keep b o (neL b o e) hb (neC b o e hx) (I.base.keep b o e n hb hx) (I.base.free b o e n hx)
 ·obtain ⟨sl,e1⟩:=I.base.slot b o e n hb hx
  obtain ⟨sl',e2⟩:=slot b _ (neL b o e) hb (neC b o e hx) e1 (I.base.free b o e n hx)
  exact ⟨sl',e2⟩
 ·obtain ⟨o',e1⟩:=I.base.there b o e hx
  exact free b o' (neC b o e hx) e1 (I.base.free b o e n hx)
 ·obtain ⟨o',e1⟩:=I.base.there b o e hx
  exact there b o' (neC b o e hx) e1
 ·obtain ⟨m1,e1⟩:=I.base.tbls b ps e
  obtain ⟨m2,e2⟩:=tbls b _ e1
  exact ⟨m1 ++ m2,by rw [e2,Array.append_assoc]⟩
 ·obtain ⟨m,hn,hl⟩:=I.loc
  refine ⟨m,ns m hn,λi x v e1 e2 e3=>?_⟩
  obtain ⟨u,r,l⟩:=hl i x v e1 e2 e3
  refine ⟨u,r,?_⟩
  rcases l with l | ⟨k,c,e,z⟩
  ·exact .inl l
  ·exact .inr ⟨k,c,e,cellK x c e _ z⟩
 ·obtain ⟨v,z⟩:=I.cell x c e
  exact ⟨v,cellK x c e v z⟩
 ·obtain ⟨m,⟨o,_,_,ho,_⟩,_⟩:=I.loc
  exact free _ o (λz=>(hch _ z).2.1 rfl) ho I.free
 ·obtain ⟨v,o,ho,hd⟩:=I.cell x c e
  exact free c o (λz=>(hch c z).2.2.1 x c e rfl) ho (I.freeC x c e)
 ·obtain ⟨e,n,ne,nf,d⟩:=I.pin p hp
  have nch:p.1 ∉ ch:=λz=>(hch p.1 z).2.2.2 p hp rfl
  exact ⟨keep p.1 p.2 ne nf nch e n,free p.1 p.2 nch e n,ne,nf,d⟩
theorem Inv.un {t':Nat} (I:Inv X pins σ H s) (u:Un X.fs [] H H' s.heap h') (hok:HOk X.prog X.w H' h'):Inv X pins σ H' { s with heap:=h',toks:=t' }:=by
 obtain ⟨m,⟨o,es,ep,ho,r⟩,_⟩:=id I.loc
 obtain ⟨sl,hL⟩:=u.any ho I.free (by simp)
 exact I.step (g':=s.gens) (d':=s.drawn) (ch:=[]) (λ_ z=>nomatch z) (λb o _ hb _ e n=>u.keep b o e n hb (by simp)) (λb o _ hb _ e n=>u.slot b o e n hb (by simp)) (λb o _ e n=>u.free b o e n (by simp)) (λb o _ e=>u.there b o e (by simp)) u.tups u.frzs u.tbls (λm' hm=>by
  obtain ⟨o',es',ep',ho',r'⟩:=hm
  rw [ho] at ho'; cases ho'
  exact ⟨_,es',ep',hL,r'⟩) hok I.bare
theorem Inv.call {g':Array GenState} {t':Nat} {d':Drawn} {ch:List Addr} (I:Inv X pins σ H s) (u:Un (frs X.stack) ch H H' s.heap h') (hok:HOk X.prog X.w H' h') (hg:AllBare g')
  (hch:∀ b ∈ ch,(b ∈ X.ex \/ X.s₀.heap.objs.size<=b)/\b ≠ X.env.locals/\(∀ x c,X.env.cells.lookup x=some c->c ≠ b)/\∀ p ∈ X.pn ++ pins,p.1 ≠ b):
  Inv X pins σ H' { s with heap:=h',gens:=g',drawn:=d',toks:=t' }:=by
 obtain ⟨m,⟨o,es,ep,ho,r⟩,_⟩:=id I.loc
 obtain ⟨sl,hL⟩:=u.any ho I.free λz=>(hch _ z).2.1 rfl
 exact I.step (ch:=ch) hch (λb o hL hb hc e n=>u.keep b o e n (λz=>(Jg.mp (I.stkSub b z)).elim hL hb) hc) (λb o _ _ hc e n=>u.any e n hc) (λb o hc e n=>u.free b o e n hc) (λb o hc e=>u.there b o e hc) u.tups u.frzs u.tbls (λm' hm=>by
  obtain ⟨o',es',ep',ho',r'⟩:=hm
  rw [ho] at ho'; cases ho'
  exact ⟨_,es',ep',hL,r'⟩) hok hg
theorem Inv.turned {t':Nat} {it:Addr} (I:Inv X pins σ H s) (k:∀ b o,b ≠ it->s.heap.get? b=some o->h'.get? b=some o) (hn:H it=none) (hL:it ≠ X.env.locals)
  (h1:it ∈ X.ex \/ X.s₀.heap.objs.size<=it) (h2:∀ x c,X.env.cells.lookup x=some c->c ≠ it) (h3:∀ p ∈ X.pn ++ pins,p.1 ≠ it):Inv X pins σ H { s with heap:=h',toks:=t' }:=by
 have nit:∀ b u,H b=some u->b ≠ it:=λb u e z=>by rw [z,hn] at e; cases e
 refine I.step (g':=s.gens) (d':=s.drawn) (ch:=[it]) (λb hb=>?_) (λb o _ _ hc e _=>k b o (λz=>hc (by simp [z])) e) (λb o _ _ hc e _=>⟨o.slots,k b o (λz=>hc (by simp [z])) e⟩) (λ_ _ _ _ n=>n)
  (λb o hc e=>⟨o,k b o (λz=>hc (by simp [z])) e⟩) (λ_ _ e=>e) (λ_ _ _ e=>e) (λb ps e=>⟨#[],by rw [e]; simp⟩) (λm hm=>?_) (λb u e=>?_) I.bare
 ·have e:b=it:=by simpa using hb
  subst e
  exact ⟨h1,hL,h2,h3⟩
 ·obtain ⟨o,es,ep,ho,r⟩:=hm
  exact ⟨o,es,ep,k _ o (Ne.symm hL) ho,r⟩
 ·refine (I.hok b u e).stay (λc v hc q=>k c v ?_ q) (λ_ q=>q) λ_ _ q=>q
  rcases hc with z | z
  ·rw [z]; exact nit b u e
  ·exact nit c _ z
theorem Inv.tok (I:Inv X pins σ H s) (t:Nat):Inv X pins σ H { s with toks:=t }:=I.un (h':=s.heap) (t':=t) Un.refl I.hok
theorem Inv.kept {t':Nat} (I:Inv X pins σ H s) (k:∀ b u,s.heap.get? b=some u->h'.get? b=some u):Inv X pins σ H { s with heap:=h',toks:=t' }:=I.un (Un.kept k) (I.hok.kept k)
theorem Inv.laid {t':Nat} (I:Inv X pins σ H s) (k:∀ b u,s.heap.get? b=some u->h'.get? b=some u) (hp:s.heap.objs.size<=a) (new:bL X.prog X.w (upd H a o) h' a o):
  Inv X pins σ (upd H a o) { s with heap:=h',toks:=t' }:=I.un (Un.laid k hp (I.hok.fresh hp)) (I.hok.laid k hp new)
theorem Inv.write {x e:Addr} {o:HO} {t':Nat} (I:Inv X pins σ H s) (mu:Mut (H x)) (he:e=x \/ H e=some (.own x)) (k:∀ b u,b ≠ e->s.heap.get? b=some u->h'.get? b=some u) (heo:∃ u,h'.get? e=some u)
  (new:bL X.prog X.w (upd H x o) h' x o):Inv X pins σ (upd H x o) { s with heap:=h',toks:=t' }:=I.un (Un.write mu he k heo) (I.hok.write mu he k heo new)
theorem Inv.pins_of {pins':List (Addr × Obj)} (I:Inv X pins σ H s) (h:∀ p ∈ pins',s.heap.get? p.1=some p.2/\H p.1=none/\p.1 ≠ X.env.locals/\p.1 ∉ X.fs/\∀ v,p.2.data ≠ .cell v):Inv X pins' σ H s:=
 ⟨I.ok,I.os,I.bare,I.base,I.loc,I.cell,I.free,I.freeC,λp hp=>(Jp.mp hp).elim (λz=>I.pin p (Yr _ z)) (h p),I.hok,I.len⟩
theorem qV {N:List Str} (hN:N.Nodup) (a:N[i]?=some x) (b:N[j]?=some x):i=j:=by
 obtain ⟨h1,e1⟩:=J9.mp a
 obtain ⟨h2,e2⟩:=J9.mp b
 exact (List.getElem_inj hN).mp (e1.trans e2.symm)
theorem wm {M:Model} {A:Around} {E:Value->Shared->Prop} {v:V} {Q:Unit->Shared->Prop} (I:Inv X pins σ H s) (hN:X.N.Nodup) (hi:X.N[i]?=some x) (hx:Loc X.env.scope x) (r:RelV v u)
  (h:∀ s',Inv X pins (σ.set i (some v)) H s'->(∃ a,Heap.SameBut a s.heap s'.heap/\(a=X.env.locals \/ X.env.cells.lookup x=some a))->Q () s') (hf:X.fn x=true \/ X.env.scope.names.lookup x=some .local):wpAny M A (storeName X.env x u) Q E s:=by
 obtain ⟨m,hn,hl⟩:=id I.loc
 have hcls:(X.env.scope.kind == .class || (X.env.scope.kind == .module && X.env.locals != X.env.globals))=false:=by rw [I.ok.kind]; rfl
 have hiσ:i < σ.length:=by rw [I.len]; exact (J9.mp hi).1
 have cne:=I.cne
 have tracked:∀ {a:Addr} {h':Heap},(∃ o,s.heap.get? a=some o/\H a=none)->Heap.SameBut a s.heap h'->HOk X.prog X.w H h':=λ{a h'} ha hs b ob e=>by
  obtain ⟨_,_,hfree⟩:=ha
  refine (I.hok b ob e).stay (λc w' hc q=>(hs.2 c ?_).trans q) (λ_ q=>q) λ_ _ q=>q
  rintro rfl
  rcases hc with rfl | hc
  ·rw [hfree] at e; cases e
  ·rw [hfree] at hc; cases hc
 rcases hx with hk | hk
 ·refine wpAny_storeName_local hk hn (λh' hn' hs=>?_) hcls
  obtain ⟨oL,_,_,hoL,_⟩:=id hn
  refine h _ ⟨I.ok,I.os,I.bare,⟨λb o e n hb hx=>?_,λb o e n hb hx=>?_,I.base.free,λb o e hx=>?_,I.base.tups,I.base.frzs,I.base.tbls⟩,⟨_,hn',λj y v' e1 e2 e3=>?_⟩,λy c e=>?_,I.free,I.freeC,λp hp=>?_,tracked ⟨oL,hoL,I.free⟩ hs,by simpa using I.len⟩ ⟨_,hs,.inl rfl⟩
  ·exact (hs.2 b (Jt (Y0 (Jk e) I.ok.above))).trans (I.base.keep b o e n hb hx)
  ·obtain ⟨sl,e1⟩:=I.base.slot b o e n hb hx
   exact ⟨sl,(hs.2 b (Jt (Y0 (Jk e) I.ok.above))).trans e1⟩
  ·obtain ⟨o',e1⟩:=I.base.there b o e hx
   exact ⟨o',(hs.2 b (Jt (Y0 (Jk e) I.ok.above))).trans e1⟩
  ·by_cases hj:j=i
   ·subst hj
    rw [hi] at e1; cases e1
    rw [Y6 hiσ] at e2
    cases e2
    exact ⟨u,r,.inl ⟨hk,by simp⟩⟩
   ·rw [Yk (Ne.symm hj)] at e2
    obtain ⟨u',r',q⟩:=hl j y v' e1 e2 e3
    refine ⟨u',r',?_⟩
    rcases q with ⟨k,e⟩ | ⟨k,c,e,z⟩
    ·refine .inl ⟨k,?_⟩
     have:y ≠ x:=λe=>hj (qV hN e1 (e ▸ hi))
     simp [this,e]
    ·exact .inr ⟨k,c,e,z.sameBut hs (cne y c e)⟩
  ·obtain ⟨w',z⟩:=I.cell y c e
   exact ⟨w',z.sameBut hs (cne y c e)⟩
  ·obtain ⟨e,n,ne,nf,d⟩:=I.pin p hp
   exact ⟨(hs.2 p.1 ne).trans e,n,ne,nf,d⟩
 ·have hfn:X.fn x=true:=by
   rcases hf with z | z
   ·exact z
   ·rw [z] at hk; cases hk
  obtain ⟨c,hc⟩:=I.ok.has x (.inl hk)
  obtain ⟨w',z⟩:=I.cell x c hc
  refine wpAny_storeName_cell I.ok.kind hk hc z (λh' hc' hs=>?_)
  obtain ⟨oc,hoc,hocd⟩:=id z
  refine h { s with heap:=h' } ⟨I.ok,I.os,I.bare,⟨λb o e n hb hx=>?_,λb o e n hb hx=>?_,I.base.free,λb o e hx=>?_,I.base.tups,I.base.frzs,I.base.tbls⟩,⟨m,hn.sameBut hs (Ne.symm (cne x c hc)),λj y v' e1 e2 e3=>?_⟩,λy c' e=>?_,I.free,I.freeC,λp hp=>?_,tracked ⟨oc,hoc,I.freeC x c hc⟩ hs,by simpa using I.len⟩ ⟨c,hs,.inr hc⟩
  ·exact (hs.2 b (Jt (Y0 (Jk e) (I.ok.cab x c hfn hc)))).trans (I.base.keep b o e n hb hx)
  ·obtain ⟨sl,e1⟩:=I.base.slot b o e n hb hx
   exact ⟨sl,(hs.2 b (Jt (Y0 (Jk e) (I.ok.cab x c hfn hc)))).trans e1⟩
  ·obtain ⟨o',e1⟩:=I.base.there b o e hx
   exact ⟨o',(hs.2 b (Jt (Y0 (Jk e) (I.ok.cab x c hfn hc)))).trans e1⟩
  ·by_cases hj:j=i
   ·subst hj
    rw [hi] at e1; cases e1
    rw [Y6 hiσ] at e2
    cases e2
    exact ⟨u,r,.inr ⟨.inl hk,c,hc,hc'⟩⟩
   ·rw [Yk (Ne.symm hj)] at e2
    obtain ⟨u',r',q⟩:=hl j y v' e1 e2 e3
    refine ⟨u',r',?_⟩
    rcases q with q | ⟨k,c',e,z'⟩
    ·exact .inl q
    ·refine .inr ⟨k,c',e,z'.sameBut hs ?_⟩
     rintro rfl
     exact hj (qV hN e1 (I.ok.inj _ _ _ e hc ▸ hi))
  ·by_cases hcc:c'=c
   ·subst hcc; exact ⟨_,hc'⟩
   ·obtain ⟨w2,z2⟩:=I.cell y c' e
    exact ⟨w2,z2.sameBut hs hcc⟩
  ·obtain ⟨e,n,ne,nf,d⟩:=I.pin p hp
   refine ⟨(hs.2 p.1 ?_).trans e,n,ne,nf,d⟩
   intro q
   rw [q,hoc] at e
   have q':oc=p.2:=Yd e
   exact d w' (by rw [<- q']; exact hocd)
theorem jG {M:Model} {A:Around} {E:Value->Shared->Prop} {v:V} {Q:Unit->Shared->Prop} (I:Inv X pins σ H s) (hN:X.N.Nodup) (hi:X.N[i]?=some x) (hx:Loc X.env.scope x) (r:RelV v u)
  (h:∀ s',Inv X pins (σ.set i (some v)) H s'->Q () s') (hf:X.fn x=true \/ X.env.scope.names.lookup x=some .local):wpAny M A (storeName X.env x u) Q E s:=
 wm I hN hi hx r (λs' I' _=>h s' I') hf
theorem Inv.call' {s':Shared} {ch:List Addr} (I:Inv X pins σ H s) (ho:s'.os=s.os) (u:Un (frs X.stack) ch H H' s.heap s'.heap) (hok:HOk X.prog X.w H' s'.heap) (hg:AllBare s'.gens)
  (hch:∀ b ∈ ch,(b ∈ X.ex \/ X.s₀.heap.objs.size<=b)/\b ≠ X.env.locals/\(∀ x c,X.env.cells.lookup x=some c->c ≠ b)/\∀ p ∈ X.pn ++ pins,p.1 ≠ b):Inv X pins σ H' s':=by
 obtain ⟨h',g',d',t',o'⟩:=s'
 have e:o'=s.os:=ho
 subst e
 exact I.call (g':=g') (t':=t') (d':=d') u hok hg hch
end
noncomputable abbrev XK:=Value->Option Addr->Hp->Prop
noncomputable abbrev St:=List (Option V)
variable {σ:St}
noncomputable abbrev VK:=V->Hp->Prop
noncomputable abbrev TE:=St->Hp->VK->Prop
noncomputable abbrev TT:=St->Hp->(Bool->Hp->Prop)->Prop
noncomputable abbrev TA:=St->Hp->(List V->Hp->Prop)->Prop
set_option genInjectivity false in
structure Ends where
 nx:St->Hp->Prop
 rt:VK
 bk:St->Hp->Prop:=λ_ _=>False
 ct:St->Hp->Prop:=λ_ _=>False
noncomputable abbrev TS:=Ends->St->Hp->Prop
def EP (X:Cx) (pins:List (Addr × Obj)) (σ:St) (Q:VK) (u:Value) (s':Shared):Prop:=∃ v H',Inv X pins σ H' s'/\RelV v u/\Q v H'
def TP (X:Cx) (pins:List (Addr × Obj)) (σ:St) (Q:Bool->Hp->Prop) (b:Bool) (s':Shared):Prop:=∃ H',Inv X pins σ H' s'/\Q b H'
def AP (X:Cx) (pins:List (Addr × Obj)) (σ:St) (Q:List V->Hp->Prop) (us:List Value) (s':Shared):Prop:=∃ vs H',Inv X pins σ H' s'/\Vals vs us/\Q vs H'
def SP (X:Cx) (pins:List (Addr × Obj)) (D:Ends) (f:Flow) (s':Shared):Prop:=
 match f with
 | .next=>∃ σ' H',Inv X pins σ' H' s'/\D.nx σ' H'
 | .brk=>∃ σ' H',Inv X pins σ' H' s'/\D.bk σ' H'
 | .cont=>∃ σ' H',Inv X pins σ' H' s'/\D.ct σ' H'
 | .ret u=>∃ v σ' H',Inv X pins σ' H' s'/\RelV v u/\D.rt v H'
def PE (X:Cx) (e:Expr) (t:TE):Prop:=
 ∀ (pins:List (Addr × Obj)) (s:Shared) (σ:St) (H:Hp) (Q:VK),Inv X pins σ H s->t σ H Q->wpAny (model X.prog X.w) X.A (eval e X.env) (EP X pins σ Q) X.xe s
def PT (X:Cx) (e:Expr) (t:TT):Prop:=
 ∀ (pins:List (Addr × Obj)) (s:Shared) (σ:St) (H:Hp) (Q:Bool->Hp->Prop),Inv X pins σ H s->t σ H Q->wpAny (model X.prog X.w) X.A (isTrue e X.env (eval e X.env)) (TP X pins σ Q) X.xe s
def PW (X:Cx) (e:Expr) (t:TT):Prop:=
 ∀ (whole:Sem Value) (pins:List (Addr × Obj)) (s:Shared) (σ:St) (H:Hp) (Q:Bool->Hp->Prop),Inv X pins σ H s->t σ H Q->wpAny (model X.prog X.w) X.A (isTrue e X.env whole) (TP X pins σ Q) X.xe s
theorem PW.pt {t:TT} (h:PW X e t):PT X e t:=h _
def PA (X:Cx) (es:List Expr) (t:TA):Prop:=
 ∀ (pos:Pos) (pins:List (Addr × Obj)) (s:Shared) (σ:St) (H:Hp) (Q:List V->Hp->Prop),Inv X pins σ H s->t σ H Q->wpAny (model X.prog X.w) X.A (spliced (backTo pos (starEach es X.env))) (AP X pins σ Q) X.xe s
def PS (X:Cx) (st:Stmt) (t:TS):Prop:=
 ∀ (pins:List (Addr × Obj)) (s:Shared) (σ:St) (H:Hp) (D:Ends),Inv X pins σ H s->t D σ H->wpAny (model X.prog X.w) X.A (exec st X.env) (SP X pins D) X.xe s
def PSs (X:Cx) (st:List Stmt) (t:TS):Prop:=
 ∀ (pins:List (Addr × Obj)) (s:Shared) (σ:St) (H:Hp) (D:Ends),Inv X pins σ H s->t D σ H->wpAny (model X.prog X.w) X.A (execs st X.env) (SP X pins D) X.xe s
theorem thn {α:Type} {t:Sem α} {Q Q':α->Shared->Prop} {M:Model} {E:Value->Shared->Prop} (h:wpAny M A t Q E s) (hQ:∀ a s,Q a s->Q' a s):wpAny M A t Q' E s:=Ql h hQ λ_ _ x=>x
section
variable {X:Cx}
noncomputable def Ec (i:Nat):TE:=λσ H Q=>∃ v,σ[i]?=some (some v)/\Q v H
noncomputable def tC (v:V):TE:=λ_ H Q=>Q v H
theorem Cg (hN:X.N[i]?=some x) (hv:Vis X.env.scope x) (hd:autoParam ((x == ("__debug__":Str))=false) Au.h2._auto_1) (hcd:autoParam ((x == ("__classdict__":Str))=false) Au.h2._auto_1):PE X (.Name x pos) (Ec i):=by
 intro pins s σ H Q I h
 obtain ⟨v,e,h⟩:=h
 obtain ⟨m,hn,hl⟩:=I.loc
 obtain ⟨u,r,l⟩:=hl i x v hN e hv
 have fin:EP X pins σ Q u s:=⟨v,H,I,r,h⟩
 rcases l with ⟨hk,hm⟩ | ⟨hk,c,hc,hcell⟩
 ·exact wpAny_Name (wpAny_loadName_local I.ok.kind hk hn hm fin) hd
 ·rcases hk with hk | hk
  ·exact wpAny_Name (wpAny_loadName_cell I.ok.kind hk hc hcell fin) hd
  ·exact wpAny_Name (wpAny_loadName_free I.ok.kind hk hc hcell fin hcd) hd
theorem Ci {i j pos}:PE X (.Constant (.int i) j pos) (tC (.int i)):=λ_ _ _ H _ I h=>wpAny_Constant_int ⟨.int i,H,I.tok _,⟨_,rfl⟩,h⟩
theorem Ed {b j pos}:PE X (.Constant (.bool b) j pos) (tC (.bl b)):=λ_ _ _ H _ I h=>Constant_bool ⟨.bl b,H,I,rfl,h⟩
theorem Cj {j pos}:PE X (.Constant .none j pos) (tC .non):=λ_ _ _ H _ I h=>Constant_none ⟨.non,H,I,rfl,h⟩
def Gl (X:Cx) (x:Str):Prop:=X.env.kindOf x=some .globalImplicit
theorem uM {E:Value->Shared->Prop} {pos:Pos} {Q:Value->Shared->Prop} (I:Inv X pins σ H s) (hg:Gl X x) (hm:X.mg x=some u) (h:Q u s)
  (hd:autoParam ((x == ("__debug__":Str))=false) Au.h2._auto_1):wpAny (model X.prog X.w) X.A (eval (.Name x pos) X.env) Q E s:=
 Calls.Name_function_global I.ok.kind hg (Calls.loadGlobal_global (by rw [I.ok.glob]; exact I.mod.glob.keeps I.bk) hm h) hd
theorem ig {E:Value->Shared->Prop} {pos:Pos} {Q:Value->Shared->Prop} (I:Inv X pins σ H s) (hg:Gl X x) (hm:X.mg x=none) (hv:bootBuiltins x=some u) (h:Q u s)
  (hn:autoParam (x ≠ "__name__") Au.h2._auto_1) (hd:autoParam ((x == ("__debug__":Str))=false) Au.h2._auto_1):wpAny (model X.prog X.w) X.A (eval (.Name x pos) X.env) Q E s:=by
 obtain ⟨mb,h1,h2⟩:=I.mod.blt
 exact Calls.Name_function_global I.ok.kind hg (Calls.loadGlobal_builtin (by rw [I.ok.glob]; exact I.mod.glob.keeps I.bk) hm (by rw [I.ok.blt]; exact h1.keeps I.bk) ((h2 x hn).trans hv) h) hd
theorem uN {v:V} (hg:Gl X x) (hm:X.mg x=some u) (r:RelV v u) (hd:autoParam ((x == ("__debug__":Str))=false) Au.h2._auto_1):PE X (.Name x pos) (tC v):=
 λ_ _ _ H _ I h=>uM I hg hm ⟨v,H,I,r,h⟩ hd
theorem zX {v:V} (hg:Gl X x) (hm:X.mg x=none) (hv:bootBuiltins x=some u) (r:RelV v u) (hn:autoParam (x ≠ "__name__") Au.h2._auto_1) (hd:autoParam ((x == ("__debug__":Str))=false) Au.h2._auto_1):PE X (.Name x pos) (tC v):=
 λ_ _ _ H _ I h=>ig I hg hm hv ⟨v,H,I,r,h⟩ hn hd
variable {a b:Expr} {ta tb:TE} {pos:Pos}
noncomputable def tB (t:TE):TT:=λσ H Q=>t σ H λx H1=>∃ c,x=.bl c/\Q c H1
theorem Ck {t:TE} (h:PE X e t) (he:autoParam (∀ whole,isTrue e X.env whole=(do let v <- whole; standAt e.pos; holding [v] (truthy v))) Au.h5._auto_1):PT X e (tB t):=by
 intro pins s σ H Q I hw
 refine isTrue_plain (thn (h pins s σ H _ I hw) λv s1 zq=>?_) (he _)
 obtain ⟨x,H1,I1,r1,q1⟩:=zq
 obtain ⟨d,rfl,q⟩:=q1
 cases r1
 exact Zo ⟨H1,I1,q⟩
variable {tA tB':TT} {rest:List Expr}
noncomputable def i8 (t u:TT):TT:=λσ H Q=>t σ H λc H1=>if c=true then u σ H1 Q else Q false H1
noncomputable def tOr (t u:TT):TT:=λσ H Q=>t σ H λc H1=>if c=true then Q true H1 else u σ H1 Q
noncomputable def ff (t:TT):TT:=λσ H Q=>t σ H λc H1=>Q (!c) H1
theorem zY (ha:PT X a tA):PW X (.BoolOp .And [a] pos) tA:=by
 intro wh pins s σ H Q I h
 refine isTrue_and (thn (ha pins s σ H Q I h) λc s1 e=>?_)
 cases c with
 | true=>exact isTrue_and_nil e
 | false=>exact e
theorem Cm (ha:PT X a tA):PW X (.BoolOp .Or [a] pos) tA:=by
 intro wh pins s σ H Q I h
 refine isTrue_or (thn (ha pins s σ H Q I h) λc s1 e=>?_)
 cases c with
 | false=>exact isTrue_or_nil e
 | true=>exact e
theorem Cn (ha:PT X a tA) (hb:PW X (.BoolOp .And (b :: rest) pos) tB'):PW X (.BoolOp .And (a :: b :: rest) pos) (i8 tA tB'):=by
 intro wh pins s σ H Q I h
 refine isTrue_and (thn (ha pins s σ H _ I h) λc s1 zq=>?_)
 obtain ⟨H1,I1,q1⟩:=zq
 cases c with
 | true=>exact hb wh pins s1 σ H1 Q I1 q1
 | false=>exact ⟨H1,I1,q1⟩
theorem Ee (ha:PT X a tA) (hb:PW X (.BoolOp .Or (b :: rest) pos) tB'):PW X (.BoolOp .Or (a :: b :: rest) pos) (tOr tA tB'):=by
 intro wh pins s σ H Q I h
 refine isTrue_or (thn (ha pins s σ H _ I h) λc s1 zq=>?_)
 obtain ⟨H1,I1,q1⟩:=zq
 cases c with
 | true=>exact ⟨H1,I1,q1⟩
 | false=>exact hb wh pins s1 σ H1 Q I1 q1
theorem Co (ha:PT X a tA):PT X (.UnaryOp .Not a pos) (ff tA):=by
 intro pins s σ H Q I h
 exact isTrue_not (ha pins s σ H (λc H1=>Q (!c) H1) I h)
noncomputable def Ef (ta tb:TE):TE:=λσ H Q=>ta σ H λx H1=>∃ c,x=.bl c/\if c=true then tb σ H1 Q else Q (.bl false) H1
noncomputable def Eg (ta:TE):TE:=λσ H Q=>ta σ H λx H1=>∃ c,x=.bl c/\Q (.bl (!c)) H1
theorem Cp {op} {t:TE} (h:PE X a t):PE X (.BoolOp op [a] pos) t:=λpins s σ H Q I hw=>BoolOp_one (h pins s σ H Q I hw)
theorem Cq (ha:PE X a ta) (hb:PE X (.BoolOp .And (b :: rest) pos) tb):PE X (.BoolOp .And (a :: b :: rest) pos) (Ef ta tb):=by
 intro pins s σ H Q I h
 refine BoolOp_and (thn (ha pins s σ H _ I h) λv s1 zq=>?_)
 obtain ⟨x,H1,I1,r1,q1⟩:=zq
 obtain ⟨c,rfl,q1⟩:=q1
 cases r1
 refine Zo ?_
 cases c with
 | true=>exact hb pins s1 σ H1 Q I1 q1
 | false=>exact ⟨.bl false,H1,I1,rfl,q1⟩
theorem Cr (ha:PE X a ta):PE X (.UnaryOp .Not a pos) (Eg ta):=by
 intro pins s σ H Q I h
 refine UnaryOp_ (thn (ha pins s σ H _ I h) λv s1 zq=>?_)
 obtain ⟨x,H1,I1,r1,q1⟩:=zq
 obtain ⟨c,rfl,q1⟩:=q1
 cases r1
 exact not_of (Zo ⟨.bl (!c),H1,I1,rfl,q1⟩)
noncomputable def tIf (t:TT) (ta tb:TE):TE:=λσ H Q=>t σ H λc H1=>if c=true then ta σ H1 Q else tb σ H1 Q
theorem xB (hc:PT X c tA) (ha:PE X a ta) (hb:PE X b tb):PE X (.IfExp c a b pos) (tIf tA ta tb):=by
 intro pins s σ H Q I h
 refine wpAny_IfExp (thn (hc pins s σ H _ I h) λd s1 zq=>?_)
 obtain ⟨H1,I1,q1⟩:=zq
 cases d with
 | true=>exact ha pins s1 σ H1 Q I1 q1
 | false=>exact hb pins s1 σ H1 Q I1 q1
end
def SqL (K:PySem.W.Frag) (H:Hp) (a:Addr) (xs:List V):Prop:=
 Rd H a (.lst xs) \/
  ∃ (o:Obj) (its:Array Value) (n:Nat),K.lookup a=some o/\o.cls=.type "list"/\o.dict=none/\o.data=.seq its n/\its.size<=sizeLine/\Vals xs its.toList
def SqT (K:PySem.W.Frag) (H:Hp) (a:Addr) (xs:List V):Prop:=
 Rd H a (.tup xs) \/
  ∃ (o:Obj) (its:Array Value) (n:Nat),K.lookup a=some o/\o.cls=.type "tuple"/\o.data=.seq its n/\its.size<=sizeLine/\Vals xs its.toList
noncomputable def Fm:Value->Option V
 | .none=>some .non
 | .bool b=>some (.bl b)
 | .int i _=>some (.int i)
 | .str x _=>some (.str x)
 | .bytes b _=>some (.byt b)
 | .float b _=>some (.flt b)
 | .ref a=>some (.ref a)
 | .type n=>some (.ty n)
 | _=>none
theorem RelV.abs {x:V} (r:RelV x u):Fm u=some x:=by
 cases x with
 | non=>cases r; rfl
 | bl _=>cases r; rfl
 | int _=>obtain ⟨t,rfl⟩:=r; rfl
 | str _=>obtain ⟨t,rfl⟩:=r; rfl
 | byt _=>obtain ⟨t,rfl⟩:=r; rfl
 | flt _=>obtain ⟨t,rfl⟩:=r; rfl
 | ref _=>cases r; rfl
 | ty _=>cases r; rfl
theorem RelV.inj {x y:V} (r:RelV x u) (q:RelV y u):x=y:=Yd (r.abs.symm.trans q.abs)
theorem Vals.inj:∀ {xs ys:List V} {us:List Value},Vals xs us->Vals ys us->xs=ys
 | _,_,_,.nil,.nil=>rfl
 | _,_,_,.cons r t,.cons r' t'=>by rw [r.inj r',Vals.inj t t']
section
variable {X:Cx} {pins:List (Addr × Obj)} {σ:St} {H:Hp} {s:Shared} {a:Addr} {xs ys:List V}
theorem SqL.of {K:PySem.W.Frag} (h:H a=some (.lst xs)):SqL K H a xs:=.inl (.inl h)
theorem SqT.of {K:PySem.W.Frag} (h:H a=some (.tup xs)):SqT K H a xs:=.inl (.inl h)
theorem Inv.list (I:Inv X pins σ H s) (h:SqL X.K H a xs):∃ its:List Value,Vals xs its/\PlainL s.heap a its.toArray/\xs.length<=sizeLine:=by
 rcases h with h | ⟨o,its,n,hk,hc,hd,hs,hz,r⟩
 ·obtain ⟨z,its,n,r,e⟩:=h.ok I.hok
  exact ⟨its,r,⟨_,n,e,rfl,rfl,rfl⟩,z⟩
 ·refine ⟨its.toList,r,⟨o,n,I.kIn a o hk,hc,hd,by simpa using hs⟩,?_⟩
  have e:=r.length
  simp only [Y1] at e
  omega
theorem Inv.tuple (I:Inv X pins σ H s) (h:SqT X.K H a xs):∃ its:List Value,Vals xs its/\IsTup s.heap a its.toArray/\xs.length<=sizeLine:=by
 rcases h with h | ⟨o,its,n,hk,hc,hs,hz,r⟩
 ·obtain ⟨z,its,r,p⟩:=h.ok I.hok
  exact ⟨its,r,p,z⟩
 ·refine ⟨its.toList,r,⟨o,I.kIn a o hk,hc,n,by simpa using hs⟩,?_⟩
  have e:=r.length
  simp only [Y1] at e
  omega
theorem Inv.list_inj (I:Inv X pins σ H s) (h:SqL X.K H a xs) (h':SqL X.K H a ys):xs=ys:=by
 obtain ⟨its,r,⟨o,n,e,_,_,d⟩,_⟩:=I.list h
 obtain ⟨its',r',⟨o',n',e',_,_,d'⟩,_⟩:=I.list h'
 rw [e] at e'; cases e'
 rw [d] at d'
 injection d' with d1 _
 have:its=its':=by simpa using Q7 Array.toList d1
 subst this
 exact r.inj r'
theorem Inv.tuple_inj (I:Inv X pins σ H s) (h:SqT X.K H a xs) (h':SqT X.K H a ys):xs=ys:=by
 obtain ⟨its,r,⟨o,e,_,n,d⟩,_⟩:=I.tuple h
 obtain ⟨its',r',⟨o',e',_,n',d'⟩,_⟩:=I.tuple h'
 rw [e] at e'; cases e'
 rw [d] at d'
 injection d' with d1 _
 have:its=its':=by simpa using Q7 Array.toList d1
 subst this
 exact r.inj r'
end
noncomputable abbrev Cx.wish (X:Cx) (E:Value->Shared->Prop):Cx:={ X with xe:=E }
noncomputable abbrev Cx.nox (X:Cx):Cx:=X.wish λ_ _=>False
theorem Cx.Ok.wish (ok:X.Ok) (E:Value->Shared->Prop):(X.wish E).Ok:=
 ⟨ok.mod,ok.kind,ok.glob,ok.blt,ok.above,ok.inj,ok.has,ok.cab,ok.hd,ok.frames,ok.stk,ok.exf,ok.bs,ok.bsz,ok.noex,ok.exfs,ok.funs,ok.frf⟩
theorem Cx.Ok.unwish {E:Value->Shared->Prop} (ok:(X.wish E).Ok):X.Ok:=
 ⟨ok.mod,ok.kind,ok.glob,ok.blt,ok.above,ok.inj,ok.has,ok.cab,ok.hd,ok.frames,ok.stk,ok.exf,ok.bs,ok.bsz,ok.noex,ok.exfs,ok.funs,ok.frf⟩
section
variable {X:Cx} {pins:List (Addr × Obj)} {σ:St} {H:Hp} {s:Shared} {E:Value->Shared->Prop}
theorem Inv.wish (I:Inv X pins σ H s) (E:Value->Shared->Prop):Inv (X.wish E) pins σ H s:=⟨I.ok.wish E,I.os,I.bare,I.base,I.loc,I.cell,I.free,I.freeC,I.pin,I.hok,I.len⟩
theorem Inv.unwish (I:Inv (X.wish E) pins σ H s):Inv X pins σ H s:=⟨I.ok.unwish,I.os,I.bare,I.base,I.loc,I.cell,I.free,I.freeC,I.pin,I.hok,I.len⟩
theorem SP.unwish {D:Ends} {f:Flow} {s':Shared} (h:SP (X.wish E) pins D f s'):SP X pins D f s':=by
 cases f with
 | next=>obtain ⟨σ',H',I,q⟩:=h; exact ⟨σ',H',I.unwish,q⟩
 | brk=>obtain ⟨σ',H',I,q⟩:=h; exact ⟨σ',H',I.unwish,q⟩
 | cont=>obtain ⟨σ',H',I,q⟩:=h; exact ⟨σ',H',I.unwish,q⟩
 | ret u=>obtain ⟨v,σ',H',I,r,q⟩:=h; exact ⟨v,σ',H',I.unwish,r,q⟩
theorem PSs.nox {st:List Stmt} {t:TS} (h:PSs X.nox st t):PSs X st t:=λpins s σ H D I hw=>
 Ql (h pins s σ H D (I.wish _) hw) (λ_ _ q=>q.unwish) λ_ _ z=>False.elim z
end
section
variable {X:Cx} {st:Stmt} {rest:List Stmt} {t u:TS} {e:Expr} {te:TE} {pos:Pos}
noncomputable def Eh:TS:=λD σ H=>D.nx σ H
noncomputable def Fn (t u:TS):TS:=λD σ H=>t { D with nx:=u D } σ H
theorem zZ:PSs X [] Eh:=λ_ _ σ H _ I h=>Vk ⟨σ,H,I,h⟩
theorem xD (h1:PS X st t) (h2:PSs X rest u):PSs X (st :: rest) (Fn t u):=by
 intro pins s σ H D I h
 refine wpAny_execs_cons (thn (h1 pins s σ H { D with nx:=u D } I h) λf s1 q=>?_)
 cases f with
 | next=>
  obtain ⟨σ',H',I',q⟩:=q
  exact h2 pins s1 σ' H' D I' q
 | ret v=>exact q
 | brk=>exact q
 | cont=>exact q
theorem z7 (h1:PS X st t):PSs X [st] t:=by
 intro pins s σ H D I h
 refine wpAny_execs_cons (thn (h1 pins s σ H D I h) λf s1 q=>?_)
 cases f with
 | next=>exact Vk q
 | ret v=>exact q
 | brk=>exact q
 | cont=>exact q
theorem Inv.quiet (I:Inv X pins σ H s):interactive X.env=false:=by simp [interactive,I.ok.kind]
noncomputable def Ei (te:TE):TS:=λD σ H=>te σ H λ_ H1=>D.nx σ H1
theorem z8 (he:PE X e te) (hs:autoParam (swapsWith e none pos.line X.env=pure false) Au.h1._auto_1):PS X (.Expr e pos) (Ei te):=by
 intro pins s σ H D I h
 exact wpAny_Expr_any (thn (he pins s σ H _ I h) λv s1 zq=>ex5 zq λx H1 I1 r1 q1=>⟨σ,H1,I1,q1⟩) I.quiet hs
noncomputable def Fo (te:TE):TS:=λD σ H=>te σ H D.rt
theorem Cs (he:PE X e te):PS X (.Return (some e) pos) (Fo te):=by
 intro pins s σ H D I h
 exact wpAny_Return_some (thn (he pins s σ H _ I h) λv s1 zq=>ex5 zq λx H1 I1 r1 q1=>⟨x,σ,H1,I1,r1,q1⟩)
noncomputable def Fp (c:TT) (t u:TS):TS:=λD σ H=>c σ H λb H1=>if b=true then t D σ H1 else u D σ H1
theorem Ej {a b:List Stmt} {tc:TT} (hc:PT X c tc) (ha:PSs X a t) (hb:PSs X b u):PS X (.If c a b pos) (Fp tc t u):=by
 intro pins s σ H D I h
 refine wpAny_If (thn (hc pins s σ H _ I h) λd s1 zq=>?_)
 obtain ⟨H1,I1,q1⟩:=zq
 cases d with
 | true=>exact ha pins s1 σ H1 D I1 q1
 | false=>exact hb pins s1 σ H1 D I1 q1
noncomputable def Ct:TS:=λ_ _ _=>False
theorem xE:PS X st Ct:=λ_ _ _ _ _ _ h=>h.elim
end
noncomputable abbrev TG:=V->St->Hp->(St->Hp->Prop)->Prop
noncomputable abbrev TGs:=List V->St->Hp->(St->Hp->Prop)->Prop
def PG (X:Cx) (target:Expr) (t:TG):Prop:=
 ∀ (pins:List (Addr × Obj)) (s:Shared) (σ:St) (H:Hp) (v:V) (u:Value) (Q:St->Hp->Prop),Inv X pins σ H s->RelV v u->t v σ H Q->
  wpAny (model X.prog X.w) X.A (assign target X.env u) (λ_ s'=>∃ σ' H',Inv X pins σ' H' s'/\Q σ' H') X.xe s
def PGs (X:Cx) (ts:List Expr) (t:TGs):Prop:=
 ∀ (pins:List (Addr × Obj)) (s:Shared) (σ:St) (H:Hp) (vs:List V) (us:List Value) (Q:St->Hp->Prop),Inv X pins σ H s->Vals vs us->t vs σ H Q->
  wpAny (model X.prog X.w) X.A (assignInOrder ((assignEach ts X.env).map (·.2)) us) (λ_ s'=>∃ σ' H',Inv X pins σ' H' s'/\Q σ' H') X.xe s
noncomputable abbrev z9:=V->V->V->Hp->(Hp->Prop)->Prop
def oY (X:Cx) (t:z9):Prop:=
 ∀ (pins:List (Addr × Obj)) (s:Shared) (σ:St) (H:Hp) (o i v:V) (ov iv u:Value) (Q:Hp->Prop),Inv X pins σ H s->RelV o ov->RelV i iv->RelV v u->t o i v H Q->
  wpAny (model X.prog X.w) X.A (setItem ov iv u) (λ_ s'=>∃ H',Inv X pins σ H' s'/\Q H') X.xe s
section
variable {X:Cx} {pos:Pos}
noncomputable def BS (i:Nat):TG:=λv σ H Q=>Q (σ.set i (some v)) H
theorem Aa (hN:X.N.Nodup) (hi:X.N[i]?=some x) (hx:Loc X.env.scope x) (hf:X.fn x=true \/ X.env.scope.names.lookup x=some .local):PG X (.Name x pos) (BS i):=by
 intro pins s σ H v u Q I r h
 exact wpAny_assign_Name (jG I hN hi hx r (λs' I'=>⟨_,H,I',h⟩) hf)
noncomputable def Fq:TGs:=λvs σ H Q=>vs=[]/\Q σ H
noncomputable def Ek (t:TG) (u:TGs):TGs:=λvs σ H Q=>∃ v r,vs=v :: r/\t v σ H λσ' H'=>u r σ' H' Q
theorem Ab:PGs X [] Fq:=by
 intro pins s σ H vs us Q I r h
 obtain ⟨e,h⟩:=h
 subst e
 cases r
 exact assignInOrder_nil ⟨σ,H,I,h⟩
theorem xF {es:List Expr} {t:TG} {u:TGs} (h1:PG X e t) (h2:PGs X es u)
  (hs:autoParam ((assignEach (e :: es) X.env).map (·.2)=assign e X.env :: (assignEach es X.env).map (·.2)) Au.h1._auto_1):PGs X (e :: es) (Ek t u):=by
 intro pins s σ H vs us Q I r h
 obtain ⟨v,vr,e1,h⟩:=h
 subst e1
 cases r with
 | cons r rr=>
  rw [hs]
  refine assignInOrder_cons (thn (h1 pins s σ H _ _ _ I r h) λ_ s1 zq=>?_)
  obtain ⟨σ1,H1,I1,q1⟩:=zq
  exact h2 pins s1 σ1 H1 _ _ Q I1 rr q1
noncomputable def Fs (K:PySem.W.Frag) (n:Nat) (t:TGs):TG:=λv σ H Q=>∃ a xs,v=.ref a/\SqT K H a xs/\xs.length=n/\t xs σ H Q
theorem Cu {es:List Expr} {k:Nat} {t:TGs} {n:Nat} (hc:X.calm=true) (h:PGs X es t)
  (hn:autoParam ((assignEach es X.env).length=n) Au.h1._auto_1) (hst:autoParam ((assignEach es X.env).findIdx? (·.1)=none) Au.h1._auto_1):PG X (.Tuple es k pos) (Fs X.K n t):=by
 intro pins s σ H v u Q I r hw
 obtain ⟨a,xs,e1,hq,hl,hw⟩:=hw
 subst e1
 cases r
 obtain ⟨its,rv,ht,hz⟩:=I.tuple hq
 refine assign_Tuple_tuple (I.ok.hd hc) ht (by simp [hn,<- hl,rv.length]) hst λh' hx=>?_
 have I1:Inv X pins σ H { s with heap:=h' }:=I.kept (t':=s.toks) λb o e=>hx b o (Jt (Jk e)) e
 exact h pins _ σ H xs _ Q I1 (by simpa using rv) hw
noncomputable def Ft (to ti:TE) (t:z9):TG:=λv σ H Q=>to σ H λo H1=>ti σ H1 λi H2=>t o i v H2 λH3=>Q σ H3
theorem Cv {o i:Expr} {to ti:TE} {t:z9} (ho:PE X o to) (hi:PE X i ti) (hs:oY X t)
  (ha:autoParam (∀ v,assign (.Subscript o i pos) X.env v=(do
   let ov <- holding [v] (eval o X.env)
   let iv <- holding [v,ov] (eval i X.env)
   standAt pos
   holding [v,ov,iv] (setItem ov iv v)
   release [v,ov,iv] [])) Au.h5._auto_1):PG X (.Subscript o i pos) (Ft to ti t):=by
 intro pins s σ H v u Q I r h
 rw [ha]
 refine J6 (Zc (thn (ho pins s σ H _ I h) λov s1 zq=>?_))
 obtain ⟨x,H1,I1,r1,q1⟩:=zq
 refine J6 (Zc (thn (hi pins s1 σ H1 _ I1 q1) λiv s2 zq=>?_))
 obtain ⟨y,H2,I2,r2,q2⟩:=zq
 refine J6 (wpAny_standAt (J6 (Zc (thn (hs pins s2 σ H2 x y v ov iv u _ I2 r1 r2 r q2) λ_ s3 zq=>?_))))
 obtain ⟨H3,I3,q3⟩:=zq
 exact wpAny_release ⟨σ,H3,I3,q3⟩
noncomputable def El (te:TE) (g:TG):TS:=λD σ H=>te σ H λx H1=>g x σ H1 D.nx
theorem xG {te:TE} {g:TG} (he:PE X e te) (hg:PG X tg g) (hs:autoParam (swapsWithSole [tg] e pos.line X.env=pure false) Au.h1._auto_1) (hw:autoParam (swappedStores [tg] e X.env=pure none) Au.h1._auto_1)
  (h1:autoParam ((assignEach [tg] X.env).map (·.2)=[assign tg X.env]) Au.h1._auto_1):PS X (.Assign [tg] e pos) (El te g):=by
 intro pins s σ H D I h
 refine wpAny_Assign_stores (thn (he pins s σ H _ I h) λv s1 zq=>?_) hs hw
 obtain ⟨x,H1,I1,r1,q1⟩:=zq
 rw [h1]
 exact thn (hg pins s1 σ H1 x v _ I1 r1 q1) λ_ s2 q=>q
theorem Cw {te:TE} {pos':Pos} (hN:X.N.Nodup) (hi:X.N[i]?=some x) (hx:Loc X.env.scope x) (he:PE X e te) (hs:autoParam (swapsWith e (some (.Name x pos')) pos.line X.env=pure false) Au.h1._auto_1) (hf:X.fn x=true \/ X.env.scope.names.lookup x=some .local):
  PS X (.Assign [.Name x pos'] e pos) (El te (BS i)):=by
 intro pins s σ H D I h
 refine wpAny_Assign_Name (thn (he pins s σ H _ I h) λv s1 zq=>?_) hs
 obtain ⟨y,H1,I1,r1,q1⟩:=zq
 exact jG I1 hN hi hx r1 (λs2 I2=>⟨_,H1,I2,q1⟩) hf
noncomputable def Fu (i j:Nat) (ta:TA):TS:=λD σ H=>ta σ H λvs H1=>∃ v w,vs=[v,w]/\D.nx ((σ.set i (some v)).set j (some w)) H1
theorem Cy {y:Str} {a b:Expr} {ta:TA} {px py pt:Pos} {kt k2 pt2} (hc:X.calm=true) (hN:X.N.Nodup) (hi:X.N[i]?=some x) (hj:X.N[j]?=some y) (hij:i ≠ j)
  (hx:X.env.scope.names.lookup x=some .local) (hy:X.env.scope.names.lookup y=some .local) (ha:PA X [a,b] ta)
  (hw:swappedStores [.Tuple [.Name x px,.Name y py] kt pt] (.Tuple [a,b] k2 pt2) X.env=pure (some [x,y]))
  (hs:autoParam (swapsWithSole [.Tuple [.Name x px,.Name y py] kt pt] (.Tuple [a,b] k2 pt2) pos.line X.env=pure false) Au.h1._auto_1):
  PS X (.Assign [.Tuple [.Name x px,.Name y py] kt pt] (.Tuple [a,b] k2 pt2) pos) (Fu i j ta):=by
 intro pins s σ H D I h
 rw [exec_Assign_arm]
 refine J6 (wpAny_standAt ?_)
 rw [hs]
 refine J6 (Jd ?_)
 rw [Jc (by decide)]
 refine J6 (Tuple_ (thn (ha _ pins s σ H _ I h) λus s1 zq=>?_))
 obtain ⟨vs,H1,I1,r1,q1⟩:=zq
 obtain ⟨v,w,e1,q1⟩:=q1
 subst e1
 obtain ⟨u1,u2,rfl,rv,rw'⟩:∃ u1 u2,us=[u1,u2]/\RelV v u1/\RelV w u2:=by
  cases r1 with
  | cons p q=>
   cases q with
   | cons p' q'=>
    cases q'
    exact ⟨_,_,rfl,p,p'⟩
 refine Ym ?_ (by show 2<=sizeLine; decide)
 have I2:Inv X pins σ H1 { s1 with heap:=s1.heap.push { cls:=.type "tuple",data:=.seq [u1,u2].toArray } }:=I1.kept (t':=s1.toks) λb o e=>J7 _ e
 rw [hw]
 refine J6 (Jd ?_)
 show wpAny (model X.prog X.w) X.A (do rule "assign.swapped-stores"; let items <- unpackItems (.ref s1.heap.objs.size) 2 none; assignInOrder [λv=>bindName X.env y v,λv=>bindName X.env x v] items.reverse; pure Flow.next) _ _ _
 refine J6 (Z0 (J6 (unpackItems_tuple (items:=#[u1,u2]) (I.ok.hd hc) (IsTup.new s1.heap _) λh' hx'=>?_)))
 have I3:=I2.kept (h':=h') (t':=s1.toks) λb o e=>hx' b o (Jt (Jk e)) e
 show wpAny _ _ (assignInOrder [λv=>bindName X.env y v,λv=>bindName X.env x v] [u2,u1] >>= λ_=>pure Flow.next) _ _ _
 refine J6 (assignInOrder_cons (wpAny_bindName (jG I3 hN hj (.inl hy) rw' (λs2 I4=>?_) (.inr hy))))
 refine assignInOrder_cons (wpAny_bindName (jG I4 hN hi (.inl hx) rv (λs3 I5=>assignInOrder_nil (Jd ?_)) (.inr hx)))
 rw [List.set_comm _ _ (Ne.symm hij)] at I5
 exact ⟨_,H1,I5,q1⟩
end
section
variable {X:Cx} {pos:Pos}
noncomputable def Cz (c:TT) (tb:TS):TS:=λD σ H=>∃ W:Nat->St->Hp->Prop,(∃ m,W m σ H)/\∀ m σ H,W m σ H->
 c σ H λb H1=>if b=true then ∃ N:St->Hp->Prop,(∀ σ' H',N σ' H'->∃ m',m' < m/\W m' σ' H')/\tb { D with nx:=N,ct:=N,bk:=D.nx } σ H1 else D.nx σ H1
theorem xH {body:List Stmt} {tc:TT} {tb:TS} (hp:PassesOwn (model X.prog X.w) X.A X.env X.xe) (hc:PT X c tc) (hb:PSs X body tb):PS X (.While c body [] pos) (Cz tc tb):=by
 intro pins s σ H D I h
 obtain ⟨W,⟨m0,w0⟩,turn⟩:=h
 refine wpAny_While (codeAny_whileLoop (λn s'=>∃ σ' H',Inv X pins σ' H' s'/\W n σ' H') ?_ m0 ⟨σ,H,I,w0⟩)
 rintro n s1 ⟨σ1,H1,I1,w1⟩
 refine Qq hp (thn (hc pins s1 σ1 H1 _ I1 (turn n σ1 H1 w1)) λb s2 zq=>?_)
 obtain ⟨H2,I2,q2⟩:=zq
 cases b with
 | true=>
  obtain ⟨N,hN,q2⟩:=q2
  rw [J8 rfl]
  refine Qq hp (thn (hb pins s2 σ1 H2 _ I2 q2) λf s3 q3=>?_)
  cases f with
  | next=>
   obtain ⟨σ3,H3,I3,n3⟩:=q3
   obtain ⟨m',hm,w3⟩:=hN σ3 H3 n3
   exact ⟨m',hm,σ3,H3,I3,w3⟩
  | cont=>
   obtain ⟨σ3,H3,I3,n3⟩:=q3
   obtain ⟨m',hm,w3⟩:=hN σ3 H3 n3
   exact ⟨m',hm,σ3,H3,I3,w3⟩
  | brk=>exact q3
  | ret v=>exact q3
 | false=>
  rw [Jc Jl]
  exact Vk ⟨σ1,H2,I2,q2⟩
end
set_option genInjectivity false in
structure It where
 go:Nat->Hp->Prop
 yld:Nat->Hp->V->Hp->Prop
 stop:Nat->Hp->Prop
def FpOk (X:Cx) (pins:List (Addr × Obj)) (H:Hp) (b:Addr):Prop:=
 H b=none/\b ≠ X.env.locals/\b ∉ X.fs/\(b ∈ X.ex \/ X.s₀.heap.objs.size<=b)/\(∀ x c,X.env.cells.lookup x=some c->c ≠ b)/\∀ p ∈ X.pn ++ pins,p.1 ≠ b
theorem Inv.fpOk {H':Hp} (I:Inv X pins σ H s) (hb:s.heap.objs.size<=b) (hn:H' b=none):FpOk X pins H' b:=by
 refine ⟨hn,Qe (Y0 I.lt hb),I.nofs hb,.inr (Y9 I.sz hb),λx c e z=>?_,λp hp z=>?_⟩
 ·obtain ⟨v,q⟩:=I.cell x c e
  exact absurd (Y0 q.lt (by rw [z]; exact hb)) (Q4 _)
 ·exact absurd (Y0 (Jk (I.pin p hp).1) (by rw [z]; exact hb)) (Q4 _)
def QtH (X:Cx):Prop:=X.A.handled=none \/ ∃ a o u,X.A.handled=some (.ref a)/\X.H₀ a=some (.frz o u)/\ZO o
def Cd (qb:Bool) (X:Cx):Prop:=X.calm=true \/ (qb=true/\QtH X)
theorem Cd.cm (h:Cd false X):X.calm=true:=h.elim id λz=>nomatch z.1
theorem Inv.qt {σ:List (Option V)} (I:Inv X pins σ H s) (h:Cd qb X):X.A.handled=none \/ ∃ a,X.A.handled=some (.ref a)/\s.heap.Zat a:=by
 rcases h with h | ⟨_,h | ⟨a,o,u,e,q,z⟩⟩
 ·exact .inl (I.ok.hd h)
 ·exact .inl h
 ·exact .inr ⟨a,e,o,(I.hok a _ (I.base.frzs a o u q)).1,z⟩
structure Turn (qb:Bool) (P:Program) (w:World) (K:PySem.W.Frag) (tg:Expr) (J:It) (fp:List Addr) (it:Addr) (tn:Nat->Heap->Prop):Prop where
 mem:it ∈ fp
 obj:∀ i h,tn i h->∀ b ∈ fp,∃ o,h.get? b=some o/\∀ v,o.data ≠ .cell v
 keep:∀ i h h',tn i h->(∀ b ∈ fp,∀ o,h.get? b=some o->h'.get? b=some o)->tn i h'
 item:∀ (X:Cx),X.prog=P->X.w=w->X.K=K->Cd qb X->∀ (i:Nat) (pins:List (Addr × Obj)) (s:Shared) (σ:St) (H:Hp) (E:Value->Shared->Prop),Inv X pins σ H s->(∀ b ∈ fp,FpOk X pins H b)->tn i s.heap->J.go i H->
  wpAny (model P w) X.A (pyNext (.ref it)) (λr s1=>∃ u,r=some u/\
   wpAny (model P w) X.A (letOwnedTupleGo tg (.ref it) u) (λ_ s2=>∃ x H',Inv X pins σ H' s2/\RelV x u/\J.yld i H x H'/\tn (i + 1) s2.heap/\∀ b ∈ fp,H' b=none) E s1) E s
 done:∀ (X:Cx),X.prog=P->X.w=w->X.K=K->Cd qb X->∀ (i:Nat) (pins:List (Addr × Obj)) (s:Shared) (σ:St) (H:Hp) (E:Value->Shared->Prop),Inv X pins σ H s->(∀ b ∈ fp,FpOk X pins H b)->tn i s.heap->J.stop i H->
  wpAny (model P w) X.A (pyNext (.ref it)) (λr s1=>r=none/\Inv X pins σ H s1) E s
 self:∀ (A:Around) (i:Nat) (s:Shared) (Q:Value->Shared->Prop) (E:Value->Shared->Prop),tn i s.heap->Q (.ref it) s->wpAny (model P w) A (pyIter (.ref it)) Q E s
noncomputable abbrev TI:=St->Hp->(It->Hp->Prop)->Prop
def CA (qb:Bool) (X:Cx) (pins:List (Addr × Obj)) (σ:St) (tg:Expr) (R:It->Hp->Prop) (itv:Value) (s2:Shared):Prop:=
 ∃ (it:Addr) (fp:List Addr) (tn:Nat->Heap->Prop) (J:It) (H':Hp),itv=.ref it/\Inv X pins σ H' s2/\Turn qb X.prog X.w X.K tg J fp it tn/\tn 0 s2.heap/\(∀ b ∈ fp,FpOk X pins H' b)/\R J H'
def PIb (qb:Bool) (X:Cx) (tg iter:Expr) (wi:TI):Prop:=
 ∀ (pins:List (Addr × Obj)) (s:Shared) (σ:St) (H:Hp) (R:It->Hp->Prop),Inv X pins σ H s->wi σ H R->
  wpAny (model X.prog X.w) X.A (eval iter X.env) (λv s1=>wpAny (model X.prog X.w) X.A (pyIter v) (CA qb X pins σ tg R) X.xe s1) X.xe s
noncomputable abbrev PIE:=CA false
noncomputable abbrev PI:=PIb false
theorem xI {M:Model} {A:Around} {E:Value->Shared->Prop} {tg:Expr} {it:Addr} {u:Value} {o:Obj} {n:String} {vs:Array Value} {Q:Unit->Shared->Prop} (ho:s.heap.get? it=some o) (hc:o.cls=.type n) (hd:o.data=.fields vs)
    (hn:["enumerate","zip","dict_itemiterator","dict_reverseitemiterator","odict_iterator","itertools.zip_longest","itertools.pairwise"].contains n=false) (hQ:Q () s):wpAny M A (letOwnedTupleGo tg (.ref it) u) Q E s:=by
  unfold letOwnedTupleGo
  cases tg <;> first
    | exact Jd hQ
    | (cases u <;> first
        | exact Jd hQ
        | (refine J6 (wpAny_load ho ?_)
           rw [hc,hd]
           show wpAny M A (if (["enumerate","zip","dict_itemiterator","dict_reverseitemiterator","odict_iterator","itertools.zip_longest","itertools.pairwise"].contains n && vs[0]? == some (rawInt _))=true then _ else _) Q E s
           rw [Jc (by intro h; rw [hn,Bool.false_and] at h; cases h)]
           exact Jd hQ))
noncomputable def Itl (K:PySem.W.Frag) (a:Addr):It:=
 ⟨λi H=>∃ xs x,SqL K H a xs/\xs[i]?=some x,λi H x H'=>H'=H/\∀ xs,SqL K H a xs->xs[i]?=some x,λi H=>∃ xs,SqL K H a xs/\xs.length<=i⟩
noncomputable def Itt (K:PySem.W.Frag) (a:Addr):It:=
 ⟨λi H=>∃ xs x,SqT K H a xs/\xs[i]?=some x,λi H x H'=>H'=H/\∀ xs,SqT K H a xs->xs[i]?=some x,λi H=>∃ xs,SqT K H a xs/\xs.length<=i⟩
noncomputable def Itr (lo:Int) (n:Nat):It:=⟨λi _=>i < n,λi H x H'=>H'=H/\x=.int (lo + i),λi _=>n<=i⟩
theorem nQ {K:PySem.W.Frag} (a it:Addr):Turn false P w K tg (Itl K a) [it] it (λi h=>h.IsListIter it a i) where
 mem:=by simp
 obj:=λi h st b hb=>by
  have e:b=it:=by simpa using hb
  subst e
  obtain ⟨o,e,c,d⟩:=st
  exact ⟨o,e,λv z=>by rw [d] at z; cases z⟩
 keep:=λi h h' st k=>st.at λo e=>k it (by simp) o e
 item:=by
  intro X hP hw hK hc i pins s σ H E I hf st hg
  subst hP hw hK
  obtain ⟨xs,x,hq,hx⟩:=hg
  obtain ⟨its,rv,p,hz⟩:=I.list hq
  obtain ⟨u,hu,ru⟩:=rv.get hx
  obtain ⟨f0,f1,f2,f3,f4,f5⟩:=hf it (by simp)
  refine wpAny_pyNext_list_item st p.isList (x:=u) (by simpa using hu) λh' st' sb=>?_
  have I1:Inv X pins σ H { s with heap:=h' }:=I.turned (t':=s.toks) (λb o hb e=>(sb.2 b hb).trans e) f0 f1 f3 f4 f5
  obtain ⟨o,e,c,d⟩:=id st'
  exact ⟨u,rfl,xI (s:={ s with heap:=h' }) e c d (by decide) ⟨x,H,I1,ru,⟨rfl,λys hy=>by rw [I.list_inj hy hq]; exact hx⟩,st',λb hb=>(hf b hb).1⟩⟩
 done:=by
  intro X hP hw hK hc i pins s σ H E I hf st hg
  subst hP hw hK
  obtain ⟨xs,hq,hx⟩:=hg
  obtain ⟨its,rv,p,hz⟩:=I.list hq
  obtain ⟨f0,f1,f2,f3,f4,f5⟩:=hf it (by simp)
  have hl:=rv.length
  exact wpAny_pyNext_list_end (I.ok.hd hc.cm) st p.isList (by simp; omega) λh' eb=>⟨rfl,I.turned (t':=s.toks) (λb o hb e=>eb b o hb e) f0 f1 f3 f4 f5⟩
 self:=λ_ _ _ _ _ st h=>wpAny_pyIter_listiter st h
theorem tL {K:PySem.W.Frag} (a it:Addr):Turn false P w K tg (Itt K a) [it] it (λi h=>h.IsTupleIter it a i) where
 mem:=by simp
 obj:=λi h st b hb=>by
  have e:b=it:=by simpa using hb
  subst e
  obtain ⟨o,e,c,d⟩:=st
  exact ⟨o,e,λv z=>by rw [d] at z; cases z⟩
 keep:=λi h h' st k=>st.at λo e=>k it (by simp) o e
 item:=by
  intro X hP hw hK hc i pins s σ H E I hf st hg
  subst hP hw hK
  obtain ⟨xs,x,hq,hx⟩:=hg
  obtain ⟨its,rv,p,hz⟩:=I.tuple hq
  obtain ⟨u,hu,ru⟩:=rv.get hx
  obtain ⟨f0,f1,f2,f3,f4,f5⟩:=hf it (by simp)
  refine wpAny_pyNext_tuple_item st (show s.heap.IsTuple a its.toArray from p) (x:=u) (by simpa using hu) λh' st' sb=>?_
  have I1:Inv X pins σ H { s with heap:=h' }:=I.turned (t':=s.toks) (λb o hb e=>(sb.2 b hb).trans e) f0 f1 f3 f4 f5
  obtain ⟨o,e,c,d⟩:=id st'
  exact ⟨u,rfl,xI (s:={ s with heap:=h' }) e c d (by decide) ⟨x,H,I1,ru,⟨rfl,λys hy=>by rw [I.tuple_inj hy hq]; exact hx⟩,st',λb hb=>(hf b hb).1⟩⟩
 done:=by
  intro X hP hw hK hc i pins s σ H E I hf st hg
  subst hP hw hK
  obtain ⟨xs,hq,hx⟩:=hg
  obtain ⟨its,rv,p,hz⟩:=I.tuple hq
  obtain ⟨f0,f1,f2,f3,f4,f5⟩:=hf it (by simp)
  have hl:=rv.length
  exact wpAny_pyNext_tuple_end (I.ok.hd hc.cm) st (show s.heap.IsTuple a its.toArray from p) (by simp; omega) λh' eb=>⟨rfl,I.turned (t':=s.toks) (λb o hb e=>eb b o hb e) f0 f1 f3 f4 f5⟩
 self:=λ_ _ _ _ _ st h=>wpAny_pyIter_tupleiter st h
theorem tM {K:PySem.W.Frag} (it:Addr) (lo:Int) (n:Nat):Turn qb P w K tg (Itr lo n) [it] it (λi h=>IsRangeIter h it (lo + (i:Nat) * 1) ((n:Int) - (i:Nat)) 1) where
 mem:=by simp
 obj:=λi h st b hb=>by
  have e:b=it:=by simpa using hb
  subst e
  exact ⟨_,st,λv z=>by
   have z':Data.fields _=Data.cell v:=z
   cases z'⟩
 keep:=λi h h' st k=>k it (by simp) _ st
 item:=by
  intro X hP hw hK hc i pins s σ H E I hf st hg
  subst hP hw hK
  obtain ⟨f0,f1,f2,f3,f4,f5⟩:=hf it (by simp)
  have hg':(i:Nat) < n:=hg
  refine wpAny_pyNext_range_item st (by omega) λh' st' kk=>?_
  have I1:Inv X pins σ H { s with heap:=h',toks:=s.toks + 1 }:=I.turned (λb o hb e=>(kk.2 b hb).trans e) f0 f1 f3 f4 f5
  have st2:IsRangeIter h' it (lo + ((i + 1:Nat):Int) * 1) ((n:Int) - ((i + 1:Nat):Int)) 1:=by
   have e1:lo + ((i + 1:Nat):Int) * 1=lo + (i:Nat) * 1 + 1:=by omega
   have e2:(n:Int) - ((i + 1:Nat):Int)=(n:Int) - (i:Nat) - 1:=by omega
   rw [e1,e2]; exact st'
  refine ⟨_,rfl,xI (s:={ s with heap:=h',toks:=s.toks + 1 }) (n:="range_iterator") st2 rfl rfl (by decide) ⟨.int (lo + i),H,I1,⟨s.toks,?_⟩,⟨rfl,rfl⟩,st2,λb hb=>(hf b hb).1⟩⟩
  rw [Int.mul_one]
 done:=by
  intro X hP hw hK hc i pins s σ H E I hf st hg
  subst hP hw hK
  obtain ⟨f0,f1,f2,f3,f4,f5⟩:=hf it (by simp)
  have hg':n<=i:=hg
  rcases I.qt hc with hh | ⟨ha,hh,z⟩
  ·exact wpAny_pyNext_range_end hh st (by omega) λh' eb=>⟨rfl,I.turned (t':=s.toks) (λb o hb e=>eb b o hb e) f0 f1 f3 f4 f5⟩
  ·exact wd hh z st (by omega) λh' eb=>⟨rfl,I.turned (t':=s.toks) (λb o hb e=>eb b o hb e) f0 f1 f3 f4 f5⟩
 self:=λ_ _ _ _ _ st h=>wpAny_pyIter_rangeiter st h
section
variable {X:Cx} {tg:Expr}
noncomputable def Em (K:PySem.W.Frag) (tl:TE):TI:=λσ H R=>tl σ H λx H1=>∃ a,x=.ref a/\(∃ xs,SqL K H1 a xs)/\R (Itl K a) H1
noncomputable def Fv (K:PySem.W.Frag) (tl:TE):TI:=λσ H R=>tl σ H λx H1=>∃ a,x=.ref a/\(∃ xs,SqT K H1 a xs)/\R (Itt K a) H1
theorem Ac {l:Expr} {tl:TE} (hl:PE X l tl):PI X tg l (Em X.K tl):=by
 intro pins s σ H R I h
 refine thn (hl pins s σ H _ I h) λv s1 zq=>?_
 obtain ⟨x,H1,I1,r1,q1⟩:=zq
 obtain ⟨a,e,⟨xs,hq⟩,q⟩:=q1
 subst e
 cases r1
 obtain ⟨its,rv,p,hz⟩:=I1.list hq
 refine Zp p.isList ?_
 refine ⟨s1.heap.objs.size,[s1.heap.objs.size],_,_,H1,rfl,I1.kept (t':=s1.toks) λb o e=>J7 _ e,nQ a _,⟨_,Ji _ rfl,rfl,rfl⟩,λb hb=>?_,q⟩
 have e:b=s1.heap.objs.size:=by simpa using hb
 subst e
 exact I1.fpOk (Jb _) (I1.hok.fresh (Jb _))
theorem CB {l:Expr} {tl:TE} (hl:PE X l tl):PI X tg l (Fv X.K tl):=by
 intro pins s σ H R I h
 refine thn (hl pins s σ H _ I h) λv s1 zq=>?_
 obtain ⟨x,H1,I1,r1,q1⟩:=zq
 obtain ⟨a,e,⟨xs,hq⟩,q⟩:=q1
 subst e
 cases r1
 obtain ⟨its,rv,p,hz⟩:=I1.tuple hq
 refine Wg (show s1.heap.IsTuple a its.toArray from p) ?_
 refine ⟨s1.heap.objs.size,[s1.heap.objs.size],_,_,H1,rfl,I1.kept (t':=s1.toks) λb o e=>J7 _ e,tL a _,⟨_,Ji _ rfl,rfl,rfl⟩,λb hb=>?_,q⟩
 have e:b=s1.heap.objs.size:=by simpa using hb
 subst e
 exact I1.fpOk (Jb _) (I1.hok.fresh (Jb _))
theorem qW {qb:Bool} {R:It->Hp->Prop} {E:Value->Shared->Prop} {lo hi:Int} {t u v:Tok} {tk:Nat} (I:Inv X pins σ H s) (h1:-(2 ^ 62)<=lo) (h2:lo < 2 ^ 62) (h3:-(2 ^ 62)<=hi) (h4:hi < 2 ^ 62)
  (q:R (Itr lo (hi - lo).toNat) H):wpAny (model X.prog X.w) X.A (pyIter (.ref s.heap.objs.size)) (CA qb X pins σ tg R) E { s with heap:=s.heap.push { cls:=.type "range",data:=.fields #[.int lo t,.int hi u,.int 1 v] },toks:=tk }:=by
 refine wpAny_pyIter_range (IsRange.new ..) (small_one h1 h2 h3 h4) ?_
 have I1:Inv X pins σ H { s with heap:=s.heap.push { cls:=.type "range",data:=.fields #[.int lo t,.int hi u,.int 1 v] },toks:=tk }:=I.kept λb o e=>J7 _ e
 refine ⟨(s.heap.push { cls:=.type "range",data:=.fields #[.int lo t,.int hi u,.int 1 v] }).objs.size,[(s.heap.push { cls:=.type "range",data:=.fields #[.int lo t,.int hi u,.int 1 v] }).objs.size],_,_,H,rfl,
  I1.kept (t':=tk) λb o e=>J7 _ e,tM _ lo (hi - lo).toNat,?_,λb hb=>?_,q⟩
 ·have e1:lo + ((0:Nat):Int) * 1=lo:=by simp
  have e2:(((hi - lo).toNat:Nat):Int) - ((0:Nat):Int)=Builtin.Range.rangeSize lo hi 1:=by rw [rangeSize_one]; split <;> omega
  show IsRangeIter _ _ (lo + ((0:Nat):Int) * 1) ((((hi - lo).toNat:Nat):Int) - ((0:Nat):Int)) 1
  rw [e1,e2]
  exact Ji _ rfl
 ·have e:b=(s.heap.push { cls:=.type "range",data:=.fields #[.int lo t,.int hi u,.int 1 v] }).objs.size:=by simpa using hb
  subst e
  exact I1.fpOk (Jb _) (I1.hok.fresh (Jb _))
noncomputable def En (ta:TA):TI:=λσ H R=>ta σ H λvs H1=>∃ j:Int,vs=[.int j]/\-(2 ^ 62)<=j/\j < 2 ^ 62/\R (Itr 0 j.toNat) H1
noncomputable def Eo (ta:TA):TI:=λσ H R=>ta σ H λvs H1=>∃ i j:Int,vs=[.int i,.int j]/\(-(2 ^ 62)<=i/\i < 2 ^ 62/\-(2 ^ 62)<=j/\j < 2 ^ 62)/\R (Itr i (j - i).toNat) H1
theorem wo {a:Expr} {ta:TA} {p:Pos} (hg:Gl X "range") (hm:X.mg "range" = none) (ha:PA X [a] ta) (hs:autoParam (starEach [a] X.env=[(false,eval a X.env)]) Au.h1._auto_1):PIb qb X tg (.Call (.Name "range" p) [a] [] pos) (En ta):=by
 intro pins s σ H R I h
 refine Call_ (ig I hg hm boot_range (Q2 (thn (ha pos pins s σ H _ I h) λus s1 zq=>?_) hs rfl))
 obtain ⟨vs,H1,I1,r1,q1⟩:=zq
 obtain ⟨j,e,q1,q2,q⟩:=q1
 subst e
 cases r1 with
 | cons r rr=>
  cases rr
  obtain ⟨t,rfl⟩:=r
  exact call_range_1 (qW I1 (by omega) (by omega) q1 q2 (by simpa using q))
theorem wq {a b:Expr} {ta:TA} {p pos:Pos} (hg:Gl X "range") (hm:X.mg "range" = none) (ha:PA X [a,b] ta) (hs:autoParam (starEach [a,b] X.env=[(false,eval a X.env),(false,eval b X.env)]) Au.h1._auto_1) (hs2:autoParam (starEach [b] X.env=[(false,eval b X.env)]) Au.h1._auto_1):
  PI X tg (.Call (.Name "range" p) [a,b] [] pos) (Eo ta):=by
 intro pins s σ H R I h
 refine Call_ (ig I hg hm boot_range (Q2 (thn (ha pos pins s σ H _ I h) λus s1 zq=>?_) (by rw [hs,hs2]) (by rw [hs2]; rfl)))
 obtain ⟨vs,H1,I1,r1,q1⟩:=zq
 obtain ⟨i,j,e,⟨q1,q2,q3,q4⟩,q⟩:=q1
 subst e
 cases r1 with
 | cons r rr=>
  cases rr with
  | cons r' rr=>
   cases rr
   obtain ⟨t,rfl⟩:=r
   obtain ⟨t',rfl⟩:=r'
   exact call_range_2 (qW I1 q1 q2 q3 q4 q)
noncomputable def Fw (wi:TI) (g:TG) (tb:TS):TS:=λD σ H=>wi σ H λJ H1=>∃ W:Nat->Nat->St->Hp->Prop,(∃ m,W 0 m σ H1)/\∀ i m σ H,W i m σ H->
 (J.stop i H/\D.nx σ H) \/ (J.go i H/\∃ N:St->Hp->Prop,(∀ σ' H',N σ' H'->∃ m',m' < m/\W (i + 1) m' σ' H')/\∀ x H',J.yld i H x H'->g x σ H' λσ2 H2=>tb { D with nx:=N,ct:=N,bk:=D.nx } σ2 H2)
noncomputable def lX (fp:List Addr) (h:Heap):List (Addr × Obj):=fp.filterMap λb=>(h.get? b).map λo=>(b,o)
theorem gN {o:Obj} (hb:b ∈ fp) (e:h.get? b=some o):(b,o) ∈ lX fp h:=List.mem_filterMap.mpr ⟨b,hb,by rw [e]; rfl⟩
theorem wt {p:Addr × Obj} (hp:p ∈ lX fp h):p.1 ∈ fp/\h.get? p.1=some p.2:=by
 obtain ⟨b,hb,e⟩:=List.mem_filterMap.mp hp
 cases q:h.get? b with
 | none=>rw [q] at e; cases e
 | some o=>
  rw [q] at e
  have e':(b,o)=p:=Yd e
  subst e'
  exact ⟨hb,q⟩
theorem Inv.pinned (I:Inv X pins σ H s) (hf:∀ b ∈ fp,FpOk X pins H b) (ho:∀ b ∈ fp,∃ o,s.heap.get? b=some o/\∀ v,o.data ≠ .cell v):Inv X (pins ++ lX fp s.heap) σ H s:=
 I.pins_of λp hp=>(Jp.mp hp).elim (λz=>I.pin p (Jw _ z)) λz=>by
  obtain ⟨hb,e⟩:=wt z
  obtain ⟨f0,f1,f2,_⟩:=hf p.1 hb
  obtain ⟨o,e',d⟩:=ho p.1 hb
  rw [e] at e'; cases e'
  exact ⟨e,f0,f1,f2,d⟩
theorem Inv.unpinned {pl:List (Addr × Obj)} (I:Inv X (pins ++ pl) σ H s):Inv X pins σ H s:=I.pins_of λp hp=>I.pin p (Jw _ (Yr _ hp))
theorem CC {iter:Expr} {body:List Stmt} {wi:TI} {g:TG} {tb:TS} {pos:Pos} (hp:PassesOwn (model X.prog X.w) X.A X.env X.xe) (hc:X.calm=true) (hi:PI X tg iter wi) (hg:PG X tg g) (hb:PSs X body tb)
  (hs:autoParam (∀ x,foldedSetIterable iter X.env x=pure x) Au.h5._auto_1):PS X (.For tg iter body [] pos) (Fw wi g tb):=by
 intro pins s σ H D I h
 refine wpAny_For (thn (hi pins s σ H _ I h) λv s1 h1=>thn h1 λitv s2 h2=>?_) hs
 obtain ⟨it,fp,tn,J,H2,e,I2,T,st2,f2,W,⟨m0,w0⟩,turn⟩:=h2
 subst e
 -- what stays true of the iterator's objects through the loop
 have stat:∀ {H':Hp},(∀ b ∈ fp,H' b=none)->∀ b ∈ fp,FpOk X pins H' b:=λhn b hb=>⟨hn b hb,(f2 b hb).2⟩
 refine codeAny_forLoop_any (λn s'=>∃ i σ' H',Inv X pins σ' H' s'/\tn i s'.heap/\(∀ b ∈ fp,H' b=none)/\W i n σ' H') ?_ m0 ⟨0,σ,H2,I2,st2,λb hb=>(f2 b hb).1,w0⟩
 rintro n s3 ⟨i,σ3,H3,I3,st3,fr3,w3⟩
 rcases turn i n σ3 H3 w3 with ⟨stop,qn⟩ | ⟨go,N,hN,step⟩
 ·refine Qq hp (thn (T.done X rfl rfl rfl (.inl hc) i pins s3 σ3 H3 X.xe I3 (stat fr3) st3 stop) λr s4 zq=>?_)
  obtain ⟨hr,I4⟩:=zq
  subst hr
  exact Vk ⟨σ3,H3,I4,qn⟩
 ·refine Qq hp (thn (T.item X rfl rfl rfl (.inl hc) i pins s3 σ3 H3 X.xe I3 (stat fr3) st3 go) λr s4 zq=>?_)
  obtain ⟨u,hr,h4⟩:=zq
  subst hr
  refine Qq hp (thn h4 λ_ s5 zq=>?_)
  obtain ⟨x,H5,I5,r5,y5,st5,fr5⟩:=zq
  have I5':=I5.pinned (stat fr5) (T.obj _ _ st5)
  refine Qq hp (thn (hg _ s5 σ3 H5 x u _ I5' r5 (step x H5 y5)) λ_ s6 zq=>?_)
  obtain ⟨σ6,H6,I6,q6⟩:=zq
  refine Qq hp (thn (hb _ s6 σ6 H6 _ I6 q6) λf s7 q7=>?_)
  have again:∀ {σ7:St} {H7:Hp},Inv X (pins ++ lX fp s5.heap) σ7 H7 s7->N σ7 H7->∃ m,m < n/\∃ i σ' H',Inv X pins σ' H' s7/\tn i s7.heap/\(∀ b ∈ fp,H' b=none)/\W i m σ' H':=λ{σ7 H7} I7 n7=>by
   obtain ⟨m',hm,w7⟩:=hN σ7 H7 n7
   refine ⟨m',hm,i + 1,σ7,H7,I7.unpinned,T.keep _ _ _ st5 λb hb o e=>(I7.pin (b,o) (Jw _ (Jw _ (gN hb e)))).1,λb hb=>?_,w7⟩
   obtain ⟨o,e,d⟩:=T.obj _ _ st5 b hb
   exact (I7.pin (b,o) (Jw _ (Jw _ (gN hb e)))).2.1
  cases f with
  | next=>obtain ⟨σ7,H7,I7,n7⟩:=q7; exact again I7 n7
  | cont=>obtain ⟨σ7,H7,I7,n7⟩:=q7; exact again I7 n7
  | brk=>obtain ⟨σ7,H7,I7,q7⟩:=q7; exact ⟨σ7,H7,I7.unpinned,q7⟩
  | ret v=>obtain ⟨x7,σ7,H7,I7,r7,q7⟩:=q7; exact ⟨x7,σ7,H7,I7.unpinned,r7,q7⟩
end
noncomputable abbrev R2:=V->V->Hp->VK->Prop
variable {r:R2}
def OpR (X:Cx) (f:Value->Value->Sem Value) (r:R2):Prop:=
 ∀ (pins:List (Addr × Obj)) (s:Shared) (σ:St) (H:Hp) (x y:V) (v u:Value) (Q:VK),Inv X pins σ H s->RelV x v->RelV y u->r x y H Q->
  wpAny (model X.prog X.w) X.A (f v u) (EP X pins σ Q) X.xe s
def UnR (X:Cx) (f:Value->Sem Value) (r:V->Hp->VK->Prop):Prop:=
 ∀ (pins:List (Addr × Obj)) (s:Shared) (σ:St) (H:Hp) (x:V) (v:Value) (Q:VK),Inv X pins σ H s->RelV x v->r x H Q->
  wpAny (model X.prog X.w) X.A (f v) (EP X pins σ Q) X.xe s
def bw (X:Cx) (f:Value) (r:List V->Hp->VK->Prop):Prop:=
 ∀ (pins:List (Addr × Obj)) (s:Shared) (σ:St) (H:Hp) (xs:List V) (us:List Value) (Q:VK),Inv X pins σ H s->Vals xs us->r xs H Q->
  wpAny (model X.prog X.w) X.A (call f us) (EP X pins σ Q) X.xe s
noncomputable def tOp (r:R2) (ta tb:TE):TE:=λσ H Q=>ta σ H λx H1=>tb σ H1 λy H2=>r x y H2 Q
noncomputable def tUn (r:V->Hp->VK->Prop) (ta:TE):TE:=λσ H Q=>ta σ H λx H1=>r x H1 Q
noncomputable def rI (C:Int->Int->Prop) (g:Int->Int->V):R2:=λx y H Q=>∃ i j,x=.int i/\y=.int j/\C i j/\Q (g i j) H
noncomputable def rI0 (g:Int->Int->V):R2:=λx y H Q=>∃ i j,x=.int i/\y=.int j/\Q (g i j) H
noncomputable def rU (g:Int->V):V->Hp->VK->Prop:=λx H Q=>∃ i,x=.int i/\Q (g i) H
section
variable {X:Cx} {a b c:Expr} {ta tb tc:TE} {pos:Pos}
theorem CD (ha:PE X a ta) (hb:PE X b tb) {R:V->V->Hp->Prop} (I:Inv X pins σ H s)
  (h:ta σ H λx H1=>tb σ H1 λy H2=>R x y H2) {Q:Value->Shared->Prop} {f:Value->Value->Sem Value}
  (hf:∀ v u s2 x y H2,Inv X pins σ H2 s2->RelV x v->RelV y u->R x y H2->wpAny (model X.prog X.w) X.A (f v u) Q X.xe s2):
  wpAny (model X.prog X.w) X.A (eval a X.env) (λv s₁=>wpAny (model X.prog X.w) X.A (eval b X.env) (λu s₂=>wpAny (model X.prog X.w) X.A (f v u) Q X.xe s₂) X.xe s₁) X.xe s:=by
 refine thn (ha pins s σ H _ I h) λv s1 zq=>?_
 obtain ⟨x,H1,I1,r1,q1⟩:=zq
 refine thn (hb pins s1 σ H1 _ I1 q1) λu s2 zq=>?_
 obtain ⟨y,H2,I2,r2,q2⟩:=zq
 exact hf v u s2 x y H2 I2 r1 r2 q2
theorem Ep {op:Operator} (ho:OpR X (binaryOp op) r) (ha:PE X a ta) (hb:PE X b tb):PE X (.BinOp a op b pos) (tOp r ta tb):=by
 intro pins s σ H Q I h
 exact wpAny_BinOp (CD ha hb I h λv u s2 x y H2 I2 rx ry q=>ho pins s2 σ H2 x y v u Q I2 rx ry q)
theorem Er {op:UnaryOp} {r:V->Hp->VK->Prop} (ho:UnR X (unaryOp op) r) (ha:PE X a ta):PE X (.UnaryOp op a pos) (tUn r ta):=by
 intro pins s σ H Q I h
 exact UnaryOp_ (thn (ha pins s σ H _ I h) λv s1 zq=>ex5 zq λx H1 I1 r1 q1=>ho pins s1 σ H1 x v Q I1 r1 q1)
theorem opI {f:Value->Value->Sem Value} {C:Int->Int->Prop} {g:Int->Int->Int}
  (rule:∀ (i j:Int) (t u:Tok) (s:Shared) (Q:Value->Shared->Prop) (E:Value->Shared->Prop),C i j->Q (.int (g i j) s.toks) { s with toks:=s.toks + 1 }->wpAny (model X.prog X.w) X.A (f (.int i t) (.int j u)) Q E s):
  OpR X f (rI C λi j=>.int (g i j)):=by
 intro pins s σ H x y v u Q I rx ry h
 obtain ⟨i,j,rfl,rfl,hc,q⟩:=h
 obtain ⟨t,rfl⟩:=rx
 obtain ⟨t',rfl⟩:=ry
 exact rule i j t t' s _ _ hc ⟨.int (g i j),H,I.tok _,⟨_,rfl⟩,q⟩
theorem Es {f:Value->Value->Sem Value} {g:Int->Int->Int}
  (rule:∀ (i j:Int) (t u:Tok) (s:Shared) (Q:Value->Shared->Prop) (E:Value->Shared->Prop),Q (.int (g i j) s.toks) { s with toks:=s.toks + 1 }->wpAny (model X.prog X.w) X.A (f (.int i t) (.int j u)) Q E s):
  OpR X f (rI0 λi j=>.int (g i j)):=by
 intro pins s σ H x y v u Q I rx ry h
 obtain ⟨i,j,rfl,rfl,q⟩:=h
 obtain ⟨t,rfl⟩:=rx
 obtain ⟨t',rfl⟩:=ry
 exact rule i j t t' s _ _ ⟨.int (g i j),H,I.tok _,⟨_,rfl⟩,q⟩
theorem Ad {f:Value->Value->Sem Value} {g:Int->Int->Bool}
  (rule:∀ (i j:Int) (t u:Tok) (s:Shared) (Q:Value->Shared->Prop) (E:Value->Shared->Prop),Q (.bool (g i j)) s->wpAny (model X.prog X.w) X.A (f (.int i t) (.int j u)) Q E s):
  OpR X f (rI0 λi j=>.bl (g i j)):=by
 intro pins s σ H x y v u Q I rx ry h
 obtain ⟨i,j,rfl,rfl,q⟩:=h
 obtain ⟨t,rfl⟩:=rx
 obtain ⟨t',rfl⟩:=ry
 exact rule i j t t' s _ _ ⟨.bl (g i j),H,I,rfl,q⟩
def Et (i j:Int):Prop:=0 < j/\j < 1073741824
def Eu (i j:Int):Prop:=0<=j/\j<=1000000/\i.natAbs < 2 ^ 64
def CG (i j:Int):Prop:=(-(2 ^ 64) < i/\i < 2 ^ 64) \/ (-(2 ^ 64) < j/\j < 2 ^ 64)
theorem CG.ok {i j:Int} (h:CG i j):IntMulOk i j:=by
 rcases h with ⟨h1,h2⟩ | ⟨h1,h2⟩
 ·exact .of_left (intBits_le_64 h1 h2)
 ·exact .of_right (intBits_le_64 h1 h2)
theorem CH:OpR X (binaryOp .Add) (rI0 λi j=>.int (i + j)):=Es λ_ _ _ _ _ _ _ q=>add_int q
theorem CI:OpR X (binaryOp .Sub) (rI0 λi j=>.int (i - j)):=Es λ_ _ _ _ _ _ _ q=>sub_int q
theorem CJ:OpR X (binaryOp .Mult) (rI CG λi j=>.int (i * j)):=opI λ_ _ _ _ _ _ _ hc q=>mul_int q hc.ok
theorem Ae:OpR X (binaryOp .FloorDiv) (rI Et λi j=>.int (i / j)):=opI λi j _ _ _ _ _ hc q=>by
 have h1:(0:Int) < j:=hc.1
 have h2:j < 1073741824:=hc.2
 exact floordiv_int (by omega) (by rw [U8 i (by omega)]; exact q) (.inl (PyProof.noPylong_small (by omega)))
theorem CK:OpR X (binaryOp .Mod) (rI (λ_ j=>0 < j) λi j=>.int (i % j)):=opI λi j _ _ _ _ _ hc q=>by
 have h1:(0:Int) < j:=hc
 exact mod_int' (by omega) (by rw [U9 i (by omega)]; exact q)
theorem CL:OpR X (binaryOp .Pow) (rI Eu λi j=>.int (i ^ j.toNat)):=opI λ_ _ _ _ _ _ _ hc q=>pow_int_small hc.1 hc.2.1 hc.2.2 q
theorem CM:OpR X (binaryOp .LShift) (rI Eu λi j=>.int (i * 2 ^ j.toNat)):=opI λ_ _ _ _ _ _ _ hc q=>lshift_int_small hc.1 hc.2.1 hc.2.2 q
theorem unI {f:Value->Sem Value} {g:Int->Int}
  (rule:∀ (i:Int) (t:Tok) (s:Shared) (Q:Value->Shared->Prop) (E:Value->Shared->Prop),Q (.int (g i) s.toks) { s with toks:=s.toks + 1 }->wpAny (model X.prog X.w) X.A (f (.int i t)) Q E s):
  UnR X f (rU λi=>.int (g i)):=by
 intro pins s σ H x v Q I rx h
 obtain ⟨i,rfl,q⟩:=h
 obtain ⟨t,rfl⟩:=rx
 exact rule i t s _ _ ⟨.int (g i),H,I.tok _,⟨_,rfl⟩,q⟩
theorem CN:UnR X (unaryOp .USub) (rU λi=>.int (-i)):=unI λ_ _ _ _ _ q=>neg_int q
end
noncomputable def CO:V->V->Bool
 | .non,.non=>true | .non,.int _=>true | .int _,.non=>true | .non,.bl _=>true | .bl _,.non=>true | .non,.str _=>true | .str _,.non=>true
 | .int _,.int _=>true | .bl _,.bl _=>true | .str _,.str _=>true | .byt _,.byt _=>true
 | .int _,.str _=>true | .str _,.int _=>true | .bl _,.str _=>true | .str _,.bl _=>true
 | _,_=>false
noncomputable def rEq:R2:=λx y H Q=>CO x y=true/\Q (.bl (decide (x=y))) H
noncomputable def rNe:R2:=λx y H Q=>CO x y=true/\Q (.bl (!decide (x=y))) H
theorem uP {i j:Int}:decide (V.int i=V.int j)=(i == j):=by
 rw [Qf]
 simp
theorem xJ {i j:Bool}:decide (V.bl i=V.bl j)=(i == j):=by
 rw [Qf]
 simp
theorem uQ {i j:Str}:decide (V.str i=V.str j)=(i == j):=by
 rw [Qf]
 simp
theorem uR {i j:Array UInt8}:decide (V.byt i=V.byt j)=(i.toList == j.toList):=by
 rw [Qf]
 cases i
 cases j
 simp
section
variable {X:Cx} {a b c:Expr} {ta tb tc:TE} {pos:Pos}
theorem bh {Q:VK} {k k':Bool} (I:Inv X pins σ H s) (q:Q (.bl k) H) (e:k=k'):EP X pins σ Q (.bool k') s:=by
 subst e
 exact ⟨.bl k,H,I,rfl,q⟩
theorem Ew:OpR X (compareOp .Eq) rEq:=by
 intro pins s σ H x y v u Q I rx ry h
 obtain ⟨hs,q⟩:=h
 cases x with
 | non=>
  cases rx
  cases y with
  | non=>cases ry; exact PySem.EqNone.eq_none_none (bh I q (by simp))
  | bl j=>cases ry; exact PySem.EqNone.eq_none_bool (bh I q (by simp))
  | int j=>obtain ⟨t',rfl⟩:=ry; exact PySem.EqNone.eq_none_int (bh I q (by simp))
  | str j=>obtain ⟨t',rfl⟩:=ry; exact PySem.EqNone.eq_none_str (bh I q (by simp))
  | _=>exact absurd (show false=true from hs) Jl
 | bl i=>
  cases rx
  cases y with
  | non=>cases ry; exact PySem.EqNone.eq_bool_none (bh I q (by simp))
  | bl j=>cases ry; exact eq_bool (bh I q xJ)
  | str j=>obtain ⟨t',rfl⟩:=ry; exact PySem.EqMixed.eq_bool_str (bh I q (by simp))
  | _=>exact absurd (show false=true from hs) Jl
 | int i=>
  obtain ⟨t,rfl⟩:=rx
  cases y with
  | non=>cases ry; exact PySem.EqNone.eq_int_none (bh I q (by simp))
  | int j=>obtain ⟨t',rfl⟩:=ry; exact eq_int (bh I q uP)
  | str j=>obtain ⟨t',rfl⟩:=ry; exact PySem.EqMixed.eq_int_str (bh I q (by simp))
  | _=>exact absurd (show false=true from hs) Jl
 | str i=>
  obtain ⟨t,rfl⟩:=rx
  cases y with
  | non=>cases ry; exact PySem.EqNone.eq_str_none (bh I q (by simp))
  | bl j=>cases ry; exact PySem.EqMixed.eq_str_bool (bh I q (by simp))
  | int j=>obtain ⟨t',rfl⟩:=ry; exact PySem.EqMixed.eq_str_int (bh I q (by simp))
  | str j=>obtain ⟨t',rfl⟩:=ry; exact eq_str (bh I q uQ)
  | _=>exact absurd (show false=true from hs) Jl
 | byt i=>
  obtain ⟨t,rfl⟩:=rx
  cases y with
  | byt j=>obtain ⟨t',rfl⟩:=ry; exact PySem.W.eq_bytes (bh I q uR)
  | _=>exact absurd (show false=true from hs) Jl
 | _=>cases y <;> exact absurd (show false=true from hs) Jl
theorem Ey:OpR X (compareOp .NotEq) rNe:=by
 intro pins s σ H x y v u Q I rx ry h
 obtain ⟨hs,q⟩:=h
 cases x with
 | non=>
  cases rx
  cases y with
  | non=>cases ry; exact PySem.EqNone.ne_none_none (bh I q (by simp))
  | bl j=>cases ry; exact PySem.EqNone.ne_none_bool (bh I q (by simp))
  | int j=>obtain ⟨t',rfl⟩:=ry; exact PySem.EqNone.ne_none_int (bh I q (by simp))
  | str j=>obtain ⟨t',rfl⟩:=ry; exact PySem.EqNone.ne_none_str (bh I q (by simp))
  | _=>exact absurd (show false=true from hs) Jl
 | bl i=>
  cases rx
  cases y with
  | non=>cases ry; exact PySem.EqNone.ne_bool_none (bh I q (by simp))
  | bl j=>cases ry; exact ne_bool (bh I q (Q7 not xJ))
  | str j=>obtain ⟨t',rfl⟩:=ry; exact PySem.EqMixed.ne_bool_str (bh I q (by simp))
  | _=>exact absurd (show false=true from hs) Jl
 | int i=>
  obtain ⟨t,rfl⟩:=rx
  cases y with
  | non=>cases ry; exact PySem.EqNone.ne_int_none (bh I q (by simp))
  | int j=>obtain ⟨t',rfl⟩:=ry; exact ne_int (bh I q (Q7 not uP))
  | str j=>obtain ⟨t',rfl⟩:=ry; exact PySem.EqMixed.ne_int_str (bh I q (by simp))
  | _=>exact absurd (show false=true from hs) Jl
 | str i=>
  obtain ⟨t,rfl⟩:=rx
  cases y with
  | non=>cases ry; exact PySem.EqNone.ne_str_none (bh I q (by simp))
  | bl j=>cases ry; exact PySem.EqMixed.ne_str_bool (bh I q (by simp))
  | int j=>obtain ⟨t',rfl⟩:=ry; exact PySem.EqMixed.ne_str_int (bh I q (by simp))
  | str j=>obtain ⟨t',rfl⟩:=ry; exact ne_str (bh I q (Q7 not uQ))
  | _=>exact absurd (show false=true from hs) Jl
 | byt i=>
  obtain ⟨t,rfl⟩:=rx
  cases y with
  | byt j=>obtain ⟨t',rfl⟩:=ry; exact PySem.W.ne_bytes (bh I q (Q7 not uR))
  | _=>exact absurd (show false=true from hs) Jl
 | _=>cases y <;> exact absurd (show false=true from hs) Jl
theorem Ez:OpR X (compareOp .Lt) (rI0 λi j=>.bl (decide (i < j))):=Ad λ_ _ _ _ _ _ _ q=>lt_int q
theorem EA:OpR X (compareOp .LtE) (rI0 λi j=>.bl (decide (i<=j))):=Ad λ_ _ _ _ _ _ _ q=>le_int q
theorem EB:OpR X (compareOp .Gt) (rI0 λi j=>.bl (decide (j < i))):=Ad λ_ _ _ _ _ _ _ q=>gt_int q
theorem EC:OpR X (compareOp .GtE) (rI0 λi j=>.bl (decide (j<=i))):=Ad λ_ _ _ _ _ _ _ q=>ge_int q
theorem CP (b:Expr) (h:autoParam (op ≠ .In) Au.h2._auto_1) (h2:autoParam (op ≠ .NotIn) Au.h2._auto_1):behindInMarks op b=false:=by
 have e1:(op == CmpOp.In)=false:=by cases op <;> first | rfl | exact absurd rfl h
 have e2:(op == CmpOp.NotIn)=false:=by cases op <;> first | rfl | exact absurd rfl h2
 cases b <;> simp [behindInMarks,e1,e2]
theorem Af (ho:OpR X (compareOp op) r) (ha:PE X a ta) (hb:PE X b tb) (hm:behindInMarks op b=false):PE X (.Compare a [op] [b] pos) (tOp r ta tb):=by
 intro pins s σ H Q I h
 exact wpAny_Compare1 (CD ha hb I h λv u s2 x y H2 I2 rx ry q=>ho pins s2 σ H2 x y v u Q I2 rx ry q) hm
noncomputable def BU (t:TE):TT:=λσ H Q=>t σ H λx H'=>∃ k,x=.bl k/\Q k H'
theorem Ag (ho:OpR X (compareOp op) r) (ha:PE X a ta) (hb:PE X b tb) (hm:behindInMarks op b=false):PT X (.Compare a [op] [b] pos) (BU (tOp r ta tb)):=by
 intro pins s σ H Q I h
 refine wpAny_isTrue_Compare1 (thn (ha pins s σ H _ I h) λv s1 zq=>ex5 zq λx H1 I1 r1 q1=>thn (hb pins s1 σ H1 _ I1 q1) λu s2 zq=>ex5 zq λy H2 I2 r2 q2=>
  thn (ho pins s2 σ H2 x y v u _ I2 r1 r2 q2) λc s3 ⟨z,H3,I3,r3,k,e,q3⟩=>?_) hm
 subst e
 cases r3
 exact Zo ⟨H3,I3,q3⟩
noncomputable def xK (r r':R2) (ta tb tc:TE):TE:=λσ H Q=>ta σ H λx H1=>tb σ H1 λy H2=>r x y H2 λz H3=>∃ k,z=.bl k/\
 (if k=true then tc σ H3 λw' H4=>r' y w' H4 Q else Q (.bl false) H3)
theorem xN {op':CmpOp} {r':R2} (ho:OpR X (compareOp op) r) (ho':OpR X (compareOp op') r') (ha:PE X a ta) (hb:PE X b tb) (hc:PE X c tc)
  (hm:lastMarks [op,op'] [b,c]=false:=by with_unfolding_all rfl):PE X (.Compare a [op,op'] [b,c] pos) (xK r r' ta tb tc):=by
 intro pins s σ H Q I h
 refine Compare_chain (thn (ha pins s σ H _ I h) λv s1 zq=>ex5 zq λx H1 I1 r1 q1=>chain_link (thn (hb pins s1 σ H1 _ I1 q1) λu s2 zq=>ex5 zq λy H2 I2 r2 q2=>
  thn (ho pins s2 σ H2 x y v u _ I2 r1 r2 q2) λd s3 ⟨z,H3,I3,r3,k,e,q3⟩=>?_)) hm
 subst e
 cases r3
 refine Zo ?_
 cases k with
 | false=>exact ite_ff ⟨.bl false,H3,I3,rfl,q3⟩
 | true=>exact ite_tt (chain_last (thn (hc pins s3 σ H3 _ I3 q3) λw' s4 ⟨z',H4,I4,r4,q4⟩=>ho' pins s4 σ H4 y z' u w' Q I4 r2 r4 q4))
theorem xP {op':CmpOp} {r':R2} (ho:OpR X (compareOp op) r) (ho':OpR X (compareOp op') r') (ha:PE X a ta) (hb:PE X b tb) (hc:PE X c tc)
  (hm:lastMarks [op,op'] [b,c]=false:=by with_unfolding_all rfl):PT X (.Compare a [op,op'] [b,c] pos) (BU (xK r r' ta tb tc)):=by
 intro pins s σ H Q I h
 refine isTrue_chain (thn (ha pins s σ H _ I h) λv s1 zq=>ex5 zq λx H1 I1 r1 q1=>test_link (thn (hb pins s1 σ H1 _ I1 q1) λu s2 zq=>ex5 zq λy H2 I2 r2 q2=>
  thn (ho pins s2 σ H2 x y v u _ I2 r1 r2 q2) λd s3 ⟨z,H3,I3,r3,k,e,q3⟩=>?_)) hm
 subst e
 cases r3
 refine Zo ?_
 cases k with
 | false=>
  obtain ⟨k',e',q'⟩:=q3
  cases e'
  exact ite_ff ⟨H3,I3,q'⟩
 | true=>
  refine ite_tt (test_last (thn (hc pins s3 σ H3 _ I3 q3) λw' s4 ⟨z',H4,I4,r4,q4⟩=>thn (ho' pins s4 σ H4 y z' u w' _ I4 r2 r4 q4) λd' s5 zq=>?_))
  obtain ⟨z2,H5,I5,r5,k2,e2,q5⟩:=zq
  subst e2
  cases r5
  exact Zo ⟨H5,I5,q5⟩
theorem kx:(sizeLine:Nat) < 2 ^ 63:=by rw [sizeLine_eq]; decide
theorem tN:OpR X (binaryOp .Add) (λx y H Q=>∃ i j,x=.str i/\y=.str j/\i.length + j.length<=sizeLine/\Q (.str (i ++ j)) H):=by
 intro pins s σ H x y v u Q I rx ry h
 obtain ⟨i,j,rfl,rfl,hz,q⟩:=h
 obtain ⟨t,rfl⟩:=rx
 obtain ⟨t',rfl⟩:=ry
 exact add_str (λt' tk=>⟨.str (i ++ j),H,I.tok _,⟨_,rfl⟩,q⟩) hz
theorem W9 {x:V} (r:Vals [x] us):∃ u,us=[u]/\RelV x u:=by
 cases r with
 | cons r1 r2=>cases r2; exact ⟨_,rfl,r1⟩
theorem vals2 {x y:V} (r:Vals [x,y] us):∃ u w',us=[u,w']/\RelV x u/\RelV y w':=by
 cases r with
 | cons r1 r2=>
  cases r2 with
  | cons r3 r4=>cases r4; exact ⟨_,_,rfl,r1,r3⟩
theorem xQ:bw X (.builtin "abs") (λxs H Q=>∃ i,xs=[.int i]/\Q (.int (if i < 0 then -i else i)) H):=by
 intro pins s σ H xs us Q I r h
 obtain ⟨i,rfl,q⟩:=h
 obtain ⟨u,rfl,t,rfl⟩:=W9 r
 exact call_abs_int λu tk=>⟨.int (if i < 0 then -i else i),H,I.tok _,⟨_,rfl⟩,q⟩
theorem wx (hc:X.calm=true):bw X (.builtin "max") (λxs H Q=>∃ i j,xs=[.int i,.int j]/\Q (.int (if j > i then j else i)) H):=by
 intro pins s σ H xs us Q I r h
 obtain ⟨i,j,rfl,q⟩:=h
 obtain ⟨u,w',rfl,⟨t,rfl⟩,⟨t',rfl⟩⟩:=vals2 r
 refine max_two_ints (I.ok.hd hc) λh' tk k=>⟨_,H,I.kept k,?_,q⟩
 by_cases hj:j > i
 ·rw [J8 hj,J8 hj]; exact ⟨_,rfl⟩
 ·rw [Jc hj,Jc hj]; exact ⟨_,rfl⟩
theorem wy (hc:X.calm=true):bw X (.builtin "min") (λxs H Q=>∃ i j,xs=[.int i,.int j]/\Q (.int (if j < i then j else i)) H):=by
 intro pins s σ H xs us Q I r h
 obtain ⟨i,j,rfl,q⟩:=h
 obtain ⟨u,w',rfl,⟨t,rfl⟩,⟨t',rfl⟩⟩:=vals2 r
 refine min_two_ints (I.ok.hd hc) λh' tk k=>⟨_,H,I.kept k,?_,q⟩
 by_cases hj:j < i
 ·rw [J8 hj,J8 hj]; exact ⟨_,rfl⟩
 ·rw [Jc hj,Jc hj]; exact ⟨_,rfl⟩
theorem nR:bw X (.type "int") (λxs H Q=>(∃ i,xs=[.int i]/\Q (.int i) H) \/ ∃ k,xs=[.bl k]/\Q (.int (if k then 1 else 0)) H):=by
 intro pins s σ H xs us Q I r h
 rcases h with ⟨i,rfl,q⟩ | ⟨k,rfl,q⟩
 ·obtain ⟨u,rfl,t,rfl⟩:=W9 r
  exact call_int_int ⟨.int i,H,I,⟨_,rfl⟩,q⟩
 ·obtain ⟨u,rfl,r1⟩:=W9 r
  cases r1
  exact call_int_bool ⟨.int (if k then 1 else 0),H,I.tok _,⟨_,rfl⟩,q⟩
theorem qX:bw X (.builtin "divmod") (λxs H Q=>∃ i j,xs=[.int i,.int j]/\Et i j/\∀ p,H p=none->Q (.ref p) (upd H p (.tup [.int (i / j),.int (i % j)]))):=by
 intro pins s σ H xs us Q I r h
 obtain ⟨i,j,rfl,⟨h1,h2⟩,q⟩:=h
 obtain ⟨u,w',rfl,⟨t,rfl⟩,⟨t',rfl⟩⟩:=vals2 r
 refine divmod_int (by omega) ?_ (.inl (PyProof.noPylong_small (by omega)))
 rw [U8 i (by omega),U9 i (by omega)]
 have hn:H s.heap.objs.size=none:=I.hok.fresh (Jb _)
 refine ⟨.ref s.heap.objs.size,_,?_,rfl,q _ hn⟩
 refine I.laid (λb o e=>J7 _ e) (Jb _) ⟨by simp only [Jm,Yg]; rw [sizeLine_eq]; decide,[.int (i / j) s.toks,.int (i % j) (s.toks + 1)],.cons ⟨_,rfl⟩ (.cons ⟨_,rfl⟩ .nil),?_⟩
 exact ⟨_,Ji s.heap rfl,rfl,0,rfl⟩
end
structure ObjM (h:Heap) (x dx C:Addr) (mA:Str->Option Value):Prop where
 obj:h.get? x=some (PySem.W.instObj C dx)
 ns:h.Ns1 dx mA
 ne:dx ≠ x
theorem wz {dx:Addr} {mA:Str->Option Value} (n:h.Ns1 dx mA):∃ od,h.get? dx=some od/\∀ name,PySem.W.lookIn name od=some (mA name):=by
 obtain ⟨o,es,ep,ho,hd,hk,_,hm⟩:=n
 refine ⟨o,ho,λname=>?_⟩
 have e:=hm name
 unfold nsFind findBy at e
 rw [<- Array.find?_toList] at e
 unfold PySem.W.lookIn
 rw [hd]
 dsimp only
 split
 ·rename_i y q
  rw [q] at e
  exact Q7 some e
 ·rename_i q
  rw [q] at e
  have a:es.toList.any (·.refKey)=false:=by
   rw [Zq]
   intro y hy
   obtain ⟨z,t,hkey⟩:=hk y (Array.mem_toList_iff.mp hy)
   simp [DictEntry.refKey,hkey]
  have a':¬ es.toList.any (·.refKey)=true:=by rw [a]; exact Jl
  rw [Jc a']
  exact Q7 some e
theorem ObjM.look {x dx C:Addr} {mA:Str->Option Value} (I:ObjM h x dx C mA):∃ od,PySem.W.InstAt h x (PySem.W.instObj C dx) C (some od)/\∀ name,PySem.W.lookIn name od=some (mA name):=
 let ⟨od,ho,hl⟩:=wz I.ns
 ⟨od,⟨I.obj,rfl,rfl,ho⟩,hl⟩
section
variable {P:Program} {w:World} {H H':Hp} {h h':Heap} {a C dx:Addr} {fs fs':List (Str × V)}
theorem Ah (hok:HOk P w H h) (e:H a=some (.ins C dx fs)):∃ mA,ObjM h a dx C mA/\(∀ f,oW (fs.lookup f) (mA f))/\PySem.Within mA (fs.map (·.1))/\fs.length<=1000/\H dx=some (.own a):=by
 obtain ⟨d,z,ne,ob,mA,n,r,q⟩:=(show bL P w H h a (.ins C dx fs) from hok a _ e)
 exact ⟨mA,⟨ob,n,ne⟩,r,q,z,d⟩
end
structure Cls (K:PySem.W.Frag) (C:Addr):Prop where
 pg:PySem.W.plainGet K C Str.empty=true
 hd:PySem.W.hasDictIn K C=true
 po:PySem.W.plainOver K C=true
 sa:PySem.W.findIn K (.ref C) "__setattr__" = some (some (.builtin "object.__setattr__"))
theorem Cls.get {K:PySem.W.Frag} {C:Addr} (c:Cls K C) (f:Str):PySem.W.plainGet K C f=true:=c.pg
section
variable {X:Cx} {pins:List (Addr × Obj)} {σ:St} {H:Hp} {s:Shared} {A:Around} {E:Value->Shared->Prop} {Q:Value->Shared->Prop} {c:Value} {b:Bool}
inductive TyOf (K:PySem.W.Frag) (H:Hp):V->Value->Prop where
 | non:TyOf K H .non (.type "NoneType")
 | bl (x:Bool):TyOf K H (.bl x) (.type "bool")
 | int (i:Int):TyOf K H (.int i) (.type "int")
 | str (x:Str):TyOf K H (.str x) (.type "str")
 | flt (x:UInt64):TyOf K H (.flt x) (.type "float")
 | lst {a:Addr} {xs:List V} (e:H a=some (.lst xs)):TyOf K H (.ref a) (.type "list")
 | frz {a:Addr} {o:Obj} {xs:List V} (e:H a=some (.frz o (.lst xs))):TyOf K H (.ref a) (.type "list")
 | tup {a:Addr} {xs:List V} (e:H a=some (.tup xs)):TyOf K H (.ref a) (.type "tuple")
 | dK {a:Addr} {kvs:List (Key × V)} (e:H a=some (.dK kvs)):TyOf K H (.ref a) (.type "dict")
 | dT {a:Addr} {kvs:List (List Key × V)} (e:H a=some (.dT kvs)):TyOf K H (.ref a) (.type "dict")
 | ins {a C dx:Addr} {fs:List (Str × V)} (e:H a=some (.ins C dx fs)) (cl:Cls K C) (ha:PySem.W.findIn K (.ref C) "__class__" = some (some (.builtin "object.__class__")))
   (hn:PySem.W.specialIn K (.builtin "object.__class__") "__get__" = some (some (.builtin "getset_descriptor.__get__"))) (htk:PySem.W.takesIn K (.builtin "object.__class__")=some true)
   (hm:PySem.W.mroIn K C (.type "object")=some true):TyOf K H (.ref a) (.ref C)
theorem wA {x:V} {t:Value} (I:Inv X pins σ H s) (rx:RelV x u) (ty:TyOf X.K H x t) (e:PySem.W.kitOne X.K t c=some b) (h:∀ tk,Q (.bool b) { s with toks:=tk }):
  wpAny (model X.prog X.w) A (call (.builtin "isinstance") [u,c]) Q E s:=by
 cases ty with
 | non=>cases (show u=Value.none from rx); exact Ze PySem.W.kitx_none I.kIn True.intro e (λz=>nomatch z) h
 | bl y=>cases (show u=Value.bool y from rx); exact Ze PySem.W.kitx_bool I.kIn True.intro e (λz=>nomatch z) h
 | int i=>obtain ⟨t,q⟩:=(show ∃ t,u=Value.int i t from rx); cases q; exact Ze PySem.W.kitx_int I.kIn True.intro e (λz=>nomatch z) h
 | str y=>obtain ⟨t,q⟩:=(show ∃ t,u=Value.str y t from rx); cases q; exact Ze PySem.W.kitx_str I.kIn True.intro e (λz=>nomatch z) h
 | flt y=>obtain ⟨t,q⟩:=(show ∃ t,u=Value.float y t from rx); cases q; exact Ze PySem.W.kitx_float I.kIn True.intro e (λz=>nomatch z) h
 | @lst a xs ea=>
  cases (show u=Value.ref a from rx)
  obtain ⟨_,_,n,_,h1⟩:=(show bL X.prog X.w H s.heap a (.lst xs) from I.hok a _ ea)
  exact Ze PySem.W.kitx_list I.kIn ⟨_,h1,rfl⟩ e (λz=>nomatch z) h
 | @frz a ob xs ea=>
  cases (show u=Value.ref a from rx)
  obtain ⟨_,_,_,n,_,h1⟩:=(show bL X.prog X.w H s.heap a (.frz ob (.lst xs)) from I.hok a _ ea)
  exact Ze PySem.W.kitx_list I.kIn ⟨_,h1,rfl⟩ e (λz=>nomatch z) h
 | @tup a xs ea=>
  cases (show u=Value.ref a from rx)
  obtain ⟨_,_,_,p⟩:=(show bL X.prog X.w H s.heap a (.tup xs) from I.hok a _ ea)
  obtain ⟨o,h1,h2,_⟩:=p
  exact Ze PySem.W.kitx_tuple I.kIn ⟨o,h1,h2⟩ e (λz=>nomatch z) h
 | @dK a kvs ea=>
  cases (show u=Value.ref a from rx)
  obtain ⟨_,_,vs,_,p⟩:=(show bL X.prog X.w H s.heap a (.dK kvs) from I.hok a _ ea)
  obtain ⟨o,es,ep,h1,h2,_⟩:=p
  exact Ze PySem.W.kitx_dict I.kIn ⟨o,h1,h2.1⟩ e (λz=>nomatch z) h
 | @dT a kvs ea=>
  cases (show u=Value.ref a from rx)
  obtain ⟨_,_,xs,_,o,es,ep,h1,h2,_⟩:=(show bL X.prog X.w H s.heap a (.dT kvs) from I.hok a _ ea)
  exact Ze PySem.W.kitx_dict I.kIn ⟨o,h1,h2.1⟩ e (λz=>nomatch z) h
 | @ins a C dx fs ea cl ha hn htk hm=>
  cases (show u=Value.ref a from rx)
  obtain ⟨mA,O,_⟩:=Ah I.hok ea
  obtain ⟨od,J,_⟩:=O.look
  exact Ze (PySem.W.kitx_own (cl.get _) cl.hd ha hn htk hm) I.kIn J e (λz=>nomatch z) h
end
structure Room (k:Nat) (A:Around):Prop where
 hd:A.handled=none
 dp:A.depth + 3 * k + 5 < recursionLimit
 un:A.units + 16 * k + 200 < cLine
 gd:A.guards=some []
theorem Room.mono {k:Nat} (r:Room k A) (h:j<=k):Room j A:=⟨r.hd,by have:=r.dp; omega,by have:=r.un; omega,r.gd⟩
theorem Room.deeper {k:Nat} (r:Room (k + 1) A) (env:Env):Room k (A.deeper env):=
 ⟨r.hd,by have:=r.dp; show A.depth + 1 + 3 * k + 5 < _; omega,by have:=r.un; show A.units + 3 + 16 * k + 200 < _; omega,r.gd⟩
theorem Room.depth {k:Nat} (r:Room k A):A.depth < recursionLimit:=by have:=r.dp; omega
theorem Room.units {k:Nat} (r:Room k A):A.units + 64 < cLine:=by have:=r.un; omega
noncomputable def Fx:TA:=λ_ H Q=>Q [] H
noncomputable def ED (ta:TE) (tr:TA):TA:=λσ H Q=>ta σ H λx H1=>tr σ H1 λxs H2=>Q (x :: xs) H2
section
variable {X:Cx} {e:Expr} {es:List Expr} {te:TE} {t:TA} {pos:Pos}
theorem oZ:PA X [] Fx:=λ_ _ _ _ H Q I h=>Calls.spliced_nil ⟨[],H,I,.nil,h⟩
theorem lK (ha:PE X e te) (hr:PA X es t) (hs:autoParam (starEach (e :: es) X.env=(false,eval e X.env) :: starEach es X.env) Au.h1._auto_1):PA X (e :: es) (ED te t):=by
 intro pos pins s σ H Q I h
 rw [hs]
 show wpAny _ _ (spliced ((false,eval e X.env) :: backTo pos (starEach es X.env))) _ _ s
 refine U3 (thn (ha pins s σ H _ I h) λu s1 zq=>?_)
 obtain ⟨x,H1,I1,r1,q1⟩:=zq
 exact thn (hr pos pins s1 σ H1 _ I1 q1) λus s2 zq=>ex5 zq λxs H2 I2 r2 q2=>⟨x :: xs,H2,I2,.cons r1 r2,q2⟩
noncomputable def Fy (t:TA):TE:=λσ H Q=>t σ H λxs H1=>xs.length<=sizeLine/\∀ p,H1 p=none->Q (.ref p) (upd H1 p (.tup xs))
noncomputable def Fz (t:TA):TE:=λσ H Q=>t σ H λxs H1=>xs.length<=sizeLine/\∀ p,H1 p=none->Q (.ref p) (upd H1 p (.lst xs))
theorem CQ {x1} (h:PA X es t):PE X (.Tuple es x1 pos) (Fy t):=by
 intro pins s σ H Q I hq
 refine wpAny_Tuple_spliced (thn (h pos pins s σ H _ I hq) λus s1 ⟨xs,H1,I1,r,z,q⟩=>⟨by rw [<- r.length]; exact z,?_⟩)
 have hf:H1 s1.heap.objs.size=none:=I1.hok.fresh (Jb _)
 refine ⟨.ref s1.heap.objs.size,upd H1 s1.heap.objs.size (.tup xs),I1.laid (t':=s1.toks) (λb u e=>J7 _ e) (Jb _) ?_,rfl,q _ hf⟩
 exact ⟨z,us,r,⟨_,Ji _ rfl,rfl,_,rfl⟩⟩
theorem xR (h:PA X es t):PE X (.List es pos) (Fz t):=by
 intro pins s σ H Q I hq
 refine wpAny_List_spliced (thn (h pos pins s σ H _ I hq) λus s1 ⟨xs,H1,I1,r,z,q⟩=>⟨by rw [<- r.length]; exact z,?_⟩)
 have hf:H1 s1.heap.objs.size=none:=I1.hok.fresh (Jb _)
 refine ⟨.ref s1.heap.objs.size,upd H1 s1.heap.objs.size (.lst xs),I1.laid (t':=s1.toks) (λb u e=>J7 _ e) (Jb _) ?_,rfl,q _ hf⟩
 exact ⟨z,us,0,r,Ji _ rfl⟩
end
noncomputable abbrev Sp:=List V->Hp->VK->XK->Prop
noncomputable abbrev CXT:=List Env->Hp->Shared->XK->Value->Shared->Prop
structure Env0 (P:Program) (w:World) (K:PySem.W.Frag) (mg:Str->Option Value) (base:Heap) (A:Around) (outer:List Env) (s:Shared) (H:Hp):Prop where
 frames:A.frames=some outer
 mod:Mod K mg base
 bs:∀ b o,base.get? b=some o->s.heap.get? b=some o/\H b=none
 bsz:base.objs.size<=s.heap.objs.size
 funs:s.heap.FunFrames base outer
 frf:∀ b ∈ frs outer,H b=none
 hok:HOk P w H s.heap
 bare:AllBare s.gens
def CE (outer:List Env) (P:Program) (w:World) (H:Hp) (s:Shared) (Q:VK) (u:Value) (s':Shared):Prop:=
 ∃ v H',s'.os=s.os/\AllBare s'.gens/\Un (frs outer) [] H H' s.heap s'.heap/\HOk P w H' s'.heap/\RelV v u/\Q v H'
def CR (CX:CXT) (outer:List Env) (P:Program) (w:World) (H:Hp) (s:Shared) (Q:VK) (E:XK) (r:Result) (s':Shared):Prop:=
 match r with
 | .ok (.ret u)=>CE outer P w H s Q u s'
 | .ok _=>False
 | .error e=>CX outer H s E e s'
structure FnOk (P:Program) (w:World) (K:PySem.W.Frag) (mg:Str->Option Value) (base:Heap) (CX:CXT) (k:Nat) (f:Addr) (fd:FuncData) (ps:List Str) (sp:Sp):Prop where
 len:∀ vs H Q E,sp vs H Q E->vs.length=ps.length
 run:∀ (A:Around) (outer:List Env) (s:Shared) (H:Hp) (args:Args) (us:List Value) (vs:List V) (Q:VK) (E:XK),Room k A->Env0 P w K mg base A outer s H->BindsTo s fd args (ps.zip us)->Vals vs us->sp vs H Q E->
  codeAny (model P w) A (.call (.ref f) args) (CR CX outer P w H s Q E) s
section
variable {X:Cx} {pins:List (Addr × Obj)} {σ:St} {H:Hp} {s s':Shared}
theorem Inv.env0 (I:Inv X pins σ H s):Env0 X.prog X.w X.K X.mg X.base X.A X.stack s H:=
 ⟨I.ok.frames,I.ok.mod,I.bs,Y9 I.ok.bsz I.sz,I.stack,I.stkFree,I.hok,I.bare⟩
theorem Inv.after {Q:VK} (I:Inv X pins σ H s) (h:CE X.stack X.prog X.w H s Q u s'):EP X pins σ Q u s':=by
 obtain ⟨v,H',os,bare,un,hok,r,q⟩:=h
 obtain ⟨hh,g,d,t,os'⟩:=s'
 obtain rfl:os'=s.os:=os
 exact ⟨v,H',I.call (h':=hh) (g':=g) (d':=d) (t':=t) (ch:=[]) un hok bare (λb z=>absurd z (by simp)),r,q⟩
end
noncomputable def EE (sp:Sp) (dvs:List V) (E:XK) (t:TA):TE:=λσ H Q=>t σ H λvs H1=>sp (vs ++ dvs) H1 Q E
def Binds (K:PySem.W.Frag) (fd:FuncData) (ps:List Str) (ds:List Value):Prop:=
 ∀ (s:Shared) (us:List Value),K.In s.heap->(us ++ ds).length=ps.length->BindsTo s fd ⟨us,[]⟩ (ps.zip (us ++ ds))
theorem Binds.all {K:PySem.W.Frag} {fd:FuncData} {ps:List Str} (h:∀ us:List Value,us.length=ps.length->bindArgs fd ⟨us,[]⟩=pure (ps.zip us)):Binds K fd ps []:=λs us _ hl=>by
 rw [Yu] at hl ⊢
 exact .of_eq (h us hl)
def Passes (CX:CXT) (X:Cx) (E:XK):Prop:=∀ (pins:List (Addr × Obj)) (σ:St) (H:Hp) (s:Shared) (e:Value) (s':Shared),Inv X pins σ H s->CX X.stack H s E e s'->X.xe e s'
section
variable {X:Cx} {CX:CXT} {k:Nat} {f C:Addr} {fd:FuncData} {ps:List Str} {sp:Sp} {dvs:List V} {ds:List Value} {E:XK} {x m:Str} {p pos apos:Pos} {e o:Expr} {es:List Expr} {ta:TE} {t:TA}
theorem CS {pins:List (Addr × Obj)} {σ:St} {H:Hp} {s:Shared} {Q:VK} {us:List Value} {vs:List V} (F:FnOk X.prog X.w X.K X.mg X.base CX k f fd ps sp) (hr:Room k X.A) (hb:Binds X.K fd ps ds) (hd:Vals dvs ds) (hx:Passes CX X E)
  (I:Inv X pins σ H s) (r:Vals vs us) (h:sp (vs ++ dvs) H Q E):wpAny (model X.prog X.w) X.A (call (.ref f) us) (EP X pins σ Q) X.xe s:=by
 have r2:Vals (vs ++ dvs) (us ++ ds):=r.append hd
 have hl:(us ++ ds).length=ps.length:=by rw [<- r2.length]; exact F.len _ _ _ _ h
 refine wpAny_call (codeAny_mono (F.run X.A X.stack s H ⟨us,[]⟩ (us ++ ds) (vs ++ dvs) Q E hr I.env0 (hb s us I.kIn hl) r2 h) λr s' hq=>?_)
 cases r with
 | error e=>exact hx pins σ H s e s' I hq
 | ok fl=>
  cases fl with
  | ret u=>exact I.after hq
  | next=>exact False.elim hq
  | brk=>exact False.elim hq
  | cont=>exact False.elim hq
theorem Ai (F:FnOk X.prog X.w X.K X.mg X.base CX k f fd ps sp) (hr:Room k X.A) (hg:Gl X x) (hm:X.mg x=some (.ref f)) (hk:PySem.W.keepIn X.K (.ref f)=true) (hb:Binds X.K fd ps ds) (hd:Vals dvs ds) (hx:Passes CX X E)
  (ha:PA X (e :: es) t) (hdb:autoParam ((x == ("__debug__":Str))=false) Au.h2._auto_1) (he:autoParam (starEach (e :: es) X.env=(false,eval e X.env) :: starEach es X.env) Au.h1._auto_1) (hpl:autoParam ((backTo pos (starEach es X.env)).any (·.1)=false) Au.h1._auto_1):
  PE X (.Call (.Name x p) (e :: es) [] pos) (EE sp dvs E t):=by
 intro pins s σ H Q I h
 refine V0 (uM I hg hm ?_ hdb)
 refine PySem.W.callWith_K (h₀:=X.base) I.ok.mod.kin hk (thn (ha pos pins s σ H _ I h) λus s1 zq=>ex5 zq λvs H1 I1 r q=>⟨I1.kIn,?_⟩) he hpl
 exact CS F hr hb hd hx I1 r q
end
structure FnScope (N P:List Str) (sc:Scope):Prop where
 kind:sc.kind=.function
 co:sc.isCoroutine=false
 gen:sc.isGenerator=false
 nd:N.Nodup
 pre:N.take P.length=P
 par:∀ x ∈ P,sc.names.lookup x=some .local \/ sc.names.lookup x=some .cell
 nofree:∀ y ∈ sc.names,y.2 ≠ .free
theorem nT:∀ {binds:List (Str × Value)} {m:Str->Option Value},(∀ v,(x,v) ∉ binds)->bindL kindOf binds m x=m x
 | [],_,_=>rfl
 | (n,v) :: r,m,h=>by
  unfold bindL
  rw [nT λw hw=>h w (Yb _ hw)]
  split
  ·have:x ≠ n:=by rintro rfl; exact h v Ye
   simp [this]
  ·rfl
theorem nU:∀ {binds:List (Str × Value)} {m:Str->Option Value},(∀ v,(x,v) ∉ binds)->bindC kindOf binds m x=m x
 | [],_,_=>rfl
 | (n,v) :: r,m,h=>by
  unfold bindC
  rw [nU λw hw=>h w (Yb _ hw)]
  split
  ·rfl
  ·have:x ≠ n:=by rintro rfl; exact h v Ye
   simp [this]
theorem nV {v:Value}:∀ {P:List Str} {vs:List Value} {i:Nat} {m:Str->Option Value},P.Nodup->P[i]?=some x->vs[i]?=some v->kindOf x=some .local->
  bindL kindOf (P.zip vs) m x=some v
 | [],_,_,_,_,h,_,_=>by simp at h
 | _ :: _,[],_,_,_,_,h,_=>by simp at h
 | p :: P,w :: vs,0,m,nd,h1,h2,hk=>by
  simp at h1 h2; subst h1; subst h2
  show bindL kindOf ((p,w) :: P.zip vs) m p=_
  unfold bindL
  rw [nT λv hv=>(Vl.mp nd).1 (Wz hv).1,J8 hk]
  simp
 | p :: P,w :: vs,i + 1,m,nd,h1,h2,hk=>by
  show bindL kindOf ((p,w) :: P.zip vs) m x=_
  unfold bindL
  exact nV (i:=i) (Vl.mp nd).2 (by simpa using h1) (by simpa using h2) hk
theorem nW {v:Value}:∀ {P:List Str} {vs:List Value} {i:Nat} {m:Str->Option Value},P.Nodup->P[i]?=some x->vs[i]?=some v->kindOf x ≠ some .local->
  bindC kindOf (P.zip vs) m x=some v
 | [],_,_,_,_,h,_,_=>by simp at h
 | _ :: _,[],_,_,_,_,h,_=>by simp at h
 | p :: P,w :: vs,0,m,nd,h1,h2,hk=>by
  simp at h1 h2; subst h1; subst h2
  show bindC kindOf ((p,w) :: P.zip vs) m p=_
  unfold bindC
  rw [nU λv hv=>(Vl.mp nd).1 (Wz hv).1,Jc hk]
  simp
 | p :: P,w :: vs,i + 1,m,nd,h1,h2,hk=>by
  show bindC kindOf ((p,w) :: P.zip vs) m x=_
  unfold bindC
  exact nW (i:=i) (Vl.mp nd).2 (by simpa using h1) (by simpa using h2) hk
noncomputable def start (N:List Str) (vs:List V):St:=vs.map some ++ List.replicate (N.length - vs.length) none
noncomputable def qY (CX:CXT) (P:Program) (w:World) (K:PySem.W.Frag) (mg:Str->Option Value) (base:Heap) (N:List Str) (qual:Str) (scope:Scope) (f:Addr) (cd:Value) (A:Around) (outer:List Env) (s:Shared) (H:Hp) (E:XK):Cx where
 prog:=P
 w:=w
 K:=K
 mg:=mg
 base:=base
 A:=A.deeper (envOfC qual scope s.heap.objs.size f cd)
 N:=N
 s₀:=s
 H₀:=H
 env:=envOfC qual scope s.heap.objs.size f cd
 outer:=outer
 stack:=envOfC qual scope s.heap.objs.size f cd :: outer
 ex:=[]
 calm:=true
 fn:=λ_=>true
 pn:=[]
 xe:=λe s'=>wpAny (model P w) (A.deeper (envOfC qual scope s.heap.objs.size f cd)) (leaving (envOfC qual scope s.heap.objs.size f cd) e) (λ_ s''=>CX outer H s E e s'') (λe' s''=>CX outer H s E e' s'') s'
theorem qZ {sc:Scope} {n:Nat} (h:sc.names.lookup x=some .cell):∃ c,(cellsFrom n sc.names []).lookup x=some c:=by
 have q:=PySem.W.cellsFrom_some sc.names n [] (.inl h)
 exact Option.isSome_iff_exists.mp q
theorem wB {CX:CXT} {P:Program} {w:World} {K:PySem.W.Frag} {mg:Str->Option Value} {base:Heap} {N ps:List Str} {qual:Str} {scope:Scope} {f:Addr} {cd:Value} {A:Around} {outer:List Env} {s s1:Shared} {H:Hp} {E:XK} {us:List Value} {vs:List V}
  (S:FnScope N ps scope) (hd:A.handled=none) (e0:Env0 P w K mg base A outer s H) (hl:vs.length=ps.length) (r:Vals vs us)
  (x:InCallC s s.heap.objs.size (bindL (envOfC qual scope s.heap.objs.size f cd).kindOf (ps.zip us) λ_=>none) (cellsFrom (s.heap.objs.size + 1) scope.names []) (bindC (envOfC qual scope s.heap.objs.size f cd).kindOf (ps.zip us) λ_=>none) s1):
  Inv (qY CX P w K mg base N qual scope f cd A outer s H E) [] (start N vs) H s1:=by
 have hpl:ps.length<=N.length:=by have:=Q7 List.length S.pre; rw [Q8] at this; omega
 obtain ⟨h1,tk,rfl,hk⟩:=x.done
 have noA:∀ b:Addr,b ∉ (qY CX P w K mg base N qual scope f cd A outer s H E).ex:=λb z=>absurd (show b ∈ ([]:List Addr) from z) (by simp)
 refine ⟨⟨e0.mod,S.kind,rfl,rfl,Jb _,λy z c h1 h2=>?_,λy hy=>?_,λy c _ h=>?_,λ_=>hd,Around.frames_deeper e0.frames,.inr ⟨rfl,rfl⟩,λb z=>absurd z (noA b),e0.bs,e0.bsz,λb _ _=>noA b,λb z=>absurd z (noA b),e0.funs,e0.frf⟩,
  rfl,e0.bare,Un.kept hk,⟨_,x.toInCall.ns,λi y v h1 h2 h3=>?_⟩,λy c h=>⟨_,x.cell y c h⟩,e0.hok.fresh (Jb _),λy c h=>?_,λp hp=>absurd (show p ∈ ([]:List (Addr × Obj)) from hp) (by simp),e0.hok.kept hk,?_⟩
 ·exact name_of_addr x.apart (Wa h1) (Wa h2)
 ·have hy:scope.names.lookup y=some .cell \/ scope.names.lookup y=some .free:=hy
  rcases hy with hy | hy
  ·exact qZ hy
  ·exact absurd rfl (S.nofree _ (Wa hy))
 ·exact Vj (x.above y c (Wa h))
 ·have hi:i < vs.length:=by
   unfold start at h2
   by_cases hi:i < vs.length
   ·exact hi
   ·rw [Y5 (by simpa using hi)] at h2
    rw [Wc] at h2
    split at h2 <;> cases h2
  have ha:vs[i]?=some v:=by
   unfold start at h2
   rw [Jq (by simpa using hi),Yx] at h2
   cases e:vs[i]? with
   | none=>rw [e] at h2; cases h2
   | some a=>rw [e] at h2; cases h2; rfl
  obtain ⟨u,hu,rv⟩:=r.get ha
  have hp:ps[i]?=some y:=by
   rw [<- S.pre,List.getElem?_take_of_lt (by omega)]; exact h1
  have ndP:ps.Nodup:=by rw [<- S.pre]; exact S.nd.sublist (List.take_sublist _ _)
  refine ⟨u,rv,?_⟩
  rcases S.par y (Z1 hp) with k | k
  ·exact .inl ⟨k,nV ndP hp hu k⟩
  ·obtain ⟨c,e⟩:=qZ (n:=s.heap.objs.size + 1) k
   refine .inr ⟨.inl k,c,e,?_⟩
   have q:=x.cell y c e
   rw [nW ndP hp hu (by show scope.names.lookup y ≠ _; rw [k]; decide)] at q
   exact q
 ·exact e0.hok.fresh (Vj (x.above y c (Wa h)))
 ·unfold start
  show _=N.length
  rw [Jo,Jh,Wj]
  omega
theorem EF {CX:CXT} {P:Program} {w:World} {K:PySem.W.Frag} {mg:Str->Option Value} {base:Heap} {k:Nat} {f:Addr} {name qual:Str} {params:Arguments} {body:List Stmt} {scope:Scope} {dV kV doc pm cdv ct oc:Value} {an od:Option Addr}
  {osl:Array (Option Value)} {N ps:List Str} {sp:Sp} (lk:K.lookup f=some ⟨oc,od,.func (PySem.W.fnOf name qual params body scope dV kV doc pm an cdv ct),osl⟩) (hcd:PySem.W.codeIn K cdv qual=true) (S:FnScope N ps scope)
  (len:∀ vs H Q E,sp vs H Q E->vs.length=ps.length)
  (hbody:∀ (A:Around) (outer:List Env) (s:Shared) (H:Hp) (vs:List V) (Q:VK) (E:XK),Room k (A.deeper (envOfC qual scope s.heap.objs.size f cdv))->sp vs H Q E->
   ∃ t,PSs (qY CX P w K mg base N qual scope f cdv A outer s H E) body t/\t { nx:=λ_ H'=>Q .non H',rt:=Q } (start N vs) H):
  FnOk P w K mg base CX (k + 1) f (PySem.W.fnOf name qual params body scope dV kV doc pm an cdv ct) ps sp:=by
 refine ⟨len,λA outer s H args us vs Q E hr e0 hb r hsp=>?_⟩
 have hl:=len _ _ _ _ hsp
 have KX:K.In s.heap:=e0.mod.kin.keeps λb o e=>(e0.bs b o e).1
 have lim:s.heap.NoLimit:=e0.mod.nolimit.keeps λb o e=>(e0.bs b o e).1
 have hkind:∀ y ∈ ps.zip us,scope.names.lookup y.1=some .local \/ (scope.names.lookup y.1=some .cell/\((cellsFrom (s.heap.objs.size + 1) scope.names []).lookup y.1).isSome=true):=λ⟨n,v⟩ hy=>by
  rcases S.par n (Wz hy).1 with q | q
  ·exact .inl q
  ·exact .inr ⟨q,PySem.W.cellsFrom_some _ _ _ (.inl q)⟩
 refine codeAny_call_function hr.depth (KX _ _ lk) rfl S.co S.gen rfl (PySem.W.codeRec_of KX hcd) (hb _ _ _ _ ?_)
 refine wpAny_newFunctionEnv_cells S.kind hkind λenv he s1 x=>?_
 subst he
 refine ⟨lim.keeps x.toInCall.keep,codeAny_func ?_⟩
 obtain ⟨t,ht,hq⟩:=hbody A outer s H vs Q E (hr.deeper _) hsp
 have I:Inv (qY CX P w K mg base N qual scope f cdv A outer s H E) [] (start N vs) H s1:=wB S hr.hd e0 hl r x
 refine Ql (ht [] s1 (start N vs) H _ I hq) (λfl s' hs=>?_) λe s' hs=>hs
 have fin:∀ {σ':St} {H':Hp} {v:V} {u:Value},Inv (qY CX P w K mg base N qual scope f cdv A outer s H E) [] σ' H' s'->RelV v u->Q v H'->CE outer P w H s Q u s':=
  λ{σ' H' v u} J rv q=>⟨v,H',J.os,J.bare,J.base,J.hok,rv,q⟩
 cases fl with
 | ret u=>
  obtain ⟨v,σ',H',J,rv,q⟩:=hs
  exact fin J rv q
 | next=>
  obtain ⟨σ',H',J,q⟩:=hs
  exact fin (v:=V.non) (u:=Value.none) J rfl q
 | brk=>
  obtain ⟨_,_,_,q⟩:=hs
  exact False.elim q
 | cont=>
  obtain ⟨_,_,_,q⟩:=hs
  exact False.elim q
section
variable {X:Cx} {x:Str} {p pos:Pos} {e:Expr} {es:List Expr} {t:TA} {id T:String} {r:List V->Hp->VK->Prop}
noncomputable def tCB (r:List V->Hp->VK->Prop) (t:TA):TE:=λσ H Q=>t σ H λvs H1=>r vs H1 Q
theorem jH (hc:bw X (.builtin id) r) (hg:Gl X x) (hm:X.mg x=none) (hv:bootBuiltins x=some (.builtin id)) (ha:PA X (e :: es) t) (hn:autoParam (x ≠ "__name__") Au.h2._auto_1) (hdb:autoParam ((x == ("__debug__":Str))=false) Au.h2._auto_1)
  (he:autoParam (starEach (e :: es) X.env=(false,eval e X.env) :: starEach es X.env) Au.h1._auto_1) (hpl:autoParam ((backTo pos (starEach es X.env)).any (·.1)=false) Au.h1._auto_1):PE X (.Call (.Name x p) (e :: es) [] pos) (tCB r t):=by
 intro pins s σ H Q I h
 refine V0 (ig I hg hm hv ?_ hn hdb)
 exact PyProof.Rows.callWith_builtin1 (thn (ha pos pins s σ H _ I h) λus s1 zq=>ex5 zq λvs H1 I1 r1 q1=>hc pins s1 σ H1 vs us Q I1 r1 q1) he hpl
theorem nX (hc:bw X (.type T) r) (hg:Gl X x) (hm:X.mg x=none) (hv:bootBuiltins x=some (.type T)) (ha:PA X (e :: es) t) (hn:autoParam (x ≠ "__name__") Au.h2._auto_1) (hdb:autoParam ((x == ("__debug__":Str))=false) Au.h2._auto_1)
  (he:autoParam (starEach (e :: es) X.env=(false,eval e X.env) :: starEach es X.env) Au.h1._auto_1) (hpl:autoParam ((backTo pos (starEach es X.env)).any (·.1)=false) Au.h1._auto_1):PE X (.Call (.Name x p) (e :: es) [] pos) (tCB r t):=by
 intro pins s σ H Q I h
 refine V0 (ig I hg hm hv ?_ hn hdb)
 exact Q2 (thn (ha pos pins s σ H _ I h) λus s1 zq=>ex5 zq λvs H1 I1 r1 q1=>hc pins s1 σ H1 vs us Q I1 r1 q1) he hpl
end
end L2
namespace HT
open PySem PyProof.Rows
section
variable {prog:Program} {w:World} {A:Around} {E:Value->Shared->Prop} {s:Shared}
theorem cat_tup {t b:Addr} {vs ws:List Value} {Q:Value->Shared->Prop} (ht:IsTup s.heap t vs.toArray) (hb:IsTup s.heap b ws.toArray) (hv:vs ≠ [])
  (h1:ws=[]->Q (.ref t) s) (h2:ws ≠ []->Q (.ref s.heap.objs.size) { s with heap:=s.heap.push { cls:=.type "tuple",data:=.seq (vs ++ ws).toArray } })
  (hsz:vs.length + ws.length<=sizeLine):wpAny (model prog w) A (binaryOp .Add (.ref t) (.ref b)) Q E s:=by
 obtain ⟨⟨cls,dd,data,sl⟩,ho,hc,n,hd⟩:=id ht
 obtain ⟨⟨cls2,dd2,data2,sl2⟩,ho2,hc2,n2,hd2⟩:=id hb
 simp only at hc hd hc2 hd2
 subst hc hd hc2 hd2
 have e:vs.toArray ++ ws.toArray=(vs ++ ws).toArray:=by simp
 by_cases hw:ws=[]
 ·exact concat_meets ⟨_,ho,rfl⟩ ⟨_,ho2,rfl⟩ noFill_tuple_add seq_tuple_add V9 V6 (V1 _ _)
   (tuple_addW1 t b vs.toArray ws.toArray n n2 dd dd2 sl sl2 (by simpa using hv) (by simp [hw])) ⟨ho,ho2,h1 hw⟩
 ·refine concat_meets ⟨_,ho,rfl⟩ ⟨_,ho2,rfl⟩ noFill_tuple_add seq_tuple_add V9 V6 (V1 _ _)
   (tuple_addW2 t b vs.toArray ws.toArray n n2 dd dd2 sl sl2 (by simpa using hv) (by simpa using hw) (by rw [Ju,Ju]; exact hsz)) ⟨ho,ho2,?_⟩
  rw [e]
  exact h2 hw
noncomputable def sIx (n d:Nat):Option Int->Nat
 | none=>d
 | some v=>if v < 0 then (v + (n:Int)).toNat else min v.toNat n
theorem sIx_nat (n d k:Nat):sIx n d (some (k:Int))=min k n:=by
 show (if (k:Int) < 0 then ((k:Int) + (n:Int)).toNat else min (k:Int).toNat n)=min k n
 rw [Jc (by omega),Wh]
theorem CT (n d:Nat) (hd:d<=n) (o:Option Int):sIx n d o<=n:=by
 cases o with
 | none=>exact hd
 | some v=>
  show (if v < 0 then (v + (n:Int)).toNat else min v.toNat n)<=n
  by_cases hv:v < 0
  ·rw [J8 hv]; omega
  ·rw [Jc hv]; exact Nat.min_le_right _ _
theorem uU (v:Int) (n d:Nat):(if v < 0 then max (v + (n:Int)) 0 else min v (n:Int))=((sIx n d (some v):Nat):Int):=by
 show (if v < 0 then max (v + (n:Int)) 0 else min v (n:Int))=(((if v < 0 then (v + (n:Int)).toNat else min v.toNat n):Nat):Int)
 by_cases hv:v < 0
 ·simp only [J8 hv]; omega
 ·simp only [Jc hv]; omega
theorem tO (lo hi:Option Int) (n:Nat):Builtin.Slice.sliceAdjust lo hi 1 (n:Int)=(((sIx n 0 lo:Nat):Int),((sIx n n hi:Nat):Int)):=by
 have h1:¬ ((1:Int) < 0):=by omega
 unfold Builtin.Slice.sliceAdjust
 simp only [h1,Ys]
 refine Prod.ext ?_ ?_
 ·cases lo with
  | none=>rfl
  | some v=>exact uU v n 0
 ·cases hi with
  | none=>rfl
  | some v=>exact uU v n n
theorem tP (i j:Nat):Builtin.Slice.slicePlaces (i:Int) (j:Int) 1=j - i:=by
 unfold Builtin.Slice.slicePlaces
 have h1:(1:Int) > 0:=by omega
 simp only [h1,Yj,Int.ediv_one]
 split <;> omega
theorem lY {v:Value} {o:Option Int} {Q:Option Int->Shared->Prop} (p:IsPart v o) (h:Q o s):wpAny (model prog w) A (Builtin.Slice.slicePartIndex v) Q E s:=by
 cases p with
 | none=>exact slicePart_none h
 | int i t=>exact slicePart_int h
theorem gq {sl:Addr} {vl vu:Value} {lo hi:Option Int} {n:Nat} {Q:Int × Int × Nat->Shared->Prop} (hs:s.heap.IsSliceOf sl vl vu .none) (pl:IsPart vl lo) (pu:IsPart vu hi)
  (h:Q (((sIx n 0 lo:Nat):Int),1,sIx n n hi - sIx n 0 lo) s):wpAny (model prog w) A (Builtin.Slice.sliceApplied (.ref sl) (pure (n:Int))) Q E s:=by
 obtain ⟨os,hos,hcs,hds⟩:=id hs
 unfold Builtin.Slice.sliceApplied Builtin.Slice.sliceFields
 refine J6 (J6 (Yq hos hds (x:=vl) rfl (J6 (Yq hos hds (x:=vu) rfl (J6 (Yq hos hds (x:=.none) rfl (Jd ?_)))))))
 refine J6 (slicePart_none ?_)
 show wpAny _ _ (if ((1:Int) == 0)=true then _ else _) _ _ s
 rw [Jc (by decide)]
 refine J6 (lY pl (J6 (lY pu (J6 (Jd ?_)))))
 show wpAny _ _ (match Builtin.Slice.sliceAdjust lo hi 1 (n:Int) with | (lo,hi)=>pure (lo,(1:Int),Builtin.Slice.slicePlaces lo hi 1)) _ _ s
 rw [tO lo hi n]
 show wpAny _ _ (pure (((sIx n 0 lo:Nat):Int),(1:Int),Builtin.Slice.slicePlaces ((sIx n 0 lo:Nat):Int) ((sIx n n hi:Nat):Int) 1)) _ _ s
 rw [tP]
 exact Jd h
theorem xT (xs:Array Value) (i k:Nat):((List.range k).filterMap λ(m:Nat)=>xs[((i:Int) + (m:Int) * 1).toNat]?).toArray=((xs.toList.drop i).take k).toArray:=by
 have e:(λ(m:Nat)=>xs[((i:Int) + (m:Int) * 1).toNat]?)=λm=>xs[i + m]?:=by
  funext m
  have:((i:Int) + (m:Int) * 1).toNat=i + m:=by omega
  rw [this]
 rw [e]
 have:=pick_run xs i k
 rw [List.filterMap_map] at this
 have e2:((λx=>xs[x]?) ∘ λx=>i + x)=λm=>xs[i + m]?:=rfl
 rw [e2] at this
 rw [this]
theorem getItem_tuple_cut {t sl:Addr} {items:Array Value} {vl vu:Value} {lo hi:Option Int} {Q:Value->Shared->Prop} (ht:IsTup s.heap t items) (hs:s.heap.IsSliceOf sl vl vu .none) (pl:IsPart vl lo) (pu:IsPart vu hi)
  (hw:¬ (sIx items.size 0 lo=0/\sIx items.size items.size hi=items.size))
  (h:Q (.ref s.heap.objs.size) { s with heap:=s.heap.push { cls:=.type "tuple",data:=.seq ((items.toList.drop (sIx items.size 0 lo)).take (sIx items.size items.size hi - sIx items.size 0 lo)).toArray } })
  (hsz:items.size<=sizeLine):wpAny (model prog w) A (getItem (.ref t) (.ref sl)) Q E s:=by
 have htake:sizeOk (.seq ((items.toList.drop (sIx items.size 0 lo)).take (sIx items.size items.size hi - sIx items.size 0 lo)).toArray):=by
  show ((items.toList.drop (sIx items.size 0 lo)).take (sIx items.size items.size hi - sIx items.size 0 lo)).toArray.size<=sizeLine
  rw [Ju,Q8,Qi,Y1]
  omega
 have hj:sIx items.size items.size hi<=items.size:=CT _ _ (Jb _) hi
 obtain ⟨os,hos,hcs,hds⟩:=id hs
 have hTs:s.TypeIs (.ref sl) "slice":=⟨os,hos,hcs⟩
 unfold getItem
 try with_reducible refine Zc ?_
 first | refine J6 (Jd ?_) | skip
 refine J6 (wpAny_sequenceKey ht.typeIs (by decide) ?_)
 refine J6 (Z9 (name:=Str.ofString "__getitem__") ht.typeIs Qd
  (Zf Qd ht.typeIs entry_tuple_getitem ?_ (args_tuple_getitem _ _)))
 show wpAny _ _ (Builtin.Tuple.tupleItemsOf (.ref t) >>= _) _ _ s
 refine J6 (tupleItemsOf_ ht ?_)
 refine J6 (V2 hTs ?_)
 rw [J8 (by decide)]
 refine J6 (gq hs pl pu ?_)
 have hno:¬ ((((sIx items.size 0 lo:Nat):Int) == 0 && (1:Int) == 1 && (sIx items.size items.size hi - sIx items.size 0 lo) == items.size)=true):=by
  intro q
  rw [Yl,Yl] at q
  have q1:((sIx items.size 0 lo:Nat):Int)=0:=eq_of_beq q.1.1
  have q2:sIx items.size items.size hi - sIx items.size 0 lo=items.size:=eq_of_beq q.2
  exact hw ⟨by omega,by omega⟩
 show wpAny _ _ (if (((sIx items.size 0 lo:Nat):Int) == 0 && (1:Int) == 1 && (sIx items.size items.size hi - sIx items.size 0 lo) == items.size)=true then _ else _) _ _ s
 rw [Jc hno,xT]
 first
  | exact J6 (m:=Builtin.Tuple.tupleExact _) (Ym (Jd ⟨_,rfl,Jd h⟩) htake)
  | exact J6 (m:=Builtin.Tuple.tupleExact _) (Ym (J6 (Jd (Jd ⟨_,rfl,Jd h⟩))) htake)
  | exact J6 (J6 (m:=Builtin.Tuple.tupleExact _) (Ym (Jd (Jd ⟨_,rfl,Jd h⟩)) htake))
  | exact J6 (J6 (m:=Builtin.Tuple.tupleExact _) (Ym (Jd ⟨_,rfl,Jd h⟩) htake))
end
end HT
namespace L2
open PySem PySem.Spec PyProof.Rows
variable {pins:List (Addr × Obj)} {σ:St} {H:Hp} {s:Shared} {u v:Value} {P:Program} {w:World} {xs:List (List Key × Addr × Value)} {Q:Value→Shared→Prop} {X:Cx} {pos:Pos}
noncomputable abbrev TO:=St->Hp->(Option Int->Hp->Prop)->Prop
def PO (X:Cx) (e:Option Expr) (t:TO):Prop:=
 ∀ (pins:List (Addr × Obj)) (s:Shared) (σ:St) (H:Hp) (Q:Option Int->Hp->Prop),Inv X pins σ H s->t σ H Q->
  wpAny (model X.prog X.w) X.A (evalPart e X.env) (λu s'=>∃ o H',Inv X pins σ H' s'/\IsPart u o/\Q o H') X.xe s
noncomputable def Aj:TO:=λ_ H Q=>Q none H
noncomputable def EG (t:TE):TO:=λσ H Q=>t σ H λx H1=>∃ i,x=.int i/\Q (some i) H1
section
variable {X:Cx} {e:Expr} {te:TE} {lo hi:Option Expr} {tl th:TO} {pos p2:Pos}
theorem Ak:PO X none Aj:=by
 intro pins s σ H Q I h
 rw [evalPart_none]
 exact Jd ⟨none,H,I,.none,h⟩
theorem Am (h:PE X e te):PO X (some e) (EG te):=by
 intro pins s σ H Q I hw
 rw [evalPart_some]
 refine thn (h pins s σ H _ I hw) λu s1 zq=>?_
 obtain ⟨x,H1,I1,r1,q1⟩:=zq
 obtain ⟨i,rfl,q⟩:=q1
 obtain ⟨t,rfl⟩:=r1
 exact ⟨some i,H1,I1,.int i t,q⟩
def SlR (X:Cx) (r:V->Option Int->Option Int->Hp->VK->Prop):Prop:=
 ∀ (pins:List (Addr × Obj)) (s:Shared) (σ:St) (H:Hp) (x:V) (v vl vu:Value) (lo hi:Option Int) (sl:Addr) (Q:VK),Inv X pins σ H s->RelV x v->s.heap.IsSliceOf sl vl vu .none->IsPart vl lo->IsPart vu hi->r x lo hi H Q->
  ∃ T id,typeLookup (.type T) "__getitem__" = pure (some (.builtin id))/\s.TypeIs v T/\wpAny (model X.prog X.w) X.A (getItem v (.ref sl)) (EP X pins σ Q) X.xe s
noncomputable def tSl (r:V->Option Int->Option Int->Hp->VK->Prop) (te:TE) (tl th:TO):TE:=λσ H Q=>te σ H λx H1=>tl σ H1 λl H2=>th σ H2 λu H3=>r x l u H3 Q
theorem xV {r:V->Option Int->Option Int->Hp->VK->Prop} (hr:SlR X r) (he:PE X e te) (hl:PO X lo tl) (hu:PO X hi th):PE X (.Subscript e (.Slice lo hi none p2) pos) (tSl r te tl th):=by
 intro pins s σ H Q I h
 refine Subscript_ (thn (he pins s σ H _ I h) λv s1 zq=>?_)
 obtain ⟨x,H1,I1,r1,q1⟩:=zq
 refine wpAny_Slice (thn (hl pins s1 σ H1 _ I1 q1) λvl s2 zq=>ex5 zq λl H2 I2 pl q2=>thn (hu pins s2 σ H2 _ I2 q2) λvu s3 zq=>?_)
 obtain ⟨u,H3,I3,pu,q3⟩:=zq
 rw [evalPart_none]
 refine Jd ?_
 have I4:Inv X pins σ H3 { s3 with heap:=s3.heap.push { cls:=.type "slice",data:=.fields #[vl,vu,.none] } }:=I3.kept (t':=s3.toks) λb ob q=>J7 _ q
 obtain ⟨T,id,hT,ht,hg⟩:=hr pins { s3 with heap:=s3.heap.push { cls:=.type "slice",data:=.fields #[vl,vu,.none] } } σ H3 x v vl vu l u s3.heap.objs.size Q I4 r1 (Heap.IsSliceOf.new ..) pl pu q3
 show wpAny (model X.prog X.w) X.A (subscriptTail e (.Slice lo hi none p2) v (.ref s3.heap.objs.size)) (EP X pins σ Q) X.xe { s3 with heap:=s3.heap.push { cls:=.type "slice",data:=.fields #[vl,vu,.none] } }
 exact tail_any (ops:=[.ref s3.heap.objs.size,v]) ht hT hg (by with_unfolding_all rfl)
noncomputable def rf (xs:List V) (lo hi:Option Int):List V:=(xs.drop (HT.sIx xs.length 0 lo)).take (HT.sIx xs.length xs.length hi - HT.sIx xs.length 0 lo)
theorem kX (xs:List V) (lo hi:Option Int):(rf xs lo hi).length<=xs.length:=by
 unfold rf
 rw [Q8,Qi]
 omega
noncomputable def FA (K:PySem.W.Frag):V->Option Int->Option Int->Hp->VK->Prop:=λx lo hi H Q=>∃ a xs,x=.ref a/\SqT K H a xs/\
 ¬ (HT.sIx xs.length 0 lo=0/\HT.sIx xs.length xs.length hi=xs.length)/\∀ p,H p=none->Q (.ref p) (upd H p (.tup (rf xs lo hi)))
theorem CU:SlR X (FA X.K):=by
 intro pins s σ H x v vl vu lo hi sl Q I rx hs pl pu h
 obtain ⟨a,xs,rfl,hx,hw,q⟩:=h
 cases rx
 obtain ⟨its,r,ht,hz⟩:=I.tuple hx
 have hlen:its.toArray.size=xs.length:=by rw [Ju]; exact r.length.symm
 refine ⟨"tuple",_,PyProof.Rows.slot_tuple_getitem.lookup,ht.typeIs,?_⟩
 refine HT.getItem_tuple_cut ht hs pl pu (by rw [hlen]; exact hw) ?_ (by rw [hlen]; exact hz)
 rw [hlen]
 refine ⟨.ref s.heap.objs.size,_,I.laid (t':=s.toks) (o:=.tup (rf xs lo hi)) (λb ob q=>J7 _ q) (Jb _) ?_,rfl,q _ (I.hok.fresh (Jb _))⟩
 exact ⟨Y9 (kX xs lo hi) hz,_,(r.drop (HT.sIx xs.length 0 lo)).take (HT.sIx xs.length xs.length hi - HT.sIx xs.length 0 lo),IsTup.new _ _⟩
noncomputable def EH (K:PySem.W.Frag):R2:=λx y H Q=>∃ a b xs ys,x=.ref a/\y=.ref b/\SqT K H a xs/\SqT K H b ys/\xs ≠ []/\xs.length + ys.length<=sizeLine/\
 (ys=[]->Q (.ref a) H)/\(ys ≠ []->∀ p,H p=none->Q (.ref p) (upd H p (.tup (xs ++ ys))))
theorem Vals.nil_iff {xs:List V} {us:List Value} (r:Vals xs us):us=[]↔xs=[]:=by
 cases r with
 | nil=>simp
 | cons _ _=>simp
theorem An:OpR X (binaryOp .Add) (EH X.K):=by
 intro pins s σ H x y v u Q I rx ry h
 obtain ⟨a,b,xs,ys,rfl,rfl,ha,hb,hx,hz,q1,q2⟩:=h
 cases rx
 cases ry
 obtain ⟨its,r1,p1,_⟩:=I.tuple ha
 obtain ⟨its2,r2,p2,_⟩:=I.tuple hb
 refine HT.cat_tup p1 p2 (λz=>hx (r1.nil_iff.mp z)) (λz=>⟨.ref a,H,I,rfl,q1 (r2.nil_iff.mp z)⟩) (λz=>?_) (by rw [<- r1.length,<- r2.length]; exact hz)
 refine ⟨.ref s.heap.objs.size,_,I.laid (t':=s.toks) (o:=.tup (xs ++ ys)) (λb ob q=>J7 _ q) (Jb _) ?_,rfl,q2 (λw=>z (r2.nil_iff.mpr w)) _ (I.hok.fresh (Jb _))⟩
 exact ⟨by rw [Jo]; exact hz,_,r1.append r2,IsTup.new _ _⟩
end
noncomputable def ixN (n:Nat) (i:Int):Option Nat:=if 0<=i then (if i < n then some i.toNat else none) else if -(n:Int)<=i then some (i + n).toNat else none
noncomputable def atI {α:Type} (xs:List α) (i:Int):Option α:=(ixN xs.length i).bind λj=>xs[j]?
theorem uV {n:Nat} {i:Int} {j:Nat} (h:ixN n i=some j):seqIndex? i n=some j/\j < n/\-(n:Int)<=i/\i < n:=by
 unfold ixN at h
 by_cases h0:0<=i
 ·rw [J8 h0] at h
  by_cases h1:i < n
  ·rw [J8 h1] at h
   have e:i.toNat=j:=Yd h
   exact ⟨by rw [seqIndex_of h0 h1,e],by omega,by omega,h1⟩
  ·rw [Jc h1] at h; cases h
 ·rw [Jc h0] at h
  by_cases h1:-(n:Int)<=i
  ·rw [J8 h1] at h
   have e:(i + n).toNat=j:=Yd h
   exact ⟨by rw [seqIndex_neg (by omega) h1,e],by omega,h1,by omega⟩
  ·rw [Jc h1] at h; cases h
theorem o6 {α:Type} {xs:List α} {i:Int} {v:α} (h:atI xs i=some v):∃ j,seqIndex? i xs.length=some j/\xs[j]?=some v/\j < xs.length/\-(xs.length:Int)<=i/\i < xs.length:=by
 unfold atI at h
 cases e:ixN xs.length i with
 | none=>rw [e] at h; cases h
 | some j=>
  rw [e] at h
  obtain ⟨h1,h2,h3,h4⟩:=uV e
  exact ⟨j,h1,h,h2,h3,h4⟩
theorem Ao {α:Type} {xs:List α} {j:Nat} {v:α} (h:xs[j]?=some v):atI xs (j:Int)=some v:=by
 have hj:j < xs.length:=(J9.mp h).1
 have e:ixN xs.length (j:Int)=some j:=by
  unfold ixN
  rw [J8 (by omega),J8 (by omega)]; simp
 unfold atI; rw [e]; exact h
def uW (b:Expr):Prop:=∀ o i,subscripted b false o i=operate [o,i] (getItem o i)
def IxR (X:Cx) (r:R2):Prop:=
 ∀ (value slice:Expr) (pins:List (Addr × Obj)) (s:Shared) (σ:St) (H:Hp) (x y:V) (v u:Value) (Q:VK),Inv X pins σ H s->RelV x v->RelV y u->r x y H Q->
  subscripted slice false v u=operate [v,u] (getItem v u)->wpAny (model X.prog X.w) X.A (subscriptTail value slice v u) (EP X pins σ Q) X.xe s
def MtR (X:Cx) (id:String) (r:V->List V->Hp->VK->Prop):Prop:=
 ∀ (pins:List (Addr × Obj)) (s:Shared) (σ:St) (H:Hp) (x:V) (xs:List V) (v:Value) (us:List Value) (Q:VK),Inv X pins σ H s->RelV x v->Vals xs us->r x xs H Q->
  wpAny (model X.prog X.w) X.A (call (.builtin id) (v :: us)) (EP X pins σ Q) X.xe s
section
variable {X:Cx} {a b:Expr} {ta tb:TE} {pos:Pos}
theorem IxR.or {r r':R2} (h:IxR X r) (h':IxR X r'):IxR X (λx y H Q=>r x y H Q \/ r' x y H Q):=by
 intro value slice pins s σ H x y v u Q I rx ry q hs
 rcases q with q | q
 ·exact h value slice pins s σ H x y v u Q I rx ry q hs
 ·exact h' value slice pins s σ H x y v u Q I rx ry q hs
theorem EI {r:R2} (hr:IxR X r) (ha:PE X a ta) (hb:PE X b tb) (hs:uW b):PE X (.Subscript a b pos) (tOp r ta tb):=by
 intro pins s σ H Q I h
 exact Subscript_ (CD ha hb I h λv u s2 x y H2 I2 rx ry q=>hr a b pins s2 σ H2 x y v u Q I2 rx ry q (hs _ _))
noncomputable def EJ (K:PySem.W.Frag):R2:=λx y H Q=>∃ p xs i v,x=.ref p/\y=.int i/\SqL K H p xs/\atI xs i=some v/\Q v H
noncomputable def EK (K:PySem.W.Frag):R2:=λx y H Q=>∃ p xs i v,x=.ref p/\y=.int i/\SqT K H p xs/\atI xs i=some v/\Q v H
noncomputable def EL:R2:=λx y H Q=>∃ z i c,x=.str z/\y=.int i/\z.length<=sizeLine/\atI z.cps.toList i=some c/\Q (.str ⟨#[c]⟩) H
theorem Ap:IxR X (EJ X.K):=by
 intro value slice pins s σ H x y v u Q I rx ry h hs
 obtain ⟨p,xs,i,z,rfl,rfl,hq,he,q⟩:=h
 cases rx
 obtain ⟨t,rfl⟩:=ry
 obtain ⟨its,r,pl,hz⟩:=I.list hq
 obtain ⟨j,h1,h2,h3,h4,h5⟩:=o6 he
 obtain ⟨w,ew,rw'⟩:=r.get h2
 have hl:=r.length
 have hn:=kx
 have fin:EP X pins σ Q w s:=⟨z,H,I,rw',q⟩
 by_cases h0:0<=i
 ·have hj:i.toNat=j:=by
   rw [seqIndex_of h0 h5] at h1
   exact Yd h1
  exact item_listR pl.isList h0 (by omega) (by rw [hj]; simpa using ew) fin hs
 ·have hj:(i + (its.toArray.size:Int)).toNat=j:=by
   rw [seqIndex_neg (by omega) h4] at h1
   rw [Ju,<- hl]
   exact Yd h1
  exact subscriptTail_builtinR (x:=w) pl.isList.typeIs slot_list_getitem.lookup
   (wpAny_getItem_list_neg (Q:=λr s'=>r=w/\EP X pins σ Q r s') pl.isList (by omega) (by rw [Ju] <;> omega) (by omega) (by rw [hj]; simpa using ew) ⟨rfl,fin⟩) hs
theorem o7:IxR X (EK X.K):=by
 intro value slice pins s σ H x y v u Q I rx ry h hs
 obtain ⟨p,xs,i,z,rfl,rfl,hq,he,q⟩:=h
 cases rx
 obtain ⟨t,rfl⟩:=ry
 obtain ⟨its,r,pl,hz⟩:=I.tuple hq
 obtain ⟨j,h1,h2,h3,h4,h5⟩:=o6 he
 obtain ⟨w,ew,rw'⟩:=r.get h2
 have hl:=r.length
 have hn:=kx
 have fin:EP X pins σ Q w s:=⟨z,H,I,rw',q⟩
 exact subscriptTail_builtinR (x:=w) pl.typeIs slot_tuple_getitem.lookup
  (getItem_tuple (j:=j) (Q:=λr s'=>r=w/\EP X pins σ Q r s') pl (by omega) (by omega) (by rw [Ju,<- hl]; exact h1) (by simpa using ew) ⟨rfl,fin⟩) hs
theorem CV:IxR X EL:=by
 intro value slice pins s σ H x y v u Q I rx ry h hs
 obtain ⟨z,i,c,rfl,rfl,hz,he,q⟩:=h
 obtain ⟨t,rfl⟩:=rx
 obtain ⟨t',rfl⟩:=ry
 obtain ⟨j,h1,h2,h3,h4,h5⟩:=o6 he
 have hl:z.cps.toList.length=z.length:=by simp [Str.length]
 rw [hl] at h1 h4 h5
 have hn:=kx
 exact tail_any (typeIs_str s z t) slot_str_getitem.lookup (getItem_str (c:=c) (by
  have e1:decide (i < -(2 ^ 63:Int))=false:=Jy (by omega)
  have e2:decide (i >= 2 ^ 63)=false:=Jy (by omega)
  rw [e1,e2,Bool.or_false]) (by rw [h1]; simpa using h2) ⟨.str ⟨#[c]⟩,H,I.tok _,⟨_,rfl⟩,q⟩) hs
noncomputable def rIx (K:PySem.W.Frag):R2:=λx y H Q=>EJ K x y H Q \/ EK K x y H Q \/ EL x y H Q
theorem CW:IxR X (rIx X.K):=Ap.or (o7.or CV)
theorem tQ (its:List Value) (n j:Nat) (u:Value):Obj.mapSeq (·.setIfInBounds j u) { cls:=.type "list",data:=.seq its.toArray n }={ cls:=.type "list",data:=.seq (its.set j u).toArray n }:=by
 simp [Obj.mapSeq]
theorem Inv.lst {pins:List (Addr × Obj)} {σ:St} {H:Hp} {s:Shared} {p:Addr} {xs:List V} (I:Inv X pins σ H s) (h:H p=some (.lst xs)):
  ∃ (its:List Value) (n:Nat),Vals xs its/\s.heap.get? p=some { cls:=.type "list",data:=.seq its.toArray n }/\xs.length<=sizeLine:=by
 obtain ⟨z,its,n,r,e⟩:=I.hok p _ h
 exact ⟨its,n,r,e,z⟩
theorem Inv.lstUpd {p:Addr} {xs ys:List V} {its its':List Value} {n n':Nat} {f:Obj->Obj} (I:Inv X pins σ H s) (h:H p=some (.lst xs))
  (ho:s.heap.get? p=some { cls:=.type "list",data:=.seq its.toArray n }) (hf:f { cls:=.type "list",data:=.seq its.toArray n }={ cls:=.type "list",data:=.seq its'.toArray n' }) (r:Vals ys its') (hz:ys.length<=sizeLine) (t:Nat):
  Inv X pins σ (upd H p (.lst ys)) { s with heap:=s.heap.update p f,toks:=t }:=by
 have e:(s.heap.update p f).get? p=some { cls:=.type "list",data:=.seq its'.toArray n' }:=by
  rw [Qp f ho (by rw [hf] <;> rfl),hf]
 refine I.write (x:=p) (e:=p) (by rw [h]; trivial) (.inl rfl) (λb u hb q=>(Zh _ _ (Ne.symm hb)).trans q) ⟨_,e⟩ ?_
 exact ⟨hz,its',n',r,e⟩
noncomputable def EN:V->V->V->Hp->(Hp->Prop)->Prop:=λo i v H Q=>∃ p xs k j,o=.ref p/\i=.int k/\H p=some (.lst xs)/\ixN xs.length k=some j/\Q (upd H p (.lst (xs.set j v)))
theorem set_list:oY X EN:=by
 intro pins s σ H o i v ov iv u Q I ro ri rv h
 obtain ⟨p,xs,k,j,rfl,rfl,hp,hj,q⟩:=h
 cases ro
 obtain ⟨t,rfl⟩:=ri
 obtain ⟨its,n,r,ho,hz⟩:=I.lst hp
 obtain ⟨h1,h2,h3,h4⟩:=uV hj
 have hl:=r.length
 have hn:=kx
 have I':Inv X pins σ (upd H p (.lst (xs.set j v))) { s with heap:=s.heap.update p (Obj.mapSeq (·.setIfInBounds j u)) }:=
  I.lstUpd hp ho (tQ its n j u) (r.set rv j) (by rw [Zr]; exact hz) s.toks
 by_cases h0:0<=k
 ·have hk:k.toNat=j:=by
   rw [seqIndex_of h0 h4] at h1
   exact Yd h1
  exact PySem.W.ki_setAt ho h0 (by omega) (by rw [Ju,<- hl]; exact h4) (by rw [hk]; exact ⟨_,I',q⟩)
 ·have hk:(k + (its.toArray.size:Int)).toNat=j:=by
   rw [seqIndex_neg (by omega) h3] at h1
   rw [Ju,<- hl]
   exact Yd h1
  exact PySem.W.ki_setBack ho (by omega) (by rw [Ju,<- hl]; exact h3) (by omega) (by rw [hk]; exact ⟨_,I',q⟩)
theorem o8 (lo hi:Option Int) (n:Nat):(sliceBounds lo hi none n).1=((HT.sIx n 0 lo:Nat):Int)/\(sliceBounds lo hi none n).2.1=((HT.sIx n n hi:Nat):Int)/\(sliceBounds lo hi none n).2.2=1:=by
 refine ⟨?_,?_,rfl⟩
 ·cases lo with
  | none=>simp [sliceBounds,HT.sIx]
  | some i=>
   simp only [sliceBounds,HT.sIx,Vd,show (1:Int) > 0 by decide,Yj]
   by_cases h:i < 0
   ·simp only [h,Yj] <;> omega
   ·simp only [h,Ys] <;> omega
 ·cases hi with
  | none=>simp [sliceBounds,HT.sIx]
  | some i=>
   simp only [sliceBounds,HT.sIx,Vd,show (1:Int) > 0 by decide,Yj]
   by_cases h:i < 0
   ·simp only [h,Yj] <;> omega
   ·simp only [h,Ys] <;> omega
theorem nB (its:List Value) (lo hi:Option Int):slicePick its.toArray lo hi none=((its.drop (HT.sIx its.length 0 lo)).take (HT.sIx its.length its.length hi - HT.sIx its.length 0 lo)).toArray:=by
 obtain ⟨h1,h2,h3⟩:=o8 lo hi its.toArray.size
 unfold slicePick
 rw [h1,h2,h3]
 simp only [sliceRange_one,pick_run,Ju] <;> rfl
noncomputable def FC (K:PySem.W.Frag):V->Option Int->Option Int->Hp->VK->Prop:=λx lo hi H Q=>∃ a xs,x=.ref a/\SqL K H a xs/\∀ p,H p=none->Q (.ref p) (upd H p (.lst (rf xs lo hi)))
theorem Aq:SlR X (FC X.K):=by
 intro pins s σ H x v vl vu lo hi sl Q I rx hs pl pu h
 obtain ⟨a,xs,rfl,hx,q⟩:=h
 cases rx
 obtain ⟨its,r,ht,hz⟩:=I.list hx
 have hlen:=r.length
 refine ⟨"list",_,slot_list_getitem.lookup,ht.isList.typeIs,?_⟩
 refine wpAny_getItem_list_slice ht.isList hs pl pu .none (by simp) ?_ (by rw [Ju] <;> omega)
 rw [nB,<- hlen]
 refine ⟨.ref s.heap.objs.size,_,I.laid (t':=s.toks) (o:=.lst (rf xs lo hi)) (λb ob q=>J7 _ q) (Jb _) ?_,rfl,q _ (I.hok.fresh (Jb _))⟩
 exact ⟨Y9 (kX xs lo hi) hz,_,0,(r.drop (HT.sIx xs.length 0 lo)).take (HT.sIx xs.length xs.length hi - HT.sIx xs.length 0 lo),Ji _ rfl⟩
noncomputable def jg:V->Bool
 | .non=>true
 | .bl _=>true
 | .int _=>true
 | .str _=>true
 | _=>false
noncomputable def eqV:V->V->Bool
 | .non,.non=>true
 | .bl a,.bl b=>a == b
 | .bl a,.int b=>(if a then 1 else 0) == b
 | .int a,.bl b=>a == (if b then 1 else 0)
 | .int a,.int b=>a == b
 | .str a,.str b=>a == b
 | _,_=>false
theorem CY {A:Around} {y x:V} (ry:RelV y u) (rx:RelV x v) (fy:jg y=true) (fx:jg x=true):SeqAt.EqAt A s u v (eqV y x):=by
 cases y with
 | non=>
  cases ry
  cases x with
  | non=>cases rx; exact SeqAt.EqAt.same _
  | bl b=>cases rx; exact SeqAt.EqAt.none_bool b
  | int b=>obtain ⟨t,rfl⟩:=rx; exact SeqAt.EqAt.none_int b t
  | str b=>obtain ⟨t,rfl⟩:=rx; exact SeqAt.EqAt.none_str b t
  | _=>exact absurd (show false=true from fx) Jl
 | bl a=>
  cases ry
  cases x with
  | non=>cases rx; exact SeqAt.EqAt.bool_none a
  | bl b=>cases rx; exact SeqAt.EqAt.bool_bool a b
  | int b=>obtain ⟨t,rfl⟩:=rx; exact SeqAt.EqAt.bool_int a b t
  | str b=>obtain ⟨t,rfl⟩:=rx; exact SeqAt.EqAt.bool_str a b t
  | _=>exact absurd (show false=true from fx) Jl
 | int a=>
  obtain ⟨t',rfl⟩:=ry
  cases x with
  | non=>cases rx; exact SeqAt.EqAt.int_none a t'
  | bl b=>cases rx; exact SeqAt.EqAt.int_bool a t' b
  | int b=>obtain ⟨t,rfl⟩:=rx; exact SeqAt.EqAt.int_int a t' b t
  | str b=>obtain ⟨t,rfl⟩:=rx; exact SeqAt.EqAt.int_str a t' b t
  | _=>exact absurd (show false=true from fx) Jl
 | str a=>
  obtain ⟨t',rfl⟩:=ry
  cases x with
  | non=>cases rx; exact SeqAt.EqAt.str_none a t'
  | bl b=>cases rx; exact SeqAt.EqAt.str_bool a t' b
  | int b=>obtain ⟨t,rfl⟩:=rx; exact SeqAt.EqAt.str_int a t' b t
  | str b=>obtain ⟨t,rfl⟩:=rx; exact SeqAt.EqAt.str_str a t' b t
  | _=>exact absurd (show false=true from fx) Jl
 | _=>exact absurd (show false=true from fy) Jl
noncomputable def eqU (x:V) (u:Value):Bool:=match u with
 | .none=>eqV .non x
 | .bool b=>eqV (.bl b) x
 | .int i _=>eqV (.int i) x
 | .str z _=>eqV (.str z) x
 | _=>false
theorem xW {x y:V} (r:RelV y u) (f:jg y=true):eqU x u=eqV y x:=by
 cases y with
 | non=>cases r; rfl
 | bl b=>cases r; rfl
 | int i=>obtain ⟨t,rfl⟩:=r; rfl
 | str z=>obtain ⟨t,rfl⟩:=r; rfl
 | _=>exact absurd (show false=true from f) Jl
theorem o9 {x:V}:∀ {xs:List V} {us:List Value},Vals xs us->xs.all jg=true->us.any (eqU x)=xs.any λy=>eqV y x
 | _,_,.nil,_=>rfl
 | y :: xs,u :: us,.cons r t,f=>by
  rw [Wu,Yl] at f
  rw [Q5,Q5,xW r f.1,o9 t f.2]
theorem lZ {A:Around} {x:V} (rx:RelV x v) (fx:jg x=true):∀ {xs:List V} {us:List Value},Vals xs us->xs.all jg=true->∀ u ∈ us,SeqAt.EqAt A s u v (eqU x u)
 | _,_,.nil,_=>λu hu=>by cases hu
 | y :: xs,u :: us,.cons r t,f=>λu' hu=>by
  rw [Wu,Yl] at f
  rcases Jg.mp hu with rfl | hu
  ·rw [xW r f.1]; exact CY r rx f.1 fx
  ·exact lZ rx fx t f.2 u' hu
noncomputable def inV (x:V) (xs:List V):Bool:=xs.any λy=>eqV y x
noncomputable def rIn (K:PySem.W.Frag) (neg:Bool):R2:=λx y H Q=>∃ p xs,y=.ref p/\(SqL K H p xs \/ SqT K H p xs)/\jg x=true/\xs.all jg=true/\Q (.bl (if neg then !inV x xs else inV x xs)) H
theorem pd:OpR X (compareOp .NotIn) (rIn X.K true):=by
 intro pins s σ H x y v u Q I rx ry h
 obtain ⟨p,xs,rfl,hq,fx,fs,q⟩:=h
 cases ry
 rcases hq with hq | hq
 ·obtain ⟨its,r,pl,hz⟩:=I.list hq
  refine SeqAt.notIn_listAt (eqU x) pl.isList (λw hw=>lZ rx fx r fs w (by simpa using hw)) ⟨.bl _,H,I,rfl,?_⟩
  rw [show its.toArray.any (eqU x)=its.any (eqU x) by simp,o9 r fs]
  exact q
 ·obtain ⟨its,r,pl,hz⟩:=I.tuple hq
  refine SeqAt.notIn_tupleAt (eqU x) pl (λw hw=>lZ rx fx r fs w (by simpa using hw)) ⟨.bl _,H,I,rfl,?_⟩
  rw [show its.toArray.any (eqU x)=its.any (eqU x) by simp,o9 r fs]
  exact q
theorem pe:bw X (.builtin "len") (λxs H Q=>∃ p ys,xs=[.ref p]/\(SqL X.K H p ys \/ SqT X.K H p ys)/\Q (.int ys.length) H):=by
 intro pins s σ H xs us Q I r h
 obtain ⟨p,ys,rfl,hq,q⟩:=h
 obtain ⟨u,rfl,rx⟩:=W9 r
 cases rx
 have hn:=kx
 rcases hq with hq | hq
 ·obtain ⟨its,r',pl,hz⟩:=I.list hq
  have hlen:=r'.length
  exact Calls.call_len_list pl.isList (by simp only [Ju] <;> omega) ⟨.int ys.length,H,I.tok _,⟨s.toks + 1,by rw [Ju,hlen]⟩,q⟩
 ·obtain ⟨its,r',pl,hz⟩:=I.tuple hq
  have hlen:=r'.length
  exact len_tuple pl (by simp only [Ju] <;> omega) ⟨.int ys.length,H,I.tok _,⟨s.toks + 1,by rw [Ju,hlen]⟩,q⟩
theorem pf:bw X (.builtin "len") (λxs H Q=>∃ z,xs=[.str z]/\z.length<=sizeLine/\Q (.int z.length) H):=by
 intro pins s σ H xs us Q I r h
 obtain ⟨z,rfl,hz,q⟩:=h
 obtain ⟨u,rfl,t,rfl⟩:=W9 r
 have hn:=kx
 exact len_str (by omega) ⟨.int z.length,H,I.tok _,⟨_,rfl⟩,q⟩
theorem jh:bw X (.type "tuple") (λxs H Q=>∃ p ys,xs=[.ref p]/\((SqL X.K H p ys/\∀ l,H l=none->Q (.ref l) (upd H l (.tup ys))) \/ (SqT X.K H p ys/\Q (.ref p) H))):=by
 intro pins s σ H xs us Q I r h
 obtain ⟨p,ys,rfl,h⟩:=h
 obtain ⟨u,rfl,rx⟩:=W9 r
 cases rx
 rcases h with ⟨hq,q⟩ | ⟨hq,q⟩
 ·obtain ⟨its,r',pl,hz⟩:=I.list hq
  have hlen:=r'.length
  refine call_tuple_list pl.isList (λh' kp=>?_) (by simp only [Ju] <;> omega)
  have I1:Inv X pins σ H { s with heap:=h' }:=I.kept (t':=s.toks) kp
  have I2:Inv X pins σ (upd H h'.objs.size (.tup ys)) { s with heap:=h'.push { cls:=.type "tuple",data:=.seq its.toArray } }:=
   I1.laid (t':=s.toks) (λb o e=>J7 _ e) (Jb _) (show bL X.prog X.w _ _ _ (.tup ys) from ⟨hz,its,r',IsTup.new _ _⟩)
  exact ⟨.ref h'.objs.size,_,I2,rfl,q _ (I1.hok.fresh (Jb _))⟩
 ·obtain ⟨its,r',pl,hz⟩:=I.tuple hq
  exact call_tuple_same pl ⟨.ref p,H,I,rfl,q⟩
def tyV (K:PySem.W.Frag) (T:String) (x:V) (H:Hp):Prop:=match x with
 | .str _=>T = "str"
 | .int _=>T = "int"
 | .ref p=>(T = "list"/\∃ xs,SqL K H p xs) \/ (T = "tuple"/\∃ o,K.lookup p=some o/\o.cls=.type "tuple"/\o.dict=none) \/
   (T = "dict"/\((∃ kvs,H p=some (.dK kvs)) \/ ∃ kvs,H p=some (.dT kvs))) \/ (T = "set"/\∃ S n,H p=some (.set S n))
 | _=>False
theorem CZ {T:String} {x:V} (I:Inv X pins σ H s) (r:RelV x v) (ty:tyV X.K T x H):
  s.TypeIs v T/\∀ a,v=.ref a->∃ ob,s.heap.get? a=some ob/\ob.dict=none:=by
 cases x with
 | str z=>
  obtain ⟨t,rfl⟩:=r
  cases (show T = "str" from ty)
  exact ⟨typeIs_str s z t,λ_ e=>nomatch e⟩
 | int i=>
  obtain ⟨t,rfl⟩:=r
  cases (show T = "int" from ty)
  exact ⟨V5 s i t,λ_ e=>nomatch e⟩
 | ref p=>
  cases r
  rcases ty with ⟨rfl,xs,hq⟩ | ⟨rfl,o,hk,hc,hd⟩ | ⟨rfl,hk⟩ | ⟨rfl,S,n,hk⟩
  ·obtain ⟨its,_,pl,_⟩:=I.list hq
   refine ⟨pl.isList.typeIs,λa e=>?_⟩
   cases e
   obtain ⟨o,n,e,c,hd,_⟩:=pl
   exact ⟨o,e,hd⟩
  ·refine ⟨⟨o,I.kIn p o hk,hc⟩,λa e=>?_⟩
   cases e
   exact ⟨o,I.kIn _ o hk,hd⟩
  ·have z:∃ o,s.heap.get? p=some o/\o.ExactDict:=by
    rcases hk with ⟨kvs,hk⟩ | ⟨kvs,hk⟩
    ·obtain ⟨_,_,_,_,o,_,_,e,ex,_⟩:=I.hok p _ hk
     exact ⟨o,e,ex⟩
    ·obtain ⟨_,_,_,_,o,_,_,e,ex,_⟩:=I.hok p _ hk
     exact ⟨o,e,ex⟩
   obtain ⟨o,e,ex⟩:=z
   refine ⟨⟨o,e,ex.1⟩,λa e2=>?_⟩
   cases e2
   exact ⟨o,e,ex.2.1⟩
  ·obtain ⟨o,_,_,_,e,ex,_⟩:=I.hok p _ hk
   refine ⟨⟨o,e,ex.1⟩,λa e2=>?_⟩
   cases e2
   exact ⟨o,e,ex.2.1⟩
 | _=>exact False.elim ty
noncomputable def tBM (K:PySem.W.Frag) (T:String) (r:V->List V->Hp->VK->Prop) (to:TE) (t:TA):TE:=λσ H Q=>to σ H λx H1=>tyV K T x H1/\t σ H1 λxs H2=>r x xs H2 Q
variable {o e:Expr} {es:List Expr} {to:TE} {t:TA} {name:Str} {apos cpos:Pos} {T id:String} {r:V->List V->Hp->VK->Prop}
theorem EO (pa:PlainAttrs T) (slot:Slot T name id) (hty:typeOf (.builtin id)=pure (.type "method_descriptor")) (hm:MtR X id r) (ho:PE X o to) (ha:PA X (e :: es) t)
  (hbase:autoParam (attributeBase o name X.env (eval o X.env)=eval o X.env) Au.h1._auto_1)
  (hfew:autoParam (((backTo cpos (starEach (e :: es) X.env)).all (λx=>!x.1) && (backToKw cpos (keywordEach [] X.env)).all (λx=>x.1.isSome)
   && decide ((e :: es).length + ([]:List Keyword).length + (if ([]:List Keyword).isEmpty then 0 else 1) < 30))=true) Au.h1._auto_1)
  (hline:autoParam ((apos.endLine == cpos.line)=true) Au.h1._auto_1) (hs:autoParam (starEach (e :: es) X.env=(false,eval e X.env) :: starEach es X.env) Au.h1._auto_1) (hplain:autoParam ((backTo cpos (starEach es X.env)).any (·.1)=false) Au.h1._auto_1):
  PE X (.Call (.Attribute o name apos) (e :: es) [] cpos) (tBM X.K T r to t):=by
 intro pins s σ H Q I h
 refine wpAny_Call_method_late hbase hfew hline rfl (thn (ho pins s σ H _ I h) λv s1 zq=>?_)
 obtain ⟨x,H1,I1,r1,ty,q1⟩:=zq
 obtain ⟨h1,h2⟩:=CZ I1 r1 ty
 refine ⟨T,id,pa,slot,hty,h1,h2,?_⟩
 have hA:=ha cpos pins s1 σ H1 _ I1 q1
 rw [hs] at hA ⊢
 refine Calls.callWith_builtin (by show (false || (backTo cpos (starEach es X.env)).any (·.1))=false; rw [hplain] <;> rfl) (Calls.evalArgs_plain ?_)
 exact thn hA λus s2 zq=>ex5 zq λvs H2 I2 r2 q2=>hm pins s2 σ H2 x vs v us Q I2 r1 r2 q2
end
def MtM (X:Cx) (id:String) (r:V->List V->Hp->VK->Prop):Prop:=
 ∀ (pins:List (Addr × Obj)) (s:Shared) (σ:St) (H:Hp) (x:V) (xs:List V) (v:Value) (us:List Value) (Q:VK),Inv X pins σ H s->RelV x v->Vals xs us->r x xs H Q->
  wpAny (model X.prog X.w) X.A (call (.builtin id) (v :: us)) (EP X pins σ Q) X.xe s
theorem Vals.one:∀ {x:V} {us:List Value},Vals [x] us->∃ u,us=[u]/\RelV x u
 | _,_,.cons r .nil=>⟨_,rfl,r⟩
theorem Vals.rep {xs:List V} {us:List Value} (h:Vals xs us):∀ k:Nat,Vals (List.replicate k xs).flatten (List.replicate k us).flatten
 | 0=>.nil
 | k + 1=>by
  rw [Q3,Q3,Qt,Qt]
  exact Vals.append h (Vals.rep h k)
theorem foldl_rep (its:List Value):∀ (k:Nat) (acc:List Value),
  List.foldl (λx1 x2=>x1 ++ x2) acc.toArray (List.replicate k its.toArray)=(acc ++ (List.replicate k its).flatten).toArray
 | 0,acc=>by simp
 | k + 1,acc=>by
  have e:acc.toArray ++ its.toArray=(acc ++ its).toArray:=by simp
  have e2:(acc ++ its) ++ (List.replicate k its).flatten=acc ++ (List.replicate (k + 1) its).flatten:=by
   rw [Q3,Qt,Y7]
  rw [<- e2,<- foldl_rep its k (acc ++ its),<- e,Q3,List.foldl_cons]
section
variable {X:Cx} {pins:List (Addr × Obj)} {σ:St} {H:Hp} {s:Shared} {l b:Addr} {xs ys zs:List V}
theorem Inv.lset {its its':List Value} {n:Nat} {f:Array Value->Array Value} {t':Nat} (I:Inv X pins σ H s) (hH:H l=some (.lst xs))
  (e:s.heap.get? l=some { cls:=.type "list",data:=.seq its.toArray n }) (hf:f its.toArray=its'.toArray) (hv:Vals ys its') (hz:ys.length<=sizeLine):
  Inv X pins σ (upd H l (.lst ys)) { s with heap:=s.heap.update l (Obj.mapSeq f),toks:=t' }:=by
 have q:=PySem.IsL.update e f
 rw [hf] at q
 refine I.write (x:=l) (e:=l) (by rw [hH]; exact trivial) (.inl rfl) (λb' u hb hu=>(Zh s.heap (Obj.mapSeq f) (Ne.symm hb)).trans hu) ⟨_,q⟩ ?_
 exact ⟨hz,its',_,hv,q⟩
theorem Inv.lnew {its:List Value} {t':Nat} (I:Inv X pins σ H s) (hv:Vals ys its) (hz:ys.length<=sizeLine):
  Inv X pins σ (upd H s.heap.objs.size (.lst ys)) { s with heap:=s.heap.push { cls:=.type "list",data:=.seq its.toArray },toks:=t' }:=
 I.laid (λ_ _ q=>J7 _ q) (Jb _) ⟨hz,its,0,hv,Ji _ rfl⟩
theorem Inv.fresh (I:Inv X pins σ H s):H s.heap.objs.size=none:=I.hok.fresh (Jb _)
theorem Inv.lstM (I:Inv X pins σ H s) (hH:H l=some (.lst xs)):xs.length<=sizeLine/\∃ (its:List Value) (n:Nat),Vals xs its/\xs.length=its.length/\s.heap.get? l=some { cls:=.type "list",data:=.seq its.toArray n }:=by
 obtain ⟨z,its,n,r,e⟩:=I.hok l _ hH
 exact ⟨z,its,n,r,r.length,e⟩
theorem xX {n:Nat} (h:n<=sizeLine):Builtin.List.listTooLong n=false:=by
 unfold Builtin.List.listTooLong
 exact Jy (by omega)
end
section
variable {X:Cx}
noncomputable def Ar:V->List V->Hp->VK->Prop:=λx vs H Q=>∃ l xs y,x=.ref l/\vs=[y]/\H l=some (.lst xs)/\xs.length < sizeLine/\Q .non (upd H l (.lst (xs ++ [y])))
theorem nY:MtM X "list.append" Ar:=by
 intro pins s σ H x vs v us Q I rx rv h
 obtain ⟨l,xs,y,rfl,rfl,hH,hz,q⟩:=h
 cases rx
 obtain ⟨u,rfl,ru⟩:=rv.one
 obtain ⟨z,its,n,r,hl,e⟩:=I.lstM hH
 refine Wr F.slot_list_append ⟨_,e,rfl⟩ F.entry_list_append (F.args_list_append_2 _ _) (PySem.list_append l its.toArray n u (by rw [Ju]; omega)) ⟨e,?_⟩
 refine ⟨.non,_,I.lset (its':=its ++ [u]) hH e (by simp) (r.append (.cons ru .nil)) ?_,rfl,q⟩
 rw [Jo,Zt]
 omega
noncomputable def FD:R2:=λx y H Q=>∃ l b xs zs,x=.ref l/\y=.ref b/\H l=some (.lst xs)/\H b=some (.lst zs)/\xs.length + zs.length<=sizeLine/\∀ p,H p=none->Q (.ref p) (upd H p (.lst (xs ++ zs)))
theorem C0:OpR X (binaryOp .Add) FD:=by
 intro pins s σ H x y v u Q I rx ry h
 obtain ⟨l,b,xs,zs,rfl,rfl,hH,hB,hz,q⟩:=h
 cases rx
 cases ry
 obtain ⟨z,its,n,r,hl,e⟩:=I.lstM hH
 obtain ⟨z2,its2,n2,r2,hl2,e2⟩:=I.lstM hB
 refine PySem.P.add_list e e2 ?_ (by rw [Ju,Ju]; omega)
 have ea:its.toArray ++ its2.toArray=(its ++ its2).toArray:=by simp
 rw [ea]
 exact ⟨.ref _,_,I.lnew (t':=s.toks) (r.append r2) (by rw [Jo]; omega),rfl,q _ I.fresh⟩
noncomputable def FE:R2:=λx y H Q=>∃ l k xs,x=.ref l/\y=.int k/\H l=some (.lst xs)/\-(2 ^ 63)<=k/\k < 2 ^ 63/\xs.length * k.toNat<=sizeLine/\
 ∀ p,H p=none->Q (.ref p) (upd H p (.lst (List.replicate k.toNat xs).flatten))
theorem len_rep {α:Type} (xs:List α) (k:Nat):(List.replicate k xs).flatten.length=k * xs.length:=by
 induction k with
 | zero=>simp
 | succ k ih=>rw [Q3,Qt,Jo,ih,Vm,Uj]
theorem C1:OpR X (binaryOp .Mult) FE:=by
 intro pins s σ H x y v u Q I rx ry h
 obtain ⟨l,k,xs,rfl,rfl,hH,h1,h2,hz,q⟩:=h
 cases rx
 obtain ⟨t,rfl⟩:=ry
 obtain ⟨z,its,n,r,hl,e⟩:=I.lstM hH
 have hlen:its.toArray.size * k.toNat<=sizeLine:=by rw [Ju,<- hl]; exact hz
 have hcap:¬ its.toArray.size * k.toNat > (2 ^ 63 - 1) / 8:=by
  have:(sizeLine:Nat)<=(2 ^ 63 - 1) / 8:=by decide
  omega
 have hfit:¬ (!Builtin.List.listFitsIndex k)=true:=by
  rw [fitsIndex_both h1 h2]
  exact Jl
 have hlong:¬ Builtin.List.listTooLong (its.toArray.size * k.toNat)=true:=by
  rw [xX hlen]
  exact Jl
 have hnew:List.foldl (λx1 x2=>x1 ++ x2) #[] (List.replicate (if its.toArray.isEmpty=true then 0 else k.toNat) its.toArray)=(List.replicate k.toNat its).flatten.toArray:=by
  have f0:∀ m:Nat,List.foldl (λx1 x2=>x1 ++ x2) #[] (List.replicate m its.toArray)=(List.replicate m its).flatten.toArray:=λm=>by
   have:=foldl_rep its m []
   rw [Z4] at this
   exact this
  rw [f0]
  cases its with
  | nil=>simp
  | cons a r'=>rw [Jc (by simp)]
 refine wpAny_binaryOp_repeat_ref (T:="list") (U:="int") (by decide) ⟨_,e,rfl⟩ (λs'=>V5 s' k t) noFill_list_mul F.fills_int_mul Vn repeat_list F.slot_int_index.lookup
  (Wr Vn (V5 s k t) F.entry_int_rmul (F.args_int_rmul_2 _ _) (int___rmul___int_list k t l its.toArray n)
   ⟨e,rfl,⟨_,e,rfl⟩,Wr F.slot_list_mul ⟨_,e,rfl⟩ F.entry_list_mul (F.args_list_mul_2 _ _) (AutoListH.list___mul___list_int_3 l its.toArray n k t hfit hcap hlong) ⟨e,?_⟩⟩)
 rw [hnew]
 exact ⟨.ref _,_,I.lnew (t':=s.toks) (r.rep k.toNat) (by rw [len_rep,Uk]; exact hz),rfl,q _ I.fresh⟩
end
section
variable {κ:Type} [DecidableEq κ]
noncomputable def gP (kvs:List (κ × V)) (k:κ):Option V:=(kvs.find? λkv=>decide (kv.1=k)).map (·.2)
noncomputable def putK (kvs:List (κ × V)) (k:κ) (v:V):List (κ × V):=
 if (kvs.any λkv=>decide (kv.1=k))=true then kvs.map (λkv=>if kv.1=k then (kv.1,v) else kv) else kvs ++ [(k,v)]
theorem mf {p:κ × V} {r:List (κ × V)} {k:κ} (e:p.1=k):gP (p :: r) k=some p.2:=by simp [gP,Z5,e]
theorem mq {p:κ × V} {r:List (κ × V)} {k:κ} (e:¬ p.1=k):gP (p :: r) k=gP r k:=by simp [gP,Z5,e]
theorem rh (k:κ):∀ kvs:List (κ × V),(kvs.any λkv=>decide (kv.1=k))=(gP kvs k).isSome
 | []=>rfl
 | p :: r=>by
  rw [Q5]
  by_cases e:p.1=k
  ·simp only [mf e,Js e,Bool.true_or,Option.isSome_some]
  ·rw [mq e,Jy e,Bool.false_or]; exact rh k r
theorem ip (kvs:List (κ × V)) (k:κ) (v:V):(putK kvs k v).length<=kvs.length + 1:=by
 unfold putK
 split
 ·rw [Jh]; omega
 ·rw [Jo,Jm,Yg]; omega
theorem oW.isSome_eq {o:Option V} {u:Option Value} (r:oW o u):o.isSome=u.isSome:=by
 cases o with
 | none=>cases u with
  | none=>rfl
  | some _=>exact (show False from r).elim
 | some _=>cases u with
  | none=>exact (show False from r).elim
  | some _=>rfl
theorem oW.getD {o:Option V} {u:Option Value} {d:V} {d':Value} (r:oW o u) (rd:RelV d d'):RelV (o.getD d) (u.getD d'):=by
 cases o with
 | none=>cases u with
  | none=>exact rd
  | some _=>exact (show False from r).elim
 | some _=>cases u with
  | none=>exact (show False from r).elim
  | some _=>exact r
theorem KV.val {kvs:List (κ × V)} {vs:List (κ × Value)} (r:KV kvs vs) (k:κ):oW (gP kvs k) (valueAt vs k):=by
 unfold KV at r
 induction r with
 | nil=>exact True.intro
 | @cons p q ps qs h t ih=>
  obtain ⟨h1,h2⟩:=h
  by_cases e:p.1=k
  ·have e':q.1=k:=h1.symm.trans e
   have b:valueAt (q :: qs) k=some q.2:=by simp [valueAt,Z5,e']
   rw [mf e,b]; exact h2
  ·have e':¬ q.1=k:=λz=>e (h1.trans z)
   have b:valueAt (q :: qs) k=valueAt qs k:=by simp [valueAt,Z5,e']
   rw [mq e,b]; exact ih
theorem KV.any {kvs:List (κ × V)} {vs:List (κ × Value)} (r:KV kvs vs) (k:κ):(kvs.any λkv=>decide (kv.1=k))=vs.any λkv=>decide (kv.1=k):=by
 unfold KV at r
 induction r with
 | nil=>rfl
 | cons h t ih=>rw [Q5,Q5,ih,h.1]
theorem KV.repl {kvs:List (κ × V)} {vs:List (κ × Value)} (r:KV kvs vs) (k:κ) {y:V} (ry:RelV y u):
  KV (kvs.map λkv=>if kv.1=k then (kv.1,y) else kv) (vs.map λkv=>if kv.1=k then (kv.1,u) else kv):=by
 unfold KV at r ⊢
 induction r with
 | nil=>exact .nil
 | @cons p q ps qs h t ih=>
  rw [Jn,Jn]
  refine .cons ?_ ih
  obtain ⟨h1,h2⟩:=h
  by_cases e:p.1=k
  ·rw [J8 e,J8 (h1.symm.trans e)]; exact ⟨h1,ry⟩
  ·rw [Jc e,Jc (λz=>e (h1.trans z))]; exact ⟨h1,h2⟩
theorem KV.put {kvs:List (κ × V)} {vs:List (κ × Value)} (r:KV kvs vs) (k:κ) {y:V} (ry:RelV y u):KV (putK kvs k y) (stored vs k u):=by
 unfold putK stored
 rw [r.any k]
 by_cases e:(vs.any λkv=>decide (kv.1=k))=true
 ·rw [J8 e,J8 e]; exact r.repl k ry
 ·rw [Jc e,Jc e]; exact Paired.snoc r ⟨rfl,ry⟩
theorem KV.keys {kvs:List (κ × V)} {vs:List (κ × Value)} (r:KV kvs vs):kvs.map (·.1)=vs.map (·.1):=by
 unfold KV at r
 induction r with
 | nil=>rfl
 | cons h t ih=>rw [Jn,Jn,ih,h.1]
theorem KV.length {kvs:List (κ × V)} {vs:List (κ × Value)} (r:KV kvs vs):kvs.length=vs.length:=Paired.length r
end
theorem nZ {k:Key} (r:RelV (kV k) u):(aQ P w).is k u=true:=by
 cases k with
 | inl i=>obtain ⟨t,e⟩:=(show ∃ t,u=Value.int i t from r); subst e; exact qT P w i t
 | inr x=>obtain ⟨t,e⟩:=(show ∃ t,u=Value.str x t from r); subst e; exact qU P w x t
theorem n4:∀ {ks:List Key} {us:List Value},Vals (ks.map kV) us->ItemsAre (aQ P w) ks us
 | [],_,r=>by rw [W0] at r; cases r; exact .nil
 | k :: ks,_,r=>by
  rw [Jn] at r
  cases r with
  | cons h t=>exact .cons (nZ h) (n4 t)
noncomputable abbrev KT (H:Hp):List (List Key × V)->List (List Key × Addr × Value)->Prop:=Paired λp q=>p.1=q.1/\H q.2.1=some (.tup (p.1.map kV))/\RelV p.2 q.2.2
theorem KT.val {kvs:List (List Key × V)} (r:KT H kvs xs) (k:List Key):oW (gP kvs k) ((atKey xs k).map (·.2)):=by
 induction r with
 | nil=>exact True.intro
 | @cons p q ps qs h t ih=>
  obtain ⟨h1,_,h2⟩:=h
  by_cases e:p.1=k
  ·have e':q.1=k:=h1.symm.trans e
   have b:atKey (q :: qs) k=some q.2:=by simp [atKey,Z5,e']
   rw [mf e,b]; exact h2
  ·have e':¬ q.1=k:=λz=>e (h1.trans z)
   have b:atKey (q :: qs) k=atKey qs k:=by simp [atKey,Z5,e']
   rw [mq e,b]; exact ih
theorem KT.repl {kvs:List (List Key × V)} (r:KT H kvs xs) (k:List Key) {y:V} (ry:RelV y u):
  KT H (kvs.map λkv=>if kv.1=k then (kv.1,y) else kv) (xs.map (putAt k u)):=by
 induction r with
 | nil=>exact .nil
 | @cons p q ps qs h t ih=>
  rw [Jn,Jn]
  refine .cons ?_ ih
  obtain ⟨h1,h2,h3⟩:=h
  unfold putAt
  by_cases e:p.1=k
  ·rw [J8 e,J8 (h1.symm.trans e)]; exact ⟨h1,h2,ry⟩
  ·rw [Jc e,Jc (λz=>e (h1.trans z))]; exact ⟨h1,h2,h3⟩
theorem KT.put {kvs:List (List Key × V)} (r:KT H kvs xs) (k:List Key) {b:Addr} {y:V} (hb:H b=some (.tup (k.map kV))) (ry:RelV y u):
  KT H (putK kvs k y) (storedH xs k b u):=by
 have e:(kvs.any λkv=>decide (kv.1=k))=(atKey xs k).isSome:=by
  rw [rh,(r.val k).isSome_eq,Ud]
 unfold putK storedH
 rw [e]
 by_cases q:(atKey xs k).isSome=true
 ·rw [J8 q,J8 q]; exact r.repl k ry
 ·rw [Jc q,Jc q]; exact Paired.snoc r ⟨rfl,hb,ry⟩
theorem KT.keeps {H':Hp} {kvs:List (List Key × V)} (r:KT H kvs xs) (ht:∀ b ys,H b=some (.tup ys)->H' b=some (.tup ys)):KT H' kvs xs:=
 Paired.mapP r λ_ _ z=>⟨z.1,ht _ _ z.2.1,z.2.2⟩
section
variable {P:Program} {w:World} {H:Hp} {h:Heap} {a:Addr}
theorem BV {u:HO} (ok:HOk P w H h) (e:Rd H a u):bL P w H h a u:=e.ok ok
theorem ji {kvs:List (Key × V)} (ok:HOk P w H h) (e:Rd H a (.dK kvs)):kvs.length<=sizeLine/\(a == sysModules)=false/\∃ vs,KV kvs vs/\h.DictOf (aQ P w) a vs:=
 show bL P w H h a (.dK kvs) from BV ok e
theorem BW {kvs:List (Key × V)} (ok:HOk P w H h) (e:H a=some (.dK kvs)):kvs.length<=sizeLine/\(a == sysModules)=false/\∃ vs,KV kvs vs/\h.DictOf (aQ P w) a vs:=ji ok (.inl e)
theorem ph {ks:List Key} (ok:HOk P w H h) (e:H a=some (.tup (ks.map kV))):(tupleKind (aQ P w)).is h ks a:=by
 obtain ⟨_,its,r,o,h1,h2,n,h3⟩:=(show bL P w H h a (.tup (ks.map kV)) from ok a _ e)
 exact ⟨o,its.toArray,n,h1,h2,h3,by simpa using n4 r⟩
theorem uX {kvs:List (List Key × V)} (ok:HOk P w H h) (e:Rd H a (.dT kvs)):kvs.length<=sizeLine/\(a == sysModules)=false/\
  ∃ xs,KT H kvs xs/\h.DictOfH (tupleKind (aQ P w)) a xs:=by
 obtain ⟨z,y,xs,r,o,es,ep,h1,h2,h3,h4,h5⟩:=(show bL P w H h a (.dT kvs) from BV ok e)
 refine ⟨z,y,xs,r,o,es,ep,h1,h2,h3,h4,λx hx=>?_,h5⟩
 have all:∀ {l:List (List Key × V)} {m:List (List Key × Addr × Value)},KT H l m->∀ x ∈ m,(tupleKind (aQ P w)).is h x.1 x.2.1:=by
  intro l m q
  induction q with
  | nil=>intro x hx; exact nomatch hx
  | @cons p q ps qs hq t ih=>
   intro x hx
   rcases Jg.mp hx with e | hx
   ·subst e
    exact ph ok (by rw [<- hq.1]; exact hq.2.1)
   ·exact ih x hx
 exact all r x hx
theorem ER {kvs:List (List Key × V)} (ok:HOk P w H h) (e:H a=some (.dT kvs)):kvs.length<=sizeLine/\(a == sysModules)=false/\
  ∃ xs,KT H kvs xs/\h.DictOfH (tupleKind (aQ P w)) a xs:=uX ok (.inl e)
end
def C2 (H:Hp) (a:Addr) (y:V) (r:Option V):Prop:=
 (∃ kvs k,Rd H a (.dK kvs)/\y=kV k/\r=gP kvs k) \/ ∃ kvs k b,Rd H a (.dT kvs)/\y=.ref b/\H b=some (.tup (k.map kV))/\r=gP kvs k
def As (H:Hp) (a:Addr) (y v:V) (H':Hp):Prop:=
 (∃ kvs k,H a=some (.dK kvs)/\y=kV k/\kvs.length < sizeLine/\H'=upd H a (.dK (putK kvs k v))) \/
 ∃ kvs k b,H a=some (.dT kvs)/\y=.ref b/\H b=some (.tup (k.map kV))/\kvs.length < sizeLine/\H'=upd H a (.dT (putK kvs k v))
theorem As.k {a:Addr} {kvs:List (Key × V)} {k:Key} {v:V} (e:H a=some (.dK kvs)) (hl:kvs.length < sizeLine):As H a (kV k) v (upd H a (.dK (putK kvs k v))):=.inl ⟨kvs,k,e,rfl,hl,rfl⟩
section
variable {X:Cx} {pins:List (Addr × Obj)} {σ:St} {H:Hp} {s:Shared} {a:Addr} {y v:V} {u r:Value} {o:Option V} {A:Around} {E:Value->Shared->Prop}
theorem Inv.big (I:Inv X pins σ H s):sysModules < s.heap.objs.size:=by
 have h:mainGlobals < s.heap.objs.size:=(I.mod.glob.keeps I.bk).lt
 exact Vo (by decide) h
theorem Av (hu:A.units + 1 < cLine) (I:Inv X pins σ H s) (g:C2 H a y o) (ry:RelV y u) (h:∀ s',Inv X pins σ H s'->Q (.bool (!o.isSome)) s'):
  wpAny (model X.prog X.w) A (compareOp .NotIn u (.ref a)) Q E s:=by
 rcases g with ⟨kvs,k,e,ey,l⟩ | ⟨kvs,k,b,e,ey,eb,l⟩
 ·subst ey
  obtain ⟨z,hd,vs,rel,dd⟩:=ji I.hok e
  refine wpAny_notIn_of (nZ ry) hd dd.mapOf ?_
  rw [<- (rel.val k).isSome_eq,<- l]
  exact h _ (I.tok _)
 ·subst ey
  cases (show u=Value.ref b from ry)
  obtain ⟨z,hd,xs,rel,dd⟩:=uX I.hok e
  refine wpAny_notIn_heap (U4 hu) (ph I.hok eb) hd dd ?_
  have q:=(rel.val k).isSome_eq
  rw [Ud] at q
  rw [<- q,<- l]
  exact h _ (I.tok _)
theorem pj {h':Heap} {t':Nat} {ob:HO} (I:Inv X pins σ H s) (mu:Mut (H a)) (hs:Heap.SameBut a s.heap h') (he:∃ q,h'.get? a=some q) (new:bL X.prog X.w (upd H a ob) h' a ob):
  Inv X pins σ (upd H a ob) { s with heap:=h',toks:=t' }:=
 I.write (x:=a) (e:=a) mu (.inl rfl) (λb q hb z=>(hs.2 b hb).trans z) he new
theorem xY {H':Hp} {h':Heap} {kvs:List (Key × V)} {vs:List (Key × Value)} (z:kvs.length<=sizeLine) (hd:(a == sysModules)=false) (rel:KV kvs vs) (dd:h'.DictOf (aQ P w) a vs):
  bL P w H' h' a (.dK kvs):=⟨z,hd,vs,rel,dd⟩
theorem wC {H':Hp} {Q:Unit->Shared->Prop} (hu:A.units + 1 < cLine) (I:Inv X pins σ H s) (g:As H a y v H') (ry:RelV y u) (rv:RelV v r) (h:∀ s',Inv X pins σ H' s'->Q () s'):
  wpAny (model X.prog X.w) A (setItem (.ref a) u r) Q E s:=by
 rcases g with ⟨kvs,k,e,ey,l,eH⟩ | ⟨kvs,k,b,e,ey,eb,l,eH⟩
 ·subst ey eH
  obtain ⟨z,hd,vs,rel,dd⟩:=BW I.hok e
  have hz:vs.length<=sizeLine:=by rw [<- rel.length]; exact z
  have hl:(putK kvs k v).length<=sizeLine:=by have:=ip kvs k v; omega
  refine wpAny_setItem_pairs (hsz:=hz) (nZ ry) dd λh' dd' hs=>h _ ?_
  have he:∃ q,h'.get? a=some q:=let ⟨q,_,_,hq,_⟩:=dd'; ⟨q,hq⟩
  exact pj I (by rw [e]; exact True.intro) hs he (xY hl hd (rel.put k rv) dd')
 ·subst ey eH
  cases (show u=Value.ref b from ry)
  obtain ⟨z,hd,xs,rel,dd⟩:=ER I.hok e
  have hz:xs.length<=sizeLine:=by rw [<- Paired.length rel]; exact z
  have hl:(putK kvs k v).length<=sizeLine:=by have:=ip kvs k v; omega
  refine wpAny_setItem_heap (hsz:=hz) (U4 hu) (ph I.hok eb) dd λh' dd' hs=>h _ ?_
  obtain ⟨q,es,ep,hq,h2,h3,h4,_,h5⟩:=dd'
  refine pj I (by rw [e]; exact True.intro) hs ⟨q,hq⟩ ⟨hl,hd,_,(rel.put k eb rv).keeps λc ys ec=>?_,q,es,ep,hq,h2,h3,h4,h5⟩
  rw [aL (Eb ec e (λz=>nomatch z))]
  exact ec
end
section
variable {X:Cx} {pins:List (Addr × Obj)} {σ:St} {H:Hp} {s:Shared} {a:Addr} {kvs:List (Key × V)} {k:Key} {u:Value} {A:Around} {E:Value->Shared->Prop}
theorem ES (I:Inv X pins σ H s) (e:Rd H a (.dK kvs)) (h:∀ t s',Inv X pins σ H s'->Q (.int kvs.length t) s'):wpAny (model X.prog X.w) A (call (.builtin "len") [.ref a]) Q E s:=by
 obtain ⟨z,hd,vs,rel,dd⟩:=ji I.hok e
 refine call_len_dict hd dd (by rw [<- rel.length]; rw [sizeLine_eq] at z; omega) ?_
 rw [<- rel.length]
 exact h _ _ (I.tok _)
end
theorem rj (h:Heap) (hb:sysModules < h.objs.size):bL P w H (h.push { cls:=.type "dict",data:=.dict #[] }) h.objs.size (.dK []):=
 ⟨Y3 _,Vx.mpr (Ne.symm (Jt hb)),[],.nil,Heap.DictOf.new h⟩
noncomputable def C3:TE:=λ_ H Q=>∀ p,H p=none->Q (.ref p) (upd H p (.dK []))
section
variable {X:Cx} {pos:Pos}
theorem rm:PE X (.Dict [] [] pos) C3:=λpins s σ H Q I h=>
 wpAny_Dict_empty ⟨.ref s.heap.objs.size,_,I.laid (a:=s.heap.objs.size) (o:=.dK []) (t':=s.toks) (λ_ _ q=>J7 _ q) (Jb _) (rj s.heap I.big),rfl,h _ (I.hok.fresh (Jb _))⟩
end
noncomputable def pk:List (TE × TE)->St->Hp->(List (V × V)->Hp->Prop)->Prop
 | [],_,H,Q=>Q [] H
 | (tk,tv) :: r,σ,H,Q=>tk σ H λx H1=>tv σ H1 λy H2=>pk r σ H2 λps H3=>Q ((x,y) :: ps) H3
noncomputable abbrev VV:List (V × V)->List (Value × Value)->Prop:=Paired λp q=>RelV p.1 q.1/\RelV p.2 q.2
def PPs (X:Cx) (pos:Pos) (keys:List (Option Expr)) (values:List Expr) (trs:List (TE × TE)):Prop:=
 ∀ (pins:List (Addr × Obj)) (s:Shared) (σ:St) (H:Hp) (Q:List (V × V)->Hp->Prop),Inv X pins σ H s->pk trs σ H Q->
  wpAny (model X.prog X.w) X.A (evalPairs (pairTrees keys values X.env pos)) (λvs s'=>∃ ps H',Inv X pins σ H' s'/\VV ps vs/\Q ps H') X.xe s
theorem Aw:PPs X pos [] [] []:=λpins s σ H Q I h=>pairTrees_nil_walk ⟨[],H,I,.nil,h⟩
theorem xZ {k v:Expr} {ks:List (Option Expr)} {vs:List Expr} {tk tv:TE} {trs:List (TE × TE)} (hk:PE X k tk) (hv:PE X v tv) (hr:PPs X pos ks vs trs):
  PPs X pos (some k :: ks) (v :: vs) ((tk,tv) :: trs):=λpins s σ H Q I h=>
 pairTrees_cons_walk (thn (hk pins s σ H _ I h) λu s1 zq=>ex5 zq λx H1 I1 rx q1=>thn (hv pins s1 σ H1 _ I1 q1) λw2 s2 zq=>ex5 zq λy H2 I2 ry q2=>
  thn (hr pins s2 σ H2 _ I2 q2) λws s3 zq=>ex5 zq λps H3 I3 rel q3=>⟨(x,y) :: ps,H3,I3,.cons ⟨rx,ry⟩ rel,q3⟩)
noncomputable def eh (kvs more:List (Key × V)):List (Key × V):=more.foldl (λacc kv=>putK acc kv.1 kv.2) kvs
theorem KV.merge:∀ {more:List (Key × V)} {rs:List (Key × Value)} {kvs:List (Key × V)} {vs:List (Key × Value)},KV more rs->KV kvs vs->KV (eh kvs more) (merged vs rs):=by
 intro more rs kvs vs r
 unfold KV at r
 induction r generalizing kvs vs with
 | nil=>intro q; exact q
 | @cons p q ps qs h t ih=>
  intro r0
  have e:KV (putK kvs p.1 p.2) (stored vs q.1 q.2):=by
   have:=r0.put p.1 h.2
   rw [<- h.1]; exact this
  exact ih e
theorem jj:∀ (more kvs:List (Key × V)),(eh kvs more).length<=kvs.length + more.length
 | [],kvs=>by show kvs.length<=kvs.length + 0; omega
 | p :: r,kvs=>by
  have h1:=jj r (putK kvs p.1 p.2)
  have h2:=ip kvs p.1 p.2
  show (eh (putK kvs p.1 p.2) r).length<=_
  rw [Jm]; omega
theorem mw {P:Program} {w:World}:∀ {kvs:List (Key × V)} {ws:List (Value × Value)},VV (kvs.map λkv=>(kV kv.1,kv.2)) ws->∃ rs,Carries (aQ P w) ws rs/\KV kvs rs
 | [],_,r=>by rw [W0] at r; cases r; exact ⟨[],True.intro,.nil⟩
 | p :: kvs,_,r=>by
  rw [Jn] at r
  cases r with
  | @cons a b as bs h t=>
   obtain ⟨rs,c,q⟩:=mw (P:=P) (w:=w) t
   obtain ⟨b1,b2⟩:=b
   exact ⟨(p.1,b2) :: rs,⟨nZ h.1,rfl,c⟩,.cons ⟨rfl,h.2⟩ q⟩
noncomputable def BX (trs:List (TE × TE)):TE:=λσ H Q=>∀ p,H p=none->pk trs σ (upd H p (.dK [])) λps H2=>H2 p=some (.dK [])/\∃ kvs:List (Key × V),ps=kvs.map (λkv=>(kV kv.1,kv.2))/\kvs.length<=15/\Q (.ref p) (upd H2 p (.dK (eh [] kvs)))
theorem Ax {keys:List (Option Expr)} {values:List Expr} {trs:List (TE × TE)} (h:PPs X pos keys values trs) (hall:keys.all (·.isSome)=true) (hl:keys.length=values.length) (h0:keys ≠ [])
  (h15:keys.length<=15):PE X (.Dict keys values pos) (BX trs):=by
 intro pins s σ H Q I q
 have hn:=I.hok.fresh (Jb s.heap.objs.size)
 have I1:=I.laid (a:=s.heap.objs.size) (o:=.dK []) (h':=s.heap.push { cls:=.type "dict",data:=.dict #[] }) (t':=s.toks) (λ_ _ q=>J7 _ q) (Jb _) (rj s.heap I.big)
 refine wpAny_Dict_walk (knd:=aQ X.prog X.w) hall hl h0 h15 (thn (h pins _ σ _ _ I1 (q _ hn)) λws s2 zq=>?_)
 obtain ⟨ps,H2,I2,rel,e,kvs,ep,lk,q2⟩:=zq
 subst ep
 obtain ⟨rs,c,rk⟩:=mw (P:=X.prog) (w:=X.w) rel
 obtain ⟨z,hd,vs0,r0,dd⟩:=BW I2.hok e
 cases r0
 refine ⟨rs,c,dd,λh' dd' hs=>⟨.ref s.heap.objs.size,_,?_,rfl,q2⟩⟩
 have hz:(eh [] kvs).length<=sizeLine:=by
  have h1:=jj kvs []
  rw [Yg] at h1
  rw [sizeLine_eq]; omega
 have he:∃ q,h'.get? s.heap.objs.size=some q:=let ⟨q,_,_,hq,_⟩:=dd'; ⟨q,hq⟩
 exact pj I2 (by rw [e]; exact True.intro) hs he (xY hz hd (rk.merge .nil) dd')
structure M2 (X:Cx) (o:Expr) (m:Str) (apos:Pos) (e f:Expr) (cpos:Pos):Prop where
 base:attributeBase o m X.env (eval o X.env)=eval o X.env
 few:((backTo cpos (starEach [e,f] X.env)).all (λx=>!x.1) && (backToKw cpos (keywordEach [] X.env)).all (λx=>x.1.isSome)
  && decide (([e,f]:List Expr).length + ([]:List Keyword).length + (if ([]:List Keyword).isEmpty then 0 else 1) < 30))=true
 line:(apos.endLine == cpos.line)=true
 trees:backTo cpos (starEach [e,f] X.env)=[(false,eval e X.env),(false,eval f X.env)]
def IsD (H:Hp) (a:Addr):Prop:=(∃ kvs,Rd H a (.dK kvs)) \/ ∃ kvs,Rd H a (.dT kvs)
theorem tR {a:Addr} (I:Inv X pins σ H s) (d:IsD H a):
  s.TypeIs (.ref a) "dict"/\(∀ b,Value.ref a=.ref b->∃ ob,s.heap.get? b=some ob/\ob.dict=none)/\(a == sysModules)=false:=by
 rcases d with ⟨kvs,e⟩ | ⟨kvs,e⟩
 ·obtain ⟨_,hd,vs,_,dd⟩:=ji I.hok e
  refine ⟨dd.typeIs,λb q=>?_,hd⟩
  cases q
  obtain ⟨ob,_,_,h1,h2,_⟩:=dd
  exact ⟨ob,h1,h2.2.1⟩
 ·obtain ⟨_,hd,xs,_,dd⟩:=uX I.hok e
  refine ⟨dd.typeIs,λb q=>?_,hd⟩
  cases q
  obtain ⟨ob,_,_,h1,h2,_⟩:=dd
  exact ⟨ob,h1,h2.2.1⟩
section
variable {X:Cx} {pins:List (Addr × Obj)} {σ:St} {H:Hp} {s:Shared} {a:Addr} {y d:V} {u r:Value} {o:Option V} {A:Around} {E:Value->Shared->Prop}
theorem C4 (hu:A.units + 1 < cLine) (I:Inv X pins σ H s) (g:C2 H a y o) (ry:RelV y u) (rd:RelV d r) (h:∀ w' s',Inv X pins σ H s'->RelV (o.getD d) w'->Q w' s'):
  wpAny (model X.prog X.w) A (call (.builtin "dict.get") [.ref a,u,r]) Q E s:=by
 rcases g with ⟨kvs,k,e,ey,l⟩ | ⟨kvs,k,b,e,ey,eb,l⟩
 ·subst ey
  obtain ⟨z,hd,vs,rel,dd⟩:=ji I.hok e
  refine call_meetsIn Vi dd.typeIs PySem.F.entry_dict_get (PySem.F.args_dict_get_3 _ _ _) (meets_dict_get_default (aQ X.prog X.w) a (nZ ry) hd r) ⟨_,dd.mapOf,h _ _ (I.tok _) ?_⟩
  rw [l]
  exact (rel.val k).getD rd
 ·subst ey
  cases (show u=Value.ref b from ry)
  obtain ⟨z,hd,xs,rel,dd⟩:=uX I.hok e
  refine call_meetsIn Vi dd.typeIs PySem.F.entry_dict_get (PySem.F.args_dict_get_3 _ _ _) (meetsH_dict_get_default (tupleKind (aQ X.prog X.w)) a b hd r) ⟨U4 hu,k,xs,ph I.hok eb,dd,h _ _ (I.tok _) ?_⟩
  rw [l]
  exact (rel.val k).getD rd
end
noncomputable def C5 (td ty tx:TE):TE:=λσ H Q=>td σ H λx H1=>∃ a,x=.ref a/\IsD H1 a/\ty σ H1 λy H2=>tx σ H2 λz H3=>∃ o,C2 H3 a y o/\Q (o.getD z) H3
section
variable {X:Cx} {o e f:Expr} {apos cpos:Pos} {td ty tx:TE}
theorem x8 (hu:X.A.units + 1 < cLine) (ho:PE X o td) (he:PE X e ty) (hf:PE X f tx) (m:M2 X o "get" apos e f cpos):PE X (.Call (.Attribute o "get" apos) [e,f] [] cpos) (C5 td ty tx):=by
 intro pins s σ H Q I h
 refine Ue m.base m.few m.line PySem.F.plainAttrs_dict Vi PySem.F.type_dict_get (thn (ho pins s σ H _ I h) λu s1 zq=>?_)
 obtain ⟨x,H1,I1,rx,a,ex,d,q1⟩:=zq
 subst ex
 obtain rfl:u=Value.ref a:=rx
 obtain ⟨t1,t2,_⟩:=tR I1 d
 refine ⟨t1,t2,?_⟩
 rw [m.trees]
 refine Calls.callWith_builtin rfl (Calls.evalArgs_plain (U3 (thn (he pins s1 σ H1 _ I1 q1) λiv s2 zq=>ex5 zq λy H2 I2 ry q2=>
  U3 (thn (hf pins s2 σ H2 _ I2 q2) λfv s3 ⟨z,H3,I3,rz,ov,g,q3⟩=>Calls.spliced_nil ?_))))
 exact C4 hu I3 g ry rz λw' s4 I4 rw'=>⟨_,H3,I4,rw',q3⟩
end
end L2
namespace Att
open PySem PySem.W PySem.Calls PyProof.Rows
theorem lu {P:Params} {h:Heap}:∀ (ns:List Int) (vs:List Value),WellAll P h vs (ns.map WData.int)->IntsAre vs ns:=by
 intro ns
 induction ns with
 | nil=>
  intro vs w
  rw [W0] at w
  cases w
  exact .nil
 | cons n ns ih=>
  intro vs w
  rw [Jn] at w
  cases w with
  | cons a b=>
   cases a
   exact .cons _ _ (ih _ b)
theorem wD {l:OpenLaw} {n:Nat} (hn:l.most=some n) {P:Params} {h:Heap} {args:List WData} {vals:List Value}
  (hpre:l.row.toRowW.claim.pre args=true) (hwl:WellAll P h vals args):
  ∃ a vs ns,vals=[Value.ref a]/\args=[WData.list (ns.map WData.int)]/\h.get? a=some { cls:=.type "list",data:=.seq vs.toArray }/\IntsAre vs ns/\ns.length<=n:=by
 have hsh:WShape.hasAll [] args [.list .int]=true:=(pre_splitW hpre).1
 have hc:l.pre.holds [] { args:=args }=true:=(pre_splitW hpre).2
 obtain ⟨d,r,rfl,h1,h2⟩:=hasAllW_cons hsh
 obtain rfl:=hasAllW_nil h2
 obtain ⟨xs,rfl,h3⟩:=hasW_list h1
 obtain ⟨ns,rfl⟩:=items_int h3
 have hlen:ns.length<=n:=by
  unfold OpenLaw.pre at hc
  have h4:(WTm.not (.lt (.lit (.int (n:Int))) (.len (.arg 0)))).holds [] { args:=[.list (ns.map .int)] }=true:=by
   have h4:=(holds_andW hc).1
   rw [hn] at h4
   exact h4
  have h5:=condW_of h4 (w_not (w_lt w_lit (w_len_list (w_arg rfl))))
  rw [Jh] at h5
  refine Nat.le_of_not_lt λq=>?_
  have q':(n:Int) < ((ns.length:Nat):Int):=by omega
  first
   | (rw [Js q'] at h5; exact absurd h5 (by decide))
   | (simp at h5; omega)
 cases hwl with
 | cons w1 w2=>
  cases w2
  cases w1 with
  | list ho hall=>exact ⟨_,_,ns,rfl,rfl,ho,lu ns _ hall,hlen⟩
theorem wF (l:OpenLaw) (args:List WData):l.row.toRowW.claim.post args (.bool true) args=true:=
 postW_of (r:=l.row.toRowW) (X:=(true == true))
  (show WShape.has [] (.bool true) .bool=true by first | rfl | decide | simp [WShape.has,WShape.arms,WShape.armsAll])
  (show (WTm.eq .res (.lit (.bool true))).value [] { args:=args,res:=some (.bool true),after:=args }=some (.bool (true == true)) from w_eq_bool (w_res rfl) w_lit) rfl
theorem attach_call {l:OpenLaw} {n:Nat} {q:Program} {loose:List Str} {XP:(Str->Option Value)->Heap->Prop} {YP:World->Heap->Prop} {d:DefRec}
  (hn:l.most=some n) (hdf:d.params.defaults=[])
  (call:∀ (w:World) (s₀ s₁:Shared) (mg mb:Str->Option Value) (fa:Addr) (o:Obj) (pm cd doc:Value) (a:Addr) (vs:List Value) (ns:List Int),
   Ground q loose [] XP w s₀ mg mb s₁.heap->YP w s₁.heap->
   s₁.heap.get? fa=some o->o.data=.func (docDef d.name d.params d.body d.scope pm cd doc)->s₁.heap.CodeRec cd d.name->mg d.name=some (.ref fa)->
   s₁.heap.get? a=some { cls:=.type "list",data:=.seq vs.toArray }->IntsAre vs ns->ns.length<=n->s₁.gens = #[]->
   codeAny (model l.prog w) callerA (.call (.ref fa) ⟨[.ref a],[]⟩) (λr s'=>r=.ok (.ret (.bool true))/\OldK s₁.heap s'.heap/\s'.os=s₁.os/\AllBare s'.gens) s₁):
  WalkO q loose XP YP l.row.toRowW d [] (λf vs=>PySem.call f vs):=by
 intro w s₀ s₁ mg mb G Y fa o pm cd doc dV kV ho hd hcd hD hmg hg args vals as hpre hlay hrd hwl hlo
 obtain rfl:dV=.none:=Dflts.none hD hdf
 obtain rfl:kV=.none:=Dflts.noKw hD
 obtain ⟨a,vs,ns,rfl,rfl,hobj,hints,hlen⟩:=wD hn hpre hwl
 refine enter_call (codeAny_mono (call w s₀ s₁ mg mb fa o pm cd doc a vs ns G Y ho (fd_plain hd) hcd hmg hobj hints hlen hg) λr s' hq=>?_)
 obtain ⟨rfl,h2,h3,h4⟩:=hq
 exact ⟨.inl ⟨.bool true,.bool true,[],rfl,λ_=>rfl,.bool true,wF l _,λ_=>⟨List.Pairwise.nil,λ_ hm=>(nomatch hm)⟩⟩,h2,h3,h4⟩
end Att
namespace L2
open PySem PySem.Spec PyProof.Rows
variable {x:Str}
theorem n5:∀ {vs:List Value} {ns:List Int},IntsAre vs ns->Vals (ns.map V.int) vs
 | _,_,.nil=>.nil
 | _,_,.cons n t h=>.cons ⟨t,rfl⟩ (n5 h)
def x9 (H:Hp):Prop:=∀ b,H b=none \/ ∃ o xs,H b=some (.frz o (.lst xs))
theorem ya {P:Program} {w:World} {K:PySem.W.Frag} {mg mb:Str->Option Value} {CX:CXT} {k:Nat} {fa a:Addr} {fd:FuncData} {x:Str} {sp:Sp} {s₁:Shared} {vs:List Value} {ns:List Int}
  (KX:K.In s₁.heap) (hns:s₁.heap.Ns mainGlobals mg) (hb:s₁.heap.Ns builtinsNs mb) (hbb:∀ x:Str,x ≠ "__name__"->mb x=bootBuiltins x) (hlim:s₁.heap.NoLimit) (hg:s₁.gens = #[])
  (ha:s₁.heap.get? a=some { cls:=.type "list",data:=.seq vs.toArray }) (hi:IntsAre vs ns) (hl:ns.length<=sizeLine) (hr:Room k callerA)
  (F:∀ base:Heap,K.In base->base.Ns mainGlobals mg->FnOk P w K mg base CX k fa fd [x] sp) (hbind:∀ (s:Shared) (u:Value),BindsTo s fd ⟨[u],[]⟩ [(x,u)])
  (hsp:∀ H:Hp,x9 H->SqL K H a (ns.map V.int)->sp [.ref a] H (λv _=>v=.bl true) λ_ _ _=>False)
  (hCX:∀ H e s',CX [] H s₁ (λ_ _ _=>False) e s'->False):
  codeAny (model P w) callerA (.call (.ref fa) ⟨[.ref a],[]⟩) (λr s'=>r=.ok (.ret (.bool true))/\OldK s₁.heap s'.heap/\s'.os=s₁.os/\AllBare s'.gens) s₁:=by
 have rv:=n5 hi
 have lenV:=hi.length
 -- from an abstract heap in which nothing but the script may be tracked
 have core:∀ H:Hp,x9 H->SqL K H a (ns.map V.int)->HOk P w H s₁.heap->(∀ b,H b ≠ none->b=a)->(H a ≠ none->K.lookup a=none)->
   codeAny (model P w) callerA (.call (.ref fa) ⟨[.ref a],[]⟩) (λr s'=>r=.ok (.ret (.bool true))/\OldK s₁.heap s'.heap/\s'.os=s₁.os/\AllBare s'.gens) s₁:=by
  intro H hO hS hok hA hK
  have base_of:∀ {b:Addr} {o:Obj},s₁.heap.get? b=some o->H b=none->(oX s₁.heap H).get? b=some o:=λe n=>xA e n
  have noA:∀ {b:Addr} {o:Obj} {es:Array DictEntry} {ep:Nat},s₁.heap.get? b=some o->o.data=.dict es ep->H b=none:=λ{b o es ep} e d=>by
   cases q:H b with
   | none=>rfl
   | some u=>
    have e':b=a:=hA b (by rw [q]; simp)
    subst e'
    rw [ha] at e; cases e
    have d':Data.seq vs.toArray _=Data.dict es ep:=d
    cases d'
  have nsK:∀ {b:Addr} {m:Str->Option Value},s₁.heap.Ns b m->(oX s₁.heap H).Ns b m:=λ{b m} ⟨o,es,ep,e,d,r⟩=>⟨o,es,ep,base_of e (noA e d),d,r⟩
  have hKb:K.In (oX s₁.heap H):=λb o e=>base_of (KX b o e) (by
   cases q:H b with
   | none=>rfl
   | some u=>
    have e':b=a:=hA b (by rw [q]; simp)
    subst e'
    rw [hK (by rw [q]; simp)] at e; cases e)
  have hM:Mod K mg (oX s₁.heap H):=⟨hKb,nsK hns,⟨mb,nsK hb,hbb⟩,let ⟨mc,h1,h2⟩:=hlim; ⟨mc,nsK h1,h2⟩⟩
  have e0:Env0 P w K mg (oX s₁.heap H) callerA [] s₁ H:=⟨rfl,hM,λb o e=>zW e,Nat.le_of_eq (wj _ _),trivial,λb hb=>absurd (show b ∈ ([]:List Addr) from hb) (by simp),hok,.of_eq hg⟩
  refine codeAny_mono ((F _ hKb (nsK hns)).run callerA [] s₁ H ⟨[.ref a],[]⟩ [.ref a] [.ref a] _ _ hr e0 (hbind s₁ (.ref a)) (.cons rfl .nil) (hsp H hO hS)) λr s' h=>?_
  cases r with
  | error e=>exact (hCX H e s' h).elim
  | ok fl=>
   cases fl with
   | next=>exact False.elim h
   | brk=>exact False.elim h
   | cont=>exact False.elim h
   | ret u=>
    obtain ⟨v,H',os,bare,un,hok',r',q⟩:=h
    have q':v=.bl true:=q
    subst q'
    obtain rfl:u=Value.bool true:=r'
    refine ⟨rfl,OldK.of_keep λb o e=>?_,os,bare⟩
    cases q:H b with
    | none=>exact un.keep b o e q (by intro z; exact absurd (show b ∈ ([]:List Addr) from z) (by simp)) (by simp)
    | some u=>
     rcases hO b with z | ⟨ob,xs,z⟩
     ·rw [q] at z; cases z
     ·have z2:=un.frzs b ob _ z
      obtain ⟨e1,_⟩:=hok b _ z
      obtain ⟨e2,_⟩:=hok' b _ z2
      rw [e] at e1; cases e1
      exact e2
 cases hk:K.lookup a with
 | some o=>
  -- the script is one of the module's own objects
  have e:=KX a o hk
  rw [ha] at e
  cases e
  refine core (λ_=>none) (λ_=>.inl rfl) (.inr ⟨_,vs.toArray,_,hk,rfl,rfl,rfl,by rw [Ju,lenV]; exact hl,by simpa using rv⟩) (λb u z=>by have z':(none:Option HO)=some u:=z; cases z') (λb z=>absurd rfl z) λz=>absurd rfl z
 | none=>
  refine core (λb=>if b=a then some (.frz { cls:=.type "list",data:=.seq vs.toArray } (.lst (ns.map V.int))) else none) (λb=>?_) (.inl (.inr ⟨{ cls:=.type "list",data:=.seq vs.toArray },J8 rfl⟩)) (λb u z=>?_) (λb z=>?_) λ_=>hk
  ·by_cases hb:b=a
   ·exact .inr ⟨_,_,J8 hb⟩
   ·exact .inl (Jc hb)
  ·by_cases hb:b=a
   ·have z':=(J8 hb).symm.trans z
    cases z'
    subst hb
    exact ⟨ha,by rw [Jh]; exact hl,vs,_,rv,ha⟩
   ·have z':=(Jc hb).symm.trans z
    cases z'
  ·by_cases hb:b=a
   ·exact hb
   ·exact absurd (Jc hb) z
theorem Ay {l:PySem.W.OpenLaw} {n k:Nat} {q:Program} {loose:List Str} {XP:(Str->Option Value)->Heap->Prop} {YP:World->Heap->Prop} {d:DefRec} {K:Params->PySem.W.Frag} {CX:World->CXT} {sp:World->Sp} {x:Str}
  (hn:l.most=some n) (hn2:n<=sizeLine) (hdf:d.params.defaults=[]) (hr:Room k callerA)
  (hY:∀ (w:World) (h:Heap),YP w h->(K w.params).In h)
  (F:∀ (w:World) (mg:Str->Option Value) (fa:Addr) (h:Heap),(K w.params).In h->h.Ns mainGlobals mg->mg d.name=some (.ref fa)->
   ∃ fd:FuncData,(∀ (s:Shared) (u:Value),BindsTo s fd ⟨[u],[]⟩ [(x,u)])/\
    ∀ base:Heap,(K w.params).In base->base.Ns mainGlobals mg->FnOk l.prog w (K w.params) mg base (CX w) k fa fd [x] (sp w))
  (hsp:∀ (w:World) (H:Hp) (a:Addr) (ns:List Int),ns.length<=n->x9 H->SqL (K w.params) H a (ns.map V.int)->sp w [.ref a] H (λv _=>v=.bl true) λ_ _ _=>False)
  (hCX:∀ (w:World) (H:Hp) (s:Shared) (e:Value) (s':Shared),CX w [] H s (λ_ _ _=>False) e s'->False):
  PySem.W.WalkO q loose XP YP l.row.toRowW d [] (λf vs=>PySem.call f vs):=by
 refine Att.attach_call hn hdf λw s₀ s₁ mg mb fa o pm cd doc a vs ns G Y ho hd hcd hmg hobj hints hlen hg=>?_
 have KX:=hY w _ Y
 obtain ⟨fd,hb,hF⟩:=F w mg fa _ KX G.T.g hmg
 exact ya KX G.T.g G.T.b G.T.builtins G.T.nolimit hg hobj hints (Y9 hlen hn2) hr hF hb (λH hO hS=>hsp w H a ns hlen hO hS) λH e s'=>hCX w H s₁ e s'
noncomputable def defArgs (s:Stmt):Arguments:=match s with
 | .FunctionDef _ a _ _ _ _ _ _ _ _=>a
 | _=>{ posonlyargs:=[],args:=[],vararg:=none,kwonlyargs:=[],kw_defaults:=[],kwarg:=none,defaults:=[] }
noncomputable def defBody (s:Stmt):List Stmt:=match s with
 | .FunctionDef _ _ b _ _ _ _ _ _ _=>b
 | _=>[]
noncomputable def defScope (s:Stmt):Scope:=match s with
 | .FunctionDef _ _ _ _ _ _ sc _ _ _=>sc
 | _=>{ kind:=.function,names:=[],isGenerator:=false,isCoroutine:=false }
noncomputable abbrev E0:XK:=λ_ _ _=>False
structure Fun (K:PySem.W.Frag) (x qual:Str) (st:Stmt) (f:Addr) (fd:FuncData):Prop where
 ex:∃ (oc:Value) (od:Option Addr) (kV doc pm:Value) (an:Option Addr) (cdv ct:Value) (osl:Array (Option Value)),
  fd=PySem.W.fnOf x qual (defArgs st) (defBody st) (defScope st) .none kV doc pm an cdv ct/\K.lookup f=some ⟨oc,od,.func fd,osl⟩/\PySem.W.codeIn K cdv qual=true
 kp:PySem.W.keepIn K (.ref f)=true
section
variable {P:Program} {w:World} {K:PySem.W.Frag} {mg:Str->Option Value} {base:Heap}
theorem Fun.binds {qual:Str} {st:Stmt} {f:Addr} {fd:FuncData} {ps:List Str} (F:Fun K x qual st f fd)
  (h:∀ (kV doc pm:Value) (an:Option Addr) (cdv ct:Value) (us:List Value),us.length=ps.length->bindArgs (PySem.W.fnOf x qual (defArgs st) (defBody st) (defScope st) .none kV doc pm an cdv ct) ⟨us,[]⟩=pure (ps.zip us)):Binds K fd ps []:=by
 obtain ⟨oc,od,kV,doc,pm,an,cdv,ct,osl,rfl,lk,hcd⟩:=F.ex
 exact .all (h kV doc pm an cdv ct)
theorem aT {qual:Str} {st:Stmt} {f:Addr} {oc:Value} {od an:Option Addr} {osl:Array (Option Value)} {kV doc pm cdv ct:Value} (l:K.lookup f=some ⟨oc,od,.func (PySem.W.fnOf x qual (defArgs st) (defBody st) (defScope st) .none kV doc pm an cdv ct),osl⟩)
  (c:PySem.W.codeIn K cdv qual=true) (k:PySem.W.keepIn K (.ref f)=true):Fun K x qual st f (PySem.W.fnOf x qual (defArgs st) (defBody st) (defScope st) .none kV doc pm an cdv ct):=⟨⟨oc,od,kV,doc,pm,an,cdv,ct,osl,rfl,l,c⟩,k⟩
end
section
variable {X:Cx}
theorem pv (i:Nat) {pos:Pos} (hN:autoParam (X.N[i]?=some x) Au.h1._auto_1) (hv:Vis X.env.scope x) (hd:autoParam ((x == ("__debug__":Str))=false) Au.h2._auto_1)
  (hcd:autoParam ((x == ("__classdict__":Str))=false) Au.h2._auto_1):PE X (.Name x pos) (Ec i):=Cg hN hv hd hcd
end
theorem pq {A B:Prop} (h:B):if false=true then A else B:=by
 rw [Jc Jl]
 exact h
theorem pz {A B:Prop} (h:A):if true=true then A else B:=by
 rw [J8 rfl]
 exact h
section
variable {X:Cx}
theorem n6:bw X (.builtin "len") (λxs H Q=>∃ a kvs,xs=[V.ref a]/\H a=some (.dK kvs)/\Q (.int kvs.length) H):=by
 intro pins s σ H xs us Q I r h
 obtain ⟨a,kvs,rfl,ha,q⟩:=h
 obtain ⟨u,rfl,ru⟩:=W9 r
 cases ru
 exact ES I (.inl ha) λt s' I'=>⟨.int kvs.length,H,I',⟨t,rfl⟩,q⟩
end
end L2
end
set_option autoImplicit false
namespace PD
open PySem
inductive D where
 | non | bl (b:Bool) | int (i:Int) | str (x:Str)
 | tup (xs:List D) | lst (xs:List D) | fz (xs:List D) | dic (kvs:List (Sum Int Str × D)) | ref (n:Nat) | ty (n:String)
 /-- a caught exception of an own class; an own class -/
 | exc (c:Str) | cls (c:Str)
 deriving Inhabited
inductive SO where
 | lst (xs:List D) | dic (kvs:List (Sum Int Str × D)) | ins (c:Str) (fs:List (Str × D))
 /-- a dict that has been walked: read,changed no more -/
 | fdic (kvs:List (Sum Int Str × D))
 /-- a list that has been walked: read,changed no more -/
 | flst (xs:List D)
 deriving Inhabited
noncomputable abbrev Sto:=List SO
set_option genInjectivity false in
structure XD where
 cls:Str
 arg:D
 deriving Inhabited
inductive R (A:Type) where
 | ok (a:A) (S:Sto) | err (x:XD) (S:Sto) | bad
noncomputable def R.bind {A B:Type} (r:R A) (f:A->Sto->R B):R B:=match r with
 | .ok a S=>f a S | .err x S=>.err x S | .bad=>.bad
theorem R.bind_ok {A B:Type} (a:A) (S:Sto) (f:A->Sto->R B):(R.ok a S).bind f=f a S:=rfl
theorem R.bind_err {A B:Type} (x:XD) (S:Sto) (f:A->Sto->R B):(R.err (A:=A) x S).bind f=.err x S:=rfl
theorem R.bind_bad {A B:Type} (f:A->Sto->R B):(R.bad (A:=A)).bind f=.bad:=rfl
noncomputable def R.of {A:Type} (S:Sto):Option A->R A
 | some a=>.ok a S | none=>.bad
theorem R.of_some {A:Type} (S:Sto) (a:A):R.of S (some a)=.ok a S:=rfl
noncomputable abbrev Rho:=List (Option D)
noncomputable abbrev EM:=Rho->Sto->R D
noncomputable abbrev TM:=Rho->Sto->R Bool
noncomputable abbrev AM:=Rho->Sto->R (List D)
set_option genInjectivity false in
inductive F where
 | nx (r:Rho) | rt (d:D) | bk (r:Rho) | ct (r:Rho)
noncomputable abbrev SM:=Rho->Sto->R F
noncomputable abbrev FM:=List D->Sto->R D
noncomputable def ag (i:Nat):EM:=λr S=>match r[i]? with
 | some (some d)=>.ok d S
 | _=>.bad
noncomputable def eC (d:D):EM:=λ_ S=>.ok d S
noncomputable def eUn (f:Sto->D->Option D) (a:EM):EM:=λr S=>(a r S).bind λx S1=>R.of S1 (f S1 x)
noncomputable def eOp (f:Sto->D->D->Option D) (a b:EM):EM:=λr S=>(a r S).bind λx S1=>(b r S1).bind λy S2=>R.of S2 (f S2 x y)
noncomputable def gQ (f g:Sto->D->D->Option D) (a b c:EM):EM:=λr S=>(a r S).bind λx S1=>(b r S1).bind λy S2=>match f S2 x y with
 | some (.bl true)=>(c r S2).bind λz S3=>R.of S3 (g S3 y z)
 | some (.bl false)=>.ok (.bl false) S2
 | _=>.bad
noncomputable def lx (a b:EM):EM:=λr S=>(a r S).bind λx S1=>match x with
 | .bl true=>b r S1
 | .bl false=>.ok (.bl false) S1
 | _=>.bad
noncomputable def eOr (a b:EM):EM:=λr S=>(a r S).bind λx S1=>match x with
 | .bl true=>.ok (.bl true) S1
 | .bl false=>b r S1
 | _=>.bad
noncomputable def C6 (a:EM):EM:=λr S=>(a r S).bind λx S1=>match x with
 | .bl b=>.ok (.bl (!b)) S1
 | _=>.bad
noncomputable def eIf (t:TM) (a b:EM):EM:=λr S=>(t r S).bind λc S1=>if c=true then a r S1 else b r S1
noncomputable def ak:AM:=λ_ S=>.ok [] S
noncomputable def af (a:EM) (t:AM):AM:=λr S=>(a r S).bind λx S1=>(t r S1).bind λxs S2=>.ok (x :: xs) S2
noncomputable def eg (t:AM):EM:=λr S=>(t r S).bind λxs S1=>if xs.length<=sizeLine then .ok (.tup xs) S1 else .bad
noncomputable def wG (t:AM):EM:=λr S=>(t r S).bind λxs S1=>if xs.length<=sizeLine then .ok (.lst xs) S1 else .bad
noncomputable def eNew (t:AM):EM:=λr S=>(t r S).bind λxs S1=>if xs.length<=sizeLine then .ok (.ref S1.length) (S1 ++ [.lst xs]) else .bad
noncomputable def ax (f:FM) (t:AM):EM:=λr S=>(t r S).bind λxs S1=>f xs S1
noncomputable def eB (f:Sto->List D->Option D) (t:AM):EM:=λr S=>(t r S).bind λxs S1=>R.of S1 (f S1 xs)
noncomputable def eBN (f:Sto->List D->Option SO) (t:AM):EM:=λr S=>(t r S).bind λxs S1=>match f S1 xs with
 | some o=>.ok (.ref S1.length) (S1 ++ [o])
 | none=>.bad
noncomputable def tV (a:EM):TM:=λr S=>(a r S).bind λx S1=>match x with
 | .bl b=>.ok b S1
 | _=>.bad
noncomputable def i8 (a b:TM):TM:=λr S=>(a r S).bind λc S1=>if c=true then b r S1 else .ok false S1
noncomputable def tOr (a b:TM):TM:=λr S=>(a r S).bind λc S1=>if c=true then .ok true S1 else b r S1
noncomputable def ff (a:TM):TM:=λr S=>(a r S).bind λc S1=>.ok (!c) S1
noncomputable def R.nx {A:Type}:R A->R A
 | .err _ _=>.bad
 | r=>r
noncomputable def eNx (a:EM):EM:=λr S=>(a r S).nx
noncomputable def tNx (a:TM):TM:=λr S=>(a r S).nx
noncomputable def aNx (a:AM):AM:=λr S=>(a r S).nx
noncomputable def bI:SM:=λr S=>.ok (.nx r) S
noncomputable def wH:SM:=λ_ _=>.bad
noncomputable def aA (a b:SM):SM:=λr S=>(a r S).bind λf S1=>match f with
 | .nx r1=>b r1 S1
 | g=>.ok g S1
noncomputable def bf (a:EM):SM:=λr S=>(a r S).bind λx S1=>.ok (.rt x) S1
noncomputable def FO:SM:=λ_ S=>.ok (.rt .non) S
noncomputable def cj (a:EM):SM:=λr S=>(a r S).bind λ_ S1=>.ok (.nx r) S1
noncomputable def sIf (t:TM) (a b:SM):SM:=λr S=>(t r S).bind λc S1=>if c=true then a r S1 else b r S1
noncomputable def FF:SM:=λr S=>.ok (.bk r) S
noncomputable def FP:SM:=λr S=>.ok (.ct r) S
set_option genInjectivity false in
inductive G where
 | nm (i:Nat) | tp (gs:List G)
mutual
noncomputable def G.put:G->D->Rho->Option Rho
 | .nm i,d,r=>some (r.set i (some d))
 | .tp gs,d,r=>match d with
  | .tup xs=>G.puts gs xs r
  | _=>none
noncomputable def G.puts:List G->List D->Rho->Option Rho
 | [],[],r=>some r
 | g :: gs,x :: xs,r=>match G.put g x r with
  | some r1=>G.puts gs xs r1
  | none=>none
 | _,_,_=>none
end
noncomputable def aI (i:Nat) (a:EM):SM:=λr S=>(a r S).bind λx S1=>.ok (.nx (r.set i (some x))) S1
noncomputable def C7 (g:G) (a:EM):SM:=λr S=>(a r S).bind λx S1=>match g.put x r with
 | some r1=>.ok (.nx r1) S1
 | none=>.bad
noncomputable def Az (i j:Nat) (t:AM):SM:=λr S=>(t r S).bind λxs S1=>match xs with
 | [x,y]=>.ok (.nx ((r.set i (some x)).set j (some y))) S1
 | _=>.bad
noncomputable def jI (f:Sto->D->D->D->Option Sto) (e o i:EM):SM:=λr S=>(e r S).bind λv S1=>(o r S1).bind λx S2=>(i r S2).bind λy S3=>match f S3 x y v with
 | some S4=>.ok (.nx r) S4
 | none=>.bad
noncomputable def FQ (f:Sto->D->List D->Option Sto) (o:EM) (t:AM):SM:=λr S=>(o r S).bind λx S1=>(t r S1).bind λys S2=>match f S2 x ys with
 | some S3=>.ok (.nx r) S3
 | none=>.bad
noncomputable def sNx (a:SM):SM:=λr S=>(a r S).nx
noncomputable def FG (c:Str) (t:AM):SM:=λr S=>(t r S).bind λxs S1=>if xs.length<=sizeLine then .err ⟨c,.tup xs⟩ S1 else .bad
noncomputable def FR (cs:List Str) (i n:Nat) (b h:SM):SM:=λr S=>match b r S with
 | .err x S1=>if cs.contains x.cls=true then (h ((List.replicate n none).set i (some (.exc x.cls))) S1).nx.bind λf S2=>match f with
   | .rt d=>.ok (.rt d) S2
   | _=>.bad
  else .bad
 | .ok f S1=>.ok f S1
 | .bad=>.bad
noncomputable def forL (g:G) (b:SM):List D->SM
 | []=>λr S=>.ok (.nx r) S
 | x :: xs=>λr S=>match g.put x r with
  | none=>.bad
  | some r1=>(b r1 S).bind λf S1=>match f with
   | .nx r2=>forL g b xs r2 S1
   | .ct r2=>forL g b xs r2 S1
   | .bk r2=>.ok (.nx r2) S1
   | .rt d=>.ok (.rt d) S1
noncomputable def er (it:AM) (g:G) (b:SM):SM:=λr S=>(it r S).bind λxs S1=>forL g b xs r S1
noncomputable def cH (t:TM) (b:SM):Nat->SM
 | 0=>λ_ _=>.bad
 | n + 1=>λr S=>(t r S).bind λc S1=>if c=true then (b r S1).bind λf S2=>match f with
   | .nx r2=>cH t b n r2 S2
   | .ct r2=>cH t b n r2 S2
   | .bk r2=>.ok (.nx r2) S2
   | .rt d=>.ok (.rt d) S2
  else .ok (.nx r) S1
noncomputable def eY (k:Nat) (caps:List Nat) (r:Rho):Rho:=List.replicate k none ++ caps.map λi=>(r[i]?).join
noncomputable def dk (g:G) (t:TM) (e:EM):List D->Rho->Sto->R (List D)
 | [],_,S=>.ok [] S
 | x :: xs,r,S=>match g.put x r with
  | none=>.bad
  | some r1=>(t r1 S).bind λc S1=>if c=true then (e r1 S1).bind λy S2=>(dk g t e xs r1 S2).bind λys S3=>.ok (y :: ys) S3
    else dk g t e xs r1 S1
noncomputable def bB (it:AM) (k:Nat) (caps:List Nat) (g:G) (t:TM) (e:EM):EM:=λr S=>(it r S).bind λxs S1=>
 if xs.length<=sizeLine then (dk g t e xs (eY k caps r) S1).bind λys S2=>.ok (.lst ys) S2 else .bad
noncomputable def bZ:TM:=λ_ S=>.ok true S
noncomputable def fnM (n:Nat) (b:SM):FM:=λds S=>(b (ds.map some ++ List.replicate (n - ds.length) none) S).bind λf S1=>match f with
 | .rt d=>.ok d S1
 | .nx _=>.ok .non S1
 | _=>.bad
end PD
namespace PD
open PySem PySem.Spec PyProof.Rows L2
variable {H H' H2:Hp} {a p:Addr} {o:HO} {n:Nat} {r:Rho} {X:Cx} {e tg:Expr} {t:TT} {x:Str} {i:Int} {T:String} {op:CmpOp} {rest es:List Expr} {mt:TM} {ms:AM} {S:Sto} {qb:Bool} {N:List Str} {env:Env} {scope:Scope} {caps:List Nat} {ma:EM} {pins:List (Addr × Obj)} {s:Shared}
set_option genInjectivity false in
structure Wd where
 st:List Addr
 hid:List Addr
variable {w w' w2:Wd}
def Wd.no (w:Wd) (a:Addr):Prop:=a ∉ w.st/\a ∉ w.hid
noncomputable def Wd.add (w:Wd) (p:Addr):Wd:=⟨w.st ++ [p],w.hid⟩
noncomputable def Wd.hide (w:Wd) (p:Addr):Wd:=⟨w.st,p :: w.hid⟩
def At (w:Wd) (H:Hp) (a:Addr) (o:HO):Prop:=H a=some o/\w.no a
def rn (K:PySem.W.Frag) (a:Addr) (vs:List V):Prop:=
 ∃ (o:Obj) (its:Array Value) (n:Nat),K.lookup a=some o/\o.cls=.type "tuple"/\o.data=.seq its n/\its.size<=sizeLine/\Vals vs its.toList
def FH (K:PySem.W.Frag) (a:Addr) (vs:List V):Prop:=
 ∃ (o:Obj) (its:Array Value) (n:Nat),K.lookup a=some o/\o.cls=.type "list"/\o.dict=none/\o.data=.seq its n/\its.size<=sizeLine/\Vals vs its.toList
def tS (K:PySem.W.Frag) (w:Wd) (H:Hp) (a:Addr) (vs:List V):Prop:=(∃ o,At w H a (.frz o (.lst vs))) \/ FH K a vs
theorem tS.sq {K:PySem.W.Frag} {vs:List V} (h:tS K w H a vs):SqL K H a vs:=h.elim (λ⟨o,z⟩=>.inl (.inr ⟨o,z.1⟩)) .inr
noncomputable def ExcAt (a:Addr) (C:Value):Heap->Prop:=λh=>∃ o,h.get? a=some o/\o.cls=C
mutual
noncomputable def RD (K:PySem.W.Frag) (w:Wd) (H:Hp):D->V->Prop
 | .non,v=>v=.non
 | .bl b,v=>v=.bl b
 | .int i,v=>v=.int i
 | .str x,v=>v=.str x
 | .tup ds,v=>∃ a vs,v=.ref a/\(At w H a (.tup vs) \/ rn K a vs)/\RDs K w H ds vs
 | .lst ds,v=>∃ a vs,v=.ref a/\At w H a (.lst vs)/\RDs K w H ds vs
 | .fz ds,v=>∃ a vs,v=.ref a/\tS K w H a vs/\RDs K w H ds vs
 | .dic kvs,v=>∃ a us,v=.ref a/\At w H a (.dK us)/\RDk K w H kvs us
 | .ref n,v=>∃ a,v=.ref a/\w.st[n]?=some a
 | .ty n,v=>v=.ty n
 | .exc c,v=>∃ a C o,v=.ref a/\PySem.W.nsIn K mainGlobals c=some (some C)/\At w H a (.frz o (.ext (ExcAt a C)))
 | .cls c,v=>∃ C,PySem.W.nsIn K mainGlobals c=some (some (.ref C))/\v=.ref C
noncomputable def RDs (K:PySem.W.Frag) (w:Wd) (H:Hp):List D->List V->Prop
 | [],vs=>vs=[]
 | d :: ds,vs=>∃ v r,vs=v :: r/\RD K w H d v/\RDs K w H ds r
noncomputable def RDk (K:PySem.W.Frag) (w:Wd) (H:Hp):List (Sum Int Str × D)->List (Key × V)->Prop
 | [],us=>us=[]
 | (k,d) :: ds,us=>∃ v r,us=(k,v) :: r/\RD K w H d v/\RDk K w H ds r
end
structure Ext (w:Wd) (H:Hp) (w':Wd) (H':Hp):Prop where
 keep:∀ a o,H a=some o->a ∉ w.st->H' a=some o
 sub:∃ l,w'.st=w.st ++ l/\∀ a ∈ l,H a=none
 hid:∀ a,a ∈ w.hid->a ∈ w'.hid
 hnew:∀ a,a ∈ w'.hid->a ∈ w.hid \/ H a=none
 frz:∀ a o u,H a=some (.frz o u)->H' a=some (.frz o u)
theorem Ext.refl (w:Wd) (H:Hp):Ext w H w H:=⟨λ_ _ h _=>h,⟨[],by simp,λ_ h=>nomatch h⟩,λ_ h=>h,λ_ h=>.inl h,λ_ _ _ h=>h⟩
theorem Ext.out (x:Ext w H w' H') (h:H a=some o) (n:a ∉ w.st):a ∉ w'.st:=by
 obtain ⟨l,e,f⟩:=x.sub
 rw [e]
 intro z
 rcases Jp.mp z with z | z
 ·exact n z
 ·rw [f a z] at h; cases h
theorem Ext.at (x:Ext w H w' H') (h:At w H a o):At w' H' a o:=⟨x.keep a o h.1 h.2.1,x.out h.1 h.2.1,λz=>(x.hnew a z).elim h.2.2 λe=>by rw [h.1] at e; cases e⟩
theorem Ext.get (x:Ext w H w' H') (h:w.st[n]?=some a):w'.st[n]?=some a:=by
 obtain ⟨l,e,f⟩:=x.sub
 rw [e,Jq (J9.mp h).1]
 exact h
theorem Ext.trans {w1:Wd} {H1:Hp} (x:Ext w H w1 H1) (y:Ext w1 H1 w2 H2) (fr:∀ a ∈ w.st,∃ o,H a=some o/\∃ o',H1 a=some o'):Ext w H w2 H2:=by
 have hno:∀ a,H1 a=none->H a=none:=λa z=>by
  cases e:H a with
  | none=>rfl
  | some o=>
   by_cases hw:a ∈ w.st
   ·obtain ⟨_,_,o',e'⟩:=fr a hw
    rw [z] at e'; cases e'
   ·have:=x.keep a o e hw
    rw [z] at this; cases this
 refine ⟨λa o h n=>y.keep a o (x.keep a o h n) (x.out h n),?_,λa h=>y.hid a (x.hid a h),λa h=>(y.hnew a h).elim (x.hnew a) λz=>.inr (hno a z),λa o u h=>y.frz a o u (x.frz a o u h)⟩
 obtain ⟨l,e1,f⟩:=x.sub
 obtain ⟨l2,e2,f2⟩:=y.sub
 refine ⟨l ++ l2,by rw [e2,e1]; simp,λa ha=>?_⟩
 rcases Jp.mp ha with z | z
 ·exact f a z
 ·exact hno a (f2 a z)
section
variable {K:PySem.W.Frag} {w w':Wd} {H H':Hp}
mutual
theorem RD.ext (x:Ext w H w' H'):∀ (d:D) (v:V),RD K w H d v->RD K w' H' d v
 | .non,_,h=>h
 | .bl _,_,h=>h
 | .int _,_,h=>h
 | .str _,_,h=>h
 | .tup ds,v,h=>by
  unfold RD at h ⊢
  obtain ⟨a,vs,e,p,r⟩:=h
  exact ⟨a,vs,e,p.imp x.at id,RDs.ext x ds vs r⟩
 | .lst ds,v,h=>by
  unfold RD at h ⊢
  obtain ⟨a,vs,e,p,r⟩:=h
  exact ⟨a,vs,e,x.at p,RDs.ext x ds vs r⟩
 | .fz ds,v,h=>by
  unfold RD at h ⊢
  obtain ⟨a,vs,e,p,r⟩:=h
  exact ⟨a,vs,e,p.imp (λ⟨o,z⟩=>⟨o,x.at z⟩) id,RDs.ext x ds vs r⟩
 | .dic kvs,v,h=>by
  unfold RD at h ⊢
  obtain ⟨a,us,e,p,r⟩:=h
  exact ⟨a,us,e,x.at p,RDk.ext x kvs us r⟩
 | .ref n,v,h=>by
  unfold RD at h ⊢
  obtain ⟨a,e,p⟩:=h
  exact ⟨a,e,x.get p⟩
 | .ty _,_,h=>h
 | .exc c,v,h=>by
  unfold RD at h ⊢
  obtain ⟨a,C,o,e,q,p⟩:=h
  exact ⟨a,C,o,e,q,x.at p⟩
 | .cls _,_,h=>h
theorem RDs.ext (x:Ext w H w' H'):∀ (ds:List D) (vs:List V),RDs K w H ds vs->RDs K w' H' ds vs
 | [],_,h=>h
 | d :: ds,vs,h=>by
  unfold RDs at h ⊢
  obtain ⟨v,r,e,p,q⟩:=h
  exact ⟨v,r,e,RD.ext x d v p,RDs.ext x ds r q⟩
theorem RDk.ext (x:Ext w H w' H'):∀ (ds:List (Sum Int Str × D)) (vs:List (Key × V)),RDk K w H ds vs->RDk K w' H' ds vs
 | [],_,h=>h
 | (k,d) :: ds,vs,h=>by
  unfold RDk at h ⊢
  obtain ⟨v,r,e,p,q⟩:=h
  exact ⟨v,r,e,RD.ext x d v p,RDk.ext x ds r q⟩
end
end
def RDf (K:PySem.W.Frag) (w:Wd) (H:Hp) (fs:List (Str × D)) (us:List (Str × V)):Prop:=fs.map (·.1)=us.map (·.1)/\RDs K w H (fs.map (·.2)) (us.map (·.2))
noncomputable def RO (K:PySem.W.Frag) (w:Wd) (H:Hp) (a:Addr):SO->Prop
 | .lst ds=>∃ vs,H a=some (.lst vs)/\RDs K w H ds vs
 | .dic kvs=>∃ us,H a=some (.dK us)/\RDk K w H kvs us
 | .fdic kvs=>∃ o us,H a=some (.frz o (.dK us))/\RDk K w H kvs us
 | .ins c fs=>∃ C dx us,PySem.W.nsIn K mainGlobals c=some (some (.ref C))/\H a=some (.ins C dx us)/\RDf K w H fs us
 | .flst ds=>∃ o vs,H a=some (.frz o (.lst vs))/\RDs K w H ds vs
structure RS (K:PySem.W.Frag) (w:Wd) (H:Hp) (S:Sto):Prop where
 nd:w.st.Nodup
 len:w.st.length=S.length
 obj:∀ (n:Nat) (o:SO),S[n]?=some o->∃ a:Addr,w.st[n]?=some a/\RO K w H a o
 hid:∀ a ∈ w.hid,a ∉ w.st/\∃ o,H a=some o
section
variable {K:PySem.W.Frag} {w w':Wd} {H H':Hp} {S:Sto}
theorem RS.there (s:RS K w H S) (ha:a ∈ w.st):∃ o,H a=some o:=by
 obtain ⟨n,hn⟩:=List.mem_iff_getElem?.mp ha
 have hl:n < S.length:=by rw [<- s.len]; exact (J9.mp hn).1
 obtain ⟨b,hb,r⟩:=s.obj n S[n] (Ja hl)
 rw [hn] at hb; cases hb
 revert r
 cases S[n] with
 | lst ds=>rintro ⟨vs,e,_⟩; exact ⟨_,e⟩
 | dic kvs=>rintro ⟨vs,e,_⟩; exact ⟨_,e⟩
 | fdic kvs=>rintro ⟨o,vs,e,_⟩; exact ⟨_,e⟩
 | ins c fs=>rintro ⟨C,dx,us,_,e,_⟩; exact ⟨_,e⟩
 | flst ds=>rintro ⟨o,vs,e,_⟩; exact ⟨_,e⟩
theorem RS.freshS (s:RS K w H S) (h:H a=none):a ∉ w.st:=λz=>by
 obtain ⟨o,e⟩:=s.there z
 rw [h] at e; cases e
theorem RS.fresh (s:RS K w H S) (h:H a=none):w.no a:=⟨s.freshS h,λz=>by
 obtain ⟨_,o,e⟩:=s.hid a z
 rw [h] at e; cases e⟩
theorem Ext.trans' {w1:Wd} {H1:Hp} {S1:Sto} (x:Ext w H w1 H1) (y:Ext w1 H1 w2 H2) (s:RS K w H S) (s1:RS K w1 H1 S1):Ext w H w2 H2:=
 x.trans y λa ha=>by
  obtain ⟨o,e⟩:=s.there ha
  obtain ⟨l,el,_⟩:=x.sub
  obtain ⟨o',e'⟩:=s1.there (a:=a) (by rw [el]; exact Yr _ ha)
  exact ⟨o,e,o',e'⟩
theorem Ext.new (hp:H p=none):Ext w H w (upd H p o):=
 ⟨λa u e _=>by rw [aL (aO e hp)]; exact e,⟨[],by simp,λ_ z=>nomatch z⟩,λ_ h=>h,λ_ h=>.inl h,λa o u e=>by rw [aL (aO e hp)]; exact e⟩
theorem RO.ext (x:Ext w H w' H') {o:SO} (hk:∀ u,H a=some u->H' a=some u) (r:RO K w H a o):RO K w' H' a o:=by
 cases o with
 | lst ds=>obtain ⟨vs,e,q⟩:=r; exact ⟨vs,hk _ e,RDs.ext x _ _ q⟩
 | dic kvs=>obtain ⟨vs,e,q⟩:=r; exact ⟨vs,hk _ e,RDk.ext x _ _ q⟩
 | fdic kvs=>obtain ⟨o,vs,e,q⟩:=r; exact ⟨o,vs,hk _ e,RDk.ext x _ _ q⟩
 | ins c fs=>obtain ⟨C,dx,us,n,e,q1,q2⟩:=r; exact ⟨C,dx,us,n,hk _ e,q1,RDs.ext x _ _ q2⟩
 | flst ds=>obtain ⟨o,vs,e,q⟩:=r; exact ⟨o,vs,hk _ e,RDs.ext x _ _ q⟩
theorem RS.new (s:RS K w H S) (hp:H p=none):RS K w (upd H p o) S:=
  ⟨s.nd,s.len,λn so e=>by
    obtain ⟨a,ha,r⟩:=s.obj n so e
    exact ⟨a,ha,r.ext (Ext.new hp) λu q=>by rw [aL (aO q hp)]; exact q⟩,
   λa ha=>by
    obtain ⟨h1,u,e⟩:=s.hid a ha
    exact ⟨h1,u,by rw [aL (aO e hp)]; exact e⟩⟩
theorem Ext.alloc (hp:H p=none):Ext w H (w.add p) (upd H p o):=
 ⟨λa u e _=>by rw [aL (aO e hp)]; exact e,⟨[p],rfl,λa ha=>by
  have:a=p:=by simpa using ha
  subst this; exact hp⟩,λ_ h=>h,λ_ h=>.inl h,λa o u e=>by rw [aL (aO e hp)]; exact e⟩
theorem RS.alloc {so:SO} (s:RS K w H S) (hp:H p=none) (r:RO K (w.add p) (upd H p o) p so):RS K (w.add p) (upd H p o) (S ++ [so]):=by
 have np:=s.freshS hp
 refine ⟨?_,by simp [Wd.add,s.len],λn so' e=>?_,λa ha=>?_⟩
 ·show (w.st ++ [p]).Nodup
  rw [Uf]
  exact ⟨s.nd,by simp,λa ha b hb=>by
   have:b=p:=by simpa using hb
   subst this
   rintro rfl
   exact np ha⟩
 ·by_cases hn:n < S.length
  ·rw [Jq hn] at e
   obtain ⟨a,ha,q⟩:=s.obj n so' e
   exact ⟨a,(Ext.alloc (o:=o) hp).get ha,q.ext (Ext.alloc hp) λu z=>by rw [aL (aO z hp)]; exact z⟩
  ·have hn':n=S.length:=by
    have:=(J9.mp e).1
    simp at this; omega
   subst hn'
   simp at e; subst e
   exact ⟨p,by show (w.st ++ [p])[S.length]?=some p; rw [<- s.len]; simp,r⟩
 ·obtain ⟨h1,u,e⟩:=s.hid a ha
  refine ⟨?_,u,by rw [aL (aO e hp)]; exact e⟩
  show a ∉ w.st ++ [p]
  intro z
  rcases Jp.mp z with z | z
  ·exact h1 z
  ·have:a=p:=by simpa using z
   subst this
   rw [hp] at e; cases e
theorem Ext.mut {u0:HO} (hp:p ∈ w.st) (h0:H p=some u0) (hu:autoParam (∀ o u,u0 ≠ .frz o u) Au.h8._auto_1):Ext w H w (upd H p o):=
 ⟨λa u e n=>by rw [aL (λz:a=p=>n (z ▸ hp))]; exact e,⟨[],by simp,λ_ z=>nomatch z⟩,λ_ h=>h,λ_ h=>.inl h,λa o u e=>by
  rw [aL (λz:a=p=>by rw [z,h0] at e; exact hu o u (Yd e))]; exact e⟩
theorem RS.mut {so:SO} (s:RS K w H S) (hp:w.st[n]?=some p) {u0:HO} (h0:H p=some u0) (r:RO K w (upd H p o) p so) (hu:autoParam (∀ o u,u0 ≠ .frz o u) Au.h8._auto_1):RS K w (upd H p o) (S.set n so):=by
 have hm:p ∈ w.st:=Z1 hp
 refine ⟨s.nd,by simp [s.len],λm so' e=>?_,λa ha=>?_⟩
 ·by_cases hn:m=n
  ·subst hn
   have hl:m < S.length:=by rw [<- s.len]; exact (J9.mp hp).1
   rw [Y6 hl] at e
   cases e
   exact ⟨p,hp,r⟩
  ·rw [Yk (Ne.symm hn)] at e
   obtain ⟨a,ha,q⟩:=s.obj m so' e
   refine ⟨a,ha,q.ext (Ext.mut hm h0 hu) λu z=>?_⟩
   have:a ≠ p:=λz=>by
    subst z
    obtain ⟨h1,e1⟩:=J9.mp ha
    obtain ⟨h2,e2⟩:=J9.mp hp
    exact hn ((List.getElem_inj s.nd).mp (e1.trans e2.symm))
   rw [aL this]; exact z
 ·obtain ⟨h1,u,e⟩:=s.hid a ha
  exact ⟨h1,u,by rw [aL (λz:a=p=>h1 (z ▸ hm))]; exact e⟩
end
def RSt (K:PySem.W.Frag) (w:Wd) (H:Hp) (r:Rho) (s:L2.St):Prop:=
 s.length=r.length/\∀ (i:Nat) (d:D),r[i]?=some (some d)->∃ v,s[i]?=some (some v)/\RD K w H d v
theorem RSt.ext {K:PySem.W.Frag} {s:L2.St} (h:RSt K w H r s) (x:Ext w H w' H'):RSt K w' H' r s:=
 ⟨h.1,λi d e=>let ⟨v,e1,q⟩:=h.2 i d e; ⟨v,e1,RD.ext x d v q⟩⟩
theorem RSt.set {K:PySem.W.Frag} {s:L2.St} (h:RSt K w H r s) (i:Nat) {d:D} {v:V} (q:RD K w H d v):RSt K w H (r.set i (some d)) (s.set i (some v)):=by
 refine ⟨by simp [h.1],λj d' e=>?_⟩
 by_cases hj:j=i
 ·subst hj
  have hl:j < r.length:=by
   have:=(J9.mp e).1
   simpa using this
  rw [Y6 hl] at e
  cases e
  exact ⟨v,Y6 (by rw [h.1]; exact hl),q⟩
 ·rw [Yk (Ne.symm hj)] at e
  obtain ⟨v',e',q'⟩:=h.2 j d' e
  exact ⟨v',by rw [Yk (Ne.symm hj)]; exact e',q'⟩
section
variable {K:PySem.W.Frag} {w:Wd} {H:Hp}
theorem RDs.nil:RDs K w H [] []:=by unfold RDs; rfl
theorem RDs.cons {d:D} {v:V} {ds:List D} {vs:List V} (r:RD K w H d v) (q:RDs K w H ds vs):RDs K w H (d :: ds) (v :: vs):=by unfold RDs; exact ⟨v,vs,rfl,r,q⟩
theorem RDs.nil_inv {vs:List V} (h:RDs K w H [] vs):vs=[]:=by unfold RDs at h; exact h
theorem RDs.cons_inv {d:D} {ds:List D} {vs:List V} (h:RDs K w H (d :: ds) vs):∃ v r,vs=v :: r/\RD K w H d v/\RDs K w H ds r:=by unfold RDs at h; exact h
theorem RDs.one_inv {d:D} {vs:List V} (h:RDs K w H [d] vs):∃ v,vs=[v]/\RD K w H d v:=by
 obtain ⟨v,r,rfl,h1,h2⟩:=h.cons_inv
 rw [h2.nil_inv]
 exact ⟨v,rfl,h1⟩
theorem RDs.two_inv {d e:D} {vs:List V} (h:RDs K w H [d,e] vs):∃ v u,vs=[v,u]/\RD K w H d v/\RD K w H e u:=by
 obtain ⟨v,r,rfl,h1,h2⟩:=h.cons_inv
 obtain ⟨u,rfl,h3⟩:=h2.one_inv
 exact ⟨v,u,rfl,h1,h3⟩
theorem RDs.length:∀ {ds:List D} {vs:List V},RDs K w H ds vs->vs.length=ds.length
 | [],_,h=>by rw [h.nil_inv]; rfl
 | _ :: _,_,h=>by
  obtain ⟨v,r,rfl,_,q⟩:=h.cons_inv
  simp [q.length]
theorem RDs.get:∀ {ds:List D} {vs:List V} {i:Nat} {d:D},RDs K w H ds vs->ds[i]?=some d->∃ v,vs[i]?=some v/\RD K w H d v
 | [],_,_,_,_,e=>by simp at e
 | _ :: _,_,0,_,h,e=>by
  obtain ⟨v,r,rfl,p,_⟩:=h.cons_inv
  simp at e; subst e
  exact ⟨v,rfl,p⟩
 | _ :: ds,_,i + 1,d,h,e=>by
  obtain ⟨v,r,rfl,_,q⟩:=h.cons_inv
  obtain ⟨u,e1,q1⟩:=q.get (i:=i) (d:=d) (by simpa using e)
  exact ⟨u,by simpa using e1,q1⟩
theorem RDs.append:∀ {ds es:List D} {vs us:List V},RDs K w H ds vs->RDs K w H es us->RDs K w H (ds ++ es) (vs ++ us)
 | [],_,_,_,h,q=>by rw [h.nil_inv]; exact q
 | _ :: _,_,_,_,h,q=>by
  obtain ⟨v,r,rfl,p,t⟩:=h.cons_inv
  exact .cons p (t.append q)
theorem RDs.take:∀ {ds:List D} {vs:List V} (n:Nat),RDs K w H ds vs->RDs K w H (ds.take n) (vs.take n)
 | _,_,0,_=>by simp; exact .nil
 | [],_,_ + 1,h=>by rw [h.nil_inv]; simp; exact .nil
 | _ :: _,_,n + 1,h=>by
  obtain ⟨v,r,rfl,p,t⟩:=h.cons_inv
  exact .cons p (t.take n)
theorem RDs.drop:∀ {ds:List D} {vs:List V} (n:Nat),RDs K w H ds vs->RDs K w H (ds.drop n) (vs.drop n)
 | _,_,0,h=>h
 | [],_,_ + 1,h=>by rw [h.nil_inv]; simp; exact .nil
 | _ :: _,_,n + 1,h=>by
  obtain ⟨v,r,rfl,_,t⟩:=h.cons_inv
  exact t.drop n
theorem RDs.set {d:D} {v:V} (r:RD K w H d v):∀ {ds:List D} {vs:List V} (i:Nat),RDs K w H ds vs->RDs K w H (ds.set i d) (vs.set i v)
 | [],_,_,h=>by rw [h.nil_inv]; exact .nil
 | _ :: _,_,0,h=>by
  obtain ⟨_,_,rfl,_,t⟩:=h.cons_inv
  exact .cons r t
 | _ :: _,_,i + 1,h=>by
  obtain ⟨_,_,rfl,p,t⟩:=h.cons_inv
  exact .cons p (RDs.set r i t)
end
def RX (K:PySem.W.Frag) (w:Wd) (H:Hp) (x:XD) (c:Value) (da:Option Addr):Prop:=PySem.W.nsIn K mainGlobals x.cls=some (some c)
def aE {A B:Type} (K:PySem.W.Frag) (E:XK) (rel:Wd->Hp->A->B->Prop) (w:Wd) (H:Hp) (r:R A) (Q:B->Hp->Prop):Prop:=match r with
 | .ok a S'=>∀ w' H' b,Ext w H w' H'->rel w' H' a b->RS K w' H' S'->Q b H'
 | .err x S'=>∀ w' H' c da,Ext w H w' H'->RS K w' H' S'->RX K w' H' x c da->E c da H'
 | .bad=>False
section
variable {A B A2 B2:Type} {K:PySem.W.Frag} {E:XK} {rel:Wd->Hp->A->B->Prop} {rel2:Wd->Hp->A2->B2->Prop} {w w1:Wd} {H H1:Hp} {S S1:Sto}
theorem aE.ext {r:R A} {Q:B->Hp->Prop} (h:aE K E rel w H r Q) (x:Ext w H w1 H1) (s:RS K w H S) (s1:RS K w1 H1 S1):aE K E rel w1 H1 r Q:=by
 cases r with
 | ok a S'=>exact λw' H' b y q t=>h w' H' b (x.trans' y s s1) q t
 | err e S'=>exact λw' H' c da y t q=>h w' H' c da (x.trans' y s s1) t q
 | bad=>exact h
theorem aE.bind {r:R A} {f:A->Sto->R A2} {Q':B->Hp->Prop} {Q:B2->Hp->Prop} (h:aE K E rel2 w H (r.bind f) Q) (s:RS K w H S)
  (k:∀ a S1 w1 H1 b,Ext w H w1 H1->rel w1 H1 a b->RS K w1 H1 S1->aE K E rel2 w1 H1 (f a S1) Q->Q' b H1):aE K E rel w H r Q':=by
 cases r with
 | ok a S'=>exact λw1 H1 b x q s1=>k a S' w1 H1 b x q s1 (aE.ext (r:=f a S') h x s s1)
 | err e S'=>exact h
 | bad=>exact h
theorem aE.bindAt {w0:Wd} {H0:Hp} {S0:Sto} {r:R A} {f:A->Sto->R A2} {Q':B->Hp->Prop} {Q:B2->Hp->Prop} (h:aE K E rel2 w0 H0 (r.bind f) Q) (x:Ext w0 H0 w H) (s0:RS K w0 H0 S0) (s:RS K w H S)
  (k:∀ a S1 w1 H1 b,Ext w H w1 H1->rel w1 H1 a b->RS K w1 H1 S1->aE K E rel2 w0 H0 (f a S1) Q->Q' b H1):aE K E rel w H r Q':=by
 cases r with
 | ok a S'=>exact λw1 H1 b y q s1=>k a S' w1 H1 b y q s1 h
 | err e S'=>exact λw' H' c da y t q=>h w' H' c da (x.trans' y s0 s) t q
 | bad=>exact h
theorem aE.ret {a:A} {b:B} {Q:B->Hp->Prop} (h:aE K E rel w H (.ok a S) Q) (q:rel w H a b) (s:RS K w H S):Q b H:=h w H b (Ext.refl w H) q s
theorem aE.at {a:A} {b:B} {Q:B->Hp->Prop} (h:aE K E rel w H (.ok a S) Q) (x:Ext w H w1 H1) (q:rel w1 H1 a b) (s:RS K w1 H1 S):Q b H1:=h w1 H1 b x q s
theorem aE.of {o:Option A} {Q:B->Hp->Prop} (h:aE K E rel w H (R.of S o) Q):∃ a,o=some a/\aE K E rel w H (.ok a S) Q:=by
 cases o with
 | some a=>exact ⟨a,rfl,h⟩
 | none=>exact h.elim
end
set_option genInjectivity false in
inductive FV where
 | nx (s:L2.St) | rt (v:V) | bk (s:L2.St) | ct (s:L2.St)
noncomputable def FV.to (D:Ends):FV->Hp->Prop
 | .nx s,H=>D.nx s H
 | .rt v,H=>D.rt v H
 | .bk s,H=>D.bk s H
 | .ct s,H=>D.ct s H
noncomputable def RF (K:PySem.W.Frag) (w:Wd) (H:Hp):F->FV->Prop
 | .nx r,f=>∃ s,f=.nx s/\RSt K w H r s
 | .rt d,f=>∃ v,f=.rt v/\RD K w H d v
 | .bk r,f=>∃ s,f=.bk s/\RSt K w H r s
 | .ct r,f=>∃ s,f=.ct s/\RSt K w H r s
def RB (w:Wd) (H:Hp) (a b:Bool):Prop:=b=a
noncomputable def uE (K:PySem.W.Frag) (E:XK) (m:EM):TE:=λs H Q=>∃ w r S,RSt K w H r s/\RS K w H S/\aE K E (RD K) w H (m r S) Q
noncomputable def uT (K:PySem.W.Frag) (E:XK) (m:TM):TT:=λs H Q=>∃ w r S,RSt K w H r s/\RS K w H S/\aE K E RB w H (m r S) Q
noncomputable def uA (K:PySem.W.Frag) (E:XK) (m:AM):TA:=λs H Q=>∃ w r S,RSt K w H r s/\RS K w H S/\aE K E (RDs K) w H (m r S) Q
noncomputable def uS (K:PySem.W.Frag) (E:XK) (m:SM):TS:=λD s H=>∃ w r S,RSt K w H r s/\RS K w H S/\aE K E (RF K) w H (m r S) (FV.to D)
theorem ex6 {K:PySem.W.Frag} {s:L2.St} {c:Wd->Rho->Sto->Prop} {P:Prop} (z:∃ w r S,RSt K w H r s/\RS K w H S/\c w r S) (f:∀ w r S,RSt K w H r s->RS K w H S->c w r S->P):P:=by
 obtain ⟨w,r,S,x,y,z⟩:=z
 exact f w r S x y z
theorem ex8.{u} {α:Type u} {a:Wd->Rho->Prop} {b:Wd->Rho->α->Rho->Prop} {c:Wd->Rho->α->Rho->Prop} {d:Wd->Rho->α->Rho->Prop} {P:Prop} (z:∃ w r e r',a w r/\b w r e r'/\c w r e r'/\d w r e r') (f:∀ w r e r',a w r->b w r e r'->c w r e r'->d w r e r'->P):P:=by
 obtain ⟨w,r,e,r',x,y,z,t⟩:=z
 exact f w r e r' x y z t
structure Bx (p:Prop):Prop where
 out:p
abbrev SE (X:Cx) (E:XK) (e:Expr) (m:EM):Prop:=Bx (PE X e (uE X.K E m))
abbrev ST (X:Cx) (E:XK) (e:Expr) (m:TM):Prop:=Bx (PT X e (uT X.K E m))
abbrev SW (X:Cx) (E:XK) (e:Expr) (m:TM):Prop:=Bx (PW X e (uT X.K E m))
abbrev SA (X:Cx) (E:XK) (es:List Expr) (m:AM):Prop:=Bx (PA X es (uA X.K E m))
abbrev SS (X:Cx) (E:XK) (st:Stmt) (m:SM):Prop:=Bx (PS X st (uS X.K E m))
abbrev SSs (X:Cx) (E:XK) (st:List Stmt) (m:SM):Prop:=Bx (PSs X st (uS X.K E m))
theorem aY {t t':TE} (h:PE X e t) (k:∀ s H Q,t' s H Q->t s H Q):PE X e t':=λpins s σ H Q I q=>h pins s σ H Q I (k σ H Q q)
theorem lL {t':TT} (h:PT X e t) (k:∀ s H Q,t' s H Q->t s H Q):PT X e t':=λpins s σ H Q I q=>h pins s σ H Q I (k σ H Q q)
theorem uY {t':TT} (h:PW X e t) (k:∀ s H Q,t' s H Q->t s H Q):PW X e t':=λwh pins s σ H Q I q=>h wh pins s σ H Q I (k σ H Q q)
theorem uZ {e:List Expr} {t t':TA} (h:PA X e t) (k:∀ s H Q,t' s H Q->t s H Q):PA X e t':=λp pins s σ H Q I q=>h p pins s σ H Q I (k σ H Q q)
theorem eA {e:Stmt} {t t':TS} (h:PS X e t) (k:∀ D s H,t' D s H->t D s H):PS X e t':=λpins s σ H Q I q=>h pins s σ H Q I (k Q σ H q)
theorem rp {e:List Stmt} {t t':TS} (h:PSs X e t) (k:∀ D s H,t' D s H->t D s H):PSs X e t':=λpins s σ H Q I q=>h pins s σ H Q I (k Q σ H q)
section
variable {X:Cx} {E:XK} {a b c:Expr} {ma mb mc:EM} {pos:Pos}
theorem yb (i:Nat) {pos:Pos} (hN:autoParam (X.N[i]?=some x) Au.h0._auto_1) (hv:Vis X.env.scope x) (hd:autoParam ((x == ("__debug__":Str))=false) Au.h3._auto_1)
  (hcd:autoParam ((x == ("__classdict__":Str))=false) Au.h3._auto_1):SE X E (.Name x pos) (ag i):=⟨
 aY (pv i hN hv hd hcd) λs H Q zq=>ex6 zq λw r S hr hS hp=>by
  unfold ag at hp
  split at hp
  ·rename_i d e
   obtain ⟨v,e',q⟩:=hr.2 i d e
   exact ⟨v,e',hp.ret q hS⟩
  ·exact hp.elim⟩
theorem wI {v:V} {d:D} (h:PE X e (tC v)) (q:∀ w H,RD X.K w H d v):SE X E e (eC d):=⟨
 aY h λs H Q zq=>ex6 zq λw r S hr hS hp=>hp.ret (q w H) hS⟩
theorem aw {i j pos}:SE X E (.Constant (.int i) j pos) (eC (.int i)):=wI Ci λ_ _=>by unfold RD; rfl
theorem eI {i j pos}:SE X E (.Constant (.bool i) j pos) (eC (.bl i)):=wI Ed λ_ _=>by unfold RD; rfl
theorem tT {j pos}:SE X E (.Constant .none j pos) (eC .non):=wI Cj λ_ _=>by unfold RD; rfl
theorem AA {t:Tok} {pos:Pos} (hg:Gl X x) (hm:X.mg x=some (.int i t)) (hd:autoParam ((x == ("__debug__":Str))=false) Au.h3._auto_1):SE X E (.Name x pos) (eC (.int i)):=
 wI (uN hg hm (v:=.int i) ⟨t,rfl⟩ hd) λ_ _=>by unfold RD; rfl
theorem n8 {pos:Pos} (hg:Gl X x) (hm:X.mg x=none) (hv:bootBuiltins x=some (.type T)) (hn:autoParam (x ≠ "__name__") Au.h3._auto_1) (hd:autoParam ((x == ("__debug__":Str))=false) Au.h3._auto_1):SE X E (.Name x pos) (eC (.ty T)):=
 wI (zX hg hm hv (v:=.ty T) rfl hn hd) λ_ _=>by unfold RD; rfl
noncomputable def xO (K:PySem.W.Frag) (E:XK) (f:Sto->D->D->Option D):R2:=λx y H Q=>∃ w S d e,RS K w H S/\RD K w H d x/\RD K w H e y/\aE K E (RD K) w H (R.of S (f S d e)) Q
noncomputable def xU (K:PySem.W.Frag) (E:XK) (f:Sto->D->Option D):V->Hp->VK->Prop:=λx H Q=>∃ w S d,RS K w H S/\RD K w H d x/\aE K E (RD K) w H (R.of S (f S d)) Q
noncomputable def xC (K:PySem.W.Frag) (E:XK) (f:Sto->List D->Option D):List V->Hp->VK->Prop:=λxs H Q=>∃ w S ds,RS K w H S/\RDs K w H ds xs/\aE K E (RD K) w H (R.of S (f S ds)) Q
theorem aP {op:Operator} {f:Sto->D->D->Option D} (ho:OpR X (binaryOp op) (xO X.K E f)) (ha:SE X E a ma) (hb:SE X E b mb):SE X E (.BinOp a op b pos) (eOp f ma mb):=⟨
 aY (Ep ho ha.out hb.out) λs H Q zq=>ex6 zq λw r S hr hS hp=>⟨w,r,S,hr,hS,hp.bind hS λd S1 w1 H1 v x1 q1 s1 p1=>
  ⟨w1,r,S1,hr.ext x1,s1,p1.bind s1 λe S2 w2 H2 u x2 q2 s2 p2=>⟨w2,S2,d,e,s2,RD.ext x2 d v q1,q2,p2⟩⟩⟩⟩
theorem n9 {op:UnaryOp} {f:Sto->D->Option D} (ho:UnR X (unaryOp op) (xU X.K E f)) (ha:SE X E a ma):SE X E (.UnaryOp op a pos) (eUn f ma):=⟨
 aY (Er ho ha.out) λs H Q zq=>ex6 zq λw r S hr hS hp=>⟨w,r,S,hr,hS,hp.bind hS λd S1 w1 H1 v x1 q1 s1 p1=>⟨w1,S1,d,s1,q1,p1⟩⟩⟩
theorem kz {f:Sto->D->D->Option D} (ho:OpR X (compareOp op) (xO X.K E f)) (ha:SE X E a ma) (hb:SE X E b mb) (hm:autoParam (behindInMarks op b=false) Au.h9._auto_1):
  SE X E (.Compare a [op] [b] pos) (eOp f ma mb):=⟨
 aY (Af ho ha.out hb.out hm) λs H Q zq=>ex6 zq λw r S hr hS hp=>⟨w,r,S,hr,hS,hp.bind hS λd S1 w1 H1 v x1 q1 s1 p1=>
  ⟨w1,r,S1,hr.ext x1,s1,p1.bind s1 λe S2 w2 H2 u x2 q2 s2 p2=>⟨w2,S2,d,e,s2,RD.ext x2 d v q1,q2,p2⟩⟩⟩⟩
theorem yc {op':CmpOp} {f g:Sto->D->D->Option D} (ho:OpR X (compareOp op) (xO X.K E f)) (ho':OpR X (compareOp op') (xO X.K E g)) (ha:SE X E a ma) (hb:SE X E b mb) (hc:SE X E c mc)
  (hm:autoParam (lastMarks [op,op'] [b,c]=false) Au.h0._auto_1):SE X E (.Compare a [op,op'] [b,c] pos) (gQ f g ma mb mc):=⟨
 aY (xN ho ho' ha.out hb.out hc.out hm) λs H Q zq=>ex6 zq λw r S hr hS hp=>⟨w,r,S,hr,hS,hp.bind hS λd S1 w1 H1 v x1 q1 s1 p1=>
  ⟨w1,r,S1,hr.ext x1,s1,p1.bind s1 λe S2 w2 H2 u x2 q2 s2 p2=>by
   refine ⟨w2,S2,d,e,s2,RD.ext x2 d v q1,q2,?_⟩
   cases hf:f S2 d e with
   | none=>rw [hf] at p2; exact p2.elim
   | some z=>
    rw [hf] at p2
    intro w3 H3 z' x3 q3 s3
    cases z with
    | bl k=>
     unfold RD at q3
     subst q3
     refine ⟨k,rfl,?_⟩
     cases k with
     | true=>
      refine pz ⟨w3,r,S2,((hr.ext x1).ext x2).ext x3,s3,?_⟩
      have p3:=aE.ext p2 x3 s2 s3
      refine p3.bind s3 λt S4 w4 H4 u' x4 q4 s4 p4=>⟨w4,S4,e,t,s4,RD.ext x4 e u (RD.ext x3 e u q2),q4,p4⟩
     | false=>exact pq (aE.at p2 x3 (by unfold RD; rfl) s3)
    | _=>exact p2.elim⟩⟩⟩
theorem my {op} (h:SE X E a ma):SE X E (.BoolOp op [a] pos) ma:=⟨Cp h.out⟩
theorem kA (ha:SE X E a ma) (hb:SE X E (.BoolOp .And (b :: rest) pos) mb):SE X E (.BoolOp .And (a :: b :: rest) pos) (lx ma mb):=⟨
 aY (Cq ha.out hb.out) λs H Q zq=>ex6 zq λw r S hr hS hp=>⟨w,r,S,hr,hS,hp.bind hS λd S1 w1 H1 v x1 q1 s1 p1=>by
  cases d with
  | bl k=>
   unfold RD at q1
   subst q1
   refine ⟨k,rfl,?_⟩
   cases k with
   | true=>exact pz ⟨w1,r,S1,hr.ext x1,s1,p1⟩
   | false=>exact pq (aE.ret p1 (by unfold RD; rfl) s1)
  | _=>exact p1.elim⟩⟩
theorem C8 (ha:SE X E a ma):SE X E (.UnaryOp .Not a pos) (C6 ma):=⟨
 aY (Cr ha.out) λs H Q zq=>ex6 zq λw r S hr hS hp=>⟨w,r,S,hr,hS,hp.bind hS λd S1 w1 H1 v x1 q1 s1 p1=>by
  cases d with
  | bl k=>
   unfold RD at q1
   subst q1
   exact ⟨k,rfl,aE.ret p1 (by unfold RD; rfl) s1⟩
  | _=>exact p1.elim⟩⟩
theorem BY (hc:ST X E c mt) (ha:SE X E a ma) (hb:SE X E b mb):SE X E (.IfExp c a b pos) (eIf mt ma mb):=⟨
 aY (xB hc.out ha.out hb.out) λs H Q zq=>ex6 zq λw r S hr hS hp=>⟨w,r,S,hr,hS,hp.bind hS λk S1 w1 H1 v x1 q1 s1 p1=>by
  have e:v=k:=q1
  subst e
  cases v with
  | true=>exact pz ⟨w1,r,S1,hr.ext x1,s1,p1⟩
  | false=>exact pq ⟨w1,r,S1,hr.ext x1,s1,p1⟩⟩⟩
theorem yd {s:L2.St} {Q:Bool->Hp->Prop} (h:uT X.K E (tV ma) s H Q):uE X.K E ma s H λx H1=>∃ k,x=.bl k/\Q k H1:=by
 obtain ⟨w,r,S,hr,hS,hp⟩:=h
 exact ⟨w,r,S,hr,hS,hp.bind hS λd S1 w1 H1 v x1 q1 s1 p1=>by
  cases d with
  | bl k=>
   unfold RD at q1
   exact ⟨k,q1,aE.ret p1 rfl s1⟩
  | _=>exact p1.elim⟩
theorem fA (h:SE X E a ma) (he:autoParam (∀ whole,isTrue a X.env whole=(do let v <- whole; standAt a.pos; holding [v] (truthy v))) Au.h4._auto_1):ST X E a (tV ma):=⟨
 lL (Ck h.out he) λs H Q q=>yd q⟩
theorem bA {f:Sto->D->D->Option D} (ho:OpR X (compareOp op) (xO X.K E f)) (ha:SE X E a ma) (hb:SE X E b mb) (hm:autoParam (behindInMarks op b=false) Au.h9._auto_1):
  ST X E (.Compare a [op] [b] pos) (tV (eOp f ma mb)):=⟨
 lL (Ag ho ha.out hb.out hm) λs H Q q=>by
  obtain ⟨w,r,S,hr,hS,hp⟩:=yd q
  exact ⟨w,r,S,hr,hS,hp.bind hS λd S1 w1 H1 v x1 q1 s1 p1=>
   ⟨w1,r,S1,hr.ext x1,s1,p1.bind s1 λe S2 w2 H2 u x2 q2 s2 p2=>⟨w2,S2,d,e,s2,RD.ext x2 d v q1,q2,p2⟩⟩⟩⟩
theorem pC (ha:ST X E a mt):SW X E (.BoolOp .And [a] pos) mt:=⟨zY ha.out⟩
theorem gb (ha:ST X E a mt):SW X E (.BoolOp .Or [a] pos) mt:=⟨Cm ha.out⟩
theorem tU {mu:TM} (ha:ST X E a mt) (hb:SW X E (.BoolOp .And (b :: rest) pos) mu):SW X E (.BoolOp .And (a :: b :: rest) pos) (PD.i8 mt mu):=⟨
 uY (Cn ha.out hb.out) λs H Q zq=>ex6 zq λw r S hr hS hp=>⟨w,r,S,hr,hS,hp.bind hS λk S1 w1 H1 v x1 q1 s1 p1=>by
  have e:v=k:=q1
  subst e
  cases v with
  | true=>exact pz ⟨w1,r,S1,hr.ext x1,s1,p1⟩
  | false=>exact pq (aE.ret p1 rfl s1)⟩⟩
theorem iq {mu:TM} (ha:ST X E a mt) (hb:SW X E (.BoolOp .Or (b :: rest) pos) mu):SW X E (.BoolOp .Or (a :: b :: rest) pos) (PD.tOr mt mu):=⟨
 uY (Ee ha.out hb.out) λs H Q zq=>ex6 zq λw r S hr hS hp=>⟨w,r,S,hr,hS,hp.bind hS λk S1 w1 H1 v x1 q1 s1 p1=>by
  have e:v=k:=q1
  subst e
  cases v with
  | false=>exact pq ⟨w1,r,S1,hr.ext x1,s1,p1⟩
  | true=>exact pz (aE.ret p1 rfl s1)⟩⟩
theorem gu (h:SW X E a mt):ST X E a mt:=⟨PW.pt h.out⟩
theorem eS (ha:ST X E a mt):ST X E (.UnaryOp .Not a pos) (PD.ff mt):=⟨
 lL (Co ha.out) λs H Q zq=>ex6 zq λw r S hr hS hp=>⟨w,r,S,hr,hS,hp.bind hS λk S1 w1 H1 v x1 q1 s1 p1=>by
  have e:v=k:=q1
  subst e
  exact aE.ret p1 rfl s1⟩⟩
theorem aj:SA X E [] ak:=⟨uZ oZ λs H Q zq=>ex6 zq λw r S hr hS hp=>aE.ret hp RDs.nil hS⟩
theorem ah (ha:SE X E a ma) (hrr:SA X E es ms) (hs:autoParam (starEach (a :: es) X.env=(false,eval a X.env) :: starEach es X.env) Au.h0._auto_1):SA X E (a :: es) (af ma ms):=⟨
 uZ (lK ha.out hrr.out hs) λs H Q zq=>ex6 zq λw r S hr hS hp=>⟨w,r,S,hr,hS,hp.bind hS λd S1 w1 H1 v x1 q1 s1 p1=>
  ⟨w1,r,S1,hr.ext x1,s1,p1.bind s1 λe S2 w2 H2 u x2 q2 s2 p2=>aE.ret p2 (RDs.cons (RD.ext x2 d v q1) q2) s2⟩⟩⟩
theorem gc {k} (h:SA X E es ms):SE X E (.Tuple es k pos) (eg ms):=⟨
 aY (CQ h.out) λs H Q zq=>ex6 zq λw r S hr hS hp=>⟨w,r,S,hr,hS,hp.bind hS λds S1 w1 H1 vs x1 q1 s1 p1=>by
  by_cases hl:ds.length<=sizeLine
  ·rw [J8 hl] at p1
   refine ⟨by rw [q1.length]; exact hl,λp hp=>?_⟩
   exact aE.at p1 (Ext.new hp) (by unfold RD; exact ⟨p,vs,rfl,.inl ⟨aK,s1.fresh hp⟩,RDs.ext (Ext.new hp) _ _ q1⟩) (s1.new hp)
  ·rw [Jc hl] at p1; exact p1.elim⟩⟩
theorem C9 (h:SA X E es ms):SE X E (.List es pos) (wG ms):=⟨
 aY (xR h.out) λs H Q zq=>ex6 zq λw r S hr hS hp=>⟨w,r,S,hr,hS,hp.bind hS λds S1 w1 H1 vs x1 q1 s1 p1=>by
  by_cases hl:ds.length<=sizeLine
  ·rw [J8 hl] at p1
   refine ⟨by rw [q1.length]; exact hl,λp hp=>?_⟩
   exact aE.at p1 (Ext.new hp) (by unfold RD; exact ⟨p,vs,rfl,⟨aK,s1.fresh hp⟩,RDs.ext (Ext.new hp) _ _ q1⟩) (s1.new hp)
  ·rw [Jc hl] at p1; exact p1.elim⟩⟩
theorem RS.lastRef {K:PySem.W.Frag} (s:RS K w H S) :RD K (w.add p) H' (.ref S.length) (.ref p):=by
 unfold RD
 exact ⟨p,rfl,by show (w.st ++ [p])[S.length]?=some p; rw [<- s.len]; simp⟩
theorem kB (h:SA X E es ms):SE X E (.List es pos) (eNew ms):=⟨
 aY (xR h.out) λs H Q zq=>ex6 zq λw r S hr hS hp=>⟨w,r,S,hr,hS,hp.bind hS λds S1 w1 H1 vs x1 q1 s1 p1=>by
  by_cases hl:ds.length<=sizeLine
  ·rw [J8 hl] at p1
   refine ⟨by rw [q1.length]; exact hl,λp hp=>?_⟩
   exact aE.at p1 (Ext.alloc hp) s1.lastRef (s1.alloc hp ⟨vs,aK,RDs.ext (Ext.alloc hp) _ _ q1⟩)
  ·rw [Jc hl] at p1; exact p1.elim⟩⟩
noncomputable def spM (K:PySem.W.Frag) (n:Nat) (f:FM):Sp:=λvs H Q E=>vs.length=n/\∃ w S ds,RS K w H S/\RDs K w H ds vs/\aE K E (RD K) w H (f ds S) Q
variable {CX:CXT} {k n:Nat} {fa:Addr} {fd:FuncData} {ps:List Str} {f:FM} {x:Str} {p:Pos} {es:List Expr} {ms:AM}
theorem aB {id:String} {f:Sto->List D->Option D} (hc:bw X (.builtin id) (xC X.K E f)) (hg:Gl X x) (hm:X.mg x=none) (hv:bootBuiltins x=some (.builtin id)) (ha:SA X E (a :: es) ms) (hn:autoParam (x ≠ "__name__") Au.h3._auto_1) (hdb:autoParam ((x == ("__debug__":Str))=false) Au.h3._auto_1)
  (he:autoParam (starEach (a :: es) X.env=(false,eval a X.env) :: starEach es X.env) Au.h0._auto_1) (hpl:autoParam ((backTo pos (starEach es X.env)).any (·.1)=false) Au.h0._auto_1):SE X E (.Call (.Name x p) (a :: es) [] pos) (eB f ms):=⟨
 aY (jH hc hg hm hv ha.out hn hdb he hpl) λs H Q zq=>ex6 zq λw r S hr hS hp=>⟨w,r,S,hr,hS,hp.bind hS λds S1 w1 H1 vs x1 q1 s1 p1=>⟨w1,S1,ds,s1,q1,p1⟩⟩⟩
theorem dJ {f:Sto->List D->Option D} (hc:bw X (.type T) (xC X.K E f)) (hg:Gl X x) (hm:X.mg x=none) (hv:bootBuiltins x=some (.type T)) (ha:SA X E (a :: es) ms) (hn:autoParam (x ≠ "__name__") Au.h3._auto_1) (hdb:autoParam ((x == ("__debug__":Str))=false) Au.h3._auto_1)
  (he:autoParam (starEach (a :: es) X.env=(false,eval a X.env) :: starEach es X.env) Au.h0._auto_1) (hpl:autoParam ((backTo pos (starEach es X.env)).any (·.1)=false) Au.h0._auto_1):SE X E (.Call (.Name x p) (a :: es) [] pos) (eB f ms):=⟨
 aY (nX hc hg hm hv ha.out hn hdb he hpl) λs H Q zq=>ex6 zq λw r S hr hS hp=>⟨w,r,S,hr,hS,hp.bind hS λds S1 w1 H1 vs x1 q1 s1 p1=>⟨w1,S1,ds,s1,q1,p1⟩⟩⟩
variable {st:Stmt} {rest:List Stmt} {m m':SM}
theorem cn:SSs X E [] bI:=⟨rp zZ λD s H zq=>ex6 zq λw r S hr hS hp=>aE.ret (b:=FV.nx s) hp ⟨s,rfl,hr⟩ hS⟩
theorem ao (h1:SS X E st m) (h2:SSs X E rest m'):SSs X E (st :: rest) (aA m m'):=⟨
 rp (xD h1.out h2.out) λD s H zq=>ex6 zq λw r S hr hS hp=>⟨w,r,S,hr,hS,hp.bind hS λf S1 w1 H1 fv x1 q1 s1 p1=>by
  cases f with
  | nx r1=>obtain ⟨s',rfl,q⟩:=q1; exact ⟨w1,r1,S1,q,s1,p1⟩
  | rt d=>obtain ⟨v,rfl,q⟩:=q1; have z:=aE.ret (Q:=FV.to D) (rel:=RF X.K) (a:=F.rt d) (b:=FV.rt v) p1 ⟨v,rfl,q⟩ s1; exact z
  | bk r1=>obtain ⟨s',rfl,q⟩:=q1; have z:=aE.ret (Q:=FV.to D) (rel:=RF X.K) (a:=F.bk r1) (b:=FV.bk s') p1 ⟨s',rfl,q⟩ s1; exact z
  | ct r1=>obtain ⟨s',rfl,q⟩:=q1; have z:=aE.ret (Q:=FV.to D) (rel:=RF X.K) (a:=F.ct r1) (b:=FV.ct s') p1 ⟨s',rfl,q⟩ s1; exact z⟩⟩
theorem ay (h1:SS X E st m):SSs X E [st] m:=⟨z7 h1.out⟩
theorem ir:SS X E st wH:=⟨eA xE λD s H zq=>ex6 zq λw r S hr hS hp=>hp.elim⟩
theorem bM (ha:SE X E a ma) (hs:autoParam (swapsWith a none pos.line X.env=pure false) Au.h0._auto_1):SS X E (.Expr a pos) (cj ma):=⟨
 eA (z8 ha.out hs) λD s H zq=>ex6 zq λw r S hr hS hp=>⟨w,r,S,hr,hS,hp.bind hS λd S1 w1 H1 v x1 q1 s1 p1=>aE.ret (b:=FV.nx s) p1 ⟨s,rfl,hr.ext x1⟩ s1⟩⟩
theorem aN (ha:SE X E a ma):SS X E (.Return (some a) pos) (bf ma):=⟨
 eA (Cs ha.out) λD s H zq=>ex6 zq λw r S hr hS hp=>⟨w,r,S,hr,hS,hp.bind hS λd S1 w1 H1 v x1 q1 s1 p1=>aE.ret (b:=FV.rt v) p1 ⟨v,rfl,q1⟩ s1⟩⟩
theorem dv {sa sb:List Stmt} (hc:ST X E c mt) (ha:SSs X E sa m) (hb:SSs X E sb m'):SS X E (.If c sa sb pos) (sIf mt m m'):=⟨
 eA (Ej hc.out ha.out hb.out) λD s H zq=>ex6 zq λw r S hr hS hp=>⟨w,r,S,hr,hS,hp.bind hS λk S1 w1 H1 v x1 q1 s1 p1=>by
  have e:v=k:=q1
  subst e
  cases v with
  | true=>exact pz ⟨w1,r,S1,hr.ext x1,s1,p1⟩
  | false=>exact pq ⟨w1,r,S1,hr.ext x1,s1,p1⟩⟩⟩
theorem aF {i:Nat} {x:Str} {pos':Pos} (hN:X.N.Nodup) (hi:X.N[i]?=some x) (hx:Loc X.env.scope x) (ha:SE X E a ma) (hs:autoParam (swapsWith a (some (.Name x pos')) pos.line X.env=pure false) Au.h0._auto_1) (hf:autoParam (X.fn x=true \/ X.env.scope.names.lookup x=some .local) Au.h7._auto_1):
  SS X E (.Assign [.Name x pos'] a pos) (aI i ma):=⟨
 eA (Cw hN hi hx ha.out hs hf) λD s H zq=>ex6 zq λw r S hr hS hp=>⟨w,r,S,hr,hS,hp.bind hS λd S1 w1 H1 v x1 q1 s1 p1=>
  aE.ret (b:=FV.nx (s.set i (some v))) p1 ⟨_,rfl,(hr.ext x1).set i q1⟩ s1⟩⟩
end
noncomputable def uG (K:PySem.W.Frag) (g:G):TG:=λv s H Q=>∃ w r d r',RSt K w H r s/\RD K w H d v/\g.put d r=some r'/\∀ s',RSt K w H r' s'->Q s' H
noncomputable def uGs (K:PySem.W.Frag) (gs:List G):TGs:=λvs s H Q=>∃ w r ds r',RSt K w H r s/\RDs K w H ds vs/\G.puts gs ds r=some r'/\∀ s',RSt K w H r' s'->Q s' H
abbrev SG (X:Cx) (e:Expr) (g:G):Prop:=Bx (PG X e (uG X.K g))
abbrev SGs (X:Cx) (es:List Expr) (gs:List G):Prop:=Bx (PGs X es (uGs X.K gs))
theorem u5 {t t':TG} (h:PG X e t) (k:∀ v s H Q,t' v s H Q->t v s H Q):PG X e t':=λpins s σ H v u Q I r q=>h pins s σ H v u Q I r (k v σ H Q q)
theorem rq {e:List Expr} {t t':TGs} (h:PGs X e t) (k:∀ v s H Q,t' v s H Q->t v s H Q):PGs X e t':=λpins s σ H v u Q I r q=>h pins s σ H v u Q I r (k v σ H Q q)
theorem iu:∀ {gs:List G} {ds:List D} {r r':Rho},G.puts gs ds r=some r'->ds.length=gs.length
 | [],[],_,_,_=>rfl
 | [],_ :: _,_,_,h=>by simp [G.puts] at h
 | _ :: _,[],_,_,h=>by simp [G.puts] at h
 | g :: gs,d :: ds,r,r',h=>by
  unfold G.puts at h
  cases e:G.put g d r with
  | none=>rw [e] at h; cases h
  | some r1=>
   rw [e] at h
   have:=iu h
   simp [this]
section
variable {X:Cx} {E:XK} {a b c:Expr} {ma mb mc:EM} {pos:Pos}
theorem aG {i:Nat} (hN:X.N.Nodup) (hi:X.N[i]?=some x) (hx:Loc X.env.scope x) (hf:autoParam (X.fn x=true \/ X.env.scope.names.lookup x=some .local) Au.h7._auto_1):SG X (.Name x pos) (.nm i):=⟨
 u5 (Aa hN hi hx hf) λv s H Q zq=>ex8 zq λw r d r' hr q e k=>by
  unfold G.put at e
  cases e
  exact k _ (hr.set i q)⟩
theorem fL:SGs X [] []:=⟨
 rq Ab λv s H Q zq=>ex8 zq λw r ds r' hr q e k=>by
  cases ds with
  | nil=>
   unfold G.puts at e
   cases e
   exact ⟨q.nil_inv,k s hr⟩
  | cons d ds=>simp [G.puts] at e⟩
theorem bJ {g:G} {gs:List G} (h1:SG X e g) (h2:SGs X es gs)
  (hs:autoParam ((assignEach (e :: es) X.env).map (·.2)=assign e X.env :: (assignEach es X.env).map (·.2)) Au.h0._auto_1):SGs X (e :: es) (g :: gs):=⟨
 rq (xF h1.out h2.out hs) λv s H Q zq=>ex8 zq λw r ds r' hr q e k=>by
  cases ds with
  | nil=>simp [G.puts] at e
  | cons d ds=>
   obtain ⟨v1,vs,rfl,q1,q2⟩:=q.cons_inv
   unfold G.puts at e
   cases e1:G.put g d r with
   | none=>rw [e1] at e; cases e
   | some r1=>
    rw [e1] at e
    exact ⟨v1,vs,rfl,w,r,d,r1,hr,q1,e1,λs' hs'=>⟨w,r1,ds,r',hs',q2,e,k⟩⟩⟩
theorem cz {K:PySem.W.Frag} {vs:List V} (h:At w H p (.tup vs) \/ rn K p vs):SqT K H p vs:=h.elim (λz=>SqT.of z.1) .inr
theorem iw {k:Nat} {gs:List G} (hc:X.calm=true) (h:SGs X es gs)
  (hn:autoParam ((assignEach es X.env).length=gs.length) Au.h0._auto_1) (hst:autoParam ((assignEach es X.env).findIdx? (·.1)=none) Au.h0._auto_1):SG X (.Tuple es k pos) (.tp gs):=⟨
 u5 (Cu hc h.out hn hst) λv s H Q zq=>ex8 zq λw r d r' hr q e k=>by
  cases d with
  | tup ds=>
   unfold RD at q
   obtain ⟨p,vs,rfl,h1,q1⟩:=q
   unfold G.put at e
   exact ⟨p,vs,rfl,cz h1,by rw [q1.length]; exact iu e,w,r,ds,r',hr,q1,e,k⟩
  | _=>simp [G.put] at e⟩
theorem Dc {g:G} (ha:SE X E a ma) (hg:SG X tg g) (hs:autoParam (swapsWithSole [tg] a pos.line X.env=pure false) Au.h0._auto_1) (hw:autoParam (swappedStores [tg] a X.env=pure none) Au.h0._auto_1)
  (h1:autoParam ((assignEach [tg] X.env).map (·.2)=[assign tg X.env]) Au.h0._auto_1):SS X E (.Assign [tg] a pos) (C7 g ma):=⟨
 eA (xG ha.out hg.out hs hw h1) λD s H zq=>ex6 zq λw r S hr hS hp=>⟨w,r,S,hr,hS,hp.bind hS λd S1 w1 H1 v x1 q1 s1 p1=>by
  cases e:g.put d r with
  | none=>rw [e] at p1; exact p1.elim
  | some r'=>
   rw [e] at p1
   exact ⟨w1,r,d,r',hr.ext x1,q1,e,λs' hs'=>aE.ret (b:=FV.nx s') p1 ⟨s',rfl,hs'⟩ s1⟩⟩⟩
theorem Dd {i j:Nat} {y:Str} {ms:AM} {px py pt:Pos} {kt k2 pt2} (hc:X.calm=true) (hN:X.N.Nodup) (hi:X.N[i]?=some x) (hj:X.N[j]?=some y) (hij:i ≠ j)
  (hx:X.env.scope.names.lookup x=some .local) (hy:X.env.scope.names.lookup y=some .local) (ha:SA X E [a,b] ms)
  (hw:autoParam (swappedStores [.Tuple [.Name x px,.Name y py] kt pt] (.Tuple [a,b] k2 pt2) X.env=pure (some [x,y])) Au.h0._auto_1)
  (hs:autoParam (swapsWithSole [.Tuple [.Name x px,.Name y py] kt pt] (.Tuple [a,b] k2 pt2) pos.line X.env=pure false) Au.h0._auto_1):
  SS X E (.Assign [.Tuple [.Name x px,.Name y py] kt pt] (.Tuple [a,b] k2 pt2) pos) (Az i j ms):=⟨
 eA (Cy hc hN hi hj hij hx hy ha.out hw hs) λD s H zq=>ex6 zq λw r S hr hS hp=>⟨w,r,S,hr,hS,hp.bind hS λds S1 w1 H1 vs x1 q1 s1 p1=>by
  match ds,q1,p1 with
  | [d,e],q1,p1=>
   obtain ⟨v,u,rfl,q2,q3⟩:=q1.two_inv
   exact ⟨v,u,rfl,aE.ret (b:=FV.nx _) p1 ⟨_,rfl,((hr.ext x1).set i q2).set j q3⟩ s1⟩
  | [],_,p1=>exact p1.elim
  | [_],_,p1=>exact p1.elim
  | _ :: _ :: _ :: _,_,p1=>exact p1.elim⟩⟩
noncomputable def xS (K:PySem.W.Frag) (f:Sto->D->D->D->Option Sto):z9:=λo i v H Q=>∃ w S x y z S',RS K w H S/\RD K w H x o/\RD K w H y i/\RD K w H z v/\f S x y z=some S'/\∀ w' H',Ext w H w' H'->RS K w' H' S'->Q H'
theorem pD {f:Sto->D->D->D->Option Sto} {tpos:Pos} (hf:oY X (xS X.K f)) (ha:SE X E a ma) (ho:SE X E b mb) (hi:SE X E c mc) (hs:autoParam (swapsWithSole [.Subscript b c tpos] a pos.line X.env=pure false) Au.h0._auto_1) (hw:autoParam (swappedStores [.Subscript b c tpos] a X.env=pure none) Au.h0._auto_1)
  (h1:autoParam ((assignEach [.Subscript b c tpos] X.env).map (·.2)=[assign (.Subscript b c tpos) X.env]) Au.h0._auto_1)
  (hz:autoParam (∀ v,assign (.Subscript b c tpos) X.env v=(do
   let ov <- holding [v] (eval b X.env)
   let iv <- holding [v,ov] (eval c X.env)
   standAt tpos
   holding [v,ov,iv] (setItem ov iv v)
   release [v,ov,iv] [])) Au.h4._auto_1):SS X E (.Assign [.Subscript b c tpos] a pos) (jI f ma mb mc):=⟨
 eA (xG ha.out (Cv ho.out hi.out hf hz) hs hw h1) λD s H zq=>ex6 zq λw r S hr hS hp=>⟨w,r,S,hr,hS,hp.bind hS λd S1 w1 H1 v x1 q1 s1 p1=>
  ⟨w1,r,S1,hr.ext x1,s1,p1.bind s1 λe S2 w2 H2 u x2 q2 s2 p2=>⟨w2,r,S2,(hr.ext x1).ext x2,s2,p2.bind s2 λt S3 w3 H3 y x3 q3 s3 p3=>by
   cases hf:f S3 e t d with
   | none=>rw [hf] at p3; exact p3.elim
   | some S4=>
    rw [hf] at p3
    exact ⟨w3,S3,e,t,d,S4,s3,RD.ext x3 _ _ q2,q3,RD.ext x3 _ _ (RD.ext x2 _ _ q1),hf,λw' H' x4 s4=>aE.at (b:=FV.nx s) p3 x4 ⟨s,rfl,(((hr.ext x1).ext x2).ext x3).ext x4⟩ s4⟩⟩⟩⟩⟩
def RI (K:PySem.W.Frag) (w:Wd) (H:Hp) (ds:List D) (J:It):Prop:=∀ (i:Nat) (w':Wd) (H':Hp),Ext w H w' H'->
 (i < ds.length->J.go i H'/\∀ x H'',J.yld i H' x H''->(H''=H' \/ ∃ p o,H' p=none/\H''=upd H' p o)/\∀ S,RS K w' H' S->∃ d,ds[i]?=some d/\RD K w' H'' d x)/\(ds.length<=i->J.stop i H')
noncomputable def uI (K:PySem.W.Frag) (E:XK) (m:AM):TI:=λs H Q=>∃ w r S,RSt K w H r s/\RS K w H S/\aE K E (RI K) w H (m r S) Q
abbrev SIb (qb:Bool) (X:Cx) (E:XK) (tg iter:Expr) (m:AM):Prop:=Bx (PIb qb X tg iter (uI X.K E m))
abbrev SI (X:Cx) (E:XK) (tg iter:Expr) (m:AM):Prop:=Bx (PI X tg iter (uI X.K E m))
theorem rA {K:PySem.W.Frag} (h:H'=H \/ ∃ p o,H p=none/\H'=upd H p o) (s:RS K w H S):Ext w H w H'/\RS K w H' S:=by
 rcases h with rfl | ⟨p,o,hp,rfl⟩
 ·exact ⟨Ext.refl _ _,s⟩
 ·exact ⟨Ext.new hp,s.new hp⟩
theorem cN {iter:Expr} {body:List Stmt} {it:AM} {g:G} {m:SM} (hp:PassesOwn (model X.prog X.w) X.A X.env X.xe) (hc:X.calm=true) (hi:SI X E tg iter it) (hg:SG X tg g) (hb:SSs X E body m)
  (hs:autoParam (∀ x,foldedSetIterable iter X.env x=pure x) Au.h4._auto_1):SS X E (.For tg iter body [] pos) (er it g m):=⟨
 eA (CC hp hc hi.out hg.out hb.out hs) λD s H zq=>ex6 zq λw r S hr hS hp=>⟨w,r,S,hr,hS,hp.bind hS λds S1 w1 H1 J x1 q1 s1 p1=>by
  refine ⟨λi n s' H'=>n=ds.length - i/\i<=ds.length/\∃ w' r' S',Ext w1 H1 w' H'/\RSt X.K w' H' r' s'/\RS X.K w' H' S'/\aE X.K E (RF X.K) w' H' (forL g m (ds.drop i) r' S') (FV.to D),
   ⟨ds.length,by simp,Y3 _,w1,r,S1,Ext.refl _ _,hr.ext x1,s1,p1⟩,?_⟩
  rintro i n s2 H2 ⟨rfl,hi.out,w2,r2,S2,x2,hr2,hS2,hp2⟩
  by_cases hlt:i < ds.length
  ·obtain ⟨go,yld⟩:=(q1 i w2 H2 x2).1 hlt
   refine .inr ⟨go,λs' H'=>∃ w' r' S',Ext w1 H1 w' H'/\RSt X.K w' H' r' s'/\RS X.K w' H' S'/\aE X.K E (RF X.K) w' H' (forL g m (ds.drop (i + 1)) r' S') (FV.to D),
    λs' H' hN=>⟨ds.length - (i + 1),by omega,rfl,hlt,hN⟩,λx H3 hy=>?_⟩
   obtain ⟨gr,rd⟩:=yld x H3 hy
   obtain ⟨d,ed,qd⟩:=rd S2 hS2
   obtain ⟨x3,s3⟩:=rA gr hS2
   have x13:Ext w1 H1 w2 H3:=x2.trans' x3 s1 hS2
   have hdrop:ds.drop i=d :: ds.drop (i + 1):=by
    rw [Qc hlt]
    rw [Ja hlt] at ed
    cases ed; rfl
   rw [hdrop] at hp2
   have hp3:=aE.ext hp2 x3 hS2 s3
   unfold forL at hp3
   cases e:g.put d r2 with
   | none=>rw [e] at hp3; exact hp3.elim
   | some r3=>
    rw [e] at hp3
    refine ⟨w2,r2,d,r3,hr2.ext x3,qd,e,λs4 hr4=>⟨w2,r3,S2,hr4,s3,?_⟩⟩
    refine aE.bind (rel:=RF X.K) hp3 s3 λf S5 w5 H5 fv x5 q5 s5 p5=>?_
    cases f with
    | nx r6=>obtain ⟨s6,rfl,q6⟩:=q5; exact ⟨w5,r6,S5,x13.trans' x5 s1 s3,q6,s5,p5⟩
    | ct r6=>obtain ⟨s6,rfl,q6⟩:=q5; exact ⟨w5,r6,S5,x13.trans' x5 s1 s3,q6,s5,p5⟩
    | bk r6=>obtain ⟨s6,rfl,q6⟩:=q5; have z:=aE.ret (Q:=FV.to D) (rel:=RF X.K) (a:=F.nx r6) (b:=FV.nx s6) p5 ⟨s6,rfl,q6⟩ s5; exact z
    | rt d6=>obtain ⟨v6,rfl,q6⟩:=q5; have z:=aE.ret (Q:=FV.to D) (rel:=RF X.K) (a:=F.rt d6) (b:=FV.rt v6) p5 ⟨v6,rfl,q6⟩ s5; exact z
  ·have e:i=ds.length:=by omega
   subst e
   rw [List.drop_length] at hp2
   exact .inl ⟨(q1 _ w2 H2 x2).2 (Jb _),aE.ret (b:=FV.nx s2) hp2 ⟨s2,rfl,hr2⟩ hS2⟩⟩⟩
noncomputable def cc (m:EM) (f:Sto->D->Option (List D)):AM:=λr S=>(m r S).bind λd S1=>R.of S1 (f S1 d)
noncomputable def ET:Sto->D->Option (List D)
 | _,.tup ds=>some ds
 | _,_=>none
noncomputable def EU:Sto->D->Option (List D)
 | _,.lst ds=>some ds
 | _,.fz ds=>some ds
 | _,_=>none
noncomputable def cU (t:AM):AM:=λr S=>(t r S).bind λxs S1=>match xs with
 | [.int n]=>if n < 2 ^ 62/\-(2 ^ 62)<=n then .ok ((List.range n.toNat).map λ(i:Nat)=>D.int i) S1 else .bad
 | _=>.bad
theorem fg {X:Cx} {t t':TI} (h:PIb qb X tg e t) (k:∀ s H Q,t' s H Q->t s H Q):PIb qb X tg e t':=λpins s σ H Q I q=>h pins s σ H Q I (k σ H Q q)
theorem De (ha:SE X E a ma):SI X E tg a (cc ma ET):=⟨
 fg (CB ha.out) λs H Q zq=>ex6 zq λw r S hr hS hp=>⟨w,r,S,hr,hS,hp.bind hS λd S1 w1 H1 v x1 q1 s1 p1=>by
  cases d with
  | tup ds=>
   unfold RD at q1
   obtain ⟨p,vs,rfl,h1,q⟩:=q1
   refine ⟨p,rfl,⟨vs,cz h1⟩,aE.ret p1 ?_ s1⟩
   intro i w' H' x'
   have h1':At w' H' p (.tup vs) \/ rn X.K p vs:=h1.imp x'.at id
   have q':=RDs.ext x' _ _ q
   refine ⟨λhi=>⟨⟨vs,vs[i]'(by rw [q.length]; exact hi),cz h1',Ja _⟩,λx H'' y=>?_⟩,λhi=>⟨vs,cz h1',by rw [q.length]; exact hi⟩⟩
   obtain ⟨rfl,y⟩:=y
   refine ⟨.inl rfl,λS _=>⟨ds[i],Ja hi,?_⟩⟩
   obtain ⟨v,e,rv⟩:=q'.get (Ja hi)
   rw [y vs (cz h1')] at e
   cases e
   exact rv
  | _=>exact p1.elim⟩⟩
theorem Df (ha:SE X E a ma):SI X E tg a (cc ma EU):=⟨
 fg (Ac ha.out) λs H Q zq=>ex6 zq λw r S hr hS hp=>⟨w,r,S,hr,hS,hp.bind hS λd S1 w1 H1 v x1 q1 s1 p1=>by
  have main:∀ (ds:List D) (p:Addr) (vs:List V),RDs X.K w1 H1 ds vs->(∀ w' H',Ext w1 H1 w' H'->SqL X.K H' p vs)->RI X.K w1 H1 ds (Itl X.K p):=by
   intro ds p vs q sq i w' H' x'
   have q':=RDs.ext x' _ _ q
   refine ⟨λhi=>⟨⟨vs,vs[i]'(by rw [q.length]; exact hi),sq _ _ x',Ja _⟩,λx H'' y=>?_⟩,λhi=>⟨vs,sq _ _ x',by rw [q.length]; exact hi⟩⟩
   obtain ⟨rfl,y⟩:=y
   refine ⟨.inl rfl,λS _=>⟨ds[i],Ja hi,?_⟩⟩
   obtain ⟨v,e,rv⟩:=q'.get (Ja hi)
   rw [y vs (sq _ _ x')] at e
   cases e
   exact rv
  cases d with
  | lst ds=>
   unfold RD at q1
   obtain ⟨p,vs,rfl,h1,q⟩:=q1
   exact ⟨p,rfl,⟨vs,SqL.of h1.1⟩,aE.ret p1 (main ds p vs q λw' H' x'=>SqL.of (x'.at h1).1) s1⟩
  | fz ds=>
   unfold RD at q1
   obtain ⟨p,vs,rfl,h1,q⟩:=q1
   exact ⟨p,rfl,⟨vs,h1.sq⟩,aE.ret p1 (main ds p vs q λw' H' x'=>tS.sq (w:=w') (h1.imp (λ⟨o,z⟩=>⟨o,x'.at z⟩) id)) s1⟩
  | _=>exact p1.elim⟩⟩
noncomputable def bC:Sto->D->Option (List D)
 | _,.tup ds=>some ds
 | _,.lst ds=>some ds
 | _,.fz ds=>some ds
 | _,_=>none
theorem EV {t u:TI} (h1:PI X tg e t) (h2:PI X tg e u):PI X tg e (λs H Q=>t s H Q \/ u s H Q):=λpins s σ H Q I q=>q.elim (h1 pins s σ H Q I) (h2 pins s σ H Q I)
theorem cA (ha:SE X E a ma):SI X E tg a (cc ma bC):=⟨
 fg (EV (De ha).out (Df ha).out) λs H Q zq=>ex6 zq λw r S hr hS hp=>by
  unfold cc at hp
  cases e:ma r S with
  | bad=>rw [e] at hp; exact hp.elim
  | err y S'=>rw [e] at hp; exact .inl ⟨w,r,S,hr,hS,by unfold cc; rw [e]; exact hp⟩
  | ok d S'=>
   rw [e] at hp
   cases d with
   | tup ds=>exact .inl ⟨w,r,S,hr,hS,by unfold cc; rw [e]; exact hp⟩
   | lst ds=>exact .inr ⟨w,r,S,hr,hS,by unfold cc; rw [e]; exact hp⟩
   | fz ds=>exact .inr ⟨w,r,S,hr,hS,by unfold cc; rw [e]; exact hp⟩
   | _=>exact hp.elim⟩
theorem iS {p:Pos} (hg:Gl X "range") (hm:X.mg "range" = none) (ha:SA X E [a] ms) (hs:autoParam (starEach [a] X.env=[(false,eval a X.env)]) Au.h0._auto_1):SIb qb X E tg (.Call (.Name "range" p) [a] [] pos) (cU ms):=⟨
 fg (wo hg hm ha.out hs) λs H Q zq=>ex6 zq λw r S hr hS hp=>⟨w,r,S,hr,hS,hp.bind hS λds S1 w1 H1 vs x1 q1 s1 p1=>by
  rcases ds with _ | ⟨d,_ | ⟨d',ds⟩⟩
  ·exact p1.elim
  ·cases d with
   | int n=>
    obtain ⟨v,rfl,q2⟩:=q1.one_inv
    unfold RD at q2
    subst q2
    by_cases hn:n < 2 ^ 62/\-(2 ^ 62)<=n
    ·have p2:aE X.K E (RI X.K) w1 H1 (if n < 2 ^ 62/\-(2 ^ 62)<=n then R.ok ((List.range n.toNat).map λ(i:Nat)=>D.int i) S1 else R.bad) Q:=p1
     rw [J8 hn] at p2
     refine ⟨n,rfl,hn.2,hn.1,aE.ret p2 ?_ s1⟩
     intro i w' H' x'
     refine ⟨λhi=>⟨show i < n.toNat by simpa using hi,λx H'' y=>?_⟩,λhi=>show n.toNat<=i by simpa using hi⟩
     obtain ⟨rfl,rfl⟩:=y
     refine ⟨.inl rfl,λS _=>⟨.int i,?_,?_⟩⟩
     ·have:i < n.toNat:=by simpa using hi
      simp [this]
     ·unfold RD; simp
    ·have p2:aE X.K E (RI X.K) w1 H1 (if n < 2 ^ 62/\-(2 ^ 62)<=n then R.ok ((List.range n.toNat).map λ(i:Nat)=>D.int i) S1 else R.bad) Q:=p1
     rw [Jc hn] at p2
     exact p2.elim
   | _=>exact p1.elim
  ·cases d <;> exact p1.elim⟩⟩
end
section
variable {P:Program} {w:World} {K:PySem.W.Frag} {mg:Str->Option Value} {base:Heap}
theorem wJ {K:PySem.W.Frag} {w:Wd} {ds:List D} {vs:List V} (q:RDs K w H ds vs):RSt K w H (ds.map some ++ List.replicate (N.length - ds.length) none) (L2.start N vs):=by
 unfold L2.start
 refine ⟨by simp [q.length],λi d e=>?_⟩
 by_cases hi:i < ds.length
 ·rw [Jq (by simpa using hi),Yx] at e
  rw [Jq (by rw [Jh,q.length]; exact hi),Yx]
  cases e1:ds[i]? with
  | none=>rw [e1] at e; cases e
  | some d'=>
   rw [e1] at e; cases e
   obtain ⟨v,ev,rv⟩:=q.get e1
   exact ⟨v,by rw [ev]; rfl,rv⟩
 ·rw [Y5 (by simpa using hi),Wc] at e
  split at e <;> cases e
end
section
variable {prog:Program} {w:World} {A:Around} {R:Result->Shared->Prop} {s:Shared}
theorem pE {elt target iter:Expr} {ifs:List Expr} {scope:Scope} {pos:Pos} {it acc:Value} {env:Env} (I:Nat->Shared->Prop)
  (turn:∀ n s,I n s->wpAny (model prog w) A (pyNext it) (λr s1=>match r with
   | none=>R (.ok .next) s1
   | some v=>wpAny (model prog w) A (letOwnedTupleGo target it v) (λ_ s1'=>wpAny (model prog w) A (assign target env v) (λ_ s2=>
     wpAny (model prog w) A (forIn ifs true λc r=>if r=true then do let ok <- isTrue c env (eval c env); pure (ForInStep.yield ok) else pure (ForInStep.yield r)) (λok s3=>
      if ok=true then wpAny (model prog w) A (eval elt env) (λx s4=>
       wpAny (model prog w) A (call (.builtin "list.append") [acc,x]) (λ_ s5=>∃ m,m < n/\I m s5) (λ_ _=>False) s4) (λ_ _=>False) s3
      else ∃ m,m < n/\I m s3) (λ_ _=>False) s2) (λ_ _=>False) s1') (λ_ _=>False) s1) (λ_ _=>False) s)
  (n:Nat) (h:I n s):
  codeAny (model prog w) A (.compLoop (.ListComp elt [⟨target,iter,ifs,0⟩] scope pos) 0 it acc env) R s:=by
 refine codeAny_loop rfl I (λn s hI=>?_) n h
 show wpAny _ A ((compTurn (.ListComp elt [⟨target,iter,ifs,0⟩] scope pos) 0 it acc env).onRaise (λx=>do noteFrame x env; theTreesLotGoes x)) _ _ s
 refine wpAny_noted ?_
 rw [compTurn_list]
 refine J6 (wpAny_standAt (J6 (Ql (turn n s hI) (λr s1 h1=>?_) λ_ _ h'=>h'.elim)))
 cases r with
 | none=>exact Jd h1
 | some v=>
  refine J6 (Ql h1 (λ_ s1' h1'=>?_) λ_ _ h'=>h'.elim)
  refine J6 (Ql h1' (λ_ s2 h2=>J6 (Ql h2 (λok s3 h3=>?_) λ_ _ h'=>h'.elim)) λ_ _ h'=>h'.elim)
  cases ok with
  | false=>exact Jd ⟨rfl,h3⟩
  | true=>
   exact J6 (J6 (Ql h3 (λx s4 h4=>J6 (Ql h4 (λ_ s5 h5=>Jd (Jd ⟨rfl,h5⟩)) λ_ _ h'=>h'.elim)) λ_ _ h'=>h'.elim))
end
def AB (X:Cx) (ifs:List Expr) (t:TT):Prop:=
 ∀ (pins:List (Addr × Obj)) (s:Shared) (σ:L2.St) (H:Hp) (Q:Bool->Hp->Prop),Inv X pins σ H s->t σ H Q->
  wpAny (model X.prog X.w) X.A (forIn ifs true λc r=>if r=true then do let ok <- isTrue c X.env (eval c X.env); pure (ForInStep.yield ok) else pure (ForInStep.yield r)) (TP X pins σ Q) X.xe s
theorem ye:AB X [] (λ_ H Q=>Q true H):=λpins s σ H Q I h=>wpAny_tests_nil ⟨H,I,h⟩
theorem yf {c:Expr} (h:PT X c t):AB X [c] t:=λpins s σ H Q I q=>wpAny_tests_one (h pins s σ H Q I q)
noncomputable def cxC (X:Cx) (N:List Str) (scope:Scope) (cl:List (Str × Addr)) (s0:Shared) (H0:Hp) (ex:List Addr):Cx:=
 { X with N:=N,s₀:=s0,H₀:=H0,env:=compEnvC scope cl s0.heap.objs.size X.env,outer:=X.stack,ex:=ex,fn:=λ_=>false }
noncomputable def mz (k:Nat) (caps:List Nat) (s:L2.St):L2.St:=List.replicate k none ++ caps.map λi=>(s[i]?).join
structure CompScope (X:Cx) (N:List Str) (k:Nat) (caps:List Nat) (scope:Scope):Prop where
 kind:scope.kind=.function
 nocell:∀ x ∈ scope.names,x.2 ≠ .cell
 names:∀ x ∈ scope.names,x.2=.local->scope.names.lookup x.1=some .local
 free:∀ x ∈ scope.names,x.2=.free->X.env.kindOf x.1=some .cell \/ X.env.kindOf x.1=some .free
 len:N.length=k + caps.length
 cap:∀ t i,caps[t]?=some i->∃ x,X.N[i]?=some x/\N[k + t]?=some x/\scope.names.lookup x=some .free
theorem dS {A B:Type} [BEq A] [LawfulBEq A]:∀ {l:List (A × B)} {x:A} {b:B},l.lookup x=some b->(x,b) ∈ l
 | [],_,_,h=>by simp at h
 | (y,c) :: r,x,b,h=>by
  rw [Qj] at h
  cases e:x == y with
  | true=>
   rw [e] at h
   have:=eq_of_beq e
   subst this
   cases h
   exact Ye
  | false=>
   rw [e] at h
   exact Yb _ (dS h)
theorem ju:∀ (names:List (Str × NameKind)) (cs:List (Str × Addr)),(∀ x ∈ names,x.2=.free->∃ c,env.cells.lookup x.1=some c)->
  ∃ cl,(forIn names cs λ(x:Str × NameKind) (r:List (Str × Addr))=>(if x.2 == NameKind.free then do let a <- cellOf env x.1; pure (ForInStep.yield ((x.1,a) :: r)) else pure (ForInStep.yield r):Sem (ForInStep (List (Str × Addr)))))=pure cl/\
   (∀ p ∈ cl,p ∈ cs \/ env.cells.lookup p.1=some p.2)/\(∀ p ∈ cs,p ∈ cl)/\∀ x ∈ names,x.2=.free->∃ c,(x.1,c) ∈ cl
 | [],cs,_=>⟨cs,rfl,λp h=>.inl h,λp h=>h,λx h=>nomatch h⟩
 | (n,k) :: r,cs,h=>by
  by_cases hk:k=.free
  ·subst hk
   obtain ⟨c,hc⟩:=h (n,.free) Ye rfl
   obtain ⟨cl,e,h1,h2,h3⟩:=ju r ((n,c) :: cs) λx hx=>h x (Yb _ hx)
   refine ⟨cl,?_,λp hp=>?_,λp hp=>h2 p (Yb _ hp),λx hx hf=>?_⟩
   ·rw [Vp]
    have hco:cellOf env n=pure c:=by unfold cellOf; rw [hc]
    simp only [beq_self_eq_true,Yj,hco,pure_bind]
    exact e
   ·rcases h1 p hp with z | z
    ·rcases Jg.mp z with z | z
     ·subst z; exact .inr hc
     ·exact .inl z
    ·exact .inr z
   ·rcases Jg.mp hx with z | z
    ·subst z; exact ⟨c,h2 _ Ye⟩
    ·exact h3 x z hf
  ·obtain ⟨cl,e,h1,h2,h3⟩:=ju r cs λx hx=>h x (Yb _ hx)
   have hb:(k == NameKind.free)=false:=by simpa using hk
   refine ⟨cl,?_,h1,h2,λx hx hf=>?_⟩
   ·rw [Vp]
    simp only [hb,Jx,Ys,pure_bind]
    exact e
   ·rcases Jg.mp hx with z | z
    ·subst z; exact absurd hf hk
    ·exact h3 x z hf
theorem rB (h:∀ x ∈ scope.names,x.2=.free->∃ c,env.cells.lookup x.1=some c):
  ∃ cl,closureFor scope env=pure cl/\(∀ x c,cl.lookup x=some c->env.cells.lookup x=some c)/\∀ x ∈ scope.names,x.2=.free->∃ c,cl.lookup x.1=some c:=by
 obtain ⟨cl,e,h1,h2,h3⟩:=ju (env:=env) scope.names [] h
 refine ⟨cl,?_,λx c hx=>?_,λx hx hf=>?_⟩
 ·unfold closureFor
  show ((forIn scope.names [] λ(x:Str × NameKind) (r:List (Str × Addr))=>(if x.2 == NameKind.free then do let a <- cellOf env x.1; pure (ForInStep.yield ((x.1,a) :: r)) else pure (ForInStep.yield r):Sem (ForInStep (List (Str × Addr))))) >>= λl=>pure l)=pure cl
  rw [e,pure_bind]
 ·rcases h1 _ (dS hx) with z | z
  ·exact nomatch z
  ·exact z
 ·obtain ⟨c,hc⟩:=h3 x hx hf
  cases e2:cl.lookup x.1 with
  | some c'=>exact ⟨c',rfl⟩
  | none=>
   rw [List.lookup_eq_none_iff] at e2
   have:=e2 _ hc
   simp at this
theorem rC {k:NameKind} (h:(relabel scope env).names.lookup x=some k):(x,k) ∈ scope.names \/ (k=.cell/\(x,NameKind.free) ∈ scope.names):=by
 have m:=dS h
 obtain ⟨⟨n,j⟩,hn,e⟩:=Jv.mp m
 dsimp only at e
 split at e
 ·rename_i hc
  cases e
  have:j=NameKind.free:=by
   have:=(Yl _ _ |>.mp (Yl _ _ |>.mp hc).1).1
   simpa using this
  subst this
  exact .inr ⟨rfl,hn⟩
 ·cases e
  exact .inl hn
theorem jJ {scope:Scope} {env:Env} {x:Str}:∀ {names:List (Str × NameKind)},names.lookup x=some .free->
  ((names.map λ(n,k)=>if (k == NameKind.free && env.scope.kind == .function && env.kindOf n == some .cell) then (n,NameKind.cell) else (n,k)).lookup x=some .cell) \/
  ((names.map λ(n,k)=>if (k == NameKind.free && env.scope.kind == .function && env.kindOf n == some .cell) then (n,NameKind.cell) else (n,k)).lookup x=some .free)
 | [],h=>by simp at h
 | (n,k) :: r,h=>by
  have ih:=@jJ scope env x r
  simp only [Jn]
  cases hx:x == n with
  | true=>
   simp only [Qj,hx] at h
   cases h
   by_cases hc:(NameKind.free == NameKind.free && env.scope.kind == .function && env.kindOf n == some .cell)=true
   ·left; rw [J8 hc]; simp [Qj,hx]
   ·right; rw [Jc hc]; simp [Qj,hx]
  | false=>
   simp only [Qj,hx] at h
   by_cases hc:(k == NameKind.free && env.scope.kind == .function && env.kindOf n == some .cell)=true
   ·rw [J8 hc]; simp only [Qj,hx]; exact ih h
   ·rw [Jc hc]; simp only [Qj,hx]; exact ih h
section
variable {X:Cx} {pins:List (Addr × Obj)} {σ:L2.St} {H:Hp} {s:Shared}
theorem tW {k:Nat} {cl:List (Str × Addr)} {fp:List Addr} {h':Heap} {m:Str->Option Value} {t:Nat} (I:Inv X pins σ H s) (C:CompScope X N k caps scope)
  (hcl:∀ x c,cl.lookup x=some c->X.env.cells.lookup x=some c) (hcf:∀ x ∈ scope.names,x.2=.free->∃ c,cl.lookup x.1=some c)
  (hfp:∀ b ∈ fp,FpOk X pins H b/\b < s.heap.objs.size) (hn:h'.Ns s.heap.objs.size m) (hk:∀ b o,s.heap.get? b=some o->h'.get? b=some o):
  Inv (cxC X N scope cl s H fp) pins (mz k caps σ) H { s with heap:=h',toks:=t }:=by
 have hfs:∀ b,b ∈ frs X.stack->b < s.heap.objs.size:=λb hb=>by
  obtain ⟨_,o,ho,_⟩:=I.stack.mem hb
  exact Jk ho
 refine ⟨⟨I.ok.mod,C.kind,I.ok.glob,I.ok.blt,Jb _,λx y c h1 h2=>I.ok.inj x y c (hcl x c h1) (hcl y c h2),λx hx=>?_,(λx c h=>nomatch h),I.ok.hd,I.ok.frames,.inl rfl,λb hb=>?_,λb o e=>?_,?_,λb o e hb=>?_,λb hb=>?_,I.stack,λb hb=>I.stkFree b hb⟩,
  rfl,I.bare,Un.kept hk,?_,λx c e=>?_,I.hok.fresh (Jb _),λx c e=>I.freeC x c (hcl x c e),λp hp=>?_,I.hok.kept hk,?_⟩
 ·-- has
  have key:∀ kk,(kk=NameKind.cell \/ kk=NameKind.free)->(relabel scope X.env).names.lookup x=some kk->∃ c,cl.lookup x=some c:=λkk hkk hl=>by
   rcases rC hl with z | ⟨_,z⟩
   ·rcases hkk with q | q
    ·subst q; exact absurd rfl (C.nocell _ z)
    ·subst q; exact hcf _ z rfl
   ·exact hcf _ z rfl
  rcases hx with z | z
  ·exact key _ (.inl rfl) z
  ·exact key _ (.inr rfl) z
 ·obtain ⟨f,lt⟩:=hfp b hb
  exact ⟨Jt lt,λx c e=>f.2.2.2.2.1 x c (hcl x c e)⟩
 ·exact I.bs b o e
 ·exact Y9 I.ok.bsz I.sz
 ·obtain ⟨f,lt⟩:=hfp b hb
  rcases f.2.2.2.1 with z | z
  ·exact I.ok.noex b o e z
  ·exact absurd (Y0 (Jk e) (Y9 I.ok.bsz z)) (Q4 _)
 ·obtain ⟨f,lt⟩:=hfp b hb
  intro z
  rcases Jg.mp (I.stkSub b z) with q | q
  ·exact f.2.1 q
  ·exact f.2.2.1 q
 ·obtain ⟨m0,hn0,hl0⟩:=I.loc
  refine ⟨m,hn,λi x v e1 e2 e3=>?_⟩
  unfold mz at e2
  by_cases hi:i < k
  ·rw [Jq (by simpa using hi),Wc] at e2
   split at e2 <;> cases e2
  ·rw [Y5 (by simpa using hi),Yx,Wj] at e2
   cases ec:caps[i - k]? with
   | none=>rw [ec] at e2; cases e2
   | some j=>
    rw [ec] at e2
    have e2':(σ[j]?).join=some v:=Yd e2
    obtain ⟨y,hy1,hy2,hy3⟩:=C.cap _ _ ec
    have e1':N[i]?=some x:=e1
    rw [show k + (i - k)=i by omega] at hy2
    rw [hy2] at e1'
    have exy:y=x:=Yd e1'
    subst exy
    have hfr:(y,NameKind.free) ∈ scope.names:=dS hy3
    have hsj:σ[j]?=some (some v):=by
     cases q:σ[j]? with
     | none=>rw [q] at e2'; cases e2'
     | some o=>rw [q] at e2'; rw [show o=some v from e2']
    have kinds:=C.free _ hfr rfl
    have hvis:Vis X.env.scope y:=by
     rcases kinds with z | z
     ·exact .inr (.inl z)
     ·exact .inr (.inr z)
    obtain ⟨u,ru,lk⟩:=hl0 j y v hy1 hsj hvis
    refine ⟨u,ru,?_⟩
    rcases lk with ⟨z,_⟩ | ⟨_,c,hc,hcell⟩
    ·rcases kinds with q | q <;> (rw [q] at z; cases z)
    ·obtain ⟨c',hc'⟩:=hcf _ hfr rfl
     have:=hcl _ _ hc'
     rw [hc] at this
     cases this
     refine .inr ⟨?_,c,hc',hcell.keeps hk⟩
     exact jJ (scope:=scope) (env:=X.env) hy3
 ·obtain ⟨v,z⟩:=I.cell x c (hcl x c e)
  exact ⟨v,z.keeps hk⟩
 ·obtain ⟨e,n,ne,nf,d⟩:=I.pin p hp
  refine ⟨hk _ _ e,n,Jt (Jk e),λz=>?_,d⟩
  rcases Jg.mp (I.stkSub _ z) with q | q
  ·exact ne q
  ·exact nf q
 ·unfold mz
  show _=N.length
  rw [C.len]
  simp
end
noncomputable def EW (wi:TI) (k:Nat) (caps:List Nat) (g:TG) (tt:TT) (te:TE):TE:=λσ H Q=>wi σ H λJ H1=>∀ p,H1 p=none->∃ W:Nat->Nat->L2.St->Hp->Prop,(∃ m,W 0 m (mz k caps σ) (upd H1 p (.lst [])))/\∀ i m σ' H',W i m σ' H'->
 (J.stop i H'/\Q (.ref p) H') \/ (J.go i H'/\∃ N:L2.St->Hp->Prop,(∀ σ2 H2,N σ2 H2->∃ m',m' < m/\W (i + 1) m' σ2 H2)/\
  ∀ x H3,J.yld i H' x H3->g x σ' H3 λσ4 H4=>tt σ4 H4 λb H5=>if b=true then te σ4 H5 λy H6=>∃ ys,H6 p=some (.lst ys)/\ys.length < sizeLine/\N σ4 (upd H6 p (.lst (ys ++ [y]))) else N σ4 H5)
theorem yg {elt tg iter:Expr} {ifs:List Expr} {pos:Pos} {k:Nat} {wi:TI} {g:TG} {tt:TT} {te:TE} (hX:Cd qb X) (hxe:∀ e s,¬ X.xe e s) (C:CompScope X N k caps scope)
  (hi:PIb qb X tg iter wi) (hg:∀ cl s0 H0 ex,Cd qb (cxC X N scope cl s0 H0 ex)->PG (cxC X N scope cl s0 H0 ex) tg g) (ht:∀ cl s0 H0 ex,Cd qb (cxC X N scope cl s0 H0 ex)->AB (cxC X N scope cl s0 H0 ex) ifs tt) (he:∀ cl s0 H0 ex,Cd qb (cxC X N scope cl s0 H0 ex)->PE (cxC X N scope cl s0 H0 ex) elt te)
  (hs:autoParam (∀ x,foldedSetIterable iter X.env x=pure x) Au.h4._auto_1):PE X (.ListComp elt [⟨tg,iter,ifs,0⟩] scope pos) (EW wi k caps g tt te):=by
 intro pins s σ H Q I h
 have noX:∀ {α:Type} {t:Sem α} {Q':α->Shared->Prop} {s':Shared},wpAny (model X.prog X.w) X.A t Q' X.xe s'->wpAny (model X.prog X.w) X.A t Q' (λ_ _=>False) s':=λh=>Ql h (λ_ _ x=>x) λe s z=>hxe e s z
 obtain ⟨cl,hclos,hcl,hcf⟩:=rB (scope:=scope) (env:=X.env) λx hx hf=>I.ok.has _ (C.free x hx hf)
 rw [eval_ListComp]
 refine wpAny_comprehension_free (use:=none) (cl:=cl) rfl hs hclos C.kind C.names ?_
 refine thn (hi pins s σ H _ I h) λv s1 h1=>thn h1 λitv s2 h2=>?_
 obtain ⟨it,fp,tn,J,H2,e,I2,T,st2,f2,q⟩:=h2
 subst e
 refine Ua (items:=[]) ?_ (by show 0<=sizeLine; exact Y3 _)
 have hp:H2 s2.heap.objs.size=none:=I2.hok.fresh (Jb _)
 obtain ⟨W,⟨m0,w0⟩,turn⟩:=q _ hp
 have I3:Inv X pins σ (upd H2 s2.heap.objs.size (.lst [])) { s2 with heap:=s2.heap.push { cls:=.type "list",data:=.seq ([]:List Value).toArray } }:=
  I2.laid (t':=s2.toks) (λb u e=>J7 _ e) (Jb _) ⟨Y3 _,[],0,.nil,Ji _ rfl⟩
 refine wpAny_newFunctionEnv C.nocell (λx hx=>nomatch hx) (λh4 hn4 hs4=>?_) C.kind
 have ltfp:∀ b ∈ fp,b < s2.heap.objs.size:=λb hb=>by
  obtain ⟨o,ho,_⟩:=T.obj _ _ st2 b hb
  exact Jk ho
 have hk4:∀ b o,(s2.heap.push { cls:=.type "list",data:=.seq ([]:List Value).toArray }).get? b=some o->h4.get? b=some o:=λb o e=>by
  have ne:b ≠ (s2.heap.push { cls:=.type "list",data:=.seq ([]:List Value).toArray }).objs.size:=Jt (Jk e)
  rw [hs4.2 b ne]
  exact J7 _ e
 have f3:∀ b ∈ fp,FpOk X pins (upd H2 s2.heap.objs.size (.lst [])) b:=λb hb=>by
  obtain ⟨a1,a2⟩:=f2 b hb
  exact ⟨by rw [aL (Jt (ltfp b hb))]; exact a1,a2⟩
 have I4:=tW (N:=N) (k:=k) (caps:=caps) (scope:=scope) (cl:=cl) (fp:=fp) (t:=s2.toks + 0) I3 C hcl hcf (λb hb=>⟨f3 b hb,by rw [show ({ s2 with heap:=s2.heap.push { cls:=.type "list",data:=.seq ([]:List Value).toArray } }:Shared).heap.objs.size=s2.heap.objs.size + 1 from Y4 ..]; exact Zk (ltfp b hb)⟩) hn4 hk4
 have tn4:tn 0 h4:=T.keep _ _ _ st2 λb hb o e=>hk4 b o (J7 _ e)
 have loop:codeAny (model X.prog X.w) X.A (.compLoop (.ListComp elt [⟨tg,iter,ifs,0⟩] scope pos) 0 (.ref it) (.ref s2.heap.objs.size) (compEnvC scope cl ({ s2 with heap:=s2.heap.push { cls:=.type "list",data:=.seq ([]:List Value).toArray } }:Shared).heap.objs.size X.env))
   (compPost (model X.prog X.w) X.A X.xe none (EP X pins σ Q) (.ref s2.heap.objs.size) ({ s2 with heap:=s2.heap.push { cls:=.type "list",data:=.seq ([]:List Value).toArray } }:Shared).heap.objs.size) { s2 with heap:=h4,toks:=s2.toks + 0 }:=by
  generalize hs3:({ s2 with heap:=s2.heap.push { cls:=.type "list",data:=.seq ([]:List Value).toArray } }:Shared)=s3 at *
  have sz3:s2.heap.objs.size<=s3.heap.objs.size:=by rw [<- hs3]; show _<=(s2.heap.push _).objs.size; rw [Y4]; exact Wv _
  have k23:∀ b o,s2.heap.get? b=some o->s3.heap.get? b=some o:=λb o e=>by rw [<- hs3]; exact J7 _ e
  have hos:s3.os=s2.os:=by rw [<- hs3]
  have stat:∀ {H':Hp},(∀ b ∈ fp,H' b=none)->∀ b ∈ fp,FpOk (cxC X N scope cl s3 (upd H2 s2.heap.objs.size (.lst [])) fp) pins H' b:=λ{H'} hn b hb=>by
   obtain ⟨a1,a2,a3,a4,a5,a6⟩:=f3 b hb
   refine ⟨hn b hb,Jt (Y0 (ltfp b hb) sz3),λz=>?_,.inl hb,λx c e=>a5 x c (hcl x c e),a6⟩
   rcases Jg.mp (I2.stkSub b z) with q | q
   ·exact a2 q
   ·exact a3 q
  have I4':Inv (cxC X N scope cl s3 (upd H2 s2.heap.objs.size (.lst [])) fp) pins (mz k caps σ) (upd H2 s2.heap.objs.size (.lst [])) { s2 with heap:=h4,toks:=s2.toks + 0 }:=by subst hs3; exact I4
  have hX2:Cd qb (cxC X N scope cl s3 (upd H2 s2.heap.objs.size (.lst [])) fp):=by
   rcases hX with z | ⟨z,y | ⟨a,o,u,e1,e2,e3⟩⟩
   ·exact .inl z
   ·exact .inr ⟨z,.inl y⟩
   ·refine .inr ⟨z,.inr ⟨a,o,u,e1,?_,e3⟩⟩
    have q0:=I2.base.frzs a o u e2
    show upd H2 s2.heap.objs.size (.lst []) a=_
    rw [aL (λy=>by rw [y,hp] at q0; cases q0)]
    exact q0
  refine pE (λn s'=>∃ i σ' H',Inv (cxC X N scope cl s3 (upd H2 s2.heap.objs.size (.lst [])) fp) pins σ' H' s'/\tn i s'.heap/\(∀ b ∈ fp,H' b=none)/\W i n σ' H') ?_ m0 ⟨0,_,_,I4',tn4,λb hb=>(f3 b hb).1,w0⟩
  rintro n s5 ⟨i,σ5,H5,I5,st5,fr5,w5⟩
  rcases turn i n σ5 H5 w5 with ⟨stop,qn⟩ | ⟨go,Nn,hN,step⟩
  ·refine thn (T.done (cxC X N scope cl s3 (upd H2 s2.heap.objs.size (.lst [])) fp) rfl rfl rfl hX2 i pins s5 σ5 H5 _ I5 (stat fr5) st5 stop) λr s6 zq=>?_
   obtain ⟨hr,I6⟩:=zq
   subst hr
   obtain ⟨m6,hn6,_⟩:=I6.loc
   refine ⟨m6,hn6,λh7 hs7=>⟨.ref s2.heap.objs.size,H5,?_,rfl,qn⟩⟩
   have u1:Un (frs X.stack) fp H2 (upd H2 s2.heap.objs.size (.lst [])) s2.heap s3.heap:=Un.laid k23 (Jb _) hp
   have u2:Un (frs X.stack) fp H2 H5 s2.heap s6.heap:=u1.trans I6.base
   have neC:∀ b o,s2.heap.get? b=some o->b ≠ s3.heap.objs.size:=λb o e=>Jt (Y0 (Jk e) sz3)
   have hfree:H5 s3.heap.objs.size=none:=I6.free
   refine I2.call' (s':={ s6 with heap:=h7 }) (ch:=fp) (by rw [<- hos]; exact I6.os) ⟨λb o e n hb hx=>?_,λb o e n hb hx=>?_,u2.free,λb o e hx=>?_,u2.tups,u2.frzs,u2.tbls⟩ (λb ob e=>?_) I6.bare λb hb=>?_
   ·exact (hs7.2 b (neC b o e)).trans (u2.keep b o e n hb hx)
   ·obtain ⟨sl,e1⟩:=u2.slot b o e n hb hx
    exact ⟨sl,(hs7.2 b (neC b o e)).trans e1⟩
   ·obtain ⟨o',e1⟩:=u2.there b o e hx
    exact ⟨o',(hs7.2 b (neC b o e)).trans e1⟩
   ·refine (I6.hok b ob e).stay (λc v hc z=>(hs7.2 c ?_).trans z) (λ_ z=>z) λ_ _ z=>z
    intro y
    rcases hc with z | z
    ·rw [<- z,y,hfree] at e; cases e
    ·rw [y,hfree] at z; cases z
   ·obtain ⟨a1,a2,a3,a4,a5,a6⟩:=f2 b hb
    exact ⟨a4,a2,a5,a6⟩
  ·refine thn (T.item (cxC X N scope cl s3 (upd H2 s2.heap.objs.size (.lst [])) fp) rfl rfl rfl hX2 i pins s5 σ5 H5 _ I5 (stat fr5) st5 go) λr s6 zq=>?_
   obtain ⟨u,hr,h6⟩:=zq
   subst hr
   refine thn h6 λ_ s7 zq=>?_
   obtain ⟨x,H7,I7,r7,y7,st7,fr7⟩:=zq
   have I7':=I7.pinned (stat fr7) (T.obj _ _ st7)
   refine noX (thn (hg cl s3 _ fp hX2 _ s7 σ5 H7 x u _ I7' r7 (step x H7 y7)) λ_ s8 zq=>?_)
   obtain ⟨σ8,H8,I8,q8⟩:=zq
   refine noX (thn (ht cl s3 _ fp hX2 _ s8 σ8 H8 _ I8 q8) λok s9 zq=>?_)
   obtain ⟨H9,I9,q9⟩:=zq
   have again:∀ {s':Shared} {σ':L2.St} {H':Hp},Inv (cxC X N scope cl s3 (upd H2 s2.heap.objs.size (.lst [])) fp) (pins ++ lX fp s7.heap) σ' H' s'->Nn σ' H'->
     ∃ m,m < n/\∃ i σ' H',Inv (cxC X N scope cl s3 (upd H2 s2.heap.objs.size (.lst [])) fp) pins σ' H' s'/\tn i s'.heap/\(∀ b ∈ fp,H' b=none)/\W i m σ' H':=λ{s' σ' H'} I' n'=>by
    obtain ⟨m',hm,w'⟩:=hN σ' H' n'
    refine ⟨m',hm,i + 1,σ',H',I'.unpinned,T.keep _ _ _ st7 λb hb o e=>(I'.pin (b,o) (Jw _ (Jw _ (gN hb e)))).1,λb hb=>?_,w'⟩
    obtain ⟨o,e,d⟩:=T.obj _ _ st7 b hb
    exact (I'.pin (b,o) (Jw _ (Jw _ (gN hb e)))).2.1
   cases ok with
   | false=>exact again I9 q9
   | true=>
    refine noX (thn (he cl s3 _ fp hX2 _ s9 σ8 H9 _ I9 q9) λy s10 zq=>?_)
    obtain ⟨yv,H10,I10,r10,ys,hys,hlt,q10⟩:=zq
    refine noX (thn (nY (X:=cxC X N scope cl s3 (upd H2 s2.heap.objs.size (.lst [])) fp) _ s10 σ8 H10 (.ref s2.heap.objs.size) [yv] _ [y] (λ_ H'=>Nn σ8 H') I10 rfl (.cons r10 .nil) ⟨_,ys,yv,rfl,rfl,hys,hlt,q10⟩) λ_ s11 zq=>?_)
    obtain ⟨_,H11,I11,_,q11⟩:=zq
    exact again I11 q11
 exact codeAny_compStart_list loop (T.self X.A 0 _ _ _ tn4 loop)
def cI (i:Int):Prop:=-(2 ^ 64) < i/\i < 2 ^ 64
noncomputable instance (i:Int):Decidable (cI i):=by unfold cI; infer_instance
noncomputable def bb:Sto->D->D->Option D
 | _,.int i,.int j=>some (.int (i + j))
 | _,.str a,.str b=>if a.length + b.length<=sizeLine then some (.str (a ++ b)) else none
 | _,.tup a,.tup b=>if a.length + b.length<=sizeLine then some (.tup (a ++ b)) else none
 | _,.lst a,.lst b=>if a.length + b.length<=sizeLine then some (.lst (a ++ b)) else none
 | _,_,_=>none
noncomputable def i9:Sto->D->D->Option D
 | _,.int i,.int j=>some (.int (i - j))
 | _,_,_=>none
noncomputable def cx:Sto->D->D->Option D
 | _,.int i,.int j=>if cI i \/ cI j then some (.int (i * j)) else none
 | _,.tup a,.int k=>if -(2 ^ 63)<=k/\k < 2 ^ 63/\a.length * k.toNat<=sizeLine then some (.tup (List.replicate k.toNat a).flatten) else none
 | _,.lst a,.int k=>if -(2 ^ 63)<=k/\k < 2 ^ 63/\a.length * k.toNat<=sizeLine then some (.lst (List.replicate k.toNat a).flatten) else none
 | _,_,_=>none
noncomputable def jk:Sto->D->D->Option D
 | _,.int i,.int j=>if 0 < j/\j < 1073741824 then some (.int (i / j)) else none
 | _,_,_=>none
noncomputable def oMod:Sto->D->D->Option D
 | _,.int i,.int j=>if 0 < j then some (.int (i % j)) else none
 | _,_,_=>none
noncomputable def tX:Sto->D->D->Option D
 | _,.int i,.int j=>if 0<=j/\j<=1000000/\i.natAbs < 2 ^ 64 then some (.int (i ^ j.toNat)) else none
 | _,_,_=>none
noncomputable def nC:Sto->D->D->Option D
 | _,.int i,.int j=>if 0<=j/\j<=1000000/\i.natAbs < 2 ^ 64 then some (.int (i * 2 ^ j.toNat)) else none
 | _,_,_=>none
noncomputable def ja:Sto->D->Option D
 | _,.int i=>some (.int (-i))
 | _,_=>none
noncomputable def mB (p:Int->Int->Bool):Sto->D->D->Option D
 | _,.int i,.int j=>some (.bl (p i j))
 | _,_,_=>none
noncomputable abbrev oLt:=mB λi j=>decide (i < j)
noncomputable abbrev oLe:=mB λi j=>decide (i<=j)
noncomputable abbrev oGt:=mB λi j=>decide (j < i)
noncomputable abbrev oGe:=mB λi j=>decide (j<=i)
noncomputable def eqS:D->D->Option Bool
 | .int i,.int j=>some (decide (i=j))
 | .bl i,.bl j=>some (decide (i=j))
 | .str i,.str j=>some (decide (i=j))
 | .non,.non=>some true
 | .non,.int _=>some false
 | .int _,.non=>some false
 | .non,.bl _=>some false
 | .bl _,.non=>some false
 | .non,.str _=>some false
 | .str _,.non=>some false
 | .int _,.str _=>some false
 | .str _,.int _=>some false
 | .bl _,.str _=>some false
 | .str _,.bl _=>some false
 | _,_=>none
noncomputable def oEq:Sto->D->D->Option D:=λ_ a b=>(eqS a b).map .bl
noncomputable def oNe:Sto->D->D->Option D:=λ_ a b=>(eqS a b).map λc=>.bl (!c)
noncomputable def ix:D->Bool
 | .non=>true
 | .bl _=>true
 | .int _=>true
 | .str _=>true
 | _=>false
noncomputable def eqF:D->D->Bool
 | .non,.non=>true
 | .bl a,.bl b=>a == b
 | .bl a,.int b=>(if a then 1 else 0) == b
 | .int a,.bl b=>a == (if b then 1 else 0)
 | .int a,.int b=>a == b
 | .str a,.str b=>a == b
 | _,_=>false
noncomputable def bS (S:Sto):D->Option (List D)
 | .tup a=>some a
 | .lst a=>some a
 | .fz a=>some a
 | .ref n=>match S[n]? with
  | some (.lst a)=>some a
  | some (.flst a)=>some a
  | _=>none
 | _=>none
noncomputable def oIn (neg:Bool):Sto->D->D->Option D:=λS x y=>match bS S y with
 | some a=>if ix x=true/\a.all ix=true then some (.bl (if neg then !(a.any λz=>eqF z x) else a.any λz=>eqF z x)) else none
 | none=>none
noncomputable def oIx:Sto->D->D->Option D:=λS x y=>match bS S x,y with
 | some a,.int i=>atI a i
 | _,_=>none
noncomputable def cutD (xs:List D) (lo hi:Option Int):List D:=(xs.drop (HT.sIx xs.length 0 lo)).take (HT.sIx xs.length xs.length hi - HT.sIx xs.length 0 lo)
section
variable {X:Cx} {E:XK}
theorem RD.int {K:PySem.W.Frag} {v:V} (q:RD K w H (.int i) v):v=.int i:=by unfold RD at q; exact q
theorem RD.bl {K:PySem.W.Frag} {i:Bool} {v:V} (q:RD K w H (.bl i) v):v=.bl i:=by unfold RD at q; exact q
theorem RD.str {K:PySem.W.Frag} {i:Str} {v:V} (q:RD K w H (.str i) v):v=.str i:=by unfold RD at q; exact q
theorem RD.non {K:PySem.W.Frag} {v:V} (q:RD K w H .non v):v=.non:=by unfold RD at q; exact q
theorem RD.mkI {K:PySem.W.Frag} :RD K w H (.int i) (.int i):=by unfold RD; rfl
theorem RD.mkB {K:PySem.W.Frag} {i:Bool}:RD K w H (.bl i) (.bl i):=by unfold RD; rfl
theorem RD.mkS {K:PySem.W.Frag} {i:Str}:RD K w H (.str i) (.str i):=by unfold RD; rfl
theorem RD.tupI {K:PySem.W.Frag} {ds:List D} {v:V} (q:RD K w H (.tup ds) v):∃ a vs,v=.ref a/\(At w H a (.tup vs) \/ rn K a vs)/\RDs K w H ds vs:=by unfold RD at q; exact q
theorem RD.lstI {K:PySem.W.Frag} {ds:List D} {v:V} (q:RD K w H (.lst ds) v):∃ a vs,v=.ref a/\At w H a (.lst vs)/\RDs K w H ds vs:=by unfold RD at q; exact q
theorem RD.fzI {K:PySem.W.Frag} {ds:List D} {v:V} (q:RD K w H (.fz ds) v):∃ a vs,v=.ref a/\tS K w H a vs/\RDs K w H ds vs:=by unfold RD at q; exact q
theorem RD.refI {K:PySem.W.Frag} {v:V} (q:RD K w H (.ref n) v):∃ a,v=.ref a/\w.st[n]?=some a:=by unfold RD at q; exact q
theorem RD.newTup {K:PySem.W.Frag} {ds:List D} {vs:List V} (s:RS K w H S) (hp:H p=none) (q:RDs K w H ds vs):RD K w (upd H p (.tup vs)) (.tup ds) (.ref p):=by
 unfold RD
 exact ⟨p,vs,rfl,.inl ⟨aK,s.fresh hp⟩,RDs.ext (Ext.new hp) _ _ q⟩
theorem RD.newLst {K:PySem.W.Frag} {ds:List D} {vs:List V} (s:RS K w H S) (hp:H p=none) (q:RDs K w H ds vs):RD K w (upd H p (.lst vs)) (.lst ds) (.ref p):=by
 unfold RD
 exact ⟨p,vs,rfl,⟨aK,s.fresh hp⟩,RDs.ext (Ext.new hp) _ _ q⟩
theorem AD {f:Value->Value->Sem Value} {C:Int->Int->Prop} {g:Int->Int->D} {gv:Int->Int->V} {o:Sto->D->D->Option D} (h:OpR X f (rI C gv)) (hg:∀ K w H i j,RD K w H (g i j) (gv i j))
  (ho:∀ S d e z,o S d e=some z->∃ i j,d=.int i/\e=.int j/\C i j/\z=g i j):OpR X f (xO X.K E o):=by
 rintro pins s σ H x y v u Q I rx ry ⟨w,S,d,e,hS,qd,qe,p⟩
 obtain ⟨z,hz,p⟩:=p.of
 obtain ⟨i,j,rfl,rfl,c,rfl⟩:=ho _ _ _ _ hz
 cases qd.int
 cases qe.int
 exact h pins s σ H _ _ v u Q I rx ry ⟨i,j,rfl,rfl,c,p.ret (hg _ _ _ _ _) hS⟩
theorem rD {f:Value->Value->Sem Value} {g:Int->Int->D} {gv:Int->Int->V} {o:Sto->D->D->Option D} (h:OpR X f (rI0 gv)) (hg:∀ K w H i j,RD K w H (g i j) (gv i j))
  (ho:∀ S d e z,o S d e=some z->∃ i j,d=.int i/\e=.int j/\z=g i j):OpR X f (xO X.K E o):=by
 rintro pins s σ H x y v u Q I rx ry ⟨w,S,d,e,hS,qd,qe,p⟩
 obtain ⟨z,hz,p⟩:=p.of
 obtain ⟨i,j,rfl,rfl,rfl⟩:=ho _ _ _ _ hz
 cases qd.int
 cases qe.int
 exact h pins s σ H _ _ v u Q I rx ry ⟨i,j,rfl,rfl,p.ret (hg _ _ _ _ _) hS⟩
theorem jv:OpR X (binaryOp .Sub) (xO X.K E i9):=rD (g:=λi j=>.int (i - j)) CI (λ_ _ _ _ _=>RD.mkI) λS d e z h=>by
 unfold i9 at h; split at h
 ·cases h; exact ⟨_,_,rfl,rfl,rfl⟩
 ·cases h
theorem pG:OpR X (binaryOp .FloorDiv) (xO X.K E jk):=AD (g:=λi j=>.int (i / j)) Ae (λ_ _ _ _ _=>RD.mkI) λS d e z h=>by
 unfold jk at h; split at h
 ·split at h
  ·cases h; exact ⟨_,_,rfl,rfl,by assumption,rfl⟩
  ·cases h
 ·cases h
theorem mC:OpR X (binaryOp .Mod) (xO X.K E oMod):=AD (g:=λi j=>.int (i % j)) CK (λ_ _ _ _ _=>RD.mkI) λS d e z h=>by
 unfold oMod at h; split at h
 ·split at h
  ·cases h; exact ⟨_,_,rfl,rfl,by assumption,rfl⟩
  ·cases h
 ·cases h
theorem Dg:OpR X (binaryOp .Pow) (xO X.K E tX):=AD (g:=λi j=>.int (i ^ j.toNat)) CL (λ_ _ _ _ _=>RD.mkI) λS d e z h=>by
 unfold tX at h; split at h
 ·split at h
  ·cases h; exact ⟨_,_,rfl,rfl,by assumption,rfl⟩
  ·cases h
 ·cases h
theorem yh:OpR X (binaryOp .LShift) (xO X.K E nC):=AD (g:=λi j=>.int (i * 2 ^ j.toNat)) CM (λ_ _ _ _ _=>RD.mkI) λS d e z h=>by
 unfold nC at h; split at h
 ·split at h
  ·cases h; exact ⟨_,_,rfl,rfl,by assumption,rfl⟩
  ·cases h
 ·cases h
theorem jK {p:Int->Int->Bool} {d e z:D} (h:mB p S d e=some z):∃ i j,d=.int i/\e=.int j/\z=.bl (p i j):=by
 unfold mB at h; split at h
 ·cases h; exact ⟨_,_,rfl,rfl,rfl⟩
 ·cases h
theorem mD:OpR X (compareOp .Lt) (xO X.K E oLt):=rD (g:=λi j=>.bl (decide (i < j))) Ez (λ_ _ _ _ _=>RD.mkB) λS d e z h=>jK h
theorem og:OpR X (compareOp .LtE) (xO X.K E oLe):=rD (g:=λi j=>.bl (decide (i<=j))) EA (λ_ _ _ _ _=>RD.mkB) λS d e z h=>jK h
theorem u6:OpR X (compareOp .Gt) (xO X.K E oGt):=rD (g:=λi j=>.bl (decide (j < i))) EB (λ_ _ _ _ _=>RD.mkB) λS d e z h=>jK h
theorem u7:OpR X (compareOp .GtE) (xO X.K E oGe):=rD (g:=λi j=>.bl (decide (j<=i))) EC (λ_ _ _ _ _=>RD.mkB) λS d e z h=>jK h
theorem kC:UnR X (unaryOp .USub) (xU X.K E ja):=by
 rintro pins s σ H x v Q I rx ⟨w,S,d,hS,qd,p⟩
 obtain ⟨z,hz,p⟩:=p.of
 unfold ja at hz; split at hz
 ·cases hz
  cases qd.int
  exact CN pins s σ H _ v Q I rx ⟨_,rfl,p.ret RD.mkI hS⟩
 ·cases hz
theorem yi {K:PySem.W.Frag} {d e:D} {x y:V} {c:Bool} (qd:RD K w H d x) (qe:RD K w H e y) (h:eqS d e=some c):CO x y=true/\decide (x=y)=c:=by
 unfold eqS at h
 split at h <;> (try (cases h; done)) <;> (unfold RD at qd qe; subst qd; subst qe; cases h; refine ⟨rfl,?_⟩; simp)
theorem EX:OpR X (compareOp .Eq) (xO X.K E oEq):=by
 rintro pins s σ H x y v u Q I rx ry ⟨w,S,d,e,hS,qd,qe,p⟩
 obtain ⟨z,hz,p⟩:=p.of
 unfold oEq at hz
 cases h:eqS d e with
 | none=>rw [h] at hz; cases hz
 | some c=>
  rw [h] at hz; cases hz
  obtain ⟨h1,h2⟩:=yi qd qe h
  exact Ew pins s σ H _ _ v u Q I rx ry ⟨h1,by rw [h2]; exact p.ret RD.mkB hS⟩
theorem EY:OpR X (compareOp .NotEq) (xO X.K E oNe):=by
 rintro pins s σ H x y v u Q I rx ry ⟨w,S,d,e,hS,qd,qe,p⟩
 obtain ⟨z,hz,p⟩:=p.of
 unfold oNe at hz
 cases h:eqS d e with
 | none=>rw [h] at hz; cases hz
 | some c=>
  rw [h] at hz; cases hz
  obtain ⟨h1,h2⟩:=yi qd qe h
  exact Ey pins s σ H _ _ v u Q I rx ry ⟨h1,by rw [h2]; exact p.ret RD.mkB hS⟩
theorem kE {K:PySem.W.Frag} {d:D} {v:V} {a:List D} (s:RS K w H S) (q:RD K w H d v) (h:bS S d=some a):∃ p vs,v=.ref p/\(SqL K H p vs \/ SqT K H p vs)/\RDs K w H a vs:=by
 unfold bS at h
 split at h
 ·cases h; obtain ⟨p,vs,e,z,r⟩:=q.tupI; exact ⟨p,vs,e,.inr (cz z),r⟩
 ·cases h; obtain ⟨p,vs,e,z,r⟩:=q.lstI; exact ⟨p,vs,e,.inl (SqL.of z.1),r⟩
 ·cases h; obtain ⟨p,vs,e,z,r⟩:=q.fzI; exact ⟨p,vs,e,.inl z.sq,r⟩
 ·split at h
  ·rename_i n b hn
   cases h
   obtain ⟨p,e,hp⟩:=q.refI
   obtain ⟨p',hp',vs,hv,r⟩:=s.obj _ _ hn
   rw [hp] at hp'; cases hp'
   exact ⟨p,vs,e,.inl (SqL.of hv),r⟩
  ·rename_i n b hn
   cases h
   obtain ⟨p,e,hp⟩:=q.refI
   obtain ⟨p',hp',o,vs,hv,r⟩:=s.obj _ _ hn
   rw [hp] at hp'; cases hp'
   exact ⟨p,vs,e,.inl (.inl (.inr ⟨o,hv⟩)),r⟩
  ·cases h
 ·cases h
theorem RDs.atI {K:PySem.W.Frag} {a:List D} {vs:List V} {d:D} (r:RDs K w H a vs) (h:atI a i=some d):∃ v,L2.atI vs i=some v/\RD K w H d v:=by
 unfold L2.atI at h ⊢
 rw [r.length]
 cases e:ixN a.length i with
 | none=>rw [e] at h; cases h
 | some j=>
  rw [e] at h
  obtain ⟨v,ev,rv⟩:=r.get (show a[j]?=some d from h)
  exact ⟨v,ev,rv⟩
theorem eJ:IxR X (xO X.K E oIx):=by
 rintro va sl pins s σ H x y v u Q I rx ry ⟨w,S,d,e,hS,qd,qe,p⟩ hsub
 obtain ⟨z,hz,p'⟩:=p.of
 clear p
 unfold oIx at hz
 split at hz
 ·rename_i a i ha
  obtain ⟨q,vs,rfl,sq,r⟩:=kE hS qd ha
  cases qe.int
  obtain ⟨v',ev,rv⟩:=r.atI hz
  exact CW va sl pins s σ H _ _ v u Q I rx ry (sq.elim (λz=>.inl ⟨q,vs,i,v',rfl,rfl,z,ev,p'.ret rv hS⟩) λz=>.inr (.inl ⟨q,vs,i,v',rfl,rfl,z,ev,p'.ret rv hS⟩)) hsub
 ·cases hz
theorem u9 {K:PySem.W.Frag} {d:D} {v:V} (q:RD K w H d v) (h:ix d=true):jg v=true:=by
 unfold ix at h
 split at h
 ·cases q.non; rfl
 ·cases q.bl; rfl
 ·cases q.int; rfl
 ·cases q.str; rfl
 ·cases h
theorem rE {K:PySem.W.Frag} :∀ {ds:List D} {vs:List V},RDs K w H ds vs->ds.all ix=true->vs.all jg=true
 | [],_,q,_=>by rw [q.nil_inv]; rfl
 | d :: ds,_,q,h=>by
  obtain ⟨v,r,rfl,p,t⟩:=q.cons_inv
  rw [Wu,Yl] at h ⊢
  exact ⟨u9 p h.1,rE t h.2⟩
theorem Dh {K:PySem.W.Frag} {d e:D} {x y:V} (qd:RD K w H d x) (qe:RD K w H e y) (h1:ix d=true) (h2:ix e=true):eqV x y=eqF d e:=by
 unfold ix at h1 h2
 split at h1 <;> (try (cases h1; done)) <;> split at h2 <;> (try (cases h2; done)) <;> (unfold RD at qd qe; subst qd; subst qe; rfl)
theorem vc {K:PySem.W.Frag} {d:D} {x:V} (qd:RD K w H d x) (hd:ix d=true):∀ {ds:List D} {vs:List V},RDs K w H ds vs->ds.all ix=true->(vs.any λy=>eqV y x)=ds.any λz=>eqF z d
 | [],_,q,_=>by rw [q.nil_inv]; rfl
 | e :: ds,_,q,h=>by
  obtain ⟨v,r,rfl,p,t⟩:=q.cons_inv
  rw [Wu,Yl] at h
  rw [Q5,Q5,Dh p qd h.1 hd,vc qd hd t h.2]
theorem rF:OpR X (compareOp .NotIn) (xO X.K E (oIn true)):=by
 rintro pins s σ H x y v u Q I rx ry ⟨w,S,d,e,hS,qd,qe,p⟩
 obtain ⟨z,hz,p⟩:=p.of
 unfold oIn at hz
 split at hz
 ·rename_i a ha
  split at hz
  ·rename_i hf
   obtain ⟨q,vs,rfl,sq,r⟩:=kE hS qe ha
   cases hz
   refine pd pins s σ H _ _ v u Q I rx ry ⟨q,vs,rfl,sq,u9 qd hf.1,rE r hf.2,?_⟩
   have hi:inV x vs=a.any λz=>eqF z d:=vc qd hf.1 r hf.2
   simp only [Yj] at p ⊢
   rw [hi]
   exact p.ret RD.mkB hS
  ·cases hz
 ·cases hz
end
section
open PySem.SeqAt
open PySem.AutoSeq1 (wpAny_loadPart')
open PySem.MeetsSeq PySem.MeetsSeq2 PySem.MeetsSeq3
theorem pH (a:Int) (t:Tok) (l:Addr) (items:Array Value) (n:Nat) (dd:Option Addr) (sl:Array (Option Value)):
  Meets (Builtin.«int.__rmul__» ⟨[.int a t,.ref l],[]⟩) (λ_ R s=>s.heap.get? l=some { cls:=.type "tuple",dict:=dd,data:=.seq items n,slots:=sl }/\R (.ok (.ret Value.notImplemented)) s):=
 .of_wp λprog w A R s h=>by obtain ⟨hp,g,d,tk,os⟩:=s; obtain ⟨hl,h⟩:=h; wp_walk using wpAny_loadPart' hl; exact ⟨_,rfl,h⟩
theorem pI (l:Addr) (items:Array Value) (n:Nat) (k:Int) (t:Tok) (dd:Option Addr) (sl:Array (Option Value)) (h1:¬ (decide (k < -(2 ^ 63)) || decide (k >= 2 ^ 63))=true) (h2:(items.isEmpty || k == 1)=true):
  Meets (Builtin.«tuple.__mul__» ⟨[.ref l,.int k t],[]⟩) (λ_ R s=>s.heap.get? l=some { cls:=.type "tuple",dict:=dd,data:=.seq items n,slots:=sl }/\R (.ok (.ret (.ref l))) s):=
 .of_wp λprog w A R s h=>by obtain ⟨hp,g,d,tk,os⟩:=s; obtain ⟨hl,h⟩:=h; have f1:=AutoSeq1.idx_int; wp_walk using wpAny_loadPart' hl; rw [Jc h1]; wp_walk using wpAny_loadPart' hl; exact ⟨_,rfl,h⟩
theorem pJ (l:Addr) (items:Array Value) (n:Nat) (k:Int) (t:Tok) (dd:Option Addr) (sl:Array (Option Value)) (h1:¬ (decide (k < -(2 ^ 63)) || decide (k >= 2 ^ 63))=true) (h2:¬ (items.isEmpty || k == 1)=true) (h3:(decide (k<=0) || items.isEmpty)=true):
  Meets (Builtin.«tuple.__mul__» ⟨[.ref l,.int k t],[]⟩) (λ_ R s=>s.heap.get? l=some { cls:=.type "tuple",dict:=dd,data:=.seq items n,slots:=sl }/\R (.ok (.ret (Value.ref s.heap.objs.size))) { s with heap:=s.heap.push { cls:=Value.type "tuple",data:=Data.seq #[] },toks:=s.toks }):=
 .of_wp λprog w A R s h=>by obtain ⟨hp,g,d,tk,os⟩:=s; obtain ⟨hl,h⟩:=h; have f1:=AutoSeq1.idx_int; wp_walk using wpAny_loadPart' hl; rw [Jc h1]; wp_walk using wpAny_loadPart' hl; exact ⟨_,rfl,h⟩
theorem pK (l:Addr) (items:Array Value) (n:Nat) (k:Int) (t:Tok) (dd:Option Addr) (sl:Array (Option Value)) (h1:¬ (decide (k < -(2 ^ 63)) || decide (k >= 2 ^ 63))=true) (h2:¬ (items.isEmpty || k == 1)=true) (h3:¬ (decide (k<=0) || items.isEmpty)=true)
  (h4:¬ (items.size:Int) * k > (2 ^ 63 - 1) / 8) (h5:¬ Builtin.Tuple.tupleTooMany ((items.size:Int) * k)=true) (hsz:(List.foldl (λx1 x2=>x1 ++ x2) #[] (List.replicate k.toNat items)).size<=sizeLine):
  Meets (Builtin.«tuple.__mul__» ⟨[.ref l,.int k t],[]⟩) (λ_ R s=>s.heap.get? l=some { cls:=.type "tuple",dict:=dd,data:=.seq items n,slots:=sl }/\R (.ok (.ret (Value.ref s.heap.objs.size))) { s with heap:=s.heap.push { cls:=Value.type "tuple",data:=Data.seq (List.foldl (λx1 x2=>x1 ++ x2) #[] (List.replicate k.toNat items)) },toks:=s.toks }):=
 .of_wp λprog w A R s h=>by obtain ⟨hp,g,d,tk,os⟩:=s; obtain ⟨hl,h⟩:=h; have f1:=AutoSeq1.idx_int; wp_walk using wpAny_loadPart' hl; rw [Jc h1]; wp_walk using wpAny_loadPart' hl; rw [Jc h4]; wp_walk using wpAny_loadPart' hl; exact ⟨_,rfl,h⟩
end
section
variable {prog:Program} {w:World} {A:Around} {E:Value->Shared->Prop} {s:Shared}
theorem kF:fillsNumberSlot (.type "tuple") "mul" = pure false:=
 PySem.fillsNumberSlot_seq (id:="tuple.__mul__") (r:=some (.builtin "tuple.__rmul__")) F.slot_tuple_mul.lookup (by decide +kernel) F.slot_tuple_rmul.lookup (by decide +kernel)
theorem pL:seqRepeat? (.type "tuple")=pure (some (.builtin "tuple.__mul__")):=by
 unfold seqRepeat?
 rw [PySem.seqSlot_of (T:="tuple") (name:="__mul__") (id:="tuple.__mul__") F.slot_tuple_mul.lookup (by decide +kernel),PySem.seqSlot_of (T:="tuple") (name:="__rmul__") (id:="tuple.__rmul__") F.slot_tuple_rmul.lookup (by decide +kernel)]
 rfl
theorem AE {t:Addr} {vs:List Value} {k:Int} {tk:Tok} {Q:Value->Shared->Prop} (ht:IsTup s.heap t vs.toArray) (h1:-(2 ^ 63)<=k) (h2:k < 2 ^ 63) (hz:vs.length * k.toNat<=sizeLine)
  (q1:(vs=[] \/ k=1)->Q (.ref t) s) (q2:¬ (vs=[] \/ k=1)->Q (.ref s.heap.objs.size) { s with heap:=s.heap.push { cls:=.type "tuple",data:=.seq (List.replicate k.toNat vs).flatten.toArray } }):
  wpAny (model prog w) A (binaryOp .Mult (.ref t) (.int k tk)) Q E s:=by
 obtain ⟨⟨cls,dd,data,sl⟩,ho,hc,n,hd⟩:=id ht
 simp only at hc hd
 subst hc hd
 have hk:¬ (decide (k < -(2 ^ 63)) || decide (k >= 2 ^ 63))=true:=by simp; omega
 refine wpAny_binaryOp_repeat_ref (T:="tuple") (U:="int") (by decide) ⟨_,ho,rfl⟩ (λs'=>V5 s' k tk) kF F.fills_int_mul Vn pL F.slot_int_index.lookup
  (Wr Vn (V5 s k tk) F.entry_int_rmul (F.args_int_rmul_2 _ _) (pH k tk t vs.toArray n dd sl) ⟨ho,rfl,⟨_,ho,rfl⟩,?_⟩)
 have hfold:∀ m:Nat,List.foldl (λx1 x2=>x1 ++ x2) #[] (List.replicate m vs.toArray)=(List.replicate m vs).flatten.toArray:=λm=>by
  have:=foldl_rep vs m []
  rw [Z4] at this
  exact this
 by_cases c1:vs=[] \/ k=1
 ·refine Wr F.slot_tuple_mul ⟨_,ho,rfl⟩ Ug (U5 _ _) (pI t vs.toArray n k tk dd sl hk ?_) ⟨ho,q1 c1⟩
  rcases c1 with rfl | rfl
  ·rfl
  ·simp
 ·have c2:¬ (vs.toArray.isEmpty || k == 1)=true:=by
   intro z
   rw [Bool.or_eq_true] at z
   rcases z with z | z
   ·exact c1 (.inl (by simpa using z))
   ·exact c1 (.inr (by simpa using z))
  by_cases c3:k<=0
  ·refine Wr F.slot_tuple_mul ⟨_,ho,rfl⟩ Ug (U5 _ _) (pJ t vs.toArray n k tk dd sl hk c2 (by simp [c3])) ⟨ho,?_⟩
   have:=q2 c1
   rw [show k.toNat=0 by omega] at this
   exact this
  ·have c4:¬ (decide (k<=0) || vs.toArray.isEmpty)=true:=by
    intro z
    rw [Bool.or_eq_true] at z
    rcases z with z | z
    ·exact c3 (Yy z)
    ·exact c1 (.inl (by simpa using z))
   have hmul:((vs.toArray.size:Nat):Int) * k=((vs.length * k.toNat:Nat):Int):=by
    rw [Ju,Int.natCast_mul,Int.toNat_of_nonneg (by omega)]
   have hs0:(sizeLine:Nat)=2 ^ 24:=rfl
   refine Wr F.slot_tuple_mul ⟨_,ho,rfl⟩ Ug (U5 _ _) (pK t vs.toArray n k tk dd sl hk c2 c4 ?_ ?_ ?_) ⟨ho,?_⟩
   ·rw [hmul]
    intro z
    have:((2:Int) ^ 63 - 1) / 8 >= 2 ^ 24:=by decide
    omega
   ·rw [hmul]
    unfold Builtin.Tuple.tupleTooMany
    simp only [decide_eq_true_eq]
    intro z
    have z':((sizeLine:Nat):Int) < ((vs.length * k.toNat:Nat):Int):=z
    omega
   ·rw [hfold,Ju,len_rep,Uk]; exact hz
   ·rw [hfold]; exact q2 c1
end
section
variable {prog:Program} {w:World} {A:Around} {E:Value->Shared->Prop} {s:Shared}
theorem yj {t b:Addr} {ws:List Value} {Q:Value->Shared->Prop} (ht:IsTup s.heap t ([]:List Value).toArray) (hb:IsTup s.heap b ws.toArray) (h:Q (.ref b) s):wpAny (model prog w) A (binaryOp .Add (.ref t) (.ref b)) Q E s:=by
 obtain ⟨⟨cls,dd,data,sl⟩,ho,hc,n,hd⟩:=id ht
 obtain ⟨⟨cls2,dd2,data2,sl2⟩,ho2,hc2,n2,hd2⟩:=id hb
 simp only at hc hd hc2 hd2
 subst hc hd hc2 hd2
 exact concat_meets ⟨_,ho,rfl⟩ ⟨_,ho2,rfl⟩ noFill_tuple_add seq_tuple_add V9 V6 (V1 _ _) (tuple_addW0 t b _ ws.toArray n n2 dd dd2 sl sl2 rfl) ⟨ho,ho2,h⟩
open HT in
theorem jc {t sl:Addr} {items:Array Value} {vl vu:Value} {lo hi:Option Int} {Q:Value->Shared->Prop} (ht:IsTup s.heap t items) (hs:s.heap.IsSliceOf sl vl vu .none) (pl:IsPart vl lo) (pu:IsPart vu hi)
  (hw:sIx items.size 0 lo=0/\sIx items.size items.size hi=items.size) (h:Q (.ref t) s):wpAny (model prog w) A (getItem (.ref t) (.ref sl)) Q E s:=by
 obtain ⟨os,hos,hcs,hds⟩:=id hs
 have hTs:s.TypeIs (.ref sl) "slice":=⟨os,hos,hcs⟩
 unfold getItem
 try with_reducible refine Zc ?_
 first | refine J6 (Jd ?_) | skip
 refine J6 (wpAny_sequenceKey ht.typeIs (by decide) ?_)
 refine J6 (Z9 (name:=Str.ofString "__getitem__") ht.typeIs Qd
  (Zf Qd ht.typeIs entry_tuple_getitem ?_ (args_tuple_getitem _ _)))
 show wpAny _ _ (Builtin.Tuple.tupleItemsOf (.ref t) >>= _) _ _ s
 refine J6 (tupleItemsOf_ ht ?_)
 refine J6 (V2 hTs ?_)
 rw [J8 (by decide)]
 refine J6 (gq hs pl pu ?_)
 have hyes:(((sIx items.size 0 lo:Nat):Int) == 0 && (1:Int) == 1 && (sIx items.size items.size hi - sIx items.size 0 lo) == items.size)=true:=by
  rw [hw.1,hw.2]; simp
 show wpAny _ _ (if (((sIx items.size 0 lo:Nat):Int) == 0 && (1:Int) == 1 && (sIx items.size items.size hi - sIx items.size 0 lo) == items.size)=true then _ else _) _ _ s
 rw [J8 hyes]
 obtain ⟨ob,hob,hcl,_⟩:=id ht
 have hex:∀ {Q':Bool->Shared->Prop},Q' true s->wpAny (model prog w) A.in1 (Builtin.Tuple.tupleIsExact (.ref t)) Q' E s:=λq=>by
  unfold Builtin.Tuple.tupleIsExact
  refine J6 (V2 ht.typeIs (Jd ?_))
  exact q
 refine J6 (hex ?_)
 rw [J8 rfl]
 first
  | exact J6 (Z0 (Jd ⟨_,rfl,Jd h⟩))
  | exact J6 (Z0 (J6 (Jd ⟨_,rfl,Jd h⟩)))
  | exact J6 (Z0 (J6 (Jd (Jd ⟨_,rfl,Jd h⟩))))
  | exact J6 (J6 (Z0 (Jd (Jd ⟨_,rfl,Jd h⟩))))
end
section
variable {X:Cx} {E:XK}
theorem jL {K:PySem.W.Frag} {vs:List V} {ds:List D} (z:At w H p (.tup vs) \/ rn K p vs) (r:RDs K w H ds vs):RD K w H (.tup ds) (.ref p):=by
 unfold RD; exact ⟨p,vs,rfl,z,r⟩
theorem bK:OpR X (binaryOp .Add) (xO X.K E bb):=by
 rintro pins s σ H x y v u Q I rx ry ⟨w,S,d,e,hS,qd,qe,p⟩
 obtain ⟨z,hz,p'⟩:=p.of
 clear p
 unfold bb at hz
 split at hz
 ·cases hz
  cases qd.int
  cases qe.int
  exact CH pins s σ H _ _ v u Q I rx ry ⟨_,_,rfl,rfl,p'.ret RD.mkI hS⟩
 ·split at hz
  ·cases hz
   cases qd.str
   cases qe.str
   exact tN pins s σ H _ _ v u Q I rx ry ⟨_,_,rfl,rfl,by assumption,p'.ret RD.mkS hS⟩
  ·cases hz
 ·split at hz
  ·rename_i S' a b hl
   cases hz
   obtain ⟨pa,xs,rfl,za,ra⟩:=qd.tupI
   obtain ⟨pb,ys,rfl,zb,rb⟩:=qe.tupI
   by_cases ha:a=[]
   ·subst ha
    have hxs:=ra.nil_inv
    subst hxs
    cases rx
    cases ry
    obtain ⟨its,r1,p1,_⟩:=I.tuple (cz za)
    obtain ⟨its2,r2,p2,_⟩:=I.tuple (cz zb)
    have:its=[]:=r1.nil_iff.mpr rfl
    subst this
    exact yj p1 p2 ⟨.ref pb,H,I,rfl,p'.ret (jL zb rb) hS⟩
   ·refine An pins s σ H _ _ v u Q I rx ry ⟨pa,pb,xs,ys,rfl,rfl,cz za,cz zb,λz=>ha ?_,by rw [ra.length,rb.length]; exact hl,λz=>?_,λz q hq=>?_⟩
    ·have:=ra.length
     rw [z] at this
     exact Za.mp this.symm
    ·have hb:b=[]:=by
      have:=rb.length
      rw [z] at this
      exact Za.mp this.symm
     subst hb
     rw [Yu] at p'
     exact p'.ret (jL za ra) hS
    ·exact p'.at (Ext.new hq) (RD.newTup hS hq (ra.append rb)) (hS.new hq)
  ·cases hz
 ·split at hz
  ·rename_i S' a b hl
   cases hz
   obtain ⟨pa,xs,rfl,za,ra⟩:=qd.lstI
   obtain ⟨pb,ys,rfl,zb,rb⟩:=qe.lstI
   exact C0 pins s σ H _ _ v u Q I rx ry ⟨pa,pb,xs,ys,rfl,rfl,za.1,zb.1,by rw [ra.length,rb.length]; exact hl,λq hq=>p'.at (Ext.new hq) (RD.newLst hS hq (ra.append rb)) (hS.new hq)⟩
  ·cases hz
 ·cases hz
theorem RDs.rep {K:PySem.W.Frag} {ds:List D} {vs:List V} (r:RDs K w H ds vs):∀ k:Nat,RDs K w H (List.replicate k ds).flatten (List.replicate k vs).flatten
 | 0=>by simp; exact .nil
 | k + 1=>by
  rw [Q3,Q3,Qt,Qt]
  exact r.append (RDs.rep r k)
theorem dm:OpR X (binaryOp .Mult) (xO X.K E cx):=by
 rintro pins s σ H x y v u Q I rx ry ⟨w,S,d,e,hS,qd,qe,p⟩
 obtain ⟨z,hz,p'⟩:=p.of
 clear p
 unfold cx at hz
 split at hz
 ·split at hz
  ·cases hz
   cases qd.int
   cases qe.int
   exact CJ pins s σ H _ _ v u Q I rx ry ⟨_,_,rfl,rfl,by assumption,p'.ret RD.mkI hS⟩
  ·cases hz
 ·split at hz
  ·rename_i S' a k hl
   cases hz
   obtain ⟨pa,xs,rfl,za,ra⟩:=qd.tupI
   cases qe.int
   cases rx
   obtain ⟨t,rfl⟩:=ry
   obtain ⟨its,r1,p1,_⟩:=I.tuple (cz za)
   have e1:its.length=a.length:=by rw [<- r1.length,ra.length]
   refine AE p1 hl.1 hl.2.1 (by rw [e1]; exact hl.2.2) (λc=>?_) λc=>?_
   ·refine ⟨.ref pa,H,I,rfl,?_⟩
    have:(List.replicate k.toNat a).flatten=a:=by
     rcases c with c | c
     ·have:a=[]:=by rw [c] at e1; exact Za.mp e1.symm
      subst this; simp
     ·subst c; simp
    rw [this] at p'
    exact p'.ret (jL za ra) hS
   ·have hn:H s.heap.objs.size=none:=I.hok.fresh (Jb _)
    refine ⟨.ref s.heap.objs.size,_,I.laid (t':=s.toks) (o:=.tup (List.replicate k.toNat xs).flatten) (λb ob q=>J7 _ q) (Jb _) ?_,rfl,p'.at (Ext.new hn) (RD.newTup hS hn (ra.rep _)) (hS.new hn)⟩
    exact ⟨by rw [len_rep,Uk,ra.length]; exact hl.2.2,_,r1.rep _,IsTup.new _ _⟩
  ·cases hz
 ·split at hz
  ·rename_i S' a k hl
   cases hz
   obtain ⟨pa,xs,rfl,za,ra⟩:=qd.lstI
   cases qe.int
   exact C1 pins s σ H _ _ v u Q I rx ry ⟨pa,k,xs,rfl,rfl,za.1,hl.1,hl.2.1,by rw [ra.length]; exact hl.2.2,λq hq=>p'.at (Ext.new hq) (RD.newLst hS hq (ra.rep _)) (hS.new hq)⟩
  ·cases hz
 ·cases hz
theorem eK {a b:Expr} {mb:EM} {pos:Pos} {f:Sto->D->D->Option D} (hr:IxR X (xO X.K E f)) (ha:SE X E a ma) (hb:SE X E b mb) (hs:uW b:=by intro _ _; kernel_rfl):SE X E (.Subscript a b pos) (eOp f ma mb):=⟨
 aY (EI hr ha.out hb.out hs) λs H Q zq=>ex6 zq λw r S hr hS hp=>⟨w,r,S,hr,hS,hp.bind hS λd S1 w1 H1 v x1 q1 s1 p1=>
  ⟨w1,r,S1,hr.ext x1,s1,p1.bind s1 λe S2 w2 H2 u x2 q2 s2 p2=>⟨w2,S2,d,e,s2,RD.ext x2 d v q1,q2,p2⟩⟩⟩⟩
noncomputable abbrev OM:=Rho->Sto->R (Option Int)
def ROp (w:Wd) (H:Hp) (a b:Option Int):Prop:=b=a
noncomputable def uO (K:PySem.W.Frag) (E:XK) (m:OM):TO:=λs H Q=>∃ w r S,RSt K w H r s/\RS K w H S/\aE K E ROp w H (m r S) Q
noncomputable def oNo:OM:=λ_ S=>.ok none S
noncomputable def mE (a:EM):OM:=λr S=>(a r S).bind λx S1=>match x with
 | .int i=>.ok (some i) S1
 | _=>.bad
abbrev SO' (X:Cx) (E:XK) (e:Option Expr) (m:OM):Prop:=Bx (PO X e (uO X.K E m))
theorem ve:SO' X E none oNo:=⟨λpins s σ H Q I zq=>ex6 zq λw r S hr hS hp=>Ak pins s σ H Q I (hp.ret rfl hS)⟩
theorem vf {a:Expr} (ha:SE X E a ma):SO' X E (some a) (mE ma):=⟨λpins s σ H Q I zq=>ex6 zq λw r S hr hS hp=>Am ha.out pins s σ H Q I
 ⟨w,r,S,hr,hS,hp.bind hS λd S1 w1 H1 v x1 q1 s1 p1=>by
  cases d with
  | int i=>cases q1.int; exact ⟨i,rfl,p1.ret rfl s1⟩
  | _=>exact p1.elim⟩⟩
noncomputable def xL (K:PySem.W.Frag) (E:XK) (f:Sto->D->Option Int->Option Int->Option D):V->Option Int->Option Int->Hp->VK->Prop:=λx lo hi H Q=>∃ w S d,RS K w H S/\RD K w H d x/\aE K E (RD K) w H (R.of S (f S d lo hi)) Q
noncomputable def eSl (f:Sto->D->Option Int->Option Int->Option D) (a:EM) (lo hi:OM):EM:=λr S=>(a r S).bind λx S1=>(lo r S1).bind λl S2=>(hi r S2).bind λu S3=>R.of S3 (f S3 x l u)
theorem BZ {a:Expr} {lo hi:Option Expr} {ml mh:OM} {p2 pos:Pos} {f:Sto->D->Option Int->Option Int->Option D} (hf:SlR X (xL X.K E f)) (ha:SE X E a ma) (hl:SO' X E lo ml) (hh:SO' X E hi mh):
  SE X E (.Subscript a (.Slice lo hi none p2) pos) (eSl f ma ml mh):=⟨
 aY (xV hf ha.out hl.out hh.out) λs H Q zq=>ex6 zq λw r S hr hS hp=>⟨w,r,S,hr,hS,hp.bind hS λd S1 w1 H1 v x1 q1 s1 p1=>
  ⟨w1,r,S1,hr.ext x1,s1,p1.bind s1 λl S2 w2 H2 l' x2 q2 s2 p2=>⟨w2,r,S2,(hr.ext x1).ext x2,s2,p2.bind s2 λu S3 w3 H3 u' x3 q3 s3 p3=>by
   have e1:l'=l:=q2
   have e2:u'=u:=q3
   subst e1 e2
   exact ⟨w3,S3,d,s3,RD.ext x3 _ _ (RD.ext x2 _ _ q1),p3⟩⟩⟩⟩⟩
noncomputable def rG:Sto->D->Option Int->Option Int->Option D
 | _,.tup a,lo,hi=>some (.tup (cutD a lo hi))
 | _,.lst a,lo,hi=>some (.lst (cutD a lo hi))
 | _,_,_,_=>none
theorem RDs.cut {K:PySem.W.Frag} {ds:List D} {vs:List V} (r:RDs K w H ds vs) (lo hi:Option Int):RDs K w H (cutD ds lo hi) (rf vs lo hi):=by
 unfold cutD rf
 rw [r.length]
 exact (r.drop _).take _
theorem yk:SlR X (xL X.K E rG):=by
 rintro pins s σ H x v vl vu lo hi sl Q I rx hs pl pu ⟨w,S,d,hS,qd,p⟩
 obtain ⟨z,hz,p'⟩:=p.of
 clear p
 unfold rG at hz
 split at hz
 ·rename_i a
  cases hz
  obtain ⟨pa,xs,rfl,za,ra⟩:=qd.tupI
  by_cases hw:HT.sIx xs.length 0 lo=0/\HT.sIx xs.length xs.length hi=xs.length
  ·cases rx
   obtain ⟨its,r,ht,hz⟩:=I.tuple (cz za)
   have hlen:its.toArray.size=xs.length:=by rw [Ju]; exact r.length.symm
   refine ⟨"tuple",_,PyProof.Rows.slot_tuple_getitem.lookup,ht.typeIs,?_⟩
   refine jc ht hs pl pu (by rw [hlen]; exact hw) ⟨.ref pa,H,I,rfl,?_⟩
   have e:cutD a lo hi=a:=by
    unfold cutD
    rw [<- ra.length,hw.1,hw.2]
    rw [List.drop_zero,Nat.sub_zero,ra.length,Q9]
   rw [e] at p'
   exact p'.ret (jL za ra) hS
  ·exact CU pins s σ H _ v vl vu lo hi sl Q I rx hs pl pu ⟨pa,xs,rfl,cz za,hw,λq hq=>p'.at (Ext.new hq) (RD.newTup hS hq (ra.cut lo hi)) (hS.new hq)⟩
 ·rename_i a
  cases hz
  obtain ⟨pa,xs,rfl,za,ra⟩:=qd.lstI
  exact Aq pins s σ H _ v vl vu lo hi sl Q I rx hs pl pu ⟨pa,xs,rfl,SqL.of za.1,λq hq=>p'.at (Ext.new hq) (RD.newLst hS hq (ra.cut lo hi)) (hS.new hq)⟩
 ·cases hz
noncomputable def dq:Sto->List D->Option D
 | _,[.str x]=>if x.length<=sizeLine then some (.int x.length) else none
 | _,[.dic x]=>some (.int x.length)
 | S,[d]=>match bS S d with
  | some a=>some (.int a.length)
  | none=>match d with
   | .ref n=>match S[n]? with
    | some (.dic kvs)=>some (.int kvs.length)
    | _=>none
   | _=>none
 | _,_=>none
theorem RDk.length {K:PySem.W.Frag} :∀ {ds:List (Sum Int Str × D)} {vs:List (Key × V)},RDk K w H ds vs->vs.length=ds.length
 | [],_,h=>by unfold RDk at h; rw [h]; rfl
 | (k,d) :: ds,_,h=>by
  unfold RDk at h
  obtain ⟨v,r,rfl,_,q⟩:=h
  simp [RDk.length q]
theorem dE:bw X (.builtin "len") (xC X.K E dq):=by
 rintro pins s σ H xs us Q I r ⟨w,S,ds,hS,qs,p⟩
 obtain ⟨z,hz,p'⟩:=p.of
 clear p
 unfold dq at hz
 split at hz
 ·split at hz
  ·cases hz
   obtain ⟨v,rfl,q⟩:=qs.one_inv
   cases q.str
   exact pf pins s σ H _ us Q I r ⟨_,rfl,by assumption,p'.ret RD.mkI hS⟩
  ·cases hz
 ·cases hz
  obtain ⟨v,rfl,q⟩:=qs.one_inv
  unfold RD at q
  obtain ⟨a,uu,rfl,z,rk⟩:=q
  exact n6 pins s σ H _ us Q I r ⟨_,_,rfl,z.1,by rw [rk.length]; exact p'.ret RD.mkI hS⟩
 ·obtain ⟨v,rfl,q⟩:=qs.one_inv
  split at hz
  ·rename_i a ha
   cases hz
   obtain ⟨pp,vs,rfl,sq,ra⟩:=kE hS q ha
   exact pe pins s σ H _ us Q I r ⟨pp,vs,rfl,sq,by rw [ra.length]; exact p'.ret RD.mkI hS⟩
  ·split at hz
   ·split at hz
    ·rename_i n kvs hn
     cases hz
     obtain ⟨pp,rfl,hp⟩:=q.refI
     obtain ⟨p2,hp2,vs,hv,rk⟩:=hS.obj _ _ hn
     rw [hp] at hp2; cases hp2
     exact n6 pins s σ H _ us Q I r ⟨_,_,rfl,hv,by rw [rk.length]; exact p'.ret RD.mkI hS⟩
    ·cases hz
   ·cases hz
 ·cases hz
noncomputable def gw:Sto->List D->Option D
 | _,[.int i]=>some (.int (if i < 0 then -i else i))
 | _,_=>none
theorem mF:bw X (.builtin "abs") (xC X.K E gw):=by
 rintro pins s σ H xs us Q I r ⟨w,S,ds,hS,qs,p⟩
 obtain ⟨z,hz,p'⟩:=p.of
 clear p
 unfold gw at hz
 split at hz
 ·cases hz
  obtain ⟨v,rfl,q⟩:=qs.one_inv
  cases q.int
  exact xQ pins s σ H _ us Q I r ⟨_,rfl,p'.ret RD.mkI hS⟩
 ·cases hz
noncomputable def mG:Sto->List D->Option D
 | _,[.int i,.int j]=>some (.int (if j > i then j else i))
 | _,_=>none
theorem pN (hc:X.calm=true):bw X (.builtin "max") (xC X.K E mG):=by
 rintro pins s σ H xs us Q I r ⟨w,S,ds,hS,qs,p⟩
 obtain ⟨z,hz,p'⟩:=p.of
 clear p
 unfold mG at hz
 split at hz
 ·cases hz
  obtain ⟨v,u,rfl,q,q'⟩:=qs.two_inv
  cases q.int
  cases q'.int
  exact wx hc pins s σ H _ us Q I r ⟨_,_,rfl,p'.ret RD.mkI hS⟩
 ·cases hz
noncomputable def pO:Sto->List D->Option D
 | _,[.int i,.int j]=>some (.int (if j < i then j else i))
 | _,_=>none
theorem tY (hc:X.calm=true):bw X (.builtin "min") (xC X.K E pO):=by
 rintro pins s σ H xs us Q I r ⟨w,S,ds,hS,qs,p⟩
 obtain ⟨z,hz,p'⟩:=p.of
 clear p
 unfold pO at hz
 split at hz
 ·cases hz
  obtain ⟨v,u,rfl,q,q'⟩:=qs.two_inv
  cases q.int
  cases q'.int
  exact wy hc pins s σ H _ us Q I r ⟨_,_,rfl,p'.ret RD.mkI hS⟩
 ·cases hz
noncomputable def lM:Sto->List D->Option D
 | _,[.int i,.int j]=>if 0 < j/\j < 1073741824 then some (.tup [.int (i / j),.int (i % j)]) else none
 | _,_=>none
theorem wK:bw X (.builtin "divmod") (xC X.K E lM):=by
 rintro pins s σ H xs us Q I r ⟨w,S,ds,hS,qs,p⟩
 obtain ⟨z,hz,p'⟩:=p.of
 clear p
 unfold lM at hz
 split at hz
 ·split at hz
  ·cases hz
   obtain ⟨v,u,rfl,q,q'⟩:=qs.two_inv
   cases q.int
   cases q'.int
   exact qX pins s σ H _ us Q I r ⟨_,_,rfl,by assumption,λt ht=>p'.at (Ext.new ht) (RD.newTup hS ht (.cons RD.mkI (.cons RD.mkI .nil))) (hS.new ht)⟩
  ·cases hz
 ·cases hz
noncomputable def yl:Sto->List D->Option D
 | _,[.int i]=>some (.int i)
 | _,[.bl b]=>some (.int (if b then 1 else 0))
 | _,_=>none
theorem Di:bw X (.type "int") (xC X.K E yl):=by
 rintro pins s σ H xs us Q I r ⟨w,S,ds,hS,qs,p⟩
 obtain ⟨z,hz,p'⟩:=p.of
 clear p
 unfold yl at hz
 split at hz
 ·cases hz
  obtain ⟨v,rfl,q⟩:=qs.one_inv
  cases q.int
  exact nR pins s σ H _ us Q I r (.inl ⟨_,rfl,p'.ret RD.mkI hS⟩)
 ·cases hz
  obtain ⟨v,rfl,q⟩:=qs.one_inv
  cases q.bl
  exact nR pins s σ H _ us Q I r (.inr ⟨_,rfl,p'.ret RD.mkI hS⟩)
 ·cases hz
noncomputable def dF:Sto->List D->Option D
 | _,[.tup a]=>some (.tup a)
 | S,[d]=>(bS S d).map .tup
 | _,_=>none
theorem fB:bw X (.type "tuple") (xC X.K E dF):=by
 rintro pins s σ H xs us Q I r ⟨w,S,ds,hS,qs,p⟩
 obtain ⟨z,hz,p'⟩:=p.of
 clear p
 unfold dF at hz
 split at hz
 ·cases hz
  obtain ⟨v,rfl,q⟩:=qs.one_inv
  obtain ⟨pa,vs,rfl,za,ra⟩:=q.tupI
  exact jh pins s σ H _ us Q I r ⟨pa,vs,rfl,.inr ⟨cz za,p'.ret (jL za ra) hS⟩⟩
 ·rename_i d hd
  obtain ⟨v,rfl,q⟩:=qs.one_inv
  cases ha:bS S d with
  | none=>rw [ha] at hz; cases hz
  | some a=>
   rw [ha] at hz
   cases hz
   have hq:∃ pa vs,v=.ref pa/\SqL X.K H pa vs/\RDs X.K w H a vs:=by
    unfold bS at ha
    split at ha
    ·exact (hd _ rfl).elim
    ·cases ha; obtain ⟨p,vs,e,z,r⟩:=q.lstI; exact ⟨p,vs,e,SqL.of z.1,r⟩
    ·cases ha; obtain ⟨p,vs,e,z,r⟩:=q.fzI; exact ⟨p,vs,e,z.sq,r⟩
    ·split at ha
     ·rename_i n b hn
      cases ha
      obtain ⟨p,e,hp⟩:=q.refI
      obtain ⟨p2,hp2,vs,hv,rk⟩:=hS.obj _ _ hn
      rw [hp] at hp2; cases hp2
      exact ⟨p,vs,e,SqL.of hv,rk⟩
     ·rename_i n b hn
      cases ha
      obtain ⟨p,e,hp⟩:=q.refI
      obtain ⟨p2,hp2,o,vs,hv,rk⟩:=hS.obj _ _ hn
      rw [hp] at hp2; cases hp2
      exact ⟨p,vs,e,.inl (.inr ⟨o,hv⟩),rk⟩
     ·cases ha
    ·cases ha
   obtain ⟨pa,vs,rfl,sq,ra⟩:=hq
   exact jh pins s σ H _ us Q I r ⟨pa,vs,rfl,.inl ⟨sq,λt ht=>p'.at (Ext.new ht) (RD.newTup hS ht ra) (hS.new ht)⟩⟩
 ·cases hz
end
section
variable {X:Cx} {E:XK}
noncomputable def boolsOf:List D->Option (List Bool)
 | []=>some []
 | .bl b :: r=>(boolsOf r).map (b :: ·)
 | _ :: _=>none
noncomputable def gx:Sto->List D->Option D
 | _,[.lst a]=>(boolsOf a).map λbs=>.bl (bs.all id)
 | _,_=>none
theorem rH {K:PySem.W.Frag} :∀ {ds:List D} {vs:List V} {us:List Value} {bs:List Bool},RDs K w H ds vs->Vals vs us->boolsOf ds=some bs->LSm.BoolsAre us bs
 | [],_,_,_,q,r,h=>by
  rw [q.nil_inv] at r
  cases r
  unfold boolsOf at h
  cases h
  exact .nil
 | d :: ds,_,_,bs,q,r,h=>by
  obtain ⟨v,vs,rfl,p,t⟩:=q.cons_inv
  cases d with
  | bl b=>
   unfold boolsOf at h
   cases e:boolsOf ds with
   | none=>rw [e] at h; cases h
   | some cs=>
    rw [e] at h; cases h
    cases p.bl
    cases r with
    | cons r1 r2=>
     cases r1
     exact .cons b (rH t r2 e)
  | _=>unfold boolsOf at h; cases h
theorem iy (hc:X.calm=true):bw X (.builtin "all") (xC X.K E gx):=by
 rintro pins s σ H xs us Q I r ⟨w,S,ds,hS,qs,p⟩
 obtain ⟨z,hz,p'⟩:=p.of
 clear p
 unfold gx at hz
 split at hz
 ·rename_i a
  cases e:boolsOf a with
  | none=>rw [e] at hz; cases hz
  | some bs=>
   rw [e] at hz; cases hz
   obtain ⟨v,rfl,q⟩:=qs.one_inv
   obtain ⟨pa,vs,rfl,za,ra⟩:=q.lstI
   obtain ⟨u,rfl,ru⟩:=W9 r
   cases ru
   obtain ⟨its,r1,⟨o,n,ho,hcl,hdn,hd⟩,_⟩:=I.list (SqL.of za.1)
   have hb:=rH ra r1 e
   have hlt:pa < s.heap.objs.size:=Jk ho
   have hl:s.heap.IsList pa its.toArray:=⟨o,ho,hcl,n,hd⟩
   refine call_all_walk (Zp hl ?_)
   refine ⟨s.heap.objs.size,[s.heap.objs.size,pa],[s.heap.objs.size],its.toArray.size,_,_,λi=>(bs[i]?).getD true,rfl,Vq (A:=X.A.in1) (I.ok.hd hc) _ pa (Jt hlt) its.toArray,
    ⟨⟨_,Ji _ rfl,rfl,rfl⟩,hl.push _⟩,λi v s' Q' E' hP hQ=>?_,λh' tk hk=>?_⟩
   ·obtain ⟨b,e,rfl⟩:=hb.get i v (by simpa using hP)
    simp only [e,Option.getD_some] at hQ
    exact Zo hQ
   ·have e:((List.range its.toArray.size).all λi=>(bs[i]?).getD true)=bs.all id:=by
     rw [Ju,hb.length]; exact LSm.range_all bs
    rw [e]
    exact ⟨.bl _,H,I.kept (Wf hk),rfl,p'.ret RD.mkB hS⟩
 ·cases hz
noncomputable def tyD (S:Sto):D->Option String
 | .non=>some "NoneType"
 | .bl _=>some "bool"
 | .int _=>some "int"
 | .str _=>some "str"
 | .tup _=>some "tuple"
 | .lst _=>some "list"
 | .fz _=>none
 | .dic _=>some "dict"
 | .ref n=>match S[n]? with
  | some (.lst _)=>some "list"
  | some (.dic _)=>some "dict"
  | _=>none
 | .ty _=>none
 | .exc _=>none
 | .cls _=>none
noncomputable def gf:List String:=["int","bool","tuple","str","list","dict"]
noncomputable def ie:Sto->List D->Option D
 | S,[d,.ty T]=>match tyD S d with
  | some t=>if T ∈ gf then some (.bl (t == T || (t == "bool" && T == "int"))) else none
  | none=>none
 | _,_=>none
theorem Dj (K:PySem.W.Frag) {t:String} (ht:t ∈ ["NoneType","bool","int","str","tuple","list","dict"]) (hT:T ∈ gf):PySem.W.kitOne K (.type t) (.type T)=some (t == T || (t == "bool" && T == "int")):=by
 unfold gf at hT
 simp only [Jg,Jz,Z2] at ht hT
 rcases ht with rfl | rfl | rfl | rfl | rfl | rfl | rfl <;> rcases hT with rfl | rfl | rfl | rfl | rfl | rfl <;> first | rfl | (with_unfolding_all rfl) | (unfold PySem.W.kitOne PySem.W.kitCls; with_unfolding_all decide)
theorem AF {K:PySem.W.Frag} {d:D} {v:V} {t:String} (hS:RS K w H S) (q:RD K w H d v) (h:tyD S d=some t) (hk:∀ a vs,¬ rn K a vs \/ True):
  (L2.TyOf K H v (.type t) \/ ∃ a vs,v=.ref a/\t = "tuple"/\rn K a vs)/\t ∈ ["NoneType","bool","int","str","tuple","list","dict"]:=by
 cases d with
 | non=>cases q.non; cases h; exact ⟨.inl .non,by simp⟩
 | bl b=>cases q.bl; cases h; exact ⟨.inl (.bl b),by simp⟩
 | int i=>cases q.int; cases h; exact ⟨.inl (.int i),by simp⟩
 | str x=>cases q.str; cases h; exact ⟨.inl (.str x),by simp⟩
 | tup ds=>
  obtain ⟨p,vs,rfl,z,_⟩:=q.tupI
  cases h
  refine ⟨?_,by simp⟩
  rcases z with z | z
  ·exact .inl (.tup z.1)
  ·exact .inr ⟨p,vs,rfl,rfl,z⟩
 | lst ds=>obtain ⟨p,vs,rfl,z,_⟩:=q.lstI; cases h; exact ⟨.inl (.lst z.1),by simp⟩
 | fz ds=>cases h
 | dic kvs=>unfold RD at q; obtain ⟨p,us,rfl,z,_⟩:=q; cases h; exact ⟨.inl (.dK z.1),by simp⟩
 | ref n=>
  obtain ⟨p,rfl,hp⟩:=q.refI
  unfold tyD at h
  simp only at h
  cases e:S[n]? with
  | none=>rw [e] at h; cases h
  | some o=>
   rw [e] at h
   obtain ⟨p',hp',r⟩:=hS.obj n o e
   rw [hp] at hp'; cases hp'
   cases o with
   | lst a=>cases h; obtain ⟨vs,hv,_⟩:=r; exact ⟨.inl (.lst hv),by simp⟩
   | dic a=>cases h; obtain ⟨vs,hv,_⟩:=r; exact ⟨.inl (.dK hv),by simp⟩
   | fdic a=>cases h
   | ins c fs=>cases h
   | flst a=>cases h
 | ty n=>cases h
 | exc c=>cases h
 | cls c=>cases h
theorem kG:bw X (.builtin "isinstance") (xC X.K E ie):=by
 rintro pins s σ H xs us Q I r ⟨w,S,ds,hS,qs,p⟩
 obtain ⟨z,hz,p'⟩:=p.of
 clear p
 unfold ie at hz
 split at hz
 ·rename_i d T
  split at hz
  ·rename_i t ht
   split at hz
   ·rename_i hT
    cases hz
    obtain ⟨v,u,rfl,q,q'⟩:=qs.two_inv
    unfold RD at q'
    subst q'
    obtain ⟨v1,v2,rfl,rv,rt⟩:=vals2 r
    cases (show v2=Value.type T from rt)
    obtain ⟨ty,hm⟩:=AF hS q ht λ_ _=>.inr trivial
    have kk:=Dj X.K hm hT
    rcases ty with ty | ⟨a,vs,rfl,rfl,kt⟩
    ·exact wA I rv ty kk λtk=>⟨.bl _,H,I.tok tk,rfl,p'.ret RD.mkB hS⟩
    ·cases (show v1=Value.ref a from rv)
     obtain ⟨o,its,n,e,hcl,_⟩:=kt
     exact Ze PySem.W.kitx_tuple I.kIn ⟨o,I.kIn _ _ e,hcl⟩ kk (λz=>nomatch z) λtk=>⟨.bl _,H,I.tok tk,rfl,p'.ret RD.mkB hS⟩
   ·cases hz
  ·cases hz
 ·cases hz
noncomputable def ym:Sto->D->D->D->Option Sto
 | S,.ref n,.int i,v=>match S[n]? with
  | some (.lst a)=>(ixN a.length i).map λj=>S.set n (.lst (a.set j v))
  | _=>none
 | _,_,_,_=>none
theorem yn:oY X (xS X.K ym):=by
 rintro pins s σ H o i v ov iv u Q I ro ri ru ⟨w,S,x,y,z,S',hS,qx,qy,qz,hf,k⟩
 unfold ym at hf
 split at hf
 ·rename_i n j
  split at hf
  ·rename_i a hn
   cases e:ixN a.length j with
   | none=>rw [e] at hf; cases hf
   | some m=>
    rw [e] at hf; cases hf
    obtain ⟨p,rfl,hp⟩:=qx.refI
    cases qy.int
    obtain ⟨p',hp',vs,hv,ra⟩:=hS.obj _ _ hn
    rw [hp] at hp'; cases hp'
    have hm:p ∈ w.st:=Z1 hp
    refine set_list pins s σ H _ _ _ ov iv u Q I ro ri ru ⟨p,vs,j,m,rfl,rfl,hv,by rw [ra.length]; exact e,k w _ (Ext.mut hm hv) ?_⟩
    exact hS.mut hp hv ⟨_,aK,RDs.ext (Ext.mut hm hv) _ _ (RDs.set qz m ra)⟩
  ·cases hf
 ·cases hf
noncomputable def xM (K:PySem.W.Frag) (E:XK) (f:Sto->D->List D->R D):V->List V->Hp->VK->Prop:=λx xs H Q=>∃ w S d ds,RS K w H S/\RD K w H d x/\RDs K w H ds xs/\aE K E (RD K) w H (f S d ds) Q
noncomputable def isL (S:Sto):D->Bool
 | .lst _=>true
 | .fz _=>true
 | .ref n=>match S[n]? with
  | some (.lst _)=>true
  | _=>false
 | _=>false
theorem Dk {K:PySem.W.Frag} {d:D} {v:V} (hS:RS K w H S) (q:RD K w H d v) (h:isL S d=true):tyV K "list" v H:=by
 cases d with
 | lst ds=>obtain ⟨p,vs,rfl,z,_⟩:=q.lstI; exact .inl ⟨rfl,vs,SqL.of z.1⟩
 | fz ds=>obtain ⟨p,vs,rfl,z,_⟩:=q.fzI; exact .inl ⟨rfl,vs,z.sq⟩
 | ref n=>
  obtain ⟨p,rfl,hp⟩:=q.refI
  unfold isL at h
  simp only at h
  cases e:S[n]? with
  | none=>rw [e] at h; cases h
  | some o=>
   rw [e] at h
   cases o with
   | lst a=>
    obtain ⟨p',hp',vs,hv,_⟩:=hS.obj n _ e
    rw [hp] at hp'; cases hp'
    exact .inl ⟨rfl,vs,SqL.of hv⟩
   | _=>cases h
 | _=>cases h
noncomputable def ly (f:Sto->D->List D->R D) (o:EM) (t:AM):EM:=λr S=>(o r S).bind λx S1=>if isL S1 x=true then (t r S1).bind λys S2=>f S2 x ys else .bad
theorem pP {o e:Expr} {es:List Expr} {mo:EM} {ms:AM} {name:Str} {apos cpos:Pos} {id:String} {f:Sto->D->List D->R D} (pa:PlainAttrs "list") (slot:Slot "list" name id) (hty:typeOf (.builtin id)=pure (.type "method_descriptor")) (hm:MtR X id (xM X.K E f))
  (ho:SE X E o mo) (ha:SA X E (e :: es) ms) (hbase:autoParam (attributeBase o name X.env (eval o X.env)=eval o X.env) Au.h0._auto_1)
  (hfew:autoParam (((backTo cpos (starEach (e :: es) X.env)).all (λx=>!x.1) && (backToKw cpos (keywordEach [] X.env)).all (λx=>x.1.isSome)
   && decide ((e :: es).length + ([]:List Keyword).length + (if ([]:List Keyword).isEmpty then 0 else 1) < 30))=true) Au.h0._auto_1)
  (hline:autoParam ((apos.endLine == cpos.line)=true) Au.h0._auto_1) (hs:autoParam (starEach (e :: es) X.env=(false,eval e X.env) :: starEach es X.env) Au.h0._auto_1) (hplain:autoParam ((backTo cpos (starEach es X.env)).any (·.1)=false) Au.h0._auto_1):
  SE X E (.Call (.Attribute o name apos) (e :: es) [] cpos) (ly f mo ms):=⟨
 aY (EO pa slot hty hm ho.out ha.out hbase hfew hline hs hplain) λs H Q zq=>ex6 zq λw r S hr hS hp=>⟨w,r,S,hr,hS,hp.bind hS λd S1 w1 H1 v x1 q1 s1 p1=>by
  by_cases hl:isL S1 d=true
  ·rw [J8 hl] at p1
   exact ⟨Dk s1 q1 hl,w1,r,S1,hr.ext x1,s1,p1.bind s1 λds S2 w2 H2 us x2 q2 s2 p2=>⟨w2,S2,d,ds,s2,RD.ext x2 _ _ q1,q2,p2⟩⟩
  ·rw [Jc hl] at p1
   exact p1.elim⟩⟩
noncomputable def cK:Sto->D->List D->R D
 | S,.ref n,[v]=>match S[n]? with
  | some (.lst a)=>if a.length < sizeLine then .ok .non (S.set n (.lst (a ++ [v]))) else .bad
  | _=>.bad
 | _,_,_=>.bad
theorem iT:MtR X "list.append" (xM X.K E cK):=by
 rintro pins s σ H x xs v us Q I rx rs ⟨w,S,d,ds,hS,qd,qs,p⟩
 unfold cK at p
 split at p
 ·rename_i n y
  split at p
  ·rename_i a hn
   split at p
   ·rename_i hl
    obtain ⟨pp,rfl,hp⟩:=qd.refI
    obtain ⟨yv,rfl,qy⟩:=qs.one_inv
    obtain ⟨p',hp',vs,hv,ra⟩:=hS.obj _ _ hn
    rw [hp] at hp'; cases hp'
    have hm:pp ∈ w.st:=Z1 hp
    refine nY pins s σ H _ _ v us Q I rx rs ⟨pp,vs,yv,rfl,rfl,hv,by rw [ra.length]; exact hl,p.at (Ext.mut hm hv) (by unfold RD; rfl) ?_⟩
    exact hS.mut hp hv ⟨_,aK,RDs.ext (Ext.mut hm hv) _ _ (ra.append (.cons qy .nil))⟩
   ·exact p.elim
  ·exact p.elim
 ·exact p.elim
end
noncomputable def yo:Sum Int Str->PyData
 | .inl i=>.int i
 | .inr x=>.str x
mutual
noncomputable def toPy:D->Option PyData
 | .non=>some .none
 | .bl b=>some (.bool b)
 | .int i=>some (.int i)
 | .str x=>some (.str x)
 | .tup ds=>(eN ds).map .tuple
 | .lst ds=>(eN ds).map .list
 | .dic kvs=>(hJ kvs).map .dict
 | .fz _=>none
 | .ref _=>none
 | .ty _=>none
 | .exc _=>none
 | .cls _=>none
noncomputable def eN:List D->Option (List PyData)
 | []=>some []
 | d :: ds=>match toPy d,eN ds with
  | some p,some q=>some (p :: q)
  | _,_=>none
noncomputable def hJ:List (Sum Int Str × D)->Option (List (PyData × PyData))
 | []=>some []
 | (k,d) :: r=>match toPy d,hJ r with
  | some p,some q=>some ((yo k,p) :: q)
  | _,_=>none
end
mutual
noncomputable def noL:D->Bool
 | .tup ds=>AG ds
 | .lst _=>false
 | .dic kvs=>AH kvs
 | _=>true
noncomputable def AG:List D->Bool
 | []=>true
 | d :: ds=>noL d && AG ds
noncomputable def AH:List (Sum Int Str × D)->Bool
 | []=>true
 | (_,d) :: r=>noL d && AH r
end
section
variable {X:Cx} {E:XK}
mutual
theorem gy {σ:L2.St} (I:Inv X pins σ H s):∀ (d:D) (v:V) (u:Value) (p:PyData),RD X.K w H d v->RelV v u->toPy d=some p->∃ as,Reads s.heap u p as/\(noL d=true->sysModules ∉ as)
 | .non,v,u,p,q,r,h=>by cases q.non; cases (show u=Value.none from r); unfold toPy at h; cases h; exact ⟨_,.none,λ_ z=>nomatch z⟩
 | .bl b,v,u,p,q,r,h=>by cases q.bl; cases (show u=Value.bool b from r); unfold toPy at h; cases h; exact ⟨_,.bool b,λ_ z=>nomatch z⟩
 | .int i,v,u,p,q,r,h=>by cases q.int; obtain ⟨t,rfl⟩:=(show ∃ t,u=Value.int i t from r); unfold toPy at h; cases h; exact ⟨_,.int i t,λ_ z=>nomatch z⟩
 | .str x,v,u,p,q,r,h=>by cases q.str; obtain ⟨t,rfl⟩:=(show ∃ t,u=Value.str x t from r); unfold toPy at h; cases h; exact ⟨_,.str x t,λ_ z=>nomatch z⟩
 | .tup ds,v,u,p,q,r,h=>by
  obtain ⟨a,vs,rfl,z,rs⟩:=q.tupI
  cases (show u=Value.ref a from r)
  unfold toPy at h
  cases e:eN ds with
  | none=>rw [e] at h; cases h
  | some ps=>
   rw [e] at h; cases h
   obtain ⟨its,r1,⟨o,ho,hc,n,hd⟩,_⟩:=I.tuple (cz z)
   obtain ⟨as,ra,hn⟩:=kH I ds vs its ps rs r1 e
   exact ⟨as,.tuple ho hc hd ra,λz=>hn (by unfold noL at z; exact z)⟩
 | .lst ds,v,u,p,q,r,h=>by
  obtain ⟨a,vs,rfl,z,rs⟩:=q.lstI
  cases (show u=Value.ref a from r)
  unfold toPy at h
  cases e:eN ds with
  | none=>rw [e] at h; cases h
  | some ps=>
   rw [e] at h; cases h
   obtain ⟨its,r1,⟨o,n,ho,hc,_,hd⟩,_⟩:=I.list (SqL.of z.1)
   obtain ⟨as,ra,hn⟩:=kH I ds vs its ps rs r1 e
   exact ⟨a :: as,.list ho hc hd ra,λz=>by unfold noL at z; cases z⟩
 | .dic kvs,v,u,p,q,r,h=>by
  unfold RD at q
  obtain ⟨a,us,rfl,z,rk⟩:=q
  cases (show u=Value.ref a from r)
  unfold toPy at h
  cases e:hJ kvs with
  | none=>rw [e] at h; cases h
  | some ps=>
   rw [e] at h; cases h
   obtain ⟨_,hsys,vs,kv,o,es,ep,ho,hex,hd,_,hp,_⟩:=(show bL X.prog X.w H s.heap a (.dK us) from I.hok a _ z.1)
   obtain ⟨as,bs,ra,rb,hn⟩:=oh I kvs us vs es.toList ps rk kv hp e
   refine ⟨a :: as ++ bs,.dict ho hex.1 hd ra rb,λz=>?_⟩
   unfold noL at z
   intro hm
   rcases Jp.mp hm with hm | hm
   ·rcases Jg.mp hm with hm | hm
    ·rw [<- hm] at hsys; simp at hsys
    ·exact (hn z).1 hm
   ·exact (hn z).2 hm
 | .fz _,_,_,_,_,_,h=>by unfold toPy at h; cases h
 | .ref _,_,_,_,_,_,h=>by unfold toPy at h; cases h
 | .ty _,_,_,_,_,_,h=>by unfold toPy at h; cases h
 | .exc _,_,_,_,_,_,h=>by unfold toPy at h; cases h
 | .cls _,_,_,_,_,_,h=>by unfold toPy at h; cases h
theorem kH {σ:L2.St} (I:Inv X pins σ H s):∀ (ds:List D) (vs:List V) (us:List Value) (ps:List PyData),RDs X.K w H ds vs->Vals vs us->eN ds=some ps->∃ as,ReadsAll s.heap us ps as/\(AG ds=true->sysModules ∉ as)
 | [],vs,us,ps,q,r,h=>by
  rw [q.nil_inv] at r
  cases r
  unfold eN at h
  cases h
  exact ⟨_,.nil,λ_ z=>nomatch z⟩
 | d :: ds,_,us,ps,q,r,h=>by
  obtain ⟨v,vs,rfl,p,t⟩:=q.cons_inv
  unfold eN at h
  cases e1:toPy d with
  | none=>rw [e1] at h; cases h
  | some p1=>
   cases e2:eN ds with
   | none=>rw [e1,e2] at h; cases h
   | some p2=>
    rw [e1,e2] at h; cases h
    cases r with
    | cons r1 r2=>
     obtain ⟨as,ra,h1⟩:=gy I d v _ p1 p r1 e1
     obtain ⟨bs,rb,h2⟩:=kH I ds vs _ p2 t r2 e2
     refine ⟨as ++ bs,.cons ra rb,λz=>?_⟩
     unfold AG at z
     rw [Yl] at z
     intro hm
     rcases Jp.mp hm with hm | hm
     ·exact h1 z.1 hm
     ·exact h2 z.2 hm
theorem oh {σ:L2.St} (I:Inv X pins σ H s):∀ (ds:List (Sum Int Str × D)) (us:List (Key × V)) (vs:List (Key × Value)) (es:List DictEntry) (ps:List (PyData × PyData)),RDk X.K w H ds us->KV us vs->Pairs (aQ X.prog X.w) es vs->hJ ds=some ps->
  ∃ as bs,ReadsAll s.heap (es.map (·.key)) (ps.map (·.1)) as/\ReadsAll s.heap (es.map (·.val)) (ps.map (·.2)) bs/\(AH ds=true->sysModules ∉ as/\sysModules ∉ bs)
 | [],us,vs,es,ps,q,r,hp,h=>by
  unfold RDk at q
  subst q
  cases r
  unfold hJ at h
  cases h
  cases hp
  exact ⟨_,_,.nil,.nil,λ_=>⟨(λz=>nomatch z),(λz=>nomatch z)⟩⟩
 | (k,d) :: ds,us,vs,es,ps,q,r,hp,h=>by
  unfold RDk at q
  obtain ⟨v,ur,rfl,p,t⟩:=q
  unfold hJ at h
  cases e1:toPy d with
  | none=>rw [e1] at h; cases h
  | some p1=>
   cases e2:hJ ds with
   | none=>rw [e1,e2] at h; cases h
   | some p2=>
    rw [e1,e2] at h; cases h
    cases r with
    | cons r1 r2=>
     cases hp with
     | cons hk hv hr=>
      rename_i q0 vr e0 es0
      obtain ⟨k',v'⟩:=q0
      obtain ⟨ek,rv⟩:=r1
      have ek':k=k':=ek
      subst ek'
      obtain ⟨as,ra,h1⟩:=gy I d v _ p1 p rv e1
      obtain ⟨as2,bs2,ra2,rb2,h2⟩:=oh I ds ur vr es0 p2 t r2 hr e2
      have hkey:∃ cs,Reads s.heap e0.key (yo k) cs/\cs=[]:=by
       rcases bH hk with ⟨i,tk,z1,z2⟩ | ⟨x,tk,z1,z2⟩
       ·have z1':k=Sum.inl i:=z1
        subst z1'
        rw [z2]
        exact ⟨_,.int i tk,rfl⟩
       ·have z1':k=Sum.inr x:=z1
        subst z1'
        rw [z2]
        exact ⟨_,.str x tk,rfl⟩
      obtain ⟨cs,rc,ec⟩:=hkey
      subst ec
      have hv':e0.val=v':=hv
      refine ⟨[] ++ as2,as ++ bs2,.cons rc ra2,.cons (by show Reads s.heap e0.val p1 as; rw [hv']; exact ra) rb2,λz=>?_⟩
      unfold AH at z
      rw [Yl] at z
      refine ⟨by rw [Z4]; exact (h2 z.2).1,λhm=>?_⟩
      rcases Jp.mp hm with hm | hm
      ·exact h1 z.1 hm
      ·exact (h2 z.2).2 hm
end
end
section
variable {K:PySem.W.Frag} {w:Wd} {H:Hp}
structure Mv (w:Wd) (H:Hp) (w2:Wd) (H2:Hp):Prop where
 st:∀ (n:Nat) (a:Addr),w.st[n]?=some a->w2.st[n]?=some a
 at_:∀ a o,At w H a o->At w2 H2 a o
mutual
theorem RD.mv (x:Mv w H w2 H2):∀ (d:D) (v:V),RD K w H d v->RD K w2 H2 d v
 | .non,_,h=>h
 | .bl _,_,h=>h
 | .int _,_,h=>h
 | .str _,_,h=>h
 | .tup ds,v,h=>by
  unfold RD at h ⊢
  obtain ⟨a,vs,e,p,r⟩:=h
  exact ⟨a,vs,e,p.imp (x.at_ _ _) id,RDs.mv x ds vs r⟩
 | .lst ds,v,h=>by
  unfold RD at h ⊢
  obtain ⟨a,vs,e,p,r⟩:=h
  exact ⟨a,vs,e,x.at_ _ _ p,RDs.mv x ds vs r⟩
 | .fz ds,v,h=>by
  unfold RD at h ⊢
  obtain ⟨a,vs,e,p,r⟩:=h
  exact ⟨a,vs,e,p.imp (λ⟨o,z⟩=>⟨o,x.at_ _ _ z⟩) id,RDs.mv x ds vs r⟩
 | .dic kvs,v,h=>by
  unfold RD at h ⊢
  obtain ⟨a,us,e,p,r⟩:=h
  exact ⟨a,us,e,x.at_ _ _ p,RDk.mv x kvs us r⟩
 | .ref n,v,h=>by
  unfold RD at h ⊢
  obtain ⟨a,e,p⟩:=h
  exact ⟨a,e,x.st n a p⟩
 | .ty _,_,h=>h
 | .exc c,v,h=>by
  unfold RD at h ⊢
  obtain ⟨a,C,o,e,q,p⟩:=h
  exact ⟨a,C,o,e,q,x.at_ _ _ p⟩
 | .cls _,_,h=>h
theorem RDs.mv (x:Mv w H w2 H2):∀ (ds:List D) (vs:List V),RDs K w H ds vs->RDs K w2 H2 ds vs
 | [],_,h=>h
 | d :: ds,vs,h=>by
  unfold RDs at h ⊢
  obtain ⟨v,r,e,p,q⟩:=h
  exact ⟨v,r,e,RD.mv x d v p,RDs.mv x ds r q⟩
theorem RDk.mv (x:Mv w H w2 H2):∀ (ds:List (Sum Int Str × D)) (vs:List (Key × V)),RDk K w H ds vs->RDk K w2 H2 ds vs
 | [],_,h=>h
 | (k,d) :: ds,vs,h=>by
  unfold RDk at h ⊢
  obtain ⟨v,r,e,p,q⟩:=h
  exact ⟨v,r,e,RD.mv x d v p,RDk.mv x ds r q⟩
end
theorem RO.mv (x:Mv w H w2 H2) {o:SO} (hk:∀ u,H a=some u->H2 a=some u) (r:RO K w H a o):RO K w2 H2 a o:=by
 cases o with
 | lst ds=>obtain ⟨vs,e,q⟩:=r; exact ⟨vs,hk _ e,RDs.mv x _ _ q⟩
 | dic kvs=>obtain ⟨vs,e,q⟩:=r; exact ⟨vs,hk _ e,RDk.mv x _ _ q⟩
 | fdic kvs=>obtain ⟨o,vs,e,q⟩:=r; exact ⟨o,vs,hk _ e,RDk.mv x _ _ q⟩
 | ins c fs=>obtain ⟨C,dx,us,n,e,q1,q2⟩:=r; exact ⟨C,dx,us,n,hk _ e,q1,RDs.mv x _ _ q2⟩
 | flst ds=>obtain ⟨o,vs,e,q⟩:=r; exact ⟨o,vs,hk _ e,RDs.mv x _ _ q⟩
theorem RSt.mv {s:L2.St} (x:Mv w H w2 H2) (h:RSt K w H r s):RSt K w2 H2 r s:=
 ⟨h.1,λi d e=>let ⟨v,e1,q⟩:=h.2 i d e; ⟨v,e1,RD.mv x d v q⟩⟩
theorem Ext.hide (hp:H p=none):Ext w H (w.hide p) (upd H p o):=
 ⟨λa u e _=>by rw [aL (aO e hp)]; exact e,⟨[],by simp [Wd.hide],λ_ z=>nomatch z⟩,λa h=>Yb _ h,λa h=>(Jg.mp h).elim (λe=>.inr (e ▸ hp)) .inl,λa o u e=>by rw [aL (aO e hp)]; exact e⟩
noncomputable def Wd.unhide (w:Wd) (p:Addr):Wd:=⟨w.st,w.hid.filter λa=>decide (a ≠ p)⟩
theorem Wd.mem_unhide (h:a ∈ (w.unhide p).hid):a ∈ w.hid/\a ≠ p:=⟨(Y2.mp h).1,Yy (Y2.mp h).2⟩
theorem Mv.write (hp:p ∈ w.hid):Mv w H w (upd H p o):=
 ⟨λ_ _ z=>z,λa u h=>⟨by rw [aL (λz:a=p=>h.2.2 (z ▸ hp))]; exact h.1,h.2⟩⟩
theorem Mv.unhide:Mv w H (w.unhide p) H:=
 ⟨λ_ _ z=>z,λa u h=>⟨h.1,h.2.1,λz=>h.2.2 (Wd.mem_unhide z).1⟩⟩
theorem RS.hide (s:RS K w H S) (hp:H p=none):RS K (w.hide p) (upd H p o) S:=by
 refine ⟨s.nd,s.len,λn so e=>?_,λa ha=>?_⟩
 ·obtain ⟨a,ha,r⟩:=s.obj n so e
  exact ⟨a,ha,r.ext (Ext.hide hp) λu z=>by rw [aL (aO z hp)]; exact z⟩
 ·rcases Jg.mp ha with z | z
  ·subst z; exact ⟨s.freshS hp,o,aK⟩
  ·obtain ⟨h1,u,e⟩:=s.hid a z
   exact ⟨h1,u,by rw [aL (aO e hp)]; exact e⟩
theorem RS.write (s:RS K w H S) (hp:p ∈ w.hid):RS K w (upd H p o) S:=by
 have np:=(s.hid p hp).1
 refine ⟨s.nd,s.len,λn so e=>?_,λa ha=>?_⟩
 ·obtain ⟨a,ha,r⟩:=s.obj n so e
  have:a ≠ p:=λz=>np (z ▸ Z1 ha)
  exact ⟨a,ha,r.mv (Mv.write hp) λu z=>by rw [aL this]; exact z⟩
 ·obtain ⟨h1,u,e⟩:=s.hid a ha
  by_cases z:a=p
  ·subst z; exact ⟨h1,o,aK⟩
  ·exact ⟨h1,u,by rw [aL z]; exact e⟩
theorem RS.unhide (s:RS K w H S):RS K (w.unhide p) H S:=
 ⟨s.nd,s.len,λn so e=>by
  obtain ⟨a,ha,r⟩:=s.obj n so e
  exact ⟨a,ha,r.mv Mv.unhide λu z=>z⟩,λa ha=>s.hid a (Wd.mem_unhide ha).1⟩
theorem AI {s:L2.St} (k:Nat) (caps:List Nat) (h:RSt K w H r s):RSt K w H (eY k caps r) (mz k caps s):=by
 unfold eY mz
 refine ⟨by simp,λi d e=>?_⟩
 by_cases hi:i < k
 ·rw [Jq (by simpa using hi),Wc] at e
  split at e <;> cases e
 ·rw [Y5 (by simpa using hi),Yx,Wj] at e
  rw [Y5 (by simpa using hi),Yx,Wj]
  cases ec:caps[i - k]? with
  | none=>rw [ec] at e; cases e
  | some j=>
   rw [ec] at e
   have e':(r[j]?).join=some d:=Yd e
   have hj:r[j]?=some (some d):=by
    cases q:r[j]? with
    | none=>rw [q] at e'; cases e'
    | some o=>rw [q] at e'; rw [show o=some d from e']
   obtain ⟨v,ev,rv⟩:=h.2 j d hj
   exact ⟨v,by show some ((s[j]?).join)=some (some v); rw [ev]; rfl,rv⟩
end
abbrev SIf (X:Cx) (E:XK) (ifs:List Expr) (m:TM):Prop:=Bx (AB X ifs (uT X.K E m))
theorem cV {E:XK}:SIf X E [] bZ:=⟨λpins s σ H Q I zq=>ex6 zq λw r S hr hS hp=>ye pins s σ H Q I (hp.ret rfl hS)⟩
theorem vg {E:XK} {c:Expr} {m:TM} (h:ST X E c m):SIf X E [c] m:=⟨yf h.out⟩
theorem yp {E:XK} {elt tg iter:Expr} {ifs:List Expr} {pos:Pos} {k:Nat} {it:AM} {g:G} {mt:TM} {me:EM} (hX:Cd qb X) (hxe:∀ e s,¬ X.xe e s) (C:CompScope X N k caps scope)
  (hi:SIb qb X E tg iter it) (hg:∀ cl s0 H0 ex,Cd qb (cxC X N scope cl s0 H0 ex)->SG (cxC X N scope cl s0 H0 ex) tg g) (ht:∀ cl s0 H0 ex,Cd qb (cxC X N scope cl s0 H0 ex)->SIf (cxC X N scope cl s0 H0 ex) E ifs mt) (he:∀ cl s0 H0 ex,Cd qb (cxC X N scope cl s0 H0 ex)->SE (cxC X N scope cl s0 H0 ex) E elt me)
  (hs:autoParam (∀ x,foldedSetIterable iter X.env x=pure x) Au.h4._auto_1):SE X E (.ListComp elt [⟨tg,iter,ifs,0⟩] scope pos) (bB it k caps g mt me):=⟨
 aY (yg hX hxe C hi.out (g:=uG X.K g) (λcl s0 H0 ex z=>(hg cl s0 H0 ex z).out) (tt:=uT X.K E mt) (λcl s0 H0 ex z=>(ht cl s0 H0 ex z).out) (te:=uE X.K E me) (λcl s0 H0 ex z=>(he cl s0 H0 ex z).out) hs) λs H Q zq=>ex6 zq λw r S hr hS hp=>⟨w,r,S,hr,hS,hp.bind hS λds S1 w1 H1 J x1 q1 s1 p1=>by
  intro p hp
  have hr1:=hr.ext x1
  have pno:p ∉ w1.hid:=(s1.fresh hp).2
  have hz:ds.length<=sizeLine:=by
   rcases Ul sizeLine ds.length with z | z
   ·rw [Jc (by omega)] at p1; exact p1.elim
   ·exact z
  rw [J8 hz] at p1
  -- the list is made at p,which is hidden
  refine ⟨λi n s' H'=>n=ds.length - i/\i<=ds.length/\∃ w' r' S' ys vs,Ext w1 H1 w' H'/\p ∈ w'.hid/\RSt X.K w' H' r' s'/\RS X.K w' H' S'/\H' p=some (.lst vs)/\RDs X.K w' H' ys vs/\ys.length<=i/\
    aE X.K E (RD X.K) w1 H1 ((dk g mt me (ds.drop i) r' S').bind λzs S2=>R.ok (.lst (ys ++ zs)) S2) Q,
   ⟨ds.length,by simp,Y3 _,w1.hide p,eY k caps r,S1,[],[],Ext.hide hp,Ye,(AI k caps hr1).ext (Ext.hide hp),s1.hide hp,aK,.nil,Jb _,p1⟩,?_⟩
  rintro i n s2 H2 ⟨rfl,hi.out,w2,r2,S2,ys,vs,x2,hph,hr2,hS2,hpv,ry,hyl,hp2⟩
  have hpn:p ∉ w2.st:=(hS2.hid p hph).1
  by_cases hlt:i < ds.length
  ·obtain ⟨go,yld⟩:=(q1 i w2 H2 x2).1 hlt
   refine .inr ⟨go,λs' H'=>∃ w' r' S' ys vs,Ext w1 H1 w' H'/\p ∈ w'.hid/\RSt X.K w' H' r' s'/\RS X.K w' H' S'/\H' p=some (.lst vs)/\RDs X.K w' H' ys vs/\ys.length<=i + 1/\
     aE X.K E (RD X.K) w1 H1 ((dk g mt me (ds.drop (i + 1)) r' S').bind λzs S2=>R.ok (.lst (ys ++ zs)) S2) Q,
    λs' H' hN=>⟨ds.length - (i + 1),by omega,rfl,hlt,hN⟩,λx H3 hy=>?_⟩
   obtain ⟨gr,rd⟩:=yld x H3 hy
   obtain ⟨d,ed,qd⟩:=rd S2 hS2
   obtain ⟨x3,s3⟩:=rA gr hS2
   have hdrop:ds.drop i=d :: ds.drop (i + 1):=by
    rw [Qc hlt]
    rw [Ja hlt] at ed
    cases ed; rfl
   rw [hdrop] at hp2
   have hpv3:H3 p=some (.lst vs):=x3.keep _ _ hpv hpn
   have ry3:=RDs.ext x3 _ _ ry
   have x13:Ext w1 H1 w2 H3:=x2.trans' x3 s1 hS2
   unfold dk at hp2
   cases e:g.put d r2 with
   | none=>rw [e] at hp2; exact hp2.elim
   | some r3=>
    rw [e] at hp2
    refine ⟨w2,r2,d,r3,hr2.ext x3,qd,e,λs4 hr4=>⟨w2,r3,S2,hr4,s3,?_⟩⟩
    -- hp2:(mt r3 S2).bind .. |>.bind ..
    have hass:∀ {A B C:Type} (r:R A) (f:A->Sto->R B) (h:B->Sto->R C),(r.bind f).bind h=r.bind λa S=>(f a S).bind h:=λr f h=>by cases r <;> rfl
    simp only [hass] at hp2
    refine aE.bindAt (rel:=RB) hp2 x13 s1 s3 λc S5 w5 H5 c' x5 q5 s5 p5=>?_
    have ec:c'=c:=q5
    subst ec
    have x15:Ext w1 H1 w5 H5:=x13.trans' x5 s1 s3
    have hph5:p ∈ w5.hid:=x5.hid p hph
    have hpv5:H5 p=some (.lst vs):=x5.keep _ _ hpv3 hpn
    cases c' with
    | false=>
     refine pq ⟨w5,r3,S5,ys,vs,x15,hph5,hr4.ext x5,s5,hpv5,RDs.ext x5 _ _ ry3,Nat.le_succ_of_le hyl,p5⟩
    | true=>
     refine pz ⟨w5,r3,S5,hr4.ext x5,s5,?_⟩
     have p5':aE X.K E (RD X.K) w1 H1 (((me r3 S5).bind λy S2=>(dk g mt me (ds.drop (i + 1)) r3 S2).bind λys S3=>R.ok (y :: ys) S3).bind λzs S2=>R.ok (D.lst (ys ++ zs)) S2) Q:=p5
     simp only [hass] at p5'
     refine aE.bindAt (rel:=RD X.K) p5' x15 s1 s5 λy S6 w6 H6 yv x6 q6 s6 p6=>?_
     have x16:Ext w1 H1 w6 H6:=x15.trans' x6 s1 s5
     have hph6:p ∈ w6.hid:=x6.hid p hph5
     have hpn5:p ∉ w5.st:=(s5.hid p hph5).1
     have hpn6:p ∉ w6.st:=(s6.hid p hph6).1
     have hpv6:H6 p=some (.lst vs):=x6.keep _ _ hpv5 hpn5
     have ry6:=RDs.ext x6 _ _ (RDs.ext x5 _ _ ry3)
     refine ⟨vs,hpv6,by rw [ry6.length]; omega,w6,r3,S6,ys ++ [y],vs ++ [yv],⟨λa o h n=>?_,x16.sub,x16.hid,x16.hnew,λa o u h=>by have z:=x16.frz a o u h; rw [aL (λe:a=p=>by rw [e,hpv6] at z; cases z)]; exact z⟩,hph6,(hr4.ext x5).ext x6 |>.mv (Mv.write hph6),s6.write hph6,aK,(RDs.mv (Mv.write hph6) _ _ ry6).append (.cons (RD.mv (Mv.write hph6) _ _ q6) .nil),by simp; omega,?_⟩
     ·have:a ≠ p:=aO h hp
      rw [aL this]; exact x16.keep a o h n
     ·have he2:∀ zs:List D,(ys ++ [y]) ++ zs=ys ++ y :: zs:=λzs=>by simp
      simp only [he2]
      exact p6
  ·have e:i=ds.length:=by omega
   subst e
   rw [List.drop_length] at hp2
   refine .inl ⟨(q1 _ w2 H2 x2).2 (Jb _),?_⟩
   have hp3:aE X.K E (RD X.K) w1 H1 (R.ok (D.lst (ys ++ [])) S2) Q:=hp2
   rw [Yu] at hp3
   refine aE.at hp3 (w1:=w2.unhide p) ⟨x2.keep,x2.sub,λa h=>Y2.mpr ⟨x2.hid a h,Js λz=>pno (z ▸ h)⟩,λa h=>x2.hnew a (Wd.mem_unhide h).1,x2.frz⟩ ?_ hS2.unhide
   unfold RD
   exact ⟨p,vs,rfl,⟨hpv,hpn,λz=>(Wd.mem_unhide z).2 rfl⟩,RDs.mv Mv.unhide _ _ ry⟩⟩⟩
theorem cB {E:XK} {elt tg iter:Expr} {ifs:List Expr} {pos:Pos} {k:Nat} {it:AM} {g:G} {mt:TM} {me:EM} (hX:X.calm=true) (hxe:∀ e s,¬ X.xe e s) (C:CompScope X N k caps scope)
  (hi:SI X E tg iter it) (hg:∀ cl s0 H0 ex,SG (cxC X N scope cl s0 H0 ex) tg g) (ht:∀ cl s0 H0 ex,SIf (cxC X N scope cl s0 H0 ex) E ifs mt) (he:∀ cl s0 H0 ex,SE (cxC X N scope cl s0 H0 ex) E elt me)
  (hs:autoParam (∀ x,foldedSetIterable iter X.env x=pure x) Au.h4._auto_1):SE X E (.ListComp elt [⟨tg,iter,ifs,0⟩] scope pos) (bB it k caps g mt me):=yp (qb:=false) (.inl hX) hxe C hi (λa b c d _=>hg a b c d) (λa b c d _=>ht a b c d) (λa b c d _=>he a b c d) hs
noncomputable abbrev KD:=Sum Int Str
noncomputable def jd:D->Option KD
 | .int i=>some (.inl i)
 | .str x=>some (.inr x)
 | _=>none
noncomputable def putD (kvs:List (KD × D)) (k:KD) (d:D):List (KD × D):=
 if kvs.any (λkv=>decide (kv.1=k)) then kvs.map (λkv=>if kv.1=k then (kv.1,d) else kv) else kvs ++ [(k,d)]
noncomputable def du (kvs more:List (KD × D)):List (KD × D):=more.foldl (λacc kv=>putD acc kv.1 kv.2) kvs
noncomputable def jM:List (D × D)->Option (List (KD × D))
 | []=>some []
 | (k,v) :: r=>match jd k,jM r with
  | some k',some r'=>some ((k',v) :: r')
  | _,_=>none
noncomputable def pM:List (EM × EM)->Rho->Sto->R (List (D × D))
 | [],_,S=>.ok [] S
 | (a,b) :: t,r,S=>(a r S).bind λx S1=>(b r S1).bind λy S2=>(pM t r S2).bind λps S3=>.ok ((x,y) :: ps) S3
noncomputable def AJ (ms:List (EM × EM)):EM:=λr S=>(pM ms r S).bind λps S1=>match jM ps with
 | some kvs=>if kvs.length<=15 then .ok (.dic (du [] kvs)) S1 else .bad
 | none=>.bad
noncomputable def jl (ms:List (EM × EM)):EM:=λr S=>(pM ms r S).bind λps S1=>match jM ps with
 | some kvs=>if kvs.length<=15 then .ok (.ref S1.length) (S1 ++ [.dic (du [] kvs)]) else .bad
 | none=>.bad
section
variable {K:PySem.W.Frag} {w:Wd} {H:Hp}
theorem RDk.nil:RDk K w H [] []:=by unfold RDk; rfl
theorem RDk.cons {k:KD} {d:D} {v:V} {ds:List (KD × D)} {vs:List (Key × V)} (r:RD K w H d v) (q:RDk K w H ds vs):RDk K w H ((k,d) :: ds) ((k,v) :: vs):=by unfold RDk; exact ⟨v,vs,rfl,r,q⟩
theorem RDk.nil_inv {vs:List (Key × V)} (h:RDk K w H [] vs):vs=[]:=by unfold RDk at h; exact h
theorem RDk.cons_inv {k:KD} {d:D} {ds:List (KD × D)} {vs:List (Key × V)} (h:RDk K w H ((k,d) :: ds) vs):∃ v r,vs=(k,v) :: r/\RD K w H d v/\RDk K w H ds r:=by unfold RDk at h; exact h
theorem RDk.append:∀ {ds es:List (KD × D)} {vs us:List (Key × V)},RDk K w H ds vs->RDk K w H es us->RDk K w H (ds ++ es) (vs ++ us)
 | [],_,_,_,h,q=>by rw [h.nil_inv]; exact q
 | (_,_) :: _,_,_,_,h,q=>by
  obtain ⟨v,r,rfl,p,t⟩:=h.cons_inv
  exact .cons p (RDk.append t q)
theorem RDk.any:∀ {ds:List (KD × D)} {vs:List (Key × V)} (k:KD),RDk K w H ds vs->(ds.any λkv=>decide (kv.1=k))=(vs.any λkv=>decide (kv.1=k))
 | [],_,_,h=>by rw [h.nil_inv]; rfl
 | (_,_) :: _,_,k,h=>by
  obtain ⟨v,r,rfl,p,t⟩:=h.cons_inv
  rw [Q5,Q5,RDk.any k t]
theorem RDk.repl {d:D} {v:V} (r:RD K w H d v):∀ {ds:List (KD × D)} {vs:List (Key × V)} (k:KD),RDk K w H ds vs->RDk K w H (ds.map λkv=>if kv.1=k then (kv.1,d) else kv) (vs.map λkv=>if kv.1=k then (kv.1,v) else kv)
 | [],_,_,h=>by rw [h.nil_inv]; exact .nil
 | (j,_) :: _,_,k,h=>by
  obtain ⟨v',r',rfl,p,t⟩:=h.cons_inv
  simp only [Jn]
  by_cases hj:j=k
  ·rw [J8 hj,J8 hj]; exact .cons r (RDk.repl r k t)
  ·rw [Jc hj,Jc hj]; exact .cons p (RDk.repl r k t)
theorem RDk.put {ds:List (KD × D)} {vs:List (Key × V)} {d:D} {v:V} (q:RDk K w H ds vs) (k:KD) (r:RD K w H d v):RDk K w H (putD ds k d) (putK vs k v):=by
 unfold putD putK
 rw [q.any k]
 split
 ·exact q.repl r k
 ·exact q.append (.cons r .nil)
theorem RDk.merge:∀ {more:List (KD × D)} {mvs:List (Key × V)} {ds:List (KD × D)} {vs:List (Key × V)},RDk K w H more mvs->RDk K w H ds vs->RDk K w H (du ds more) (eh vs mvs)
 | [],_,_,_,h,q=>by rw [h.nil_inv]; exact q
 | (k,d) :: r,_,ds,vs,h,q=>by
  obtain ⟨v',r',rfl,p,t⟩:=h.cons_inv
  show RDk K w H (du (putD ds k d) r) (eh (putK vs k v') r')
  exact RDk.merge t (q.put k p)
theorem jN {d:D} {v:V} {k:KD} (q:RD K w H d v) (h:jd d=some k):v=kV k:=by
 cases d with
 | int i=>cases q.int; cases h; rfl
 | str x=>cases q.str; cases h; rfl
 | _=>cases h
noncomputable def RPs (K:PySem.W.Frag) (w:Wd) (H:Hp):List (D × D)->List (V × V)->Prop
 | [],vs=>vs=[]
 | (a,b) :: r,vs=>∃ x y t,vs=(x,y) :: t/\RD K w H a x/\RD K w H b y/\RPs K w H r t
theorem rJ:∀ {ps:List (D × D)} {vs:List (V × V)} {kvs:List (KD × D)},RPs K w H ps vs->jM ps=some kvs->∃ us:List (Key × V),vs=us.map (λkv=>(kV kv.1,kv.2))/\RDk K w H kvs us
 | [],_,_,h,e=>by
  have h':_=[]:=h
  subst h'
  unfold jM at e
  cases e
  exact ⟨[],rfl,.nil⟩
 | (a,b) :: r,_,kvs,h,e=>by
  obtain ⟨u,v,t,rfl,h1,h2,h3⟩:=h
  unfold jM at e
  cases e1:jd a with
  | none=>rw [e1] at e; cases e
  | some k=>
   cases e2:jM r with
   | none=>rw [e1,e2] at e; cases e
   | some r'=>
    rw [e1,e2] at e; cases e
    obtain ⟨us,rfl,q⟩:=rJ h3 e2
    exact ⟨(k,v) :: us,by rw [jN h1 e1]; rfl,.cons h2 q⟩
end
section
variable {X:Cx} {E:XK} {pos:Pos}
noncomputable def uPs (K:PySem.W.Frag) (E:XK) (ms:List (EM × EM)):List (TE × TE):=ms.map λp=>(uE K E p.1,uE K E p.2)
theorem B0 {A2 B2:Type} {K:PySem.W.Frag} {rel2:Wd->Hp->A2->B2->Prop} {w0:Wd} {H0:Hp} {S0:Sto} {Q:B2->Hp->Prop} (s0:RS K w0 H0 S0):∀ (ms:List (EM × EM)) {w:Wd} {H:Hp} {S:Sto} {r:Rho} {s:L2.St} {f:List (D × D)->Sto->R A2} {Q':List (V × V)->Hp->Prop},RSt K w H r s->RS K w H S->Ext w0 H0 w H->
  aE K E rel2 w0 H0 ((pM ms r S).bind f) Q->(∀ ps S1 w1 H1 vs,Ext w H w1 H1->RPs K w1 H1 ps vs->RS K w1 H1 S1->aE K E rel2 w0 H0 (f ps S1) Q->Q' vs H1)->pk (uPs K E ms) s H Q'
 | [],w,H,S,r,s,f,Q',hr,hS,x,hp,k=>k [] S w H [] (Ext.refl _ _) rfl hS hp
 | (a,b) :: t,w,H,S,r,s,f,Q',hr,hS,x,hp,k=>by
  have hass:∀ {A B C:Type} (r:R A) (f:A->Sto->R B) (h:B->Sto->R C),(r.bind f).bind h=r.bind λa S=>(f a S).bind h:=λr f h=>by cases r <;> rfl
  unfold pM at hp
  rw [hass] at hp
  refine ⟨w,r,S,hr,hS,aE.bindAt (rel:=RD K) hp x s0 hS λd S1 w1 H1 u x1 q1 s1 p1=>?_⟩
  rw [hass] at p1
  have x01:=x.trans' x1 s0 hS
  refine ⟨w1,r,S1,hr.ext x1,s1,aE.bindAt (rel:=RD K) p1 x01 s0 s1 λe S2 w2 H2 v x2 q2 s2 p2=>?_⟩
  rw [hass] at p2
  have x02:=x01.trans' x2 s0 s1
  exact B0 s0 t ((hr.ext x1).ext x2) s2 x02 p2 λps S3 w3 H3 vs x3 q3 s3 p3=>
   k ((d,e) :: ps) S3 w3 H3 ((u,v) :: vs) ((x1.trans' x2 hS s1).trans' x3 hS s2) ⟨u,v,vs,rfl,RD.ext x3 _ _ (RD.ext x2 _ _ q1),RD.ext x3 _ _ q2,q3⟩ s3 p3
abbrev SPs (X:Cx) (E:XK) (pos:Pos) (keys:List (Option Expr)) (values:List Expr) (ms:List (EM × EM)):Prop:=Bx (PPs X pos keys values (uPs X.K E ms))
theorem lN:SPs X E pos [] [] []:=⟨Aw⟩
theorem jO {k v:Expr} {ks:List (Option Expr)} {vs:List Expr} {mk mv:EM} {ms:List (EM × EM)} (hk:SE X E k mk) (hv:SE X E v mv) (hr:SPs X E pos ks vs ms):SPs X E pos (some k :: ks) (v :: vs) ((mk,mv) :: ms):=⟨xZ hk.out hv.out hr.out⟩
theorem wL {keys:List (Option Expr)} {values:List Expr} {ms:List (EM × EM)} {m:EM} {s:L2.St} {H:Hp} {Q:VK} {fin:List (KD × D)->Sto->R D}
  (hm:∀ r S,m r S=(pM ms r S).bind λps S1=>match jM ps with | some kvs=>if kvs.length<=15 then fin kvs S1 else .bad | none=>.bad)
  (hfin:∀ (kvs:List (KD × D)) (us:List (Key × V)) (w0 w:Wd) (H0 H:Hp) (S0 S:Sto) (p:Addr),H0 p=none->RS X.K w0 H0 S0->RS X.K w H S->Ext w0 H0 w H->p ∈ w.hid->RDk X.K w H (du [] kvs) (eh [] us)->aE X.K E (RD X.K) w0 H0 (fin kvs S) Q->Q (.ref p) (upd H p (.dK (eh [] us))))
  (h:uE X.K E m s H Q):BX (uPs X.K E ms) s H Q:=by
 obtain ⟨w,r,S,hr,hS,hp⟩:=h
 rw [hm] at hp
 intro p hpn
 refine B0 hS ms (hr.ext (Ext.hide hpn)) (hS.hide hpn) (Ext.hide hpn) hp λps S1 w1 H1 vs x1 q1 s1 p1=>?_
 have hh:p ∈ w1.hid:=x1.hid p Ye
 have hx:Ext w H w1 H1:=(Ext.hide hpn).trans' x1 hS (hS.hide hpn)
 refine ⟨x1.keep p _ aK ((hS.hide (o:=HO.dK []) hpn).hid p Ye).1,?_⟩
 cases e:jM ps with
 | none=>rw [e] at p1; exact p1.elim
 | some kvs=>
  rw [e] at p1
  obtain ⟨us,rfl,rk⟩:=rJ q1 e
  have hl:=rk.length
  by_cases hz:kvs.length<=15
  ·have p2:aE X.K E (RD X.K) w H (if kvs.length<=15 then fin kvs S1 else R.bad) Q:=p1
   rw [J8 hz] at p2
   exact ⟨us,rfl,by rw [hl]; exact hz,hfin kvs us w w1 H H1 S S1 p hpn hS s1 hx hh (rk.merge .nil) p2⟩
  ·have p2:aE X.K E (RD X.K) w H (if kvs.length<=15 then fin kvs S1 else R.bad) Q:=p1
   rw [Jc hz] at p2
   exact p2.elim
end
def AK (m:AM) (n:Nat):Prop:=∀ r S ds S',m r S=.ok ds S'->ds.length=n
theorem aq:AK ak 0:=λr S ds S' h=>by unfold ak at h; cases h; rfl
theorem ai {a:EM} {t:AM} (h:AK t n):AK (af a t) (n + 1):=λr S ds S' e=>by
 unfold af at e
 cases e1:a r S with
 | bad=>rw [e1] at e; cases e
 | err x S1=>rw [e1] at e; cases e
 | ok d S1=>
  rw [e1] at e
  cases e2:t r S1 with
  | bad=>simp only [R.bind_ok,e2,R.bind_bad] at e; cases e
  | err x S2=>simp only [R.bind_ok,e2,R.bind_err] at e; cases e
  | ok es S2=>
   simp only [R.bind_ok,e2] at e
   cases e
   simp [h r S1 es _ e2]
section
variable {X:Cx} {E:XK}
theorem B1 {pos:Pos} (hm:∃ t,X.mg x=some (.int i t)) (hg:Gl X x) (hd:autoParam ((x == ("__debug__":Str))=false) Au.h3._auto_1):SE X E (.Name x pos) (eC (.int i)):=by
 obtain ⟨t,e⟩:=hm
 exact AA hg e hd
end
noncomputable def pQ (N0 N:List Str) (k:Nat) (scope:Scope):List Nat->Nat->Bool
 | [],_=>true
 | i :: r,t=>(match N0[i]?,N[k + t]? with
  | some x,some y=>x == y && scope.names.lookup x == some .free
  | _,_=>false) && pQ N0 N k scope r (t + 1)
theorem mH {N0:List Str} {k:Nat} :∀ {caps:List Nat} {t0:Nat},pQ N0 N k scope caps t0=true->∀ (t i:Nat),caps[t]?=some i->∃ x,N0[i]?=some x/\N[k + (t0 + t)]?=some x/\scope.names.lookup x=some .free
 | [],_,_,_,_,h=>by simp at h
 | j :: r,t0,h,t,i,e=>by
  unfold pQ at h
  rw [Yl] at h
  cases t with
  | zero=>
   simp at e
   subst e
   have h1:=h.1
   cases e1:N0[j]? with
   | none=>rw [e1] at h1; cases h1
   | some x=>
    cases e2:N[k + t0]? with
    | none=>rw [e1,e2] at h1; cases h1
    | some y=>
     rw [e1,e2] at h1
     simp only [Yl] at h1
     have hxy:x=y:=eq_of_beq h1.1
     subst hxy
     exact ⟨x,rfl,by simpa using e2,eq_of_beq h1.2⟩
  | succ t=>
   obtain ⟨x,a,b,c⟩:=mH h.2 t i (by simpa using e)
   exact ⟨x,a,by rw [show t0 + (t + 1)=t0 + 1 + t by omega]; exact b,c⟩
theorem fC {X:Cx} {N:List Str} {k:Nat} {caps:List Nat} (h1:scope.kind=.function) (h2:scope.names.all (λx=>x.2 != .cell)=true) (h3:scope.names.all (λx=>x.2 != .local || scope.names.lookup x.1 == some .local)=true)
  (h4:scope.names.all (λx=>x.2 != .free || X.env.kindOf x.1 == some .cell || X.env.kindOf x.1 == some .free)=true) (h5:N.length=k + caps.length) (h6:pQ X.N N k scope caps 0=true):CompScope X N k caps scope:=by
 refine ⟨h1,λx hx z=>?_,λx hx z=>?_,λx hx z=>?_,h5,λt i e=>?_⟩
 ·have:=Yv.mp h2 x hx
  rw [z] at this; simp at this
 ·have:=Yv.mp h3 x hx
  rw [z] at this
  simpa using this
 ·have:=Yv.mp h4 x hx
  rw [z] at this
  simpa using this
 ·obtain ⟨x,a,b,c⟩:=mH h6 t i e
  exact ⟨x,a,by simpa using b,c⟩
theorem Dl {f:FM} (h:∀ ns:List Int,ns.length<=63->∃ S,f [.fz (ns.map .int)] []=.ok (.bl true) S) (K:PySem.W.Frag) (H:Hp) (a:Addr) (ns:List Int) (hn:ns.length<=63) (ho:x9 H) (hs:SqL K H a (ns.map V.int)):
  spM K 1 f [.ref a] H (λv _=>v=.bl true) λ_ _ _=>False:=by
 obtain ⟨S,e⟩:=h ns hn
 have hfz:tS K ⟨[],[]⟩ H a (ns.map V.int):=by
  rcases hs with (hs | ⟨o,hs⟩) | hs
  ·rcases ho a with z | ⟨o,xs,z⟩
   ·rw [z] at hs; cases hs
   ·rw [z] at hs; cases hs
  ·exact .inl ⟨o,hs,(λz=>nomatch z),(λz=>nomatch z)⟩
  ·exact .inr hs
 have hints:∀ l:List Int,RDs K ⟨[],[]⟩ H (l.map D.int) (l.map V.int):=λl=>by
  induction l with
  | nil=>exact .nil
  | cons i l ih=>exact .cons RD.mkI ih
 refine ⟨rfl,⟨[],[]⟩,[],[.fz (ns.map .int)],⟨List.nodup_nil,rfl,λn o z=>?_,(λa z=>nomatch z)⟩,.cons (by unfold RD; exact ⟨a,_,rfl,hfz,hints ns⟩) .nil,?_⟩
 ·simp at z
 ·rw [e]
  intro w' H' b x q s
  unfold RD at q
  exact q
end PD
namespace PD
open PySem L2
variable {S:Sto}
theorem cO {i j:Int} (h:cI i \/ cI j):cx S (.int i) (.int j)=some (.int (i * j)):=J8 h
theorem Dm {i:Nat} (h:i < 1000):nC S (.int 1) (.int i)=some (.int (2 ^ i)):=by
 have:nC S (.int 1) (.int i)=some (.int (1 * 2 ^ ((i:Int)).toNat)):=J8 ⟨by omega,by omega,by decide⟩
 rw [this,Wh,Int.one_mul]
theorem Dp {i j:Int} (h:0<=j/\j<=1000000/\i.natAbs < 2 ^ 64):tX S (.int i) (.int j)=some (.int (i ^ j.toNat)):=J8 h
theorem tZ:tX S (.int 10) (.int 12)=some (.int 1000000000000):=by
 rw [Dp ⟨by decide,by decide,by decide⟩]
 have e:(10:Int) ^ (12:Int).toNat=1000000000000:=by decide
 rw [e]
theorem mI {A:Type} {xs:List A} {i:Nat} (h:i < xs.length):atI xs (i:Int)=some xs[i]:=Ao (Ja h)
end PD
namespace L2
open PySem PySem.Spec PyProof.Rows
def Fly (l:List Env) (H':Hp) (h hs:Heap) (ea:Addr) (cls:Value):Prop:=
 ∃ (B:Heap) (a0:Value),Heap.FlyingW B l ea cls a0 hs/\(∀ b o,h.get? b=some o->b ∉ frs l->∃ o',B.get? b=some o')/\(∀ b u,H' b=some u->∃ o',B.get? b=some o')/\hs.Zat ea
noncomputable def CX1 (P:Program) (w:World):CXT:=λouter H s E e s'=>
 ∃ ea cls H',e=.ref ea/\s'.os=s.os/\AllBare s'.gens/\Un (frs outer) [] H H' s.heap s'.heap/\HOk P w H' s'.heap/\Fly outer H' s.heap s'.heap ea cls/\E cls none H'
end L2
namespace PD
open PySem PySem.Spec PyProof.Rows L2
section
variable {P:Program} {w:World} {K:PySem.W.Frag} {mg:Str->Option Value} {base:Heap} {N:List Str} {qual:Str} {scope:Scope} {f:Addr} {cdv:Value} {A:Around} {outer:List Env} {s:Shared} {H:Hp} {E:XK}
theorem wM {X:Cx}:Passes (CX1 X.prog X.w) X E0:=λ_ _ _ _ _ _ _ zq=>by obtain ⟨_,_,_,_,_,_,_,_,_,z⟩:=zq; exact z.elim
end
variable {x:Str} {st:Stmt} {f:Addr} {fd:FuncData}
noncomputable def spN (K:PySem.W.Frag) (n:Nat) (f:FM):Sp:=λvs H Q _=>vs.length=n/\∃ w S ds,RS K w H S/\RDs K w H ds vs/\aE K E0 (RD K) w H (f ds S) Q
structure DefN (P:Program) (w:World) (K:PySem.W.Frag) (mg:Str->Option Value) (base:Heap) (x:Str) (k n:Nat) (f:FM):Prop where
 ex:∃ (fa:Addr) (fd:FuncData) (ps:List Str),mg x=some (.ref fa)/\PySem.W.keepIn K (.ref fa)=true/\Binds K fd ps []/\FnOk P w K mg base (CX1 P w) k fa fd ps (spN K n f)
section
variable {X:Cx} {E:XK} {x:Str} {k n:Nat} {f:FM} {a:Expr} {es:List Expr} {ms:AM} {p pos:Pos}
theorem az (D:DefN X.prog X.w X.K X.mg X.base x k n f) (hr:Room k X.A) (hg:Gl X x) (ha:SA X E0 (a :: es) ms) (hn:AK ms n) (hdb:autoParam ((x == ("__debug__":Str))=false) Au.h3._auto_1)
  (he:autoParam (starEach (a :: es) X.env=(false,eval a X.env) :: starEach es X.env) Au.h0._auto_1) (hpl:autoParam ((backTo pos (starEach es X.env)).any (·.1)=false) Au.h0._auto_1):
  SE X E0 (.Call (.Name x p) (a :: es) [] pos) (ax f ms):=by
 obtain ⟨fa,fd,ps,hm,hk,hb,F⟩:=D.ex
 refine ⟨aY (Ai F hr hg hm hk hb (dvs:=[]) .nil wM ha.out hdb he hpl) λs H Q zq=>?_⟩
 obtain ⟨w,r,S,hr,hS,hp⟩:=zq
 refine ⟨w,r,S,hr,hS,?_⟩
 have hp':aE X.K E0 (RD X.K) w H ((ms r S).bind λxs S1=>f xs S1) Q:=hp
 cases e:ms r S with
 | bad=>rw [e] at hp'; exact hp'.elim
 | err y S'=>rw [e] at hp'; exact hp'
 | ok ds S'=>
  rw [e] at hp'
  intro w1 H1 vs x1 q1 s1
  rw [Yu]
  exact ⟨by rw [q1.length]; exact hn r S ds S' e,w1,S',ds,s1,q1,aE.ext (r:=f ds S') hp' x1 hS s1⟩
end
section
variable {P:Program} {w:World} {K:PySem.W.Frag} {mg:Str->Option Value} {base:Heap}
theorem yq {qual:Str} {N ps:List Str} {k:Nat} {m:SM} (F:Fun K x qual st f fd) (S:FnScope N ps (defScope st))
  (hbody:∀ (cdv:Value) (A:Around) (outer:List Env) (s:Shared) (H:Hp) (E:XK),Room k (A.deeper (envOfC qual (defScope st) s.heap.objs.size f cdv))->
   SSs (qY (CX1 P w) P w K mg base N qual (defScope st) f cdv A outer s H E).nox E0 (defBody st) m):FnOk P w K mg base (CX1 P w) (k + 1) f fd ps (spN K ps.length (fnM N.length m)):=by
 obtain ⟨oc,od,kV,doc,pm,an,cdv,ct,osl,rfl,lk,hcd⟩:=F.ex
 refine EF lk hcd S (λvs H Q E h=>h.1) λA outer s H vs Q E hr h=>?_
 obtain ⟨hl,u,T,ds,hT,q,p⟩:=h
 refine ⟨_,(hbody cdv A outer s H E hr).out.nox,u,_,T,wJ q,hT,?_⟩
 refine aE.bind (rel:=RF K) p hT λg S1 w1 H1 fv x1 q1 s1 p1=>?_
 cases g with
 | nx r=>obtain ⟨s',rfl,_⟩:=q1; have z:=aE.ret (Q:=Q) (rel:=RD K) (a:=D.non) (b:=V.non) p1 (by unfold RD; rfl) s1; exact z
 | rt d=>obtain ⟨v,rfl,q2⟩:=q1; have z:=aE.ret (Q:=Q) (rel:=RD K) (a:=d) (b:=v) p1 q2 s1; exact z
 | bk r=>exact p1.elim
 | ct r=>exact p1.elim
theorem aJ {m:SM} (N ps:List Str) (k k1 n0 n1:Nat) (hk:k1=k + 1) (h0:n0=ps.length) (h1:n1=N.length) (F:Fun K x x st f fd) (hm:mg x=some (.ref f)) (hb:Binds K fd ps []) (S:FnScope N ps (defScope st))
  (hbody:∀ (cdv:Value) (A:Around) (outer:List Env) (s:Shared) (H:Hp) (E:XK),Room k (A.deeper (envOfC x (defScope st) s.heap.objs.size f cdv))->
   SSs (qY (CX1 P w) P w K mg base N x (defScope st) f cdv A outer s H E).nox E0 (defBody st) m):DefN P w K mg base x k1 n0 (fnM n1 m):=by
 subst hk h0 h1
 exact ⟨f,fd,ps,hm,F.kp,hb,yq F S hbody⟩
theorem AL {m:SM} (N ps:List Str) (k k1 n0 n1:Nat) (hk:k1=k + 1) (h0:n0=ps.length) (h1:n1=N.length) (F:Fun K x x st f fd) (S:FnScope N ps (defScope st))
  (hbody:∀ (cdv:Value) (A:Around) (outer:List Env) (s:Shared) (H:Hp) (E:XK),Room k (A.deeper (envOfC x (defScope st) s.heap.objs.size f cdv))->
   SSs (qY (CX1 P w) P w K mg base N x (defScope st) f cdv A outer s H E).nox E0 (defBody st) m):FnOk P w K mg base (CX1 P w) k1 f fd ps (spN K n0 (fnM n1 m)):=by
 subst hk h0 h1
 exact yq F S hbody
end
end PD
namespace L2
open PySem PySem.Spec PyProof.Rows
section
variable {X:Cx} {pins:List (Addr × Obj)} {σ:St} {H:Hp} {s:Shared}
noncomputable abbrev Cx.with (X:Cx) (p:List (Addr × Obj)) (W:Value->Shared->Prop):Cx:={ X with pn:=p,xe:=W }
end
section
variable {prog:Program} {w:World} {A:Around} {E:Value->Shared->Prop} {s:Shared} {K:PySem.W.Frag} {ea C:Addr} {ox:Obj} {od:Option Obj}
structure ExK (K:PySem.W.Frag) (C:Addr):Prop where
 ga:PySem.W.findIn K (.ref C) "__getattribute__" = some (some (.builtin "BaseException.__getattribute__"))
 gh:PySem.W.findIn K (.ref C) "__getattr__" = some none
 cl:PySem.W.findIn K (.ref C) "__class__" = some (some (.builtin "object.__class__"))
 bs:PySem.W.mroIn K C (.type "BaseException")=some true
 ob:PySem.W.mroIn K C (.type "object")=some true
 is:(PySem.W.clsIn K C).isSome=true
end
end L2
namespace PD
open PySem PySem.Spec PyProof.Rows L2
structure Cls (K:PySem.W.Frag) (cs ks:List Str) (isa:Str->Str->Bool):Prop where
 gt:PySem.W.specialIn K (.builtin "object.__class__") "__get__" = some (some (.builtin "getset_descriptor.__get__"))
 tk:PySem.W.takesIn K (.builtin "object.__class__")=some true
 ex:∀ c ∈ cs,∃ C,PySem.W.nsIn K mainGlobals c=some (some (.ref C))/\ExK K C/\PySem.W.kitOne K (.ref C) (.type "ValueError")=some true
 isa:∀ c ∈ cs,∀ k ∈ ks,∃ C D,PySem.W.nsIn K mainGlobals c=some (some C)/\PySem.W.nsIn K mainGlobals k=some (some D)/\PySem.W.kitOne K C D=some (isa c k)
section
variable {X:Cx} {E:XK}
noncomputable def intsOf:List D->Option (List Int)
 | []=>some []
 | .int b :: r=>(intsOf r).map (b :: ·)
 | _ :: _=>none
noncomputable def yr:Sto->List D->Option D
 | S,[d]=>match bS S d with
  | some a=>(intsOf a).map λns=>.int ns.sum
  | none=>none
 | _,_=>none
theorem mJ:∀ {ds:List D} {ns:List Int},intsOf ds=some ns->ns.length=ds.length
 | [],_,h=>by unfold intsOf at h; cases h; rfl
 | d :: ds,ns,h=>by
  cases d with
  | int i=>
   unfold intsOf at h
   cases e:intsOf ds with
   | none=>rw [e] at h; cases h
   | some cs=>rw [e] at h; cases h; simp [mJ e]
  | _=>unfold intsOf at h; cases h
theorem iU {K:PySem.W.Frag} {w:Wd} {H:Hp}:∀ {ds:List D} {vs:List V} {us:List Value} {ns:List Int},RDs K w H ds vs->Vals vs us->intsOf ds=some ns->∀ (i:Nat) (v:Value),us[i]?=some v->∃ t,v=.int ((ns[i]?).getD 0) t
 | [],_,_,_,q,r,h,i,v,e=>by
  rw [q.nil_inv] at r
  cases r
  simp at e
 | d :: ds,_,_,ns,q,r,h,i,v,e=>by
  obtain ⟨y,vs,rfl,p,t⟩:=q.cons_inv
  cases d with
  | int b=>
   unfold intsOf at h
   cases e':intsOf ds with
   | none=>rw [e'] at h; cases h
   | some cs=>
    rw [e'] at h; cases h
    cases p.int
    cases r with
    | cons r1 r2=>
     cases i with
     | zero=>
      obtain ⟨t,rfl⟩:=r1
      simp at e
      exact ⟨t,by simp [e]⟩
     | succ i=>
      have z:=iU t r2 e' i v (by simpa using e)
      simpa using z
  | _=>unfold intsOf at h; cases h
theorem iz (ns:List Int):∀ k,k<=ns.length->preSum (λi=>(ns[i]?).getD 0) k=(ns.take k).sum
 | 0,_=>by simp [preSum]
 | k + 1,h=>by
  have hk:k < ns.length:=h
  show preSum _ k + (ns[k]?).getD 0=_
  rw [iz ns k (Vj hk),U0,List.sum_append,Ja hk]
  simp
theorem Dq (hc:X.calm=true):bw X (.builtin "sum") (xC X.K E yr):=by
 rintro pins s σ H xs us Q I r ⟨w,S,ds,hS,qs,p⟩
 obtain ⟨z,hz,p'⟩:=p.of
 clear p
 unfold yr at hz
 split at hz
 ·rename_i d
  cases ea:bS S d with
  | none=>rw [ea] at hz; cases hz
  | some a=>
   rw [ea] at hz
   simp only at hz
   cases e:intsOf a with
   | none=>rw [e] at hz; cases hz
   | some ns=>
    rw [e] at hz; cases hz
    obtain ⟨v,rfl,q⟩:=qs.one_inv
    obtain ⟨pa,vs,rfl,sq,ra⟩:=kE hS q ea
    obtain ⟨u,rfl,ru⟩:=W9 r
    cases ru
    have hlen:=mJ e
    have fin:∀ n,n=ns.length->preSum (λi=>(ns[i]?).getD 0) n=ns.sum:=λn hn=>by rw [hn,iz ns _ (Jb _),Q9]
    rcases sq with sq | sq
    ·obtain ⟨its,r1,⟨o,n,ho,hcl,hdn,hd⟩,_⟩:=I.list sq
     have hlt:pa < s.heap.objs.size:=Jk ho
     have hl:s.heap.IsList pa its.toArray:=⟨o,ho,hcl,n,hd⟩
     refine call_sum_walkG (Zp hl ?_)
     refine ⟨s.heap.objs.size,[s.heap.objs.size,pa],[s.heap.objs.size],its.toArray.size,_,_,λi=>(ns[i]?).getD 0,rfl,Vq (A:=X.A.in1) (I.ok.hd hc) _ pa (Jt hlt) its.toArray,
      ⟨⟨_,Ji _ rfl,rfl,rfl⟩,hl.push _⟩,λb hb=>?_,λi v hP=>iU ra r1 e i v (by simpa using hP),λh' tk t' hk=>?_⟩
     ·simp only [Jg,Jz,Z2] at hb
      rw [Y4]
      rcases hb with rfl | rfl
      ·exact Z6 _
      ·exact Zk hlt
     ·rw [fin _ (by rw [hlen,<- ra.length,r1.length]; simp)]
      exact ⟨.int _,H,I.kept (Wf hk),⟨t',rfl⟩,p'.ret RD.mkI hS⟩
    ·obtain ⟨its,r1,⟨o,ho,hcl,n,hd⟩,_⟩:=I.tuple sq
     have hlt:pa < s.heap.objs.size:=Jk ho
     have hl:s.heap.IsTuple pa its.toArray:=⟨o,ho,hcl,n,hd⟩
     refine call_sum_walkG (Wg hl ?_)
     refine ⟨s.heap.objs.size,[s.heap.objs.size,pa],[s.heap.objs.size],its.toArray.size,_,_,λi=>(ns[i]?).getD 0,rfl,Walks.tuple (A:=X.A.in1) (I.ok.hd hc) _ pa (Jt hlt) its.toArray,
      ⟨⟨_,Ji _ rfl,rfl,rfl⟩,hl.push _⟩,λb hb=>?_,λi v hP=>iU ra r1 e i v (by simpa using hP),λh' tk t' hk=>?_⟩
     ·simp only [Jg,Jz,Z2] at hb
      rw [Y4]
      rcases hb with rfl | rfl
      ·exact Z6 _
      ·exact Zk hlt
     ·rw [fin _ (by rw [hlen,<- ra.length,r1.length]; simp)]
      exact ⟨.int _,H,I.kept (Wf hk),⟨t',rfl⟩,p'.ret RD.mkI hS⟩
 ·cases hz
end
theorem fM (t:TM) (b:SM):∀ (n k:Nat) (r:Rho) (S:Sto),cH t b n r S ≠ .bad->cH t b (n + k) r S=cH t b n r S
 | 0,k,r,S,h=>absurd rfl h
 | n + 1,k,r,S,h=>by
  rw [show n + 1 + k=(n + k) + 1 by omega]
  unfold cH at h ⊢
  cases e:t r S with
  | bad=>rfl
  | err x S1=>rfl
  | ok c S1=>
   rw [e] at h
   simp only [R.bind_ok] at h ⊢
   cases c with
   | false=>rfl
   | true=>
    simp only [Yj] at h ⊢
    cases e2:b r S1 with
    | bad=>rfl
    | err x S2=>rfl
    | ok f S2=>
     rw [e2] at h
     simp only [R.bind_ok] at h ⊢
     cases f with
     | nx r2=>exact fM t b n k r2 S2 h
     | ct r2=>exact fM t b n k r2 S2 h
     | bk r2=>rfl
     | rt d=>rfl
open Classical in
noncomputable def sWh (t:TM) (b:SM):SM:=λr S=>if h:∃ n,cH t b n r S ≠ .bad then cH t b h.choose r S else .bad
theorem Dr {t:TM} {b:SM} {r:Rho} {S:Sto} (n:Nat) (h:cH t b n r S ≠ .bad):sWh t b r S=cH t b n r S:=by
 have hx:∃ n,cH t b n r S ≠ .bad:=⟨n,h⟩
 unfold sWh
 rw [dif_pos hx]
 have hc:=hx.choose_spec
 rcases Nat.le_total n hx.choose with z | z
 ·obtain ⟨k,e⟩:=Nat.exists_eq_add_of_le z
  rw [e]
  exact fM t b n k r S h
 ·obtain ⟨k,e⟩:=Nat.exists_eq_add_of_le z
  have:=fM t b hx.choose k r S hc
  rw [<- e] at this
  exact this.symm
section
variable {X:Cx} {E:XK} {c:Expr} {body:List Stmt} {mt:TM} {m:SM} {pos:Pos}
theorem yt (hp:PassesOwn (model X.prog X.w) X.A X.env X.xe) (hc:ST X E c mt) (hb:SSs X E body m):SS X E (.While c body [] pos) (sWh mt m):=⟨
 eA (xH hp hc.out hb.out) λD s H zq=>ex6 zq λw r S hr hS hp=>by
  have h0:∃ n,aE X.K E (RF X.K) w H (cH mt m n r S) (FV.to D):=by
   have hp':aE X.K E (RF X.K) w H (sWh mt m r S) (FV.to D):=hp
   unfold sWh at hp'
   split at hp'
   ·exact ⟨_,hp'⟩
   ·exact hp'.elim
  obtain ⟨n0,hp0⟩:=h0
  refine ⟨λn s' H'=>∃ w' r' S',RSt X.K w' H' r' s'/\RS X.K w' H' S'/\aE X.K E (RF X.K) w' H' (cH mt m n r' S') (FV.to D),⟨n0,w,r,S,hr,hS,hp0⟩,?_⟩
  rintro n s1 H1 ⟨w1,r1,S1,hr1,hS1,hp1⟩
  cases n with
  | zero=>exact hp1.elim
  | succ n=>
   unfold cH at hp1
   refine ⟨w1,r1,S1,hr1,hS1,hp1.bind hS1 λk S2 w2 H2 v x2 q2 s2 p2=>?_⟩
   have e:v=k:=q2
   subst e
   cases v with
   | false=>exact pq (aE.ret (b:=FV.nx s1) p2 ⟨s1,rfl,hr1.ext x2⟩ s2)
   | true=>
    refine pz ⟨λs' H'=>∃ w' r' S',RSt X.K w' H' r' s'/\RS X.K w' H' S'/\aE X.K E (RF X.K) w' H' (cH mt m n r' S') (FV.to D),λs' H' hN=>⟨n,Z6 n,hN⟩,?_⟩
    simp only [Yj] at p2
    refine ⟨w2,r1,S2,hr1.ext x2,s2,aE.bind (rel:=RF X.K) p2 s2 λf S5 w5 H5 fv x5 q5 s5 p5=>?_⟩
    cases f with
    | nx r6=>obtain ⟨s6,rfl,q6⟩:=q5; exact ⟨w5,r6,S5,q6,s5,p5⟩
    | ct r6=>obtain ⟨s6,rfl,q6⟩:=q5; exact ⟨w5,r6,S5,q6,s5,p5⟩
    | bk r6=>obtain ⟨s6,rfl,q6⟩:=q5; have z:=aE.ret (Q:=FV.to D) (rel:=RF X.K) (a:=F.nx r6) (b:=FV.nx s6) p5 ⟨s6,rfl,q6⟩ s5; exact z
    | rt d6=>obtain ⟨v6,rfl,q6⟩:=q5; have z:=aE.ret (Q:=FV.to D) (rel:=RF X.K) (a:=F.rt d6) (b:=FV.rt v6) p5 ⟨v6,rfl,q6⟩ s5; exact z⟩
end
section
variable {X:Cx} {E:XK}
noncomputable def eqP (a b:D):Option Bool:=match eqS a b with
 | some c=>some c
 | none=>match toPy a,toPy b with
  | some p,some q=>if SeqAt.shaped p=true/\SeqAt.shaped q=true then some (PyData.eqv p q) else none
  | _,_=>none
noncomputable def jw:Sto->D->D->Option D:=λ_ a b=>(eqP a b).map .bl
noncomputable def iC:Sto->D->D->Option D:=λ_ a b=>(eqP a b).map λc=>.bl (!c)
theorem oi {a b:D} {c:Bool} (h:eqP a b=some c):eqS a b=some c \/ ∃ p q,toPy a=some p/\toPy b=some q/\SeqAt.shaped p=true/\SeqAt.shaped q=true/\c=PyData.eqv p q:=by
 unfold eqP at h
 split at h
 ·rename_i c' e; cases h; exact .inl e
 ·split at h
  ·rename_i p q e1 e2
   split at h
   ·rename_i hs; cases h; exact .inr ⟨p,q,e1,e2,hs.1,hs.2,rfl⟩
   ·cases h
  ·cases h
theorem mK {k:Nat} (hr:Room k X.A):OpR X (compareOp .Eq) (xO X.K E jw):=by
 rintro pins s σ H x y v u Q I rx ry ⟨w,S,d,e,hS,qd,qe,p⟩
 obtain ⟨z,hz,p⟩:=p.of
 unfold jw at hz
 cases h:eqP d e with
 | none=>rw [h] at hz; cases hz
 | some c=>
  rw [h] at hz; cases hz
  rcases oi h with h | ⟨a,b,e1,e2,s1,s2,rfl⟩
  ·exact EX pins s σ H x y v u Q I rx ry ⟨w,S,d,e,hS,qd,qe,by unfold oEq; rw [h]; exact p⟩
  ·obtain ⟨as,r1,_⟩:=gy I d x v a qd rx e1
   obtain ⟨bs,r2,_⟩:=gy I e y u b qe ry e2
   exact eq_dataH r1 r2 s1 s2 hr.units ⟨.bl _,H,I,rfl,p.ret RD.mkB hS⟩
theorem jx {k:Nat} (hr:Room k X.A):OpR X (compareOp .NotEq) (xO X.K E iC):=by
 rintro pins s σ H x y v u Q I rx ry ⟨w,S,d,e,hS,qd,qe,p⟩
 obtain ⟨z,hz,p⟩:=p.of
 unfold iC at hz
 cases h:eqP d e with
 | none=>rw [h] at hz; cases hz
 | some c=>
  rw [h] at hz; cases hz
  rcases oi h with h | ⟨a,b,e1,e2,s1,s2,rfl⟩
  ·exact EY pins s σ H x y v u Q I rx ry ⟨w,S,d,e,hS,qd,qe,by unfold oNe; rw [h]; exact p⟩
  ·obtain ⟨as,r1,_⟩:=gy I d x v a qd rx e1
   obtain ⟨bs,r2,_⟩:=gy I e y u b qe ry e2
   exact ne_dataH r1 r2 s1 s2 hr.units ⟨.bl _,H,I,rfl,p.ret RD.mkB hS⟩
end
theorem AN {f:FM} (h:∀ ns:List Int,ns.length<=63->∃ S,f [.fz (ns.map .int)] []=.ok (.bl true) S) (K:PySem.W.Frag) (H:Hp) (a:Addr) (ns:List Int) (hn:ns.length<=63) (ho:x9 H) (hs:SqL K H a (ns.map V.int)):
  spN K 1 f [.ref a] H (λv _=>v=.bl true) λ_ _ _=>False:=Dl h K H a ns hn ho hs
theorem Ds {P:Program} {w:World} {l:List Env} {H:Hp} {s s':Shared} {e:Value} (h:CX1 P w l H s (λ_ _ _=>False) e s'):False:=by
 obtain ⟨_,_,_,_,_,_,_,_,_,z⟩:=h
 exact z
end PD
namespace SQ
open PySem PySem.Spec PyProof.Rows
open Sem (wp)
variable {h h':Heap} {it a l z i1 i2 l1 l2:Addr} {i:Nat} {xs:Array Value}
noncomputable def nm:Bool->String
 | true=>"tuple_iterator"
 | false=>"list_iterator"
noncomputable def Is:Bool->Heap->Addr->Array Value->Prop
 | true,h,a,xs=>h.IsTuple a xs
 | false,h,a,xs=>h.IsList a xs
def It (k:Bool) (h:Heap) (it a:Addr) (i:Nat):Prop:=∃ o,h.get? it=some o/\o.cls=.type (nm k)/\o.data=.fields #[.ref a,.int i 0]
theorem It.move {k:Bool} (x:It k h it a i) (q:∀ o,h.get? it=some o->h'.get? it=some o):It k h' it a i:=let ⟨o,e,r⟩:=x; ⟨o,q o e,r⟩
theorem Is.move {k:Bool} (x:Is k h a xs) (q:∀ o,h.get? a=some o->h'.get? a=some o):Is k h' a xs:=by
 cases k with
 | true=>obtain ⟨o,e,r⟩:=x; exact ⟨o,q o e,r⟩
 | false=>obtain ⟨o,e,r⟩:=x; exact ⟨o,q o e,r⟩
theorem Is.obj {k:Bool} (x:Is k h a xs):∃ o,h.get? a=some o/\(o.cls=.type "tuple" \/ o.cls=.type "list")/\∃ n,o.data=.seq xs n:=by
 cases k with
 | true=>obtain ⟨o,e,c,n,d⟩:=x; exact ⟨o,e,.inl c,n,d⟩
 | false=>obtain ⟨o,e,c,n,d⟩:=x; exact ⟨o,e,.inr c,n,d⟩
section
variable {prog:Program} {w:World} {A:Around} {E:Value->Shared->Prop} {s:Shared}
theorem iter {k:Bool} {t:Addr} {items} {Q:Value->Shared->Prop} (ht:Is k s.heap t items)
  (hQ:Q (.ref s.heap.objs.size) { s with heap:=s.heap.push { cls:=.type (nm k),data:=.fields #[.ref t,.int 0 0] } }):wpAny (model prog w) A (pyIter (.ref t)) Q E s:=by
 cases k with
 | true=>exact Wg ht hQ
 | false=>exact Zp ht hQ
theorem yu {items} {x:Value} {Q:Value->Shared->Prop} (hit:s.heap.IsTupleIter it l i) (hl:s.heap.IsTuple l items) (hx:items[i]?=some x)
  (hQ:∀ h',h'.IsTupleIter it l (i + 1)->Heap.SameBut it s.heap h'->Q x { s with heap:=h' }):wpAny (model prog w) A (Builtin.SmallTypes.nextOf (.ref it)) Q E s:=by
 obtain ⟨o,ho,hc,hd⟩:=id hit; obtain ⟨ol,hol,_,nl,hdl⟩:=hl
 unfold Builtin.SmallTypes.nextOf; refine J6 (Z9 (name:=Str.ofString "__next__") hit.typeIs Qr (Zf Qr hit.typeIs F.entry_tuple_iterator_next ?_ (F.args_tuple_iterator_next_1 _)))
 show wpAny _ _ (field (.ref it) 0 >>= _) _ _ s; refine J6 (Yq ho hd (x:=.ref l) rfl ?_); show wpAny _ _ (if (Value.ref l == Value.none)=true then _ else _) _ _ s
 rw [Jc (show ¬ ((Value.ref l == Value.none)=true) from Jl)]; show wpAny _ _ (field (.ref it) 1 >>= _) _ _ s; refine J6 (Yq ho hd (x:=.int i 0) rfl ?_)
 show wpAny _ _ (seqItems? (.ref l) >>= _) _ _ s; refine J6 (Zd hol hdl ?_); simp only [Wh,hx]
 refine J6 (wpAny_setField ho hd (by simp) (Jd ⟨x,rfl,Jd (hQ _ ?_ (Wb ..))⟩)); exact ⟨_,Qp _ ho (Vh (U2 hd _)),(Obj.cls_mapFields ..).trans hc,by rw [U2 hd]; simp [rawInt]⟩
theorem AO {items} {Q:Value->Shared->Prop} (hh:A.handled=none) (hit:s.heap.IsTupleIter it l i) (hl:s.heap.IsTuple l items) (hx:items[i]?=none)
  (hE:∀ h' e,Heap.ExtBut it s.heap h'->(∃ o,h'.get? e=some o/\o.cls=.type "StopIteration")->E (.ref e) { s with heap:=h' }):wpAny (model prog w) A (Builtin.SmallTypes.nextOf (.ref it)) Q E s:=by
 obtain ⟨o,ho,hc,hd⟩:=id hit; obtain ⟨ol,hol,_,nl,hdl⟩:=hl
 unfold Builtin.SmallTypes.nextOf; refine J6 (Z9 (name:=Str.ofString "__next__") hit.typeIs Qr (Zf Qr hit.typeIs F.entry_tuple_iterator_next ?_ (F.args_tuple_iterator_next_1 _)))
 show wpAny _ _ (field (.ref it) 0 >>= _) _ _ s; refine J6 (Yq ho hd (x:=.ref l) rfl ?_); show wpAny _ _ (if (Value.ref l == Value.none)=true then _ else _) _ _ s
 rw [Jc (show ¬ ((Value.ref l == Value.none)=true) from Jl)]; show wpAny _ _ (field (.ref it) 1 >>= _) _ _ s; refine J6 (Yq ho hd (x:=.int i 0) rfl ?_)
 show wpAny _ _ (seqItems? (.ref l) >>= _) _ _ s; refine J6 (Zd hol hdl ?_); simp only [Wh,hx]
 refine J6 (Z0 (J6 (wpAny_setField ho hd (by simp) ?_))); show wpAny _ _ (newExc (.type "StopIteration") [] >>= _) _ _ _; refine J6 ?_
 simp only [newExc,newTuple]; refine J6 (Ym ?_ (by size_fits)); refine J6 (m:=firstArgMember _ _) (Qx (a:=Value.none) (by first | rfl | (simp only [firstArgMember]; rfl)) ?_)
 refine Ym ?_ (by size_fits); simp only [raiseNew]; refine J6 (wpAny_handled ?_); first | rw [show A.in1.handled=none from hh] | rw [hh]
 refine J6 (Jd (wpAny_throw ?_)); exact hE _ _ (((Wb ..).extBut.push _).push _) ⟨_,Ji _ rfl,rfl⟩
theorem next {k:Bool} {items} {x:Value} {Q:Value->Shared->Prop} (hit:It k s.heap it l i) (hl:Is k s.heap l items) (hx:items[i]?=some x)
  (hQ:∀ h',It k h' it l (i + 1)->Heap.SameBut it s.heap h'->Q x { s with heap:=h' }):wpAny (model prog w) A (Builtin.SmallTypes.nextOf (.ref it)) Q E s:=by
 cases k with
 | true=>exact yu hit hl hx hQ
 | false=>exact wpAny_nextOf_list_item hit hl hx hQ
theorem ends {k:Bool} {items} {Q:Value->Shared->Prop} (hh:A.handled=none) (hit:It k s.heap it l i) (hl:Is k s.heap l items) (hx:items[i]?=none)
  (hE:∀ h' e,Heap.ExtBut it s.heap h'->(∃ o,h'.get? e=some o/\o.cls=.type "StopIteration")->E (.ref e) { s with heap:=h' }):wpAny (model prog w) A (Builtin.SmallTypes.nextOf (.ref it)) Q E s:=by
 cases k with
 | true=>exact AO hh hit hl hx hE
 | false=>exact wpAny_nextOf_list_end hh hit hl hx hE
structure Apart (z TI TO i1 i2 l1 l2:Addr):Prop where
 a:TI ≠ z/\TO ≠ z/\i1 ≠ z/\i2 ≠ z/\TI ≠ TO/\TI ≠ i1/\TI ≠ i2
 b:TO ≠ i1/\TO ≠ i2/\i1 ≠ i2
 c:l1 ≠ z/\l1 ≠ TO/\l1 ≠ i1/\l1 ≠ i2
 d:l2 ≠ z/\l2 ≠ TO/\l2 ≠ i1/\l2 ≠ i2
theorem sb {t b:Addr} {o:Obj} (hs:Heap.SameBut t h h') (n:b ≠ t) (e:h.get? b=some o):h'.get? b=some o:=(hs.2 b n).trans e
theorem yw {k m:Bool} {TI TO:Addr} {k1 k2:Nat} {xs ys:Array Value} {x y a b:Value} {Q:Value->Shared->Prop} (D:Apart z TI TO i1 i2 l1 l2)
  (hz:IsZip s.heap z TI TO .none) (hTI:IsPair s.heap TI (.ref i1) (.ref i2)) (hTO:IsPair s.heap TO a b)
  (h1:It k s.heap i1 l1 k1) (h2:It m s.heap i2 l2 k2) (hl1:Is k s.heap l1 xs) (hl2:Is m s.heap l2 ys) (hx:xs[k1]?=some x) (hy:ys[k2]?=some y)
  (hQ:∀ h',IsZip h' z TI TO (rawInt s.heap.objs.size)->IsPair h' TO x y->It k h' i1 l1 (k1 + 1)->It m h' i2 l2 (k2 + 1)->IsPair h' s.heap.objs.size x y->h'.objs.size=s.heap.objs.size + 1->
   (∀ c o,c ∉ [z,TI,TO,i1,i2]->s.heap.get? c=some o->h'.get? c=some o)->IsPair h' TI (.ref i1) (.ref i2)->Q (.ref s.heap.objs.size) { s with heap:=h' }):
  wpAny (model prog w) A (Builtin.«zip.__next__» ⟨[.ref z],[]⟩) (λfin s'=>∃ v,fin=.done (.ret v)/\Q v s') E s:=by
 obtain ⟨⟨nTIz,nTOz,n1z,n2z,nTITO,nTI1,nTI2⟩,⟨nTO1,nTO2,n12⟩,⟨p1,p2,p3,p4⟩,⟨q1,q2,q3,q4⟩⟩:=D
 show wpAny _ _ (field (.ref z) 2 >>= _) _ _ _; refine J6 (Yq hz rfl (x:=.bool false) rfl ?_); show wpAny _ _ (field (.ref z) 3 >>= _) _ _ _
 refine J6 (Yq hz rfl (x:=.ref TI) rfl ?_); refine J6 (Zd hTI rfl ?_); show wpAny _ _ (Builtin.SmallTypes.ownedTupleIsFree (.ref z) >>= _) _ _ _
 refine J6 ?_; unfold Builtin.SmallTypes.ownedTupleIsFree; refine J6 (Yq hz rfl (x:=.none) rfl (Jd ?_)); simp only [Yj]
 refine J6 (Z0 ?_); refine J6 (Yq hz rfl (x:=.ref TO) rfl ?_); refine J6 (Qn hz (by simp) λh₁ hz₁ s1=>?_)
 replace hz₁:IsZip h₁ z TI TO .ellipsis:=hz₁; refine J6 ?_; simp only [List.zipIdx_cons,List.zipIdx_nil,Vp,List.forIn_nil]
 refine J6 (J6 (Ub ?_)); show wpAny _ _ (Builtin.SmallTypes.nextOf (.ref i1) >>= _) _ _ _
 refine J6 (next (h1.move λo=>sb s1 n1z) (hl1.move λo=>sb s1 p1) hx λh₂ h1₂ s2=>Jd ?_)
 have hTO₂:IsPair h₂ TO a b:=sb s2 nTO1 (sb s1 nTOz hTO)
 refine J6 (Zd hTO₂ rfl ?_); refine J6 (Vr hTO₂ λh₃ hTO₃ s3=>?_)
 replace hTO₃:IsPair h₃ TO x b:=hTO₃
 refine J6 (Ww (Jd ?_)); refine J6 (J6 (Ub ?_)); show wpAny _ _ (Builtin.SmallTypes.nextOf (.ref i2) >>= _) _ _ _
 refine J6 (next (h2.move λo e=>sb s3 nTO2.symm (sb s2 n12.symm (sb s1 n2z e))) (hl2.move λo e=>sb s3 q2 (sb s2 q3 (sb s1 q1 e))) hy λh₄ h2₄ s4=>Jd ?_)
 have hTO₄:IsPair h₄ TO x b:=sb s4 nTO2 hTO₃
 refine J6 (Zd hTO₄ rfl ?_); refine J6 (Vr hTO₄ λh₅ hTO₅ s5=>?_)
 replace hTO₅:IsPair h₅ TO x y:=hTO₅
 refine J6 (Ww (Jd (Jd ?_))); refine J6 (Zd hTO₅ rfl ?_); refine J6 (wpAny_newTuple ?_)
 have hsz:h₅.objs.size=s.heap.objs.size:=by rw [s5.1,s4.1,s3.1,s2.1,s1.1]
 have k5:∀ c o,c ≠ z->c ≠ TO->c ≠ i1->c ≠ i2->s.heap.get? c=some o->h₅.get? c=some o:=λc o c1 c2 c3 c4 e=>sb s5 c2 (sb s4 c4 (sb s3 c2 (sb s2 c3 (sb s1 c1 e))))
 have hz₅:IsZip h₅ z TI TO .ellipsis:=sb s5 nTOz.symm (sb s4 n2z.symm (sb s3 nTOz.symm (sb s2 n1z.symm hz₁)))
 have h1₅:It k h₅ i1 l1 (k1 + 1):=h1₂.move λo e=>sb s5 nTO1.symm (sb s4 n12 (sb s3 nTO1.symm e))
 have h2₅:It m h₅ i2 l2 (k2 + 1):=h2₄.move λo e=>sb s5 nTO2.symm e
 have zlt:z < h₅.objs.size:=Jk hz₅
 show wpAny _ _ (Builtin.SmallTypes.ownedTupleHandOut (.ref z) (.ref h₅.objs.size) >>= _) _ _ _; refine J6 ?_; unfold Builtin.SmallTypes.ownedTupleHandOut
 have hz₆:IsZip (h₅.push { cls:=.type "tuple",data:=.seq #[x,y] }) z TI TO .ellipsis:=J7 _ hz₅
 refine J6 (Qn hz₆ (by simp) λh₇ hz₇ s7=>?_); replace hz₇:IsZip h₇ z TI TO (rawInt h₅.objs.size):=hz₇
 refine Qn hz₇ (by simp) λh₈ hz₈ s8=>?_; replace hz₈:IsZip h₈ z TI TO (rawInt h₅.objs.size):=hz₈
 have up:∀ c o,c ≠ z->h₅.get? c=some o->h₈.get? c=some o:=λc o c1 e=>sb s8 c1 (sb s7 c1 (J7 _ e))
 have hT₈:IsPair h₈ h₅.objs.size x y:=sb s8 (Qe zlt) (sb s7 (Qe zlt) (Ji _ rfl))
 have hz8:h₈.objs.size=h₅.objs.size + 1:=by rw [s8.1,s7.1,Y4]
 rw [hsz] at hz₈ hT₈ hz8; refine Jd ⟨_,rfl,?_⟩; show Q (.ref h₅.objs.size) _; rw [hsz]
 refine hQ h₈ hz₈ (up _ _ nTOz hTO₅) (h1₅.move λo e=>up _ o n1z e) (h2₅.move λo e=>up _ o n2z e) hT₈ hz8 (λc o hc e=>?_) (up _ _ nTIz (k5 _ _ nTIz nTITO nTI1 nTI2 hTI))
 simp only [Jg,Jz,Z2,not_or] at hc; exact up c o hc.1 (k5 c o hc.1 hc.2.2.1 hc.2.2.2.1 hc.2.2.2.2 e)
theorem AQ {k m:Bool} {TI TO:Addr} {k1 k2:Nat} {xs ys:Array Value} {a b:Value} {Q:Fin->Shared->Prop} (hh:A.handled=none) (D:Apart z TI TO i1 i2 l1 l2)
  (hz:IsZip s.heap z TI TO .none) (hTI:IsPair s.heap TI (.ref i1) (.ref i2)) (hTO:IsPair s.heap TO a b)
  (h1:It k s.heap i1 l1 k1) (h2:It m s.heap i2 l2 k2) (hl1:Is k s.heap l1 xs) (hl2:Is m s.heap l2 ys) (hend:xs[k1]?=none \/ ys[k2]?=none)
  (hE:∀ h' e,(∀ c o,c ∉ [z,TI,TO,i1,i2]->s.heap.get? c=some o->h'.get? c=some o)->(∃ o,h'.get? e=some o/\o.cls=.type "StopIteration")->E (.ref e) { s with heap:=h' }):
  wpAny (model prog w) A (Builtin.«zip.__next__» ⟨[.ref z],[]⟩) Q E s:=by
 obtain ⟨⟨nTIz,nTOz,n1z,n2z,nTITO,nTI1,nTI2⟩,⟨nTO1,nTO2,n12⟩,⟨p1,p2,p3,p4⟩,⟨q1,q2,q3,q4⟩⟩:=D
 show wpAny _ _ (field (.ref z) 2 >>= _) _ _ _; refine J6 (Yq hz rfl (x:=.bool false) rfl ?_); show wpAny _ _ (field (.ref z) 3 >>= _) _ _ _
 refine J6 (Yq hz rfl (x:=.ref TI) rfl ?_); refine J6 (Zd hTI rfl ?_); show wpAny _ _ (Builtin.SmallTypes.ownedTupleIsFree (.ref z) >>= _) _ _ _
 refine J6 ?_; unfold Builtin.SmallTypes.ownedTupleIsFree; refine J6 (Yq hz rfl (x:=.none) rfl (Jd ?_)); simp only [Yj]
 refine J6 (Z0 ?_); refine J6 (Yq hz rfl (x:=.ref TO) rfl ?_); refine J6 (Qn hz (by simp) λh₁ hz₁ s1=>?_)
 replace hz₁:IsZip h₁ z TI TO .ellipsis:=hz₁; refine J6 ?_; simp only [List.zipIdx_cons,List.zipIdx_nil,Vp,List.forIn_nil]
 refine J6 (J6 (Ub ?_)); show wpAny _ _ (Builtin.SmallTypes.nextOf (.ref i1) >>= _) _ _ _
 cases hx:xs[k1]? with
 | none=>
  refine J6 (ends hh (h1.move λo=>sb s1 n1z) (hl1.move λo=>sb s1 p1) hx λh₂ e s2 he=>?_)
  obtain ⟨oe,hoe,hce⟩:=he; have hz₂:IsZip h₂ z TI TO .ellipsis:=s2 _ _ n1z.symm hz₁
  have hez:e ≠ z:=λx=>by subst x; rw [hz₂] at hoe; cases hoe; simp at hce
  refine Qn hz₂ (by simp) λh₃ _ s3=>hE h₃ e (λc o hc x=>?_) ⟨oe,sb s3 hez hoe,hce⟩
  simp only [Jg,Jz,Z2,not_or] at hc; exact sb s3 hc.1 (s2 _ _ hc.2.2.2.1 (sb s1 hc.1 x))
 | some x=>
  have hy:ys[k2]?=none:=hend.resolve_left λh=>by rw [hx] at h; cases h
  refine J6 (next (h1.move λo=>sb s1 n1z) (hl1.move λo=>sb s1 p1) hx λh₂ h1₂ s2=>Jd ?_)
  have hTO₂:IsPair h₂ TO a b:=sb s2 nTO1 (sb s1 nTOz hTO)
  refine J6 (Zd hTO₂ rfl ?_); refine J6 (Vr hTO₂ λh₃ hTO₃ s3=>?_)
  refine J6 (Ww (Jd ?_)); refine J6 (J6 (Ub ?_)); show wpAny _ _ (Builtin.SmallTypes.nextOf (.ref i2) >>= _) _ _ _
  refine J6 (ends hh (h2.move λo e=>sb s3 nTO2.symm (sb s2 n12.symm (sb s1 n2z e))) (hl2.move λo e=>sb s3 q2 (sb s2 q3 (sb s1 q1 e))) hy λh₄ e s4 he=>?_)
  obtain ⟨oe,hoe,hce⟩:=he; have hz₄:IsZip h₄ z TI TO .ellipsis:=s4 _ _ n2z.symm (sb s3 nTOz.symm (sb s2 n1z.symm hz₁))
  have hez:e ≠ z:=λx=>by subst x; rw [hz₄] at hoe; cases hoe; simp at hce
  refine Qn hz₄ (by simp) λh₅ _ s5=>hE h₅ e (λc o hc x=>?_) ⟨oe,sb s5 hez hoe,hce⟩
  simp only [Jg,Jz,Z2,not_or] at hc; exact sb s5 hc.1 (s4 _ _ hc.2.2.2.2 (sb s3 hc.2.2.1 (sb s2 hc.2.2.2.1 (sb s1 hc.1 x))))
theorem zip_next {k m:Bool} {TI TO:Addr} {k1 k2:Nat} {xs ys:Array Value} {x y a b:Value} {Q:Option Value->Shared->Prop} (D:Apart z TI TO i1 i2 l1 l2)
  (hz:IsZip s.heap z TI TO .none) (hTI:IsPair s.heap TI (.ref i1) (.ref i2)) (hTO:IsPair s.heap TO a b)
  (h1:It k s.heap i1 l1 k1) (h2:It m s.heap i2 l2 k2) (hl1:Is k s.heap l1 xs) (hl2:Is m s.heap l2 ys) (hx:xs[k1]?=some x) (hy:ys[k2]?=some y)
  (hQ:∀ h',IsZip h' z TI TO (rawInt s.heap.objs.size)->IsPair h' TO x y->It k h' i1 l1 (k1 + 1)->It m h' i2 l2 (k2 + 1)->IsPair h' s.heap.objs.size x y->h'.objs.size=s.heap.objs.size + 1->
   (∀ c o,c ∉ [z,TI,TO,i1,i2]->s.heap.get? c=some o->h'.get? c=some o)->IsPair h' TI (.ref i1) (.ref i2)->Q (some (.ref s.heap.objs.size)) { s with heap:=h' }):wpAny (model prog w) A (pyNext (.ref z)) Q E s:=by
 have hT:s.TypeIs (.ref z) "zip":=⟨_,hz,rfl⟩; unfold pyNext
 exact J6 (Va (Z9 (name:=Str.ofString "__next__") hT Vs (Zf Vs hT F.entry_zip_next (yw D hz hTI hTO h1 h2 hl1 hl2 hx hy λh' a1 a2 a3 a4 a5 a6 a7 a8=>Jd (hQ h' a1 a2 a3 a4 a5 a6 a7 a8)) (F.args_zip_next_1 _))))
theorem zip_stop {k m:Bool} {TI TO:Addr} {k1 k2:Nat} {xs ys:Array Value} {a b:Value} {Q:Option Value->Shared->Prop} (hh:A.handled=none) (D:Apart z TI TO i1 i2 l1 l2)
  (hz:IsZip s.heap z TI TO .none) (hTI:IsPair s.heap TI (.ref i1) (.ref i2)) (hTO:IsPair s.heap TO a b)
  (h1:It k s.heap i1 l1 k1) (h2:It m s.heap i2 l2 k2) (hl1:Is k s.heap l1 xs) (hl2:Is m s.heap l2 ys) (hend:xs[k1]?=none \/ ys[k2]?=none)
  (hQ:∀ h',(∀ c o,c ∉ [z,TI,TO,i1,i2]->s.heap.get? c=some o->h'.get? c=some o)->Q none { s with heap:=h' }):wpAny (model prog w) A (pyNext (.ref z)) Q E s:=by
 have hT:s.TypeIs (.ref z) "zip":=⟨_,hz,rfl⟩; unfold pyNext
 refine J6 (Va (Z9 (name:=Str.ofString "__next__") hT Vs (Zf Vs hT F.entry_zip_next (AQ hh D hz hTI hTO h1 h2 hl1 hl2 hend λh' e hk he=>?_) (F.args_zip_next_1 _))))
 obtain ⟨o,ho,hc⟩:=he; refine J6 (Vc (T:="StopIteration") (b:=true) ⟨o,ho,hc⟩ isSubtype_stop ?_); exact Jd (hQ _ hk)
end
noncomputable abbrev z1 (k:Bool) (h:Heap) (l1:Addr):Heap:=h.push { cls:=.type (nm k),data:=.fields #[.ref l1,.int 0 0] }
noncomputable abbrev z2 (k m:Bool) (h:Heap) (l1 l2:Addr):Heap:=(z1 k h l1).push { cls:=.type (nm m),data:=.fields #[.ref l2,.int 0 0] }
noncomputable abbrev z3 (k m:Bool) (h:Heap) (l1 l2:Addr):Heap:=(z2 k m h l1 l2).push { cls:=.type "tuple",data:=.seq #[.ref h.objs.size,.ref (z1 k h l1).objs.size] }
noncomputable abbrev z4 (k m:Bool) (h:Heap) (l1 l2:Addr):Heap:=(z3 k m h l1 l2).push { cls:=.type "tuple",data:=.seq #[.none,.none] }
noncomputable abbrev z5 (k m:Bool) (h:Heap) (l1 l2:Addr):Heap:=(z4 k m h l1 l2).push { cls:=.type "zip",data:=.fields #[.none,.bool false,.bool false,.ref (z2 k m h l1 l2).objs.size,.ref (z3 k m h l1 l2).objs.size] }
theorem wN (k m:Bool) (l1 l2:Addr) (xs ys:Array Value):
  Meets (Builtin.«zip.__new__» ⟨[.type "zip",.ref l1,.ref l2],[]⟩) (λ_ R s=>Is k s.heap l1 xs/\Is m s.heap l2 ys/\R (.ok (.ret (.ref (z4 k m s.heap l1 l2).objs.size))) { s with heap:=z5 k m s.heap l1 l2 }):=
 .of_wp λprog w A R s h=>by
  obtain ⟨hp,g,d,tk,os⟩:=s; obtain ⟨hl1,hl2,h⟩:=h; have hsub:=sub_zip
  have hL1:Is k (Shared.heap ⟨hp,g,d,tk,os⟩) l1 xs:=hl1
  have hL2:Is m (Shared.heap ⟨hp.push { cls:=.type (nm k),data:=.fields #[.ref l1,.int 0 0] },g,d,tk,os⟩) l2 ys:=hl2.move λo e=>J7 _ e
  wp_walk using iter hL1,iter hL2
  exact ⟨_,rfl,h⟩
section
variable {prog:Program} {w:World} {A:Around} {E:Value->Shared->Prop} {s:Shared}
theorem call_zip {k m:Bool} {ys:Array Value} {Q:Value->Shared->Prop} (hl1:Is k s.heap l1 xs) (hl2:Is m s.heap l2 ys)
  (h:∀ h',IsZip h' (s.heap.objs.size + 4) (s.heap.objs.size + 2) (s.heap.objs.size + 3) .none->IsPair h' (s.heap.objs.size + 2) (.ref s.heap.objs.size) (.ref (s.heap.objs.size + 1))->
   IsPair h' (s.heap.objs.size + 3) .none .none->It k h' s.heap.objs.size l1 0->It m h' (s.heap.objs.size + 1) l2 0->h'.objs.size=s.heap.objs.size + 5->
   (∀ c o,s.heap.get? c=some o->h'.get? c=some o)->Q (.ref (s.heap.objs.size + 4)) { s with heap:=h' }):wpAny (model prog w) A (call (.type "zip") [.ref l1,.ref l2]) Q E s:=by
 refine callType_new F.called_zip (by decide) (F.typeCall_zip_2 _ _) (F.newCall_zip_2 _ _) (λobj=>F.args_object_init_3 obj _ _) F.entry_zip_new (wN k m l1 l2 xs ys) ⟨hl1,hl2,?_⟩
 have e1:(z1 k s.heap l1).objs.size=s.heap.objs.size + 1:=Y4 ..
 have e2:(z2 k m s.heap l1 l2).objs.size=s.heap.objs.size + 2:=by rw [Y4,e1]
 have e3:(z3 k m s.heap l1 l2).objs.size=s.heap.objs.size + 3:=by rw [Y4,e2]
 have e4:(z4 k m s.heap l1 l2).objs.size=s.heap.objs.size + 4:=by rw [Y4,e3]
 have e5:(z5 k m s.heap l1 l2).objs.size=s.heap.objs.size + 5:=by rw [Y4,e4]
 have g5:(z5 k m s.heap l1 l2).get? (z4 k m s.heap l1 l2).objs.size=some _:=Ji _ rfl
 have g4:(z5 k m s.heap l1 l2).get? (z3 k m s.heap l1 l2).objs.size=some _:=J7 _ (Ji _ rfl)
 have g3:(z5 k m s.heap l1 l2).get? (z2 k m s.heap l1 l2).objs.size=some _:=J7 _ (J7 _ (Ji _ rfl))
 have g2:(z5 k m s.heap l1 l2).get? (z1 k s.heap l1).objs.size=some _:=J7 _ (J7 _ (J7 _ (Ji _ rfl)))
 have g1:(z5 k m s.heap l1 l2).get? s.heap.objs.size=some _:=J7 _ (J7 _ (J7 _ (J7 _ (Ji _ rfl))))
 show _/\_; rw [e2,e3,e4] at g5; rw [e1,e2] at g3; rw [e3] at g4; rw [e1] at g2; rw [e4]
 exact ⟨⟨_,g5,rfl⟩,h _ g5 g3 g4 ⟨_,g1,rfl,rfl⟩ ⟨_,g2,rfl,rfl⟩ e5 λc o x=>J7 _ (J7 _ (J7 _ (J7 _ (J7 _ x))))⟩
end
theorem t4 (k:Bool) (l:Addr) (items:Array Value) (ob:Obj):
  Meets (Builtin.«enumerate.__new__» ⟨[.type "enumerate",.ref l],[]⟩) (λ_ R s=>Is k s.heap l items/\s.heap.get? l=some ob/\
   R (.ok (.ret (.ref (s.heap.push { cls:=.type (nm k),data:=.fields #[.ref l,.int 0 0] }).objs.size)))
    { s with heap:=(s.heap.push { cls:=.type (nm k),data:=.fields #[.ref l,.int 0 0] }).push { cls:=.type "enumerate",data:=.fields #[.none,.bool false,.ref s.heap.objs.size,rawInt 0,.none,.none] } }):=
 .of_wp λprog w A R s h=>by
  obtain ⟨hp,g,d,tk,os⟩:=s; obtain ⟨hl,ho,h⟩:=h; have hsub:=sub_enumerate
  have hL:Is k (Shared.heap ⟨hp,g,d,tk,os⟩) l items:=hl
  wp_walk using W3 ho
  refine wpAny_stack_any λst=>Jd ?_
  split
  ·rename_i c _ _ _ _ _; cases (c == Value.type "enumerate")
   ·wp_walk using W3 ho,iter hL
    exact ⟨_,rfl,h⟩
   ·wp_walk using W3 ho,iter hL
    exact ⟨_,rfl,h⟩
  ·wp_walk using W3 ho,iter hL
   exact ⟨_,rfl,h⟩
section
variable {prog:Program} {w:World} {A:Around} {E:Value->Shared->Prop} {s:Shared}
theorem call_enum {k:Bool} {items:Array Value} {Q:Value->Shared->Prop} (hL:Is k s.heap l items)
  (h:∀ h',IsEnum h' (s.heap.objs.size + 1) s.heap.objs.size 0 .none->It k h' s.heap.objs.size l 0->h'.objs.size=s.heap.objs.size + 2->
   (∀ b o,s.heap.get? b=some o->h'.get? b=some o)->Q (.ref (s.heap.objs.size + 1)) { s with heap:=h' }):wpAny (model prog w) A (call (.type "enumerate") [.ref l]) Q E s:=by
 obtain ⟨ob,ho,_,_,_⟩:=hL.obj
 refine callType_new F.called_enumerate (by decide) (F.typeCall_enumerate_1 _) (F.newCall_enumerate_1 _) (λobj=>F.args_object_init_2 obj _) F.entry_enumerate_new (t4 k l items ob) ⟨hL,ho,?_⟩
 have hz:(s.heap.push { cls:=.type (nm k),data:=.fields #[.ref l,.int 0 0] }).objs.size=s.heap.objs.size + 1:=Y4 ..
 show _/\_; rw [hz]
 have he:IsEnum ((s.heap.push { cls:=.type (nm k),data:=.fields #[.ref l,.int 0 0] }).push { cls:=.type "enumerate",data:=.fields #[.none,.bool false,.ref s.heap.objs.size,rawInt 0,.none,.none] }) (s.heap.objs.size + 1) s.heap.objs.size 0 .none:=by
  have:=Ji (s.heap.push { cls:=.type (nm k),data:=.fields #[.ref l,.int 0 0] }) (o:={ cls:=.type "enumerate",data:=.fields #[.none,.bool false,.ref s.heap.objs.size,rawInt 0,.none,.none] }) rfl
  rw [hz] at this; exact this
 exact ⟨⟨_,he,rfl⟩,h _ he ⟨_,J7 _ (Ji _ rfl),rfl,rfl⟩ (by rw [Y4,hz]) λb o x=>J7 _ (J7 _ x)⟩
end
theorem draws {prog:Program} {w:World} {A:Around} (k:Bool) (hh:A.handled=none) (it l:Addr) (hne:l ≠ it) (items:Array Value):
  Draws prog w A it [it,l] items.size (λi v=>items[i]?=some v) (λi h=>It k h it l i/\Is k h l items) where
 live:=λ_ _ st=>let ⟨o,ho,_⟩:=st.1; ⟨o,ho⟩
 frame:=λ_ _ _ st hk=>⟨st.1.move λo e=>hk it (by simp) o e,st.2.move λo e=>hk l (by simp) o e⟩
 item:=λi s Q E hi st hQ=>next st.1 st.2 (x:=items[i]) (by simp [hi]) λh' hit' hs'=>hQ _ h' s.toks (by simp [hi]) ⟨hit',st.2.move λo=>sb hs' hne⟩ hs'
 done:=λs Q E st hE=>ends hh st.1 st.2 (by simp) hE
end SQ
namespace L2
open PySem PySem.Spec PyProof.Rows
section
variable {X:Cx} {pins:List (Addr × Obj)} {σ:St} {H:Hp} {s:Shared} {h':Heap}
theorem Inv.turnedS {t':Nat} {fp:List Addr} (I:Inv X pins σ H s) (k:∀ b o,b ∉ fp->s.heap.get? b=some o->h'.get? b=some o) (hf:∀ b ∈ fp,FpOk X pins H b):Inv X pins σ H { s with heap:=h',toks:=t' }:=by
 refine I.step (g':=s.gens) (d':=s.drawn) (ch:=fp) (λb hb=>?_) (λb o _ _ hc e _=>k b o hc e) (λb o _ _ hc e _=>⟨o.slots,k b o hc e⟩) (λ_ _ _ _ n=>n)
  (λb o hc e=>⟨o,k b o hc e⟩) (λ_ _ e=>e) (λ_ _ _ e=>e) (λb ps e=>⟨#[],by rw [e]; simp⟩) (λm hm=>?_) (λb u e=>?_) I.bare
 ·obtain ⟨f0,f1,f2,f3,f4,f5⟩:=hf b hb; exact ⟨f3,f1,f4,f5⟩
 ·obtain ⟨o,es,ep,ho,r⟩:=hm
  exact ⟨o,es,ep,k _ o (λz=>(hf _ z).2.1 rfl) ho,r⟩
 ·refine (I.hok b u e).stay (λc v hc q=>k c v (λz=>?_) q) (λ_ q=>q) λ_ _ q=>q
  have hn:=(hf c z).1
  rcases hc with y | y
  ·rw [y,e] at hn; cases hn
  ·rw [y] at hn; cases hn
theorem Inv.turnedP {t':Nat} {fp:List Addr} {x y:V} {u v:Value} (I:Inv X pins σ H s) (hf:∀ b ∈ fp,FpOk X pins H b) (hlt:∀ b ∈ fp,b < s.heap.objs.size) (rx:RelV x u) (ry:RelV y v)
  (k:∀ b o,b ∉ fp->s.heap.get? b=some o->h'.get? b=some o) (hp:IsPair h' s.heap.objs.size u v):Inv X pins σ (upd H s.heap.objs.size (.tup [x,y])) { s with heap:=h',toks:=t' }:=by
 have I1:Inv X pins σ (upd H s.heap.objs.size (.tup [x,y])) { s with heap:=s.heap.push { cls:=.type "tuple",data:=.seq #[u,v] },toks:=t' }:=
  I.laid (t':=t') (λb u e=>J7 _ e) (Jb _) ⟨by show 2<=sizeLine; decide,[u,v],.cons rx (.cons ry .nil),⟨_,Ji _ rfl,rfl,_,rfl⟩⟩
 refine Inv.turnedS (s:={ s with heap:=s.heap.push { cls:=.type "tuple",data:=.seq #[u,v] },toks:=t' }) (fp:=fp) (t':=t') (h':=h') I1 (λb o hb e=>?_) λb hb=>?_
 ·rcases Heap.get?_push_cases e with ⟨rfl,rfl⟩ | e
  ·exact hp
  ·exact k b o hb e
 ·obtain ⟨f0,f1⟩:=hf b hb
  exact ⟨by rw [aL (Jt (hlt b hb))]; exact f0,f1⟩
theorem pR {fp:List Addr} (hf:∀ b ∈ fp,FpOk X pins H b) (hlt:∀ b ∈ fp,b < s.heap.objs.size) {o:HO}:∀ b ∈ fp,upd H s.heap.objs.size o b=none:=λb hb=>by
 rw [aL (Jt (hlt b hb))]; exact (hf b hb).1
end
noncomputable def SqK (K:PySem.W.Frag):Bool->Hp->Addr->List V->Prop
 | true,H,a,xs=>SqT K H a xs
 | false,H,a,xs=>SqL K H a xs
theorem Inv.sqk {X:Cx} {pins:List (Addr × Obj)} {σ:St} {H:Hp} {s:Shared} {k:Bool} {a:Addr} {xs:List V} (I:Inv X pins σ H s) (h:SqK X.K k H a xs):∃ its:List Value,Vals xs its/\SQ.Is k s.heap a its.toArray/\xs.length<=sizeLine:=by
 cases k with
 | true=>obtain ⟨its,r,p,z⟩:=I.tuple h; exact ⟨its,r,show s.heap.IsTuple a its.toArray from p,z⟩
 | false=>obtain ⟨its,r,p,z⟩:=I.list h; exact ⟨its,r,p.isList,z⟩
theorem Inv.sqk_inj {X:Cx} {pins:List (Addr × Obj)} {σ:St} {H:Hp} {s:Shared} {k:Bool} {a:Addr} {xs ys:List V} (I:Inv X pins σ H s) (h:SqK X.K k H a xs) (h2:SqK X.K k H a ys):xs=ys:=by
 cases k with
 | true=>exact I.tuple_inj h h2
 | false=>exact I.list_inj h h2
noncomputable def Itz (K:PySem.W.Frag) (k m:Bool) (a b:Addr):It:=
  ⟨λi H=>∃ xs ys x y,SqK K k H a xs/\SqK K m H b ys/\xs[i]?=some x/\ys[i]?=some y,
   λi H v H'=>∃ p x y,v=.ref p/\H p=none/\H'=upd H p (.tup [x,y])/\∀ xs ys,SqK K k H a xs->SqK K m H b ys->xs[i]?=some x/\ys[i]?=some y,
   λi H=>∃ xs ys,SqK K k H a xs/\SqK K m H b ys/\(xs.length<=i \/ ys.length<=i)⟩
noncomputable def Ite (K:PySem.W.Frag) (k:Bool) (a:Addr):It:=
  ⟨λi H=>∃ xs x,SqK K k H a xs/\xs[i]?=some x,
   λi H v H'=>∃ p x,v=.ref p/\H p=none/\H'=upd H p (.tup [.int i,x])/\∀ xs,SqK K k H a xs->xs[i]?=some x,
   λi H=>∃ xs,SqK K k H a xs/\xs.length<=i⟩
structure Zst (k m:Bool) (z TI TO i1 i2 a b:Addr) (i:Nat) (h:Heap):Prop where
 hz:IsZip h z TI TO .none
 hTI:IsPair h TI (.ref i1) (.ref i2)
 hTO:∃ u v,IsPair h TO u v
 h1:SQ.It k h i1 a i
 h2:SQ.It m h i2 b i
structure Znd (z TI TO i1 i2:Addr):Prop where
 a:TI ≠ z/\TO ≠ z/\i1 ≠ z/\i2 ≠ z/\TI ≠ TO/\TI ≠ i1/\TI ≠ i2
 b:TO ≠ i1/\TO ≠ i2/\i1 ≠ i2
theorem yx {P:Program} {w:World} {K:PySem.W.Frag} {es:List Expr} {n:Nat} {pos:Pos} {k m:Bool} (z TI TO i1 i2 a b:Addr) (N:Znd z TI TO i1 i2) (na:a ∉ [z,TI,TO,i1,i2]) (nb:b ∉ [z,TI,TO,i1,i2]):
  Turn false P w K (.Tuple es n pos) (Itz K k m a b) [z,TI,TO,i1,i2] z (Zst k m z TI TO i1 i2 a b) where
 mem:=by simp
 obj:=λi h st c hc=>by
  obtain ⟨hz,hTI,⟨u,v,hTO⟩,⟨o1,e1,c1,d1⟩,⟨o2,e2,c2,d2⟩⟩:=st
  simp only [Jg,Jz,Z2] at hc
  rcases hc with rfl | rfl | rfl | rfl | rfl
  ·exact ⟨_,hz,λv z=>by cases z⟩
  ·exact ⟨_,hTI,λv z=>by cases z⟩
  ·exact ⟨_,hTO,λv z=>by cases z⟩
  ·exact ⟨_,e1,λv z=>by rw [d1] at z; cases z⟩
  ·exact ⟨_,e2,λv z=>by rw [d2] at z; cases z⟩
 keep:=λi h h' ⟨hz,hTI,⟨u,v,hTO⟩,h1,h2⟩ q=>⟨q z (by simp) _ hz,q TI (by simp) _ hTI,⟨u,v,q TO (by simp) _ hTO⟩,h1.move λo e=>q i1 (by simp) o e,h2.move λo e=>q i2 (by simp) o e⟩
 item:=by
  intro X hP hw hK hc i pins s σ H E I hf st hg
  subst hP hw hK
  obtain ⟨xs,ys,x,y,hq,hr,hx,hy⟩:=hg
  obtain ⟨us,ru,pu,_⟩:=I.sqk hq
  obtain ⟨vs,rv,pv,_⟩:=I.sqk hr
  obtain ⟨u,hu,rxu⟩:=ru.get hx
  obtain ⟨v,hv,ryv⟩:=rv.get hy
  obtain ⟨hz,hTI,⟨u0,v0,hTO⟩,h1,h2⟩:=st
  simp only [Jg,Jz,Z2,not_or] at na nb
  have D:SQ.Apart z TI TO i1 i2 a b:=⟨N.a,N.b,⟨na.1,na.2.2.1,na.2.2.2.1,na.2.2.2.2⟩,⟨nb.1,nb.2.2.1,nb.2.2.2.1,nb.2.2.2.2⟩⟩
  have hlt:∀ c ∈ [z,TI,TO,i1,i2],c < s.heap.objs.size:=λc hc=>by
   simp only [Jg,Jz,Z2] at hc
   rcases hc with rfl | rfl | rfl | rfl | rfl
   ·exact Jk hz
   ·exact Jk hTI
   ·exact Jk hTO
   ·obtain ⟨_,e,_⟩:=h1; exact Jk e
   ·obtain ⟨_,e,_⟩:=h2; exact Jk e
  refine SQ.zip_next D hz hTI hTO h1 h2 pu pv (x:=u) (y:=v) (by simpa using hu) (by simpa using hv) λh' a1 a2 a3 a4 a5 a6 a7 a8=>⟨_,rfl,?_⟩
  refine wpAny_letOwnedTupleGo_zip (s:={ s with heap:=h' }) a1 λh2' hz' hs'=>?_
  have up:∀ c o,c ≠ z->h'.get? c=some o->h2'.get? c=some o:=λc o n e=>SQ.sb hs' n e
  obtain ⟨⟨nTIz,nTOz,n1z,n2z,_⟩,_⟩:=id N
  refine ⟨.ref s.heap.objs.size,_,I.turnedP (t':=s.toks) (h':=h2') hf hlt rxu ryv (λc o hc e=>up c o (λq=>hc (by simp [q])) (a7 c o hc e)) (up _ _ (Qe (Jk hz)) a5),rfl,
   ⟨_,x,y,rfl,I.fresh,rfl,λxs' ys' q1 q2=>⟨by rw [I.sqk_inj q1 hq]; exact hx,by rw [I.sqk_inj q2 hr]; exact hy⟩⟩,
   ⟨hz',up _ _ nTIz a8,⟨_,_,up _ _ nTOz a2⟩,a3.move λo e=>up _ o n1z e,a4.move λo e=>up _ o n2z e⟩,pR hf hlt⟩
 done:=by
  intro X hP hw hK hc i pins s σ H E I hf st hg
  subst hP hw hK
  obtain ⟨xs,ys,hq,hr,hx⟩:=hg
  obtain ⟨us,ru,pu,_⟩:=I.sqk hq
  obtain ⟨vs,rv,pv,_⟩:=I.sqk hr
  obtain ⟨hz,hTI,⟨u0,v0,hTO⟩,h1,h2⟩:=st
  simp only [Jg,Jz,Z2,not_or] at na nb
  have D:SQ.Apart z TI TO i1 i2 a b:=⟨N.a,N.b,⟨na.1,na.2.2.1,na.2.2.2.1,na.2.2.2.2⟩,⟨nb.1,nb.2.2.1,nb.2.2.2.1,nb.2.2.2.2⟩⟩
  have l1:=ru.length
  have l2:=rv.length
  refine SQ.zip_stop (I.ok.hd hc.cm) D hz hTI hTO h1 h2 pu pv (hx.imp (λq=>by simp; omega) λq=>by simp; omega) λh' kk=>⟨rfl,I.turnedS (t':=s.toks) kk hf⟩
 self:=λ_ _ _ _ _ st h=>wpAny_pyIter_zip st.hz h
structure Est (k:Bool) (e it a:Addr) (i:Nat) (h:Heap):Prop where
 he:∃ old,IsEnum h e it i old
 h1:SQ.It k h it a i
theorem wO {P:Program} {w:World} {K:PySem.W.Frag} {es:List Expr} {n:Nat} {pos:Pos} {k:Bool} (e it a:Addr) (ne:e ≠ it) (na:a ≠ e/\a ≠ it):
  Turn false P w K (.Tuple es n pos) (Ite K k a) [e,it] e (Est k e it a) where
 mem:=by simp
 obj:=λi h st c hc=>by
  obtain ⟨⟨old,he⟩,⟨o1,e1,c1,d1⟩⟩:=st
  simp only [Jg,Jz,Z2] at hc
  rcases hc with rfl | rfl
  ·exact ⟨_,he,λv z=>by cases z⟩
  ·exact ⟨_,e1,λv z=>by rw [d1] at z; cases z⟩
 keep:=λi h h' ⟨⟨old,he⟩,h1⟩ q=>⟨⟨old,q e (by simp) _ he⟩,h1.move λo x=>q it (by simp) o x⟩
 item:=by
  intro X hP hw hK hc i pins s σ H E I hf st hg
  subst hP hw hK
  obtain ⟨xs,x,hq,hx⟩:=hg
  obtain ⟨us,ru,pu,_⟩:=I.sqk hq
  obtain ⟨u,hu,rxu⟩:=ru.get hx
  obtain ⟨⟨old,he⟩,h1⟩:=st
  have hlt:∀ c ∈ [e,it],c < s.heap.objs.size:=λc hc=>by
   simp only [Jg,Jz,Z2] at hc
   rcases hc with rfl | rfl
   ·exact Jk he
   ·obtain ⟨_,e,_⟩:=h1; exact Jk e
  have hi:i < us.toArray.size:=by
   have:=(J9.mp hu).1
   simpa using this
  have D:=SQ.draws (prog:=X.prog) (w:=X.w) (A:=X.A.in1) k (I.ok.hd hc.cm) it a na.2 us.toArray
  refine wpAny_pyNext_enum_itemD D he ⟨h1,pu⟩ hi ne (by simp [ne,Ne.symm na.1]) λy h' tk hy a1 a2 a3 a4 a5=>⟨_,rfl,?_⟩
  have ey:y=u:=by simpa [hu] using hy.symm
  subst ey
  refine wpAny_letOwnedTupleGo_enum (s:={ s with heap:=h',toks:=tk + 1 }) a1 λh2' hz' hs'=>?_
  have up:∀ c o,c ≠ e->h'.get? c=some o->h2'.get? c=some o:=λc o n q=>SQ.sb hs' n q
  refine ⟨.ref s.heap.objs.size,_,Inv.turnedP (s:=s) (t':=tk + 1) (h':=h2') (x:=.int i) (u:=.int i tk) I hf hlt ⟨tk,rfl⟩ rxu (λc o hc q=>up c o (λr=>hc (by simp [r])) (a5 c o (λr=>hc (by simp [r])) (λr=>hc (by simp [r])) q)) (up _ _ (Qe (Jk he)) a3),rfl,
   ⟨_,x,rfl,I.fresh,rfl,λxs' q1=>by rw [I.sqk_inj q1 hq]; exact hx⟩,
   ⟨⟨y,by simpa using hz'⟩,a2.1.move λo q=>up _ o (Ne.symm ne) q⟩,pR hf hlt⟩
 done:=by
  intro X hP hw hK hc i pins s σ H E I hf st hg
  subst hP hw hK
  obtain ⟨xs,hq,hx⟩:=hg
  obtain ⟨us,ru,pu,_⟩:=I.sqk hq
  obtain ⟨⟨old,he⟩,h1⟩:=st
  have l1:=ru.length
  have hT:s.TypeIs (.ref e) "enumerate":=⟨_,he,rfl⟩
  unfold pyNext
  refine J6 (Va (Z9 (name:=Str.ofString "__next__") hT F.slot_enumerate_next (Zf F.slot_enumerate_next hT F.entry_enumerate_next ?_ (F.args_enumerate_next_1 _))))
  show wpAny _ _ (field (.ref e) 2 >>= _) _ _ _; refine J6 (Yq he rfl (x:=.ref it) rfl ?_)
  refine J6 (SQ.ends (I.ok.hd hc.cm) h1 pu (by simp; omega) λh' x he' hx'=>?_)
  obtain ⟨o,ho,hcl⟩:=hx'; refine J6 (Vc (T:="StopIteration") (b:=true) ⟨o,ho,hcl⟩ isSubtype_stop ?_)
  exact Jd ⟨rfl,I.turnedS (t':=s.toks) (λb o hb q=>he' b o (λr=>hb (by simp [r])) q) hf⟩
 self:=λ_ _ _ _ _ st h=>let ⟨⟨_,he⟩,_⟩:=st; wpAny_pyIter_enum he h
section
variable {X:Cx} {es:List Expr} {n:Nat} {tp:Pos}
theorem boot_zip:bootBuiltins "zip" = some (.type "zip"):=by decide +kernel
theorem boot_enumerate:bootBuiltins "enumerate" = some (.type "enumerate"):=by decide +kernel
theorem Dt (n:Nat):Znd (n + 4) (n + 2) (n + 3) n (n + 1):=by
 have h:((n + 2 ≠ n + 4/\n + 3 ≠ n + 4/\n ≠ n + 4/\n + 1 ≠ n + 4/\n + 2 ≠ n + 3/\n + 2 ≠ n/\n + 2 ≠ n + 1)/\(n + 3 ≠ n/\n + 3 ≠ n + 1/\n ≠ n + 1)):=by omega
 exact ⟨h.1,h.2⟩
theorem oj (n a:Nat) (h:a < n):a ∉ [n + 4,n + 2,n + 3,n,n + 1]:=by
 intro hc
 simp only [Jg,Jz,Z2] at hc
 omega
theorem om (n c:Nat) (hc:c ∈ [n + 4,n + 2,n + 3,n,n + 1]):n<=c:=by
 simp only [Jg,Jz,Z2] at hc
 omega
theorem vh (n a:Nat) (h:a < n):(n + 1 ≠ n)/\a ≠ n + 1/\a ≠ n:=by omega
theorem mL (n c:Nat) (hc:c ∈ [n + 1,n]):n<=c:=by
 simp only [Jg,Jz,Z2] at hc
 omega
noncomputable def FI (K:PySem.W.Frag) (ta:TA):TI:=λσ H R=>ta σ H λvs H1=>∃ a b k m,vs=[.ref a,.ref b]/\(∃ xs,SqK K k H1 a xs)/\(∃ ys,SqK K m H1 b ys)/\R (Itz K k m a b) H1
noncomputable def EZ (K:PySem.W.Frag) (ta:TA):TI:=λσ H R=>ta σ H λvs H1=>∃ a k,vs=[.ref a]/\(∃ xs,SqK K k H1 a xs)/\R (Ite K k a) H1
theorem Du {a b:Expr} {ta:TA} {p pos:Pos} (hg:Gl X "zip") (hm:X.mg "zip" = none) (ha:PA X [a,b] ta) (hs:autoParam (starEach [a,b] X.env=[(false,eval a X.env),(false,eval b X.env)]) Au.h0._auto_1) (hs2:autoParam (starEach [b] X.env=[(false,eval b X.env)]) Au.h0._auto_1):
  PI X (.Tuple es n tp) (.Call (.Name "zip" p) [a,b] [] pos) (FI X.K ta):=by
 intro pins s σ H R I h
 refine Call_ (ig I hg hm boot_zip (Q2 (thn (ha pos pins s σ H _ I h) λus s1 zq=>?_) (by rw [hs,hs2]) (by rw [hs2]; rfl)))
 obtain ⟨vs,H1,I1,r1,q1⟩:=zq
 obtain ⟨a,b,k,m,e,⟨xs,hx⟩,⟨ys,hy⟩,q⟩:=q1
 subst e
 cases r1 with
 | cons r rr=>
  cases rr with
  | cons r' rr=>
   cases rr
   cases r
   cases r'
   obtain ⟨us,ru,pu,_⟩:=I1.sqk hx
   obtain ⟨vs,rv,pv,_⟩:=I1.sqk hy
   refine SQ.call_zip pu pv λh' a1 a2 a3 a4 a5 a6 a7=>?_
   have I2:Inv X pins σ H1 { s1 with heap:=h' }:=I1.kept (t':=s1.toks) a7
   obtain ⟨oa,ea,_⟩:=pu.obj
   obtain ⟨ob,eb,_⟩:=pv.obj
   have la:=Jk ea
   have lb:=Jk eb
   refine wpAny_pyIter_zip (s:={ s1 with heap:=h' }) a1 ⟨_,[s1.heap.objs.size + 4,s1.heap.objs.size + 2,s1.heap.objs.size + 3,s1.heap.objs.size,s1.heap.objs.size + 1],_,_,H1,rfl,I2,
    yx (k:=k) (m:=m) _ _ _ _ _ a b (Dt _) (oj _ a la) (oj _ b lb),⟨a1,a2,⟨_,_,a3⟩,a4,a5⟩,λc hc=>?_,q⟩
   exact I1.fpOk (om _ c hc) (I1.hok.fresh (om _ c hc))
theorem AR {a:Expr} {ta:TA} {p pos:Pos} (hg:Gl X "enumerate") (hm:X.mg "enumerate" = none) (ha:PA X [a] ta) (hs:autoParam (starEach [a] X.env=[(false,eval a X.env)]) Au.h0._auto_1):
  PI X (.Tuple es n tp) (.Call (.Name "enumerate" p) [a] [] pos) (EZ X.K ta):=by
 intro pins s σ H R I h
 refine Call_ (ig I hg hm boot_enumerate (Q2 (thn (ha pos pins s σ H _ I h) λus s1 zq=>?_) hs rfl))
 obtain ⟨vs,H1,I1,r1,q1⟩:=zq
 obtain ⟨a,k,e,⟨xs,hx⟩,q⟩:=q1
 subst e
 cases r1 with
 | cons r rr=>
  cases rr
  cases r
  obtain ⟨us,ru,pu,_⟩:=I1.sqk hx
  refine SQ.call_enum pu λh' a1 a2 a3 a4=>?_
  have I2:Inv X pins σ H1 { s1 with heap:=h' }:=I1.kept (t':=s1.toks) a4
  obtain ⟨oa,ea,_⟩:=pu.obj
  have la:=Jk ea
  refine wpAny_pyIter_enum (s:={ s1 with heap:=h' }) a1 ⟨_,[s1.heap.objs.size + 1,s1.heap.objs.size],_,_,H1,rfl,I2,wO (k:=k) _ _ a (vh _ a la).1 (vh _ a la).2,⟨⟨_,a1⟩,a2⟩,λc hc=>?_,q⟩
  exact I1.fpOk (mL _ c hc) (I1.hok.fresh (mL _ c hc))
end
end L2
namespace PD
open PySem PySem.Spec PyProof.Rows L2
noncomputable def nD:D->Option (List D)
 | .tup ds=>some ds
 | .lst ds=>some ds
 | .fz ds=>some ds
 | _=>none
noncomputable def lC:List D->List D->List D
 | x :: xs,y :: ys=>.tup [x,y] :: lC xs ys
 | _,_=>[]
noncomputable def numbered:Nat->List D->List D
 | _,[]=>[]
 | i,x :: xs=>.tup [.int i,x] :: numbered (i + 1) xs
noncomputable def AU (t:AM):AM:=λr S=>(t r S).bind λxs S1=>match xs with
 | [a,b]=>match nD a,nD b with
  | some us,some vs=>.ok (lC us vs) S1
  | _,_=>.bad
 | _=>.bad
noncomputable def rK (t:AM):AM:=λr S=>(t r S).bind λxs S1=>match xs with
 | [a]=>match nD a with
  | some us=>.ok (numbered 0 us) S1
  | _=>.bad
 | _=>.bad
theorem jP:∀ (us vs:List D) (i:Nat),(i < (lC us vs).length↔i < us.length/\i < vs.length)/\∀ x y,us[i]?=some x->vs[i]?=some y->(lC us vs)[i]?=some (.tup [x,y])
 | [],vs,i=>by simp [lC]
 | _ :: _,[],i=>by simp [lC]
 | u :: us,v :: vs,0=>by simp [lC]
 | u :: us,v :: vs,i + 1=>by
  have ih:=jP us vs i
  simp only [lC,Jm,Yw,Nat.add_lt_add_iff_right]
  exact ih
theorem fh:∀ (us:List D) (j i:Nat),(numbered j us).length=us.length/\∀ x,us[i]?=some x->(numbered j us)[i]?=some (.tup [.int ((j + i:Nat):Int),x])
 | [],j,i=>by simp [numbered]
 | u :: us,j,0=>by simp [numbered,(fh us (j + 1) 0).1]
 | u :: us,j,i + 1=>by
  have ih:=fh us (j + 1) i
  simp only [numbered,Jm,Yw,ih.1,true_and]
  intro x hx
  rw [ih.2 x hx]
  congr 4
  omega
theorem t5 {K:PySem.W.Frag} {w:Wd} {H:Hp} {d:D} {ds:List D} {v:V} (e:nD d=some ds) (q:RD K w H d v):∃ p k vs,v=.ref p/\RDs K w H ds vs/\∀ w' H',Ext w H w' H'->SqK K k H' p vs:=by
 cases d with
 | tup us=>
  cases e
  unfold RD at q
  obtain ⟨p,vs,rfl,h1,q⟩:=q
  exact ⟨p,true,vs,rfl,q,λw' H' x'=>cz (h1.imp x'.at id)⟩
 | lst us=>
  cases e
  unfold RD at q
  obtain ⟨p,vs,rfl,h1,q⟩:=q
  exact ⟨p,false,vs,rfl,q,λw' H' x'=>SqL.of (x'.at h1).1⟩
 | fz us=>
  cases e
  unfold RD at q
  obtain ⟨p,vs,rfl,h1,q⟩:=q
  exact ⟨p,false,vs,rfl,q,λw' H' x'=>tS.sq (w:=w') (h1.imp (λ⟨o,z⟩=>⟨o,x'.at z⟩) id)⟩
 | _=>cases e
section
variable {X:Cx} {E:XK} {a b:Expr} {pos:Pos}
theorem Dv {es:List Expr} {n:Nat} {tp:Pos} {ms:AM} {p:Pos} (hg:Gl X "zip") (hm:X.mg "zip" = none) (ha:SA X E [a,b] ms) (hs:autoParam (starEach [a,b] X.env=[(false,eval a X.env),(false,eval b X.env)]) Au.h0._auto_1) (hs2:autoParam (starEach [b] X.env=[(false,eval b X.env)]) Au.h0._auto_1):
  SI X E (.Tuple es n tp) (.Call (.Name "zip" p) [a,b] [] pos) (AU ms):=⟨
 fg (Du hg hm ha.out hs hs2) λs H Q zq=>ex6 zq λw r S hr hS hp=>⟨w,r,S,hr,hS,hp.bind hS λds S1 w1 H1 vs x1 q1 s1 p1=>by
  match ds,q1,p1 with
  | [d,e],q1,p1=>
   obtain ⟨v,u,rfl,q2,q3⟩:=q1.two_inv
   change aE X.K E (RI X.K) w1 H1 (match nD d,nD e with | some us,some vs=>R.ok (lC us vs) S1 | _,_=>R.bad) Q at p1
   cases e1:nD d with
   | none=>rw [e1] at p1; exact p1.elim
   | some us=>
    cases e2:nD e with
    | none=>rw [e1,e2] at p1; exact p1.elim
    | some vs=>
     rw [e1,e2] at p1
     obtain ⟨pa,k,xs,rfl,ra,sa⟩:=t5 e1 q2
     obtain ⟨pb,m,ys,rfl,rb,sbb⟩:=t5 e2 q3
     refine ⟨pa,pb,k,m,rfl,⟨xs,sa _ _ (Ext.refl _ _)⟩,⟨ys,sbb _ _ (Ext.refl _ _)⟩,aE.ret p1 ?_ s1⟩
     intro i w' H' x'
     have ra':=RDs.ext x' _ _ ra
     have rb':=RDs.ext x' _ _ rb
     have la:=ra.length
     have lb:=rb.length
     refine ⟨λhi=>?_,λhi=>⟨xs,ys,sa _ _ x',sbb _ _ x',?_⟩⟩
     ·obtain ⟨h1,h2⟩:=(jP us vs i).1.mp hi
      refine ⟨⟨xs,ys,xs[i]'(by omega),ys[i]'(by omega),sa _ _ x',sbb _ _ x',Ja _,Ja _⟩,λv H'' y=>?_⟩
      obtain ⟨p,x,y,rfl,hp,rfl,q⟩:=y
      obtain ⟨qx,qy⟩:=q xs ys (sa _ _ x') (sbb _ _ x')
      obtain ⟨x0,ex,rx⟩:=ra'.get (Ja h1)
      obtain ⟨y0,ey,ry⟩:=rb'.get (Ja h2)
      rw [qx] at ex; cases ex
      rw [qy] at ey; cases ey
      refine ⟨.inr ⟨p,_,hp,rfl⟩,λS hS=>⟨_,(jP us vs i).2 _ _ (Ja h1) (Ja h2),?_⟩⟩
      unfold RD
      refine ⟨p,[x,y],rfl,.inl ⟨aK,hS.fresh hp⟩,?_⟩
      unfold RDs RDs RDs
      exact ⟨x,[y],rfl,RD.ext (Ext.new hp) _ _ rx,y,[],rfl,RD.ext (Ext.new hp) _ _ ry,rfl⟩
     ·have:=(jP us vs i).1
      omega
  | [],_,p1=>exact p1.elim
  | [_],_,p1=>exact p1.elim
  | _ :: _ :: _ :: _,_,p1=>exact p1.elim⟩⟩
theorem AV {es:List Expr} {n:Nat} {tp:Pos} {ms:AM} {p:Pos} (hg:Gl X "enumerate") (hm:X.mg "enumerate" = none) (ha:SA X E [a] ms) (hs:autoParam (starEach [a] X.env=[(false,eval a X.env)]) Au.h0._auto_1):
  SI X E (.Tuple es n tp) (.Call (.Name "enumerate" p) [a] [] pos) (rK ms):=⟨
 fg (AR hg hm ha.out hs) λs H Q zq=>ex6 zq λw r S hr hS hp=>⟨w,r,S,hr,hS,hp.bind hS λds S1 w1 H1 vs x1 q1 s1 p1=>by
  match ds,q1,p1 with
  | [d],q1,p1=>
   obtain ⟨v,rfl,q2⟩:=q1.one_inv
   change aE X.K E (RI X.K) w1 H1 (match nD d with | some us=>R.ok (numbered 0 us) S1 | _=>R.bad) Q at p1
   cases e1:nD d with
   | none=>rw [e1] at p1; exact p1.elim
   | some us=>
    rw [e1] at p1
    obtain ⟨pa,k,xs,rfl,ra,sa⟩:=t5 e1 q2
    refine ⟨pa,k,rfl,⟨xs,sa _ _ (Ext.refl _ _)⟩,aE.ret p1 ?_ s1⟩
    intro i w' H' x'
    have ra':=RDs.ext x' _ _ ra
    have la:=ra.length
    have ln:=(fh us 0 i).1
    refine ⟨λhi=>?_,λhi=>⟨xs,sa _ _ x',by omega⟩⟩
    have h1:i < us.length:=by omega
    refine ⟨⟨xs,xs[i]'(by omega),sa _ _ x',Ja _⟩,λv H'' y=>?_⟩
    obtain ⟨p,x,rfl,hp,rfl,q⟩:=y
    have qx:=q xs (sa _ _ x')
    obtain ⟨x0,ex,rx⟩:=ra'.get (Ja h1)
    rw [qx] at ex; cases ex
    refine ⟨.inr ⟨p,_,hp,rfl⟩,λS hS=>⟨_,(fh us 0 i).2 _ (Ja h1),?_⟩⟩
    unfold RD
    refine ⟨p,[.int i,x],rfl,.inl ⟨aK,hS.fresh hp⟩,?_⟩
    unfold RDs RDs RDs
    exact ⟨.int i,[x],rfl,by unfold RD; simp,x,[],rfl,RD.ext (Ext.new hp) _ _ rx,rfl⟩
  | [],_,p1=>exact p1.elim
  | _ :: _ :: _,_,p1=>exact p1.elim⟩⟩
end
noncomputable def wQ (x:Int):List Int->List Int
 | []=>[x]
 | y :: r=>if x<=y then x :: y :: r else y :: wQ x r
noncomputable def jm:List Int->List Int
 | []=>[]
 | x :: r=>wQ x (jm r)
theorem kI (x:Int):∀ l:List Int,(wQ x l).Perm (x :: l)
 | []=>.refl _
 | y :: r=>by
  unfold wQ
  split
  ·exact .refl _
  ·exact ((kI x r).cons y).trans (.swap x y r)
theorem et:∀ l:List Int,(jm l).Perm l
 | []=>.refl _
 | x :: r=>(kI x _).trans ((et r).cons x)
theorem kY (x:Int):∀ l:List Int,l.Pairwise (· <= ·)->(wQ x l).Pairwise (· <= ·)
 | [],_=>Zz _ _
 | y :: r,h=>by
  obtain ⟨h1,h2⟩:=Qo.mp h
  unfold wQ
  split
  ·rename_i hxy
   exact Qo.mpr ⟨λz hz=>by
    rcases Jg.mp hz with rfl | hz
    ·exact hxy
    ·exact Z7 hxy (h1 z hz),h⟩
  ·rename_i hxy
   exact Qo.mpr ⟨λz hz=>by
    rcases Jg.mp ((kI x r).mem_iff.mp hz) with rfl | hz
    ·omega
    ·exact h1 z hz,kY x r h2⟩
theorem dU:∀ l:List Int,(jm l).Pairwise (· <= ·)
 | []=>.nil
 | x :: r=>kY x _ (dU r)
theorem kZ:∀ {a b:List Int},a.Perm b->a.Pairwise (· <= ·)->b.Pairwise (· <= ·)->a=b
 | [],b,p,_,_=>p.nil_eq
 | x :: r,[],p,_,_=>absurd p.length_eq (by simp)
 | x :: r,y :: t,p,h1,h2=>by
  obtain ⟨a1,a2⟩:=Qo.mp h1
  obtain ⟨b1,b2⟩:=Qo.mp h2
  have e:x=y:=by
   have hx:x ∈ y :: t:=p.mem_iff.mp (.head _)
   have hy:y ∈ x :: r:=p.mem_iff.mpr (.head _)
   rcases Jg.mp hx with h | h
   ·exact h
   ·rcases Jg.mp hy with h' | h'
    ·exact h'.symm
    ·exact Int.le_antisymm (a1 y h') (b1 x h)
  subst e
  rw [kZ (List.Perm.cons_inv p) a2 b2]
end PD
namespace SQ
open PySem PySem.Spec PyProof.Rows
section
variable {prog:Program} {w:World} {A:Around} {E:Value->Shared->Prop} {s:Shared}
theorem rL {l:Addr} {vs:List Value} {Q:List Value->Shared->Prop} (hl:s.heap.IsTuple l vs.toArray)
  (h:Q vs { s with heap:=(s.heap.push (seqObj "list" #[] 0)).update s.heap.objs.size (Obj.mapSeq (· ++ vs.toArray)) }) (hsz:vs.length<=sizeLine):wpAny (model prog w) A (collect (.ref l)) Q E s:=by
 obtain ⟨o,ho,hc,n,hd⟩:=id hl; unfold collect; refine J6 (wpAny_runValue (Q0 entry_proto_collect' ?_))
 show wpAny _ _ (do again (.builtin "list.__iadd__" ⟨[<- newList [],.ref l],[]⟩)) _ _ s; refine J6 (Ua (Jd ⟨Code.quiet_builtin _ (by decide +kernel),Q0 entry_list_iadd' ?_⟩))
 show wpAny _ _ (Builtin.List.listExtendWith (.ref s.heap.objs.size) (.ref l) (.ref s.heap.objs.size)) _ _ { s with heap:=s.heap.push (seqObj "list" #[] 0) }; unfold Builtin.List.listExtendWith
 have ho':(s.heap.push (seqObj "list" #[] 0)).get? l=some o:=J7 _ ho
 refine J6 (V2 (T:="tuple") ⟨o,ho',hc⟩ ?_)
 have ht:(Value.type "tuple" == Value.type "tuple")=true:=by rfl
 rw [J8 (by rw [ht]; simp)]; refine J6 (listItems_at ho' hd ?_); refine J6 (listItems_at (xs:=#[]) (n:=0) (Ji _ rfl) rfl ?_); rw [Jc (by simp)]
 refine J6 (listUpdate_at (xs:=#[]) (n:=0) (Ji _ rfl) rfl ?_ (Y3 _) (by show (#[] ++ vs.toArray).size<=sizeLine + 1; simp only [Array.size_append,Ju,Yg]; omega)); refine Jd ?_
 show wpAny (model prog w) A (do
   let o <- load s.heap.objs.size
   match o.data with
   | .seq xs _=>pure xs.toList
   | _=>unsupported "internal:collect") Q E { s with heap:=(s.heap.push (seqObj "list" #[] 0)).update s.heap.objs.size (Obj.mapSeq (· ++ vs.toArray)) }
 refine J6 (wpAny_load (Vt (Ji _ rfl) _) ?_); show wpAny _ _ (pure ((#[]:Array Value) ++ vs.toArray).toList) Q E _
 rw [show ((#[]:Array Value) ++ vs.toArray).toList=vs by simp]; exact Jd h
theorem collects {k:Bool} {l:Addr} {vs:List Value} {Q:List Value->Shared->Prop} (hl:Is k s.heap l vs.toArray)
  (h:Q vs { s with heap:=(s.heap.push (seqObj "list" #[] 0)).update s.heap.objs.size (Obj.mapSeq (· ++ vs.toArray)) }) (hsz:vs.length<=sizeLine):wpAny (model prog w) A (collect (.ref l)) Q E s:=by
 cases k with
 | true=>exact rL hl h hsz
 | false=>exact collect_list hl h hsz
end
end SQ
namespace PD
open PySem PySem.Spec PyProof.Rows L2
section
variable {X:Cx} {E:XK}
theorem iD {K:PySem.W.Frag} {w:Wd} {H:Hp}:∀ {ds:List D} {vs:List V} {us:List Value} {ns:List Int},RDs K w H ds vs->Vals vs us->intsOf ds=some ns->IntsAre us ns
 | [],_,_,_,q,r,h=>by
  rw [q.nil_inv] at r
  cases r
  unfold intsOf at h
  cases h
  exact .nil
 | d :: ds,_,_,ns,q,r,h=>by
  obtain ⟨y,vs,rfl,p,t⟩:=q.cons_inv
  cases d with
  | int b=>
   unfold intsOf at h
   cases e':intsOf ds with
   | none=>rw [e'] at h; cases h
   | some cs=>
    rw [e'] at h; cases h
    cases p.int
    cases r with
    | cons r1 r2=>
     obtain ⟨t',rfl⟩:=r1
     exact .cons _ _ (iD t r2 e')
  | _=>unfold intsOf at h; cases h
theorem vk:∀ {us:List Value} {ns:List Int},IntsAre us ns->Vals (ns.map .int) us
 | _,_,.nil=>.nil
 | _,_,.cons _ _ h=>.cons ⟨_,rfl⟩ (vk h)
theorem rM {K:PySem.W.Frag} {w:Wd} {H:Hp}:∀ ns:List Int,RDs K w H (ns.map .int) (ns.map .int)
 | []=>.nil
 | n :: ns=>.cons (by unfold RD; rfl) (rM ns)
noncomputable def yy (neg:Bool):Sto->D->D->Option D:=λ_ a b=>match b with
 | .non=>match a with
  | .non=>some (.bl (!neg))
  | .int _=>some (.bl neg)
  | .bl _=>some (.bl neg)
  | .str _=>some (.bl neg)
  | .tup _=>some (.bl neg)
  | .lst _=>some (.bl neg)
  | .ref _=>some (.bl neg)
  | .dic _=>some (.bl neg)
  | _=>none
 | _=>none
theorem mM {neg:Bool} {S:Sto} {a b z:D} (h:yy neg S a b=some z):b=.non/\((a=.non/\z=.bl (!neg)) \/ (z=.bl neg/\∀ (K:PySem.W.Frag) (w:Wd) (H:Hp) (v:V),RD K w H a v->v ≠ .non)):=by
 cases b <;> first | (cases h; done) | skip
 refine ⟨rfl,?_⟩
 cases a with
 | non=>cases h; exact .inl ⟨rfl,rfl⟩
 | int i=>cases h; exact .inr ⟨rfl,λK w H v q z=>by cases q.int; cases z⟩
 | bl i=>cases h; exact .inr ⟨rfl,λK w H v q z=>by cases q.bl; cases z⟩
 | str i=>cases h; exact .inr ⟨rfl,λK w H v q z=>by cases q.str; cases z⟩
 | tup i=>cases h; exact .inr ⟨rfl,λK w H v q z=>by obtain ⟨p,vs,e,_⟩:=q.tupI; rw [e] at z; cases z⟩
 | lst i=>cases h; exact .inr ⟨rfl,λK w H v q z=>by obtain ⟨p,vs,e,_⟩:=q.lstI; rw [e] at z; cases z⟩
 | ref i=>cases h; exact .inr ⟨rfl,λK w H v q z=>by obtain ⟨p,e,_⟩:=q.refI; rw [e] at z; cases z⟩
 | dic i=>cases h; exact .inr ⟨rfl,λK w H v q z=>by unfold RD at q; obtain ⟨p,vs,e,_⟩:=q; rw [e] at z; cases z⟩
 | _=>cases h
theorem oo {v:Value} (hb:∀ id,v ≠ .builtin id):plainIs v .none=true:=by
 cases v <;> first | rfl | (exact absurd rfl (hb _))
theorem vm {x:V} {v:Value} (r:RelV x v):∀ id,v ≠ .builtin id:=by
 intro id e
 subst e
 cases x <;> first | (cases r; done) | (obtain ⟨_,e⟩:=r; cases e; done) | skip
theorem oq {x:V} {v:Value} (r:RelV x v) (h:x ≠ .non):v ≠ .none:=by
 intro e
 subst e
 cases x <;> first | (exact h rfl) | (cases r; done) | (obtain ⟨_,e⟩:=r; cases e; done) | skip
theorem E2:OpR X (compareOp .Is) (xO X.K E (yy false)):=by
 rintro pins s σ H x y v u Q I rx ry ⟨w,S,d,e,hS,qd,qe,p⟩
 obtain ⟨z,hz,p⟩:=p.of
 obtain ⟨rfl,h⟩:=mM hz
 have ey:y=.non:=by unfold RD at qe; exact qe
 subst ey
 cases ry
 rcases h with ⟨rfl,rfl⟩ | ⟨rfl,h⟩
 ·have ex:x=.non:=by unfold RD at qd; exact qd
  subst ex
  cases rx
  exact wpAny_is_self rfl ⟨.bl true,H,I,rfl,p.ret RD.mkB hS⟩
 ·have hx:=h _ _ _ _ qd
  exact wpAny_is_other (oo (vm rx)) (oq rx hx) ⟨.bl false,H,I,rfl,p.ret RD.mkB hS⟩
theorem yz:OpR X (compareOp .IsNot) (xO X.K E (yy true)):=by
 rintro pins s σ H x y v u Q I rx ry ⟨w,S,d,e,hS,qd,qe,p⟩
 obtain ⟨z,hz,p⟩:=p.of
 obtain ⟨rfl,h⟩:=mM hz
 have ey:y=.non:=by unfold RD at qe; exact qe
 subst ey
 cases ry
 rcases h with ⟨rfl,rfl⟩ | ⟨rfl,h⟩
 ·have ex:x=.non:=by unfold RD at qd; exact qd
  subst ex
  cases rx
  exact wpAny_isNot_self rfl ⟨.bl false,H,I,rfl,p.ret RD.mkB hS⟩
 ·have hx:=h _ _ _ _ qd
  exact wpAny_isNot_other (oo (vm rx)) (oq rx hx) ⟨.bl true,H,I,rfl,p.ret RD.mkB hS⟩
end
noncomputable def eBR (f:Sto->List D->R D) (t:AM):EM:=λr S=>(t r S).bind λxs S1=>f S1 xs
noncomputable def xCR (K:PySem.W.Frag) (E:XK) (f:Sto->List D->R D):List V->Hp->VK->Prop:=λxs H Q=>∃ w S ds,RS K w H S/\RDs K w H ds xs/\aE K E (RD K) w H (f S ds) Q
section
variable {X:Cx} {E:XK} {a b:Expr} {es:List Expr} {ms:AM} {x:Str} {p pos:Pos}
theorem mN {T:String} {f:Sto->List D->R D} (hc:bw X (.type T) (xCR X.K E f)) (hg:Gl X x) (hm:X.mg x=none) (hv:bootBuiltins x=some (.type T)) (ha:SA X E (a :: es) ms) (hn:autoParam (x ≠ "__name__") Au.h3._auto_1) (hdb:autoParam ((x == ("__debug__":Str))=false) Au.h3._auto_1)
  (he:autoParam (starEach (a :: es) X.env=(false,eval a X.env) :: starEach es X.env) Au.h0._auto_1) (hpl:autoParam ((backTo pos (starEach es X.env)).any (·.1)=false) Au.h0._auto_1):SE X E (.Call (.Name x p) (a :: es) [] pos) (eBR f ms):=⟨
 aY (nX hc hg hm hv ha.out hn hdb he hpl) λs H Q zq=>ex6 zq λw r S hr hS hp=>⟨w,r,S,hr,hS,hp.bind hS λds S1 w1 H1 vs x1 q1 s1 p1=>⟨w1,S1,ds,s1,q1,p1⟩⟩⟩
end
noncomputable def bV (S:Sto):D->Option (List (KD × D))
 | .dic kvs=>some kvs
 | .ref n=>match S[n]? with
  | some (.dic kvs)=>some kvs
  | some (.fdic kvs)=>some kvs
  | _=>none
 | _=>none
noncomputable def eO (kvs:List (KD × D)) (k:KD):Option D:=(kvs.find? λkv=>decide (kv.1=k)).map (·.2)
section
variable {K:PySem.W.Frag} {w:Wd} {H:Hp} {S:Sto}
theorem gR {d:D} {v:V} {kvs:List (KD × D)} (hS:RS K w H S) (q:RD K w H d v) (h:bV S d=some kvs):∃ p us,v=.ref p/\Rd H p (.dK us)/\RDk K w H kvs us:=by
 unfold bV at h
 split at h
 ·cases h
  unfold RD at q
  obtain ⟨p,us,rfl,z,r⟩:=q
  exact ⟨p,us,rfl,.inl z.1,r⟩
 ·rename_i n
  obtain ⟨p,rfl,hp⟩:=q.refI
  split at h
  ·rename_i e; cases h
   obtain ⟨p',hp',us,hv,r⟩:=hS.obj _ _ e
   rw [hp] at hp'; cases hp'
   exact ⟨p,us,rfl,.inl hv,r⟩
  ·rename_i e; cases h
   obtain ⟨p',hp',o,us,hv,r⟩:=hS.obj _ _ e
   rw [hp] at hp'; cases hp'
   exact ⟨p,us,rfl,.inr ⟨o,hv⟩,r⟩
  ·cases h
 ·cases h
theorem RDk.get (k:KD):∀ {ds:List (KD × D)} {us:List (Key × V)},RDk K w H ds us->(∀ d,eO ds k=some d->∃ v,gP us k=some v/\RD K w H d v)/\(eO ds k=none->gP us k=none)
 | [],us,q=>by
  rw [q.nil_inv]
  exact ⟨λd h=>(by cases h),λ_=>rfl⟩
 | (j,d) :: ds,_,q=>by
  obtain ⟨v,r,rfl,p,t⟩:=q.cons_inv
  by_cases hj:j=k
  ·have e1:eO ((j,d) :: ds) k=some d:=by unfold eO; rw [Z5]; simp [hj]
   have e2:gP ((j,v) :: r) k=some v:=by unfold gP; rw [Z5]; simp [hj]
   rw [e1,e2]
   exact ⟨λd' h=>by cases h; exact ⟨v,rfl,p⟩,λh=>by cases h⟩
  ·have e1:eO ((j,d) :: ds) k=eO ds k:=by unfold eO; rw [Z5]; simp [hj]
   have e2:gP ((j,v) :: r) k=gP r k:=by unfold gP; rw [Z5]; simp [hj]
   rw [e1,e2]
   exact RDk.get k t
theorem RDk.getO {ds:List (KD × D)} {us:List (Key × V)} (q:RDk K w H ds us) (k:KD):(gP us k).isSome=(eO ds k).isSome:=by
 obtain ⟨h1,h2⟩:=q.get k
 cases e:eO ds k with
 | none=>rw [h2 e]; rfl
 | some d=>obtain ⟨v,hv,_⟩:=h1 d e; rw [hv]; rfl
end
section
variable {X:Cx} {E:XK}
theorem E3 {f:Value->Value->Sem Value} {o o1 o2:Sto->D->D->Option D} (h1:OpR X f (xO X.K E o1)) (h2:OpR X f (xO X.K E o2)) (h:∀ S x y,o S x y=o1 S x y \/ o S x y=o2 S x y):OpR X f (xO X.K E o):=by
 rintro pins s σ H x y v u Q I rx ry ⟨w,S,d,e,hS,qd,qe,p⟩
 rcases h S d e with z | z
 ·exact h1 pins s σ H x y v u Q I rx ry ⟨w,S,d,e,hS,qd,qe,z ▸ p⟩
 ·exact h2 pins s σ H x y v u Q I rx ry ⟨w,S,d,e,hS,qd,qe,z ▸ p⟩
theorem Room.hu {k:Nat} {A:Around} (r:Room k A):A.units + 1 < cLine:=by have:=r.un; omega
noncomputable def AW (neg:Bool):Sto->D->D->Option D:=λS x y=>match bV S y,jd x with
 | some kvs,some k=>some (.bl (if neg then !(eO kvs k).isSome else (eO kvs k).isSome))
 | _,_=>none
noncomputable def t6 (neg:Bool):Sto->D->D->Option D:=λS x y=>if (bS S y).isSome then oIn neg S x y else AW neg S x y
theorem wR {k:Nat} (hr:Room k X.A):OpR X (compareOp .NotIn) (xO X.K E (AW true)):=by
 rintro pins s σ H x y v u Q I rx ry ⟨w,S,d,e,hS,qd,qe,p⟩
 obtain ⟨z,hz,p⟩:=p.of
 unfold AW at hz
 split at hz
 ·rename_i kvs k e1 e2
  cases hz
  obtain ⟨pp,us,rfl,rd,rk⟩:=gR hS qe e1
  cases ry
  have ex:=jN qd e2
  subst ex
  refine Av (Room.hu hr) I (.inl ⟨us,k,rd,rfl,rfl⟩) rx λs' I'=>⟨.bl _,H,I',rfl,?_⟩
  rw [rk.getO k]
  exact p.ret RD.mkB hS
 ·cases hz
theorem wU {k:Nat} (hr:Room k X.A):OpR X (compareOp .NotIn) (xO X.K E (t6 true)):=E3 rF (wR hr) λS x y=>by
 unfold t6
 cases (bS S y).isSome with
 | true=>exact .inl rfl
 | false=>exact .inr rfl
noncomputable def ot:Sto->D->D->D->Option Sto
 | S,.ref n,y,v=>match S[n]? with
  | some (.dic kvs)=>match jd y with
   | some k=>if kvs.length < sizeLine then some (S.set n (.dic (putD kvs k v))) else none
   | none=>none
  | _=>none
 | _,_,_,_=>none
noncomputable def lg (S:Sto):D->Bool
 | .ref n=>match S[n]? with
  | some (.dic _)=>true
  | _=>false
 | _=>false
noncomputable def fN:Sto->D->D->D->Option Sto:=λS x y v=>if lg S x then ot S x y v else ym S x y v
theorem AX {k:Nat} (hr:Room k X.A):oY X (xS X.K ot):=by
 rintro pins s σ H o i v ov iv u Q I ro ri ru ⟨w,S,x,y,z,S',hS,qx,qy,qz,hf,kk⟩
 unfold ot at hf
 split at hf
 ·rename_i n
  split at hf
  ·rename_i kvs hn
   split at hf
   ·rename_i ky hk
    split at hf
    ·rename_i hl
     cases hf
     obtain ⟨pp,rfl,hp⟩:=qx.refI
     cases ro
     obtain ⟨p',hp',us,hv,rk⟩:=hS.obj _ _ hn
     rw [hp] at hp'; cases hp'
     have ey:=jN qy hk
     subst ey
     have hm:pp ∈ w.st:=Z1 hp
     have hul:us.length < sizeLine:=by rw [rk.length]; exact hl
     refine wC (Room.hu hr) I (As.k hv hul) ri ru λs' I'=>⟨_,I',kk w _ (Ext.mut hm hv) (hS.mut hp hv ⟨_,aK,?_⟩)⟩
     exact RDk.ext (Ext.mut hm hv) _ _ (rk.put ky qz)
    ·cases hf
   ·cases hf
  ·cases hf
 ·cases hf
theorem E4 {f f1 f2:Sto->D->D->D->Option Sto} (h1:oY X (xS X.K f1)) (h2:oY X (xS X.K f2)) (h:∀ S x y v,f S x y v=f1 S x y v \/ f S x y v=f2 S x y v):oY X (xS X.K f):=by
 rintro pins s σ H o i v ov iv u Q I ro ri ru ⟨w,S,x,y,z,S',hS,qx,qy,qz,hf,kk⟩
 rcases h S x y z with e | e
 ·exact h1 pins s σ H o i v ov iv u Q I ro ri ru ⟨w,S,x,y,z,S',hS,qx,qy,qz,e ▸ hf,kk⟩
 ·exact h2 pins s σ H o i v ov iv u Q I ro ri ru ⟨w,S,x,y,z,S',hS,qx,qy,qz,e ▸ hf,kk⟩
theorem pS {k:Nat} (hr:Room k X.A):oY X (xS X.K fN):=E4 (AX hr) yn λS x y v=>by
 unfold fN
 cases lg S x with
 | true=>exact .inl rfl
 | false=>exact .inr rfl
noncomputable def fD (o a b:EM):EM:=λr S=>(o r S).bind λd S1=>if (bV S1 d).isSome=true then (a r S1).bind λy S2=>(b r S2).bind λz S3=>(match bV S3 d,jd y with
  | some kvs,some k=>R.ok ((eO kvs k).getD z) S3
  | _,_=>R.bad) else R.bad
theorem yA {o e f:Expr} {m:Str} {apos cpos:Pos} (h1:attributeBase o m X.env (eval o X.env)=eval o X.env) (h2:((backTo cpos (starEach [e,f] X.env)).all (λx=>!x.1) && (backToKw cpos (keywordEach [] X.env)).all (λx=>x.1.isSome)
  && decide (([e,f]:List Expr).length + ([]:List Keyword).length + (if ([]:List Keyword).isEmpty then 0 else 1) < 30))=true) (h3:(apos.endLine == cpos.line)=true) (h4:backTo cpos (starEach [e,f] X.env)=[(false,eval e X.env),(false,eval f X.env)]):M2 X o m apos e f cpos:=⟨h1,h2,h3,h4⟩
theorem pU {o e f:Expr} {mo ma mb:EM} {apos cpos:Pos} {k:Nat} (hr:Room k X.A) (ho:SE X E o mo) (ha:SE X E e ma) (hb:SE X E f mb) (m:M2 X o "get" apos e f cpos):SE X E (.Call (.Attribute o "get" apos) [e,f] [] cpos) (fD mo ma mb):=⟨
 aY (x8 (Room.hu hr) ho.out ha.out hb.out m) λs H Q zq=>ex6 zq λw r S hrr hS hp=>⟨w,r,S,hrr,hS,hp.bind hS λd S1 w1 H1 v x1 q1 s1 p1=>by
  cases hd:bV S1 d with
  | none=>rw [hd] at p1; exact p1.elim
  | some kvs=>
   rw [hd] at p1
   obtain ⟨pp,us,rfl,rd,rk⟩:=gR s1 q1 hd
   refine ⟨pp,rfl,.inl ⟨us,rd⟩,w1,r,S1,hrr.ext x1,s1,aE.bind (rel:=RD X.K) p1 s1 λy S2 w2 H2 vy x2 q2 s2 p2=>⟨w2,r,S2,(hrr.ext x1).ext x2,s2,aE.bind (rel:=RD X.K) p2 s2 λz S3 w3 H3 vz x3 q3 s3 p3=>?_⟩⟩
   have q1':=RD.ext x3 _ _ (RD.ext x2 _ _ q1)
   have q2':=RD.ext x3 _ _ q2
   cases hd3:bV S3 d with
   | none=>rw [hd3] at p3; exact p3.elim
   | some kvs3=>
    cases hk:jd y with
    | none=>rw [hd3,hk] at p3; exact p3.elim
    | some ky=>
     rw [hd3,hk] at p3
     obtain ⟨pp3,us3,e3,rd3,rk3⟩:=gR s3 q1' hd3
     cases e3
     have ey:=jN q2' hk
     subst ey
     refine ⟨gP us3 ky,.inl ⟨us3,ky,rd3,rfl,rfl⟩,?_⟩
     obtain ⟨g1,g2⟩:=rk3.get ky
     have p4:aE X.K E (RD X.K) w3 H3 (R.ok ((eO kvs3 ky).getD z) S3) Q:=p3
     cases hg:eO kvs3 ky with
     | none=>rw [hg] at p4; rw [g2 hg]; exact aE.ret p4 q3 s3
     | some dd=>rw [hg] at p4; obtain ⟨vd,hv,rv⟩:=g1 dd hg; rw [hv]; exact aE.ret p4 rv s3⟩⟩
end
end PD
namespace L2
open PySem PySem.Spec PyProof.Rows
variable {X:Cx} {s:Shared}
theorem rN {P:Program} {w:World} {k:Key} {u:Value} (h:(aQ P w).is k u=true):RelV (kV k) u:=by
 rw [tK] at h
 cases k with
 | inl i=>obtain ⟨t,e⟩:=Value.isInt_shape (k:=i) (v:=u) h; exact ⟨t,e⟩
 | inr x=>obtain ⟨t,e⟩:=Value.isStrOf_shape (x:=x) (v:=u) h; exact ⟨t,e⟩
theorem KV.getI {kvs:List (Key × V)} {vs:List (Key × Value)} (r:KV kvs vs) {i:Nat} {k:Key} {x:V} (h:kvs[i]?=some (k,x)):∃ v,vs[i]?=some (k,v)/\RelV x v:=by
 unfold KV at r
 induction r generalizing i with
 | nil=>simp at h
 | cons hd tl ih=>
  cases i with
  | zero=>
   simp at h
   rename_i p q _ _
   obtain ⟨e,rv⟩:=hd
   subst h
   exact ⟨q.2,by simp; exact Prod.ext e.symm rfl,rv⟩
  | succ i=>simpa using ih (by simpa using h)
noncomputable def Iti (a:Addr) (o:Obj) (us:List (Key × V)):It:=
  ⟨λi H=>H a=some (.frz o (.dK us))/\∃ kv,us[i]?=some kv,
   λi H v H'=>∃ p k x,v=.ref p/\H p=none/\H'=upd H p (.tup [kV k,x])/\us[i]?=some (k,x),
   λi H=>H a=some (.frz o (.dK us))/\us.length<=i⟩
theorem yB {pins:List (Addr × Obj)} {σ:St} {H:Hp} {a:Addr} {o:Obj} {us:List (Key × V)} {es:Array DictEntry} {ep:Nat} (I:Inv X pins σ H s) (h:H a=some (.frz o (.dK us))) (ed:o.data=.dict es ep):
  ∃ vs,KV us vs/\s.heap.DictAt (aQ X.prog X.w) a vs ep/\(a == sysModules)=false:=by
 obtain ⟨e,z,hd,vs,rel,⟨o',es',ep',ho,hx,hdat,k1,k2,k3⟩⟩:s.heap.get? a=some o/\bL X.prog X.w H s.heap a (.dK us):=I.hok a _ h
 rw [e] at ho; cases ho
 rw [ed] at hdat; cases hdat
 exact ⟨vs,rel,⟨o,es,e,hx,ed,k1,k2,k3⟩,hd⟩
theorem pV:entryFor table "dict_itemiterator.__iter__" = some Builtin.«dict_keyiterator.__iter__»:=
 entryFor_alias (id':="dict_keyiterator.__iter__") (by kernel_rfl) (by first | rfl | decide +kernel | (unfold String.splitOn; simp +decide [String.splitOnAux])) (by decide +kernel) (by kernel_rfl)
theorem rO {prog:Program} {w:World} {A:Around} {E:Value->Shared->Prop} {it d:Addr} {i n ep:Nat} {ok ov:Value} {Q:Value->Shared->Prop} (hz:IsItemIter s.heap it d i n ep ok ov) (h:Q (.ref it) s):wpAny (model prog w) A (pyIter (.ref it)) Q E s:=by
 have hT:s.TypeIs (.ref it) "dict_itemiterator":=⟨_,hz,rfl⟩
 refine wpAny_pyIter_slot hT F.slot_dict_itemiterator_iter (Zf F.slot_dict_itemiterator_iter hT pV ?_ (F.args_dict_itemiterator_iter_1 _))
 show wpAny _ _ (ret (.ref it)) _ _ s
 exact Jd ⟨_,rfl,"dict_itemiterator",_,hT,F.slot_dict_itemiterator_next.lookup,h⟩
theorem t7 {P:Program} {w:World} {K:PySem.W.Frag} {es:List Expr} {n:Nat} {pos:Pos} (it a:Addr) (o:Obj) (us:List (Key × V)) (ee:Array DictEntry) (ep:Nat) (ed:o.data=.dict ee ep) (na:a ≠ it):
  Turn false P w K (.Tuple es n pos) (Iti a o us) [it] it (λi h=>∃ ok ov,IsItemIter h it a i us.length ep ok ov) where
 mem:=by simp
 obj:=λi h ⟨ok,ov,st⟩ c hc=>by
  simp only [Jg,Jz,Z2] at hc
  subst hc
  exact ⟨_,st,λv z=>by cases z⟩
 keep:=λi h h' ⟨ok,ov,st⟩ q=>⟨ok,ov,q it (by simp) _ st⟩
 item:=by
  intro X hP hw hK hc i pins s σ H E I hf ⟨ok,ov,st⟩ hg
  subst hP hw hK
  obtain ⟨ha,⟨k,x⟩,hx⟩:=hg
  obtain ⟨vs,rel,dd,_⟩:=yB I ha ed
  obtain ⟨v,hv,rv⟩:=rel.getI hx
  have hl:=rel.length
  rw [hl] at st
  have hlt:∀ c ∈ [it],c < s.heap.objs.size:=λc hc=>by
   simp only [Jg,Jz,Z2] at hc
   subst hc
   exact Jk st
  refine wpAny_pyNext_items_item st dd hv λkey h' hk a1 a2 a3 a4=>⟨_,rfl,?_⟩
  refine wpAny_letOwnedTupleGo_items (s:={ s with heap:=h' }) a1 λh2' hz' hs'=>?_
  have up:∀ c ob,c ≠ it->h'.get? c=some ob->h2'.get? c=some ob:=λc ob n q=>SQ.sb hs' n q
  refine ⟨.ref s.heap.objs.size,_,I.turnedP (t':=s.toks) (h':=h2') hf hlt (rN hk) rv (λc ob hc q=>up c ob (λr=>hc (by simp [r])) (a4 c ob (λr=>hc (by simp [r])) q)) (up _ _ (Qe (Jk st)) a2),rfl,
   ⟨_,k,x,rfl,I.fresh,rfl,hx⟩,⟨_,_,by rw [hl]; exact hz'⟩,pR hf hlt⟩
 done:=by
  intro X hP hw hK hc i pins s σ H E I hf ⟨ok,ov,st⟩ hg
  subst hP hw hK
  obtain ⟨ha,hx⟩:=hg
  obtain ⟨vs,rel,dd,_⟩:=yB I ha ed
  have hl:=rel.length
  rw [hl] at st
  exact wpAny_pyNext_items_end (I.ok.hd hc.cm) st dd (by simp; omega) λh' eb=>⟨rfl,I.turnedS (t':=s.toks) (λb ob hb q=>eb b ob (λr=>hb (by simp [r])) q) hf⟩
 self:=λ_ _ _ _ _ ⟨_,_,st⟩ h=>rO st h
theorem Inv.freeze {pins:List (Addr × Obj)} {σ:St} {H:Hp} {a:Addr} {us:List (Key × V)} (I:Inv X pins σ H s) (h:H a=some (.dK us)):∃ o,Inv X pins σ (upd H a (.frz o (.dK us))) s:=by
 obtain ⟨z,hd,vs,rel,⟨o,es,ep,ho,r⟩⟩:bL X.prog X.w H s.heap a (.dK us):=I.hok a _ h
 have I2:Inv X pins σ (upd H a (.frz o (.dK us))) { s with heap:=s.heap,toks:=s.toks }:=I.write (x:=a) (e:=a) (by rw [h]; exact True.intro) (.inl rfl) (λb u _ q=>q) ⟨o,ho⟩ ⟨ho,z,hd,vs,rel,⟨o,es,ep,ho,r⟩⟩
 exact ⟨o,I2⟩
noncomputable def Dw (td:TE):TI:=λσ H R=>td σ H λx H1=>∃ a us,x=.ref a/\((H1 a=some (.dK us)/\∀ o,R (Iti a o us) (upd H1 a (.frz o (.dK us)))) \/ ∃ o,H1 a=some (.frz o (.dK us))/\R (Iti a o us) H1)
theorem yC {es:List Expr} {n:Nat} {tp:Pos} {d:Expr} {td:TE} {apos pos:Pos} (hd:PE X d td) (hbase:autoParam (attributeBase d "items" X.env (eval d X.env)=eval d X.env) Au.h0._auto_1) (hline:autoParam ((apos.endLine == pos.line)=true) Au.h0._auto_1)
  (hfew:autoParam (((backTo pos (starEach [] X.env)).all (λx=>!x.1) && (backToKw pos (keywordEach [] X.env)).all (λx=>x.1.isSome) && decide (([]:List Expr).length + ([]:List Keyword).length + (if ([]:List Keyword).isEmpty then 0 else 1) < 30))=true) Au.h0._auto_1):
  PI X (.Tuple es n tp) (.Call (.Attribute d "items" apos) [] [] pos) (Dw td):=by
 intro pins s σ H R I h
 refine Ue (T:="dict") (id:="dict.items") hbase hfew hline F.plainAttrs_dict F.slot_dict_items F.type_dict_items (thn (hd pins s σ H _ I h) λu s1 zq=>?_)
 obtain ⟨x,H1,I1,rx,a,us,ex,q1⟩:=zq
 subst ex
 obtain rfl:u=Value.ref a:=rx
 have main:∀ (H2:Hp) (o:Obj),Inv X pins σ H2 s1->H2 a=some (.frz o (.dK us))->R (Iti a o us) H2->s1.TypeIs (.ref a) "dict"/\(∀ b,Value.ref a=.ref b->∃ ob,s1.heap.get? b=some ob/\ob.dict=none)/\
   wpAny (model X.prog X.w) X.A (callWith pos (.builtin "dict.items") [.ref a] (backTo pos (starEach [] X.env)) []) (λv s2=>wpAny (model X.prog X.w) X.A (pyIter v) (PIE X pins σ (.Tuple es n tp) R) X.xe s2) X.xe s1:=λH2 o I2 hH2 q=>by
  obtain ⟨t1,t2,t3⟩:=tR I2 (a:=a) (.inl ⟨us,.inr ⟨o,hH2⟩⟩)
  refine ⟨t1,t2,?_⟩
  obtain ⟨eo,z,hdd,vs,rel,⟨o',ee,ep,ho,hx,hdat,k1,k2,k3⟩⟩:s1.heap.get? a=some o/\bL X.prog X.w H2 s1.heap a (.dK us):=I2.hok a _ hH2
  rw [eo] at ho; cases ho
  have dat:s1.heap.DictAt (aQ X.prog X.w) a vs ep:=⟨o,ee,eo,hx,hdat,k1,k2,k3⟩
  show wpAny _ _ (callWith pos (.builtin "dict.items") [.ref a] [] []) _ _ s1
  refine method_meetsIn F.slot_dict_items F.entry_dict_items rfl (PySem.evalArgs_none ⟨rfl,t1,F.args_dict_items_1 _,_,meets_dict_items (aQ X.prog X.w) a t3,⟨vs,dat.dictOf⟩,?_⟩)
  have I3:Inv X pins σ H2 { s1 with heap:=s1.heap.push { cls:=.type "dict_items",data:=.fields #[.ref a] } }:=I2.kept (t':=s1.toks) λb u e=>J7 _ e
  refine wpAny_pyIter_items (s:={ s1 with heap:=s1.heap.push { cls:=.type "dict_items",data:=.fields #[.ref a] } }) ⟨_,Ji _ rfl,rfl,rfl⟩ (dat.push _) ?_
  have hl:=rel.length
  have la:a < s1.heap.objs.size:=Jk eo
  have sz:({ s1 with heap:=s1.heap.push { cls:=.type "dict_items",data:=.fields #[.ref a] } }:Shared).heap.objs.size=s1.heap.objs.size + 1:=Y4 ..
  refine ⟨_,[_],_,_,H2,rfl,I3.kept (t':=s1.toks) λb u e=>J7 _ e,t7 _ a o us ee ep hdat (by rw [sz]; exact Jt (Zk la)),⟨.none,.none,by rw [hl]; exact Ji _ rfl⟩,λc hc=>?_,q⟩
  have ec:c=({ s1 with heap:=s1.heap.push { cls:=.type "dict_items",data:=.fields #[.ref a] } }:Shared).heap.objs.size:=by simpa using hc
  subst ec
  exact I3.fpOk (Jb _) (I3.hok.fresh (Jb _))
 rcases q1 with ⟨hH,q⟩ | ⟨o,hH,q⟩
 ·obtain ⟨o,I2⟩:=I1.freeze hH
  exact main _ o I2 aK (q o)
 ·exact main _ o I1 hH q
end L2
namespace PD
open PySem PySem.Spec PyProof.Rows L2
variable {w:Wd} {H:Hp}
noncomputable def kD:KD->D
 | .inl i=>.int i
 | .inr x=>.str x
noncomputable def pairD (kv:KD × D):D:=.tup [kD kv.1,kv.2]
noncomputable def fE (m:EM):AM:=λr S=>(m r S).bind λd S1=>match d with
 | .ref n=>match S1[n]? with
  | some (.dic kvs)=>.ok (kvs.map pairD) (S1.set n (.fdic kvs))
  | some (.fdic kvs)=>.ok (kvs.map pairD) S1
  | _=>.bad
 | _=>.bad
theorem RDk.getI {K:PySem.W.Frag} :∀ {ds:List (KD × D)} {us:List (Key × V)} {i:Nat} {k:KD} {d:D},RDk K w H ds us->ds[i]?=some (k,d)->∃ v,us[i]?=some (k,v)/\RD K w H d v
 | [],_,_,_,_,_,h=>by simp at h
 | (j,e) :: ds,_,i,k,d,q,h=>by
  obtain ⟨v,r,rfl,p,t⟩:=q.cons_inv
  cases i with
  | zero=>simp at h; obtain ⟨rfl,rfl⟩:=h; exact ⟨v,by simp,p⟩
  | succ i=>simpa using RDk.getI t (by simpa using h)
theorem Dx {K:PySem.W.Frag} (k:KD):RD K w H (kD k) (kV k):=by
 cases k with
 | inl i=>unfold kD RD; rfl
 | inr x=>unfold kD RD; rfl
theorem rP {K:PySem.W.Frag} {a:Addr} {o:Obj} {kvs:List (KD × D)} {us:List (Key × V)} (hst:∀ w' H',Ext w H w' H'->H' a=some (.frz o (.dK us))) (rk:RDk K w H kvs us):RI K w H (kvs.map pairD) (Iti a o us):=by
 intro i w' H' x'
 have rk':=RDk.ext x' _ _ rk
 have hl:=rk.length
 have ha:=hst w' H' x'
 refine ⟨λhi=>?_,λhi=>⟨ha,by rw [Jh] at hi; omega⟩⟩
 rw [Jh] at hi
 refine ⟨⟨ha,us[i]'(by omega),Ja _⟩,λv H'' y=>?_⟩
 obtain ⟨p,k,x,rfl,hp,rfl,hx⟩:=y
 obtain ⟨v2,e2,r2⟩:=rk'.getI (i:=i) (k:=kvs[i].1) (d:=kvs[i].2) (by rw [Ja hi])
 rw [hx] at e2
 cases e2
 refine ⟨.inr ⟨p,_,hp,rfl⟩,λS hS=>⟨pairD kvs[i],by simp [hi],?_⟩⟩
 unfold pairD RD
 refine ⟨p,[kV kvs[i].1,x],rfl,.inl ⟨aK,hS.fresh hp⟩,?_⟩
 unfold RDs RDs RDs
 exact ⟨_,_,rfl,Dx _,_,_,rfl,RD.ext (Ext.new hp) _ _ r2,rfl⟩
section
variable {X:Cx} {E:XK}
theorem jQ {es:List Expr} {n:Nat} {tp:Pos} {d:Expr} {md:EM} {apos pos:Pos} (ha:SE X E d md) (hbase:autoParam (attributeBase d "items" X.env (eval d X.env)=eval d X.env) Au.h0._auto_1) (hline:autoParam ((apos.endLine == pos.line)=true) Au.h0._auto_1)
  (hfew:autoParam (((backTo pos (starEach [] X.env)).all (λx=>!x.1) && (backToKw pos (keywordEach [] X.env)).all (λx=>x.1.isSome) && decide (([]:List Expr).length + ([]:List Keyword).length + (if ([]:List Keyword).isEmpty then 0 else 1) < 30))=true) Au.h0._auto_1):
  SI X E (.Tuple es n tp) (.Call (.Attribute d "items" apos) [] [] pos) (fE md):=⟨
 fg (yC ha.out hbase hline hfew) λs H Q zq=>ex6 zq λw r S hr hS hp=>⟨w,r,S,hr,hS,hp.bind hS λd S1 w1 H1 v x1 q1 s1 p1=>by
  cases d with
  | ref m=>
   obtain ⟨pp,rfl,hp⟩:=q1.refI
   have hm:pp ∈ w1.st:=Z1 hp
   cases e:S1[m]? with
   | none=>simp only [e] at p1; exact p1.elim
   | some ob=>
    obtain ⟨p',hp',ro⟩:=s1.obj _ _ e
    rw [hp] at hp'; cases hp'
    cases ob with
    | dic kvs=>
     simp only [e] at p1
     obtain ⟨us,hv,rk⟩:=ro
     refine ⟨pp,us,rfl,.inl ⟨hv,λo=>?_⟩⟩
     have rk':=RDk.ext (Ext.mut hm hv (o:=.frz o (.dK us))) _ _ rk
     exact aE.at p1 (Ext.mut hm hv) (rP (λw' H' x'=>x'.frz _ _ _ aK) rk') (s1.mut hp hv ⟨o,us,aK,rk'⟩)
    | fdic kvs=>
     simp only [e] at p1
     obtain ⟨o,us,hv,rk⟩:=ro
     exact ⟨pp,us,rfl,.inr ⟨o,hv,aE.ret p1 (rP (λw' H' x'=>x'.frz _ _ _ hv) rk) s1⟩⟩
    | lst xs=>simp only [e] at p1; exact p1.elim
    | ins c fs=>simp only [e] at p1; exact p1.elim
    | flst xs=>simp only [e] at p1; exact p1.elim
  | _=>exact p1.elim⟩⟩
end
def TupAt (K:PySem.W.Frag) (mg:Str->Option Value) (x:Str) (is:List Int):Prop:=∃ a,mg x=some (.ref a)/\rn K a (is.map .int)
section
variable {X:Cx} {E:XK}
theorem rdi {K:PySem.W.Frag} :∀ is:List Int,RDs K w H (is.map .int) (is.map .int)
 | []=>.nil
 | i :: is=>.cons (by unfold RD; rfl) (rdi is)
theorem rQ {x:Str} {is:List Int} {pos:Pos} (h:TupAt X.K X.mg x is) (hg:Gl X x) (hd:autoParam ((x == ("__debug__":Str))=false) Au.h3._auto_1):SE X E (.Name x pos) (eC (.tup (is.map .int))):=by
 obtain ⟨a,hm,k⟩:=h
 exact wI (uN hg hm (v:=.ref a) rfl hd) λ_ _=>by unfold RD; exact ⟨a,_,rfl,.inr k,rdi is⟩
end
theorem AY {K:PySem.W.Frag} {h:Heap} {mg:Str->Option Value} (X:K.In h) (G:h.Ns mainGlobals mg) {x:Str} {a:Addr} {od:Option Addr} {n:Nat} {sl:Array (Option Value)} {i j:Int} {t1 t2:Tok} (hn:PySem.W.nsIn K mainGlobals x=some (some (.ref a))) (hl:K.lookup a=some ⟨.type "tuple",od,.seq #[.int i t1,.int j t2] n,sl⟩):TupAt K mg x [i,j]:=
 ⟨a,Jr X G hn,_,_,n,hl,rfl,rfl,by show 2<=sizeLine; decide,.cons ⟨t1,rfl⟩ (.cons ⟨t2,rfl⟩ .nil)⟩
section
variable {K:PySem.W.Frag} {w:Wd} {H:Hp}
theorem Mv.adopt {p:Addr} {o:HO} (hh:p ∈ w.hid):Mv w H ((w.unhide p).add p) (upd H p o):=
  ⟨λn a h=>by
      show (w.st ++ [p])[n]?=some a
      rw [Jq (J9.mp h).1]; exact h,
   λa u h=>⟨by rw [aL (λz:a=p=>h.2.2 (z ▸ hh))]; exact h.1,λz=>by
      rcases Jp.mp z with z | z
      · exact h.2.1 z
      · exact h.2.2 (by rw [Jf.mp z]; exact hh),λz=>h.2.2 (Wd.mem_unhide z).1⟩⟩
theorem RS.adopt {p:Addr} {o:HO} {so:SO} {S:Sto} (s:RS K w H S) (hh:p ∈ w.hid) (r:RO K ((w.unhide p).add p) (upd H p o) p so):RS K ((w.unhide p).add p) (upd H p o) (S ++ [so]):=by
 have np:=(s.hid p hh).1
 refine ⟨?_,by simp [Wd.add,Wd.unhide,s.len],λn so' e=>?_,λa ha=>?_⟩
 ·show (w.st ++ [p]).Nodup
  rw [Uf]
  exact ⟨s.nd,by simp,λa ha b hb=>by
   have:b=p:=by simpa using hb
   subst this
   rintro rfl
   exact np ha⟩
 ·by_cases hn:n < S.length
  ·rw [Jq hn] at e
   obtain ⟨a,ha,q⟩:=s.obj n so' e
   have ne:a ≠ p:=λz=>np (z ▸ Z1 ha)
   exact ⟨a,(Mv.adopt (H:=H) (o:=o) hh).st n a ha,q.mv (Mv.adopt hh) λu z=>by rw [aL ne]; exact z⟩
  ·have hn':n=S.length:=by
    have:=(J9.mp e).1
    simp at this; omega
   subst hn'
   simp at e; subst e
   exact ⟨p,by show (w.st ++ [p])[S.length]?=some p; rw [<- s.len]; simp,r⟩
 ·obtain ⟨h1,h2⟩:=Wd.mem_unhide ha
  obtain ⟨h3,u,e⟩:=s.hid a h1
  refine ⟨?_,u,by rw [aL h2]; exact e⟩
  show a ∉ w.st ++ [p]
  intro z
  rcases Jp.mp z with z | z
  ·exact h3 z
  ·exact h2 (by simpa using z)
end
section
variable {X:Cx} {E:XK} {pos:Pos}
theorem lO {keys:List (Option Expr)} {values:List Expr} {ms:List (EM × EM)} (h:SPs X E pos keys values ms) (hall:autoParam (keys.all (·.isSome)=true) Au.h0._auto_1) (hl:autoParam (keys.length=values.length) Au.h0._auto_1) (h0:keys ≠ []:=by intro z; cases z) (h15:autoParam (keys.length<=15) Au.h3._auto_1):
  SE X E (.Dict keys values pos) (jl ms):=⟨
 aY (Ax h.out hall hl h0 h15) λs H Q q=>wL (keys:=keys) (values:=values) (m:=jl ms) (fin:=λkvs S1=>R.ok (D.ref S1.length) (S1 ++ [SO.dic (du [] kvs)])) (λr S=>rfl) (λkvs us w0 w H0 H S0 S p hp s0 s x hh rk p1=>by
  have hpn:=(s.hid p hh).1
  refine aE.at p1 (w1:=(w.unhide p).add p) ⟨λa o h n=>by rw [aL (aO h hp)]; exact x.keep a o h n,?_,λa h=>Y2.mpr ⟨x.hid a h,Js λz=>(s0.fresh hp).2 (z ▸ h)⟩,λa h=>x.hnew a (Wd.mem_unhide h).1,λa o u h=>by rw [aL (aO h hp)]; exact x.frz a o u h⟩ ?_ (s.adopt hh ⟨_,aK,RDk.mv (Mv.adopt hh) _ _ rk⟩)
  ·obtain ⟨l,e,f⟩:=x.sub
   exact ⟨l ++ [p],by show w.st ++ [p]=_; rw [e,Y7],λa ha=>(Jp.mp ha).elim (f a) λz=>by rw [Jf.mp z]; exact hp⟩
  ·unfold RD
   exact ⟨p,rfl,by show (w.st ++ [p])[S.length]?=some p; rw [<- s.len]; simp⟩) q⟩
noncomputable def vn:EM:=λ_ S=>.ok (.ref S.length) (S ++ [.dic []])
theorem pW:SE X E (.Dict [] [] pos) vn:=⟨
 aY rm λs H Q zq=>ex6 zq λw r S hr hS hp=>λp hpn=>aE.at hp (Ext.alloc hpn) hS.lastRef (hS.alloc hpn ⟨[],aK,RDk.nil⟩)⟩
end
noncomputable def cW:Int->List Int->Int
 | m,[]=>m
 | m,x :: r=>cW (if x < m then x else m) r
theorem iV:∀ (l:List Int) (m:Int),(cW m l<=m/\∀ x ∈ l,cW m l<=x)/\(cW m l=m \/ cW m l ∈ l)
 | [],m=>⟨⟨Yo _,λx h=>nomatch h⟩,.inl rfl⟩
 | x :: r,m=>by
  obtain ⟨⟨h1,h2⟩,h3⟩:=iV r (if x < m then x else m)
  show (cW (if x < m then x else m) r<=m/\∀ y ∈ x :: r,cW (if x < m then x else m) r<=y)/\(cW (if x < m then x else m) r=m \/ cW (if x < m then x else m) r ∈ x :: r)
  generalize cW (if x < m then x else m) r=z at *
  by_cases hx:x < m
  ·rw [J8 hx] at h1 h3
   refine ⟨⟨by omega,λy hy=>?_⟩,.inr ?_⟩
   ·rcases Jg.mp hy with e | hy
    ·rw [e]; exact h1
    ·exact h2 y hy
   ·rcases h3 with e | h3
    ·rw [e]; exact .head _
    ·exact .tail _ h3
  ·rw [Jc hx] at h1 h3
   refine ⟨⟨h1,λy hy=>?_⟩,?_⟩
   ·rcases Jg.mp hy with e | hy
    ·rw [e]; omega
    ·exact h2 y hy
   ·rcases h3 with e | h3
    ·exact .inl e
    ·exact .inr (.tail _ h3)
noncomputable def jR (S:Sto):D->Option (List D)
 | .lst a=>some a
 | .ref n=>match S[n]? with
  | some (.lst a)=>some a
  | _=>none
 | _=>none
noncomputable def yD:Sto->List D->Option D
 | S,[d]=>match jR S d with
  | some a=>match intsOf a with
   | some (n :: ns)=>some (.int (cW n ns))
   | _=>none
  | none=>none
 | _,_=>none
noncomputable def yE:Sto->List D->Option D:=λS ds=>if ds.length=1 then yD S ds else pO S ds
section
variable {X:Cx} {E:XK}
theorem nE {prog:Program} {w:World} {A:Around} {Ex:Value->Shared->Prop} {s:Shared} {l:Addr} {vs:List Value} {ns:List Int} {Q:Value->Shared->Prop} (hh:A.handled=none) (hl:s.heap.IsList l vs.toArray) (hi:IntsAre vs ns) (hne:0 < ns.length)
  (h:∀ h' M (t:Tok) tk,(∀ b o,s.heap.get? b=some o->h'.get? b=some o)->M ∈ ns->(∀ a,a ∈ ns->M<=a)->Q (.int M t) { s with heap:=h',toks:=tk }):wpAny (model prog w) A (call (.builtin "min") [.ref l]) Q Ex s:=by
 obtain ⟨xs,e⟩:=hi.allInts.items
 have hns:ns=xs.toList.map (·.1):=(by rw [<- hi.numsOf,<- nums_intItems,<- e])
 have hsz:0 < xs.size:=(by have h3:=hne; rw [hns,Jh,Y1] at h3; exact h3)
 rw [e] at hl
 refine min_intList hh hl hsz λv h' tk hv hk=>?_
 obtain ⟨t,rfl⟩:=intItems_at hv; obtain ⟨h1,h2⟩:=argBest_lt (numAt xs) (xs.size - 1)
 refine h _ _ t tk hk ?_ λa ha=>?_
 ·rw [hns,numAt_eq]; exact getD_mem (by rw [Jh,Y1]; omega)
 ·rw [hns] at ha; obtain ⟨j,hj,rfl⟩:=mem_getD ha; rw [Jh,Y1] at hj; rw [<- numAt_eq]; exact h2 j (by omega)
theorem pX {K:PySem.W.Frag} {S:Sto} {d:D} {v:V} {a:List D} (s:RS K w H S) (q:RD K w H d v) (h:jR S d=some a):∃ p vs,v=.ref p/\SqL K H p vs/\RDs K w H a vs:=by
 unfold jR at h
 split at h
 ·cases h; obtain ⟨p,vs,e,z,r⟩:=q.lstI; exact ⟨p,vs,e,SqL.of z.1,r⟩
 ·rename_i n
  split at h
  ·rename_i e; cases h
   obtain ⟨p,rfl,hp⟩:=q.refI
   obtain ⟨p',hp',vs,hv,r⟩:=s.obj _ _ e
   rw [hp] at hp'; cases hp'
   exact ⟨p,vs,rfl,SqL.of hv,r⟩
  ·cases h
 ·cases h
theorem AZ (hc:X.calm=true):bw X (.builtin "min") (xC X.K E yD):=by
 rintro pins s σ H xs us Q I r ⟨w,S,ds,hS,qs,p⟩
 obtain ⟨z,hz,p'⟩:=p.of
 clear p
 unfold yD at hz
 split at hz
 ·rename_i d
  obtain ⟨v,rfl,q⟩:=qs.one_inv
  split at hz
  ·rename_i a ha
   split at hz
   ·rename_i n ns hns
    cases hz
    obtain ⟨pa,vs,rfl,sq,ra⟩:=pX hS q ha
    obtain ⟨u,rfl,rx⟩:=W9 r
    cases rx
    obtain ⟨its,r',pl,hz⟩:=I.list sq
    refine nE (I.ok.hd hc) pl.isList (iD ra r' hns) (by simp) λh' M t tk hk h1 h2=>?_
    have eM:M=cW n ns:=by
     obtain ⟨⟨a1,a2⟩,a3⟩:=iV ns n
     have b1:=h2 (cW n ns) (by rcases a3 with e | h; rw [e]; exact .head _; exact .tail _ h)
     have b2:cW n ns<=M:=by
      rcases Jg.mp h1 with e | h
      ·rw [e]; exact a1
      ·exact a2 M h
     omega
    subst eM
    exact ⟨.int _,H,I.kept (t':=tk) hk,⟨t,rfl⟩,p'.ret (by unfold RD; rfl) hS⟩
   ·cases hz
  ·cases hz
 ·cases hz
theorem B3 {f:Value} {g g1 g2:Sto->List D->Option D} (h1:bw X f (xC X.K E g1)) (h2:bw X f (xC X.K E g2)) (h:∀ S ds,g S ds=g1 S ds \/ g S ds=g2 S ds):bw X f (xC X.K E g):=by
 rintro pins s σ H xs us Q I r ⟨w,S,ds,hS,qs,p⟩
 rcases h S ds with z | z
 ·exact h1 pins s σ H xs us Q I r ⟨w,S,ds,hS,qs,z ▸ p⟩
 ·exact h2 pins s σ H xs us Q I r ⟨w,S,ds,hS,qs,z ▸ p⟩
theorem A1 (hc:X.calm=true):bw X (.builtin "min") (xC X.K E yE):=B3 (AZ hc) (tY hc) λS ds=>by
 unfold yE
 split
 ·exact .inl rfl
 ·exact .inr rfl
end
section
variable {X:Cx} {E:XK} {pos:Pos}
theorem A3:SE X E (.Dict [] [] pos) (AJ []):=⟨
 aY rm λs H Q zq=>ex6 zq λw r S hr hS hp=>λp hpn=>aE.at (show aE X.K E (RD X.K) w H (R.ok (D.dic []) S) Q from hp) (Ext.new hpn) (by unfold RD; exact ⟨p,[],rfl,⟨aK,hS.fresh hpn⟩,RDk.nil⟩) (hS.new hpn)⟩
end
end PD
namespace PySem
open PyProof.Rows
section
variable {prog:Program} {w:World} {A:Around} {E:Value->Shared->Prop} {s:Shared} {K:Type} [DecidableEq K] {knd:KeyKind prog w K}
noncomputable def jS:Value->Option Int
 | .int i _=>some i
 | _=>none
noncomputable def dW (vs vs':List (K × Value)):Bool:=decide (vs.length=vs'.length) && vs.all λkv=>decide ((valueAt vs' kv.1).bind jS=jS kv.2)
theorem t8 {a b:Addr} {vs vs':List (K × Value)} {ep ep':Nat} {id:String} {Q:Bool->Shared->Prop} (ha:(a == sysModules)=false) (hb:(b == sysModules)=false) (dA:s.heap.DictAt knd a vs ep) (dB:s.heap.DictAt knd b vs' ep')
  (iA:∀ kv ∈ vs,∃ n t,kv.2=.int n t) (iB:∀ kv ∈ vs',∃ n t,kv.2=.int n t) (h:Q (dW vs vs') s):wpAny (model prog w) A (Builtin.Dict.samePairs id a b) Q E s:=by
 obtain ⟨oa,ea,hoa,xa,hda,ka,pa,na⟩:=dA
 obtain ⟨ob,eb,hob,xb,hdb,kb,pb,nb⟩:=dB
 unfold Builtin.Dict.samePairs
 unfold Builtin.Dict.showsAll
 rw [ha,hb]
 refine J6 (Jd ?_)
 refine J6 (Jd ?_)
 refine J6 (V7 hoa hda ?_)
 refine J6 (V7 hob hdb ?_)
 have la:ea.size=vs.length:=by have:=pa.length; simpa using this
 have lb:eb.size=vs'.length:=by have:=pb.length; simpa using this
 by_cases hsz:ea.size=eb.size
 ·rw [Jc (by simp [hsz])]
  refine J6 (wpAny_dictEpoch hoa hda ?_)
  refine J6 ?_
  rw [Std.Legacy.Range.forIn_eq_forIn_range']
  simp only [Std.Legacy.Range.size,Nat.sub_zero,Nat.add_sub_cancel,Nat.div_one]
  have key:∀ i (hi:i < ea.size),∃ kv,vs[i]?=some kv/\knd.is kv.1 ea[i].key=true/\ea[i].hash=knd.hash kv.1/\ea[i].val=kv.2:=λi hi=>by
   obtain ⟨kv,hkv⟩:∃ kv,vs[i]?=some kv:=⟨vs[i]'(by rw [<- la]; exact hi),Ja _⟩
   obtain ⟨h1,h2⟩:=pa.get? (e:=ea[i]) (by simp [hi]) hkv
   obtain ⟨k',hk',hh⟩:=ka ea[i] (Array.getElem_mem hi)
   obtain rfl:k'=kv.1:=knd.inj _ _ _ hk' h1
   exact ⟨kv,hkv,h1,hh,h2⟩
  refine wpAny_forIn_list _ (λrest b s'=>s'=s/\b=(none,())/\∃ i,rest=List.range' i (ea.size - i)/\i<=ea.size/\∀ j,j < i->∀ kv,vs[j]?=some kv->(valueAt vs' kv.1).bind jS=jS kv.2) _ ?_ ?_ _ _ ⟨rfl,rfl,0,by simp,Y3 _,λj hj=>absurd hj (Nat.not_lt_zero _)⟩
  ·rintro x rest b s' ⟨rfl,rfl,i,hr,hi,hall⟩
   have hlt:i < ea.size:=by
    rcases Ul i ea.size with h | h
    ·exact h
    ·rw [Nat.sub_eq_zero_of_le h] at hr; simp at hr
   obtain ⟨rfl,hrest⟩:x=i/\rest=List.range' (i + 1) (ea.size - (i + 1)):=by
    have e:ea.size - i=(ea.size - (i + 1)) + 1:=by omega
    rw [e,List.range'_succ] at hr
    injection hr with h1 h2
    exact ⟨h1,h2⟩
   obtain ⟨kv,hkv,hk1,hh,hval⟩:=key x hlt
   refine J6 (V7 hoa hda ?_)
   rw [Array.getElem?_eq_getElem hlt]
   dsimp only
   have hmem:kv ∈ vs:=Z1 hkv
   obtain ⟨n,tn,hn⟩:=iA kv hmem
   have stop:(valueAt vs' kv.1).bind jS ≠ jS kv.2->wpAny (model prog w) A (match ((some false,()):Option Bool × Unit).fst with | some r=>pure r | none=>pure true) Q E s':=λhne=>by
    have e:dW vs vs'=false:=by
     unfold dW
     rw [Bool.and_eq_false_iff]
     refine .inr (List.all_eq_false.mpr ⟨kv,hmem,?_⟩)
     rw [Jy hne]; decide
    rw [e] at h
    exact Jd h
   have go:(valueAt vs' kv.1).bind jS=jS kv.2->∃ i,rest=List.range' i (ea.size - i)/\i<=ea.size/\∀ j,j < i->∀ kv,vs[j]?=some kv->(valueAt vs' kv.1).bind jS=jS kv.2:=λhe=>
    ⟨x + 1,hrest,hlt,λj hj kv2 hkv2=>by
     rcases Ul j x with hjx | hjx
     ·exact hall j hjx kv2 hkv2
     ·have:j=x:=by omega
      subst this
      rw [hkv] at hkv2; cases hkv2
      exact he⟩
   have hfi:(eb.findIdx? λe=>knd.is kv.1 e.key)=vs'.findIdx? λkv'=>decide (kv'.1=kv.1):=by
    rw [<- pb.findIdx kv.1,<- List.findIdx?_toArray,Array.toArray_toList]
   refine J6 (Zc (J6 ?_))
   rw [hh]
   refine wpAny_dictFind_of hk1 hob hdb kb ?_
   rw [hfi]
   cases hj:vs'.findIdx? λkv'=>decide (kv'.1=kv.1) with
   | none=>
    dsimp only
    refine Jd ?_
    rw [J8 (by decide)]
    refine Jd (stop ?_)
    have:valueAt vs' kv.1=none:=by
     unfold valueAt
     rw [List.findIdx?_eq_none_iff] at hj
     have:(vs'.find? λkv'=>decide (kv'.1=kv.1))=none:=V3.mpr λy hy hd=>by
      have:=hj y hy
      rw [hd] at this; cases this
     rw [this]; rfl
    rw [this,hn]
    intro z; cases z
   | some j=>
    dsimp only
    obtain ⟨hjl,hjt,hjf⟩:=List.findIdx?_eq_some_iff_getElem.mp hj
    have hjb:j < eb.size:=by omega
    obtain ⟨q1,q2⟩:=pb.get? (e:=eb[j]) (by simp [hjb]) (Ja hjl)
    have hva:valueAt vs' kv.1=some vs'[j].2:=by
     unfold valueAt
     have:(vs'.find? λkv'=>decide (kv'.1=kv.1))=some vs'[j]:=by
      rw [List.find?_eq_some_iff_getElem]
      exact ⟨hjt,j,hjl,rfl,λk hk=>by
       have:=hjf k hk
       simpa using this⟩
     rw [this]; rfl
    obtain ⟨n',tn',hn'⟩:=iB vs'[j] (Ws hjl)
    refine J6 (V7 hob hdb ?_)
    rw [Array.getElem?_eq_getElem hjb]
    dsimp only
    refine Zc ?_
    rw [hval,show eb[j].val=vs'[j].2 from q2,hn,hn']
    refine wpAny_eqBool_int ?_
    by_cases hnn:n=n'
    ·subst hnn
     rw [Jc (by simp)]
     refine J6 (wpAny_dictEpoch hoa hda ?_)
     rw [Jc (by simp)]
     refine Jd ⟨rfl,rfl,go ?_⟩
     rw [hva,hn,Option.bind_some,hn']; rfl
    ·rw [J8 (by simp [hnn])]
     refine Jd (stop ?_)
     rw [hva,hn,Option.bind_some,hn']
     intro z
     exact hnn (Yd z).symm
  ·rintro b' s' ⟨rfl,rfl,i,hr,hi,hall⟩
   have hin:i=ea.size:=by
    rcases Ul i ea.size with h | h
    ·have e:ea.size - i=(ea.size - (i + 1)) + 1:=by omega
     rw [e,List.range'_succ] at hr; cases hr
    ·omega
   have e:dW vs vs'=true:=by
    unfold dW
    rw [Yl]
    refine ⟨Js (by omega),Yv.mpr λkv hkv=>?_⟩
    obtain ⟨j,hj,rfl⟩:=List.getElem_of_mem hkv
    exact Js (hall j (by omega) _ (Ja hj))
   rw [e] at h
   exact Jd h
 ·rw [J8 (by simpa using hsz)]
  refine J6 (Z0 ?_)
  have e:dW vs vs'=false:=by
   unfold dW
   rw [Jy (by omega)]; rfl
  rw [e] at h
  exact Jd h
end
end PySem
namespace PD
open PySem PySem.Spec PyProof.Rows L2
variable {T:List (KD × Int)} {vs:List (Key × Value)}
noncomputable def jT:List (KD × D)->Option (List (KD × Int))
 | []=>some []
 | (k,.int i) :: r=>(jT r).map ((k,i) :: ·)
 | _ :: _=>none
noncomputable def yF (T T':List (KD × Int)):Bool:=decide (T.length=T'.length) && T.all λe=>decide (((T'.find? λe'=>decide (e'.1=e.1)).map (·.2))=some e.2)
inductive VT:List (KD × Int)->List (Key × Value)->Prop
 | nil:VT [] []
 | cons {k:KD} {i:Int} {t:Tok} {T:List (KD × Int)} {vs:List (Key × Value)}:VT T vs->VT ((k,i) :: T) ((k,.int i t) :: vs)
theorem VT.length (h:VT T vs):T.length=vs.length:=by
 induction h with
 | nil=>rfl
 | cons _ ih=>simp [ih]
theorem VT.ints (h:VT T vs):∀ kv ∈ vs,∃ n t,kv.2=Value.int n t:=by
 induction h with
 | nil=>intro kv z; cases z
 | cons _ ih=>
  intro kv z
  rcases Jg.mp z with rfl | z
  ·exact ⟨_,_,rfl⟩
  ·exact ih kv z
theorem VT.at (h:VT T vs) (k:KD):(valueAt vs k).bind jS=(T.find? λe'=>decide (e'.1=k)).map (·.2):=by
 induction h with
 | nil=>rfl
 | @cons k' i t T vs _ ih=>
  unfold valueAt at ih ⊢
  rw [Z5,Z5]
  by_cases hk:k'=k
  ·simp [hk,jS]
  ·simp only [hk,Zv]
   exact ih
theorem VT.same {T':List (KD × Int)} {vs':List (Key × Value)} (h:VT T vs) (h':VT T' vs'):dW vs vs'=yF T T':=by
 unfold dW yF
 rw [h.length,h'.length]
 congr 1
 have:∀ {T:List (KD × Int)} {vs:List (Key × Value)},VT T vs->(vs.all λkv=>decide ((valueAt vs' kv.1).bind jS=jS kv.2))=T.all λe=>decide (((T'.find? λe'=>decide (e'.1=e.1)).map (·.2))=some e.2):=λh=>by
  induction h with
  | nil=>rfl
  | @cons k i t T vs _ ih=>
   rw [Wu,Wu,ih,h'.at k]
   rfl
 exact this h
theorem yG {K:PySem.W.Frag} {w:Wd} {H:Hp}:∀ {kvs:List (KD × D)} {T:List (KD × Int)} {us:List (Key × V)} {vs:List (Key × Value)},jT kvs=some T->RDk K w H kvs us->KV us vs->VT T vs
 | [],T,us,vs,hi,q,r=>by
  cases hi
  rw [q.nil_inv] at r
  cases r
  exact .nil
 | (k,d) :: kvs,T,us,vs,hi,q,r=>by
  obtain ⟨v,us',rfl,p,q'⟩:=q.cons_inv
  cases d with
  | int i=>
   unfold jT at hi
   cases ht:jT kvs with
   | none=>rw [ht] at hi; cases hi
   | some T'=>
    rw [ht] at hi; cases hi
    cases p.int
    cases r with
    | @cons _ x _ vs' hd tl=>
     obtain ⟨k',u⟩:=x
     obtain ⟨e,rv⟩:=hd
     obtain ⟨t,rfl⟩:=rv
     cases (show k'=k from e.symm)
     exact .cons (yG ht q' tl)
  | _=>unfold jT at hi; cases hi
end PD
namespace PD
open PySem PySem.Spec PyProof.Rows L2
open AutoSeq1 (wpAny_loadPart')
open MeetsSeq MeetsSeq2 MeetsSeq3 SeqRoads2 PySem.SeqAt
variable {xs ys:List Int}
noncomputable def ltZ:List Int->List Int->Bool
 | [],[]=>false
 | [],_ :: _=>true
 | _ :: _,[]=>false
 | x :: xs,y :: ys=>if x=y then ltZ xs ys else decide (x < y)
theorem ltZ_eq {x y:Int} (h:x=y):ltZ (x :: xs) (y :: ys)=ltZ xs ys:=J8 h
theorem fF {x y:Int} (h:¬ x=y):ltZ (x :: xs) (y :: ys)=decide (x < y):=Jc h
theorem vo {A:Around} {s:Shared} {a b:Int} {t u:Tok} (prog:Program) (w:World) {E:Value->Shared->Prop} {Q:Value->Shared->Prop} (h:Q (.bool (decide (a < b))) s):wpAny (model prog w) A (richCompare .Lt (.int a t) (.int b u)) Q E s:=
 richCompare_gives (op:=.Lt) (V5 s _ t) (V5 s _ u) F.slot_int_lt F.entry_int_lt (F.args_int_lt_2 _ _) (gives_int_lt _ _ t u) (λx=>nomatch x) h
theorem pY (l b:Addr) (items items2:Array Value) (n n2:Nat) (dd dd2:Option Addr) (sl sl2:Array (Option Value)) (hx:IntsAre items.toList xs) (hy:IntsAre items2.toList ys):
  Meets (Builtin.«tuple.__lt__» ⟨[.ref l,.ref b],[]⟩)
   (λA R s=>s.heap.get? l=some { cls:=.type "tuple",dict:=dd,data:=.seq items n,slots:=sl }/\s.heap.get? b=some { cls:=.type "tuple",dict:=dd2,data:=.seq items2 n2,slots:=sl2 }/\
    R (.ok (.ret (.bool (ltZ xs ys)))) s):=
 .of_wp λprog w A R s h=>by
  obtain ⟨hp,g,d,tk,os⟩:=s; obtain ⟨hl,hb,h⟩:=h
  have f2:=AutoSeq1.sub_tuple_tuple
  wp_walk using wpAny_loadPart' hl,wpAny_loadPart' hb,wpAny_forIn_list _ (λrest b s'=>b.1=none/\s'=⟨hp,g,d,tk,os⟩/\∃ (as bs:List Value) (xs ys:List Int),rest=as.zip bs/\IntsAre as xs/\IntsAre bs ys/\as.length + items2.size=bs.length + items.size/\
   R (.ok (.ret (.bool (ltZ xs ys)))) ⟨hp,g,d,tk,os⟩) _
  case turn=>
   rintro ⟨y,x⟩ rest b s' ⟨hb',rfl,as,bs,xs,ys,hz,h1,h2,hlen,hR⟩
   cases h1 with
   | nil=>cases hz
   | cons a t h1=>
    cases h2 with
    | nil=>cases hz
    | cons c u h2=>
     cases hz
     refine J6 (EqAt.int_int a t c u prog w _ _ ?_)
     by_cases hac:a=c
     ·have e:(a == c)=true:=by simp [hac]
      rw [e]
      wp_walk
      refine ⟨rfl,rfl,_,_,_,_,rfl,h1,h2,by simp only [Jm] at hlen; omega,?_⟩
      rw [ltZ_eq hac] at hR
      exact hR
     ·have e:(a == c)=false:=by simp [hac]
      rw [fF hac] at hR
      rw [e]
      simp only [Bool.not_false,Yj]
      refine J6 (Z0 ?_)
      refine J6 (vo prog w ?_)
      wp_walk
      exact ⟨_,rfl,hR⟩
  case fin=>
   rintro ⟨b1,b2⟩ s' ⟨hb',rfl,as,bs,xs,ys,hz,h1,h2,hlen,hR⟩
   simp only at hb'
   subst hb'
   have e:ltZ xs ys=decide (items.size < items2.size):=by
    cases h1 with
    | nil=>
     cases h2 with
     | nil=>simp only [Yg] at hlen; unfold ltZ; exact (Jy (by omega)).symm
     | cons c u h2=>simp only [Yg,Jm] at hlen; unfold ltZ; exact (Js (by omega)).symm
    | cons a t h1=>
     cases h2 with
     | nil=>simp only [Yg,Jm] at hlen; unfold ltZ; exact (Jy (by omega)).symm
     | cons c u h2=>cases hz
   rw [e] at hR
   wp_walk
   exact ⟨_,rfl,by simpa [Builtin.Tuple.tupleCompareSizes] using hR⟩
  case h=>
   exact ⟨rfl,rfl,_,_,_,_,rfl,hx,hy,by simp [Uj],h⟩
theorem A4 {A:Around} {s:Shared} {l b:Addr} {items items2:Array Value} (hl:s.heap.IsTuple l items) (hb:s.heap.IsTuple b items2) (hx:IntsAre items.toList xs) (hy:IntsAre items2.toList ys) (hu:A.units < cLine) (prog:Program) (w:World) {E:Value->Shared->Prop} {Q:Value->Shared->Prop}
  (h:Q (.bool (ltZ xs ys)) s):wpAny (model prog w) A (richCompare .Lt (.ref l) (.ref b)) Q E s:=by
 obtain ⟨⟨cls,dd,data,sl⟩,ho,hc,n,hd⟩:=id hl
 obtain ⟨⟨cls2,dd2,data2,sl2⟩,ho2,hc2,n2,hd2⟩:=id hb
 simp only at hc hd hc2 hd2
 subst hc hd hc2 hd2
 exact richCompare_meets_room (op:=.Lt) ⟨_,ho,rfl⟩ ⟨_,ho2,rfl⟩ F.slot_tuple_lt F.entry_tuple_lt (F.args_tuple_lt_2 _ _) (pY l b items items2 n n2 dd dd2 sl sl2 hx hy)
  ⟨ho,ho2,show Value.bool (ltZ xs ys) ≠ Value.notImplemented/\Q (.bool (ltZ xs ys)) s from ⟨(λx=>nomatch x),h⟩⟩ hu
end PD
namespace PD
open PySem PySem.Spec PyProof.Rows L2
def t9 (prog:Program) (w:World) (A:Around) (h0:Heap) (P:Nat->Value->Prop) (bt:Nat->Nat->Bool):Prop:=
 ∀ (i j:Nat) (vi vj:Value) (s:Shared) (Q:Value->Shared->Prop) (E:Value->Shared->Prop),(∀ b o,h0.get? b=some o->s.heap.get? b=some o)->P i vi->P j vj->Q (.bool (bt i j)) s->wpAny (model prog w) A (richCompare .Lt vi vj) Q E s
noncomputable abbrev yH (vs:Array Value) (c:Nat):Obj:={ cls:=.type "list",dict:=none,data:=.seq vs c,slots:=#[] }
section
variable {prog:Program} {w:World} {A:Around} {R:Result->Shared->Prop} {I:Addr} {fp wr:List Addr} {n:Nat} {P:Nat->Value->Prop} {St:Nat->Heap->Prop} {h0:Heap} {bt:Nat->Nat->Bool} {S:Addr} {kw:List (Str × Value)}
theorem wV (W:Walks prog w A.in1 I fp wr n P St) (hcmp:t9 prog w A.in1 h0 P bt) (hSf:S ∉ fp) (hw:∀ b ∈ wr,h0.get? b=none) (hS0:h0.get? S=none):
  ∀ (k j:Nat) (s:Shared) (vb:Value) (c:Nat),n - (j + 1)=k->j + 1<=n->St (j + 1) s.heap->P (argBest bt j) vb->s.heap.get? S=some (yH #[vb,vb] c)->(∀ b o,h0.get? b=some o->s.heap.get? b=some o)->
  (∀ v h' tk,P (argBest bt (n - 1)) v->(∀ b o,h0.get? b=some o->h'.get? b=some o)->R (.ok (.ret v)) { s with heap:=h',toks:=tk })->
  codeAny (model prog w) A (.builtin "min.loop" ⟨[.ref I,.none,.ref S],kw⟩) R s:=by
 have hSw:S ∉ wr:=λh=>hSf (W.sub _ h)
 have nw:∀ {b:Addr} {o:Obj},h0.get? b=some o->b ∉ wr:=λe h=>by rw [hw _ h] at e; cases e
 have nS:∀ {b:Addr} {o:Obj},h0.get? b=some o->S ≠ b:=λe h=>by rw [<- h,hS0] at e; cases e
 have hname:(toString "min" ++ toString ".loop":String) = "min.loop":=by decide
 intro k
 induction k with
 | zero=>
  intro j s vb c hk hj hst hPb hS hkp hR
  have hin:j + 1=n:=by omega
  refine Q0 Ve ?_
  rw [Zw Zi _]
  show wpAny _ A.in1 (seqItems? (.ref S) >>= _) _ _ s
  refine J6 (Zd hS rfl ?_)
  show wpAny _ A.in1 (tryCatch (pyNext (.ref I)) _ >>= _) _ _ s
  refine J6 (Wk (W.done s _ _ (hin ▸ hst) λh' tk hk'=>?_))
  show wpAny _ A.in1 (updateSeq S (λ_=>#[]) >>= _) _ _ _
  refine J6 ?_
  refine wpAny_updateSeq (hk' S _ hSw hS) rfl (J6 (Ww (Jd ?_)))
  exact hR vb _ tk (by rw [<- hin]; exact hPb) λb o e=>(Zh _ _ (nS e)).trans (hk' b o (nw e) (hkp b o e))
 | succ k ih=>
  intro j s vb c hk hj hst hPb hS hkp hR
  have hlt:j + 1 < n:=by omega
  refine Q0 Ve ?_
  rw [Zw Zi _]
  show wpAny _ A.in1 (seqItems? (.ref S) >>= _) _ _ s
  refine J6 (Zd hS rfl ?_)
  show wpAny _ A.in1 (tryCatch (pyNext (.ref I)) _ >>= _) _ _ s
  refine J6 (Wk (W.item (j + 1) s _ _ hlt hst λv h' tk hP hst' hk'=>?_))
  have hS':=hk' S _ hSw hS
  have hkp':∀ b o,h0.get? b=some o->h'.get? b=some o:=λb o e=>hk' b o (nw e) (hkp b o e)
  show wpAny _ A.in1 (tryCatch (holding [v,v] (richCompare .Lt v vb >>= _)) _ >>= _) _ _ _
  refine J6 (Wk (Zc (J6 (hcmp (j + 1) (argBest bt j) v vb _ _ _ hkp' hP hPb ?_))))
  refine J6 (Zc (Zo ?_))
  refine J6 (Ww (Jd ?_))
  cases hb:bt (j + 1) (argBest bt j) with
  | true=>
   simp only [Yj]
   refine J6 ?_
   refine wpAny_updateSeq hS' rfl (J6 (Ww ?_))
   rw [hname]
   refine Jd ⟨Qh Zi _,ih (j + 1) _ v _ (by omega) hlt (W.frame _ _ _ hst' λb hbf o e=>(Zh _ _ (λh:S=b=>hSf (by rw [h]; exact hbf))).trans e) (by simp only [argBest,hb,Yj]; exact hP) (Qp _ hS' rfl)
    (λb o e=>(Zh _ _ (nS e)).trans (hkp' b o e)) λv' h'' tk'' hP' hk''=>hR v' h'' tk'' hP' hk''⟩
  | false=>
   simp only [Jx,Ys]
   refine J6 (Ww ?_)
   rw [hname]
   exact Jd ⟨Qh Zi _,ih (j + 1) _ vb c (by omega) hlt hst' (by simp only [argBest,hb,Jx,Ys]; exact hPb) hS' hkp' λv' h'' tk'' hP' hk''=>hR v' h'' tk'' hP' hk''⟩
theorem jy (W:Walks prog w A.in1 I fp wr n P St) (hcmp:t9 prog w A.in1 h0 P bt) (hSf:S ∉ fp) (hw:∀ b ∈ wr,h0.get? b=none) (hS0:h0.get? S=none) (hn:0 < n) {s:Shared} {c:Nat} (hst:St 0 s.heap)
  (hS:s.heap.get? S=some (yH #[] c)) (hkp:∀ b o,h0.get? b=some o->s.heap.get? b=some o)
  (hR:∀ v h' tk,P (argBest bt (n - 1)) v->(∀ b o,h0.get? b=some o->h'.get? b=some o)->R (.ok (.ret v)) { s with heap:=h',toks:=tk }):
  codeAny (model prog w) A (.builtin "min.loop" ⟨[.ref I,.none,.ref S],kw⟩) R s:=by
 have hSw:S ∉ wr:=λh=>hSf (W.sub _ h)
 have nw:∀ {b:Addr} {o:Obj},h0.get? b=some o->b ∉ wr:=λe h=>by rw [hw _ h] at e; cases e
 have nS:∀ {b:Addr} {o:Obj},h0.get? b=some o->S ≠ b:=λe h=>by rw [<- h,hS0] at e; cases e
 have hname:(toString "min" ++ toString ".loop":String) = "min.loop":=by decide
 refine Q0 Ve ?_
 rw [Zw Zi _]
 show wpAny _ A.in1 (seqItems? (.ref S) >>= _) _ _ s
 refine J6 (Zd hS rfl ?_)
 show wpAny _ A.in1 (tryCatch (pyNext (.ref I)) _ >>= _) _ _ s
 refine J6 (Wk (W.item 0 s _ _ hn hst λv h' tk hP hst' hk'=>?_))
 have hS':=hk' S _ hSw hS
 have hkp':∀ b o,h0.get? b=some o->h'.get? b=some o:=λb o e=>hk' b o (nw e) (hkp b o e)
 show wpAny _ A.in1 (updateSeq S (λ_=>#[v,v]) >>= _) _ _ _
 refine J6 ?_
 refine wpAny_updateSeq hS' rfl ?_
 rw [hname]
 exact Jd ⟨Qh Zi _,wV W hcmp hSf hw hS0 _ 0 _ v _ rfl hn (W.frame _ _ _ hst' λb hbf o e=>(Zh _ _ (λh:S=b=>hSf (by rw [h]; exact hbf))).trans e) hP (Qp _ hS' rfl)
  (λb o e=>(Zh _ _ (nS e)).trans (hkp' b o e)) λv' h'' tk'' hP' hk''=>hR v' h'' tk'' hP' hk''⟩
theorem wW {d:Value} {nm:Str} (W:Walks prog w A.in1 I fp wr 0 P St) (hSf:S ∉ fp) {s:Shared} {c:Nat} (hst:St 0 s.heap) (hS:s.heap.get? S=some (yH #[] c))
  (hR:∀ h' tk,(∀ b o,b ∉ wr->s.heap.get? b=some o->h'.get? b=some o)->R (.ok (.ret d)) { s with heap:=h',toks:=tk }):
  codeAny (model prog w) A (.builtin "min.loop" ⟨[.ref I,.none,.ref S],[(nm,d)]⟩) R s:=by
 refine Q0 Ve ?_
 rw [Zw Zi _]
 show wpAny _ A.in1 (seqItems? (.ref S) >>= _) _ _ s
 refine J6 (Zd hS rfl ?_)
 show wpAny _ A.in1 (tryCatch (pyNext (.ref I)) _ >>= _) _ _ s
 refine J6 (Wk (W.done s _ _ hst λh' tk hk'=>?_))
 show wpAny _ A.in1 (rule _ >>= _) _ _ _
 refine J6 (Z0 (Jd ?_))
 exact hR h' tk hk'
theorem lP {id:String} {b:Builtin} {args:List Value} {Q:Value->Shared->Prop} {E:Value->Shared->Prop} {s:Shared} (hk:builtinKind id=none) (hp:plainId id=true)
  (hb:entryFor table id=some b) (ha:argsOk id ⟨args,kw⟩)
  (hc:wpAny (model prog w) A.in1 (b ⟨args,kw⟩) (λfin s'=>match fin with
   | .done f=>(match (Except.ok f:Result) with | .ok (.ret v)=>Q v s' | .ok _=>False | .error e=>E e s')
   | .again c'=>c'.quiet=true/\codeAny (model prog w) A c' (λr s'=>match r with | .ok (.ret v)=>Q v s' | .ok _=>False | .error e=>E e s') s') E s):
  wpAny (model prog w) A (call (.builtin id) args kw) Q E s:=by
 refine wpAny_call (codeAny_call_builtin hp hb ?_)
 simp only [checkBuiltinCall,hk]
 cases hsig:Manifest.signature? id with
 | none=>exact Jd hc
 | some sig=>
  have h2:Bind.checkArgs id sig ⟨args,kw⟩=pure ():=by simpa only [argsOk,hsig] using ha
  simp only [h2]
  exact Jd hc
theorem kJ (a d:Value):argsOk "min" ⟨[a],[("default",d)]⟩:=by unfold argsOk; kernel_rfl
end
noncomputable def fK (m:List Int) (l:List (List Int)):List Int:=l.foldl (λm x=>if ltZ x m=true then x else m) m
noncomputable def eT:List D->Option (List (List Int))
 | []=>some []
 | .tup a :: r=>match intsOf a,eT r with
  | some n,some ns=>some (n :: ns)
  | _,_=>none
 | _ :: _=>none
def vp (h:Heap) (us:List Value) (ns:List (List Int)):Prop:=us.length=ns.length/\∀ (i:Nat) (v:Value),us[i]?=some v->∃ a items,v=.ref a/\h.IsTuple a items/\IntsAre items.toList (ns.getD i [])
theorem kK (ns:List (List Int)):∀ k:Nat,k < ns.length->argBest (λi j=>ltZ (ns.getD i []) (ns.getD j [])) k<=k/\ns.getD (argBest (λi j=>ltZ (ns.getD i []) (ns.getD j [])) k) []=fK (ns.getD 0 []) ((ns.drop 1).take k)
 | 0,h=>⟨Jb _,rfl⟩
 | k + 1,h=>by
  obtain ⟨h1,h2⟩:=kK ns k (by omega)
  have hd:(ns.drop 1)[k]?=some (ns.getD (k + 1) []):=by
   rw [V4,Uj 1 k,Yc,Ja h]; rfl
  have ht:(ns.drop 1).take (k + 1)=(ns.drop 1).take k ++ [ns.getD (k + 1) []]:=by
   rw [U0,hd]; rfl
  rw [ht]
  unfold fK at h2 ⊢
  rw [List.foldl_append,<- h2]
  simp only [argBest,List.foldl_cons,List.foldl_nil]
  by_cases hb:ltZ (ns.getD (k + 1) []) (ns.getD (argBest (λi j=>ltZ (ns.getD i []) (ns.getD j [])) k) [])=true
  ·rw [J8 hb,J8 hb]; exact ⟨Jb _,rfl⟩
  ·rw [Jc hb,Jc hb]; exact ⟨by omega,rfl⟩
theorem ou:∀ {ds:List D} {ns:List Int},intsOf ds=some ns->ds=ns.map .int
 | [],ns,h=>by unfold intsOf at h; cases h; rfl
 | d :: r,ns,h=>by
  unfold intsOf at h
  split at h
  ·rename_i e; cases e
  ·rename_i b r' e
   cases e
   cases e:intsOf r with
   | none=>rw [e] at h; cases h
   | some cs=>rw [e] at h; cases h; rw [ou e]; rfl
  ·cases h
section
variable {X:Cx} {E:XK} {pins:List (Addr × Obj)} {σ:L2.St} {H:Hp} {s:Shared}
theorem jU {w:Wd} (I:Inv X pins σ H s):∀ {ds:List D} {vs:List V} {us:List Value} {ns:List (List Int)},RDs X.K w H ds vs->Vals vs us->eT ds=some ns->vp s.heap us ns/\∀ (i:Nat) (v:Value),us[i]?=some v->∃ y,RelV y v/\RD X.K w H (.tup ((ns.getD i []).map .int)) y
 | [],_,_,_,q,r,h=>by
  rw [q.nil_inv] at r
  cases r
  unfold eT at h
  cases h
  exact ⟨⟨rfl,λi v h=>by simp at h⟩,λi v h=>by simp at h⟩
 | d :: ds,_,_,ns,q,r,h=>by
  obtain ⟨y,vs,rfl,p,t⟩:=q.cons_inv
  unfold eT at h
  split at h
  ·rename_i e; cases e
  ·rename_i a r' eq
   cases eq
   split at h
   ·rename_i n ns' e1 e2
    cases h
    cases r with
    | cons rv rr=>
     obtain ⟨⟨l,g⟩,g2⟩:=jU I t rr e2
     obtain ⟨pa,xs,rfl,za,ra⟩:=p.tupI
     obtain ⟨its,r1,p1,_⟩:=I.tuple (cz za)
     cases rv
     refine ⟨⟨by simp [l],λi v hv=>?_⟩,λi v hv=>?_⟩
     ·cases i with
      | zero=>cases hv; exact ⟨pa,its.toArray,rfl,p1,by simpa using iD ra r1 e1⟩
      | succ i=>exact g i v (by simpa using hv)
     ·cases i with
      | zero=>cases hv; exact ⟨.ref pa,rfl,by have:=ou e1; subst this; exact p⟩
      | succ i=>exact g2 i v (by simpa using hv)
   ·cases h
  ·cases h
end
section
variable {prog:Program} {w:World} {A:Around} {E:Value->Shared->Prop} {s:Shared}
theorem kL {h0:Heap} {us:List Value} {ns:List (List Int)} (t:vp h0 us ns) (hu:A.units < cLine):t9 prog w A h0 (λi v=>us.toArray[i]?=some v) λi j=>ltZ (ns.getD i []) (ns.getD j []):=by
 intro i j vi vj s Q E hk hi hj h
 obtain ⟨a,xs,rfl,ta,ia⟩:=t.2 i vi (by simpa using hi)
 obtain ⟨b,ys,rfl,tb,ib⟩:=t.2 j vj (by simpa using hj)
 exact A4 (ta.at λo e=>hk _ o e) (tb.at λo e=>hk _ o e) ia ib hu prog w h
theorem ow {l:Addr} {us:List Value} {bt:Nat->Nat->Bool} {kw:List (Str × Value)} {df:Option Value} {Q:Value->Shared->Prop} (hh:A.handled=none) (hl:s.heap.IsList l us.toArray) (hne:0 < us.length)
  (ha:argsOk "min" ⟨[.ref l],kw⟩) (hb:Builtin.Builtins.bindParams "min" ["key","default"] 0 ⟨[],kw⟩=pure [none,df])
  (hcmp:t9 prog w A.in1 s.heap (λi v=>us.toArray[i]?=some v) bt)
  (h:∀ v h' tk,us[argBest bt (us.length - 1)]?=some v->(∀ b o,s.heap.get? b=some o->h'.get? b=some o)->Q v { s with heap:=h',toks:=tk }):
  wpAny (model prog w) A (call (.builtin "min") [.ref l] kw) Q E s:=by
 have hname:(toString "min" ++ toString ".loop":String) = "min.loop":=by decide
 have hlt:l < s.heap.objs.size:=by obtain ⟨_,e,_⟩:=hl; exact Jk e
 refine lP F.kind_min F.plain_min F.entry_min ha ?_
 show wpAny _ A.in1 (Builtin.Builtins.bindParams "min" ["key","default"] 0 ⟨[],kw⟩ >>= _) _ _ s
 refine J6 (Qx hb ?_)
 refine J6 (Jd ?_)
 refine J6 (Zp hl ?_)
 refine J6 (Ym ?_)
 have hsz:(s.heap.push { cls:=.type "list_iterator",data:=.fields #[.ref l,.int 0 0] }).objs.size=s.heap.objs.size + 1:=Y4 ..
 have W:=Vq (prog:=prog) (w:=w) (A:=A.in1) hh s.heap.objs.size l (Jt hlt) us.toArray
 have hSf:s.heap.objs.size + 1 ∉ [s.heap.objs.size,l]:=λhm=>by
  rcases Jg.mp hm with e | hm
  ·exact absurd e (Vf _)
  ·rcases Jg.mp hm with e | hm
   ·exact Q4 _ (Uh (e ▸ hlt:s.heap.objs.size + 1 < s.heap.objs.size))
   ·cases hm
 rw [hname]
 refine Jd ⟨Qh Zi _,?_⟩
 show codeAny _ A (.builtin "min.loop" ⟨[.ref s.heap.objs.size,.none,.ref (s.heap.push _).objs.size],_⟩) _ _
 rw [hsz]
 refine jy (h0:=s.heap) W hcmp hSf (λb hb=>?_) (Zx (Wv _)) (by simpa using hne) (W.frame _ _ _ ⟨⟨_,Ji _ rfl,rfl,rfl⟩,hl.push _⟩ λb _ o e=>J7 _ e) (by rw [<- hsz]; exact Ji _ rfl)
  (λb o e=>J7 _ (J7 _ e)) λv h' tk hP hk=>h v h' tk (by simpa using hP) hk
 ·simp at hb; rw [hb]; exact Zx (Jb _)
theorem ua {l:Addr} {d:Value} {Q:Value->Shared->Prop} (hh:A.handled=none) (hl:s.heap.IsList l #[])
  (h:∀ h' tk,(∀ b o,s.heap.get? b=some o->h'.get? b=some o)->Q d { s with heap:=h',toks:=tk }):
  wpAny (model prog w) A (call (.builtin "min") [.ref l] [("default",d)]) Q E s:=by
 have hname:(toString "min" ++ toString ".loop":String) = "min.loop":=by decide
 have hlt:l < s.heap.objs.size:=by obtain ⟨_,e,_⟩:=hl; exact Jk e
 refine lP F.kind_min F.plain_min F.entry_min (kJ _ _) ?_
 show wpAny _ A.in1 (Builtin.Builtins.bindParams "min" ["key","default"] 0 ⟨[],[("default",d)]⟩ >>= _) _ _ s
 refine J6 (Qx (show Builtin.Builtins.bindParams "min" ["key","default"] 0 ⟨[],[("default",d)]⟩=pure [none,some d] from rfl) ?_)
 refine J6 (Jd ?_)
 refine J6 (Zp hl ?_)
 refine J6 (Ym ?_)
 have hsz:(s.heap.push { cls:=.type "list_iterator",data:=.fields #[.ref l,.int 0 0] }).objs.size=s.heap.objs.size + 1:=Y4 ..
 have W:=Vq (prog:=prog) (w:=w) (A:=A.in1) hh s.heap.objs.size l (Jt hlt) #[]
 have hSf:s.heap.objs.size + 1 ∉ [s.heap.objs.size,l]:=λhm=>by
  rcases Jg.mp hm with e | hm
  ·exact absurd e (Vf _)
  ·rcases Jg.mp hm with e | hm
   ·exact Q4 _ (Uh (e ▸ hlt:s.heap.objs.size + 1 < s.heap.objs.size))
   ·cases hm
 rw [hname]
 refine Jd ⟨Qh Zi _,?_⟩
 show codeAny _ A (.builtin "min.loop" ⟨[.ref s.heap.objs.size,.none,.ref (s.heap.push _).objs.size],[("default",d)]⟩) _ _
 rw [hsz]
 refine wW W hSf (W.frame _ _ _ ⟨⟨_,Ji _ rfl,rfl,rfl⟩,hl.push _⟩ λb _ o e=>J7 _ e) (by rw [<- hsz]; exact Ji _ rfl) λh' tk hk=>h h' tk λb o e=>hk b o (λhm=>?_) (J7 _ (J7 _ e))
 simp at hm
 exact absurd (hm ▸ Jk e) (Q4 _)
end
section
variable {prog:Program} {w:World} {A:Around} {E:Value->Shared->Prop} {s:Shared}
theorem yI {x y:Value} {bt:Nat->Nat->Bool} {Q:Value->Shared->Prop} (hh:A.handled=none)
  (hcmp:t9 prog w A.in1 s.heap (λi v=>([x,y]:List Value).toArray[i]?=some v) bt)
  (h:∀ h' tk,(∀ b o,s.heap.get? b=some o->h'.get? b=some o)->Q (if bt 1 0=true then y else x) { s with heap:=h',toks:=tk }):
  wpAny (model prog w) A (call (.builtin "min") [x,y]) Q E s:=by
 have hname:(toString "min" ++ toString ".loop":String) = "min.loop":=by decide
 refine lP F.kind_min F.plain_min F.entry_min (F.args_min2 _ _) ?_
 show wpAny _ A.in1 (Builtin.Builtins.bindParams "min" ["key","default"] 0 ⟨[],[]⟩ >>= _) _ _ s
 refine J6 (Qx (show Builtin.Builtins.bindParams "min" ["key","default"] 0 ⟨[],[]⟩=pure [none,none] from rfl) ?_)
 show wpAny _ A.in1 (newTuple [x,y] >>= _) _ _ s
 refine J6 (Ym ?_)
 have hT:(s.heap.push { cls:=.type "tuple",data:=.seq ([x,y]:List Value).toArray }).IsTuple s.heap.objs.size ([x,y]:List Value).toArray:=⟨_,Ji _ rfl,rfl,0,rfl⟩
 refine J6 (Wg hT ?_)
 refine J6 (Ym ?_)
 have hsz:(s.heap.push { cls:=.type "tuple",data:=.seq ([x,y]:List Value).toArray }).objs.size=s.heap.objs.size + 1:=Y4 ..
 have W:=Walks.tuple (prog:=prog) (w:=w) (A:=A.in1) hh (s.heap.objs.size + 1) s.heap.objs.size (Jt (Z6 _)) ([x,y]:List Value).toArray
 have hSf:s.heap.objs.size + 2 ∉ [s.heap.objs.size + 1,s.heap.objs.size]:=λhm=>by
  rcases Jg.mp hm with e | hm
  ·exact absurd e (Vf _)
  ·rcases Jg.mp hm with e | hm
   ·exact absurd e (Qe (Zk (Z6 _)))
   ·cases hm
 rw [hname]
 refine Jd ⟨Qh Zi _,?_⟩
 have hsz2:∀ o:Obj,((s.heap.push { cls:=.type "tuple",data:=.seq ([x,y]:List Value).toArray }).push o).objs.size=s.heap.objs.size + 2:=λo=>by rw [Y4,hsz]
 show codeAny _ A (.builtin "min.loop" ⟨[.ref (s.heap.push { cls:=.type "tuple",data:=.seq ([x,y]:List Value).toArray }).objs.size,.none,.ref ((s.heap.push { cls:=.type "tuple",data:=.seq ([x,y]:List Value).toArray }).push _).objs.size],[]⟩) _ _
 rw [hsz2,hsz]
 refine jy (h0:=s.heap) W hcmp hSf (λb hb=>?_) (Zx (Nat.le_succ_of_le (Wv _))) (Wl _) (W.frame _ _ _ ⟨⟨_,by rw [<- hsz]; exact Ji _ rfl,rfl,rfl⟩,hT.push _⟩ λb _ o e=>J7 _ e) (by rw [<- hsz2]; exact Ji _ rfl)
  (λb o e=>J7 _ (J7 _ (J7 _ e))) λv h' tk hP hk=>?_
 ·rcases Jg.mp hb with e | hb
  ·rw [e]; exact Zx (Wv _)
  ·cases hb
 ·have hv:v=if bt 1 0=true then y else x:=by
   have hP':([x,y]:List Value).toArray[argBest bt 1]?=some v:=hP
   by_cases hb:bt 1 0=true
   ·have e:argBest bt 1=1:=by simp [argBest,hb]
    rw [e] at hP'; rw [J8 hb]; cases hP'; rfl
   ·have e:argBest bt 1=0:=by simp [argBest,hb]
    rw [e] at hP'; rw [Jc hb]; cases hP'; rfl
  rw [hv]
  exact h h' tk hk
end
theorem rR:∀ (l:List Int) (m x:Int),cW m (l ++ [x])=if x < cW m l then x else cW m l
 | [],m,x=>rfl
 | y :: l,m,x=>rR l (if y < m then y else m) x
theorem oy (ns:List Int):∀ k:Nat,k < ns.length->ns.getD (argBest (λi j=>decide (ns.getD i 0 < ns.getD j 0)) k) 0=cW (ns.getD 0 0) ((ns.drop 1).take k)
 | 0,h=>rfl
 | k + 1,h=>by
  have h2:=oy ns k (by omega)
  have hd:(ns.drop 1)[k]?=some (ns.getD (k + 1) 0):=by
   rw [V4,Uj 1 k,Yc,Ja h]; rfl
  have ht:(ns.drop 1).take (k + 1)=(ns.drop 1).take k ++ [ns.getD (k + 1) 0]:=by
   rw [U0,hd]; rfl
  rw [ht,rR,<- h2]
  simp only [argBest]
  by_cases hb:ns.getD (k + 1) 0 < ns.getD (argBest (λi j=>decide (ns.getD i 0 < ns.getD j 0)) k) 0
  ·rw [J8 (Js hb),J8 hb]
  ·rw [Jc (by simpa using hb),Jc hb]
theorem pZ:∀ {vs:List Value} {ns:List Int},IntsAre vs ns->∀ (i:Nat) (v:Value),vs[i]?=some v->∃ t,v=.int (ns.getD i 0) t
 | _,_,.nil,i,v,h=>by simp at h
 | _,_,.cons n t r,0,v,h=>by cases h; exact ⟨t,rfl⟩
 | _,_,.cons n t r,i + 1,v,h=>pZ r i v (by simpa using h)
noncomputable def rS:Sto->List D->Option D
 | _,[.tup a,.tup b]=>match intsOf a,intsOf b with
  | some n,some m=>some (if ltZ m n=true then .tup (m.map .int) else .tup (n.map .int))
  | _,_=>none
 | _,_=>none
noncomputable def oz:Sto->List D->Option D
 | S,[.tup a,.tup b]=>rS S [.tup a,.tup b]
 | S,ds=>yE S ds
noncomputable def rT:Sto->List D->Option D
 | S,[d]=>match jR S d with
  | some []=>some .non
  | some (x :: a)=>match eT (x :: a),intsOf (x :: a) with
   | some (n :: ns),_=>some (.tup ((fK n ns).map .int))
   | none,some (n :: ns)=>some (.int (cW n ns))
   | _,_=>none
  | none=>none
 | _,_=>none
def yJ (X:Cx) (f:Value) (kw:List (Str × Value)) (r:List V->Hp->VK->Prop):Prop:=
 ∀ (pins:List (Addr × Obj)) (s:Shared) (σ:L2.St) (H:Hp) (xs:List V) (us:List Value) (Q:VK),Inv X pins σ H s->Vals xs us->r xs H Q->
  wpAny (model X.prog X.w) X.A (call f us kw) (EP X pins σ Q) X.xe s
theorem A5 {α:Type} {us:List α} (h:us.length=2):∃ x y,us=[x,y]:=by
 rcases us with _ | ⟨x,_ | ⟨y,_ | ⟨z,r⟩⟩⟩
 ·simp at h
 ·simp at h
 ·exact ⟨x,y,rfl⟩
 ·simp at h
section
variable {X:Cx} {E:XK}
theorem A6 {k:Nat} (hc:X.calm=true) (hr:Room k X.A):bw X (.builtin "min") (xC X.K E rS):=by
 rintro pins s σ H xs us Q I r ⟨w,S,ds,hS,qs,p⟩
 obtain ⟨z,hz,p'⟩:=p.of
 clear p
 unfold rS at hz
 split at hz
 ·rename_i a b
  split at hz
  ·rename_i n m e1 e2
   cases hz
   have e:eT [.tup a,.tup b]=some [n,m]:=by simp only [eT,e1,e2]
   obtain ⟨t,g⟩:=jU I qs r e
   obtain ⟨x,y,rfl⟩:∃ x y,us=[x,y]:=A5 t.1
   refine yI (I.ok.hd hc) (kL t (by have:=hr.un; show X.A.units + 1 < cLine; omega)) λh' tk hk=>?_
   have e0:ltZ (([n,m]:List (List Int)).getD 1 []) (([n,m]:List (List Int)).getD 0 [])=ltZ m n:=rfl
   rw [e0]
   by_cases hb:ltZ m n=true
   ·rw [J8 hb] at p' ⊢
    obtain ⟨v,rv,rd⟩:=g 1 y rfl
    exact ⟨v,H,I.kept (t':=tk) hk,rv,p'.ret rd hS⟩
   ·rw [Jc hb] at p' ⊢
    obtain ⟨v,rv,rd⟩:=g 0 x rfl
    exact ⟨v,H,I.kept (t':=tk) hk,rv,p'.ret rd hS⟩
  ·cases hz
 ·cases hz
theorem A7 {k:Nat} (hc:X.calm=true) (hr:Room k X.A):bw X (.builtin "min") (xC X.K E oz):=B3 (A6 hc hr) (A1 hc) λS ds=>by
 unfold oz
 split
 ·exact .inl rfl
 ·exact .inr rfl
theorem A8 {k:Nat} (hc:X.calm=true) (hr:Room k X.A):yJ X (.builtin "min") [("default",.none)] (xC X.K E rT):=by
 rintro pins s σ H xs us Q I r ⟨w,S,ds,hS,qs,p⟩
 obtain ⟨z,hz,p'⟩:=p.of
 clear p
 unfold rT at hz
 split at hz
 ·rename_i d
  obtain ⟨v,rfl,q⟩:=qs.one_inv
  obtain ⟨u,rfl,rx⟩:=W9 r
  split at hz
  ·rename_i ha
   cases hz
   obtain ⟨pa,vs,rfl,sq,ra⟩:=pX hS q ha
   cases rx
   obtain ⟨its,r',pl,_⟩:=I.list sq
   rw [ra.nil_inv] at r'
   cases r'
   exact ua (I.ok.hd hc) pl.isList λh' tk hk=>⟨.non,H,I.kept (t':=tk) hk,rfl,p'.ret (by unfold RD; rfl) hS⟩
  ·rename_i x a ha
   obtain ⟨pa,vs,rfl,sq,ra⟩:=pX hS q ha
   cases rx
   obtain ⟨its,r',pl,_⟩:=I.list sq
   split at hz
   ·rename_i n ns e
    cases hz
    obtain ⟨t,g⟩:=jU I ra r' e
    have hl:its.length=ns.length + 1:=by rw [t.1]; rfl
    refine ow (df:=some .none) (I.ok.hd hc) pl.isList (by omega) (kJ _ _) rfl (kL t (by have:=hr.un; show X.A.units + 1 < cLine; omega)) λv h' tk hv hk=>?_
    obtain ⟨y,ry,rd⟩:=g _ v hv
    obtain ⟨_,b2⟩:=kK (n :: ns) (its.length - 1) (by rw [hl]; exact Z6 _)
    have b3:fK ((n :: ns).getD 0 []) (((n :: ns).drop 1).take (its.length - 1))=fK n ns:=by
     rw [hl]
     show fK n (ns.take ns.length)=fK n ns
     rw [Q9]
    rw [b2,b3] at rd
    exact ⟨y,H,I.kept (t':=tk) hk,ry,p'.ret rd hS⟩
   ·rename_i n ns _ e
    cases hz
    have ia:=iD ra r' e
    have hl:its.length=(n :: ns).length:=ia.length
    have hcmp:t9 X.prog X.w X.A.in1 s.heap (λi v=>its.toArray[i]?=some v) (λi j=>decide ((n :: ns).getD i 0 < (n :: ns).getD j 0)):=by
     intro i j vi vj s1 Q1 E1 hk hi hj h
     obtain ⟨t1,rfl⟩:=pZ ia i vi (by simpa using hi)
     obtain ⟨t2,rfl⟩:=pZ ia j vj (by simpa using hj)
     exact vo X.prog X.w h
    refine ow (df:=some .none) (I.ok.hd hc) pl.isList (by rw [hl]; exact Wl _) (kJ _ _) rfl hcmp λv h' tk hv hk=>?_
    obtain ⟨t1,rfl⟩:=pZ ia _ v hv
    have b:=oy (n :: ns) (its.length - 1) (by rw [hl]; exact Z6 _)
    have b3:cW ((n :: ns).getD 0 0) (((n :: ns).drop 1).take (its.length - 1))=cW n ns:=by
     rw [hl]
     show cW n (ns.take ns.length)=cW n ns
     rw [Q9]
    rw [b3] at b
    refine ⟨.int (cW n ns),H,I.kept (t':=tk) hk,⟨t1,?_⟩,p'.ret RD.mkI hS⟩
    rw [b]
   ·cases hz
  ·cases hz
 ·cases hz
variable {a:Expr} {ms:AM} {x:Str} {p pos kp:Pos} {id:String} {nm:Str}
theorem wX {r:List V->Hp->VK->Prop} {t:TA} {j:Nat} {cp:Pos} (hc:yJ X (.builtin id) [(nm,.none)] r) (hg:Gl X x) (hm:X.mg x=none) (hv:bootBuiltins x=some (.builtin id)) (ha:PA X [a] t) (hn:autoParam (x ≠ "__name__") Au.h2._auto_1) (hdb:autoParam ((x == ("__debug__":Str))=false) Au.h2._auto_1)
  (he:autoParam (backTo pos (starEach [a] X.env)=(false,eval a X.env) :: backTo pos (starEach [] X.env)) Au.h1._auto_1) (hpl:autoParam ((backTo pos (starEach [a] X.env)).any (·.1)=false) Au.h1._auto_1):PE X (.Call (.Name x p) [a] [⟨some nm,.Constant .none j cp,kp⟩] pos) (tCB r t):=by
 intro pins s σ H Q I h
 refine V0 (ig I hg hm hv ?_ hn hdb)
 refine callWith_kw (thn (ha pos pins s σ H _ I h) λus s1 zq=>ex5 zq λvs H1 I1 r1 q1=>kws_cons ?_) he hpl
 exact Constant_none (kws_nil (hc pins s1 σ H1 vs us Q I1 r1 q1))
theorem wY {f:Sto->List D->Option D} {j:Nat} {cp:Pos} (hc:yJ X (.builtin id) [(nm,.none)] (xC X.K E f)) (hg:Gl X x) (hm:X.mg x=none) (hv:bootBuiltins x=some (.builtin id)) (ha:SA X E [a] ms) (hn:autoParam (x ≠ "__name__") Au.h3._auto_1) (hdb:autoParam ((x == ("__debug__":Str))=false) Au.h3._auto_1)
  (he:autoParam (backTo pos (starEach [a] X.env)=(false,eval a X.env) :: backTo pos (starEach [] X.env)) Au.h0._auto_1) (hpl:autoParam ((backTo pos (starEach [a] X.env)).any (·.1)=false) Au.h0._auto_1):SE X E (.Call (.Name x p) [a] [⟨some nm,.Constant .none j cp,kp⟩] pos) (eB f ms):=⟨
 aY (wX hc hg hm hv ha.out hn hdb he hpl) λs H Q zq=>ex6 zq λw r S hr hS hp=>⟨w,r,S,hr,hS,hp.bind hS λds S1 w1 H1 vs x1 q1 s1 p1=>⟨w1,S1,ds,s1,q1,p1⟩⟩⟩
end
end PD
namespace SR
open PySem PyProof.Rows
variable {xs a b:Array Keyed} {i lo j n:Nat} {st:SortSt} {p key:Keyed} {Q:Option Bool→SortSt→Prop} {tot o L X Y:List Keyed} {c:Prop}
noncomputable abbrev SM (α:Type):=StateT SortSt Sem α
def Up (xs:Array Keyed) (lo hi:Nat):Prop:=∀ i j,lo<=i->i<=j->j < hi->K xs i<=K xs j
def Dn (xs:Array Keyed) (lo hi:Nat):Prop:=∀ i j,lo<=i->i<=j->j < hi->K xs j<=K xs i
def Num (p:Keyed):Prop:=∃ n t,p.1=.int n t
def IK (xs:Array Keyed):Prop:=∀ p ∈ xs.toList,Num p
theorem IK.get (h:IK xs) (hi:i < xs.size):Num xs[i]:=h _ (by simp)
theorem bQ (hi:i < xs.size):K xs i=numOf xs[i].1:=by unfold K; rw [Um xs i hi]
section
variable {prog:Program} {w:World} {A:Around} {E:Value->Shared->Prop} {s:Shared}
theorem rV {q:Keyed} (hk:kindOf st=oneType') (hp:Num p) (hq:Num q) (h:Q (some (decide (numOf p.1 < numOf q.1))) st):wpS (model prog w) A E s (lt' p q) Q st:=by
 obtain ⟨p1,p2⟩:=p
 obtain ⟨q1,q2⟩:=q
 obtain ⟨a,t,e1⟩:=hp
 obtain ⟨b,u,e2⟩:=hq
 dsimp only at e1 e2
 subst e1 e2
 rw [lt'_eq]
 refine Je (Wm ?_)
 rw [hk,keyLt'_oneType]
 exact Je (Vg (Va (oneLt_int ⟨rfl,Jj h⟩)))
theorem aZ {Q:Keyed->SortSt->Prop} (hi:i < xs.size) (h:Q xs[i] st):wpS (model prog w) A E s (elem' xs i) Q st:=by
 rw [elem'_eq,Um xs i hi]
 exact Jj h
end
noncomputable def gal:Bool->Keyed->Array Keyed->Nat->Nat->Nat->SM (Option Nat):=sortPriv% PySem.Builtin.gallop
noncomputable def by1 (left:Bool) (key:Keyed) (arr:Array Keyed) (z:Nat):SM (Option Bool):=do
 let x <- elem' arr z
 if left then lt' x key else return (<- lt' key x).map (!·)
theorem Dy (left:Bool) (key:Keyed) (arr:Array Keyed) (base n hint:Nat):gal left key arr base n hint=(do
 let f:Nat->SM (Option Bool):=λi=>by1 left key arr (base + i)
 let mut l1:=0
 let mut o1:=1
 let mut lo:=0
 let mut hi:=0
 let some rg <- f hint | return none
 if rg then
  let mx:=n - hint
  for _ in [0:n] do
   if o1 >= mx then break
   let some b <- f (hint + o1) | return none
   if !b then break
   l1:=o1
   o1:=2 * o1 + 1
  lo:=hint + l1 + 1
  hi:=hint + min o1 mx
 else
  let mx:=hint + 1
  for _ in [0:n] do
   if o1 >= mx then break
   let some b <- f (hint - o1) | return none
   if b then break
   l1:=o1
   o1:=2 * o1 + 1
  lo:=hint + 1 - min o1 mx
  hi:=hint - l1
 for _ in [0:n] do
  if lo >= hi then break
  let m:=lo + (hi - lo) / 2
  let some b <- f m | return none
  if b then lo:=m + 1 else hi:=m
 return some hi):=rfl
section
variable {prog:Program} {w:World} {A:Around} {E:Value->Shared->Prop} {s:Shared}
noncomputable def bef (left:Bool) (key:Keyed) (arr:Array Keyed) (i:Nat):Bool:=if left=true then decide (K arr i < numOf key.1) else !decide (numOf key.1 < K arr i)
theorem jV {left:Bool} {arr:Array Keyed} {hi:Nat} (hs:Up arr lo hi) (hi1:lo<=i) (hij:i<=j) (hj:j < hi) (h:bef left key arr j=true):bef left key arr i=true:=by
 have z:=hs i j hi1 hij hj
 cases left
 ·simp [bef] at h ⊢; omega
 ·simp [bef] at h ⊢; omega
theorem qa {left:Bool} {arr:Array Keyed} (hk:kindOf st=oneType') (ha:IK arr) (hy:Num key) (hi:i < arr.size) (h:Q (some (bef left key arr i)) st):wpS (model prog w) A E s (by1 left key arr i) Q st:=by
 unfold by1
 refine Je (aZ hi ?_)
 have e:=bQ hi
 cases left
 ·refine Je (rV hk hy (ha.get hi) (Jj ?_))
  simpa [bef,e] using h
 ·refine rV hk (ha.get hi) hy ?_
  simpa [bef,e] using h
theorem B4 {left:Bool} {arr:Array Keyed} {base lo hi:Nat} {Q:Option (Option Nat) × Nat × Nat->SortSt->Prop} (hk:kindOf st=oneType') (ha:IK arr) (hy:Num key) (hn:base + n<=arr.size) (hs:Up arr base (base + n))
  (h1:lo<=hi) (h2:hi<=n) (h3:∀ i,i < lo->bef left key arr (base + i)=true) (h4:∀ i,hi<=i->i < n->bef left key arr (base + i)=false)
  (h:∀ l k,k<=n->(∀ i,i < k->bef left key arr (base + i)=true)->(∀ i,k<=i->i < n->bef left key arr (base + i)=false)->Q (none,l,k) st):
  wpS (model prog w) A E s (forIn [0:n] ((none,lo,hi):Option (Option Nat) × Nat × Nat) λ_ c=>
    if c.2.1 >= c.2.2 then pure (.done (none,c.2.1,c.2.2)) else do
     match <- by1 left key arr (base + (c.2.1 + (c.2.2 - c.2.1) / 2)) with
     | some b=>if b=true then pure (.yield (none,c.2.1 + (c.2.2 - c.2.1) / 2 + 1,c.2.2)) else pure (.yield (none,c.2.1,c.2.1 + (c.2.2 - c.2.1) / 2))
     | _=>pure (.done (some none,c.2.1,c.2.2))) Q st:=by
 refine Zj (Yt (I:=λx c st'=>st'=st/\∃ l u,c=(none,l,u)/\l<=u/\u<=n/\u - l<=n - x/\(∀ i,i < l->bef left key arr (base + i)=true)/\(∀ i,u<=i->i < n->bef left key arr (base + i)=false))
  (Q:=λc st'=>st'=st/\∃ l u,c=(none,l,u)/\u<=n/\(∀ i,i < u->bef left key arr (base + i)=true)/\(∀ i,u<=i->i < n->bef left key arr (base + i)=false)) ?a ?b ⟨rfl,lo,hi,rfl,h1,h2,by omega,h3,h4⟩) ?c
 case b=>
  rintro c st' ⟨rfl,l,u,rfl,b1,b2,b3,b4,b5⟩
  have:l=u:=by omega
  subst this
  exact ⟨rfl,l,l,rfl,b2,b4,b5⟩
 case c=>
  rintro c st' ⟨rfl,l,u,rfl,b2,b4,b5⟩
  exact h l u b2 b4 b5
 case a=>
  rintro x c st' _ hx ⟨rfl,l,u,rfl,b1,b2,b3,b4,b5⟩
  dsimp only
  by_cases g:l >= u
  ·rw [J8 g]
   have:l=u:=by omega
   subst this
   exact Jj ⟨rfl,l,l,rfl,b2,b4,b5⟩
  ·rw [Jc g]
   refine Je (qa hk ha hy (by omega) ?_)
   dsimp only
   cases eb:bef left key arr (base + (l + (u - l) / 2)) with
   | true=>
    rw [J8 rfl]
    refine Jj ⟨rfl,_,_,rfl,by omega,b2,by omega,λi hi=>?_,b5⟩
    exact jV hs (by omega) (by omega) (by omega) eb
   | false=>
    rw [Jc Jl]
    refine Jj ⟨rfl,_,_,rfl,by omega,by omega,by omega,b4,λi h1 h2=>?_⟩
    cases e2:bef left key arr (base + i) with
    | false=>rfl
    | true=>
     have:=jV (left:=left) (key:=key) hs (i:=base + (l + (u - l) / 2)) (j:=base + i) (by omega) (by omega) (by omega) e2
     rw [eb] at this
     cases this
theorem jz {left:Bool} {arr:Array Keyed} {base hint:Nat} {Q:Option Nat->SortSt->Prop} (hk:kindOf st=oneType') (ha:IK arr) (hy:Num key) (hn:base + n<=arr.size) (hh:hint < n) (hs:Up arr base (base + n))
  (h:∀ k,k<=n->(∀ i,i < k->bef left key arr (base + i)=true)->(∀ i,k<=i->i < n->bef left key arr (base + i)=false)->Q (some k) st):
  wpS (model prog w) A E s (gal left key arr base n hint) Q st:=by
 have no:∀ i j,i<=j->j < n->bef left key arr (base + i)=false->bef left key arr (base + j)=false:=λi j h1 h2 e=>by
  cases e2:bef left key arr (base + j) with
  | false=>rfl
  | true=>
   have:=jV (left:=left) (key:=key) hs (i:=base + i) (j:=base + j) (by omega) (by omega) (by omega) e2
   rw [e] at this
   cases this
 have ys:∀ i j,i<=j->j < n->bef left key arr (base + j)=true->bef left key arr (base + i)=true:=λi j h1 h2 e=>
  jV hs (by omega) (by omega) (by omega) e
 rw [Dy]
 dsimp only
 refine Je (qa hk ha hy (by omega) ?_)
 dsimp only
 cases e0:bef left key arr (base + hint) with
 | true=>
  rw [J8 rfl]
  refine Je (Zj (Yt (I:=λx c st'=>st'=st/\∃ l o,c=(none,l,o)/\l < o/\x + 1<=o/\l < n - hint/\bef left key arr (base + (hint + l))=true)
   (Q:=λc st'=>st'=st/\∃ l o,c=(none,l,o)/\l < o/\l < n - hint/\bef left key arr (base + (hint + l))=true/\(o < n - hint->bef left key arr (base + (hint + o))=false)) ?a ?b ⟨rfl,0,1,rfl,by omega,by omega,by omega,e0⟩) ?c)
  case b=>
   rintro c st' ⟨rfl,l,o,rfl,b1,b2,b3,b4⟩
   exact ⟨rfl,l,o,rfl,b1,b3,b4,λz=>by omega⟩
  case a=>
   rintro x c st' _ hx ⟨rfl,l,o,rfl,b1,b2,b3,b4⟩
   dsimp only
   by_cases g:o >= n - hint
   ·rw [J8 g]
    exact Jj ⟨rfl,l,o,rfl,b1,b3,b4,λz=>by omega⟩
   ·rw [Jc g]
    refine Je (qa hk ha hy (by omega) ?_)
    dsimp only
    cases eb:bef left key arr (base + (hint + o)) with
    | false=>
     rw [J8 (by decide)]
     exact Jj ⟨rfl,l,o,rfl,b1,b3,b4,λ_=>eb⟩
    | true=>
     rw [Jc (by decide)]
     exact Jj ⟨rfl,o,2 * o + 1,rfl,by omega,by omega,by omega,eb⟩
  case c=>
   rintro c st' ⟨rfl,l,o,rfl,b1,b3,b4,b5⟩
   dsimp only
   refine Je (B4 (lo:=hint + l + 1) (hi:=hint + min o (n - hint)) hk ha hy hn hs (by omega) (by omega) (λi hi=>?_) (λi h1 h2=>?_) λ_ k a b c=>Jj (h k a b c))
   ·exact ys i (hint + l) (by omega) (by omega) b4
   ·by_cases g:o < n - hint
    ·exact no (hint + o) i (by omega) h2 (b5 g)
    ·omega
 | false=>
  rw [Jc Jl]
  refine Je (Zj (Yt (I:=λx c st'=>st'=st/\∃ l o,c=(none,l,o)/\l < o/\x + 1<=o/\l<=hint/\bef left key arr (base + (hint - l))=false)
   (Q:=λc st'=>st'=st/\∃ l o,c=(none,l,o)/\l < o/\l<=hint/\bef left key arr (base + (hint - l))=false/\(o<=hint->bef left key arr (base + (hint - o))=true)) ?a ?b ⟨rfl,0,1,rfl,by omega,by omega,by omega,e0⟩) ?c)
  case b=>
   rintro c st' ⟨rfl,l,o,rfl,b1,b2,b3,b4⟩
   exact ⟨rfl,l,o,rfl,b1,b3,b4,λz=>by omega⟩
  case a=>
   rintro x c st' _ hx ⟨rfl,l,o,rfl,b1,b2,b3,b4⟩
   dsimp only
   by_cases g:o >= hint + 1
   ·rw [J8 g]
    exact Jj ⟨rfl,l,o,rfl,b1,b3,b4,λz=>by omega⟩
   ·rw [Jc g]
    refine Je (qa hk ha hy (by omega) ?_)
    dsimp only
    cases eb:bef left key arr (base + (hint - o)) with
    | true=>
     rw [J8 rfl]
     exact Jj ⟨rfl,l,o,rfl,b1,b3,b4,λ_=>eb⟩
    | false=>
     rw [Jc Jl]
     exact Jj ⟨rfl,o,2 * o + 1,rfl,by omega,by omega,by omega,eb⟩
  case c=>
   rintro c st' ⟨rfl,l,o,rfl,b1,b3,b4,b5⟩
   dsimp only
   refine Je (B4 (lo:=hint + 1 - min o (hint + 1)) (hi:=hint - l) hk ha hy hn hs (by omega) (by omega) (λi hi=>?_) (λi h1 h2=>?_) λ_ k a b c=>Jj (h k a b c))
   ·by_cases g:o<=hint
    ·exact ys i (hint - o) (by omega) (by omega) (b5 g)
    ·omega
   ·exact no (hint - l) i (by omega) h2 b4
end
noncomputable def mLo:Array Keyed->Array Keyed->SM (Array Keyed):=sortPriv% PySem.Builtin.mergeLo
noncomputable def sMG:Nat->SM Unit:=sortPriv% PySem.Builtin.setMinGallop
theorem Dz (a b:Array Keyed):mLo a b=(do
 rule "list.sort.merge-lo"
 let tt:=a.size + b.size
 let dn (o:Array Keyed) (i j:Nat):=o ++ a.extract i a.size ++ b.extract j b.size
 let la (o:Array Keyed) (i j:Nat):=o ++ b.extract j b.size ++ a.extract i a.size
 let mut o:Array Keyed:=#[<- elem' b 0]
 let mut i:=0
 let mut j:=1
 if j == b.size then return dn o i j
 if i + 1 == a.size then return la o i j
 let mut g:=gallopOf (<- get)
 for _ in [0:tt] do
  let mut ca:=0
  let mut cb:=0
  for _ in [0:tt] do
   let some v <- lt' (<- elem' b j) (<- elem' a i) | return dn o i j
   if v then
    o:=o.push (<- elem' b j); j:=j + 1; cb:=cb + 1; ca:=0
    if j == b.size then return dn o i j
    if cb >= g then break
   else
    o:=o.push (<- elem' a i); i:=i + 1; ca:=ca + 1; cb:=0
    if i + 1 == a.size then return la o i j
    if ca >= g then break
  rule "list.sort.gallop"
  g:=g + 1
  for _ in [0:tt] do
   if g > 1 then g:=g - 1
   sMG g
   let some k <- gal false (<- elem' b j) a i (a.size - i) 0 | return dn o i j
   ca:=k
   if k > 0 then
    o:=o ++ a.extract i (i + k); i:=i + k
    if i + 1 == a.size then return la o i j
    if i == a.size then return dn o i j
   o:=o.push (<- elem' b j); j:=j + 1
   if j == b.size then return dn o i j
   let some k <- gal true (<- elem' a i) b j (b.size - j) 0 | return dn o i j
   cb:=k
   if k > 0 then
    o:=o ++ b.extract j (j + k); j:=j + k
    if j == b.size then return dn o i j
   o:=o.push (<- elem' a i); i:=i + 1
   if i + 1 == a.size then return la o i j
   if ca < 7 && cb < 7 then break
  g:=g + 1
  sMG g
 unsupported "internal:list.sort.merge-bound"):=rfl
noncomputable def ke (p:Keyed):Int:=numOf p.1
def Sd (l:List Keyed):Prop:=l.Pairwise λp q=>ke p<=ke q
structure Ml (tot o X Y:List Keyed):Prop where
 perm:(o ++ (X ++ Y)).Perm tot
 sd:Sd o
 le:∀ p ∈ o,∀ q ∈ X ++ Y,ke p<=ke q
theorem Ml.left (h:Ml tot o (L ++ X) Y) (hs:Sd (L ++ X)) (hl:∀ p ∈ L,∀ q ∈ Y,ke p<=ke q):Ml tot (o ++ L) X Y:=by
 obtain ⟨s1,s2,s3⟩:=Zl.mp hs
 refine ⟨by simpa [Y7] using h.perm,Zl.mpr ⟨h.sd,s1,λp hp q hq=>h.le p hp q (by simp [hq])⟩,λp hp q hq=>?_⟩
 rcases Jp.mp hp with hp | hp
 ·refine h.le p hp q ?_
  rcases Jp.mp hq with hq | hq <;> simp [hq]
 ·rcases Jp.mp hq with hq | hq
  ·exact s3 p hp q hq
  ·exact hl p hp q hq
theorem Ml.swap (h:Ml tot o X Y):Ml tot o Y X:=⟨(List.perm_append_comm.append_left o).trans h.perm,h.sd,λp hp q hq=>h.le p hp q (by rcases Jp.mp hq with z | z <;> simp [z])⟩
theorem Ml.right (h:Ml tot o X (L ++ Y)) (hs:Sd (L ++ Y)) (hl:∀ p ∈ L,∀ q ∈ X,ke p<=ke q):Ml tot (o ++ L) X Y:=(h.swap.left hs hl).swap
theorem Ml.done (h:Ml tot o [] []):o.Perm tot/\Sd o:=⟨by simpa using h.perm,h.sd⟩
def Mg (a b o:Array Keyed) (i j:Nat):Prop:=Ml (a.toList ++ b.toList) o.toList (a.toList.drop i) (b.toList.drop j)
def Good (a b r:Array Keyed):Prop:=r.toList.Perm (a.toList ++ b.toList)/\Sd r.toList
theorem eZ (h:Up a 0 a.size):Sd a.toList:=by
 unfold Sd
 rw [Qu]
 intro i j hi hj hij
 have hi':i < a.size:=by simpa using hi
 have hj':j < a.size:=by simpa using hj
 have z:=h i j (Y3 _) (Vj hij) hj'
 rw [bQ hi',bQ hj'] at z
 simpa [ke] using z
theorem E5 (h:Sd a.toList):Up a 0 a.size:=by
 intro i j _ hij hj
 by_cases e:i=j
 ·subst e; exact Yo _
 ·unfold Sd at h
  rw [Qu] at h
  have z:=h i j (by simpa using (by omega:i < a.size)) (by simpa using hj) (by omega)
  rw [bQ (by omega),bQ hj]
  simpa [ke] using z
theorem Sd.drop {l:List Keyed} (h:Sd l) (i:Nat):Sd (l.drop i):=List.Pairwise.sublist (List.drop_sublist i l) h
theorem jW (hi:i < a.size):a.toList.drop i=[a[i]] ++ a.toList.drop (i + 1):=by
 rw [Qc (by simpa using hi)]
 simp
theorem jX (i k:Nat):a.toList.drop i=(a.toList.drop i).take k ++ a.toList.drop (i + k):=by
 rw [<- U1,Qb]
theorem dX (a:Array Keyed) (i j:Nat):(a.extract i j).toList=(a.toList.drop i).take (j - i):=by
 rw [Array.toList_extract]
theorem gz (h:p ∈ a.toList.drop i):∃ t,i<=t/\t < a.size/\ke p=K a t:=by
 obtain ⟨n,hn,e⟩:=Zy.mp h
 have hl:i + n < a.size:=by simp at hn; omega
 refine ⟨i + n,by omega,hl,?_⟩
 rw [bQ hl,<- e]
 simp [ke]
theorem iW {k:Nat} (h:p ∈ (a.toList.drop i).take k):∃ t,t < k/\i + t < a.size/\ke p=K a (i + t):=by
 obtain ⟨n,hn,e⟩:=Zy.mp h
 have hl:n < k/\i + n < a.size:=by simp at hn; omega
 refine ⟨n,hl.1,hl.2,?_⟩
 rw [bQ hl.2,<- e]
 simp [ke]
section
variable {a b o:Array Keyed} {i j k:Nat}
theorem Mg.bulkA (ha:Up a 0 a.size) (hb:Up b 0 b.size) (h:Mg a b o i j) (hj:j < b.size) (hk:∀ t,t < k->i + t < a.size->K a (i + t)<=K b j):Mg a b (o ++ a.extract i (i + k)) (i + k) j:=by
 unfold Mg at h ⊢
 have e:(o ++ a.extract i (i + k)).toList=o.toList ++ (a.toList.drop i).take k:=by rw [Yp,dX]; simp
 rw [e]
 rw [jX i k] at h
 refine h.left (by rw [<- jX]; exact (eZ ha).drop i) λp hp q hq=>?_
 obtain ⟨t,t1,t2,e1⟩:=iW hp
 obtain ⟨u,u1,u2,e2⟩:=gz hq
 have:=hk t t1 t2
 have:=hb j u (Y3 _) u1 u2
 omega
theorem Mg.bulkB (ha:Up a 0 a.size) (hb:Up b 0 b.size) (h:Mg a b o i j) (hi:i < a.size) (hk:∀ t,t < k->j + t < b.size->K b (j + t)<=K a i):Mg a b (o ++ b.extract j (j + k)) i (j + k):=by
 unfold Mg at h ⊢
 have e:(o ++ b.extract j (j + k)).toList=o.toList ++ (b.toList.drop j).take k:=by rw [Yp,dX]; simp
 rw [e]
 rw [jX j k] at h
 refine h.right (by rw [<- jX]; exact (eZ hb).drop j) λp hp q hq=>?_
 obtain ⟨t,t1,t2,e1⟩:=iW hp
 obtain ⟨u,u1,u2,e2⟩:=gz hq
 have:=hk t t1 t2
 have:=ha i u (Y3 _) u1 u2
 omega
theorem Mg.pushA (ha:Up a 0 a.size) (hb:Up b 0 b.size) (h:Mg a b o i j) (hi:i < a.size) (hj:j < b.size) (hk:K a i<=K b j):Mg a b (o.push a[i]) (i + 1) j:=by
 unfold Mg at h ⊢
 rw [jW hi] at h
 rw [Wi]
 refine h.left (by rw [<- jW hi]; exact (eZ ha).drop i) λp hp q hq=>?_
 rw [Jf.mp hp]
 obtain ⟨u,u1,u2,e2⟩:=gz hq
 have:=hb j u (Y3 _) u1 u2
 have e:=bQ hi
 unfold ke at e2 ⊢
 omega
theorem Mg.pushB (ha:Up a 0 a.size) (hb:Up b 0 b.size) (h:Mg a b o i j) (hi:i < a.size) (hj:j < b.size) (hk:K b j<=K a i):Mg a b (o.push b[j]) i (j + 1):=by
 unfold Mg at h ⊢
 rw [jW hj] at h
 rw [Wi]
 refine h.right (by rw [<- jW hj]; exact (eZ hb).drop j) λp hp q hq=>?_
 rw [Jf.mp hp]
 obtain ⟨u,u1,u2,e2⟩:=gz hq
 have:=ha i u (Y3 _) u1 u2
 have e:=bQ hj
 unfold ke at e2 ⊢
 omega
theorem lQ (a:Array Keyed) (i:Nat):(a.extract i a.size).toList=a.toList.drop i:=by
 rw [dX,Qm (by simp)]
theorem Mg.dn (ha:Up a 0 a.size) (hb:Up b 0 b.size) (h:Mg a b o i j) (hz:j=b.size \/ i=a.size):Good a b (o ++ a.extract i a.size ++ b.extract j b.size):=by
 unfold Mg at h
 unfold Good
 rw [Yp,Yp,lQ,lQ]
 rcases hz with rfl | rfl
 ·have e:b.toList.drop b.size=[]:=by simp
  rw [e] at h ⊢
  rw [Yu]
  refine Ml.done (Ml.left (by simpa using h) (by simpa using (eZ ha).drop i) λp hp q hq=>by cases hq)
 ·have e:a.toList.drop a.size=[]:=by simp
  rw [e] at h ⊢
  rw [Yu]
  refine Ml.done (Ml.right (by simpa using h) (by simpa using (eZ hb).drop j) λp hp q hq=>by cases hq)
theorem Mg.la (ha:Up a 0 a.size) (hb:Up b 0 b.size) (h:Mg a b o i j) (hi:i + 1=a.size) (hl:∀ t,t < b.size->K b t<=K a (a.size - 1)):Good a b (o ++ b.extract j b.size ++ a.extract i a.size):=by
 unfold Mg at h
 unfold Good
 rw [Yp,Yp,lQ,lQ]
 have h1:Ml (a.toList ++ b.toList) (o.toList ++ b.toList.drop j) (a.toList.drop i) []:=by
  refine Ml.right (by simpa using h) (by simpa using (eZ hb).drop j) λp hp q hq=>?_
  obtain ⟨t,t1,t2,e1⟩:=gz hp
  obtain ⟨u,u1,u2,e2⟩:=gz hq
  have:=hl t t2
  have:u=a.size - 1:=by omega
  subst this
  omega
 exact Ml.done (Ml.left (by simpa using h1) (by simpa using (eZ ha).drop i) λp hp q hq=>by cases hq)
end
section
variable {prog:Program} {w:World} {A:Around} {E:Value->Shared->Prop} {s:Shared}
def Sg (st st':SortSt):Prop:=kindOf st'=kindOf st/\arrOf st'=arrOf st/\pendingOf st'=pendingOf st/\failedOf st'=failedOf st
theorem Sg.refl (st:SortSt):Sg st st:=⟨rfl,rfl,rfl,rfl⟩
theorem qc {st0:SortSt} {g:Nat} {Q:Unit->SortSt->Prop} (h0:Sg st0 st) (h:∀ st',Sg st0 st'->Q () st'):wpS (model prog w) A E s (sMG g) Q st:=by
 have e:sMG g=modify λst=>SortSt.mk' (kindOf st) (arrOf st) (pendingOf st) g (failedOf st):=rfl
 rw [e]
 exact Qv (h _ ⟨h0.1,h0.2.1,h0.2.2.1,h0.2.2.2⟩)
end
section
variable {prog:Program} {w:World} {A:Around} {E:Value->Shared->Prop} {s:Shared}
structure Mid (a b o:Array Keyed) (i j:Nat):Prop where
 mg:Mg a b o i j
 ia:i + 1 < a.size
 jb:j < b.size
noncomputable abbrev LS:=Option (Array Keyed) × Array Keyed × Nat × Nat
theorem A9 {σ α β:Type} {M:Model} {dc:Decidable c} {T:β->StateT σ Sem α} {p:StateT σ Sem α} {Q:α->σ->Prop} {st:σ} {y x:β} (hp:p=T x) (h:∀ g,wpS M A E s (T g) Q st):wpS M A E s (if c then p else T y) Q st:=by
 split
 ·rw [hp]; exact h x
 ·exact h y
theorem yK {σ α β γ:Type} {M:Model} {dc:Decidable c} {T:β->γ->StateT σ Sem α} {p:StateT σ Sem α} {Q:α->σ->Prop} {st:σ} {I:β->γ->Prop} {y1:β} {y2:γ} (hn:¬ c->I y1 y2)
  (ht:∀ o i,I o i->wpS M A E s (T o i) Q st) (hp:c->(∀ o i,I o i->wpS M A E s (T o i) Q st)->wpS M A E s p Q st):wpS M A E s (if c then p else T y1 y2) Q st:=by
 by_cases hc:c
 ·rw [J8 hc]; exact hp hc ht
 ·rw [Jc hc]; exact ht _ _ (hn hc)
theorem DA {Q:Array Keyed->SortSt->Prop} (hk:kindOf st=oneType') (ia:IK a) (ib:IK b) (ha:Up a 0 a.size) (hb:Up b 0 b.size) (a1:1<=a.size) (b1:1<=b.size) (h0:K b 0<=K a 0) (hl:∀ t,t < b.size->K b t<=K a (a.size - 1))
  (h:∀ r st',Good a b r->Sg st st'->Q r st'):wpS (model prog w) A E s (mLo a b) Q st:=by
 rw [Dz]
 dsimp only
 refine Je (Vg (Z0 ⟨rfl,?_⟩))
 refine Je (aZ (by omega) ?_)
 have m0:Mg a b #[b[0]] 0 1:=by
  have z:Mg a b #[] 0 0:=⟨by simp,List.Pairwise.nil,λp hp=>by cases hp⟩
  exact z.pushB ha hb (by omega) (by omega) h0
 by_cases g1:1=b.size
 ·rw [J8 (by simpa using g1)]
  exact Jj (h _ _ (m0.dn ha hb (.inl g1)) (Sg.refl st))
 rw [Jc (by simpa using g1)]
 by_cases g2:0 + 1=a.size
 ·rw [J8 (by simpa using g2)]
  exact Jj (h _ _ (m0.la ha hb g2 hl) (Sg.refl st))
 rw [Jc (by simpa using g2)]
 refine Je (Wm ?_)
 have kd:∀ {st'},Sg st st'->kindOf st'=oneType':=λz=>z.1.trans hk
 refine Je (Zj (Yt (I:=λx c st'=>Sg st st'/\∃ o i j g,c=(none,o,i,j,g)/\Mid a b o i j/\x + 1<=i + j)
  (Q:=λc st'=>Sg st st'/\∃ r,c.1=some r/\Good a b r) ?step ?fin ⟨Sg.refl st,_,0,1,_,rfl,⟨m0,by omega,by omega⟩,by omega⟩) ?post)
 case fin=>
  rintro c st' ⟨_,o,i,j,g,_,m,hx⟩
  have:=m.ia; have:=m.jb
  omega
 case post=>
  rintro ⟨c,o,i,j,g⟩ st' ⟨z,r,e,hr⟩
  cases e
  exact Jj (h r st' hr z)
 case step=>
  rintro x c st' _ hx ⟨z,o,i,j,g,rfl,m,hp⟩
  dsimp only
  refine Je (Zj (Yt (I:=λy c st'=>Sg st st'/\∃ o' i' j' ca cb,c=(none,o',i',j',ca,cb)/\Mid a b o' i' j'/\i + j + y<=i' + j')
   (Q:=λc st'=>Sg st st'/\((∃ r,c.1=some r/\Good a b r) \/ ∃ o' i' j' ca cb,c=(none,o',i',j',ca,cb)/\Mid a b o' i' j'/\i + j + 1<=i' + j')) ?s1 ?f1 ⟨z,o,i,j,0,0,rfl,m,by omega⟩) ?p1)
  case f1=>
   rintro c st' ⟨z,o',i',j',ca,cb,rfl,m,hy⟩
   exact ⟨z,.inr ⟨o',i',j',ca,cb,rfl,m,by omega⟩⟩
  case s1=>
   rintro y c st' _ hy ⟨z,o',i',j',ca,cb,rfl,m,hp'⟩
   dsimp only
   have mi:=m.ia
   have mj:=m.jb
   refine Je (aZ mj ?_)
   refine Je (aZ (by omega) ?_)
   refine Je (rV (kd z) (ib.get mj) (ia.get (by omega)) ?_)
   dsimp only
   rw [<- bQ mj,<- bQ (show i' < a.size by omega)]
   by_cases hlt:K b j' < K a i'
   ·rw [J8 (by simpa using hlt)]
    refine Je (aZ mj ?_)
    have m2:=m.mg.pushB ha hb (by omega) mj (Yz hlt)
    by_cases e1:j' + 1=b.size
    ·rw [J8 (by simpa using e1)]
     exact Jj ⟨z,.inl ⟨_,rfl,m2.dn ha hb (.inl e1)⟩⟩
    ·rw [Jc (by simpa using e1)]
     split
     ·exact Jj ⟨z,.inr ⟨_,_,_,_,_,rfl,⟨m2,by omega,by omega⟩,by omega⟩⟩
     ·exact Jj ⟨z,_,_,_,_,_,rfl,⟨m2,by omega,by omega⟩,by omega⟩
   ·rw [Jc (by simpa using hlt)]
    refine Je (aZ (by omega) ?_)
    have m2:=m.mg.pushA ha hb (by omega) mj (Uu.mp hlt)
    by_cases e1:i' + 1 + 1=a.size
    ·rw [J8 (by simpa using e1)]
     exact Jj ⟨z,.inl ⟨_,rfl,m2.la ha hb e1 hl⟩⟩
    ·rw [Jc (by simpa using e1)]
     split
     ·exact Jj ⟨z,.inr ⟨_,_,_,_,_,rfl,⟨m2,by omega,by omega⟩,by omega⟩⟩
     ·exact Jj ⟨z,_,_,_,_,_,rfl,⟨m2,by omega,by omega⟩,by omega⟩
  case p1=>
   rintro c st' ⟨z,⟨r,e,hr⟩ | ⟨o',i',j',ca,cb,rfl,m,hp'⟩⟩
   ·obtain ⟨c,o',i',j',ca,cb⟩:=c
    cases e
    exact Jj ⟨z,r,rfl,hr⟩
   dsimp only
   refine Je (Vg (Z0 ⟨rfl,?_⟩))
   refine Je (Zj (Yt (I:=λy c st'=>Sg st st'/\∃ o2 i2 j2 g ca cb,c=(none,o2,i2,j2,g,ca,cb)/\Mid a b o2 i2 j2/\i + j + 1<=i2 + j2)
    (Q:=λc st'=>Sg st st'/\((∃ r,c.1=some r/\Good a b r) \/ ∃ o2 i2 j2 g ca cb,c=(none,o2,i2,j2,g,ca,cb)/\Mid a b o2 i2 j2/\i + j + 1<=i2 + j2)) ?s2 ?f2 ⟨z,_,_,_,_,_,_,rfl,m,hp'⟩) ?p2)
   case f2=>
    rintro c st' ⟨z,o2,i2,j2,g2,ca,cb,rfl,m,hy⟩
    exact ⟨z,.inr ⟨o2,i2,j2,g2,ca,cb,rfl,m,hy⟩⟩
   case p2=>
    rintro c st' ⟨z,⟨r,e,hr⟩ | ⟨o2,i2,j2,g2,ca,cb,rfl,m,hp'⟩⟩
    ·obtain ⟨c,o2,i2,j2,g2,ca,cb⟩:=c
     cases e
     exact Jj ⟨z,r,rfl,hr⟩
    dsimp only
    exact Je (qc z λst' z=>Jj ⟨z,_,_,_,_,rfl,m,by omega⟩)
   case s2=>
    rintro y c st' _ hy ⟨z,o2,i2,j2,g2,ca,cb,rfl,m,hp'⟩
    dsimp only
    have mi:=m.ia
    have mj:=m.jb
    have hm:=m.mg
    clear m
    apply A9 (y:=g2) (x:=g2 - 1)
    case hp=>rfl
    intro g3
    refine Je (qc z λst' z=>?_)
    refine Je (aZ mj ?_)
    refine Je (jz (kd z) ia (ib.get mj) (by omega) (by omega) (λp q _ hpq hq=>ha p q (Y3 _) hpq (by omega)) λk k1 k2 k3=>?_)
    dsimp only
    have q2:∀ t,t < k->i2 + t < a.size->K a (i2 + t)<=K b j2:=λt ht _=>by
     have:=k2 t ht
     rw [bQ mj]
     simpa [bef] using this
    have q3:k < a.size - i2->K b j2<=K a (i2 + k):=λhkk=>by
     have:=k3 k (Jb _) hkk
     rw [bQ mj]
     exact Yz (by simpa [bef] using this)
    have hm':=hm.bulkA ha hb mj q2
    apply yK (I:=λo3 i3=>Mg a b o3 i3 j2/\i3 + 1 < a.size/\i2<=i3/\K b j2<=K a i3) (y1:=o2) (y2:=i2)
    case hn=>
     intro hk0
     have hk1:k=0:=by omega
     subst hk1
     have hq3:=q3 (by omega)
     rw [Nat.add_zero] at hq3
     exact ⟨hm,by omega,Jb _,hq3⟩
    case hp=>
     intro hk0 key
     split
     ·rename_i e3
      exact Jj ⟨z,.inl ⟨_,rfl,hm'.la ha hb (by simpa using e3) hl⟩⟩
     ·rename_i e3
      split
      ·rename_i e4
       exact Jj ⟨z,.inl ⟨_,rfl,hm'.dn ha hb (.inr (by simpa using e4))⟩⟩
      ·rename_i e4
       simp at e3 e4
       exact key _ _ ⟨hm',by omega,by omega,q3 (by omega)⟩
    intro o3 i3 y3
    obtain ⟨hm3,hi3,le3,hq3⟩:=y3
    have hi4:i3 < a.size:=by omega
    refine Je (aZ mj ?_)
    have m4:=hm3.pushB ha hb (by omega) mj hq3
    by_cases e4:j2 + 1=b.size
    ·rw [J8 (by simpa using e4)]
     exact Jj ⟨z,.inl ⟨_,rfl,m4.dn ha hb (.inl e4)⟩⟩
    rw [Jc (by simpa using e4)]
    generalize o3.push b[j2]=o5 at m4 ⊢
    generalize ej:j2 + 1=j5 at m4 e4 ⊢
    refine Je (aZ hi4 ?_)
    refine Je (jz (kd z) ib (ia.get hi4) (by omega) (by omega) (λp q _ hpq hq=>hb p q (Y3 _) hpq (by omega)) λu u1 u2 u3=>?_)
    dsimp only
    apply yK (I:=λo4 j4=>Mg a b o4 i3 j4/\j4 < b.size/\j2 + 1<=j4/\K a i3<=K b j4) (y1:=o5) (y2:=j5)
    case hn=>
     intro hu
     have hu0:u=0:=by omega
     subst hu0
     have hq6:=u3 0 (Jb _) (by omega)
     simp [bef] at hq6
     rw [<- bQ hi4] at hq6
     exact ⟨m4,by omega,by omega,hq6⟩
    case hp=>
     intro hu key
     have hm6:=m4.bulkB (k:=u) ha hb hi4 λt ht _=>by
      have:=u2 t ht
      rw [bQ hi4]
      exact Yz (by simpa [bef] using this)
     split
     ·rename_i e5
      exact Jj ⟨z,.inl ⟨_,rfl,hm6.dn ha hb (.inl (by simpa using e5))⟩⟩
     ·rename_i e5
      simp at e5
      have hq6:=u3 u (Jb _) (by omega)
      simp [bef] at hq6
      rw [<- bQ hi4] at hq6
      exact key _ _ ⟨hm6,by omega,by omega,hq6⟩
    intro o4 j4 y4
    obtain ⟨hm6,hj6,le6,hq6⟩:=y4
    refine Je (aZ (by omega) ?_)
    have m6:=hm6.pushA ha hb (by omega) hj6 hq6
    split
    ·rename_i e6
     exact Jj ⟨z,.inl ⟨_,rfl,m6.la ha hb (by simpa using e6) hl⟩⟩
    ·rename_i e6
     simp at e6
     split
     ·exact Jj ⟨z,.inr ⟨_,_,_,_,_,_,rfl,⟨m6,by omega,by omega⟩,by omega⟩⟩
     ·exact Jj ⟨z,_,_,_,_,_,_,rfl,⟨m6,by omega,by omega⟩,by omega⟩
end
noncomputable def mHi:Array Keyed->Array Keyed->SM (Array Keyed):=sortPriv% PySem.Builtin.mergeHi
theorem DB (a b:Array Keyed):mHi a b=(do
 rule "list.sort.merge-hi"
 let tt:=a.size + b.size
 let dn (o:Array Keyed) (i j:Nat):=a.extract 0 i ++ b.extract 0 j ++ o.reverse
 let fb (o:Array Keyed) (i j:Nat):=b.extract 0 j ++ a.extract 0 i ++ o.reverse
 let mut i:=a.size - 1
 let mut j:=b.size
 let mut o:Array Keyed:=#[<- elem' a i]
 if i == 0 then return dn o i j
 if j == 1 then return fb o i j
 let mut g:=gallopOf (<- get)
 for _ in [0:tt] do
  let mut ca:=0
  let mut cb:=0
  for _ in [0:tt] do
   let some v <- lt' (<- elem' b (j - 1)) (<- elem' a (i - 1)) | return dn o i j
   if v then
    i:=i - 1; o:=o.push (<- elem' a i); ca:=ca + 1; cb:=0
    if i == 0 then return dn o i j
    if ca >= g then break
   else
    j:=j - 1; o:=o.push (<- elem' b j); cb:=cb + 1; ca:=0
    if j == 1 then return fb o i j
    if cb >= g then break
  rule "list.sort.gallop"
  g:=g + 1
  for _ in [0:tt] do
   if g > 1 then g:=g - 1
   sMG g
   let some z <- gal false (<- elem' b (j - 1)) a 0 i (i - 1) | return dn o i j
   let k:=i - z
   ca:=k
   if k > 0 then
    o:=o ++ (a.extract z i).reverse; i:=z
    if i == 0 then return dn o i j
   j:=j - 1; o:=o.push (<- elem' b j)
   if j == 1 then return fb o i j
   let some z <- gal true (<- elem' a (i - 1)) b 0 j (j - 1) | return dn o i j
   let k:=j - z
   cb:=k
   if k > 0 then
    o:=o ++ (b.extract z j).reverse; j:=z
    if j == 1 then return fb o i j
    if j == 0 then return dn o i j
   i:=i - 1; o:=o.push (<- elem' a i)
   if i == 0 then return dn o i j
   if ca < 7 && cb < 7 then break
  g:=g + 1
  sMG g
 unsupported "internal:list.sort.merge-bound"):=rfl
structure Mr (tot X Y o:List Keyed):Prop where
 perm:(X ++ Y ++ o).Perm tot
 sd:Sd o
 le:∀ q ∈ X ++ Y,∀ p ∈ o,ke q<=ke p
theorem Mr.swap (h:Mr tot X Y o):Mr tot Y X o:=⟨(List.perm_append_comm.append_right o).trans h.perm,h.sd,λq hq=>h.le q (by rcases Jp.mp hq with z | z <;> simp [z])⟩
theorem Mr.left (h:Mr tot Y (X ++ L) o) (hs:Sd (X ++ L)) (hl:∀ q ∈ Y,∀ p ∈ L,ke q<=ke p):Mr tot Y X (L ++ o):=by
 obtain ⟨s1,s2,s3⟩:=Zl.mp hs
 refine ⟨by simpa [Y7] using h.perm,Zl.mpr ⟨s2,h.sd,λp hp q hq=>h.le p (by simp [hp]) q hq⟩,λq hq p hp=>?_⟩
 rcases Jp.mp hp with hp | hp
 ·rcases Jp.mp hq with hq | hq
  ·exact hl q hq p hp
  ·exact s3 q hq p hp
 ·refine h.le q ?_ p hp
  rcases Jp.mp hq with hq | hq <;> simp [hq]
theorem Mr.right (h:Mr tot (X ++ L) Y o) (hs:Sd (X ++ L)) (hl:∀ q ∈ Y,∀ p ∈ L,ke q<=ke p):Mr tot X Y (L ++ o):=(h.swap.left hs hl).swap
theorem Mr.done (h:Mr tot [] [] o):o.Perm tot/\Sd o:=⟨by simpa using h.perm,h.sd⟩
def Mt (a b o:Array Keyed) (i j:Nat):Prop:=Mr (a.toList ++ b.toList) (a.toList.take i) (b.toList.take j) o.toList.reverse
theorem Sd.take {l:List Keyed} (h:Sd l) (i:Nat):Sd (l.take i):=List.Pairwise.sublist (List.take_sublist i l) h
theorem gA (h:p ∈ a.toList.take i):∃ t,t < i/\t < a.size/\ke p=K a t:=by
 obtain ⟨t,h1,h2,e⟩:=iW (i:=0) (k:=i) (a:=a) (p:=p) (by simpa using h)
 exact ⟨t,h1,by omega,by simpa using e⟩
theorem jY (hi:i < a.size):a.toList.take (i + 1)=a.toList.take i ++ [a[i]]:=by
 rw [List.take_succ_eq_append_getElem (by simpa using hi)]
 simp
theorem jZ {z:Nat} (hz:z<=i):a.toList.take i=a.toList.take z ++ (a.toList.drop z).take (i - z):=by
 have e:i=z + (i - z):=by omega
 conv=>lhs; rw [e,List.take_add]
theorem j0 (a:Array Keyed) (i:Nat):(a.extract 0 i).toList=a.toList.take i:=by
 rw [dX]; simp
section
variable {a b o:Array Keyed} {i j k z:Nat}
theorem Mt.bulkA (ha:Up a 0 a.size) (hb:Up b 0 b.size) (h:Mt a b o i j) (hj:j<=b.size) (j1:1<=j) (hz:z<=i) (hi:i<=a.size) (hk:∀ t,z<=t->t < i->K b (j - 1)<=K a t):Mt a b (o ++ (a.extract z i).reverse) z j:=by
 unfold Mt at h ⊢
 have e:(o ++ (a.extract z i).reverse).toList.reverse=(a.toList.drop z).take (i - z) ++ o.toList.reverse:=by rw [Yp,Wx,Wt,List.reverse_reverse,dX]
 rw [e]
 rw [jZ hz] at h
 refine h.right (by rw [<- jZ hz]; exact (eZ ha).take i) λq hq p hp=>?_
 obtain ⟨t,t1,t2,e1⟩:=iW hp
 obtain ⟨u,u1,u2,e2⟩:=gA hq
 have:=hk (z + t) (by omega) (by omega)
 have:=hb u (j - 1) (Y3 _) (by omega) (by omega)
 omega
theorem Mt.bulkB (ha:Up a 0 a.size) (hb:Up b 0 b.size) (h:Mt a b o i j) (hj:j<=b.size) (i1:1<=i) (hz:z<=j) (hi:i<=a.size) (hk:∀ t,z<=t->t < j->K a (i - 1)<=K b t):Mt a b (o ++ (b.extract z j).reverse) i z:=by
 unfold Mt at h ⊢
 have e:(o ++ (b.extract z j).reverse).toList.reverse=(b.toList.drop z).take (j - z) ++ o.toList.reverse:=by rw [Yp,Wx,Wt,List.reverse_reverse,dX]
 rw [e]
 rw [jZ hz] at h
 refine h.left (by rw [<- jZ hz]; exact (eZ hb).take j) λq hq p hp=>?_
 obtain ⟨t,t1,t2,e1⟩:=iW hp
 obtain ⟨u,u1,u2,e2⟩:=gA hq
 have:=hk (z + t) (by omega) (by omega)
 have:=ha u (i - 1) (Y3 _) (by omega) (by omega)
 omega
theorem Mt.pushA (ha:Up a 0 a.size) (hb:Up b 0 b.size) (h:Mt a b o (i + 1) j) (hi:i < a.size) (hk:∀ t,t < j->t < b.size->K b t<=K a i):Mt a b (o.push a[i]) i j:=by
 unfold Mt at h ⊢
 rw [jY hi] at h
 rw [Wi,Wx]
 refine h.right (by rw [<- jY hi]; exact (eZ ha).take _) λq hq p hp=>?_
 rw [Jf.mp hp]
 obtain ⟨u,u1,u2,e2⟩:=gA hq
 have:=hk u u1 u2
 have e:=bQ hi
 unfold ke at e2 ⊢
 omega
theorem Mt.pushB (ha:Up a 0 a.size) (hb:Up b 0 b.size) (h:Mt a b o i (j + 1)) (hj:j < b.size) (hk:∀ t,t < i->t < a.size->K a t<=K b j):Mt a b (o.push b[j]) i j:=by
 unfold Mt at h ⊢
 rw [jY hj] at h
 rw [Wi,Wx]
 refine h.left (by rw [<- jY hj]; exact (eZ hb).take _) λq hq p hp=>?_
 rw [Jf.mp hp]
 obtain ⟨u,u1,u2,e2⟩:=gA hq
 have:=hk u u1 u2
 have e:=bQ hj
 unfold ke at e2 ⊢
 omega
theorem Mt.dn (ha:Up a 0 a.size) (hb:Up b 0 b.size) (h:Mt a b o i j) (hz:i=0 \/ j=0):Good a b (a.extract 0 i ++ b.extract 0 j ++ o.reverse):=by
 unfold Mt at h
 unfold Good
 rw [Yp,Yp,j0,j0,Wt]
 rcases hz with rfl | rfl
 ·rw [Us] at h ⊢
  rw [Z4]
  exact Mr.done (Mr.left (by simpa using h) (by simpa using (eZ hb).take j) λq hq=>by cases hq)
 ·rw [Us] at h ⊢
  rw [Yu]
  exact Mr.done (Mr.right (by simpa using h) (by simpa using (eZ ha).take i) λq hq=>by cases hq)
theorem Mt.fb (ha:Up a 0 a.size) (hb:Up b 0 b.size) (h:Mt a b o i j) (hj:j=1) (hl:∀ t,t < a.size->K b 0<=K a t):Good a b (b.extract 0 j ++ a.extract 0 i ++ o.reverse):=by
 subst hj
 unfold Mt at h
 unfold Good
 rw [Yp,Yp,j0,j0,Wt,Y7]
 have h1:Mr (a.toList ++ b.toList) [] (b.toList.take 1) (a.toList.take i ++ o.toList.reverse):=by
  refine Mr.right (by simpa using h) (by simpa using (eZ ha).take i) λq hq p hp=>?_
  obtain ⟨t,t1,t2,e1⟩:=gA hp
  obtain ⟨u,u1,u2,e2⟩:=gA hq
  have:=hl t t2
  have:u=0:=by omega
  subst this
  omega
 exact Mr.done (Mr.left (by simpa using h1) (by simpa using (eZ hb).take 1) λq hq=>by cases hq)
end
section
variable {prog:Program} {w:World} {A:Around} {E:Value->Shared->Prop} {s:Shared}
structure Mie (a b o:Array Keyed) (i j:Nat):Prop where
 mg:Mt a b o i j
 i1:1<=i
 ia:i<=a.size
 j1:2<=j
 jb:j<=b.size
set_option maxHeartbeats 2000000 in
theorem DC {Q:Array Keyed->SortSt->Prop} (hk:kindOf st=oneType') (ia:IK a) (ib:IK b) (ha:Up a 0 a.size) (hb:Up b 0 b.size) (a1:1<=a.size) (b1:1<=b.size) (hl:∀ t,t < a.size->K b 0<=K a t) (h0:∀ t,t < b.size->K b t<=K a (a.size - 1))
  (h:∀ r st',Good a b r->Sg st st'->Q r st'):wpS (model prog w) A E s (mHi a b) Q st:=by
 rw [DB]
 dsimp only
 refine Je (Vg (Z0 ⟨rfl,?_⟩))
 refine Je (aZ (by omega) ?_)
 have m0:Mt a b #[a[a.size - 1]] (a.size - 1) b.size:=by
  have z:Mt a b #[] (a.size - 1 + 1) b.size:=⟨by rw [show a.size - 1 + 1=a.size by omega,Qm (by simp),Qm (by simp)]; simp,List.Pairwise.nil,λq hq p hp=>by cases hp⟩
  exact z.pushA ha hb (by omega) λt _ ht=>h0 t ht
 by_cases g1:a.size - 1=0
 ·rw [J8 (by simpa using g1)]
  exact Jj (h _ _ (m0.dn ha hb (.inl g1)) (Sg.refl st))
 rw [Jc (by simpa using g1)]
 by_cases g2:b.size=1
 ·rw [J8 (by simpa using g2)]
  exact Jj (h _ _ (m0.fb ha hb g2 hl) (Sg.refl st))
 rw [Jc (by simpa using g2)]
 refine Je (Wm ?_)
 have kd:∀ {st'},Sg st st'->kindOf st'=oneType':=λz=>z.1.trans hk
 refine Je (Zj (Yt (I:=λx c st'=>Sg st st'/\∃ o i j g,c=(none,i,j,o,g)/\Mie a b o i j/\i + j + x + 1<=a.size + b.size)
  (Q:=λc st'=>Sg st st'/\∃ r,c.1=some r/\Good a b r) ?step ?fin ⟨Sg.refl st,_,_,_,_,rfl,⟨m0,by omega,by omega,by omega,by omega⟩,by omega⟩) ?post)
 all_goals skip
 case fin=>
  rintro c st' ⟨_,o,i,j,g,_,m,hx⟩
  have:=m.i1
  omega
 case post=>
  rintro ⟨c,i,j,o,g⟩ st' ⟨z,r,e,hr⟩
  cases e
  exact Jj (h r st' hr z)
 case step=>
  rintro x c st' _ hx ⟨z,o,i,j,g,rfl,m,hp⟩
  dsimp only
  refine Je (Zj (Yt (I:=λy c st'=>Sg st st'/\∃ o' i' j' ca cb,c=(none,i',j',o',ca,cb)/\Mie a b o' i' j'/\i' + j' + y<=i + j)
   (Q:=λc st'=>Sg st st'/\((∃ r,c.1=some r/\Good a b r) \/ ∃ o' i' j' ca cb,c=(none,i',j',o',ca,cb)/\Mie a b o' i' j'/\i' + j' + 1<=i + j)) ?s1 ?f1 ⟨z,_,_,_,0,0,rfl,m,by omega⟩) ?p1)
  case f1=>
   rintro c st' ⟨z,o',i',j',ca,cb,rfl,m,hy⟩
   exact ⟨z,.inr ⟨o',i',j',ca,cb,rfl,m,by omega⟩⟩
  case s1=>
   rintro y c st' _ hy ⟨z,o',i',j',ca,cb,rfl,⟨mm,mi1,mi,mj1,mj⟩,hp'⟩
   dsimp only
   have hj9:j' - 1 < b.size:=by omega
   have hi9:i' - 1 < a.size:=by omega
   refine Je (aZ hj9 ?_)
   refine Je (aZ hi9 ?_)
   refine Je (rV (kd z) (ib.get hj9) (ia.get hi9) ?_)
   dsimp only
   rw [<- bQ hj9,<- bQ hi9]
   by_cases hlt:K b (j' - 1) < K a (i' - 1)
   ·rw [J8 (by simpa using hlt)]
    refine Je (aZ hi9 ?_)
    have m2:=Mt.pushA (i:=i' - 1) ha hb (by rw [show i' - 1 + 1=i' by omega]; exact mm) hi9 λt h1 h2=>Z7 (hb t (j' - 1) (Y3 _) (by omega) hj9) (Yz hlt)
    by_cases e1:i' - 1=0
    ·rw [J8 (by simpa using e1)]
     exact Jj ⟨z,.inl ⟨_,rfl,m2.dn ha hb (.inl e1)⟩⟩
    ·rw [Jc (by simpa using e1)]
     split
     ·exact Jj ⟨z,.inr ⟨_,_,_,_,_,rfl,⟨m2,by omega,by omega,by omega,by omega⟩,by omega⟩⟩
     ·exact Jj ⟨z,_,_,_,_,_,rfl,⟨m2,by omega,by omega,by omega,by omega⟩,by omega⟩
   ·rw [Jc (by simpa using hlt)]
    refine Je (aZ hj9 ?_)
    have m2:=Mt.pushB (j:=j' - 1) ha hb (by rw [show j' - 1 + 1=j' by omega]; exact mm) hj9 λt h1 h2=>Z7 (ha t (i' - 1) (Y3 _) (by omega) hi9) (Uu.mp hlt)
    by_cases e1:j' - 1=1
    ·rw [J8 (by simpa using e1)]
     exact Jj ⟨z,.inl ⟨_,rfl,m2.fb ha hb e1 hl⟩⟩
    ·rw [Jc (by simpa using e1)]
     split
     ·exact Jj ⟨z,.inr ⟨_,_,_,_,_,rfl,⟨m2,by omega,by omega,by omega,by omega⟩,by omega⟩⟩
     ·exact Jj ⟨z,_,_,_,_,_,rfl,⟨m2,by omega,by omega,by omega,by omega⟩,by omega⟩
  case p1=>
   rintro c st' ⟨z,⟨r,e,hr⟩ | ⟨o',i',j',ca,cb,rfl,m,hp'⟩⟩
   ·obtain ⟨c,o',i',j',ca,cb⟩:=c
    cases e
    exact Jj ⟨z,r,rfl,hr⟩
   dsimp only
   refine Je (Vg (Z0 ⟨rfl,?_⟩))
   refine Je (Zj (Yt (I:=λy c st'=>Sg st st'/\∃ o2 i2 j2 g ca cb,c=(none,i2,j2,o2,g,ca,cb)/\Mie a b o2 i2 j2/\i2 + j2 + 1<=i + j)
    (Q:=λc st'=>Sg st st'/\((∃ r,c.1=some r/\Good a b r) \/ ∃ o2 i2 j2 g ca cb,c=(none,i2,j2,o2,g,ca,cb)/\Mie a b o2 i2 j2/\i2 + j2 + 1<=i + j)) ?s2 ?f2 ⟨z,_,_,_,_,_,_,rfl,m,hp'⟩) ?p2)
   case f2=>
    rintro c st' ⟨z,o2,i2,j2,g2,ca,cb,rfl,m,hy⟩
    exact ⟨z,.inr ⟨o2,i2,j2,g2,ca,cb,rfl,m,hy⟩⟩
   case p2=>
    rintro c st' ⟨z,⟨r,e,hr⟩ | ⟨o2,i2,j2,g2,ca,cb,rfl,m,hp'⟩⟩
    ·obtain ⟨c,o2,i2,j2,g2,ca,cb⟩:=c
     cases e
     exact Jj ⟨z,r,rfl,hr⟩
    dsimp only
    exact Je (qc z λst' z=>Jj ⟨z,_,_,_,_,rfl,m,by omega⟩)
   case s2=>
    rintro y c st' _ hy ⟨z,o2,i2,j2,g2,ca,cb,rfl,⟨hm,mi1,mi,mj1,mj⟩,hp'⟩
    dsimp only
    have hj9:j2 - 1 < b.size:=by omega
    by_cases hg:g2 > 1
    all_goals (first | rw [J8 hg] | rw [Jc hg])
    all_goals
     refine Je (qc z λst' z=>?_)
     refine Je (aZ hj9 ?_)
     refine Je (jz (kd z) ia (ib.get hj9) (by omega) (by omega) (λp q _ hpq hq=>ha p q (Y3 _) hpq (by omega)) λk k1 k2 k3=>?_)
     dsimp only
     have q2:∀ t,t < k->t < a.size->K a t<=K b (j2 - 1):=λt ht _=>by
      have:=k2 t ht
      rw [bQ hj9]
      simpa [bef] using this
     have q3:∀ t,k<=t->t < i2->K b (j2 - 1)<=K a t:=λt h1 h2=>by
      have:=k3 t h1 h2
      rw [bQ hj9]
      exact Yz (by simpa [bef] using this)
     by_cases hk0:i2 - k > 0
     ·rw [J8 hk0]
      have hm3:=hm.bulkA (z:=k) ha hb mj (by omega) k1 mi q3
      split
      ·rename_i e3
       exact Jj ⟨z,.inl ⟨_,rfl,hm3.dn ha hb (.inl (by simpa using e3))⟩⟩
      ·rename_i e3
       simp at e3
       obtain ⟨i3,hi3⟩:∃ i3,i3=k:=⟨k,rfl⟩
       subst hi3
       have hq3:=q2
       refine Je (aZ (by omega) ?_)
       have m4:=Mt.pushB (j:=j2 - 1) ha hb (by rw [show j2 - 1 + 1=j2 by omega]; exact hm3) (by omega) hq3
       split
       ·rename_i e4
        exact Jj ⟨z,.inl ⟨_,rfl,m4.fb ha hb (by simpa using e4) hl⟩⟩
       rename_i e4
       simp at e4
       have hi4:i3 - 1 < a.size:=by omega
       refine Je (aZ hi4 ?_)
       refine Je (jz (kd z) ib (ia.get hi4) (by omega) (by omega) (λp q _ hpq hq=>hb p q (Y3 _) hpq (by omega)) λu u1 u2 u3=>?_)
       dsimp only
       have v2:∀ t,t < u->K b t<=K a (i3 - 1):=λt ht=>by
        have:=u2 t ht
        rw [bQ hi4]
        exact Yz (by simpa [bef] using this)
       have v3:∀ t,u<=t->t < j2 - 1->K a (i3 - 1)<=K b t:=λt h1 h2=>by
        have:=u3 t h1 h2
        rw [bQ hi4]
        simpa [bef] using this
       by_cases hu:j2 - 1 - u > 0
       ·rw [J8 hu]
        have hm6:=m4.bulkB (z:=u) ha hb (by omega) (by omega) (by omega) (by omega) v3
        split
        ·rename_i e5
         exact Jj ⟨z,.inl ⟨_,rfl,hm6.fb ha hb (by simpa using e5) hl⟩⟩
        ·rename_i e5
         split
         ·rename_i e7
          exact Jj ⟨z,.inl ⟨_,rfl,hm6.dn ha hb (.inr (by simpa using e7))⟩⟩
         ·rename_i e7
          simp at e5 e7
          have hq6:∀ t,t < u->t < b.size->K b t<=K a (i3 - 1):=λt h1 _=>v2 t h1
          refine Je (aZ (by omega) ?_)
          have m6:=Mt.pushA (i:=i3 - 1) ha hb (by rw [show i3 - 1 + 1=i3 by omega]; exact hm6) (by omega) hq6
          split
          ·rename_i e6
           exact Jj ⟨z,.inl ⟨_,rfl,m6.dn ha hb (.inl (by simpa using e6))⟩⟩
          ·rename_i e6
           simp at e6
           split
           ·exact Jj ⟨z,.inr ⟨_,_,_,_,_,_,rfl,⟨m6,by omega,by omega,by omega,by omega⟩,by omega⟩⟩
           ·exact Jj ⟨z,_,_,_,_,_,_,rfl,⟨m6,by omega,by omega,by omega,by omega⟩,by omega⟩
       ·rw [Jc hu]
        have hu0:u=j2 - 1:=by omega
        have hm6:=m4
        have hq6:∀ t,t < j2 - 1->t < b.size->K b t<=K a (i3 - 1):=λt h1 _=>v2 t (by omega)
        refine Je (aZ (by omega) ?_)
        have m6:=Mt.pushA (i:=i3 - 1) ha hb (by rw [show i3 - 1 + 1=i3 by omega]; exact hm6) (by omega) hq6
        split
        ·rename_i e6
         exact Jj ⟨z,.inl ⟨_,rfl,m6.dn ha hb (.inl (by simpa using e6))⟩⟩
        ·rename_i e6
         simp at e6
         split
         ·exact Jj ⟨z,.inr ⟨_,_,_,_,_,_,rfl,⟨m6,by omega,by omega,by omega,by omega⟩,by omega⟩⟩
         ·exact Jj ⟨z,_,_,_,_,_,_,rfl,⟨m6,by omega,by omega,by omega,by omega⟩,by omega⟩
     ·rw [Jc hk0]
      have hk1:k=i2:=by omega
      subst hk1
      have hm3:=hm
      obtain ⟨i3,hi3⟩:∃ i3,i3=k:=⟨k,rfl⟩
      subst hi3
      have hq3:=q2
      refine Je (aZ (by omega) ?_)
      have m4:=Mt.pushB (j:=j2 - 1) ha hb (by rw [show j2 - 1 + 1=j2 by omega]; exact hm3) (by omega) hq3
      split
      ·rename_i e4
       exact Jj ⟨z,.inl ⟨_,rfl,m4.fb ha hb (by simpa using e4) hl⟩⟩
      rename_i e4
      simp at e4
      have hi4:i3 - 1 < a.size:=by omega
      refine Je (aZ hi4 ?_)
      refine Je (jz (kd z) ib (ia.get hi4) (by omega) (by omega) (λp q _ hpq hq=>hb p q (Y3 _) hpq (by omega)) λu u1 u2 u3=>?_)
      dsimp only
      have v2:∀ t,t < u->K b t<=K a (i3 - 1):=λt ht=>by
       have:=u2 t ht
       rw [bQ hi4]
       exact Yz (by simpa [bef] using this)
      have v3:∀ t,u<=t->t < j2 - 1->K a (i3 - 1)<=K b t:=λt h1 h2=>by
       have:=u3 t h1 h2
       rw [bQ hi4]
       simpa [bef] using this
      by_cases hu:j2 - 1 - u > 0
      ·rw [J8 hu]
       have hm6:=m4.bulkB (z:=u) ha hb (by omega) (by omega) (by omega) (by omega) v3
       split
       ·rename_i e5
        exact Jj ⟨z,.inl ⟨_,rfl,hm6.fb ha hb (by simpa using e5) hl⟩⟩
       ·rename_i e5
        split
        ·rename_i e7
         exact Jj ⟨z,.inl ⟨_,rfl,hm6.dn ha hb (.inr (by simpa using e7))⟩⟩
        ·rename_i e7
         simp at e5 e7
         have hq6:∀ t,t < u->t < b.size->K b t<=K a (i3 - 1):=λt h1 _=>v2 t h1
         refine Je (aZ (by omega) ?_)
         have m6:=Mt.pushA (i:=i3 - 1) ha hb (by rw [show i3 - 1 + 1=i3 by omega]; exact hm6) (by omega) hq6
         split
         ·rename_i e6
          exact Jj ⟨z,.inl ⟨_,rfl,m6.dn ha hb (.inl (by simpa using e6))⟩⟩
         ·rename_i e6
          simp at e6
          split
          ·exact Jj ⟨z,.inr ⟨_,_,_,_,_,_,rfl,⟨m6,by omega,by omega,by omega,by omega⟩,by omega⟩⟩
          ·exact Jj ⟨z,_,_,_,_,_,_,rfl,⟨m6,by omega,by omega,by omega,by omega⟩,by omega⟩
      ·rw [Jc hu]
       have hu0:u=j2 - 1:=by omega
       have hm6:=m4
       have hq6:∀ t,t < j2 - 1->t < b.size->K b t<=K a (i3 - 1):=λt h1 _=>v2 t (by omega)
       refine Je (aZ (by omega) ?_)
       have m6:=Mt.pushA (i:=i3 - 1) ha hb (by rw [show i3 - 1 + 1=i3 by omega]; exact hm6) (by omega) hq6
       split
       ·rename_i e6
        exact Jj ⟨z,.inl ⟨_,rfl,m6.dn ha hb (.inl (by simpa using e6))⟩⟩
       ·rename_i e6
        simp at e6
        split
        ·exact Jj ⟨z,.inr ⟨_,_,_,_,_,_,rfl,⟨m6,by omega,by omega,by omega,by omega⟩,by omega⟩⟩
        ·exact Jj ⟨z,_,_,_,_,_,_,rfl,⟨m6,by omega,by omega,by omega,by omega⟩,by omega⟩
end
structure SB (a0 A0:Array Keyed) (P:Array (Nat × Nat × Nat)) (lo:Nat) (st:SortSt):Prop where
 perm:(arrOf st).Perm a0
 kind:kindOf st=oneType'
 failed:failedOf st=none
 pend:pendingOf st=P
 low:∀ t,t < lo->K (arrOf st) t=K A0 t
theorem SB.size {a0 A0:Array Keyed} {P:Array (Nat × Nat × Nat)} (h:SB a0 A0 P lo st):(arrOf st).size=a0.size:=h.perm.size_eq
theorem vq (h:IK b) (p:a.Perm b):IK a:=λx hx=>h x ((Uc.mp p).mem_iff.mp hx)
theorem SB.arr {a0 A0:Array Keyed} {P:Array (Nat × Nat × Nat)} (h:SB a0 A0 P lo st) (p:xs.Perm (arrOf st)) (hl:∀ t,t < lo->K xs t=K (arrOf st) t):SB a0 A0 P lo (setArr st xs):=
 ⟨p.trans h.perm,h.kind,h.failed,h.pend,λt ht=>(hl t ht).trans (h.low t ht)⟩
section
variable {prog:Program} {w:World} {A:Around} {E:Value->Shared->Prop} {s:Shared} {a0 A0:Array Keyed} {P:Array (Nat × Nat × Nat)} {lo:Nat}
theorem mO (hB:SB a0 A0 P lo st) (h0:IK a0) (hi:i < a0.size) (hj:j < a0.size) (h:Q (some (decide (K (arrOf st) i < K (arrOf st) j))) st):wpS (model prog w) A E s (ltAt' i j) Q st:=by
 have h1:i < (arrOf st).size:=by rw [hB.size]; exact hi
 have h2:j < (arrOf st).size:=by rw [hB.size]; exact hj
 have ik:=vq h0 hB.perm
 rw [ltAt'_eq]
 refine Je (Wm ?_)
 refine Je (aZ h1 (Je (aZ h2 (rV hB.kind (ik.get h1) (ik.get h2) ?_))))
 rw [bQ h1,bQ h2] at h
 exact h
theorem gS {Q:Unit->SortSt->Prop} (hB:SB a0 A0 P lo st) (hi:lo<=i) (hj:j<=a0.size) (h:SB a0 A0 P lo (setArr st (mirror (arrOf st) i j ((j - i) / 2)))->Q () (setArr st (mirror (arrOf st) i j ((j - i) / 2)))):wpS (model prog w) A E s (reverseSlice' i j) Q st:=by
 rw [reverseSlice'_eq]
 refine Qv (h (hB.arr (mirror_perm _ _ _ _) λt ht=>?_))
 rw [K_mirror (by rw [hB.size]; exact hj),Jc (by omega)]
theorem Ba {ok:Nat} {Q:Bool->SortSt->Prop} (h0:IK a0) (hn:lo + n<=a0.size) (hB:SB a0 A0 P lo st) (hs:Up (arrOf st) lo (lo + ok)) (hok:ok<=n)
  (h:∀ st',SB a0 A0 P lo st'->Up (arrOf st') lo (lo + n)->Q true st'):wpS (model prog w) A E s (binarySort' lo n ok) Q st:=by
 rw [binarySort'_eq]
 refine Je (Zj (Yt (I:=λk c st'=>c=(none,())/\SB a0 A0 P lo st'/\Up (arrOf st') lo (lo + min k n))
  (Q:=λc st'=>c=(none,())/\SB a0 A0 P lo st'/\Up (arrOf st') lo (lo + n)) ?ste ?fi ⟨rfl,hB,?ini⟩) ?po)
 case ini=>
  intro i j h1 h2 h3
  by_cases z:ok=0
  ·have:i=j:=by omega
   subst this; exact Yo _
  ·exact hs i j h1 h2 (by omega)
 case po=>
  rintro c st' ⟨rfl,b1,b2⟩
  exact Jj (h st' b1 b2)
 case fi=>
  rintro c st' ⟨hc,b1,b2⟩
  rw [show min (max (max ok 1) n) n=n by omega] at b2
  exact ⟨hc,b1,b2⟩
 case ste=>
  rintro k c st' hak hkn ⟨rfl,b1,b2⟩
  rw [show min k n=k by omega] at b2
  refine Je (Zj (Yt (I:=λx c st2=>st2=st'/\∃ l r,c=(none,l,r)/\l<=r/\r<=k/\r - l<=k - x/\(∀ i,lo<=i->i < lo + l->K (arrOf st') i<=K (arrOf st') (lo + k))/\(∀ i,lo + r<=i->i < lo + k->K (arrOf st') (lo + k) < K (arrOf st') i))
   (Q:=λc st2=>st2=st'/\∃ l r,c=(none,l,r)/\l<=k/\(∀ i,lo<=i->i < lo + l->K (arrOf st') i<=K (arrOf st') (lo + k))/\(∀ i,lo + l<=i->i < lo + k->K (arrOf st') (lo + k) < K (arrOf st') i)) ?a ?b ⟨rfl,0,k,rfl,by omega,by omega,by omega,λi _ hi=>by omega,λi _ _=>by omega⟩) ?c)
  case b=>
   rintro c st2 ⟨rfl,l,r,rfl,c1,c2,c3,c4,c5⟩
   have:l=r:=by omega
   subst this
   exact ⟨rfl,l,l,rfl,c2,c4,c5⟩
  case a=>
   rintro x c st2 _ hx ⟨rfl,l,r,rfl,c1,c2,c3,c4,c5⟩
   dsimp only
   by_cases g:l >= r
   ·rw [J8 g]
    have:l=r:=by omega
    subst this
    exact Jj ⟨rfl,l,l,rfl,c2,c4,c5⟩
   ·rw [Jc g]
    refine Je (mO b1 h0 (by omega) (by omega) ?_)
    by_cases hl:K (arrOf st2) (lo + k) < K (arrOf st2) (lo + (l + r) / 2)
    ·simp only [hl,Qz,Yj]
     exact Jj ⟨rfl,l,(l + r) / 2,rfl,by omega,by omega,by omega,c4,λi h1 h2=>Int.lt_of_lt_of_le hl (b2 _ _ (by omega) h1 h2)⟩
    ·simp only [hl,Zv,Jx,Ys]
     exact Jj ⟨rfl,(l + r) / 2 + 1,r,rfl,by omega,by omega,by omega,λi h1 h2=>Z7 (b2 i (lo + (l + r) / 2) h1 (by omega) (by omega)) (Uu.mp hl),c5⟩
  case c=>
   rintro c st2 ⟨rfl,l,r,rfl,c2,c4,c5⟩
   show wpS _ _ _ _ (do moveDown' (lo + k) (lo + l); pure (ForInStep.yield (none,()))) _ _
   rw [moveDown'_eq]
   have hks:lo + k < (arrOf st2).size:=by rw [b1.size]; omega
   have kb:=λt=>K_bubble (xs:=arrOf st2) (src:=lo + k) (d:=lo + k - (lo + l)) hks (by omega) t
   rw [show lo + k - (lo + k - (lo + l))=lo + l by omega] at kb
   refine Je (Qv (Jj ⟨rfl,b1.arr (bubble_perm _ _ _) λt ht=>?_,λi j h1 h2 h3=>?_⟩))
   ·rw [kb,Jc (by omega),Jc (by omega)]
   ·rw [show min (k + 1) n=k + 1 by omega] at h3
    show K (bubble _ _ _) i<=K (bubble _ _ _) j
    rw [kb,kb]
    repeat' split
    all_goals first
     | (exfalso; omega)
     | exact Yo _
     | exact c4 _ (by omega) (by omega)
     | exact Yz (c5 _ (by omega) (by omega))
     | exact b2 _ _ (by omega) (by omega) (by omega)
end
theorem mir (hj:j<=xs.size) (h:∀ k,i<=k->k < j->K xs k=K xs (j - 1)) (k:Nat):K (mirror xs i j ((j - i) / 2)) k=K xs k:=by
 rw [K_mirror hj]
 split
 ·rw [h _ (by omega) (by omega),h k (by omega) (by omega)]
 ·rfl
section
variable {prog:Program} {w:World} {A:Around} {E:Value->Shared->Prop} {s:Shared} {a0 A0:Array Keyed} {P:Array (Nat × Nat × Nat)} {lo:Nat}
noncomputable abbrev AS:=Option (Option Nat) × Nat
theorem mP {a nrem:Nat} {f:Nat->AS->SM (ForInStep AS)} {Q:AS->SortSt->Prop} (h0:IK a0) (hn:lo + nrem<=a0.size) (ha:1<=a) (han:a<=nrem) (hB:SB a0 A0 P lo st) (hs:Up (arrOf st) lo (lo + a))
  (hf:∀ x n (R:ForInStep AS->SortSt->Prop),wpS (model prog w) A E s (ltAt' (lo + n) (lo + n - 1)) (λr st'=>∃ b,r=some b/\R (if b=true then .done (none,n) else .yield (none,n + 1)) st') st->wpS (model prog w) A E s (f x (none,n)) R st)
  (h:∀ n,a<=n->n<=nrem->Up (arrOf st) lo (lo + n)->(n=nrem \/ K (arrOf st) (lo + n) < K (arrOf st) (lo + n - 1))->Q (none,n) st):wpS (model prog w) A E s (forIn [a:nrem] ((none,a):AS) f) Q st:=by
 refine Yt (I:=λx c st'=>st'=st/\c=(none,x)/\Up (arrOf st) lo (lo + x)) ?a ?b ⟨rfl,rfl,hs⟩
 case b=>
  rintro c st' ⟨rfl,rfl,b1⟩
  rw [show max a nrem=nrem by omega] at b1 ⊢
  exact h nrem han (Jb _) b1 (.inl rfl)
 case a=>
  rintro x c st' h1 h2 ⟨rfl,rfl,b1⟩
  refine hf _ _ _ (mO hB h0 (by omega) (by omega) ⟨_,rfl,?_⟩)
  by_cases hl:K (arrOf st') (lo + x) < K (arrOf st') (lo + x - 1)
  ·simp only [hl,Qz,Yj]
   exact h x h1 (by omega) b1 (.inr hl)
  ·simp only [hl,Zv,Jx,Ys]
   refine ⟨trivial,trivial,λi j i1 i2 i3=>?_⟩
   by_cases hj:j < lo + x
   ·exact b1 i j i1 i2 hj
   ·have hj':j=lo + x:=by omega
    subst hj'
    by_cases e:i=lo + x
    ·subst e; exact Yo _
    ·exact Z7 (b1 i (lo + x - 1) i1 (by omega) (by omega)) (Uu.mp hl)
set_option maxHeartbeats 2000000 in
theorem DD {nrem:Nat} {Q:Option Nat->SortSt->Prop} (h0:IK a0) (hn:lo + nrem<=a0.size) (h1:1<=nrem) (hB:SB a0 A0 P lo st)
  (h:∀ m st',SB a0 A0 P lo st'->1<=m->m<=nrem->Up (arrOf st') lo (lo + m)->Q (some m) st'):wpS (model prog w) A E s (countRun' lo nrem) Q st:=by
 rw [countRun'_eq]
 dsimp only
 refine Je (mP h0 hn (Jb 1) h1 hB (λi j i1 i2 i3=>by rw [show i=j by omega]; exact Yo _) ?hf λn n1 n2 u ho=>?_)
 case hf=>
  intro x n R hR
  dsimp only
  refine Je (Zj hR ?_)
  rintro r st' ⟨b,rfl,hb⟩
  cases b
  ·exact Jj hb
  ·exact Jj hb
 dsimp only
 by_cases e:n=nrem
 ·rw [J8 (by simpa using e)]
  exact Jj (h n st hB n1 n2 u)
 rw [Jc (by simpa using e)]
 have hlt:K (arrOf st) (lo + n) < K (arrOf st) (lo + n - 1):=ho.resolve_left e
 by_cases g:n > 1
 ·rw [J8 g]
  refine Je (mO hB h0 (by omega) (by omega) ?_)
  by_cases hr:K (arrOf st) lo < K (arrOf st) (lo + n - 1)
  ·simp only [hr,Qz,Yj]
   exact Jj (h n st hB n1 n2 u)
  ·simp only [hr,Zv,Jx,Ys]
   have hsz:lo + n<=(arrOf st).size:=by rw [hB.size]; omega
   have all:∀ k,lo<=k->k < lo + n->K (arrOf st) k=K (arrOf st) (lo + n - 1):=λk k1 k2=>by
    have a1:=u lo k (Jb _) k1 k2
    have a2:=u k (lo + n - 1) k1 (by omega) (by omega)
    omega
   refine Je (gS hB (Jb _) (by omega) λhB1=>?_)
   have hD1:Dn (mirror (arrOf st) lo (lo + n) ((lo + n - lo) / 2)) lo (lo + (n + 1)):=λi j i1 i2 i3=>by
    rw [mir hsz all,mir hsz all]
    by_cases hj:j < lo + n
    ·rw [all i i1 (by omega),all j (by omega) hj]; exact Yo _
    ·have hj':j=lo + n:=by omega
     subst hj'
     by_cases e:i=lo + n
     ·subst e; exact Yo _
     ·rw [all i i1 (by omega)]; exact Yz hlt
   refine Je (Vg (Z0 ⟨rfl,?_⟩))
   refine Je (Zj (Yt (I:=λx c st'=>∃ neq,c=(none,x,neq)/\SB a0 A0 P lo st'/\Dn (arrOf st') lo (lo + x)/\neq + 1<=x/\(∀ i,lo + x - (neq + 1)<=i->i < lo + x->K (arrOf st') i=K (arrOf st') (lo + x - 1)))
    (Q:=λc st'=>∃ m neq,c=(none,m,neq)/\n + 1<=m/\m<=nrem/\SB a0 A0 P lo st'/\Dn (arrOf st') lo (lo + m)/\neq + 1<=m/\(∀ i,lo + m - (neq + 1)<=i->i < lo + m->K (arrOf st') i=K (arrOf st') (lo + m - 1))) ?a ?b ⟨0,rfl,hB1,hD1,by omega,λi i1 i2=>by congr 1; omega⟩) ?c)
   case b=>
    rintro c st' ⟨neq,rfl,b1,b2,b3,b4⟩
    rw [show max (n + 1) nrem=nrem by omega] at b2 b3 b4 ⊢
    exact ⟨nrem,neq,rfl,by omega,Jb _,b1,b2,b3,b4⟩
   case a=>
    rintro x c st' x1 x2 ⟨neq,rfl,b1,b2,b3,b4⟩
    dsimp only
    have hsz:lo + x<=(arrOf st').size:=by rw [b1.size]; omega
    refine Je (mO b1 h0 (by omega) (by omega) ?_)
    have more:∀ xs:Array Keyed,(∀ k,K xs k=K (arrOf st') k)->K (arrOf st') (lo + x)<=K (arrOf st') (lo + x - 1)->Dn xs lo (lo + (x + 1)):=by
     intro xs hk hle i j i1 i2 i3
     rw [hk,hk]
     by_cases hj:j < lo + x
     ·exact b2 i j i1 i2 hj
     ·have hj':j=lo + x:=by omega
      subst hj'
      by_cases e:i=lo + x
      ·subst e; exact Yo _
      ·exact Z7 hle (b2 i (lo + x - 1) i1 (by omega) (by omega))
    by_cases hl:K (arrOf st') (lo + x) < K (arrOf st') (lo + x - 1)
    ·simp only [hl,Qz,Yj]
     by_cases hq:neq > 0
     ·rw [J8 hq]
      refine Je (gS b1 (by omega) (by omega) λb9=>Jj ⟨0,rfl,b9,more _ (mir hsz b4) (Yz hl),by omega,λi i1 i2=>by congr 1; omega⟩)
     ·rw [Jc hq]
      exact Jj ⟨0,rfl,b1,more _ (λ_=>rfl) (Yz hl),by omega,λi i1 i2=>by congr 1; omega⟩
    ·simp only [hl,Zv,Jx,Ys]
     refine Je (mO b1 h0 (by omega) (by omega) ?_)
     by_cases hg:K (arrOf st') (lo + x - 1) < K (arrOf st') (lo + x)
     ·simp only [hg,Qz,Yj]
      exact Jj ⟨x,neq,rfl,x1,by omega,b1,b2,b3,b4⟩
     ·simp only [hg,Zv,Jx,Ys]
      have he:K (arrOf st') (lo + x)=K (arrOf st') (lo + x - 1):=by omega
      refine Jj ⟨neq + 1,rfl,b1,more _ (λ_=>rfl) (by omega),by omega,λi i1 i2=>?_⟩
      rw [show lo + (x + 1) - 1=lo + x by omega]
      by_cases e:i=lo + x
      ·subst e; rfl
      ·rw [he]; exact b4 i (by omega) (by omega)
   case c=>
    rintro c st' ⟨m,neq,rfl,m1,m2,b1,b2,b3,b4⟩
    dsimp only
    have hsz:lo + m<=(arrOf st').size:=by rw [b1.size]; omega
    have last:∀ st2,SB a0 A0 P lo st2->Dn (arrOf st2) lo (lo + m)->Up (mirror (arrOf st2) lo (lo + m) ((lo + m - lo) / 2)) lo (lo + m):=λst2 c1 c2 i j i1 i2 i3=>by
     rw [K_mirror (by rw [c1.size]; omega),K_mirror (by rw [c1.size]; omega),J8 (by omega),J8 (by omega)]
     exact c2 _ _ (by omega) (by omega) (by omega)
    by_cases hq:neq > 0
    ·rw [J8 hq]
     refine Je (gS b1 (by omega) (by omega) λb9=>?_)
     have d9:Dn (mirror (arrOf st') (lo + m - (neq + 1)) (lo + m) ((lo + m - (lo + m - (neq + 1))) / 2)) lo (lo + m):=λi j i1 i2 i3=>by
      rw [mir hsz b4,mir hsz b4]; exact b2 i j i1 i2 i3
     refine Je (gS b9 (Jb _) (by omega) λb8=>?_)
     refine Je (mP h0 hn (by omega) m2 b8 (last _ b9 d9) ?_ λn2 n1 n3 u _=>Jj (h n2 _ b8 (by omega) n3 u))
     intro x n R hR
     dsimp only
     refine Je (Zj hR ?_)
     rintro r st' ⟨b,rfl,hb⟩
     cases b
     ·exact Jj hb
     ·exact Jj hb
    ·rw [Jc hq]
     refine Je (gS b1 (Jb _) (by omega) λb8=>?_)
     refine Je (mP h0 hn (by omega) m2 b8 (last _ b1 b2) ?_ λn2 n1 n3 u _=>Jj (h n2 _ b8 (by omega) n3 u))
     intro x n R hR
     dsimp only
     refine Je (Zj hR ?_)
     rintro r st' ⟨b,rfl,hb⟩
     cases b
     ·exact Jj hb
     ·exact Jj hb
 ·rw [Jc g]
  have hn1:n=1:=by omega
  have hB1:=hB
  have hD1:Dn (arrOf st) lo (lo + (n + 1)):=λi j i1 i2 i3=>by
   by_cases e:i=j
   ·subst e; exact Yo _
   ·have e1:i=lo + n - 1:=by omega
    have e2:j=lo + n:=by omega
    rw [e1,e2]
    exact Yz hlt
  refine Je (Vg (Z0 ⟨rfl,?_⟩))
  refine Je (Zj (Yt (I:=λx c st'=>∃ neq,c=(none,x,neq)/\SB a0 A0 P lo st'/\Dn (arrOf st') lo (lo + x)/\neq + 1<=x/\(∀ i,lo + x - (neq + 1)<=i->i < lo + x->K (arrOf st') i=K (arrOf st') (lo + x - 1)))
   (Q:=λc st'=>∃ m neq,c=(none,m,neq)/\n + 1<=m/\m<=nrem/\SB a0 A0 P lo st'/\Dn (arrOf st') lo (lo + m)/\neq + 1<=m/\(∀ i,lo + m - (neq + 1)<=i->i < lo + m->K (arrOf st') i=K (arrOf st') (lo + m - 1))) ?a ?b ⟨0,rfl,hB1,hD1,by omega,λi i1 i2=>by congr 1; omega⟩) ?c)
  case b=>
   rintro c st' ⟨neq,rfl,b1,b2,b3,b4⟩
   rw [show max (n + 1) nrem=nrem by omega] at b2 b3 b4 ⊢
   exact ⟨nrem,neq,rfl,by omega,Jb _,b1,b2,b3,b4⟩
  case a=>
   rintro x c st' x1 x2 ⟨neq,rfl,b1,b2,b3,b4⟩
   dsimp only
   have hsz:lo + x<=(arrOf st').size:=by rw [b1.size]; omega
   refine Je (mO b1 h0 (by omega) (by omega) ?_)
   have more:∀ xs:Array Keyed,(∀ k,K xs k=K (arrOf st') k)->K (arrOf st') (lo + x)<=K (arrOf st') (lo + x - 1)->Dn xs lo (lo + (x + 1)):=by
    intro xs hk hle i j i1 i2 i3
    rw [hk,hk]
    by_cases hj:j < lo + x
    ·exact b2 i j i1 i2 hj
    ·have hj':j=lo + x:=by omega
     subst hj'
     by_cases e:i=lo + x
     ·subst e; exact Yo _
     ·exact Z7 hle (b2 i (lo + x - 1) i1 (by omega) (by omega))
   by_cases hl:K (arrOf st') (lo + x) < K (arrOf st') (lo + x - 1)
   ·simp only [hl,Qz,Yj]
    by_cases hq:neq > 0
    ·rw [J8 hq]
     refine Je (gS b1 (by omega) (by omega) λb9=>Jj ⟨0,rfl,b9,more _ (mir hsz b4) (Yz hl),by omega,λi i1 i2=>by congr 1; omega⟩)
    ·rw [Jc hq]
     exact Jj ⟨0,rfl,b1,more _ (λ_=>rfl) (Yz hl),by omega,λi i1 i2=>by congr 1; omega⟩
   ·simp only [hl,Zv,Jx,Ys]
    refine Je (mO b1 h0 (by omega) (by omega) ?_)
    by_cases hg:K (arrOf st') (lo + x - 1) < K (arrOf st') (lo + x)
    ·simp only [hg,Qz,Yj]
     exact Jj ⟨x,neq,rfl,x1,by omega,b1,b2,b3,b4⟩
    ·simp only [hg,Zv,Jx,Ys]
     have he:K (arrOf st') (lo + x)=K (arrOf st') (lo + x - 1):=by omega
     refine Jj ⟨neq + 1,rfl,b1,more _ (λ_=>rfl) (by omega),by omega,λi i1 i2=>?_⟩
     rw [show lo + (x + 1) - 1=lo + x by omega]
     by_cases e:i=lo + x
     ·subst e; rfl
     ·rw [he]; exact b4 i (by omega) (by omega)
  case c=>
   rintro c st' ⟨m,neq,rfl,m1,m2,b1,b2,b3,b4⟩
   dsimp only
   have hsz:lo + m<=(arrOf st').size:=by rw [b1.size]; omega
   have last:∀ st2,SB a0 A0 P lo st2->Dn (arrOf st2) lo (lo + m)->Up (mirror (arrOf st2) lo (lo + m) ((lo + m - lo) / 2)) lo (lo + m):=λst2 c1 c2 i j i1 i2 i3=>by
    rw [K_mirror (by rw [c1.size]; omega),K_mirror (by rw [c1.size]; omega),J8 (by omega),J8 (by omega)]
    exact c2 _ _ (by omega) (by omega) (by omega)
   by_cases hq:neq > 0
   ·rw [J8 hq]
    refine Je (gS b1 (by omega) (by omega) λb9=>?_)
    have d9:Dn (mirror (arrOf st') (lo + m - (neq + 1)) (lo + m) ((lo + m - (lo + m - (neq + 1))) / 2)) lo (lo + m):=λi j i1 i2 i3=>by
     rw [mir hsz b4,mir hsz b4]; exact b2 i j i1 i2 i3
    refine Je (gS b9 (Jb _) (by omega) λb8=>?_)
    refine Je (mP h0 hn (by omega) m2 b8 (last _ b9 d9) ?_ λn2 n1 n3 u _=>Jj (h n2 _ b8 (by omega) n3 u))
    intro x n R hR
    dsimp only
    refine Je (Zj hR ?_)
    rintro r st' ⟨b,rfl,hb⟩
    cases b
    ·exact Jj hb
    ·exact Jj hb
   ·rw [Jc hq]
    refine Je (gS b1 (Jb _) (by omega) λb8=>?_)
    refine Je (mP h0 hn (by omega) m2 b8 (last _ b1 b2) ?_ λn2 n1 n3 u _=>Jj (h n2 _ b8 (by omega) n3 u))
    intro x n R hR
    dsimp only
    refine Je (Zj hR ?_)
    rintro r st' ⟨b,rfl,hb⟩
    cases b
    ·exact Jj hb
    ·exact Jj hb
end
noncomputable def wr (xs:Array Keyed) (z:Nat) (l:List (Keyed × Nat)):Array Keyed:=l.foldl (λa (x:Keyed × Nat)=>match x with | (p,j)=>a.setIfInBounds (z + j) p) xs
theorem ub (z:Nat):∀ (m:List Keyed) (k:Nat) (xs:Array Keyed),z + k + m.length<=xs.size->∀ t,(wr xs z (m.zipIdx k))[t]?=if z + k<=t/\t < z + k + m.length then m[t - (z + k)]? else xs[t]?
 | [],k,xs,_,t=>by
  rw [Jc (by rw [Yg]; omega)]
  rfl
 | p :: m,k,xs,h,t=>by
  rw [Jm] at h
  show (wr (xs.setIfInBounds (z + k) p) z (m.zipIdx (k + 1)))[t]?=_
  rw [ub z m (k + 1) _ (by rw [Array.size_setIfInBounds]; omega),Jm,Array.getElem?_setIfInBounds]
  by_cases h1:z + (k + 1)<=t/\t < z + (k + 1) + m.length
  ·rw [J8 h1,J8 (by omega)]
   obtain ⟨d,hd⟩:∃ d,t - (z + k)=d + 1:=⟨t - (z + k) - 1,by omega⟩
   rw [hd,Yw]
   congr 1
   omega
  ·rw [Jc h1]
   by_cases h2:z + k=t
   ·rw [J8 h2,J8 (by omega),J8 (by omega)]
    rw [show t - (z + k)=0 by omega]
    rfl
   ·rw [Jc h2,Jc (by omega)]
theorem Bb {z:Nat} {m:List Keyed} (h:z + m.length<=xs.size):(wr xs z m.zipIdx).toList=xs.toList.take z ++ (m ++ xs.toList.drop (z + m.length)):=by
 refine List.ext_getElem? λt=>?_
 rw [Z8,ub z m 0 xs (by omega)]
 have hlt:(xs.toList.take z).length=z:=by rw [Q8]; simp; omega
 by_cases h1:t < z
 ·rw [Jc (by omega),Jq (by omega),List.getElem?_take_of_lt h1,Z8]
 ·rw [Y5 (by omega),hlt]
  by_cases h2:t < z + m.length
  ·rw [J8 (by omega),Jq (by omega)]
   rfl
  ·rw [Jc (by omega),Y5 (by omega),V4,Z8]
   congr 1
   omega
noncomputable def Ch (xs:Array Keyed):Nat->List (Nat × Nat × Nat)->Nat->Prop
 | z,[],y=>z=y
 | z,(s,n,_) :: r,y=>s=z/\1<=n/\Up xs z (z + n)/\Ch xs (z + n) r y
theorem Ch.le:∀ {l:List (Nat × Nat × Nat)} {z y:Nat},Ch xs z l y->z + l.length<=y
 | [],z,y,h=>by unfold Ch at h; simp; omega
 | (s,n,p) :: r,z,y,h=>by
  obtain ⟨_,h1,_,h2⟩:=h
  have:=h2.le
  rw [Jm]
  omega
theorem Ch.app:∀ {l r:List (Nat × Nat × Nat)} {z y:Nat},Ch xs z (l ++ r) y↔∃ m,Ch xs z l m/\Ch xs m r y
 | [],r,z,y=>⟨λh=>⟨z,rfl,h⟩,λ⟨m,h1,h2⟩=>by unfold Ch at h1; subst h1; exact h2⟩
 | (s,n,p) :: l,r,z,y=>by
  constructor
  ·rintro ⟨h1,h2,h3,h4⟩
   obtain ⟨m,h5,h6⟩:=Ch.app.mp h4
   exact ⟨m,⟨h1,h2,h3,h5⟩,h6⟩
  ·rintro ⟨m,⟨h1,h2,h3,h5⟩,h6⟩
   exact ⟨h1,h2,h3,Ch.app.mpr ⟨m,h5,h6⟩⟩
theorem Ch.like {ys:Array Keyed} :∀ {l:List (Nat × Nat × Nat)} {z y:Nat},Ch xs z l y->(∀ t,z<=t->t < y->K ys t=K xs t)->Ch ys z l y
 | [],z,y,h,_=>h
 | (s,n,p) :: r,z,y,⟨h1,h2,h3,h4⟩,hk=>by
  have:=h4.le
  refine ⟨h1,h2,λi j i1 i2 i3=>?_,h4.like λt t1 t2=>hk t (by omega) t2⟩
  rw [hk i i1 (by omega),hk j (by omega) (by omega)]
  exact h3 i j i1 i2 i3
theorem Ch.pow (f:Nat × Nat × Nat->Nat × Nat × Nat) (hf:∀ s n p,∃ q,f (s,n,p)=(s,n,q)):∀ {l:List (Nat × Nat × Nat)} {z y:Nat} (k:Nat),Ch xs z l y->Ch xs z (l.modify k f) y
 | [],z,y,k,h=>by simpa using h
 | (s,n,p) :: r,z,y,0,⟨h1,h2,h3,h4⟩=>by
  obtain ⟨q,e⟩:=hf s n p
  rw [List.modify_zero_cons,e]
  exact ⟨h1,h2,h3,h4⟩
 | (s,n,p) :: r,z,y,k + 1,⟨h1,h2,h3,h4⟩=>by
  rw [List.modify_succ_cons]
  exact ⟨h1,h2,h3,Ch.pow f hf k h4⟩
structure Bs (a0:Array Keyed) (st:SortSt):Prop where
 perm:(arrOf st).Perm a0
 kind:kindOf st=oneType'
 failed:failedOf st=none
theorem uc (i:Nat):mergeAt' i=(do
 let s <- get
 let (some (sa,na,pw),some (sb,nb,_)):=((pendingOf s)[i]?,(pendingOf s)[i + 1]?) | unsupported "internal:list.sort.pending"
 set (setPending s (((pendingOf s).setIfInBounds i (sa,na + nb,pw)).eraseIdxIfInBounds (i + 1)))
 let some k <- gal false (<- elem' (arrOf s) sb) (arrOf s) sa na 0 | return false
 let (sa,na):=(sa + k,na - k)
 if na == 0 then return true
 let some nb <- gal true (<- elem' (arrOf s) (sa + na - 1)) (arrOf s) sb nb (nb - 1) | return false
 if nb == 0 then return true
 let x:=(arrOf s).extract sa sb
 let y:=(arrOf s).extract sb (sb + nb)
 let m <- if na<=nb then mLo x y else mHi x y
 modify λs=>setArr s (m.toList.zipIdx.foldl (λa (p,j)=>a.setIfInBounds (sa + j) p) (arrOf s))
 return (failedOf (<- get)).isNone):=rfl
section
variable {prog:Program} {w:World} {A:Around} {E:Value->Shared->Prop} {s:Shared} {a0:Array Keyed}
theorem Bc {st1:SortSt} {Q:PUnit->SortSt->Prop} (h:Q ⟨⟩ st1):wpS (model prog w) A E s (set st1:StateT SortSt Sem PUnit) Q st:=by
 unfold wpS; rw [StateT.run_set]; exact Jd ⟨rfl,h⟩
theorem oA {t:Nat} (ht:i + t < j) (hj:j<=xs.size):K (xs.extract i j) t=K xs (i + t):=by
 unfold K
 rw [Array.getElem?_extract]
 rw [J8 (by omega)]
theorem qf (h:IK xs) (i j:Nat):IK (xs.extract i j):=λp hp=>h p (by
 rw [dX] at hp
 exact List.mem_of_mem_drop (List.mem_of_mem_take hp))
theorem yL (h:Up xs i j) (hj:j<=xs.size):Up (xs.extract i j) 0 (xs.extract i j).size:=by
 have hs:(xs.extract i j).size=j - i:=by rw [U6]; omega
 rw [hs]
 intro p q _ h2 h3
 rw [oA (by omega) hj,oA (by omega) hj]
 exact h _ _ (by omega) (by omega) (by omega)
theorem DE {sa na p sb nb q:Nat} {l1 l2:List (Nat × Nat × Nat)} {y:Nat} {Q:Bool->SortSt->Prop} (h0:IK a0) (hB:Bs a0 st) (hi:i=l1.length) (hP:(pendingOf st).toList=l1 ++ (sa,na,p) :: (sb,nb,q) :: l2) (hC:Ch (arrOf st) 0 (pendingOf st).toList y) (hy:y<=a0.size)
  (h:∀ st',Bs a0 st'->(pendingOf st').toList=l1 ++ (sa,na + nb,p) :: l2->Ch (arrOf st') 0 (pendingOf st').toList y->(∀ t,y<=t->K (arrOf st') t=K (arrOf st) t)->Q true st'):wpS (model prog w) A E s (mergeAt' i) Q st:=by
 have hsz:(arrOf st).size=a0.size:=hB.perm.size_eq
 have ik:=vq h0 hB.perm
 rw [hP] at hC
 obtain ⟨z,c1,e1,n1,u1,e2,n2,u2,c2⟩:=Ch.app.mp hC
 subst e1 e2
 have c2l:=c2.le
 have g1:(pendingOf st)[i]?=some (sa,na,p):=by rw [<- Z8,hP,hi]; simp
 have g2:(pendingOf st)[i + 1]?=some (sa + na,nb,q):=by rw [<- Z8,hP,hi,Y5 (by omega)]; simp
 have hP2:(((pendingOf st).setIfInBounds i (sa,na + nb,p)).eraseIdxIfInBounds (i + 1)).toList=l1 ++ (sa,na + nb,p) :: l2:=by
  have hl:i + 1 < (pendingOf st).size:=by rw [<- Y1,hP,hi,Jo,Jm,Jm]; omega
  rw [Array.eraseIdxIfInBounds,dif_pos (by rw [Array.size_setIfInBounds]; exact hl),Array.toList_eraseIdx,Array.toList_setIfInBounds,hP,hi]
  rw [Wn _ _ (Jb _),List.eraseIdx_append_of_length_le (by omega)]
  simp
 rw [uc]
 refine Je (Wm ?_)
 rw [g1,g2]
 dsimp only
 refine Je (Bc ?_)
 have hsb:sa + na < (arrOf st).size:=by omega
 refine Je (aZ hsb ?_)
 refine Je (jz hB.kind ik (ik.get hsb) (by omega) (by omega) u1 λk k1 k2 k3=>?_)
 dsimp only
 have q2:∀ t,sa<=t->t < sa + k->K (arrOf st) t<=K (arrOf st) (sa + na):=λt t1 t2=>by
  have:=k2 (t - sa) (by omega)
  rw [show sa + (t - sa)=t by omega] at this
  rw [bQ hsb]
  simpa [bef] using this
 have q3:∀ t,sa + k<=t->t < sa + na->K (arrOf st) (sa + na)<=K (arrOf st) t:=λt t1 t2=>by
  have:=k3 (t - sa) (by omega) (by omega)
  rw [show sa + (t - sa)=t by omega] at this
  rw [bQ hsb]
  exact Yz (by simpa [bef] using this)
 -- when nothing is to be moved
 have still:Up (arrOf st) sa (sa + (na + nb))->Q true (setPending st (((pendingOf st).setIfInBounds i (sa,na + nb,p)).eraseIdxIfInBounds (i + 1))):=λhu=>by
  refine h _ ⟨hB.perm,hB.kind,hB.failed⟩ hP2 ?_ λt _=>rfl
  show Ch (arrOf st) 0 (((pendingOf st).setIfInBounds i (sa,na + nb,p)).eraseIdxIfInBounds (i + 1)).toList y
  rw [hP2]
  exact Ch.app.mpr ⟨sa,c1,rfl,by omega,hu,by rw [<- Nat.add_assoc]; exact c2⟩
 by_cases e1:na - k=0
 ·rw [J8 (by simpa using e1)]
  refine Jj (still λi j i1 i2 i3=>?_)
  by_cases hj:j < sa + na
  ·exact u1 i j i1 i2 hj
  ·by_cases hi':i < sa + na
   ·exact Z7 (q2 i i1 (by omega)) (u2 (sa + na) j (Jb _) (by omega) (by omega))
   ·exact u2 i j (by omega) i2 (by omega)
 rw [Jc (by simpa using e1)]
 have hla:sa + k + (na - k) - 1 < (arrOf st).size:=by omega
 refine Je (aZ hla ?_)
 refine Je (jz hB.kind ik (ik.get hla) (by omega) (by omega) u2 λm m1 m2 m3=>?_)
 dsimp only
 have v2:∀ t,sa + na<=t->t < sa + na + m->K (arrOf st) t<=K (arrOf st) (sa + na - 1):=λt t1 t2=>by
  have:=m2 (t - (sa + na)) (by omega)
  rw [show sa + na + (t - (sa + na))=t by omega] at this
  have e:sa + na - 1=sa + k + (na - k) - 1:=by omega
  rw [e,bQ hla]
  exact Yz (by simpa [bef] using this)
 have v3:∀ t,sa + na + m<=t->t < sa + na + nb->K (arrOf st) (sa + na - 1)<=K (arrOf st) t:=λt t1 t2=>by
  have:=m3 (t - (sa + na)) (by omega) (by omega)
  rw [show sa + na + (t - (sa + na))=t by omega] at this
  have e:sa + na - 1=sa + k + (na - k) - 1:=by omega
  rw [e,bQ hla]
  simpa [bef] using this
 by_cases e2:m=0
 ·rw [J8 (by simpa using e2)]
  refine Jj (still λi j i1 i2 i3=>?_)
  by_cases hj:j < sa + na
  ·exact u1 i j i1 i2 hj
  ·by_cases hi':i < sa + na
   ·exact Z7 (u1 i (sa + na - 1) i1 (by omega) (by omega)) (v3 j (by omega) (by omega))
   ·exact u2 i j (by omega) i2 (by omega)
 rw [Jc (by simpa using e2)]
 have sx:((arrOf st).extract (sa + k) (sa + na)).size=na - k:=by rw [U6]; omega
 have sy:((arrOf st).extract (sa + na) (sa + na + m)).size=m:=by rw [U6]; omega
 have ux:Up ((arrOf st).extract (sa + k) (sa + na)) 0 ((arrOf st).extract (sa + k) (sa + na)).size:=yL (λi j i1 i2 i3=>u1 i j (by omega) i2 i3) (by omega)
 have uy:Up ((arrOf st).extract (sa + na) (sa + na + m)) 0 ((arrOf st).extract (sa + na) (sa + na + m)).size:=yL (λi j i1 i2 i3=>u2 i j i1 i2 (by omega)) (by omega)
 have hlast:∀ t,t < ((arrOf st).extract (sa + na) (sa + na + m)).size->K ((arrOf st).extract (sa + na) (sa + na + m)) t<=K ((arrOf st).extract (sa + k) (sa + na)) (((arrOf st).extract (sa + k) (sa + na)).size - 1):=λt ht=>by
  rw [sy] at ht
  rw [sx,oA (by omega) (by omega),oA (by omega) (by omega),show sa + k + (na - k - 1)=sa + na - 1 by omega]
  exact v2 _ (by omega) (by omega)
 have hfirst:∀ t,t < ((arrOf st).extract (sa + k) (sa + na)).size->K ((arrOf st).extract (sa + na) (sa + na + m)) 0<=K ((arrOf st).extract (sa + k) (sa + na)) t:=λt ht=>by
  rw [sx] at ht
  rw [oA (by omega) (by omega),oA (by omega) (by omega),Nat.add_zero]
  exact q3 _ (by omega) (by omega)
 have fin:∀ (r:Array Keyed) (st':SortSt),Good ((arrOf st).extract (sa + k) (sa + na)) ((arrOf st).extract (sa + na) (sa + na + m)) r->Sg (setPending st (((pendingOf st).setIfInBounds i (sa,na + nb,p)).eraseIdxIfInBounds (i + 1))) st'->
   Q true (setArr st' (wr (arrOf st') (sa + k) r.toList.zipIdx)):=by
  rintro r st' ⟨g1,g2⟩ ⟨s1,s2,s3,s4⟩
  have s2:arrOf st'=arrOf st:=s2
  have rl:r.toList.length=na - k + m:=by rw [g1.length_eq,Jo,Y1,Y1,sx,sy]
  have hw:sa + k + r.toList.length<=(arrOf st).size:=by omega
  have hxy:((arrOf st).extract (sa + k) (sa + na)).toList ++ ((arrOf st).extract (sa + na) (sa + na + m)).toList=((arrOf st).toList.drop (sa + k)).take (na - k + m):=by
   rw [dX,dX,show sa + na - (sa + k)=na - k by omega,show sa + na + m - (sa + na)=m by omega,List.take_add,U1,show sa + k + (na - k)=sa + na by omega]
  rw [hxy] at g1
  have hk:∀ t,K (wr (arrOf st) (sa + k) r.toList.zipIdx) t=if sa + k<=t/\t < sa + na + m then K r (t - (sa + k)) else K (arrOf st) t:=λt=>by
   have e:=ub (sa + k) r.toList 0 (arrOf st) (by omega) t
   rw [rl] at e
   by_cases ht:sa + k<=t/\t < sa + na + m
   ·rw [J8 ht]
    rw [J8 (by omega),Z8] at e
    exact K_congr e
   ·rw [Jc ht]
    rw [Jc (by omega)] at e
    exact K_congr e
  have hfrom:∀ t,sa + k<=t->t < sa + na + m->∃ u,sa + k<=u/\u < sa + na + m/\K r (t - (sa + k))=K (arrOf st) u:=λt t1 t2=>by
   have ht:t - (sa + k) < r.size:=by rw [<- Y1,rl]; omega
   obtain ⟨u,hu1,hu2,hu3⟩:=iW (g1.mem_iff.mp (by simp:r[t - (sa + k)] ∈ r.toList))
   exact ⟨sa + k + u,by omega,by omega,by rw [bQ ht]; exact hu3⟩
  have ur:=E5 g2
  have rs:r.size=na - k + m:=by rw [<- Y1,rl]
  have wu:Up (wr (arrOf st) (sa + k) r.toList.zipIdx) sa (sa + (na + nb)):=by
   intro i j i1 i2 i3
   rw [hk,hk]
   have low:∀ a u,sa<=a->a < sa + k->sa + k<=u->u < sa + na + nb->K (arrOf st) a<=K (arrOf st) u:=λa u a1 a2 u3 u4=>by
    by_cases hu:u < sa + na
    ·exact u1 a u a1 (by omega) hu
    ·exact Z7 (q2 a a1 a2) (u2 _ _ (Jb _) (by omega) u4)
   have high:∀ a u,sa + k<=a->a < sa + na + m->sa + na + m<=u->u < sa + na + nb->K (arrOf st) a<=K (arrOf st) u:=λa u a1 a2 u3 u4=>by
    by_cases ha:a < sa + na
    ·exact Z7 (u1 a (sa + na - 1) (by omega) (by omega) (by omega)) (v3 u u3 u4)
    ·exact u2 a u (by omega) (by omega) u4
   by_cases hi1:sa + k<=i/\i < sa + na + m
   ·rw [J8 hi1]
    by_cases hj1:sa + k<=j/\j < sa + na + m
    ·rw [J8 hj1]
     exact ur _ _ (Y3 _) (by omega) (by omega)
    ·rw [Jc hj1]
     obtain ⟨u,w1,w2,w3⟩:=hfrom i hi1.1 hi1.2
     rw [w3]
     exact high u j w1 w2 (by omega) (by omega)
   ·rw [Jc hi1]
    by_cases hj1:sa + k<=j/\j < sa + na + m
    ·rw [J8 hj1]
     obtain ⟨u,w1,w2,w3⟩:=hfrom j hj1.1 hj1.2
     rw [w3]
     exact low i u i1 (by omega) w1 (by omega)
    ·rw [Jc hj1]
     by_cases hil:i < sa + k
     ·by_cases hjl:j < sa + na
      ·exact u1 i j i1 i2 hjl
      ·exact low i j i1 hil (by omega) (by omega)
     ·exact u2 i j (by omega) i2 (by omega)
  have wp:(wr (arrOf st) (sa + k) r.toList.zipIdx).Perm a0:=by
   refine Array.Perm.trans (Uc.mpr ?_) hB.perm
   rw [Bb hw,rl]
   refine List.Perm.trans ((g1.append_right _).append_left _) ?_
   rw [show (arrOf st).toList.drop (sa + k + (na - k + m))=((arrOf st).toList.drop (sa + k)).drop (na - k + m) by rw [U1],Qb,Qb]
  rw [s2]
  refine h _ ⟨wp,s1.trans hB.kind,s4.trans hB.failed⟩ (by show (pendingOf st').toList=_; rw [s3]; exact hP2) ?_ λt ht=>?_
  ·show Ch (wr (arrOf st) (sa + k) r.toList.zipIdx) 0 (pendingOf st').toList y
   rw [s3]
   show Ch _ 0 (((pendingOf st).setIfInBounds i (sa,na + nb,p)).eraseIdxIfInBounds (i + 1)).toList y
   rw [hP2]
   refine Ch.app.mpr ⟨sa,c1.like λt t1 t2=>?_,rfl,by omega,wu,?_⟩
   ·rw [hk,Jc (by omega)]
   ·rw [<- Nat.add_assoc]
    exact c2.like λt t1 t2=>by rw [hk,Jc (by omega)]
  ·show K (wr (arrOf st) (sa + k) r.toList.zipIdx) t=_
   rw [hk,Jc (by omega)]
 have endS:∀ (r:Array Keyed) (st':SortSt),Good ((arrOf st).extract (sa + k) (sa + na)) ((arrOf st).extract (sa + na) (sa + na + m)) r->Sg (setPending st (((pendingOf st).setIfInBounds i (sa,na + nb,p)).eraseIdxIfInBounds (i + 1))) st'->
   wpS (model prog w) A E s (do
    modify λs=>setArr s (r.toList.zipIdx.foldl (λa (p,j)=>a.setIfInBounds (sa + k + j) p) (arrOf s))
    return (failedOf (<- get)).isNone) Q st':=λr st' g z=>by
  refine Je (Qv (Je (Wm (Jj ?_))))
  have hf:failedOf st'=none:=z.2.2.2.trans hB.failed
  show Q (failedOf st').isNone (setArr st' (wr (arrOf st') (sa + k) r.toList.zipIdx))
  rw [hf]
  exact fin r st' g z
 by_cases hc:na - k<=m
 ·rw [J8 hc]
  exact Je (DA hB.kind (qf ik _ _) (qf ik _ _) ux uy (by omega) (by omega) (hfirst 0 (by omega)) hlast λr st' g z=>endS r st' g z)
 ·rw [Jc hc]
  exact Je (DC hB.kind (qf ik _ _) (qf ik _ _) ux uy (by omega) (by omega) hfirst hlast λr st' g z=>endS r st' g z)
end
section
variable {prog:Program} {w:World} {A:Around} {E:Value->Shared->Prop} {s:Shared} {a0:Array Keyed}
structure Al (a0:Array Keyed) (y:Nat) (st:SortSt):Prop where
 bs:Bs a0 st
 ch:Ch (arrOf st) 0 (pendingOf st).toList y
theorem DF [Decidable c] (h:2<=n):(if c then n - 2 - 1 else n - 2) + 1 < n:=by split <;> omega
theorem DG {l:List (Nat × Nat × Nat)} (h:i + 1 < l.length):∃ l1 sa na p sb nb q l2,l=l1 ++ (sa,na,p) :: (sb,nb,q) :: l2/\i=l1.length:=by
 refine ⟨l.take i,l[i].1,l[i].2.1,l[i].2.2,l[i + 1].1,l[i + 1].2.1,l[i + 1].2.2,l.drop (i + 2),?_,by rw [Q8]; omega⟩
 have e1:l.drop i=l[i] :: l.drop (i + 1):=Qc (by omega)
 have e2:l.drop (i + 1)=l[i + 1] :: l.drop (i + 2):=Qc h
 have e3:=Qb i l
 rw [e1,e2] at e3
 exact e3.symm
theorem yM {y:Nat} {Q:Bool->SortSt->Prop} (h0:IK a0) (h1:Al a0 y st) (hy:y<=a0.size) (hi:i + 1 < (pendingOf st).size)
  (h:∀ st',Al a0 y st'->(pendingOf st').size + 1=(pendingOf st).size->(∀ t,y<=t->K (arrOf st') t=K (arrOf st) t)->Q true st'):wpS (model prog w) A E s (mergeAt' i) Q st:=by
 rw [<- Y1] at hi
 obtain ⟨l1,sa,na,p,sb,nb,q,l2,e,el⟩:=DG hi
 refine DE h0 h1.bs el e h1.ch hy λst' b1 b2 b3 b4=>h st' ⟨b1,b3⟩ ?_ b4
 rw [<- Y1,<- Y1,b2,e]
 simp [Nat.add_assoc]
set_option maxHeartbeats 2000000 in
theorem DH {Q:Unit->SortSt->Prop} (h0:IK a0) (hB:Bs a0 st) (hP:pendingOf st = #[]) (h2:1<=a0.size)
  (h:∀ st',(arrOf st').Perm a0->failedOf st'=none->Up (arrOf st') 0 a0.size->Q () st'):wpS (model prog w) A E s sortRuns' Q st:=by
 rw [sortRuns'_eq]
 refine Je (Wm ?_)
 dsimp only
 have hsz:(arrOf st).size=a0.size:=hB.perm.size_eq
 rw [hsz]
 generalize minRun' a0.size a0.size 0=mr
 refine Je (Zj (Yt (I:=λx c st'=>∃ lo,c=(none,lo)/\Al a0 lo st'/\lo<=a0.size/\(x<=lo \/ lo=a0.size))
  (Q:=λc st'=>c=(none,a0.size)/\Al a0 a0.size st') ?step ?fin ⟨0,rfl,⟨hB,by rw [hP]; exact rfl⟩,Y3 _,.inl (Jb _)⟩) ?post)
 case fin=>
  rintro c st' ⟨lo,rfl,b1,b2,b3⟩
  have:lo=a0.size:=by omega
  subst this
  exact ⟨rfl,b1⟩
 case step=>
  rintro x c st' _ hx ⟨lo,rfl,b1,b2,b3⟩
  dsimp only
  by_cases g:lo >= a0.size
  ·rw [J8 g]
   have:lo=a0.size:=by omega
   subst this
   exact Jj ⟨rfl,b1⟩
  rw [Jc g]
  have hSB:SB a0 (arrOf st') (pendingOf st') lo st':=⟨b1.bs.perm,b1.bs.kind,b1.bs.failed,rfl,λ_ _=>rfl⟩
  -- what follows when the run of n is there
  have nxt:∀ (n:Nat) (st2:SortSt),SB a0 (arrOf st') (pendingOf st') lo st2->1<=n->lo + n<=a0.size->Up (arrOf st2) lo (lo + n)->Al a0 lo st2:=λn st2 c1 _ _ _=>
   ⟨⟨c1.perm,c1.kind,c1.failed⟩,by rw [c1.pend]; exact b1.ch.like λt _ ht=>c1.low t ht⟩
  refine Je (DD h0 (by omega) (by omega) hSB λm st2 c1 m1 m2 u=>?_)
  dsimp only
  have last:∀ (n:Nat) (st2:SortSt),Al a0 lo st2->1<=n->lo + n<=a0.size->Up (arrOf st2) lo (lo + n)->Al a0 (lo + n) (setPending st2 ((pendingOf st2).push (lo,n,0))):=λn st2 d1 d2 d3 d4=>by
   refine ⟨⟨d1.bs.perm,d1.bs.kind,d1.bs.failed⟩,?_⟩
   show Ch (arrOf st2) 0 ((pendingOf st2).push (lo,n,0)).toList (lo + n)
   rw [Wi]
   exact Ch.app.mpr ⟨lo,d1.ch,rfl,d2,d4,rfl⟩
  by_cases hm:m < mr
  all_goals first | rw [J8 hm] | rw [Jc hm]
  ·refine Je (Vg (Z0 ⟨rfl,?_⟩))
   refine Je (Ba h0 (n:=min (a0.size - lo) mr) (by omega) c1 u (by omega) λst3 d1 d2=>?_)
   simp only [Vb,Jx,Ys]
   refine Je (Wm ?_)
   obtain ⟨n,hn⟩:∃ n,n=min (a0.size - lo) mr:=⟨_,rfl⟩
   rw [<- hn] at d2 ⊢
   have n1:1<=n:=by omega
   have n2:lo + n<=a0.size:=by omega
   have al:=nxt n st3 d1 n1 n2 d2
   cases hb:(pendingOf st3).back? with
   | none=>
    dsimp only
    exact Je (Qv (Jj ⟨lo + n,rfl,last n st3 al n1 n2 d2,n2,by omega⟩))
   | some e=>
    obtain ⟨s1,n3,p3⟩:=e
    dsimp only
    generalize power' a0.size (2 * s1 + n3) (2 * s1 + n3 + n3 + n) a0.size=pw
    refine Je (Zj (Yt (I:=λy c st4=>c=(none,())/\Al a0 lo st4/\Up (arrOf st4) lo (lo + n))
     (Q:=λc st4=>c=(none,())/\Al a0 lo st4/\Up (arrOf st4) lo (lo + n)) ?a (λ_ _ z=>z) ⟨rfl,al,d2⟩) ?b)
    case a=>
     rintro y c st4 _ _ ⟨rfl,e1,e2⟩
     refine Je (Wm ?_)
     by_cases hp:(pendingOf st4).size > 1
     ·rw [J8 hp]
      have hg:(pendingOf st4)[(pendingOf st4).size - 2]?=some (pendingOf st4)[(pendingOf st4).size - 2]:=Um _ _ (by omega)
      rw [hg]
      dsimp only
      split
      ·exact Jj ⟨rfl,e1,e2⟩
      ·refine Je (yM h0 e1 (by omega) (by omega) λst5 f1 _ f3=>?_)
       simp only [Vb,Jx,Ys]
       refine Jj ⟨rfl,f1,λi j i1 i2 i3=>?_⟩
       rw [f3 i i1,f3 j (by omega)]
       exact e2 i j i1 i2 i3
     ·rw [Jc hp]
      exact Jj ⟨rfl,e1,e2⟩
    case b=>
     rintro c st4 ⟨rfl,e1,e2⟩
     dsimp only
     refine Je (Qv (Je (Qv (Jj ⟨lo + n,rfl,last n _ ⟨⟨e1.bs.perm,e1.bs.kind,e1.bs.failed⟩,?_⟩ n1 n2 e2,n2,by omega⟩))))
     show Ch (arrOf st4) 0 ((pendingOf st4).modify ((pendingOf st4).size - 1) _).toList lo
     rw [Array.toList_modify]
     exact Ch.pow _ (λs n p=>⟨_,rfl⟩) _ e1.ch
  ·refine Je (Wm ?_)
   have n2:lo + m<=a0.size:=by omega
   have al:=nxt m st2 c1 m1 n2 u
   cases hb:(pendingOf st2).back? with
   | none=>
    dsimp only
    exact Je (Qv (Jj ⟨lo + m,rfl,last m st2 al m1 n2 u,n2,by omega⟩))
   | some e=>
    obtain ⟨s1,n3,p3⟩:=e
    dsimp only
    generalize power' a0.size (2 * s1 + n3) (2 * s1 + n3 + n3 + m) a0.size=pw
    refine Je (Zj (Yt (I:=λy c st4=>c=(none,())/\Al a0 lo st4/\Up (arrOf st4) lo (lo + m))
     (Q:=λc st4=>c=(none,())/\Al a0 lo st4/\Up (arrOf st4) lo (lo + m)) ?a (λ_ _ z=>z) ⟨rfl,al,u⟩) ?b)
    case a=>
     rintro y c st4 _ _ ⟨rfl,e1,e2⟩
     refine Je (Wm ?_)
     by_cases hp:(pendingOf st4).size > 1
     ·rw [J8 hp]
      have hg:(pendingOf st4)[(pendingOf st4).size - 2]?=some (pendingOf st4)[(pendingOf st4).size - 2]:=Um _ _ (by omega)
      rw [hg]
      dsimp only
      split
      ·exact Jj ⟨rfl,e1,e2⟩
      ·refine Je (yM h0 e1 (by omega) (by omega) λst5 f1 _ f3=>?_)
       simp only [Vb,Jx,Ys]
       refine Jj ⟨rfl,f1,λi j i1 i2 i3=>?_⟩
       rw [f3 i i1,f3 j (by omega)]
       exact e2 i j i1 i2 i3
     ·rw [Jc hp]
      exact Jj ⟨rfl,e1,e2⟩
    case b=>
     rintro c st4 ⟨rfl,e1,e2⟩
     dsimp only
     refine Je (Qv (Je (Qv (Jj ⟨lo + m,rfl,last m _ ⟨⟨e1.bs.perm,e1.bs.kind,e1.bs.failed⟩,?_⟩ m1 n2 e2,n2,by omega⟩))))
     show Ch (arrOf st4) 0 ((pendingOf st4).modify ((pendingOf st4).size - 1) _).toList lo
     rw [Array.toList_modify]
     exact Ch.pow _ (λs n p=>⟨_,rfl⟩) _ e1.ch
 case post=>
  rintro c st' ⟨rfl,b1⟩
  dsimp only
  have hp0:(pendingOf st').size<=a0.size:=by have:=b1.ch.le; rw [Y1] at this; omega
  refine Je (Zj (Yt (I:=λx c st2=>c=(none,())/\Al a0 a0.size st2/\((pendingOf st2).size + x<=a0.size \/ (pendingOf st2).size<=1))
   (Q:=λc st2=>c=(none,())/\Al a0 a0.size st2/\(pendingOf st2).size<=1) ?a ?b ⟨rfl,b1,.inl (by omega)⟩) ?c)
  case b=>
   rintro c st2 ⟨hc,d1,d2⟩
   exact ⟨hc,d1,by omega⟩
  case a=>
   rintro x c st2 _ hx ⟨rfl,d1,d2⟩
   refine Je (Wm ?_)
   by_cases hs:(pendingOf st2).size<=1
   ·rw [J8 hs]
    exact Jj ⟨rfl,d1,hs⟩
   rw [Jc hs]
   refine Je (yM h0 d1 (Jb _) (DF (by omega)) λst5 f1 f2 _=>?_)
   simp only [Vb,Jx,Ys]
   exact Jj ⟨rfl,f1,by omega⟩
  case c=>
   rintro c st2 ⟨rfl,d1,d2⟩
   refine Jj (h st2 d1.bs.perm d1.bs.failed ?_)
   have hc:=d1.ch
   rw [<- Y1] at d2
   match hl:(pendingOf st2).toList with
   | []=>rw [hl] at hc; unfold Ch at hc; omega
   | [(z,n,p)]=>
    rw [hl] at hc
    obtain ⟨e1,e2,e3,e4⟩:=hc
    unfold Ch at e4
    rw [Nat.zero_add] at e3 e4
    subst e4
    exact e3
   | _ :: _ :: _=>rw [hl] at d2; simp at d2
end
section
variable {prog:Program} {w:World} {A:Around} {E:Value->Shared->Prop} {s:Shared}
theorem ups (h:Up xs 0 n):SortedTo xs n:=λi j i1 i2=>h i j (Y3 _) i1 i2
theorem yN {a:Addr} {vs:List Value} {ns:List Int} {P:Fin->Shared->Prop} (ho:s.heap.get? a=some (seqObj "list" vs.toArray n)) (hI:IntsAre vs ns) (hz:vs.length<=sizeLine)
  (h:∀ (out:Array Value) (ns':List Int),IntsAre out.toList ns'->ns'.Perm ns->ns'.Pairwise (· <= ·)->P (.done (.ret .none)) { s with heap:=sortedHeap s.heap a vs out }):wpAny (model prog w) A (Builtin.«list.sort» ⟨[.ref a],[]⟩) P E s:=by
 by_cases h64:vs.length < 64
 ·exact list_sort_tree ho hI h64 h
 rw [list_sort_plain]
 have lt:=Jk ho
 refine J6 (listItems_at ho rfl (J6 (listUpdate_at ho rfl ?_ (hsz:=by simpa using hz) (hsz2:=by simp))))
 obtain ⟨ep,g1⟩:∃ ep,(s.heap.update a (Obj.mapSeq λ_=>#[])).get? a=some (seqObj "list" #[] ep):=⟨_,Vt ho (λ_=>#[])⟩
 refine J6 (seqEpoch_at g1 rfl (J6 (wpAny_newTuple (J6 (Ua (Zc ?_))) (by simpa using hz))))
 have g2:(((s.heap.update a (Obj.mapSeq λ_=>#[])).push (seqObj "tuple" vs.toArray 0)).push (seqObj "list" #[] 0)).get? a=some (seqObj "list" #[] ep):=by
  have z1:(s.heap.update a (Obj.mapSeq λ_=>#[])).objs.size=s.heap.objs.size:=Heap.size_update ..
  rw [Heap.get?_push_ne _ _ _ (by rw [size_push',z1]; exact Jt (Zk lt)),Heap.get?_push_ne _ _ _ (by rw [z1]; exact Jt lt),g1]
 have big:¬ vs.toArray.size < 2:=by simp; omega
 dsimp only
 rw [Jc big,Jc big]
 match vs,hI,hz,h64 with
 | [],_,_,h64=>exact absurd (by decide) h64
 | [_],_,_,h64=>exact absurd (by simp) h64
 | v1 :: v2 :: vs,hI,hz,h64=>
  rw [keyKind_ints hI]
  refine J6 (Jd (J6 (Ql (DH (a0:=pairsOf (v1 :: v2 :: vs)) (st:=SortSt.mk' oneType' ((v1 :: v2 :: vs).toArray.zip (v1 :: v2 :: vs).toArray) #[] 7 none)
   (Q:=λ_ st'=>(arrOf st').Perm (pairsOf (v1 :: v2 :: vs))/\failedOf st'=none/\SortedTo (arrOf st') (pairsOf (v1 :: v2 :: vs)).size)
   hI.intKeys ⟨Array.Perm.refl _,rfl,rfl⟩ rfl (by rw [pairsOf_size]; simp) λst' b1 b2 b3=>⟨b1,b2,ups b3⟩) ?_ λ_ _ e=>e)))
  rintro ⟨⟨⟩,st'⟩ s' ⟨rfl,b1,b2,b3⟩
  have hsz:((arrOf st').map (·.2)).size=(v1 :: v2 :: vs).length:=(Array.size_map ..).trans (b1.size_eq.trans (pairsOf_size _))
  obtain ⟨ns',c1,c2,c3⟩:=sorted_out hI b1 b3
  refine J6 (seqEpoch_at g2 rfl (J6 (listUpdate_at g2 rfl ?_ (hsz:=by simp) (hsz2:=by rw [hsz]; omega))))
  rw [b2]
  simp only [bne_self_eq_false,Jx,Ys]
  exact Jd (h _ ns' c1 c2 c3)
end
end SR
namespace SQ
open PySem PySem.Spec PyProof.Rows
section
variable {prog:Program} {w:World} {A:Around} {E:Value->Shared->Prop} {s:Shared}
theorem nF {h:Heap} {a:Addr} {vs:List Value} {n:Nat} {out:Array Value} (ho:h.get? a=some (seqObj "list" vs.toArray n)):(∃ n',(sortedHeap h a vs out).get? a=some (seqObj "list" out n'))/\∀ b o,b ≠ a->h.get? b=some o->(sortedHeap h a vs out).get? b=some o:=by
 unfold sortedHeap
 obtain ⟨k,g⟩:∃ k,(h.update a (Obj.mapSeq λ_=>#[])).get? a=some (seqObj "list" #[] k):=⟨_,Vt ho _⟩
 refine ⟨⟨_,Vt (J7 _ (J7 _ g)) _⟩,λb o hb e=>?_⟩
 exact ((Wb ..).2 b hb).trans (J7 _ (J7 _ (((Wb ..).2 b hb).trans e)))
theorem lh {s:Shared} {vs:List Value} {ns:List Int} {Q:Value->Shared->Prop} (hI:IntsAre vs ns) (hz:vs.length<=sizeLine)
  (h:∀ (h':Heap) (out:Array Value) (ns':List Int) (n:Nat),(∀ b o,s.heap.get? b=some o->h'.get? b=some o)->h'.get? s.heap.objs.size=some (seqObj "list" out n)->IntsAre out.toList ns'->ns'.Perm ns->ns'.Pairwise (· <= ·)->Q (.ref s.heap.objs.size) { s with heap:=h' }):
  wpAny (model prog w) A (do
   let l <- newList vs
   let _ <- holding [l] (call (.builtin "list.sort") [l] [])
   ret l) (λfin s'=>∃ v,fin=.done (.ret v)/\Q v s') E s:=by
 refine J6 (Ua ?_ hz)
 have g:(s.heap.push (seqObj "list" vs.toArray 0)).get? s.heap.objs.size=some (seqObj "list" vs.toArray 0):=Ji _ rfl
 refine J6 (Zc (Zf slot_list_sort ⟨_,g,rfl⟩ entry_list_sort (SR.yN g hI hz λout ns' a1 a2 a3=>⟨_,rfl,?_⟩) (args_list_sort _)))
 obtain ⟨⟨n,g1⟩,g2⟩:=nF (out:=out) g
 exact Jd ⟨_,rfl,h _ out ns' n (λb o e=>g2 b o (Jt (Jk e)) (J7 _ e)) g1 a1 a2 a3⟩
theorem sorted_seq {k:Bool} {l:Addr} {vs:List Value} {ns:List Int} {Q:Value->Shared->Prop} (hl:Is k s.heap l vs.toArray) (hI:IntsAre vs ns) (hz:vs.length<=sizeLine)
  (h:∀ (a:Addr) (h':Heap) (out:Array Value) (ns':List Int) (n:Nat),s.heap.objs.size<=a->(∀ b o,s.heap.get? b=some o->h'.get? b=some o)->h'.get? a=some (seqObj "list" out n)->IntsAre out.toList ns'->ns'.Perm ns->ns'.Pairwise (· <= ·)->Q (.ref a) { s with heap:=h' }):
  wpAny (model prog w) A (call (.builtin "sorted") [.ref l]) Q E s:=by
 refine Calls.call_function_entry kind_sorted plain_sorted entry_sorted (args_sorted1 _) ?_
 unfold Builtin.«sorted»
 refine J6 (m:=checkCount "sorted" 1 1 _) (Jd ?_)
 refine J6 (collects hl ?_ hz)
 have kp:∀ b o,s.heap.get? b=some o->((s.heap.push (seqObj "list" #[] 0)).update s.heap.objs.size (Obj.mapSeq (· ++ vs.toArray))).get? b=some o:=λb o e=>
  ((Wb ..).2 b (Jt (Jk e))).trans (J7 _ e)
 refine lh (s:={ s with heap:=(s.heap.push (seqObj "list" #[] 0)).update s.heap.objs.size (Obj.mapSeq (· ++ vs.toArray)) }) hI hz λh' out ns' n k1 k2 a1 a2 a3=>h _ h' out ns' n ?_ (λb o e=>k1 b o (kp b o e)) k2 a1 a2 a3
 show s.heap.objs.size<=((s.heap.push (seqObj "list" #[] 0)).update s.heap.objs.size (Obj.mapSeq (· ++ vs.toArray))).objs.size
 rw [Heap.size_update,size_push']; exact Wv _
theorem sorted_src {T:String} {r d:Addr} {n:Nat} {P:Nat->Value->Prop} {OK:Heap->Prop} {ns:List Int} {Q:Value->Shared->Prop} (K:PySem.W.KdlSrc prog w T r d n P OK) (hh:A.handled=none) (hok:OK s.heap) (hn:n<=sizeLine)
  (hI:∀ vs:List Value,vs.length=n->(∀ j v,vs[j]?=some v->P j v)->IntsAre vs ns)
  (h:∀ (h1:Heap) (tk:Nat),(∀ b o,s.heap.get? b=some o->h1.get? b=some o)->∀ (h2:Heap) (out:Array Value) (ns':List Int) (n:Nat),(∀ b o,h1.get? b=some o->h2.get? b=some o)->h2.get? h1.objs.size=some (seqObj "list" out n)->IntsAre out.toList ns'->ns'.Perm ns->ns'.Pairwise (· <= ·)->Q (.ref h1.objs.size) { s with heap:=h2,toks:=tk }):
  wpAny (model prog w) A (call (.builtin "sorted") [.ref r]) Q E s:=by
 refine Calls.call_function_entry kind_sorted plain_sorted entry_sorted (args_sorted1 _) ?_
 unfold Builtin.«sorted»
 refine J6 (m:=checkCount "sorted" 1 1 _) (Jd ?_)
 refine J6 (PySem.W.kdu_collect (A:=A.in1) K hh hok hn λh' tk acc hk hacc=>?_)
 have hl:acc.toList.length=n:=by rw [Y1]; exact hacc.1
 have hi:=hI acc.toList hl λj v e=>hacc.2 j v (by rw [<- Z8]; exact e)
 refine lh (s:={ s with heap:=h',toks:=tk }) hi (by omega) λh2 out ns' n k1 k2 a1 a2 a3=>h h' tk hk h2 out ns' n k1 k2 a1 a2 a3
end
end SQ
namespace PD
open PySem PySem.Spec PyProof.Rows L2
noncomputable def gB:List (KD × D)->Option (List Int)
 | []=>some []
 | (.inl i,_) :: r=>(gB r).map (i :: ·)
 | _=>none
noncomputable def rW (S:Sto) (d:D):Option (List Int):=match bS S d with
 | some a=>intsOf a
 | none=>match bV S d with
  | some kvs=>gB kvs
  | none=>none
noncomputable def rX:Sto->List D->Option D
 | S,[d]=>match rW S d with
  | some ns=>if ns.length<=sizeLine then some (.lst ((jm ns).map .int)) else none
  | none=>none
 | _,_=>none
section
variable {X:Cx} {E:XK}
theorem oB:∀ {kvs:List (KD × D)} {ns:List Int},gB kvs=some ns->ns.length=kvs.length
 | [],_,h=>by unfold gB at h; cases h; rfl
 | (.inl i,_) :: r,ns,h=>by
  unfold gB at h
  cases e:gB r with
  | none=>rw [e] at h; cases h
  | some m=>rw [e] at h; cases h; simp [oB e]
 | (.inr i,_) :: r,ns,h=>by unfold gB at h; cases h
theorem rY:∀ {kvs:List (KD × D)} {ns:List Int},gB kvs=some ns->∀ (j:Nat) (k:KD) (d:D),kvs[j]?=some (k,d)->∃ i,ns[j]?=some i/\k=.inl i
 | [],_,h,j,k,d,e=>by simp at e
 | (.inl i,x) :: r,ns,h,j,k,d,e=>by
  unfold gB at h
  cases e':gB r with
  | none=>rw [e'] at h; cases h
  | some m=>
   rw [e'] at h; cases h
   cases j with
   | zero=>simp at e; exact ⟨i,rfl,e.1.symm⟩
   | succ j=>exact rY e' j k d (by simpa using e)
 | (.inr i,_) :: r,ns,h,j,k,d,e=>by unfold gB at h; cases h
theorem mQ:∀ (vs:List Value) (ns:List Int),vs.length=ns.length->(∀ (j:Nat) (v:Value),vs[j]?=some v->∃ i t,ns[j]?=some i/\v=.int i t)->IntsAre vs ns
 | [],[],_,_=>.nil
 | v :: vs,n :: ns,hl,h=>by
  obtain ⟨i,t,e,rfl⟩:=h 0 v rfl
  cases e
  exact .cons _ _ (mQ vs ns (by simpa using hl) λj v e=>h (j + 1) v (by simpa using e))
 | [],_ :: _,hl,_=>by simp at hl
 | _ :: _,[],hl,_=>by simp at hl
theorem RDk.at {K:PySem.W.Frag} {w:Wd} {H:Hp}:∀ {ds:List (KD × D)} {us:List (Key × V)},RDk K w H ds us->∀ (j:Nat) (k:Key) (v:V),us[j]?=some (k,v)->∃ d,ds[j]?=some (k,d)
 | [],_,h,j,k,v,e=>by rw [h.nil_inv] at e; simp at e
 | (k0,d) :: ds,_,h,j,k,v,e=>by
  obtain ⟨v0,r,rfl,_,t⟩:=h.cons_inv
  cases j with
  | zero=>simp at e; exact ⟨d,by simp [e.1]⟩
  | succ j=>exact t.at j k v (by simpa using e)
theorem yO (hc:X.calm=true):bw X (.builtin "sorted") (xC X.K E rX):=by
 rintro pins s σ H xs us Q I r ⟨w,S,ds,hS,qs,p⟩
 obtain ⟨z,hz,p'⟩:=p.of
 clear p
 unfold rX at hz
 split at hz
 ·rename_i d
  obtain ⟨v,rfl,q⟩:=qs.one_inv
  split at hz
  ·rename_i ns hns
   split at hz
   ·rename_i hlt
    cases hz
    -- the list that comes
    have last:∀ (s1:Shared) (a:Addr) (h2:Heap) (tk:Nat) (out:Array Value) (ns':List Int) (n:Nat),Inv X pins σ H s1->s1.heap.objs.size<=a->(∀ b o,s1.heap.get? b=some o->h2.get? b=some o)->h2.get? a=some (seqObj "list" out n)->IntsAre out.toList ns'->ns'.Perm ns->ns'.Pairwise (· <= ·)->EP X pins σ Q (.ref a) { s1 with heap:=h2,toks:=tk }:=λs1 a h2 tk out ns' n I1 la k1 k2 a1 a2 a3=>by
     have en:ns'=jm ns:=kZ (a2.trans (et ns).symm) a3 (dU ns)
     subst en
     have hf:H a=none:=I1.hok.fresh la
     have hz:((jm ns).map V.int).length<=sizeLine:=by rw [Jh,(et ns).length_eq]; exact hlt
     refine ⟨.ref a,_,I1.laid (t':=tk) (a:=a) (o:=.lst ((jm ns).map V.int)) k1 la ⟨hz,out.toList,n,vk a1,by rw [Array.toArray_toList]; exact k2⟩,rfl,?_⟩
     exact p'.at (Ext.new hf) (RD.newLst hS hf (rM _)) (hS.new hf)
    unfold rW at hns
    split at hns
    ·rename_i a ha
     obtain ⟨pa,vs,rfl,sq,ra⟩:=kE hS q ha
     obtain ⟨u,rfl,rx⟩:=W9 r
     cases rx
     have main:∀ (k:Bool) (its:List Value),Vals vs its->SQ.Is k s.heap pa its.toArray->wpAny (model X.prog X.w) X.A (call (.builtin "sorted") [.ref pa]) (EP X pins σ Q) X.xe s:=λk its rv pl=>by
      have hI:=iD ra rv hns
      have hl:its.length=ns.length:=hI.length
      exact SQ.sorted_seq pl hI (by omega) λa h' out ns' n la k1 k2 a1 a2 a3=>last s a h' s.toks out ns' n I la k1 k2 a1 a2 a3
     rcases sq with hq | hq
     ·obtain ⟨its,r',pl,hz⟩:=I.list hq
      exact main false its r' pl.isList
     ·obtain ⟨its,r',pl,hz⟩:=I.tuple hq
      exact main true its r' pl
    ·split at hns
     ·rename_i kvs hd
      obtain ⟨pp,us',rfl,rd,rk⟩:=gR hS q hd
      obtain ⟨u,rfl,rx⟩:=W9 r
      cases rx
      obtain ⟨hl,hm,vs,rel,dd⟩:=ji I.hok rd
      obtain ⟨ep,hat⟩:=dd.dictAt
      have e1:=rel.length
      have e2:=rk.length
      have e3:=oB hns
      refine SQ.sorted_src (ns:=ns) (PySem.W.kdl_dict (knd:=aQ X.prog X.w) (kvs:=vs) (ep:=ep) hm) (I.ok.hd hc) hat (by omega) (λws hw hv=>?_) λh1 tk hk h2 out ns' n k1 k2 a1 a2 a3=>?_
      ·refine mQ ws ns (by omega) λj u hu=>?_
       obtain ⟨k,x,hx,hkey⟩:=hv j u hu
       obtain ⟨y,hy⟩:∃ y,us'[j]?=some (k,y):=by
        have e:=Q7 (λl:List Key=>l[j]?) rel.keys
        simp only [Yx,hx,Zs] at e
        cases hu':us'[j]? with
        | none=>rw [hu'] at e; cases e
        | some q=>rw [hu'] at e; cases e; exact ⟨q.2,rfl⟩
       obtain ⟨d',hd'⟩:=rk.at j k y hy
       obtain ⟨i,hi,rfl⟩:=rY hns j k d' hd'
       have:=rN hkey
       obtain ⟨t,rfl⟩:∃ t,u=.int i t:=this
       exact ⟨i,t,hi,rfl⟩
      ·exact last { s with heap:=h1,toks:=tk } _ h2 tk out ns' n (I.kept (t':=tk) hk) (Jb _) k1 k2 a1 a2 a3
     ·cases hns
   ·cases hz
  ·cases hz
 ·cases hz
end
noncomputable def gg:Int->List Int->Int
 | m,[]=>m
 | m,x :: r=>gg (if m < x then x else m) r
theorem iX:∀ (l:List Int) (m:Int),(m<=gg m l/\∀ x ∈ l,x<=gg m l)/\(gg m l=m \/ gg m l ∈ l)
 | [],m=>⟨⟨Yo _,λx h=>nomatch h⟩,.inl rfl⟩
 | x :: r,m=>by
  obtain ⟨⟨h1,h2⟩,h3⟩:=iX r (if m < x then x else m)
  show (m<=gg (if m < x then x else m) r/\∀ y ∈ x :: r,y<=gg (if m < x then x else m) r)/\(gg (if m < x then x else m) r=m \/ gg (if m < x then x else m) r ∈ x :: r)
  generalize gg (if m < x then x else m) r=z at *
  by_cases hx:m < x
  ·rw [J8 hx] at h1 h3
   refine ⟨⟨by omega,λy hy=>?_⟩,.inr ?_⟩
   ·rcases Jg.mp hy with e | hy
    ·rw [e]; exact h1
    ·exact h2 y hy
   ·rcases h3 with e | h3
    ·rw [e]; exact .head _
    ·exact .tail _ h3
  ·rw [Jc hx] at h1 h3
   refine ⟨⟨h1,λy hy=>?_⟩,?_⟩
   ·rcases Jg.mp hy with e | hy
    ·rw [e]; omega
    ·exact h2 y hy
   ·rcases h3 with e | h3
    ·exact .inl e
    ·exact .inr (.tail _ h3)
end PD
namespace L2
open PySem PySem.Spec PyProof.Rows
theorem Inv.freezeL {X:Cx} {pins:List (Addr × Obj)} {σ:St} {H:Hp} {s:Shared} {a:Addr} {vs:List V} (I:Inv X pins σ H s) (h:H a=some (.lst vs)):∃ o,Inv X pins σ (upd H a (.frz o (.lst vs))) s:=by
 obtain ⟨z,its,n,r,e⟩:bL X.prog X.w H s.heap a (.lst vs):=I.hok a _ h
 have I2:Inv X pins σ (upd H a (.frz _ (.lst vs))) { s with heap:=s.heap,toks:=s.toks }:=I.write (x:=a) (e:=a) (by rw [h]; exact True.intro) (.inl rfl) (λb u _ q=>q) ⟨_,e⟩ ⟨e,z,its,n,r,e⟩
 exact ⟨_,I2⟩
section
variable {X:Cx} {tg:Expr}
noncomputable def FJ (K:PySem.W.Frag) (td:TE):TI:=λσ H R=>td σ H λx H1=>∃ a vs,x=.ref a/\((H1 a=some (.lst vs)/\∀ o,R (Itl K a) (upd H1 a (.frz o (.lst vs)))) \/ ∃ o,H1 a=some (.frz o (.lst vs))/\R (Itl K a) H1)
theorem DI {d:Expr} {td:TE} (hd:PE X d td):PI X tg d (FJ X.K td):=by
 intro pins s σ H R I h
 refine thn (hd pins s σ H _ I h) λu s1 zq=>?_
 obtain ⟨x,H1,I1,rx,a,vs,ex,q1⟩:=zq
 subst ex
 obtain rfl:u=Value.ref a:=rx
 have main:∀ (H2:Hp) (o:Obj),Inv X pins σ H2 s1->H2 a=some (.frz o (.lst vs))->R (Itl X.K a) H2->wpAny (model X.prog X.w) X.A (pyIter (.ref a)) (PIE X pins σ tg R) X.xe s1:=λH2 o I2 hH2 q=>by
  obtain ⟨its,rv,p,hz⟩:=I2.list (xs:=vs) (.inl (.inr ⟨o,hH2⟩))
  refine Zp p.isList ?_
  refine ⟨s1.heap.objs.size,[s1.heap.objs.size],_,_,H2,rfl,I2.kept (t':=s1.toks) λb o e=>J7 _ e,nQ a _,⟨_,Ji _ rfl,rfl,rfl⟩,λb hb=>?_,q⟩
  have e:b=s1.heap.objs.size:=by simpa using hb
  subst e
  exact I2.fpOk (Jb _) (I2.hok.fresh (Jb _))
 rcases q1 with ⟨hH,q⟩ | ⟨o,hH,q⟩
 ·obtain ⟨o,I2⟩:=I1.freezeL hH
  exact main _ o I2 aK (q o)
 ·exact main _ o I1 hH q
end
end L2
namespace PD
open PySem PySem.Spec PyProof.Rows L2
noncomputable def ud (m:EM):AM:=λr S=>(m r S).bind λd S1=>match d with
 | .ref n=>match S1[n]? with
  | some (.lst xs)=>.ok xs (S1.set n (.flst xs))
  | some (.flst xs)=>.ok xs S1
  | _=>.bad
 | _=>.bad
theorem yP {K:PySem.W.Frag} {w:Wd} {H:Hp} {a:Addr} {o:Obj} {ds:List D} {vs:List V} (hst:∀ w' H',Ext w H w' H'->H' a=some (.frz o (.lst vs))) (q:RDs K w H ds vs):RI K w H ds (Itl K a):=by
 intro i w' H' x'
 have q':=RDs.ext x' _ _ q
 have sq:SqL K H' a vs:=.inl (.inr ⟨o,hst w' H' x'⟩)
 refine ⟨λhi=>⟨⟨vs,vs[i]'(by rw [q.length]; exact hi),sq,Ja _⟩,λx H'' y=>?_⟩,λhi=>⟨vs,sq,by rw [q.length]; exact hi⟩⟩
 obtain ⟨rfl,y⟩:=y
 refine ⟨.inl rfl,λS _=>⟨ds[i],Ja hi,?_⟩⟩
 obtain ⟨v,e,rv⟩:=q'.get (Ja hi)
 rw [y vs sq] at e
 cases e
 exact rv
section
variable {X:Cx} {E:XK}
theorem yQ {tg:Expr} {d:Expr} {md:EM} (ha:SE X E d md):SI X E tg d (ud md):=⟨
 fg (DI ha.out) λs H Q zq=>ex6 zq λw r S hr hS hp=>⟨w,r,S,hr,hS,hp.bind hS λd S1 w1 H1 v x1 q1 s1 p1=>by
  cases d with
  | ref m=>
   obtain ⟨pp,rfl,hp⟩:=q1.refI
   have hm:pp ∈ w1.st:=Z1 hp
   cases e:S1[m]? with
   | none=>simp only [e] at p1; exact p1.elim
   | some ob=>
    obtain ⟨p',hp',ro⟩:=s1.obj _ _ e
    rw [hp] at hp'; cases hp'
    cases ob with
    | lst xs=>
     simp only [e] at p1
     obtain ⟨vs,hv,rk⟩:=ro
     refine ⟨pp,vs,rfl,.inl ⟨hv,λo=>?_⟩⟩
     have rk':=RDs.ext (Ext.mut hm hv (o:=.frz o (.lst vs))) _ _ rk
     exact aE.at p1 (Ext.mut hm hv) (yP (λw' H' x'=>x'.frz _ _ _ aK) rk') (s1.mut hp hv ⟨o,vs,aK,rk'⟩)
    | flst xs=>
     simp only [e] at p1
     obtain ⟨o,vs,hv,rk⟩:=ro
     exact ⟨pp,vs,rfl,.inr ⟨o,hv,aE.ret p1 (yP (λw' H' x'=>x'.frz _ _ _ hv) rk) s1⟩⟩
    | dic xs=>simp only [e] at p1; exact p1.elim
    | fdic xs=>simp only [e] at p1; exact p1.elim
    | ins c fs=>simp only [e] at p1; exact p1.elim
  | _=>exact p1.elim⟩⟩
end
section
variable {X:Cx} {E:XK}
noncomputable def DJ (neg:Bool):Sto->D->D->Option D:=λ_ a b=>match a,b with
 | .bl x,.bl y=>some (.bl (if neg then !(x == y) else x == y))
 | _,_=>none
theorem wZ:OpR X (compareOp .IsNot) (xO X.K E (DJ true)):=by
 rintro pins s σ H x y v u Q I rx ry ⟨w,S,d,e,hS,qd,qe,p⟩
 obtain ⟨z,hz,p⟩:=p.of
 unfold DJ at hz
 split at hz
 ·rename_i a b
  cases hz
  cases qd.bl
  cases qe.bl
  cases rx
  cases ry
  by_cases e:a=b
  ·subst e
   refine wpAny_isNot_self rfl ⟨.bl false,H,I,rfl,?_⟩
   have e':(a == a)=true:=by simp
   simp only [Yj,e',Vb] at p
   exact p.ret RD.mkB hS
  ·refine wpAny_isNot_other rfl (λz=>e (by injection z)) ⟨.bl true,H,I,rfl,?_⟩
   have e':(a == b)=false:=by simpa using e
   simp only [Yj,e',Bool.not_false] at p
   exact p.ret RD.mkB hS
 ·cases hz
end
end PD
namespace PySem
open PyProof.Rows
open Sem (wp)
namespace F
theorem ul_plain:plainId "dict.update.loop" = true:=by decide +kernel
theorem ul_entry:entryFor table "dict.update.loop" = some Builtin.«dict.update.loop»:=entryFor_of_tree (by kernel_rfl)
theorem list_no_keys:typeLookup (.type "list") "keys" = pure none:=by rw [typeLookup_type,builtinLookup_eq_fast]; kernel_rfl
end F
section
variable {prog:Program} {w:World} {A:Around} {E:Value->Shared->Prop}
theorem mR {s:Shared} {l:Addr} {sl:Array (Option Value)} {xs:Array Value} {n:Nat} {Q:Option Value->Shared->Prop} (hl:s.heap.get? l=some { cls:=.type "list",dict:=none,data:=.seq xs n,slots:=sl }) (hA:A.handled=none)
  (q:∀ h' tk,(∀ b ob,s.heap.get? b=some ob->h'.get? b=some ob)->Q none { s with heap:=h',toks:=tk }):wpAny (model prog w) A (getAttr? (.ref l) "keys") Q E s:=by
 obtain ⟨hp,gs,dr,k0,os⟩:=s
 have ty:∀ k,(⟨hp,gs,dr,k,os⟩:Shared).TypeIs (.ref l) "list":=λ_=>⟨_,hl,rfl⟩
 have a1:=sub_AttributeError; have a2:=F.slot_list_getattribute.lookup; have a3:=F.slot_list_getattribute.bind (.ref l); have a4:=am_list_getattr_none
 have nm:(["__module__","__name__","__qualname__","__doc__","__annotations__"]:List Str).contains "keys" = false:=by decide +kernel
 unfold getAttr? getAttrBy? getAttrBy
 repeat (any_goals (first | assumption | exact ty _ | ((with_reducible show wpAny _ _ (call (Value.builtin "list.__getattribute__") _ _) _ _ _); refine Wr F.slot_list_getattribute (ty _) am_entry_list_getattribute (F.args_list_getattribute_2 _ _) (meets_getattribute_miss_list l xs n sl "keys" _ F.list_no_keys nm (by size_fits)) ⟨hl,hA,λh' tk' e x=>?_⟩) | wp_step))
 obtain ⟨_,_,he⟩:=x.there
 show wpAny _ _ (getattributeRaised _ _ _ _ _ _ _) _ _ _
 unfold getattributeRaised
 repeat (any_goals (first | assumption | wp_step))
 exact q h' tk' x.keeps
end
section
variable {prog:Program} {w:World} {K:Type} [DecidableEq K] {knd:KeyKind prog w K} {A:Around} {R:Result->Shared->Prop}
def qg (knd:KeyKind prog w K) (h:Heap) (d I:Addr) (kv:K × Value) (v:Value):Prop:=∃ p key,v=.ref p/\knd.is kv.1 key=true/\h.IsTuple p #[key,kv.2]/\p ≠ d/\p ≠ I
theorem qg.keep {h h':Heap} {d I:Addr} {kv:K × Value} {v:Value} (x:qg knd h d I kv v) (hk:∀ b o,b ≠ I->b ≠ d->h.get? b=some o->h'.get? b=some o):qg knd h' d I kv v:=by
 obtain ⟨p,key,e,z,⟨o,ho,r⟩,n1,n2⟩:=x
 exact ⟨p,key,e,z,⟨o,hk p o n2 n1 ho,r⟩,n1,n2⟩
theorem ue (a:List (K × Value)) (k:K) (v:Value):(stored a k v).length<=a.length + 1:=by
 unfold stored
 split
 ·rw [Jh]; omega
 ·rw [Jo]; exact Jb _
theorem oC {I l d:Addr} (hne:l ≠ I) (hd1:d ≠ I) (hd2:d ≠ l) (hh:A.handled=none) (items:Array Value):
  ∀ (kvs:List (K × Value)) (vs:List Value) (j:Nat) (s:Shared) (acc:List (K × Value)),items.toList.drop j=vs->vs.length=kvs.length->(∀ (i:Nat) kv v,kvs[i]?=some kv->vs[i]?=some v->qg knd s.heap d I kv v)->
   s.heap.IsListIter I l j->s.heap.IsList l items->s.heap.DictOf knd d acc->acc.length + kvs.length<=sizeLine->
   (∀ h' tk,h'.DictOf knd d (merged acc kvs)->(∀ b o,b ≠ I->b ≠ d->s.heap.get? b=some o->h'.get? b=some o)->R (.ok (.ret .none)) { s with heap:=h',toks:=tk })->
   codeAny (model prog w) A (.builtin "dict.update.loop" ⟨[.ref d,.ref I,rawInt j,.none],[]⟩) R s
 | [],vs,j,s,acc,hv,hl,_,st,il,hm,_,hR=>by
  have W:=Vq (prog:=prog) (w:=w) (A:=A.in1) hh I l hne items
  have e0:vs=[]:=Za.mp hl
  have hj:items.size<=j:=by
   have:=Q7 List.length hv
   rw [e0,Qi,Y1] at this
   exact Nat.le_of_sub_eq_zero this
  refine Q0 F.ul_entry ?_
  rw [Zw F.ul_plain _]
  show wpAny _ A.in1 (pyNext (.ref I) >>= _) _ _ s
  refine J6 (wpAny_pyNext_list_end (A:=A.in1) hh st il (by simpa using hj) λh' he=>?_)
  show wpAny _ A.in1 (Builtin.Dict.addKeywords d [] >>= λ_=>ret .none) _ _ _
  refine J6 (Jd (Jd ?_))
  exact hR h' s.toks (by obtain ⟨o,es,ep,ho,r⟩:=hm; exact ⟨o,es,ep,he d o hd1 ho,r⟩) λb o b1 b2 e=>he b o b1 e
 | kv :: kvs,vs,j,s,acc,hv,hl,hp,st,il,hm,hz,hR=>by
  obtain ⟨v,vs',rfl⟩:∃ v vs',vs=v :: vs':=by
   cases vs with
   | nil=>cases hl
   | cons v vs'=>exact ⟨v,vs',rfl⟩
  have hjl:j < items.size:=by
   have:=Q7 List.length hv
   rw [Qi,Y1,Jm] at this
   omega
  have hit:items[j]?=some v:=by
   have:=Q7 (λl:List Value=>l[0]?) hv
   simp only [V4,Nat.add_zero,Zb,Z8] at this
   exact this
  have hv':items.toList.drop (j + 1)=vs':=by rw [<- U1,hv]; rfl
  rw [Jm] at hz
  obtain ⟨p,key,rfl,hkey,⟨o,ho,hc,n,hdat⟩,n1,n2⟩:=hp 0 kv v rfl rfl
  refine Q0 F.ul_entry ?_
  rw [Zw F.ul_plain _]
  show wpAny _ A.in1 (pyNext (.ref I) >>= _) _ _ s
  refine J6 (wpAny_pyNext_list_item (A:=A.in1) st il (x:=.ref p) hit λh' st' hs=>?_)
  have k1:∀ b ob,b ≠ I->s.heap.get? b=some ob->h'.get? b=some ob:=λb ob hb e=>hs.extBut b ob hb e
  have ho1:=k1 p o n2 ho
  have hm1:h'.DictOf knd d acc:=by obtain ⟨o',es,ep,ho',r⟩:=hm; exact ⟨o',es,ep,k1 d o' hd1 ho',r⟩
  have il1:h'.IsList l items:=by obtain ⟨o',ho',r⟩:=il; exact ⟨o',k1 l o' hne ho',r⟩
  show wpAny _ A.in1 (holding [.ref p] _ >>= _) _ _ _
  refine J6 (Zc ?_)
  refine J6 (Wk ?_)
  unfold Builtin.Dict.pairItems
  refine J6 (V2 (show Shared.TypeIs { s with heap:=h' } (.ref p) "tuple" from ⟨o,ho1,hc⟩) ?_)
  rw [J8 (by decide)]
  refine J6 (Zd ho1 hdat (Jd ?_))
  show wpAny _ A.in1 (holding [key,kv.2] (dictSet d key kv.2)) _ _ _
  refine Zc (wpAny_dictSet_pairs hkey hm1 (λh2 hm2 hs2=>?_) (by omega))
  refine Jd ⟨Qh F.ul_plain _,?_⟩
  have k2:∀ b ob,b ≠ I->b ≠ d->s.heap.get? b=some ob->h2.get? b=some ob:=λb ob b1 b2 e=>(hs2.2 b b2).trans (k1 b ob b1 e)
  have hlen:=ue acc kv.1 kv.2
  refine oC hne hd1 hd2 hh items kvs vs' (j + 1) _ (stored acc kv.1 kv.2) hv' (by simpa using hl) (λi kv' v' e1 e2=>(hp (i + 1) kv' v' e1 e2).keep k2) ?_ ?_ hm2 (by omega) λh3 tk hm3 k3=>?_
  ·obtain ⟨o',ho',r⟩:=st'; exact ⟨o',(hs2.2 I (Ne.symm hd1)).trans ho',r⟩
  ·obtain ⟨o',ho',r⟩:=il1; exact ⟨o',(hs2.2 l (Ne.symm hd2)).trans ho',r⟩
  ·exact hR h3 tk hm3 λb ob b1 b2 e=>k3 b ob b1 b2 (k2 b ob b1 b2 e)
end
section
variable {prog:Program} {w:World} {K:Type} [DecidableEq K] {knd:KeyKind prog w K} {A:Around} {E:Value->Shared->Prop} {s:Shared}
theorem lD {l:Addr} {items:Array Value} {n:Nat} {sl:Array (Option Value)} {kvs:List (K × Value)} {Q:Value->Shared->Prop} (hh:A.handled=none) (hl:s.heap.get? l=some { cls:=.type "list",dict:=none,data:=.seq items n,slots:=sl }) (hn:items.size=kvs.length)
  (hp:∀ (i:Nat) kv v,kvs[i]?=some kv->items[i]?=some v->∃ p key,v=.ref p/\knd.is kv.1 key=true/\s.heap.IsTuple p #[key,kv.2]) (hz:kvs.length<=sizeLine)
  (q:∀ h' tk,h'.DictOf knd s.heap.objs.size (merged [] kvs)->(∀ b o,s.heap.get? b=some o->h'.get? b=some o)->Q (.ref s.heap.objs.size) { s with heap:=h',toks:=tk }):wpAny (model prog w) A (call (.type "dict") [.ref l]) Q E s:=by
 refine callType_codes (Q₁:=λz t=>z=.ref s.heap.objs.size/\t={ s with heap:=s.heap.push { cls:=.type "dict",data:=.dict #[] } }) F.kt_called_dict (F.kt_typeCall_dict_1 _) F.entry_dict_init (kt_code_dict_new _ ⟨rfl,rfl⟩) ?_
 rintro z t ⟨rfl,rfl⟩
 have hm:(s.heap.push { cls:=.type "dict",data:=.dict #[] }).DictOf knd s.heap.objs.size []:=Heap.DictOf.new s.heap
 have k0:∀ b o,s.heap.get? b=some o->(s.heap.push { cls:=.type "dict",data:=.dict #[] }).get? b=some o:=λb o e=>J7 _ e
 have hl0:=k0 l _ hl
 refine ⟨hm.typeIs,F.args_dict_init_2 _ _,?_⟩
 unfold Builtin.«dict.__init__»
 refine J6 ?_
 unfold Builtin.Dict.selfAndRest
 refine J6 (wpAny_notOrdered_dict hm.typeIs ?_)
 show wpAny _ _ (pure (s.heap.objs.size,[Value.ref l])) _ _ _
 refine Jd ?_
 show wpAny _ _ (Builtin.Dict.updateFrom "dict.__init__" s.heap.objs.size (.ref l) [] .none) _ _ _
 unfold Builtin.Dict.updateFrom
 refine J6 (V2 (show Shared.TypeIs { s with heap:=s.heap.push { cls:=.type "dict",data:=.dict #[] } } (.ref l) "list" from ⟨_,hl0,rfl⟩) ?_)
 rw [J8 (by decide)]
 refine J6 (mR (A:=A.in1.in1) hl0 hh λh1 tk1 k1=>?_)
 rw [J8 (show (none:Option Value).isNone=true from rfl)]
 have hl1:=k1 l _ hl0
 have il1:h1.IsList l items:=⟨_,hl1,rfl,n,rfl⟩
 refine J6 (Z0 (J6 (Zp il1 ?_)))
 have k2:∀ b o,s.heap.get? b=some o->(h1.push { cls:=.type "list_iterator",data:=.fields #[.ref l,.int 0 0] }).get? b=some o:=λb o e=>J7 _ (k1 b o (k0 b o e))
 have e1:=Jk hl
 have e2:s.heap.objs.size < h1.objs.size:=by obtain ⟨o,es,ep,ho,r⟩:=hm; exact Jk (k1 _ o ho)
 refine Jd ⟨Qh F.ul_plain _,?_⟩
 refine oC (A:=A.in1) (knd:=knd) (l:=l) (I:=h1.objs.size) (Jt (Vo e1 e2)) (Jt e2) (Qe e1) hh items kvs items.toList 0 _ [] rfl (by rw [Y1]; exact hn) (λi kv v p1 p2=>?_) ⟨_,Ji _ rfl,rfl,rfl⟩ ⟨_,k2 l _ hl,rfl,n,rfl⟩ (by obtain ⟨o,es,ep,ho,r⟩:=hm; exact ⟨o,es,ep,J7 _ (k1 _ o ho),r⟩) (by simpa using hz) λh' tk hm' k3=>⟨rfl,q h' tk hm' λb o e=>?_⟩
 ·obtain ⟨p,key,ev,z,⟨o,ho,r⟩⟩:=hp i kv v p1 (by rw [<- Z8]; exact p2)
  have e3:=Jk ho
  exact ⟨p,key,ev,z,⟨o,k2 p o ho,r⟩,Jt e3,Jt (Vo e3 e2)⟩
 ·have e3:=Jk e
  exact k3 b o (Jt (Vo e3 e2)) (Jt e3) (k2 b o e)
end
end PySem
namespace L2
open PySem PySem.Spec PyProof.Rows
theorem yR (a:List (Key × V)) (k:Key) (v:V):(putK a k v).length<=a.length + 1:=by
 unfold putK
 split
 ·rw [Jh]; omega
 ·rw [Jo]; exact Jb _
theorem mS:∀ (more acc:List (Key × V)),(eh acc more).length<=acc.length + more.length
 | [],acc=>Jb _
 | kv :: more,acc=>by
  have h1:=mS more (putK acc kv.1 kv.2)
  have h2:=yR acc kv.1 kv.2
  show (eh (putK acc kv.1 kv.2) more).length<=acc.length + (more.length + 1)
  omega
noncomputable def PrV (K:PySem.W.Frag) (H:Hp):List V->List (Key × V)->Prop
 | [],kvs=>kvs=[]
 | y :: ys,kvs=>∃ kv r p,kvs=kv :: r/\y=.ref p/\SqT K H p [kV kv.1,kv.2]/\PrV K H ys r
section
variable {X:Cx}
theorem rZ {pins:List (Addr × Obj)} {σ:St} {H:Hp} {s:Shared} (I:Inv X pins σ H s):∀ {ys:List V} {kvs:List (Key × V)} {its:List Value},PrV X.K H ys kvs->Vals ys its->∃ ks:List (Key × Value),KV kvs ks/\its.length=ks.length/\∀ (i:Nat) kv v,ks[i]?=some kv->its[i]?=some v->∃ pp key,v=.ref pp/\(aQ X.prog X.w).is kv.1 key=true/\s.heap.IsTuple pp #[key,kv.2]
 | [],kvs,_,h,.nil=>by
  cases (show kvs=[] from h)
  exact ⟨[],.nil,rfl,λi kv v e=>by cases e⟩
 | y :: ys,kvs,_,h,.cons ry rr=>by
  obtain ⟨kv,r,p,rfl,rfl,sq,hr⟩:=h
  obtain ⟨ks,h1,h2,h3⟩:=rZ I hr rr
  obtain ⟨its2,r2,it,_⟩:=I.tuple sq
  obtain ⟨key,u,rfl,rk,ru⟩:=vals2 r2
  cases ry
  refine ⟨(kv.1,u) :: ks,.cons ⟨rfl,ru⟩ h1,by rw [Jm,Jm,h2],λi kv' v e1 e2=>?_⟩
  cases i with
  | zero=>
   cases e1; cases e2
   exact ⟨p,key,rfl,nZ rk,it⟩
  | succ i=>exact h3 i kv' v e1 e2
theorem nG (hc:X.calm=true):bw X (.type "dict") (λxs H Q=>∃ p ys kvs,xs=[.ref p]/\SqL X.K H p ys/\PrV X.K H ys kvs/\∀ q,H q=none->Q (.ref q) (upd H q (.dK (eh [] kvs)))):=by
 intro pins s σ H xs us Q I r h
 obtain ⟨p,ys,kvs,rfl,hq,hp,q⟩:=h
 obtain ⟨u,rfl,rx⟩:=W9 r
 cases rx
 obtain ⟨its,r',⟨o,n,ho,hcl,hdc,hdt⟩,hz⟩:=I.list hq
 obtain ⟨ks,h1,h2,h3⟩:=rZ I hp r'
 obtain ⟨c,dc,dt,sl⟩:=o
 simp only at hcl hdc hdt
 subst hcl hdc hdt
 have l1:=r'.length
 have l2:=h1.length
 refine lD (knd:=aQ X.prog X.w) (items:=its.toArray) (kvs:=ks) (I.ok.hd hc) ho (by simpa using h2) (λi kv v e1 e2=>h3 i kv v e1 (by simpa using e2)) (by omega) λh' tk hm hk=>?_
 have lz:=mS kvs []
 refine ⟨.ref s.heap.objs.size,_,I.laid (t':=tk) hk (Jb _) (show bL X.prog X.w _ h' _ (.dK (eh [] kvs)) from ⟨by simp only [Yg] at lz; omega,?_,_,KV.merge h1 .nil,hm⟩),rfl,q _ (I.hok.fresh (Jb _))⟩
 have:=I.big
 exact Vx.mpr (Qe this)
end
end L2
namespace PD
open PySem PySem.Spec PyProof.Rows L2
noncomputable def nH:List D->Option (List (KD × D))
 | []=>some []
 | .tup [k,v] :: r=>match jd k,nH r with
  | some k',some r'=>some ((k',v) :: r')
  | _,_=>none
 | _=>none
noncomputable def nI:Sto->List D->R D
 | S,[d]=>match jR S d with
  | some a=>match nH a with
   | some kvs=>.ok (.ref S.length) (S ++ [.dic (du [] kvs)])
   | none=>.bad
  | none=>.bad
 | _,_=>.bad
section
variable {X:Cx} {E:XK}
theorem yS {w:Wd} {H:Hp}:∀ {a:List D} {vs:List V} {kvs:List (KD × D)},RDs X.K w H a vs->nH a=some kvs->∃ us,PrV X.K H vs us/\RDk X.K w H kvs us
 | [],vs,kvs,q,h=>by
  cases h
  rw [q.nil_inv]
  exact ⟨[],rfl,.nil⟩
 | d :: a,vs,kvs,q,h=>by
  unfold nH at h
  split at h
  ·rename_i e; cases e
  ·rename_i k v r e
   cases e
   split at h
   ·rename_i k' r' e1 e2
    cases h
    obtain ⟨y,ys,rfl,q1,q2⟩:=q.cons_inv
    obtain ⟨us,p1,p2⟩:=yS q2 e2
    obtain ⟨p,zs,rfl,sq,qz⟩:=q1.tupI
    obtain ⟨z1,z2,rfl,qk,qv⟩:=qz.two_inv
    have ek:=jN qk e1
    subst ek
    exact ⟨(k',z2) :: us,⟨(k',z2),us,p,rfl,rfl,cz sq,p1⟩,.cons qv p2⟩
   ·cases h
  ·cases h
theorem yT (hc:X.calm=true):bw X (.type "dict") (xCR X.K E nI):=by
 rintro pins s σ H xs us Q I r ⟨w,S,ds,hS,qs,p⟩
 unfold nI at p
 split at p
 ·rename_i d
  obtain ⟨v,rfl,q⟩:=qs.one_inv
  split at p
  ·rename_i a ha
   split at p
   ·rename_i kvs hk
    obtain ⟨pa,vs,rfl,sq,ra⟩:=pX hS q ha
    obtain ⟨uk,p1,p2⟩:=yS ra hk
    exact nG hc pins s σ H _ us Q I r ⟨pa,vs,uk,rfl,sq,p1,λt ht=>aE.at p (Ext.alloc ht) hS.lastRef (hS.alloc ht ⟨_,aK,RDk.ext (Ext.alloc ht) _ _ (RDk.merge p2 .nil)⟩)⟩
   ·exact p.elim
  ·exact p.elim
 ·exact p.elim
end
end PD
namespace L2
open PySem PySem.Spec PyProof.Rows
noncomputable def uf (v a:Addr):Heap->Prop:=λh=>h.get? v=some { cls:=.type "dict_values",data:=.fields #[.ref a] }
section
variable {X:Cx}
noncomputable def E6 (td:TE):TE:=λσ H Q=>td σ H λx H1=>∃ a us,x=.ref a/\Rd H1 a (.dK us)/\∀ v,H1 v=none->Q (.ref v) (upd H1 v (.ext (uf v a)))
theorem qh {d:Expr} {td:TE} {apos pos:Pos} (hd:PE X d td) (hbase:autoParam (attributeBase d "values" X.env (eval d X.env)=eval d X.env) Au.h0._auto_1) (hline:autoParam ((apos.endLine == pos.line)=true) Au.h0._auto_1)
  (hfew:autoParam (((backTo pos (starEach [] X.env)).all (λx=>!x.1) && (backToKw pos (keywordEach [] X.env)).all (λx=>x.1.isSome) && decide (([]:List Expr).length + ([]:List Keyword).length + (if ([]:List Keyword).isEmpty then 0 else 1) < 30))=true) Au.h0._auto_1):
  PE X (.Call (.Attribute d "values" apos) [] [] pos) (E6 td):=by
 intro pins s σ H Q I h
 refine Ue (T:="dict") (id:="dict.values") hbase hfew hline F.plainAttrs_dict F.slot_dict_values F.type_dict_values (thn (hd pins s σ H _ I h) λu s1 zq=>?_)
 obtain ⟨x,H1,I1,rx,a,us,ex,rd,q⟩:=zq
 subst ex
 obtain rfl:u=Value.ref a:=rx
 obtain ⟨t1,t2,t3⟩:=tR I1 (a:=a) (.inl ⟨us,rd⟩)
 obtain ⟨z,hdd,vs,rel,dd⟩:=ji I1.hok rd
 refine ⟨t1,t2,?_⟩
 show wpAny _ _ (callWith pos (.builtin "dict.values") [.ref a] [] []) _ _ s1
 refine method_meetsIn F.slot_dict_values F.entry_dict_values rfl (PySem.evalArgs_none ⟨rfl,t1,F.args_dict_values_1 _,_,meets_dict_values (aQ X.prog X.w) a t3,⟨vs,dd⟩,?_⟩)
 refine ⟨.ref s1.heap.objs.size,_,I1.laid (t':=s1.toks) (a:=s1.heap.objs.size) (o:=.ext (uf s1.heap.objs.size a)) (λb u e=>J7 _ e) (Jb _) ⟨Ji _ rfl,⟨_,Ji _ rfl⟩,λh1 h2 e1 k=>k _ e1⟩,rfl,q _ (I1.hok.fresh (Jb _))⟩
theorem qi {us:List (Key × V)} {vs:List (Key × Value)} {ns:List Int} (r:KV us vs) (h:us.map (·.2)=ns.map V.int) (i:Nat) (k:Key) (v:Value) (e:vs[i]?=some (k,v)):∃ t,v=.int ((ns[i]?).getD 0) t:=by
 unfold KV at r
 induction r generalizing i ns with
 | nil=>simp at e
 | @cons p q ps qs hd tl ih=>
  cases ns with
  | nil=>simp at h
  | cons n ns=>
   rw [Jn,Jn] at h
   injection h with h1 h2
   cases i with
   | zero=>
    simp at e
    obtain ⟨_,rv⟩:=hd
    rw [h1] at rv
    obtain ⟨t,z⟩:=rv
    rw [e] at z
    exact ⟨t,by simpa using z⟩
   | succ i=>simpa using ih h2 i (by simpa using e)
theorem ug {H:Hp} {a t:Addr} {u o:HO} (r:Rd H a u) (ht:H t=none):Rd (upd H t o) a u:=by
 rcases r with e | ⟨x,e⟩
 ·exact .inl (by rw [aL (aO e ht)]; exact e)
 ·exact .inr ⟨x,by rw [aL (aO e ht)]; exact e⟩
theorem qj {pins:List (Addr × Obj)} {σ:St} {H:Hp} {s:Shared} {v a:Addr} (I:Inv X pins σ H s) (h:H v=some (.ext (uf v a))):s.heap.get? v=some { cls:=.type "dict_values",data:=.fields #[.ref a] }:=(show bL X.prog X.w H s.heap v (.ext (uf v a)) from I.hok v _ h).1
theorem w8 (hc:X.calm=true):bw X (.builtin "sum") (λxs H Q=>∃ v a us,∃ ns:List Int,xs=[.ref v]/\H v=some (.ext (uf v a))/\Rd H a (.dK us)/\us.map (·.2)=ns.map V.int/\Q (.int ns.sum) H):=by
 intro pins s σ H xs us Q I r h
 obtain ⟨v,a,ku,ns,rfl,hv,rd,hn,q⟩:=h
 obtain ⟨u,rfl,rx⟩:=W9 r
 cases rx
 obtain ⟨z,hdd,vs,rel,dd⟩:=ji I.hok rd
 obtain ⟨ep,dat⟩:=dd.dictAt
 have vw:=qj I hv
 have la:a < s.heap.objs.size:=by obtain ⟨o,es,ho,_⟩:=dat; exact Jk ho
 refine call_sum_walkG (Vz (knd:=aQ X.prog X.w) (d:=a) ⟨_,vw,rfl,rfl⟩ dat ?_)
 refine ⟨s.heap.objs.size,[s.heap.objs.size,a],[s.heap.objs.size],vs.length,_,_,λi=>(ns[i]?).getD 0,rfl,Walks.dictValues (knd:=aQ X.prog X.w) (A:=X.A.in1) (I.ok.hd hc) _ a (Jt la) vs ep,⟨⟨_,Ji _ rfl,rfl,rfl⟩,dat.push _⟩,λb hb=>?_,λi w' hP=>?_,λh' tk t' hk=>?_⟩
 ·simp only [Jg,Jz,Z2] at hb
  rw [Y4]
  rcases hb with rfl | rfl
  ·exact Z6 _
  ·exact Zk la
 ·obtain ⟨k,e⟩:=hP
  exact qi rel hn i k w' e
 ·have hl:vs.length=ns.length:=by rw [<- rel.length,<- Jh (f:=(·.2)),hn,Jh]
  rw [hl,PD.iz ns _ (Jb _),Q9]
  exact ⟨.int _,H,I.kept (Wf hk),⟨t',rfl⟩,q⟩
theorem w9 (hc:X.calm=true):bw X (.builtin "min") (λxs H Q=>∃ v a us,∃ (n:Int) (ns:List Int),xs=[.ref v]/\H v=some (.ext (uf v a))/\Rd H a (.dK us)/\us.map (·.2)=(n :: ns).map V.int/\Q (.int (PD.cW n ns)) H):=by
 intro pins s σ H xs us Q I r h
 obtain ⟨v,a,ku,n,ns,rfl,hv,rd,hn,q⟩:=h
 obtain ⟨u,rfl,rx⟩:=W9 r
 cases rx
 obtain ⟨z,hdd,vs,rel,dd⟩:=ji I.hok rd
 obtain ⟨ep,dat⟩:=dd.dictAt
 have vw:=qj I hv
 have la:a < s.heap.objs.size:=by obtain ⟨o,es,ho,_⟩:=dat; exact Jk ho
 have hl:vs.length=(n :: ns).length:=by rw [<- rel.length,<- Jh (f:=(·.2)),hn,Jh]
 refine call_min_walk (Vz (knd:=aQ X.prog X.w) (d:=a) ⟨_,vw,rfl,rfl⟩ dat ?_)
 refine ⟨s.heap.objs.size,[s.heap.objs.size,a],[s.heap.objs.size],vs.length,_,_,_,rfl,Walks.dictValues (knd:=aQ X.prog X.w) (A:=X.A.in1) (I.ok.hd hc) _ a (Jt la) vs ep,⟨⟨_,Ji _ rfl,rfl,rfl⟩,dat.push _⟩,λb hb=>?_,by rw [hl]; exact Wl _,CmpOf.ints_lt (λi=>((n :: ns)[i]?).getD 0) (λi w' hP=>?_),λw' h' tk hP hk=>?_⟩
 ·simp only [Jg,Jz,Z2] at hb
  rw [Y4]
  rcases hb with rfl | rfl
  ·exact Z6 _
  ·exact Zk la
 ·obtain ⟨k,e⟩:=hP
  exact qi rel hn i k w' e
 ·obtain ⟨k,e⟩:=hP
  obtain ⟨t,rfl⟩:=qi rel hn _ k w' e
  obtain ⟨b1,b2⟩:=argBest_lt (λi=>((n :: ns)[i]?).getD 0) (vs.length - 1)
  generalize argBest (λi j=>decide (((n :: ns)[i]?).getD 0 < ((n :: ns)[j]?).getD 0)) (vs.length - 1)=m at *
  have hm:m < (n :: ns).length:=by rw [hl] at b1; have:0 < (n :: ns).length:=Wl _; omega
  have e1:((n :: ns)[m]?).getD 0 ∈ n :: ns:=by rw [Ja hm]; exact Ws hm
  have e2:∀ x ∈ n :: ns,((n :: ns)[m]?).getD 0<=x:=λx hx=>by
   obtain ⟨j,hj,rfl⟩:=Zy.mp hx
   have:=b2 j (by rw [hl]; omega)
   rw [Ja hj] at this
   exact this
  have eM:((n :: ns)[m]?).getD 0=PD.cW n ns:=by
   obtain ⟨⟨a1,a2⟩,a3⟩:=PD.iV ns n
   have c1:=e2 (PD.cW n ns) (by rcases a3 with e | h; rw [e]; exact .head _; exact .tail _ h)
   have c2:PD.cW n ns<=((n :: ns)[m]?).getD 0:=by
    rcases Jg.mp e1 with e | h
    ·rw [e]; exact a1
    ·exact a2 _ h
   omega
  rw [eM]
  exact ⟨.int _,H,I.kept (Wf hk),⟨t,rfl⟩,q⟩
end
end L2
namespace PD
open PySem PySem.Spec PyProof.Rows L2
noncomputable def jn:List (KD × D)->Option (List Int)
 | []=>some []
 | (_,.int i) :: r=>(jn r).map (i :: ·)
 | _=>none
noncomputable def r8:Sto->D->Option D:=λS d=>match bV S d with
 | some kvs=>(jn kvs).map λns=>.int ns.sum
 | none=>none
noncomputable def r9:Sto->D->Option D:=λS d=>match bV S d with
 | some kvs=>match jn kvs with
  | some (n :: ns)=>some (.int (cW n ns))
  | _=>none
 | none=>none
section
variable {X:Cx} {E:XK}
theorem ql {w:Wd} {H:Hp}:∀ {kvs:List (KD × D)} {us:List (Key × V)} {ns:List Int},RDk X.K w H kvs us->jn kvs=some ns->us.map (·.2)=ns.map V.int
 | [],us,ns,q,h=>by
  cases h
  rw [q.nil_inv]
  rfl
 | (k,d) :: r,us,ns,q,h=>by
  obtain ⟨v,r',rfl,q1,q2⟩:=q.cons_inv
  cases d with
  | int i=>
   unfold jn at h
   cases e:jn r with
   | none=>rw [e] at h; cases h
   | some ms=>
    rw [e] at h; cases h
    cases q1.int
    rw [Jn,Jn,ql q2 e]
  | _=>cases h
variable {d:Expr} {md:EM} {x:Str} {p pos0 apos pos:Pos}
theorem Bd (hc:X.calm=true) (hg:Gl X "sum") (hm:X.mg "sum" = none) (ha:SE X E d md) (hbase:autoParam (attributeBase d "values" X.env (eval d X.env)=eval d X.env) Au.h0._auto_1) (hline:autoParam ((apos.endLine == pos.line)=true) Au.h0._auto_1)
  (hfew:autoParam (((backTo pos (starEach [] X.env)).all (λx=>!x.1) && (backToKw pos (keywordEach [] X.env)).all (λx=>x.1.isSome) && decide (([]:List Expr).length + ([]:List Keyword).length + (if ([]:List Keyword).isEmpty then 0 else 1) < 30))=true) Au.h0._auto_1)
  (he:autoParam (starEach [.Call (.Attribute d "values" apos) [] [] pos] X.env=[(false,eval (.Call (.Attribute d "values" apos) [] [] pos) X.env)]) Au.h0._auto_1):
  SE X E (.Call (.Name "sum" p) [.Call (.Attribute d "values" apos) [] [] pos] [] pos0) (eUn r8 md):=⟨
 aY (jH (w8 hc) hg hm boot_sum (lK (qh ha.out hbase hline hfew) oZ he) (by decide +kernel) (by decide +kernel) he rfl) λs H Q zq=>ex6 zq λw r S hr hS hp=>⟨w,r,S,hr,hS,hp.bind hS λdd S1 w1 H1 v x1 q1 s1 p1=>by
  obtain ⟨z,hz,p⟩:=p1.of
  unfold r8 at hz
  cases ed:bV S1 dd with
  | none=>rw [ed] at hz; cases hz
  | some kvs=>
   rw [ed] at hz
   simp only at hz
   cases ev:jn kvs with
   | none=>rw [ev] at hz; cases hz
   | some ns=>
    rw [ev] at hz; cases hz
    obtain ⟨pp,us,rfl,rd,rk⟩:=gR s1 q1 ed
    exact ⟨pp,us,rfl,rd,λt ht=>⟨t,pp,us,ns,rfl,aK,ug rd ht,ql rk ev,p.at (Ext.new ht) RD.mkI (s1.new ht)⟩⟩⟩⟩
theorem Be (hc:X.calm=true) (hg:Gl X "min") (hm:X.mg "min" = none) (ha:SE X E d md) (hbase:autoParam (attributeBase d "values" X.env (eval d X.env)=eval d X.env) Au.h0._auto_1) (hline:autoParam ((apos.endLine == pos.line)=true) Au.h0._auto_1)
  (hfew:autoParam (((backTo pos (starEach [] X.env)).all (λx=>!x.1) && (backToKw pos (keywordEach [] X.env)).all (λx=>x.1.isSome) && decide (([]:List Expr).length + ([]:List Keyword).length + (if ([]:List Keyword).isEmpty then 0 else 1) < 30))=true) Au.h0._auto_1)
  (he:autoParam (starEach [.Call (.Attribute d "values" apos) [] [] pos] X.env=[(false,eval (.Call (.Attribute d "values" apos) [] [] pos) X.env)]) Au.h0._auto_1):
  SE X E (.Call (.Name "min" p) [.Call (.Attribute d "values" apos) [] [] pos] [] pos0) (eUn r9 md):=⟨
 aY (jH (w9 hc) hg hm boot_min (lK (qh ha.out hbase hline hfew) oZ he) (by decide +kernel) (by decide +kernel) he rfl) λs H Q zq=>ex6 zq λw r S hr hS hp=>⟨w,r,S,hr,hS,hp.bind hS λdd S1 w1 H1 v x1 q1 s1 p1=>by
  obtain ⟨z,hz,p⟩:=p1.of
  unfold r9 at hz
  split at hz
  ·rename_i kvs ed
   split at hz
   ·rename_i n ns ev
    cases hz
    obtain ⟨pp,us,rfl,rd,rk⟩:=gR s1 q1 ed
    exact ⟨pp,us,rfl,rd,λt ht=>⟨t,pp,us,n,ns,rfl,aK,ug rd ht,ql rk ev,p.at (Ext.new ht) RD.mkI (s1.new ht)⟩⟩
   ·cases hz
  ·cases hz⟩⟩
end
noncomputable def se:Sto->List D->Option D
 | S,[d]=>match bS S d with
  | some a=>match intsOf a with
   | some (n :: ns)=>some (.int (gg n ns))
   | _=>none
  | none=>none
 | _,_=>none
theorem yU {n:Int} {ns:List Int} {m:Nat} (hm:m < (n :: ns).length) (h:∀ j,j < (n :: ns).length->((n :: ns)[j]?).getD 0<=((n :: ns)[m]?).getD 0):((n :: ns)[m]?).getD 0=gg n ns:=by
 have e1:((n :: ns)[m]?).getD 0 ∈ n :: ns:=by rw [Ja hm]; exact Ws hm
 have e2:∀ x ∈ n :: ns,x<=((n :: ns)[m]?).getD 0:=λx hx=>by
  obtain ⟨j,hj,rfl⟩:=Zy.mp hx
  have:=h j hj
  rw [Ja hj] at this
  exact this
 obtain ⟨⟨a1,a2⟩,a3⟩:=iX ns n
 have c1:=e2 (gg n ns) (by rcases a3 with e | h; rw [e]; exact .head _; exact .tail _ h)
 have c2:((n :: ns)[m]?).getD 0<=gg n ns:=by
  rcases Jg.mp e1 with e | h
  ·rw [e]; exact a1
  ·exact a2 _ h
 omega
section
variable {X:Cx} {E:XK}
theorem Bf (hc:X.calm=true):bw X (.builtin "max") (xC X.K E se):=by
 rintro pins s σ H xs us Q I r ⟨w,S,ds,hS,qs,p⟩
 obtain ⟨z,hz,p'⟩:=p.of
 clear p
 unfold se at hz
 split at hz
 ·rename_i d
  split at hz
  ·rename_i a ea
   split at hz
   ·rename_i n ns e
    cases hz
    obtain ⟨v,rfl,q⟩:=qs.one_inv
    obtain ⟨pa,vs,rfl,sq,ra⟩:=kE hS q ea
    obtain ⟨u,rfl,ru⟩:=W9 r
    cases ru
    have hlen:=mJ e
    have fin:∀ (its:List Value) (w':Value) (h':Heap) (tk:Nat),Vals vs its->its.toArray[argBest (λi j=>decide (((n :: ns)[i]?).getD 0 > ((n :: ns)[j]?).getD 0)) (its.toArray.size - 1)]?=some w'->(∀ b o,s.heap.get? b=some o->h'.get? b=some o)->EP X pins σ Q w' { s with heap:=h',toks:=tk }:=λits w' h' tk r1 hP hk=>by
     have hsz:its.toArray.size=(n :: ns).length:=by rw [hlen,<- ra.length,r1.length]; simp
     obtain ⟨t,rfl⟩:=iU ra r1 e _ w' (by simpa using hP)
     obtain ⟨b1,b2⟩:=argBest_gt (λi=>((n :: ns)[i]?).getD 0) (its.toArray.size - 1)
     generalize argBest (λi j=>decide (((n :: ns)[i]?).getD 0 > ((n :: ns)[j]?).getD 0)) (its.toArray.size - 1)=m at *
     have h0:0 < (n :: ns).length:=Wl _
     rw [yU (m:=m) (by omega) λj hj=>b2 j (by omega)]
     exact ⟨.int _,H,I.kept hk,⟨t,rfl⟩,p'.ret RD.mkI hS⟩
    rcases sq with sq | sq
    ·obtain ⟨its,r1,⟨o,k,ho,hcl,hdn,hd⟩,_⟩:=I.list sq
     have hlt:pa < s.heap.objs.size:=Jk ho
     have hl:s.heap.IsList pa its.toArray:=⟨o,ho,hcl,k,hd⟩
     refine call_max_walk (Zp hl ?_)
     refine ⟨s.heap.objs.size,[s.heap.objs.size,pa],[s.heap.objs.size],its.toArray.size,_,_,_,rfl,Vq (A:=X.A.in1) (I.ok.hd hc) _ pa (Jt hlt) its.toArray,
      ⟨⟨_,Ji _ rfl,rfl,rfl⟩,hl.push _⟩,λb hb=>?_,?_,CmpOf.ints_gt (λi=>((n :: ns)[i]?).getD 0) (λi v hP=>iU ra r1 e i v (by simpa using hP)),λw' h' tk hP hk=>fin its w' h' tk r1 hP (Wf hk)⟩
     ·simp only [Jg,Jz,Z2] at hb
      rw [Y4]
      rcases hb with rfl | rfl
      ·exact Z6 _
      ·exact Zk hlt
     ·have:its.toArray.size=(n :: ns).length:=by rw [hlen,<- ra.length,r1.length]; simp
      rw [this]; exact Wl _
    ·obtain ⟨its,r1,⟨o,ho,hcl,k,hd⟩,_⟩:=I.tuple sq
     have hlt:pa < s.heap.objs.size:=Jk ho
     have hl:s.heap.IsTuple pa its.toArray:=⟨o,ho,hcl,k,hd⟩
     refine call_max_walk (Wg hl ?_)
     refine ⟨s.heap.objs.size,[s.heap.objs.size,pa],[s.heap.objs.size],its.toArray.size,_,_,_,rfl,Walks.tuple (A:=X.A.in1) (I.ok.hd hc) _ pa (Jt hlt) its.toArray,
      ⟨⟨_,Ji _ rfl,rfl,rfl⟩,hl.push _⟩,λb hb=>?_,?_,CmpOf.ints_gt (λi=>((n :: ns)[i]?).getD 0) (λi v hP=>iU ra r1 e i v (by simpa using hP)),λw' h' tk hP hk=>fin its w' h' tk r1 hP (Wf hk)⟩
     ·simp only [Jg,Jz,Z2] at hb
      rw [Y4]
      rcases hb with rfl | rfl
      ·exact Z6 _
      ·exact Zk hlt
     ·have:its.toArray.size=(n :: ns).length:=by rw [hlen,<- ra.length,r1.length]; simp
      rw [this]; exact Wl _
   ·cases hz
  ·cases hz
 ·cases hz
end
section
variable {X:Cx} {E:XK} {a b c:Expr} {ma mb mc:EM} {pos:Pos}
theorem yV {op op':CmpOp} {f g:Sto->D->D->Option D} (ho:OpR X (compareOp op) (xO X.K E f)) (ho':OpR X (compareOp op') (xO X.K E g)) (ha:SE X E a ma) (hb:SE X E b mb) (hc:SE X E c mc)
  (hm:autoParam (lastMarks [op,op'] [b,c]=false) Au.h0._auto_1):ST X E (.Compare a [op,op'] [b,c] pos) (tV (gQ f g ma mb mc)):=⟨
 lL (xP ho ho' ha.out hb.out hc.out hm) λs H Q q=>by
  obtain ⟨w,r,S,hr,hS,hp⟩:=yd q
  refine ⟨w,r,S,hr,hS,hp.bind hS λd S1 w1 H1 v x1 q1 s1 p1=>⟨w1,r,S1,hr.ext x1,s1,p1.bind s1 λe S2 w2 H2 u x2 q2 s2 p2=>?_⟩⟩
  refine ⟨w2,S2,d,e,s2,RD.ext x2 d v q1,q2,?_⟩
  cases hf:f S2 d e with
  | none=>rw [hf] at p2; exact p2.elim
  | some z=>
   rw [hf] at p2
   intro w3 H3 z' x3 q3 s3
   cases z with
   | bl k=>
    unfold RD at q3
    subst q3
    refine ⟨k,rfl,?_⟩
    cases k with
    | true=>
     refine pz ⟨w3,r,S2,((hr.ext x1).ext x2).ext x3,s3,?_⟩
     have p3:=aE.ext p2 x3 s2 s3
     refine p3.bind s3 λt S4 w4 H4 u' x4 q4 s4 p4=>⟨w4,S4,e,t,s4,RD.ext x4 e u (RD.ext x3 e u q2),q4,p4⟩
    | false=>exact pq (aE.at p2 x3 (by unfold RD; rfl) s3)
   | _=>exact p2.elim⟩
end
end PD
namespace PD
open PySem PySem.Spec PyProof.Rows L2
open AutoSeq1 (wpAny_loadPart')
open MeetsSeq MeetsSeq2 MeetsSeq3 SeqRoads2 PySem.SeqAt
theorem args_min1 (a:Value):argsOk "min" ⟨[a],[]⟩:=by unfold argsOk; kernel_rfl
theorem vt {K:PySem.W.Frag} {w:Wd} {H:Hp}:∀ {kvs:List (KD × D)} {us:List (Key × V)},RDk K w H kvs us->RDs K w H (kvs.map (·.2)) (us.map (·.2))
 | [],us,q=>by rw [q.nil_inv]; exact .nil
 | (k,d) :: r,us,q=>by
  obtain ⟨v,r',rfl,q1,q2⟩:=q.cons_inv
  exact .cons q1 (vt q2)
theorem DK {us:List (Key × V)} {vs:List (Key × Value)} (r:KV us vs):Vals (us.map (·.2)) (vs.map (·.2)):=by
 unfold KV at r
 induction r with
 | nil=>exact .nil
 | cons hd tl ih=>exact .cons hd.2 ih
noncomputable def mT:Sto->D->Option D:=λS d=>match bV S d with
 | some kvs=>match eT (kvs.map (·.2)) with
  | some (n :: ns)=>some (.tup ((fK n ns).map .int))
  | _=>none
 | none=>none
section
variable {X:Cx} {E:XK}
theorem uh {k:Nat} (hc:X.calm=true) (hr:Room k X.A):bw X (.builtin "min") (λxs H Q=>∃ v a us,∃ (w:Wd) (kvs:List (KD × D)) (n:List Int) (ns:List (List Int)),xs=[.ref v]/\H v=some (.ext (uf v a))/\Rd H a (.dK us)/\RDk X.K w H kvs us/\eT (kvs.map (·.2))=some (n :: ns)/\∀ y,RD X.K w H (.tup ((fK n ns).map .int)) y->Q y H):=by
 intro pins s σ H xs us Q I r h
 obtain ⟨v,a,ku,w,kvs,n,ns,rfl,hv,rd,rk,e,q⟩:=h
 obtain ⟨u,rfl,rx⟩:=W9 r
 cases rx
 obtain ⟨z,hdd,vs,rel,dd⟩:=ji I.hok rd
 obtain ⟨ep,dat⟩:=dd.dictAt
 have vw:=qj I hv
 have la:a < s.heap.objs.size:=by obtain ⟨o,es,ho,_⟩:=dat; exact Jk ho
 obtain ⟨t,g⟩:=jU I (vt rk) (DK rel) e
 have hl:vs.length=ns.length + 1:=by have:=t.1; rw [Jh] at this; rw [this]; rfl
 have hcmp:t9 X.prog X.w X.A.in1 s.heap (λi w'=>∃ k,vs[i]?=some (k,w')) λi j=>ltZ ((n :: ns).getD i []) ((n :: ns).getD j []):=by
  intro i j vi vj s1 Q1 E1 hk hi hj h
  obtain ⟨ki,hi⟩:=hi
  obtain ⟨kj,hj⟩:=hj
  exact kL (A:=X.A.in1) t (by have:=hr.un; show X.A.units + 1 < cLine; omega) i j vi vj s1 Q1 E1 hk (by show (List.map (λx=>x.snd) vs).toArray[i]?=some vi; rw [List.getElem?_toArray,Yx,hi]; rfl) (by show (List.map (λx=>x.snd) vs).toArray[j]?=some vj; rw [List.getElem?_toArray,Yx,hj]; rfl) h
 have hname:(toString "min" ++ toString ".loop":String) = "min.loop":=by decide
 refine lP (kw:=[]) F.kind_min F.plain_min F.entry_min (args_min1 _) ?_
 show wpAny _ X.A.in1 (Builtin.Builtins.bindParams "min" ["key","default"] 0 ⟨[],[]⟩ >>= _) _ _ s
 refine J6 (Qx (show Builtin.Builtins.bindParams "min" ["key","default"] 0 ⟨[],[]⟩=pure [none,none] from rfl) ?_)
 refine J6 (Jd ?_)
 refine J6 (Vz (knd:=aQ X.prog X.w) (d:=a) ⟨_,vw,rfl,rfl⟩ dat ?_)
 refine J6 (Ym ?_)
 have W:=Walks.dictValues (knd:=aQ X.prog X.w) (A:=X.A.in1) (I.ok.hd hc) s.heap.objs.size a (Jt la) vs ep
 have hSf:s.heap.objs.size + 1 ∉ [s.heap.objs.size,a]:=λhm=>by
  rcases Jg.mp hm with e | hm
  ·exact absurd e (Vf _)
  ·rcases Jg.mp hm with e | hm
   ·exact Q4 _ (Uh (e ▸ la:s.heap.objs.size + 1 < s.heap.objs.size))
   ·cases hm
 rw [hname]
 refine Jd ⟨Qh Zi _,?_⟩
 have hsz:∀ o:Obj,(s.heap.push o).objs.size=s.heap.objs.size + 1:=λo=>Y4 ..
 show codeAny _ X.A (.builtin "min.loop" ⟨[.ref s.heap.objs.size,.none,.ref (s.heap.push _).objs.size],_⟩) _ _
 rw [hsz]
 refine jy (h0:=s.heap) W hcmp hSf (λb hb=>?_) (Zx (Wv _)) (by omega) (W.frame _ _ _ ⟨⟨_,Ji _ rfl,rfl,rfl⟩,dat.push _⟩ λb _ o e=>J7 _ e) (by rw [<- hsz]; exact Ji _ rfl)
  (λb o e=>J7 _ (J7 _ e)) λv' h' tk hP hk=>?_
 ·simp at hb; rw [hb]; exact Zx (Jb _)
 ·obtain ⟨kk,hP⟩:=hP
  obtain ⟨y,ry,rdy⟩:=g _ v' (by rw [Yx,hP]; rfl)
  obtain ⟨_,b2⟩:=kK (n :: ns) (vs.length - 1) (by rw [hl]; exact Z6 _)
  have b3:fK ((n :: ns).getD 0 []) (((n :: ns).drop 1).take (vs.length - 1))=fK n ns:=by
   rw [hl]
   show fK n (ns.take ns.length)=fK n ns
   rw [Q9]
  rw [b2,b3] at rdy
  exact ⟨y,H,I.kept (t':=tk) hk,ry,q y rdy⟩
variable {d:Expr} {md:EM} {x:Str} {p pos0 apos pos:Pos}
theorem yW {k:Nat} (hc:X.calm=true) (hr:Room k X.A) (hg:Gl X "min") (hm:X.mg "min" = none) (ha:SE X E d md) (hbase:autoParam (attributeBase d "values" X.env (eval d X.env)=eval d X.env) Au.h0._auto_1) (hline:autoParam ((apos.endLine == pos.line)=true) Au.h0._auto_1)
  (hfew:autoParam (((backTo pos (starEach [] X.env)).all (λx=>!x.1) && (backToKw pos (keywordEach [] X.env)).all (λx=>x.1.isSome) && decide (([]:List Expr).length + ([]:List Keyword).length + (if ([]:List Keyword).isEmpty then 0 else 1) < 30))=true) Au.h0._auto_1)
  (he:autoParam (starEach [.Call (.Attribute d "values" apos) [] [] pos] X.env=[(false,eval (.Call (.Attribute d "values" apos) [] [] pos) X.env)]) Au.h0._auto_1):
  SE X E (.Call (.Name "min" p) [.Call (.Attribute d "values" apos) [] [] pos] [] pos0) (eUn mT md):=⟨
 aY (jH (uh hc hr) hg hm boot_min (lK (qh ha.out hbase hline hfew) oZ he) (by decide +kernel) (by decide +kernel) he rfl) λs H Q zq=>ex6 zq λw r S hr hS hp=>⟨w,r,S,hr,hS,hp.bind hS λdd S1 w1 H1 v x1 q1 s1 p1=>by
  obtain ⟨z,hz,p⟩:=p1.of
  unfold mT at hz
  split at hz
  ·rename_i kvs ed
   split at hz
   ·rename_i n ns ev
    cases hz
    obtain ⟨pp,us,rfl,rd,rk⟩:=gR s1 q1 ed
    exact ⟨pp,us,rfl,rd,λt ht=>⟨t,pp,us,w1,kvs,n,ns,rfl,aK,ug rd ht,RDk.ext (Ext.new ht) _ _ rk,ev,λy ry=>p.at (Ext.new ht) ry (s1.new ht)⟩⟩
   ·cases hz
  ·cases hz⟩⟩
end
end PD
namespace PD
open PySem PySem.Spec PyProof.Rows L2
noncomputable def xc:List D->Option (Int × Int)
 | [.int i,.int j]=>if -(2 ^ 62)<=i/\i < 2 ^ 62/\-(2 ^ 62)<=j/\j < 2 ^ 62 then some (i,j) else none
 | _=>none
theorem yX {xs:List D} {i j:Int} (h:xc xs=some (i,j)):xs=[.int i,.int j]/\(-(2 ^ 62)<=i/\i < 2 ^ 62/\-(2 ^ 62)<=j/\j < 2 ^ 62):=by
 unfold xc at h
 split at h
 ·split at h
  ·rename_i hb; cases h; exact ⟨rfl,hb⟩
  ·cases h
 ·cases h
noncomputable def j3 (t:AM):AM:=λr S=>(t r S).bind λxs S1=>match xc xs with
 | some (i,j)=>.ok ((List.range (j - i).toNat).map λ(m:Nat)=>D.int (i + m)) S1
 | none=>.bad
section
variable {X:Cx} {E:XK} {a b:Expr} {pos:Pos}
theorem xf {tg:Expr} {ms:AM} {p:Pos} (hg:Gl X "range") (hm:X.mg "range" = none) (ha:SA X E [a,b] ms) (hs:autoParam (starEach [a,b] X.env=[(false,eval a X.env),(false,eval b X.env)]) Au.h0._auto_1) (hs2:autoParam (starEach [b] X.env=[(false,eval b X.env)]) Au.h0._auto_1):SI X E tg (.Call (.Name "range" p) [a,b] [] pos) (j3 ms):=⟨
 fg (wq hg hm ha.out hs hs2) λs H Q zq=>ex6 zq λw r S hr hS hp=>⟨w,r,S,hr,hS,hp.bind hS λds S1 w1 H1 vs x1 q1 s1 p1=>by
  cases hq:xc ds with
  | none=>rw [hq] at p1; exact p1.elim
  | some ij=>
   obtain ⟨i,j⟩:=ij
   rw [hq] at p1
   obtain ⟨rfl,hb⟩:=yX hq
   obtain ⟨v1,rest,rfl,a1,q1⟩:=q1.cons_inv
   obtain ⟨v2,rfl,a2⟩:=q1.one_inv
   unfold RD at a1 a2
   subst a1 a2
   refine ⟨i,j,rfl,hb,aE.ret p1 ?_ s1⟩
   intro m w' H' x'
   refine ⟨λhi=>⟨show m < (j - i).toNat by simpa using hi,λx H'' y=>?_⟩,λhi=>show (j - i).toNat<=m by simpa using hi⟩
   obtain ⟨rfl,rfl⟩:=y
   refine ⟨.inl rfl,λS _=>⟨.int (i + m),?_,?_⟩⟩
   ·have:m < (j - i).toNat:=by simpa using hi
    simp [this]
   ·unfold RD; rfl⟩⟩
end
end PD
namespace PySem
open PyProof.Rows
section
variable {prog:Program} {w:World} {A:Around} {E:Value->Shared->Prop} {s:Shared} {K:Type} [DecidableEq K] {knd:KeyKind prog w K}
theorem qm {a b:Addr} {vs vs':List (K × Value)} {ep ep':Nat} {Q:Value->Shared->Prop} (ha:(a == sysModules)=false) (hb:(b == sysModules)=false) (dA:s.heap.DictAt knd a vs ep) (dB:s.heap.DictAt knd b vs' ep')
  (iA:∀ kv ∈ vs,∃ n t,kv.2=.int n t) (iB:∀ kv ∈ vs',∃ n t,kv.2=.int n t) (h:Q (.bool (dW vs vs')) s):wpAny (model prog w) A (Builtin.«dict.__eq__» ⟨[.ref a,.ref b],[]⟩) (λfin s'=>∃ v,fin=.done (.ret v)/\v ≠ .notImplemented/\Q v s') E s:=by
 have hT:=dA.dictOf.typeIs
 have hT':=dB.dictOf.typeIs
 show wpAny _ A (Builtin.Dict.dictSlotArgs "__eq__" ⟨[.ref a,.ref b],[]⟩ >>= _) _ _ s
 unfold Builtin.Dict.dictSlotArgs
 refine J6 (J6 (wpAny_notOrdered_dict hT ?_))
 refine J6 (Qx (a:=(Value.ref a,[Value.ref b])) rfl ?_)
 refine Jd ?_
 refine J6 (Vc hT' (b:=true) F.sub_dict_dict ?_)
 rw [Jc (by decide)]
 refine J6 (Qx (a:=a) rfl ?_)
 refine J6 (Qx (a:=b) rfl ?_)
 refine J6 (t8 ha hb dA dB iA iB ?_)
 refine Jd ⟨_,rfl,(λz=>by cases z),?_⟩
 have e:(dW vs vs' == true)=dW vs vs':=by cases dW vs vs' <;> rfl
 first | exact h | (rw [e]; exact h)
theorem Bg {a b:Addr} {vs vs':List (K × Value)} {ep ep':Nat} {Q:Value->Shared->Prop} (ha:(a == sysModules)=false) (hb:(b == sysModules)=false) (dA:s.heap.DictAt knd a vs ep) (dB:s.heap.DictAt knd b vs' ep')
  (iA:∀ kv ∈ vs,∃ n t,kv.2=.int n t) (iB:∀ kv ∈ vs',∃ n t,kv.2=.int n t) (hu:A.units < cLine) (h:Q (.bool (dW vs vs')) s):wpAny (model prog w) A (compareOp .Eq (.ref a) (.ref b)) Q E s:=by
 have hT:s.TypeIs (.ref a) "dict":=dA.dictOf.typeIs
 have hT':s.TypeIs (.ref b) "dict":=dB.dictOf.typeIs
 have hc:wpAny (model prog w) A (call (.builtin "dict.__eq__") [.ref a,.ref b]) (λv s'=>v ≠ .notImplemented/\Q v s') E s:=Zf F.slot_dict_eq hT F.entry_dict_eq (qm ha hb dA dB iA iB h) (F.args_dict_eq_2 _ _)
 have hr:wpAny (model prog w) A (richCompare .Eq (.ref a) (.ref b)) Q E s:=wpAny_richCompare_same_room (op:=.Eq) (T:="dict") (id:="dict.__eq__") hT hT' F.slot_dict_eq hc hu
 exact hr
end
end PySem
namespace PD
open PySem PySem.Spec PyProof.Rows L2
noncomputable def qo:Sto->D->D->Option D:=λS x y=>match bV S x,bV S y with
 | some k1,some k2=>match jT k1,jT k2 with
  | some T1,some T2=>some (.bl (yF T1 T2))
  | _,_=>none
 | _,_=>jw S x y
section
variable {X:Cx} {E:XK}
theorem DL {k:Nat} (hr:Room k X.A):OpR X (compareOp .Eq) (xO X.K E qo):=by
 rintro pins s σ H x y v u Q I rx ry ⟨w,S,d,e,hS,qd,qe,p⟩
 obtain ⟨z,hz,p'⟩:=p.of
 unfold qo at hz
 split at hz
 ·rename_i k1 k2 h1 h2
  split at hz
  ·rename_i T1 T2 t1 t2
   cases hz
   obtain ⟨pp,us,rfl,rd,rk⟩:=gR hS qd h1
   obtain ⟨pp2,us2,rfl,rd2,rk2⟩:=gR hS qe h2
   cases rx
   cases ry
   obtain ⟨zl,hs1,vs,rel,⟨o,es,ep,ho⟩⟩:=rd.ok I.hok
   obtain ⟨zl2,hs2,vs2,rel2,⟨o2,es2,ep2,ho2⟩⟩:=rd2.ok I.hok
   have v1:=yG t1 rk rel
   have v2:=yG t2 rk2 rel2
   refine Bg (knd:=aQ X.prog X.w) hs1 hs2 ⟨o,es,ho⟩ ⟨o2,es2,ho2⟩ v1.ints v2.ints (by have:=hr.units; omega) ?_
   rw [v1.same v2]
   exact ⟨.bl _,H,I,rfl,p'.ret RD.mkB hS⟩
  ·cases hz
 ·rename_i hnn
  exact mK hr pins s σ H x y v u Q I rx ry ⟨w,S,d,e,hS,qd,qe,by
   have:qo S d e=jw S d e:=by
    unfold qo
    split
    ·rename_i k1 k2 h1 h2
     exact (hnn k1 k2 h1 h2).elim
    ·rfl
   rw [<- this]; exact p⟩
end
section
variable {X:Cx} {E:XK} {a b:Expr} {es:List Expr} {ms:AM} {x:Str} {p pos:Pos}
omit X E a b es ms x p pos in
end
end PD
namespace ST
open PySem PySem.Spec PyProof.Rows
noncomputable abbrev ik (prog:Program) (w:World):KeyKind prog w Int:=intKind prog w
end ST
namespace PD
open PySem PySem.Spec PyProof.Rows L2
section
variable {X:Cx} {E:XK}
mutual
theorem B5 {pins:List (Addr × Obj)} {σ:L2.St} {H:Hp} {s:Shared} {w:Wd} (I:Inv X pins σ H s) (hz:H sysModules=none):∀ (d:D) (v:V) (u:Value) (p:PyData),RD X.K w H d v->RelV v u->toPy d=some p->∃ as,Reads s.heap u p as/\sysModules ∉ as
 | .non,v,u,p,q,r,h=>by cases q.non; cases (show u=Value.none from r); unfold toPy at h; cases h; exact ⟨_,.none,λz=>nomatch z⟩
 | .bl b,v,u,p,q,r,h=>by cases q.bl; cases (show u=Value.bool b from r); unfold toPy at h; cases h; exact ⟨_,.bool b,λz=>nomatch z⟩
 | .int i,v,u,p,q,r,h=>by cases q.int; obtain ⟨t,rfl⟩:=(show ∃ t,u=Value.int i t from r); unfold toPy at h; cases h; exact ⟨_,.int i t,λz=>nomatch z⟩
 | .str x,v,u,p,q,r,h=>by cases q.str; obtain ⟨t,rfl⟩:=(show ∃ t,u=Value.str x t from r); unfold toPy at h; cases h; exact ⟨_,.str x t,λz=>nomatch z⟩
 | .tup ds,v,u,p,q,r,h=>by
  obtain ⟨a,vs,rfl,z,rs⟩:=q.tupI
  cases (show u=Value.ref a from r)
  unfold toPy at h
  cases e:eN ds with
  | none=>rw [e] at h; cases h
  | some ps=>
   rw [e] at h; cases h
   obtain ⟨its,r1,⟨o,ho,hc,n,hd⟩,_⟩:=I.tuple (cz z)
   obtain ⟨as,ra,hn⟩:=ui I hz ds vs its ps rs r1 e
   exact ⟨as,.tuple ho hc hd ra,hn⟩
 | .lst ds,v,u,p,q,r,h=>by
  obtain ⟨a,vs,rfl,z,rs⟩:=q.lstI
  cases (show u=Value.ref a from r)
  unfold toPy at h
  cases e:eN ds with
  | none=>rw [e] at h; cases h
  | some ps=>
   rw [e] at h; cases h
   obtain ⟨its,r1,⟨o,n,ho,hc,_,hd⟩,_⟩:=I.list (SqL.of z.1)
   obtain ⟨as,ra,hn⟩:=ui I hz ds vs its ps rs r1 e
   refine ⟨a :: as,.list ho hc hd ra,λhm=>?_⟩
   rcases Jg.mp hm with hm | hm
   ·have z1:=z.1
    rw [<- hm,hz] at z1; cases z1
   ·exact hn hm
 | .dic kvs,v,u,p,q,r,h=>by
  unfold RD at q
  obtain ⟨a,us,rfl,z,rk⟩:=q
  cases (show u=Value.ref a from r)
  unfold toPy at h
  cases e:hJ kvs with
  | none=>rw [e] at h; cases h
  | some ps=>
   rw [e] at h; cases h
   obtain ⟨_,hsys,vs,kv,o,es,ep,ho,hex,hd,_,hp,_⟩:=(show bL X.prog X.w H s.heap a (.dK us) from I.hok a _ z.1)
   obtain ⟨as,bs,ra,rb,hn⟩:=yY I hz kvs us vs es.toList ps rk kv hp e
   refine ⟨a :: as ++ bs,.dict ho hex.1 hd ra rb,λhm=>?_⟩
   rcases Jp.mp hm with hm | hm
   ·rcases Jg.mp hm with hm | hm
    ·rw [<- hm] at hsys; simp at hsys
    ·exact hn.1 hm
   ·exact hn.2 hm
 | .fz _,_,_,_,_,_,h=>by unfold toPy at h; cases h
 | .ref _,_,_,_,_,_,h=>by unfold toPy at h; cases h
 | .ty _,_,_,_,_,_,h=>by unfold toPy at h; cases h
 | .exc _,_,_,_,_,_,h=>by unfold toPy at h; cases h
 | .cls _,_,_,_,_,_,h=>by unfold toPy at h; cases h
theorem ui {pins:List (Addr × Obj)} {σ:L2.St} {H:Hp} {s:Shared} {w:Wd} (I:Inv X pins σ H s) (hz:H sysModules=none):∀ (ds:List D) (vs:List V) (us:List Value) (ps:List PyData),RDs X.K w H ds vs->Vals vs us->eN ds=some ps->∃ as,ReadsAll s.heap us ps as/\sysModules ∉ as
 | [],vs,us,ps,q,r,h=>by
  rw [q.nil_inv] at r
  cases r
  unfold eN at h
  cases h
  exact ⟨_,.nil,λz=>nomatch z⟩
 | d :: ds,_,us,ps,q,r,h=>by
  obtain ⟨v,vs,rfl,p,t⟩:=q.cons_inv
  unfold eN at h
  cases e1:toPy d with
  | none=>rw [e1] at h; cases h
  | some p1=>
   cases e2:eN ds with
   | none=>rw [e1,e2] at h; cases h
   | some p2=>
    rw [e1,e2] at h; cases h
    cases r with
    | cons r1 r2=>
     obtain ⟨as,ra,h1⟩:=B5 I hz d v _ p1 p r1 e1
     obtain ⟨bs,rb,h2⟩:=ui I hz ds vs _ p2 t r2 e2
     exact ⟨as ++ bs,.cons ra rb,λhm=>(Jp.mp hm).elim h1 h2⟩
theorem yY {pins:List (Addr × Obj)} {σ:L2.St} {H:Hp} {s:Shared} {w:Wd} (I:Inv X pins σ H s) (hz:H sysModules=none):∀ (ds:List (Sum Int Str × D)) (us:List (Key × V)) (vs:List (Key × Value)) (es:List DictEntry) (ps:List (PyData × PyData)),RDk X.K w H ds us->KV us vs->Pairs (aQ X.prog X.w) es vs->hJ ds=some ps->
  ∃ as bs,ReadsAll s.heap (es.map (·.key)) (ps.map (·.1)) as/\ReadsAll s.heap (es.map (·.val)) (ps.map (·.2)) bs/\sysModules ∉ as/\sysModules ∉ bs
 | [],us,vs,es,ps,q,r,hp,h=>by
  unfold RDk at q
  subst q
  cases r
  unfold hJ at h
  cases h
  cases hp
  exact ⟨_,_,.nil,.nil,(λz=>nomatch z),(λz=>nomatch z)⟩
 | (k,d) :: ds,us,vs,es,ps,q,r,hp,h=>by
  unfold RDk at q
  obtain ⟨v,ur,rfl,p,t⟩:=q
  unfold hJ at h
  cases e1:toPy d with
  | none=>rw [e1] at h; cases h
  | some p1=>
   cases e2:hJ ds with
   | none=>rw [e1,e2] at h; cases h
   | some p2=>
    rw [e1,e2] at h; cases h
    cases r with
    | cons r1 r2=>
     cases hp with
     | cons hk hv hr=>
      rename_i q0 vr e0 es0
      obtain ⟨k',v'⟩:=q0
      obtain ⟨ek,rv⟩:=r1
      have ek':k=k':=ek
      subst ek'
      obtain ⟨as,ra,h1⟩:=B5 I hz d v _ p1 p rv e1
      obtain ⟨as2,bs2,ra2,rb2,h2⟩:=yY I hz ds ur vr es0 p2 t r2 hr e2
      have hkey:∃ cs,Reads s.heap e0.key (yo k) cs/\cs=[]:=by
       rcases bH hk with ⟨i,tk,z1,z2⟩ | ⟨x,tk,z1,z2⟩
       ·have z1':k=Sum.inl i:=z1
        subst z1'
        rw [z2]
        exact ⟨_,.int i tk,rfl⟩
       ·have z1':k=Sum.inr x:=z1
        subst z1'
        rw [z2]
        exact ⟨_,.str x tk,rfl⟩
      obtain ⟨cs,rc,ec⟩:=hkey
      subst ec
      have hv':e0.val=v':=hv
      exact ⟨[] ++ as2,as ++ bs2,.cons rc ra2,.cons (by show Reads s.heap e0.val p1 as; rw [hv']; exact ra) rb2,by rw [Z4]; exact h2.1,λhm=>(Jp.mp hm).elim h1 h2.2⟩
end
variable {a:Expr} {ms:AM} {x1 x2:Str} {p1 p2 q1 q2:Pos}
end
theorem vL {X:Cx} {E:XK} (i:Nat) {x:Str} {pos:Pos} (hN:X.N[i]?=some x:=by kernel_rfl) (hv:X.env.scope.names.lookup x=some .local:=by kernel_rfl) (hd:(x == ("__debug__":Str))=false:=by decide +kernel) (hcd:(x == ("__classdict__":Str))=false:=by decide +kernel):SE X E (.Name x pos) (ag i):=yb i hN (Or.inl hv) hd hcd
theorem vC {X:Cx} {E:XK} (i:Nat) {x:Str} {pos:Pos} (hN:X.N[i]?=some x:=by kernel_rfl) (hv:X.env.scope.names.lookup x=some .cell:=by kernel_rfl) (hd:(x == ("__debug__":Str))=false:=by decide +kernel) (hcd:(x == ("__classdict__":Str))=false:=by decide +kernel):SE X E (.Name x pos) (ag i):=yb i hN (Or.inr (Or.inl hv)) hd hcd
theorem fsk {N P:List Str} {sc:Scope} (a:sc.kind=.function:=by kernel_rfl) (b:sc.isCoroutine=false:=by kernel_rfl) (c:sc.isGenerator=false:=by kernel_rfl) (d:N.Nodup:=by decide +kernel) (e:N.take P.length=P:=by rfl) (f:∀ x∈P,sc.names.lookup x=some .local \/ sc.names.lookup x=some .cell:=by decide +kernel) (g:∀ y∈sc.names,y.2≠.free:=by decide +kernel):FnScope N P sc:=⟨a,b,c,d,e,f,g⟩
end PD
theorem J0 {α:Sort _} {a b:α} (h:a=b:=by kernel_rfl):a=b:=h
theorem J2 {α:Sort _} {a b:α} {p:Prop} (h:a=b:=by kernel_rfl):a=b \/ p:=Or.inl h
theorem J3 {α:Sort _} {a b:α} {p q:Prop} (h:a=b:=by kernel_rfl):p \/ a=b \/ q:=Or.inr (Or.inl h)
theorem J5 {p:Prop} [Decidable p] (h:p:=by decide +kernel):p:=h
open L2 in
theorem J1 {X:Cx} {x:PySem.Str} (h:Gl X x:=by unfold Gl; kernel_rfl):Gl X x:=h
namespace Lw
open PySem PySem.Spec PyProof.Rows L2 PD
variable {b j v c x q:Int} {S S1 S2 S0 S3:Sto} {n i m:Nat} {e a o:EM} {tl r ρ:Rho} {xs K ss p A B L:List Int} {it t:AM} {caps:List Nat} {f:Addr} {T:List (Int × Int)} {Ls:List (List Int)} {fd:FuncData}
noncomputable def raisedX:List Str:=[]
noncomputable def askedX:List Str:=[]
noncomputable def isaX (c k:Str):Bool:=c == k || k == "PlusError"
noncomputable abbrev fO:Stmt:=top 48
noncomputable def gU:SM:=(aA (aI 2 (eOp bb (eOp cx (eC (.int 7919)) (ag 1)) (eC (.int 13)))) (aA (sIf (tV (eOp oLt (ag 1) (eB dq (af (ag 0) ak)))) (aI 2 (eOp oIx (ag 0) (ag 1))) bI) (aA (sIf (tV (eOp jw (eOp oMod (ag 2) (eC (.int 2))) (eC (.int 0)))) (bf (eNew (af (eOp jk (ag 2) (eC (.int 2))) ak))) bI) (aA (aI 3 (eC (.int 0))) (aA (er (cU (af (eC (.int 16)) ak)) (.nm 4) (aA (aI 5 (eOp oMod (eOp bb (eOp bb (eOp cx (eOp oMod (ag 2) (eC (.int 2147483647))) (eC (.int 48271))) (eOp cx (eC (.int 7919)) (ag 4))) (eC (.int 1))) (eC (.int 2147483647)))) (aA (aI 5 (eOp oMod (eOp cx (ag 5) (ag 5)) (eC (.int 2147483629)))) (aI 3 (eOp bb (eOp cx (ag 3) (eC (.int 2147483647))) (eOp oMod (eOp cx (ag 5) (eOp bb (ag 5) (eC (.int 13)))) (eC (.int 2147483647)))))))) (bf (eNew (af (ag 3) ak))))))))
noncomputable def dG:FM:=fnM 6 gU
noncomputable abbrev fP:Stmt:=top 8
noncomputable def jA:SM:=(bf (lx (eB ie (af (ag 0) (af (eC (.ty "int")) ak))) (C6 (eB ie (af (ag 0) (af (eC (.ty "bool")) ak))))))
noncomputable def ba:FM:=fnM 1 jA
noncomputable abbrev cX:Stmt:=top 12
noncomputable def eU:SM:=(sIf (PD.ff (tV (ax ba (af (ag 0) ak)))) wH bI)
noncomputable def cf:FM:=fnM 1 eU
noncomputable abbrev iY:Stmt:=top 10
noncomputable def iE:SM:=(aA (sIf (PD.tOr (PD.ff (tV (eB ie (af (ag 0) (af (eC (.ty "tuple")) ak))))) (tV (eOp oGt (eB dq (af (ag 0) ak)) (eC (.int (16)))))) (bf (eC (.bl false))) bI) (bf (eB gx (af (bB (cc (ag 0) bC) 1 [] (.nm 0) bZ (lx (ax ba (af (ag 0) ak)) (eOp oGe (ag 0) (eC (.int 1))))) ak))))
noncomputable def eQ:FM:=fnM 1 iE
noncomputable abbrev eD:Stmt:=top 11
noncomputable def gW:SM:=(sIf (PD.ff (tV (ax eQ (af (ag 0) ak)))) wH bI)
noncomputable def aM:FM:=fnM 1 gW
noncomputable abbrev bE:Stmt:=top 13
noncomputable def dM:SM:=(aA (cj (ax aM (af (ag 0) ak))) (cj (ax cf (af (ag 1) ak))))
noncomputable def aH:FM:=fnM 2 dM
noncomputable abbrev dY:Stmt:=top 37
noncomputable def jo:SM:=(bf (eBR nI (af (bB (fE (ag 0)) 2 [1] (.tp [(.nm 0),(.nm 1)]) (tV (eOp oLe (eB gw (af (ag 0) ak)) (ag 2))) (eg (af (ag 0) (af (ag 1) ak)))) ak)))
noncomputable def bc:FM:=fnM 2 jo
noncomputable abbrev gX:Stmt:=top 24
noncomputable def oD:SM:=(aA (aI 3 vn) (aA (er (fE (ag 0)) (.tp [(.nm 4),(.nm 5)]) (er (cc (ag 2) bC) (.nm 6) (aA (aI 7 (eOp bb (ag 4) (eOp cx (ag 6) (ag 1)))) (jI fN (eOp bb (fD (ag 3) (ag 7) (eC (.int 0))) (ag 5)) (ag 3) (ag 7))))) (bf (ag 3))))
noncomputable def cY:FM:=fnM 8 oD
noncomputable abbrev cZ:Stmt:=top 39
noncomputable def hU:SM:=(aA (aI 2 (ax bc (af (jl [((eC (.int 0)),(eC (.int 1)))]) (af (ag 1) ak)))) (aA (aI 3 (eNew (af (ag 2) ak))) (aA (er (cc (ag 0) bC) (.nm 4) (aA (aI 2 (ax bc (af (ax cY (af (ag 2) (af (ag 4) (af (eC (.tup (([(-1),(1)]:List Int).map .int))) ak)))) (af (ag 1) ak)))) (cj (ly cK (ag 3) (af (ag 2) ak))))) (bf (ag 3)))))
noncomputable def bP:FM:=fnM 5 hU
noncomputable abbrev dZ:Stmt:=top 40
noncomputable def jq:SM:=(aA (cj (ax aH (af (ag 0) (af (ag 1) ak)))) (aA (aI 2 (eOp oIx (ax bP (af (ag 0) (af (ag 1) ak))) (eUn ja (eC (.int 1))))) (bf (eUn r8 (ag 2)))))
noncomputable def bF:FM:=fnM 3 jq
noncomputable abbrev cL:Stmt:=top 30
noncomputable def gC:SM:=(aA (aI 2 vn) (aA (er (fE (ag 0)) (.tp [(.nm 3),(.nm 4)]) (er (cc (eC (.tup (([(-1),(1)]:List Int).map .int))) bC) (.nm 5) (aA (aI 6 (eOp bb (ag 3) (eOp cx (ag 5) (ag 1)))) (aA (aI 7 (eOp bb (ag 4) (eg (af (ag 5) ak)))) (jI fN (eB oz (af (ag 7) (af (fD (ag 2) (ag 6) (ag 7)) ak))) (ag 2) (ag 6)))))) (bf (ag 2))))
noncomputable def bT:FM:=fnM 8 gC
noncomputable abbrev cM:Stmt:=top 35
noncomputable def gD:SM:=(aA (aI 2 vn) (aA (er (fE (ag 0)) (.tp [(.nm 3),(.nm 4)]) (er (cc (eC (.tup (([(-1),(1)]:List Int).map .int))) bC) (.nm 5) (aA (aI 6 (eOp bb (ag 3) (eOp cx (ag 5) (ag 1)))) (aA (aI 7 (eB mG (af (ag 4) (af (eB gw (af (ag 6) ak)) ak)))) (jI fN (eB pO (af (ag 7) (af (fD (ag 2) (ag 6) (ag 7)) ak))) (ag 2) (ag 6)))))) (bf (ag 2))))
noncomputable def bU:FM:=fnM 8 gD
noncomputable abbrev de:Stmt:=top 36
noncomputable def hW:SM:=(aA (cj (ax aM (af (ag 0) ak))) (aA (aI 1 (jl [((eC (.int 0)),(eC (.int 0)))])) (aA (er (cc (ag 0) bC) (.nm 2) (aI 1 (ax bU (af (ag 1) (af (ag 2) ak))))) (bf (eUn r9 (ag 1))))))
noncomputable def aU:FM:=fnM 3 hW
noncomputable abbrev iZ:Stmt:=top 38
noncomputable def sf:SM:=(aA (aI 1 (ax aU (af (ag 0) ak))) (aA (aI 2 (jl [((eC (.int 0)),(eg ak))])) (aA (er (cc (ag 0) bC) (.nm 3) (aI 2 (ax bc (af (ax bT (af (ag 2) (af (ag 3) ak))) (af (ag 1) ak))))) (bf (eUn mT (ag 2))))))
noncomputable def gE:FM:=fnM 4 sf
noncomputable abbrev fj:Stmt:=top 26
noncomputable def lj:SM:=(aA (sIf (PD.tOr (PD.ff (tV (eB ie (af (ag 0) (af (eC (.ty "tuple")) ak))))) (PD.ff (tV (eB gx (af (bB (cc (ag 0) bC) 1 [] (.nm 0) bZ (ax ba (af (ag 0) ak))) ak))))) (bf (eC (.bl false))) bI) (bf (eB gx (af (bB (j3 (af (eC (.int 1)) (af (eB dq (af (ag 0) ak)) ak))) 1 [0] (.nm 0) bZ (eOp oLt (eOp oIx (ag 1) (eOp i9 (ag 0) (eC (.int 1)))) (eOp oIx (ag 1) (ag 0)))) ak))))
noncomputable def dN:FM:=fnM 1 lj
noncomputable abbrev cC:Stmt:=top 42
noncomputable def fQ:SM:=(aA (aI 4 (eBR nI (af (bB (cc (ag 1) bC) 1 [] (.nm 0) bZ (eg (af (ag 0) (af (eC (.bl true)) ak)))) ak))) (aA (er (cc (ag 0) bC) (.nm 5) (er (cc (eC (.tup (([(-1),(1)]:List Int).map .int))) bC) (.nm 6) (aA (aI 7 (eOp bb (ag 5) (eOp cx (ag 6) (ag 2)))) (sIf (PD.i8 (tV (eOp oLe (eB gw (af (ag 7) ak)) (ag 3))) (tV (eOp (t6 true) (ag 7) (ag 4)))) (bf (eC (.bl false))) bI)))) (bf (eC (.bl true)))))
noncomputable def bN:FM:=fnM 8 fQ
noncomputable abbrev eE:Stmt:=top 22
noncomputable def j6:SM:=(aA (cj (ax aM (af (ag 0) ak))) (sIf (tV (eOp oGt (eB dq (af (ag 0) ak)) (eC (.int (10))))) wH bI))
noncomputable def d5:FM:=fnM 1 j6
noncomputable abbrev bG:Stmt:=top 23
noncomputable def dO:SM:=(aA (cj (ax aH (af (ag 0) (af (ag 1) ak)))) (cj (ax d5 (af (ag 0) ak))))
noncomputable def aR:FM:=fnM 2 dO
noncomputable abbrev ck:Stmt:=top 43
noncomputable def fG:SM:=(aA (cj (ax aR (af (ag 1) (af (ag 2) ak)))) (aA (sIf (PD.tOr (PD.ff (tV (eB ie (af (ag 0) (af (eC (.ty "list")) ak))))) (tV (eOp iC (eB dq (af (ag 0) ak)) (eOp bb (eB dq (af (ag 1) ak)) (eC (.int 1)))))) (bf (eC (.bl false))) bI) (aA (sIf (PD.tOr (PD.ff (tV (eB gx (af (bB (cc (ag 0) bC) 1 [] (.nm 0) bZ (ax dN (af (ag 0) ak))) ak)))) (tV (eOp iC (eOp oIx (ag 0) (eUn ja (eC (.int 1)))) (eg ak)))) (bf (eC (.bl false))) bI) (aA (sIf (PD.i8 (tV (eOp oGe (ag 2) (eC (.int 0)))) (tV (eOp (oIn true) (eC (.int 0)) (eOp oIx (ag 0) (eC (.int 0)))))) (bf (eC (.bl false))) bI) (bf (eB gx (af (bB (rK (af (ag 1) ak)) 2 [0,2] (.tp [(.nm 0),(.nm 1)]) bZ (ax bN (af (eOp oIx (ag 2) (ag 0)) (af (eOp oIx (ag 2) (eOp bb (ag 0) (eC (.int 1)))) (af (ag 1) (af (ag 3) ak)))))) ak)))))))
noncomputable def bW:FM:=fnM 3 fG
noncomputable abbrev fk:Stmt:=top 41
noncomputable def ll:SM:=(aA (cj (ax aM (af (ag 0) ak))) (aA (aI 1 (eNew ak)) (aA (aI 2 (eC (.int 0))) (aA (er (cc (ag 0) bC) (.nm 3) (aA (aI 4 (eIf (tV (eOp oGt (ag 2) (eC (.int 0)))) (eUn ja (eC (.int 1))) (eC (.int 1)))) (aA (cj (ly cK (ag 1) (af (ag 4) ak))) (aI 2 (eOp bb (ag 2) (eOp cx (ag 4) (ag 3))))))) (bf (eB dF (af (ag 1) ak)))))))
noncomputable def eR:FM:=fnM 5 ll
noncomputable abbrev fm:Stmt:=top 9
noncomputable def lp:SM:=(bf (lx (eB ie (af (ag 0) (af (eC (.ty "tuple")) ak))) (lx (eOp jw (eB dq (af (ag 0) ak)) (ag 1)) (eB gx (af (bB (cc (ag 0) bC) 1 [] (.nm 0) bZ (ax ba (af (ag 0) ak))) ak)))))
noncomputable def cP:FM:=fnM 2 lp
noncomputable abbrev cg:Stmt:=top 15
noncomputable def fc:SM:=(bf (lx (ax cP (af (ag 0) (af (ag 1) ak))) (eB gx (af (bB (cc (ag 0) bC) 1 [] (.nm 0) bZ (eOp jw (eB gw (af (ag 0) ak)) (eC (.int 1)))) ak))))
noncomputable def bR:FM:=fnM 2 fc
noncomputable abbrev bO:Stmt:=top 17
noncomputable def d7:SM:=(sIf (PD.ff (tV (ax bR (af (ag 0) (af (ag 1) ak))))) wH bI)
noncomputable def bj:FM:=fnM 2 d7
noncomputable abbrev gY:Stmt:=top 34
noncomputable def oE:SM:=(aA (cj (ax aM (af (ag 0) ak))) (aA (cj (ax bj (af (ag 1) (af (eB dq (af (ag 0) ak)) ak)))) (aA (aI 2 (eC (.int 0))) (aA (aI 3 (eC (.int 0))) (aA (er (AU (af (ag 0) (af (ag 1) ak))) (.tp [(.nm 4),(.nm 5)]) (aA (aI 2 (eOp bb (ag 2) (eOp cx (ag 5) (ag 4)))) (aI 3 (eB mG (af (ag 3) (af (eB gw (af (ag 2) ak)) ak)))))) (bf (ag 3)))))))
noncomputable def cq:FM:=fnM 6 oE
noncomputable abbrev dg:Stmt:=top 44
noncomputable def hZ:SM:=(aA (cj (ax aR (af (ag 0) (af (ag 1) ak)))) (aA (aI 2 (ax bP (af (ag 0) (af (ag 1) ak)))) (bf (eIf (tV (eOp qo (eOp oIx (ag 2) (eUn ja (eC (.int 1)))) (AJ []))) (bB (ud (ag 2)) 1 [] (.nm 0) bZ (eB dF (af (eB rX (af (ag 0) ak)) ak))) (eC .non)))))
noncomputable def bz:FM:=fnM 3 hZ
noncomputable abbrev d8:Stmt:=top 14
noncomputable def jr:SM:=(aA (cj (ax aM (af (ag 1) ak))) (bf (lx (ax cP (af (ag 0) (af (eB dq (af (ag 1) ak)) ak))) (eB gx (af (bB (cc (ag 0) bC) 1 [] (.nm 0) bZ (gQ oLe oLe (eUn ja (eC (.int 1))) (ag 0) (eC (.int 1)))) ak)))))
noncomputable def dw:FM:=fnM 2 jr
noncomputable abbrev dz:Stmt:=top 16
noncomputable def iF:SM:=(sIf (PD.ff (tV (ax dw (af (ag 1) (af (ag 0) ak))))) wH bI)
noncomputable def cQ:FM:=fnM 2 iF
noncomputable abbrev fR:Stmt:=top 18
noncomputable def mU:SM:=(aA (cj (ax cQ (af (ag 0) (af (ag 1) ak)))) (bf (eB dF (af (bB (cc (ag 1) bC) 1 [] (.nm 0) bZ (eUn ja (ag 0))) ak))))
noncomputable def dH:FM:=fnM 2 mU
noncomputable abbrev fo:Stmt:=top 28
noncomputable def lq:SM:=(aA (aI 1 (eOp jk (eB dq (af (ag 0) ak)) (eC (.int 2)))) (bf (eg (af (eSl rG (ag 0) oNo (mE (ag 1))) (af (eSl rG (ag 0) (mE (ag 1)) oNo) ak)))))
noncomputable def dP:FM:=fnM 2 lq
noncomputable abbrev fT:Stmt:=top 25
noncomputable def mV:SM:=(aA (aI 2 (jl [((eC (.int 0)),(eC (.int 1)))])) (aA (er (cc (ag 0) bC) (.nm 3) (aI 2 (ax cY (af (ag 2) (af (ag 3) (af (ag 1) ak)))))) (bf (ag 2))))
noncomputable def eu:FM:=fnM 4 mV
noncomputable abbrev dh:Stmt:=top 29
noncomputable def ic:SM:=(aA (cj (ax aM (af (ag 0) ak))) (bf (eB dF (af (bB (cc (ax dP (af (ag 0) ak)) bC) 1 [] (.nm 0) bZ (eB dF (af (eB rX (af (ax eu (af (ag 0) (af (eC (.tup (([(-1),(1)]:List Int).map .int))) ak))) ak)) ak))) ak))))
noncomputable def cE:FM:=fnM 1 ic
noncomputable abbrev i0:Stmt:=top 31
noncomputable def sg:SM:=(aA (aI 2 (ax cE (af (ag 0) ak))) (aA (aI 3 (eNew ak)) (aA (aI 4 (eC (.int 0))) (aA (aI 5 (eOp i9 (eB dq (af (eOp oIx (ag 2) (eC (.int 1))) ak)) (eC (.int 1)))) (aA (sWh (PD.i8 (tV (eOp oLt (ag 4) (eB dq (af (eOp oIx (ag 2) (eC (.int 0))) ak)))) (tV (eOp oGe (ag 5) (eC (.int 0))))) (aA (aI 6 (eOp bb (eOp oIx (eOp oIx (ag 2) (eC (.int 0))) (ag 4)) (eOp oIx (eOp oIx (ag 2) (eC (.int 1))) (ag 5)))) (aA (cj (ly cK (ag 3) (af (eg (af (ag 4) (af (ag 5) (af (ag 6) ak)))) ak))) (sIf (tV (eOp oLt (ag 6) (ag 1))) (aI 4 (eOp bb (ag 4) (eC (.int 1)))) (aI 5 (eOp i9 (ag 5) (eC (.int 1)))))))) (bf (ag 3)))))))
noncomputable def gG:FM:=fnM 7 sg
noncomputable abbrev gZ:Stmt:=top 32
noncomputable def oF:SM:=(aA (cj (ax aH (af (ag 0) (af (ag 1) ak)))) (bf (eB rT (af (bB (ud (ax gG (af (ag 0) (af (ag 1) ak)))) 3 [1] (.tp [(.nm 0),(.nm 1),(.nm 2)]) (tV (eOp oGe (ag 2) (ag 3))) (ag 2)) ak))))
noncomputable def gH:FM:=fnM 2 oF
noncomputable abbrev dC:Stmt:=top 46
noncomputable def iG:SM:=(bf (ax gH (af (ag 0) (af (eC (.int 0)) ak))))
noncomputable def cR:FM:=fnM 1 iG
noncomputable abbrev dD:Stmt:=top 53
noncomputable def iH:SM:=(aA (Az 1 2 (af (ax aU (af (ag 0) ak)) (af (eB se (af (eOp bb (eg (af (eC (.int 0)) ak)) (ag 0)) ak)) ak))) (aA (sIf (PD.tOr (tV (eOp iC (ax cq (af (ag 0) (af (ax gE (af (ag 0) ak)) ak))) (ag 1))) (PD.ff (tV (gQ oLe oLe (eB mG (af (ax cR (af (ag 0) ak)) (af (eOp jk (eOp bb (ag 2) (eC (.int 1))) (eC (.int 2))) ak))) (ag 1) (ag 2))))) (bf (eC (.bl false))) bI) (aA (sIf (PD.tOr (tV (eOp oGt (ax cq (af (ag 0) (af (ax eR (af (ag 0) ak)) ak))) (ag 2))) (tV (eOp iC (ax cq (af (ag 0) (af (ax dH (af (ag 0) (af (ax gE (af (ag 0) ak)) ak))) ak))) (ag 1)))) (bf (eC (.bl false))) bI) (aA (sIf (PD.tOr (tV (eOp oLt (ax bF (af (ag 0) (af (ag 1) ak))) (eC (.int 1)))) (PD.tOr (tV (eOp iC (ax bF (af (ag 0) (af (eOp i9 (ag 1) (eC (.int 1))) ak))) (eC (.int 0)))) (tV (eOp (yy true) (ax bz (af (ag 0) (af (ag 1) ak))) (eC .non))))) (bf (eC (.bl false))) bI) (aA (aI 3 (ax bz (af (ag 0) (af (eOp i9 (ag 1) (eC (.int 1))) ak)))) (aA (sIf (PD.tOr (tV (eOp (yy false) (ag 3) (eC .non))) (tV (eOp (DJ true) (ax bW (af (ag 3) (af (ag 0) (af (eOp i9 (ag 1) (eC (.int 1))) ak)))) (eC (.bl true))))) (bf (eC (.bl false))) bI) (bf (eOp jw (ax bF (af (ag 0) (af (eB yr (af (ag 0) ak)) ak))) (eOp nC (eC (.int 1)) (eB dq (af (ag 0) ak)))))))))))
noncomputable def bX:FM:=fnM 4 iH
noncomputable abbrev fq:Stmt:=top 49
noncomputable def iI:SM:=(aA (C7 (.tp [(.nm 2),(.nm 3)]) (eB lM (af (eOp oIx (ag 0) (eC (.int 0))) (af (ag 1) ak)))) (aA (jI ym (ag 2) (ag 0) (eC (.int 0))) (bf (ag 3))))
noncomputable def aS:FM:=fnM 4 iI
noncomputable abbrev fU:Stmt:=top 50
noncomputable def mW:SM:=(aA (aI 2 (ax aS (af (ag 0) (af (eOp bb (ag 1) (eC (.int 1))) ak)))) (aA (aI 3 (ax aS (af (ag 0) (af (eC (.int 6)) ak)))) (aA (aI 4 (eOp bb (eC (.int 1)) (ax aS (af (ag 0) (af (eC (.int 9)) ak))))) (aA (aI 5 (eNew ak)) (aA (er (cU (af (ag 2) ak)) (.nm 6) (aA (aI 7 (eOp bb (eC (.int 1)) (ax aS (af (ag 0) (af (eC (.int 12)) ak))))) (cj (ly cK (ag 5) (af (eOp oIx (wG (af (ag 7) (af (ag 7) (af (ag 4) (af (eOp nC (eC (.int 1)) (ag 6)) (af (eOp bb (ag 4) (eOp cx (ag 6) (ag 7))) (af (eOp bb (eOp cx (eOp tX (eC (.int 10)) (eC (.int 12))) (ag 7)) (ag 4)) ak))))))) (ag 3)) ak))))) (bf (eB dF (af (ag 5) ak))))))))
noncomputable def fH:FM:=fnM 8 mW
noncomputable abbrev eF:Stmt:=top 51
noncomputable def j7:SM:=(bf (eB dF (af (bB (cU (af (ag 1) ak)) 1 [0] (.nm 0) bZ (eOp i9 (eOp cx (eC (.int 2)) (ax aS (af (ag 1) (af (eC (.int 2)) ak)))) (eC (.int 1)))) ak)))
noncomputable def ef:FM:=fnM 2 j7
noncomputable abbrev kM:Stmt:=top 54
noncomputable def B6:SM:=(aA (er (cU (af (eB mG (af (eC (.int 1)) (af (eB pO (af (eB dq (af (ag 0) ak)) (af (eC (.int 3)) ak))) ak))) ak)) (.nm 1) (aA (aI 2 (ax dG (af (ag 0) (af (ag 1) ak)))) (aA (aI 3 (ax fH (af (ag 2) (af (eC (.int 8)) ak)))) (aA (sIf (PD.ff (tV (ax bX (af (ag 3) ak)))) (bf (eC (.bl false))) bI) (aA (aI 4 (eOp bb (ag 3) (eg (af (eOp bb (eC (.int 1)) (ax aS (af (ag 2) (af (eC (.int 30)) ak)))) ak)))) (aA (sIf (PD.tOr (tV (eOp oLt (ax aU (af (ag 4) ak)) (ax aU (af (ag 3) ak)))) (PD.ff (tV (ax bX (af (ag 4) ak))))) (bf (eC (.bl false))) bI) (aA (aI 5 (ax ef (af (ag 2) (af (eB dq (af (ag 3) ak)) ak)))) (aA (aI 6 (ax cq (af (ag 3) (af (ag 5) ak)))) (sIf (PD.tOr (tV (eOp iC (ax cq (af (ag 3) (af (ax dH (af (ag 3) (af (ag 5) ak))) ak))) (ag 6))) (tV (eOp oLt (ax bF (af (ag 3) (af (ag 6) ak))) (eOp cx (eC (.int 2)) (eB yl (af (eOp iC (ag 3) (eg ak)) ak)))))) (bf (eC (.bl false))) bI))))))))) (bf (eC (.bl true))))
noncomputable def vv:FM:=fnM 7 B6
structure Gr (b:Nat) (S S':Sto):Prop where
 bx:∃ n,S'[b]?=some (.lst [.int n])
 oth:∀ i,i ≠ b->i < S.length->S'[i]?=S[i]?
 len:S.length<=S'.length
theorem Gr.trans {b:Nat} (x:Gr b S S1) (y:Gr b S1 S2):Gr b S S2:=
 ⟨y.bx,λi h l=>(y.oth i h (Y0 l x.len)).trans (x.oth i h l),Y9 x.len y.len⟩
theorem Gr.self {b:Nat} (x:Gr b S S1):Gr b S1 S1:=⟨x.bx,λ_ _ _=>rfl,Jb _⟩
theorem Gr.more {b:Nat} (x:Gr b S S1) (l:Sto):Gr b S (S1 ++ l):=by
 obtain ⟨n,hn⟩:=x.bx
 have hb:b < S1.length:=(J9.mp hn).1
 refine ⟨⟨n,by rw [Jq hb]; exact hn⟩,λi h hl=>?_,by rw [Jo]; have:=x.len; omega⟩
 rw [Jq (Y0 hl x.len)]
 exact x.oth i h hl
theorem Bh {b:Nat} {n many:Int} (h:S[b]?=some (.lst [.int n])) (h0:0 < many) (h1:many < 1073741824):aS [.ref b,.int many] S=.ok (.int (n % many)) (S.set b (.lst [.int (n / many)])):=by
 simp [aS,fnM,iI,aA,C7,jI,bf,eB,eOp,ag,eC,af,ak,R.bind,R.of,oIx,bS,h,atI,ixN,lM,h0,h1,G.put,G.puts,ym]
theorem i4 {b:Nat} (h:Gr b S S) {many:Int} (h0:0 < many) (h1:many < 1073741824):∃ q S',aS [.ref b,.int many] S=.ok (.int q) S'/\0<=q/\q < many/\Gr b S S':=by
 obtain ⟨n,hn⟩:=h.bx
 have hb:b < S.length:=(J9.mp hn).1
 refine ⟨_,_,Bh hn h0 h1,Uo _ (by omega),U7 _ h0,⟨n / many,by simp [hb]⟩,λi hi _=>?_,by simp⟩
 rw [Yk (Ne.symm hi)]
noncomputable abbrev lR:SM:=(aA (aI 5 (eOp oMod (eOp bb (eOp bb (eOp cx (eOp oMod (ag 2) (eC (.int 2147483647))) (eC (.int 48271))) (eOp cx (eC (.int 7919)) (ag 4))) (eC (.int 1))) (eC (.int 2147483647)))) (aA (aI 5 (eOp oMod (eOp cx (ag 5) (ag 5)) (eC (.int 2147483629)))) (aI 3 (eOp bb (eOp cx (ag 3) (eC (.int 2147483647))) (eOp oMod (eOp cx (ag 5) (eOp bb (ag 5) (eC (.int 13)))) (eC (.int 2147483647)))))))
theorem yZ (S:Sto) (a b:Option D) (h n j:Int) (r5:Option D):∃ (n':Int) (x:Int),lR [a,b,some (.int h),some (.int n),some (.int j),r5] S=.ok (.nx [a,b,some (.int h),some (.int n'),some (.int j),some (.int x)]) S:=by
 have s1:cI 48271:=by decide
 have s2:cI 7919:=by decide
 have s3:cI 2147483647:=by decide
 have h1:∀ y:Int,cI (y % 2147483647):=λy=>by
  have:=Uo y (show (2147483647:Int) ≠ 0 by decide)
  have:=U7 y (show (0:Int) < 2147483647 by decide)
  exact ⟨by omega,by omega⟩
 have h2:∀ y:Int,cI (y % 2147483629):=λy=>by
  have:=Uo y (show (2147483629:Int) ≠ 0 by decide)
  have:=U7 y (show (0:Int) < 2147483629 by decide)
  exact ⟨by omega,by omega⟩
 refine ⟨n * 2147483647 + ((h % 2147483647 * 48271 + 7919 * j + 1) % 2147483647 * ((h % 2147483647 * 48271 + 7919 * j + 1) % 2147483647) % 2147483629) * ((h % 2147483647 * 48271 + 7919 * j + 1) % 2147483647 * ((h % 2147483647 * 48271 + 7919 * j + 1) % 2147483647) % 2147483629 + 13) % 2147483647,(h % 2147483647 * 48271 + 7919 * j + 1) % 2147483647 * ((h % 2147483647 * 48271 + 7919 * j + 1) % 2147483647) % 2147483629,?_⟩
 simp only [lR,aA,aI,eOp,ag,eC,R.bind,R.of,oMod,bb,Zb,Yw,Yh,Z3,cO (.inr s1),cO (.inl s2),cO (.inr s3),cO (.inl (h1 _)),cO (.inl (h2 _)),Int.reduceLT,Yj]
theorem sh (h:Int):∀ (l:List Nat) (S:Sto) (a b:Option D) (n:Int) (j r5:Option D),∃ (n':Int) (j' r5':Option D),
  forL (.nm 4) lR (l.map λ(i:Nat)=>D.int i) [a,b,some (.int h),some (.int n),j,r5] S=.ok (.nx [a,b,some (.int h),some (.int n'),j',r5']) S
 | [],S,a,b,n,j,r5=>⟨n,j,r5,rfl⟩
 | i :: l,S,a,b,n,j,r5=>by
  obtain ⟨n1,x,e1⟩:=yZ S a b h n i r5
  obtain ⟨n',j',r5',e⟩:=sh h l S a b n1 (some (.int i)) (some (.int x))
  refine ⟨n',j',r5',?_⟩
  rw [Jn,forL]
  simp only [G.put,Yh,Z3,e1,R.bind_ok]
  exact e
theorem DM (ns:List Int) (k:Nat) (S:Sto):∃ v:Int,dG [.fz (ns.map .int),.int k] S=.ok (.ref S.length) (S ++ [.lst [.int v]]):=by
 have hz:(1:Nat)<=sizeLine:=by decide
 have s2:cI 7919:=by decide
 have rest:∀ c:Int,∃ v:Int,(aA (sIf (tV (eOp jw (eOp oMod (ag 2) (eC (.int 2))) (eC (.int 0)))) (bf (eNew (af (eOp jk (ag 2) (eC (.int 2))) ak))) bI) (aA (aI 3 (eC (.int 0))) (aA (er (cU (af (eC (.int 16)) ak)) (.nm 4) lR) (bf (eNew (af (ag 3) ak)))))) [some (.fz (ns.map .int)),some (.int k),some (.int c),none,none,none] S=.ok (.rt (.ref S.length)) (S ++ [.lst [.int v]]):=λc=>by
  by_cases hc:c % 2=0
  ·refine ⟨c / 2,?_⟩
   simp [aA,aI,sIf,bf,bI,tV,eNew,eB,ax,eOp,ag,eC,af,ak,R.bind,R.of,oMod,jw,eqP,eqS,hc,jk,hz]
  ·obtain ⟨n',j',r5',e⟩:=sh c (List.range 16) S (some (.fz (ns.map .int))) (some (.int k)) 0 none none
   refine ⟨n',?_⟩
   have hr:(16:Int).toNat=16:=rfl
   simp only [aA,aI,sIf,bf,bI,tV,eNew,eB,ax,eOp,ag,eC,af,ak,R.bind,R.of,oMod,jw,eqP,eqS,hc,er,cU,hz,Zb,Yw,Yh,Z3,Int.reduceLT,Yj,Zv,Zs,Jx,Ys,Int.reduceLE,and_self,Int.reducePow,Int.reduceNeg,hr,e,Jm,Yg,Nat.reduceAdd]
 by_cases hk:k < ns.length
 ·obtain ⟨v,e⟩:=rest (ns.getD k 0)
  refine ⟨v,?_⟩
  have hi:atI (ns.map D.int) (k:Int)=some (.int (ns.getD k 0)):=by simp [atI,ixN,hk]
  have hk':(k:Int) < (ns.length:Int):=by omega
  unfold dG fnM gU
  simp only [Jn,W0,Jm,Yg,Nat.reduceAdd,Nat.reduceSub,List.replicate,Qk,Z4]
  rw [aA]
  simp only [aI,eOp,ag,eC,R.bind,R.of,bb,cO (.inl s2),Zb,Yw,Yh,Z3]
  rw [aA]
  simp only [sIf,aI,bI,tV,eB,eOp,ag,eC,af,ak,R.bind,R.of,oIx,bS,mB,dq,Jh,hk',Qz,Yj,hi,Zb,Yw,Yh,Z3,Zs]
  rw [e]
 ·obtain ⟨v,e⟩:=rest (7919 * (k:Int) + 13)
  refine ⟨v,?_⟩
  have hk':¬ (k:Int) < (ns.length:Int):=by omega
  unfold dG fnM gU
  simp only [Jn,W0,Jm,Yg,Nat.reduceAdd,Nat.reduceSub,List.replicate,Qk,Z4]
  rw [aA]
  simp only [aI,eOp,ag,eC,R.bind,R.of,bb,cO (.inl s2),Zb,Yw,Yh,Z3]
  rw [aA]
  simp only [sIf,aI,bI,tV,eB,eOp,ag,eC,af,ak,R.bind,R.of,oIx,bS,mB,dq,Jh,hk',Zv,Jx,Ys,Zb,Yw,Yh,Z3,Zs]
  rw [e]
noncomputable def Bi:D->Bool
 | .fz _=>false
 | .ref _=>false
 | .ty _=>false
 | .exc _=>false
 | .cls _=>false
 | _=>true
noncomputable def isI:D->Bool
 | .int _=>true
 | _=>false
theorem si {d:D} (h:Bi d=true):ba [d] S=.ok (.bl (isI d)) S:=by
 cases d <;> first | (cases h; done) | (simp [ba,fnM,jA,bf,lx,C6,eB,ag,eC,af,ak,R.bind,R.of,ie,tyD,gf,isI])
noncomputable def vx:D->Bool
 | .int i=>decide (1<=i)
 | _=>false
theorem fV {A:Type} (f:A->Bool):∀ xs:List A,boolsOf (xs.map λx=>D.bl (f x))=some (xs.map f)
 | []=>rfl
 | x :: xs=>by rw [Jn,boolsOf,fV f xs]; rfl
theorem oG {f:D->Bool} :∀ (xs:List D) (r0:Option D) (S:Sto),(∀ x ∈ xs,e (some x :: tl) S=.ok (.bl (f x)) S)->dk (.nm 0) bZ e xs (r0 :: tl) S=.ok (xs.map λx=>D.bl (f x)) S
 | [],_,_,_=>rfl
 | x :: xs,r0,S,h=>by
  have h1:=h x Ye
  have h2:=oG xs (some x) S λy hy=>h y (Yb _ hy)
  rw [dk]
  simp only [G.put,Yh,bZ,R.bind_ok,Yj,h1,h2,Jn]
noncomputable def oH:D->Bool
 | .tup xs=>decide (xs.length<=16) && xs.all vx
 | _=>false
def DN (d:D):Prop:=Bi d=true/\∀ xs,d=.tup xs->(∀ x ∈ xs,Bi x=true)/\xs.length<=1000
theorem DO {x:D} (h:Bi x=true):(lx (ax ba (af (ag 0) ak)) (eOp oGe (ag 0) (eC (.int 1)))) [some x] S=.ok (.bl (vx x)) S:=by
 have:=si (S:=S) h
 cases x <;> first | (cases h; done) | (simp [lx,ax,eOp,ag,eC,af,ak,R.bind,R.of,this,isI,vx,mB])
theorem y6 {d:D} (h:DN d):eQ [d] S=.ok (.bl (oH d)) S:=by
 cases d with
 | tup xs=>
  obtain ⟨hs,hl⟩:=h.2 xs rfl
  have hc:=oG (tl:=[]) (f:=vx) xs none S λx hx=>DO (hs x hx)
  have z:xs.length<=sizeLine:=Y9 hl (by decide)
  by_cases h16:xs.length<=16
  ·have h16':¬ (16:Int) < (xs.length:Int):=by omega
   simp only [eQ,fnM,iE,aA,sIf,bf,bI,PD.tOr,PD.ff,tV,eB,bB,cc,bC,eY,eOp,ag,eC,af,ak,R.bind,R.of,ie,tyD,dq,bS,mB,gx,Jn,W0,Jm,Yg,List.replicate,Qk,Z4,Yu,Nat.reduceAdd,Nat.reduceSub,Zb,h16',Zv,Jx,Ys,z,Yj,hc,fV,Zs,oH,h16,Qz,Bool.true_and]
   simp [gf]
   simp [z,hc,fV,gx,R.of,R.bind,bf,eB,af]
  ·have h16':(16:Int) < (xs.length:Int):=by omega
   simp [eQ,fnM,iE,aA,sIf,bf,bI,PD.tOr,PD.ff,tV,eB,eOp,ag,eC,af,ak,R.bind,R.of,ie,tyD,dq,bS,mB,gf,oH,h16,h16']
 | _=>first | (cases h.1; done) | (simp [eQ,fnM,iE,aA,sIf,bf,bI,PD.tOr,PD.ff,tV,eB,eOp,ag,eC,af,ak,R.bind,R.of,ie,tyD,gf,oH])
theorem y8 {i:Int} :iC S (.int i) (.int j)=some (.bl (!decide (i=j))):=rfl
theorem y9 {i:Int} :jw S (.int i) (.int j)=some (.bl (decide (i=j))):=rfl
theorem au {a b:SM} {r1:Rho} (h:a r S=.ok (.nx r1) S1):aA a b r S=b r1 S1:=by
 unfold aA
 rw [h]
 rfl
def Row (xs:List Int):Prop:=(∀ x ∈ xs,1<=x)/\xs.length<=16
theorem xg (h:xs.length<=1000):DN (.tup (xs.map .int)):=⟨rfl,λys e=>by
 cases e
 refine ⟨λx hx=>?_,by rw [Jh]; exact h⟩
 obtain ⟨i,_,rfl⟩:=Jv.mp hx
 rfl⟩
theorem Row.okay (h:Row xs):DN (.tup (xs.map .int)):=xg (by have:=h.2; omega)
theorem Row.is (h:Row xs):oH (.tup (xs.map .int))=true:=by
 unfold oH
 rw [Yl]
 refine ⟨by rw [Jh]; exact Js h.2,Yv.mpr λx hx=>?_⟩
 obtain ⟨i,hi,rfl⟩:=Jv.mp hx
 exact Js (h.1 i hi)
theorem g6 {g:PD.G} {b:SM} {xs:List D} (h:it r S=.ok xs S1):er it g b r S=forL g b xs r S1:=by unfold er; rw [h,R.bind_ok]
theorem bo {b:SM} {ds:List D} {d:D} (hρ:ds.map some ++ List.replicate (n - ds.length) none = ρ) (h:b ρ S=.ok (.rt d) S1):fnM n b ds S=.ok d S1:=by unfold fnM; rw [hρ,h,R.bind_ok]
theorem mX {b:SM} {ds:List D} {ρ':Rho} (hρ:ds.map some ++ List.replicate (n - ds.length) none = ρ) (h:b ρ S=.ok (.nx ρ') S1):fnM n b ds S=.ok .non S1:=by unfold fnM; rw [hρ,h,R.bind_ok]
theorem aD {d:D} (h:a r S=.ok d S1):aI i a r S=.ok (.nx (r.set i (some d))) S1:=by unfold aI; rw [h,R.bind_ok]
theorem aV {d:D} (h:a r S=.ok d S1):bf a r S=.ok (.rt d) S1:=by unfold bf; rw [h,R.bind_ok]
theorem E7 {t:TM} {a b:SM} (h:t r S=.ok true S1):sIf t a b r S=a r S1:=by unfold sIf; rw [h,R.bind_ok]; exact J8 rfl
theorem fe {t:TM} {a b:SM} (h:t r S=.ok false S1):sIf t a b r S=b r S1:=by unfold sIf; rw [h,R.bind_ok]; exact Jc Jl
theorem bg {d:D} (h:a r S=.ok d S1):cj a r S=.ok (.nx r) S1:=by unfold cj; rw [h,R.bind_ok]
theorem bu {g:PD.G} {b:SM} {x:D} {xs:List D} {r1 r2:Rho} (hp:g.put x r=some r1) (h:b r1 S=.ok (.nx r2) S1):forL g b (x :: xs) r S=forL g b xs r2 S1:=by rw [forL]; simp only [hp,h,R.bind_ok]
theorem ar {f:FM} {xs:List D} (h:t r S=.ok xs S1):ax f t r S=f xs S1:=by unfold ax; rw [h,R.bind_ok]
theorem dy {g:PD.G} {b:SM} {d:D} {xs:List D} (h:a r S=.ok d S1) (hi:bC S1 d=some xs):er (cc a bC) g b r S=forL g b xs r S1:=g6 (by unfold cc; rw [h,R.bind_ok,hi]; rfl)
theorem av {f:Sto->D->D->Option D} {b:EM} {x y z:D} (h1:a r S=.ok x S1) (h2:b r S1=.ok y S2) (h3:f S2 x y=some z):eOp f a b r S=.ok z S2:=by unfold eOp; rw [h1,R.bind_ok,h2,R.bind_ok,h3]; rfl
theorem aW {f:Sto->List D->Option D} {xs:List D} {z:D} (h1:t r S=.ok xs S1) (h3:f S1 xs=some z):eB f t r S=.ok z S1:=by unfold eB; rw [h1,R.bind_ok,h3]; rfl
theorem ae {x:D} {xs:List D} (h1:a r S=.ok x S1) (h2:t r S1=.ok xs S2):af a t r S=.ok (x :: xs) S2:=by unfold af; rw [h1,R.bind_ok,h2,R.bind_ok]
theorem bD {b:Bool} (h:a r S=.ok (.bl b) S1):tV a r S=.ok b S1:=by unfold tV; rw [h,R.bind_ok]
theorem ft {a:TM} {b:Bool} (h:a r S=.ok b S1):PD.ff a r S=.ok (!b) S1:=by unfold PD.ff; rw [h,R.bind_ok]
theorem lS {f:Sto->D->List D->R D} {x:D} {ys:List D} (h1:o r S=.ok x S1) (hl:isL S1 x=true) (h2:t r S1=.ok ys S2):ly f o t r S=f S2 x ys:=by unfold ly; rw [h1,R.bind_ok,J8 hl,h2,R.bind_ok]
theorem B7 {t:TM} {b:EM} (h:t r S=.ok true S1):eIf t a b r S=a r S1:=by unfold eIf; rw [h,R.bind_ok]; exact J8 rfl
theorem B8 {t:TM} {b:EM} (h:t r S=.ok false S1):eIf t a b r S=b r S1:=by unfold eIf; rw [h,R.bind_ok]; exact Jc Jl
theorem zc {n:Int} (h0:0<=n) (h:n<=100000):n < 2 ^ 62/\-(2 ^ 62)<=n:=⟨by omega,by omega⟩
theorem lr {m:Int} (h:t r S=.ok [.int m] S1) (h0:0<=m) (h1:m<=100000):cU t r S=.ok ((List.range m.toNat).map λ(i:Nat)=>D.int i) S1:=by
 have hr:=zc h0 h1
 simp only [cU,h,R.bind,J8 hr]
theorem mY (h:t r S=.ok [.int (n:Int)] S1) (hn:n<=100000):cU t r S=.ok ((List.range n).map λ(i:Nat)=>D.int i) S1:=
 lr h (Int.natCast_nonneg n) (Int.ofNat_le.mpr hn)
theorem g8:∀ xs:List Int,intsOf (xs.map .int)=some xs
 | []=>rfl
 | x :: xs=>by rw [Jn,intsOf,g8 xs]; rfl
theorem DP:yr S [.tup (xs.map .int)]=some (.int xs.sum):=by
 simp only [yr,bS,g8,Zs]
theorem comp_map {A:Type} {enc out:A->D} :∀ (xs:List A) (r0:Option D),(∀ x ∈ xs,e (some (enc x) :: tl) S=.ok (out x) S)->dk (.nm 0) bZ e (xs.map enc) (r0 :: tl) S=.ok (xs.map out) S
 | [],_,_=>rfl
 | x :: xs,r0,h=>by
  have h1:=h x Ye
  have h2:=comp_map (out:=out) xs (some (enc x)) λy hy=>h y (Yb _ hy)
  rw [Jn,dk]
  simp only [G.put,Yh,bZ,R.bind_ok,Yj,h1,h2,Jn]
theorem dQ {A:Type} {enc out:A->D} (xs:List A) (hi:it r S=.ok (xs.map enc) S) (hl:xs.length<=sizeLine) (hc:caps.map (λi=>(r[i]?).join)=tl) (h:∀ x ∈ xs,e (some (enc x) :: tl) S=.ok (out x) S):bB it 1 caps (.nm 0) bZ e r S=.ok (.lst (xs.map out)) S:=by
 unfold bB
 rw [hi,R.bind_ok,J8 (by rw [Jh]; exact hl)]
 have:eY 1 caps r=none :: tl:=by unfold eY; rw [hc]; rfl
 rw [this,comp_map (out:=out) xs none h,R.bind_ok]
theorem jB {d:D} {xs:List D} (h:r[i]?=some (some d)) (hx:bC S d=some xs):cc (ag i) bC r S=.ok xs S:=by
 unfold cc ag
 rw [h]
 show R.bind (.ok d S) _=_
 rw [R.bind_ok,hx]; rfl
theorem ab {d:D} (h:r[i]?=some (some d)):ag i r S=.ok d S:=by
 unfold ag; rw [h]
theorem eG {xs:List D} (h:t r S=.ok xs S1) (hl:xs.length<=sizeLine):eg t r S=.ok (.tup xs) S1:=by unfold eg; rw [h,R.bind_ok,J8 hl]
theorem Bj {xs:List D} (h:t r S=.ok xs S1) (hl:xs.length<=sizeLine):wG t r S=.ok (.lst xs) S1:=by unfold wG; rw [h,R.bind_ok,J8 hl]
theorem qp {b:EM} (h:a r S=.ok (.bl true) S1):lx a b r S=b r S1:=by unfold lx; rw [h,R.bind_ok]
theorem js {a b:TM} (h:a r S=.ok false S1):PD.tOr a b r S=b r S1:=by unfold PD.tOr; rw [h,R.bind_ok]; exact Jc Jl
theorem fI {A:Type} {f:A->Bool} {xs:List A}:gx S [.lst (xs.map λx=>D.bl (f x))]=some (.bl (xs.all f)):=by
 show Option.map (λbs=>D.bl (bs.all id)) (boolsOf (xs.map λx=>D.bl (f x)))=_
 rw [fV,Zs,List.all_map]
 rfl
theorem uj {a b:List D} (h:a.length + b.length<=sizeLine):bb S (.tup a) (.tup b)=some (.tup (a ++ b)):=J8 h
theorem sj {i:Int} (h:a r S=.ok (.int i) S1):mE a r S=.ok (some i) S1:=by unfold mE; rw [h,R.bind_ok]
def okN (x:Int):Prop:=1<=x/\x < 1000000000000000
theorem kN {f:Nat} {xs:List D} {v:D} (h:S[f]?=some (.lst xs)) (hl:xs.length < sizeLine):cK S (.ref f) [v]=.ok .non (S.set f (.lst (xs ++ [v]))):=by
 unfold cK
 simp only [h,J8 hl]
theorem qq {f:Nat} {xs:List D} (h:S[f]?=some (.lst xs)):isL S (.ref f)=true:=by
 unfold isL
 simp only [h]
noncomputable abbrev E8:SM:=(aA (aI 7 (eOp bb (eC (.int 1)) (ax aS (af (ag 0) (af (eC (.int 12)) ak))))) (cj (ly cK (ag 5) (af (eOp oIx (wG (af (ag 7) (af (ag 7) (af (ag 4) (af (eOp nC (eC (.int 1)) (ag 6)) (af (eOp bb (ag 4) (eOp cx (ag 6) (ag 7))) (af (eOp bb (eOp cx (eOp tX (eC (.int 10)) (eC (.int 12))) (ag 7)) (ag 4)) ak))))))) (ag 3)) ak))))
theorem zd {b f:Nat} {kind base:Int} {r1 r2 r7:Option D} (hi:i < 16) (hk:0<=kind/\kind < 6) (hb:1<=base/\base < 10) (g:Gr b S0 S) (hf:S[f]?=some (.lst (xs.map .int))) (hfb:f ≠ b) (hf0:S0.length<=f) (hl:xs.length < 1000):
  ∃ (y:Int) (S':Sto) (r7':Option D),E8 [some (.ref b),r1,r2,some (.int kind),some (.int base),some (.ref f),some (.int i),r7] S=.ok (.nx [some (.ref b),r1,r2,some (.int kind),some (.int base),some (.ref f),some (.int i),r7']) S'/\
   okN y/\S'[f]?=some (.lst ((xs ++ [y]).map .int))/\Gr b S0 S':=by
 obtain ⟨q,S1,e1,q0,q1,g1⟩:=i4 g.self (many:=12) (by decide) (by decide)
 have hfl:f < S.length:=(J9.mp hf).1
 have hf1:S1[f]?=some (.lst (xs.map .int)):=by rw [g1.oth f hfb hfl]; exact hf
 have hfl1:f < S1.length:=(J9.mp hf1).1
 generalize hG:(1:Int) + q=G
 have hG0:1<=G/\G<=12:=by omega
 have sG:cI G:=⟨by omega,by omega⟩
 have sI:cI (i:Int):=⟨by omega,by omega⟩
 have m1:(i:Int) * G<=15 * 12:=Int.mul_le_mul (by omega) hG0.2 (by omega) (by omega)
 have m1':0<=(i:Int) * G:=Int.mul_nonneg (by omega) (by omega)
 have m4:(2:Int) ^ i<=32768:=by
  have h:=Qw (n:=2) (by decide) (show i<=15 by omega)
  have h':((2 ^ i:Nat):Int)<=((2 ^ 15:Nat):Int):=by exact_mod_cast h
  simpa using h'
 have m4':1<=(2:Int) ^ i:=by
  have h:=Nat.one_le_two_pow (n:=i)
  have h':(1:Int)<=((2 ^ i:Nat):Int):=by exact_mod_cast h
  simpa using h'
 have z6:(6:Nat)<=sizeLine:=by decide
 have hix:∃ y:Int,okN y/\atI [D.int G,D.int G,D.int base,D.int (2 ^ i),D.int (base + (i:Int) * G),D.int (1000000000000 * G + base)] kind=some (.int y):=by
  have h:kind=0 \/ kind=1 \/ kind=2 \/ kind=3 \/ kind=4 \/ kind=5:=by omega
  rcases h with h | h | h | h | h | h <;> subst h
  ·exact ⟨_,⟨by omega,by omega⟩,rfl⟩
  ·exact ⟨_,⟨by omega,by omega⟩,rfl⟩
  ·exact ⟨_,⟨by omega,by omega⟩,rfl⟩
  ·exact ⟨_,⟨m4',by omega⟩,rfl⟩
  ·exact ⟨_,⟨by omega,by omega⟩,rfl⟩
  ·exact ⟨_,⟨by omega,by omega⟩,rfl⟩
 obtain ⟨y,hy,hix⟩:=hix
 obtain ⟨n,hn⟩:=g1.bx
 have g01:=g.trans g1
 refine ⟨y,S1.set f (.lst (xs.map .int ++ [.int y])),some (.int G),?_,hy,by rw [Qg]; simp [hfl1],⟨n,by rw [Yk hfb]; exact hn⟩,λj hj hl=>?_,by simp; exact g01.len⟩
 ·have hG1:eOp bb (eC (.int 1)) (ax aS (af (ag 0) (af (eC (.int 12)) ak))) [some (.ref b),r1,r2,some (.int kind),some (.int base),some (.ref f),some (.int i),r7] S=.ok (.int G) S1:=av rfl ((ar (ae (ab rfl) (ae rfl rfl))).trans e1) (Q7 (λz=>some (D.int z)) hG)
  have hL:(wG (af (ag 7) (af (ag 7) (af (ag 4) (af (eOp nC (eC (.int 1)) (ag 6)) (af (eOp bb (ag 4) (eOp cx (ag 6) (ag 7))) (af (eOp bb (eOp cx (eOp tX (eC (.int 10)) (eC (.int 12))) (ag 7)) (ag 4)) ak))))))) [some (.ref b),r1,r2,some (.int kind),some (.int base),some (.ref f),some (.int i),some (.int G)] S1=.ok (.lst [D.int G,D.int G,D.int base,D.int (2 ^ i),D.int (base + (i:Int) * G),D.int (1000000000000 * G + base)]) S1:=
   Bj (ae (ab rfl) (ae (ab rfl) (ae (ab rfl) (ae (av rfl (ab rfl) (Dm (by omega))) (ae (av (ab rfl) (av (ab rfl) (ab rfl) (cO (.inl sI))) rfl) (ae (av (av (av rfl rfl tZ) (ab rfl) (cO (.inr sG))) (ab rfl) rfl) rfl)))))) z6
  exact (au (aD hG1)).trans (bg ((lS (ab rfl) (qq hf1) (ae (av hL (ab rfl) hix) rfl)).trans (kN hf1 (by rw [Jh]; exact Vo hl (by decide)))))
 ·rw [Yk (by omega)]
  exact g01.oth j hj hl
theorem sk {b f:Nat} {kind base:Int} {r1 r2:Option D} (hk:0<=kind/\kind < 6) (hb:1<=base/\base < 10) (hfb:f ≠ b) (hf0:S0.length<=f):∀ (l:List Nat) (S:Sto) (xs:List Int) (r6 r7:Option D),(∀ i ∈ l,i < 16)->Gr b S0 S->S[f]?=some (.lst (xs.map .int))->xs.length + l.length < 1000->(∀ x ∈ xs,okN x)->
  ∃ (ys:List Int) (S':Sto) (r6' r7':Option D),forL (.nm 6) E8 (l.map λ(i:Nat)=>D.int i) [some (.ref b),r1,r2,some (.int kind),some (.int base),some (.ref f),r6,r7] S=.ok (.nx [some (.ref b),r1,r2,some (.int kind),some (.int base),some (.ref f),r6',r7']) S'/\
   ys.length=xs.length + l.length/\(∀ y ∈ ys,okN y)/\S'[f]?=some (.lst (ys.map .int))/\Gr b S0 S'
 | [],S,xs,r6,r7,_,g,hf,_,hx=>⟨xs,S,r6,r7,rfl,rfl,hx,hf,g⟩
 | i :: l,S,xs,r6,r7,hl,g,hf,hz,hx=>by
  rw [Jm] at hz
  obtain ⟨y,S1,r7',e,hy,hf1,g1⟩:=zd (r1:=r1) (r2:=r2) (r7:=r7) (hl i Ye) hk hb g hf hfb hf0 (by omega)
  obtain ⟨ys,S2,a6,a7,e2,h1,h2,h3,h4⟩:=sk hk hb hfb hf0 l S1 (xs ++ [y]) (some (.int i)) r7' (λj hj=>hl j (Yb _ hj)) g1 hf1 (by rw [Jo,Jm,Yg]; omega) (λx h=>by
   rcases Jp.mp h with h | h
   ·exact hx x h
   ·rw [Jf.mp h]; exact hy)
  exact ⟨ys,S2,a6,a7,(bu (r1:=[some (.ref b),r1,r2,some (.int kind),some (.int base),some (.ref f),some (.int i),r7]) rfl e).trans e2,by rw [h1,Jo,Jm,Yg,Jm]; omega,h2,h3,h4⟩
theorem DQ {b:Nat} {most:Int} (g:Gr b S S) (hm:0<=most/\most<=16):∃ (xs:List Int) (S':Sto),fH [.ref b,.int most] S=.ok (.tup (xs.map .int)) S'/\(xs.length:Int)<=most/\(∀ x ∈ xs,okN x)/\Gr b S S':=by
 obtain ⟨many,S1,e1,a0,a1,g1⟩:=i4 g (many:=most + 1) (by omega) (by omega)
 obtain ⟨kind,S2,e2,b0,b1,g2⟩:=i4 g1.self (many:=6) (by decide) (by decide)
 obtain ⟨bs,S3,e3,c0,c1,g3⟩:=i4 g2.self (many:=9) (by decide) (by decide)
 have gs:=(g1.trans g2).trans g3
 obtain ⟨n0,hn0⟩:=gs.bx
 have hb3:b < S3.length:=(J9.mp hn0).1
 obtain ⟨ys,S4,r6,r7,e4,h1,h2,h3,h4⟩:=sk (S0:=S) (b:=b) (f:=S3.length) (kind:=kind) (base:=1 + bs) (r1:=some (.int most)) (r2:=some (.int many)) ⟨b0,b1⟩ ⟨by omega,by omega⟩ (by omega) gs.len (List.range many.toNat) (S3 ++ [.lst []]) [] none none (λi hi=>by have:=Ur.mp hi; omega) (gs.more _) (by simp) (by simp; omega) (λx h=>nomatch h)
 refine ⟨ys,S4,?_,by rw [h1]; simp; omega,h2,h4⟩
 have z0:(0:Nat)<=sizeLine:=Y3 _
 have hN:eNew ak [some (.ref b),some (.int most),some (.int many),some (.int kind),some (.int (1 + bs)),none,none,none] S3=.ok (.ref S3.length) (S3 ++ [.lst []]):=by
  unfold eNew
  show (if 0<=sizeLine then R.ok (D.ref S3.length) (S3 ++ [SO.lst []]) else R.bad)=_
  exact J8 z0
 have ht:dF S4 [.ref S3.length]=some (.tup (ys.map .int)):=by
  show (bS S4 (.ref S3.length)).map D.tup=_
  unfold bS
  simp only [h3,Zs]
 exact bo (ρ:=[some (.ref b),some (.int most),none,none,none,none,none,none]) rfl ((au (aD ((ar (ae (ab rfl) (ae (av (ab rfl) rfl rfl) rfl))).trans e1))).trans ((au (aD ((ar (ae (ab rfl) (ae rfl rfl))).trans e2))).trans ((au (aD (av rfl ((ar (ae (ab rfl) (ae rfl rfl))).trans e3) rfl))).trans ((au (aD hN)).trans ((au ((g6 (lr (ae (ab rfl) rfl) a0 (by omega))).trans e4)).trans (aV (aW (ae (ab rfl) rfl) ht)))))))
noncomputable def Wo (K:List Int):List Int->Int->Prop
 | [],v=>v=0
 | x :: xs,v=>∃ q ∈ K,Wo K xs (v - x * q)
noncomputable abbrev KS:List Int:=[-1,1]
noncomputable def wor:List Int->List Int->Int
 | x :: xs,q :: p=>x * q + wor xs p
 | _,_=>0
noncomputable def ext (K:List Int) (f:List (List Int)):List (List Int):=f.flatMap λp=>K.map λk=>p ++ [k]
noncomputable def lE (K:List Int):Nat->List (List Int)
 | 0=>[[]]
 | n + 1=>ext K (lE K n)
theorem cu:∀ (n:Nat) (p:List Int),p ∈ lE K n↔p.length=n/\∀ q ∈ p,q ∈ K
 | 0,p=>by
  simp only [lE,Jf]
  constructor
  ·rintro rfl; exact ⟨rfl,λq h=>nomatch h⟩
  ·rintro ⟨h,_⟩; exact Za.mp h
 | n + 1,p=>by
  simp only [lE,ext,Qa,Jv]
  constructor
  ·rintro ⟨p',h',k,hk,rfl⟩
   obtain ⟨h1,h2⟩:=(cu n p').mp h'
   refine ⟨by simp [h1],λq hq=>?_⟩
   rcases Jp.mp hq with hq | hq
   ·exact h2 q hq
   ·rw [Jf.mp hq]; exact hk
  ·rintro ⟨h1,h2⟩
   have hne:p ≠ []:=λh=>by rw [h] at h1; cases h1
   refine ⟨p.dropLast,(cu n _).mpr ⟨by rw [List.length_dropLast,h1]; rfl,λq hq=>h2 q ((List.dropLast_sublist p).subset hq)⟩,p.getLast hne,h2 _ (List.getLast_mem hne),Wp hne⟩
theorem qr:∀ (xs:List Int) (v:Int),Wo K xs v↔∃ p,(p.length=xs.length/\∀ q ∈ p,q ∈ K)/\wor xs p=v
 | [],v=>by
  constructor
  ·intro h; exact ⟨[],⟨rfl,λq h=>nomatch h⟩,(show v=0 from h).symm⟩
  ·rintro ⟨p,⟨h,_⟩,e⟩
   cases Za.mp h
   exact e.symm
 | x :: xs,v=>by
  constructor
  ·rintro ⟨q,hq,h⟩
   obtain ⟨p,⟨h1,h2⟩,e⟩:=(qr xs _).mp h
   refine ⟨q :: p,⟨by simp [h1],λr hr=>?_⟩,by show x * q + wor xs p=v; omega⟩
   rcases Jg.mp hr with rfl | hr
   ·exact hq
   ·exact h2 r hr
  ·rintro ⟨p,⟨h1,h2⟩,e⟩
   cases p with
   | nil=>cases h1
   | cons q p=>
    refine ⟨q,h2 q (.head _),(qr xs _).mpr ⟨p,⟨by simpa using h1,λr hr=>h2 r (.tail _ hr)⟩,?_⟩⟩
    have e':x * q + wor xs p=v:=e
    omega
theorem DR:Wo K xs v↔∃ p ∈ lE K xs.length,wor xs p=v:=by
 rw [qr]
 constructor
 ·rintro ⟨p,h,e⟩; exact ⟨p,(cu _ _).mpr h,e⟩
 ·rintro ⟨p,h,e⟩; exact ⟨p,(cu _ _).mp h,e⟩
theorem vA (K:List Int):∀ f:List (List Int),(ext K f).length=f.length * K.length
 | []=>by simp [ext]
 | p :: f=>by
  have:=vA K f
  simp only [ext,Yn,Jo,Jh,Jm] at this ⊢
  rw [this,Vm]; omega
theorem sr (K:List Int):∀ n,(lE K n).length=K.length ^ n
 | 0=>rfl
 | n + 1=>by rw [lE,vA,sr K n,Vu]
noncomputable abbrev tupI (xs:List Int):D:=.tup (xs.map .int)
theorem xh (kvs:List (KD × D)) (k:KD):(eO kvs k).isSome=kvs.any λkv=>decide (kv.1=k):=by
 unfold eO
 rw [Ud,Qf,List.find?_isSome,W4]
theorem mZ {b:EM} {d y z:D} {kvs kvs':List (KD × D)} {k:KD} (ho:o r S=.ok d S1) (hd:bV S1 d=some kvs) (ha:a r S1=.ok y S2) (hb:b r S2=.ok z S3) (hd3:bV S3 d=some kvs') (hk:jd y=some k):fD o a b r S=.ok ((eO kvs' k).getD z) S3:=by
 unfold fD
 rw [ho,R.bind_ok]
 simp only [hd,Option.isSome_some,Yj,ha,R.bind_ok,hb,hd3,hk]
theorem qu {f:Sto->D->D->D->Option Sto} {i:EM} {S4:Sto} {v x y:D} (he:e r S=.ok v S1) (ho:o r S1=.ok x S2) (hi:i r S2=.ok y S3) (hf:f S3 x y v=some S4):jI f e o i r S=.ok (.nx r) S4:=by
 unfold jI
 rw [he,R.bind_ok,ho,R.bind_ok,hi,R.bind_ok,hf]
noncomputable def fS (K:List Int) (x:Int) (f:List Int):List Int:=f.flatMap λw=>K.map λq=>w + q * x
noncomputable def pT (T:List (Int × Int)) (k c:Int):List (Int × Int):=if T.any (λe=>decide (e.1=k)) then T.map (λe=>if e.1=k then (e.1,c) else e) else T ++ [(k,c)]
noncomputable def gT (T:List (Int × Int)) (k:Int):Int:=((T.find? λe=>decide (e.1=k)).map (·.2)).getD 0
noncomputable def sumH (h:Int->Int) (T:List (Int × Int)):Int:=(T.map λe=>h e.1 * e.2).sum
def Keys (T:List (Int × Int)):Prop:=T.Pairwise λa b=>a.1 ≠ b.1
theorem cF (h:Int->Int) (e:Int × Int) (T:List (Int × Int)):sumH h (e :: T)=h e.1 * e.2 + sumH h T:=by simp [sumH]
theorem j8 (h:Int->Int):∀ (A B:List (Int × Int)),sumH h (A ++ B)=sumH h A + sumH h B
 | [],B=>by simp [sumH]
 | e :: A,B=>by rw [Qk,cF,cF,j8 h A B]; omega
theorem DS {k:Int} (h:T.any (λe=>decide (e.1=k))=false):gT T k=0:=by
 unfold gT
 have:(T.find? λe=>decide (e.1=k))=none:=by
  rw [V3]
  intro e he hd
  rw [Zq] at h
  exact h e he hd
 rw [this]; rfl
theorem ze {k:Int} (h:∀ e ∈ T,e.1 ≠ k):T.map (λe=>if e.1=k then (e.1,c) else e)=T:=by
 induction T with
 | nil=>rfl
 | cons e T ih=>
  rw [Jn,Jc (h e (.head _)),ih λe he=>h e (.tail _ he)]
theorem Bk (e:Int × Int) (T:List (Int × Int)) (k:Int):gT (e :: T) k=if e.1=k then e.2 else gT T k:=by
 unfold gT
 rw [Z5]
 by_cases h:e.1=k
 ·simp [h]
 ·simp [h]
theorem su (h:Int->Int) {k:Int} :∀ {T:List (Int × Int)},Keys T->T.any (λe=>decide (e.1=k))=true->sumH h (T.map λe=>if e.1=k then (e.1,c) else e)=sumH h T + h k * (c - gT T k)
 | [],_,ha=>by simp at ha
 | e :: T,hk,ha=>by
  have hk':=Qo.mp hk
  rw [Jn,cF,cF,Bk]
  by_cases he:e.1=k
  ·rw [J8 he,J8 he,ze λe' he' h=>hk'.1 e' he' (by rw [he,h])]
   simp only
   rw [he,Int.mul_sub]
   omega
  ·have ha':T.any (λe=>decide (e.1=k))=true:=by
    simp only [Q5,he,Zv,Bool.false_or] at ha
    exact ha
   rw [Jc he,Jc he,su h hk'.2 ha']
   omega
theorem Bl (h:Int->Int) (hk:Keys T) (k c:Int):sumH h (pT T k (gT T k + c))=sumH h T + h k * c:=by
 unfold pT
 cases ha:T.any (λe=>decide (e.1=k)) with
 | true=>
  rw [J8 rfl,su h hk ha,show gT T k + c - gT T k=c by omega]
 | false=>
  rw [Jc Jl,j8,DS ha,cF]
  simp [sumH]
theorem vB (hk:Keys T) (k c:Int):Keys (pT T k c):=by
 unfold pT
 cases ha:T.any (λe=>decide (e.1=k)) with
 | true=>
  rw [J8 rfl]
  unfold Keys
  rw [V8]
  refine List.Pairwise.imp (λ{a b} h=>?_) hk
  split <;> split <;> exact h
 | false=>
  rw [Jc Jl]
  refine Zl.mpr ⟨hk,Zz _ _,λa ha' b hb=>?_⟩
  rw [Jf.mp hb]
  rw [Zq] at ha
  have:=ha a ha'
  simpa using this
theorem DT (T:List (Int × Int)) (k c v:Int):(∃ e ∈ pT T k c,e.1=v)↔(∃ e ∈ T,e.1=v) \/ v=k:=by
 unfold pT
 cases ha:T.any (λe=>decide (e.1=k)) with
 | true=>
  rw [J8 rfl]
  constructor
  ·rintro ⟨e,he,rfl⟩
   obtain ⟨e',he',rfl⟩:=Jv.mp he
   refine .inl ⟨e',he',?_⟩
   split <;> rfl
  ·rintro (⟨e,he,rfl⟩ | rfl)
   ·exact ⟨_,Jv.mpr ⟨e,he,rfl⟩,by split <;> rfl⟩
   ·rw [W4] at ha
    obtain ⟨e,he,hd⟩:=ha
    exact ⟨_,Jv.mpr ⟨e,he,rfl⟩,by split <;> exact Yy hd⟩
 | false=>
  rw [Jc Jl]
  constructor
  ·rintro ⟨e,he,rfl⟩
   rcases Jp.mp he with he | he
   ·exact .inl ⟨e,he,rfl⟩
   ·rw [Jf.mp he]; exact .inr rfl
  ·rintro (⟨e,he,rfl⟩ | rfl)
   ·exact ⟨e,Yr _ he,rfl⟩
   ·exact ⟨(v,c),Jw _ (Jf.mpr rfl),rfl⟩
theorem zf (T:List (Int × Int)) (k c:Int):(pT T k c).length<=T.length + 1:=by
 unfold pT
 split <;> simp
structure Hist (T:List (Int × Int)) (f:List Int):Prop where
 keys:Keys T
 mem:∀ v,(∃ e ∈ T,e.1=v)↔v ∈ f
 sum:∀ h:Int->Int,sumH h T=(f.map h).sum
 len:T.length<=f.length
theorem Hist.zero:Hist [(0,1)] [0]:=⟨Zz _ _,λv=>by simp [eq_comm],λh=>by simp [sumH],Jb _⟩
theorem sv:∀ (a b:List Int),(a ++ b).sum=a.sum + b.sum
 | [],b=>by simp
 | x :: a,b=>by rw [Qk,Q6,Q6,sv a b]; omega
structure HistC (T:List (Int × Int)) (L:List (Int × Int)):Prop where
 keys:Keys T
 mem:∀ v,(∃ e ∈ T,e.1=v)↔∃ e ∈ L,e.1=v
 sum:∀ h:Int->Int,sumH h T=sumH h L
 len:T.length<=L.length
theorem HistC.nil:HistC [] []:=⟨List.Pairwise.nil,λv=>by simp,λh=>rfl,Jb _⟩
theorem HistC.put {L:List (Int × Int)} (h:HistC T L) (k c:Int):HistC (pT T k (gT T k + c)) (L ++ [(k,c)]):=by
 refine ⟨vB h.keys _ _,λv=>?_,λf=>?_,Y9 (zf _ _ _) (by have:=h.len; simp; omega)⟩
 ·rw [DT,h.mem v]
  constructor
  ·rintro (⟨e,he,e1⟩ | rfl)
   ·exact ⟨e,Yr _ he,e1⟩
   ·exact ⟨(v,c),Jw _ (Jf.mpr rfl),rfl⟩
  ·rintro ⟨e,he,rfl⟩
   rcases Jp.mp he with he | he
   ·exact .inl ⟨e,he,rfl⟩
   ·rw [Jf.mp he]; exact .inr rfl
 ·rw [Bl f h.keys,h.sum f,j8,cF]
  simp [sumH]
noncomputable def eV (K:List Int) (x:Int) (T:List (Int × Int)):List (Int × Int):=T.flatMap λe=>K.map λq=>(e.1 + q * x,e.2)
theorem oI (K:List Int) (x:Int) (h:Int->Int):∀ T:List (Int × Int),sumH h (eV K x T)=sumH (λy=>(K.map λq=>h (y + q * x)).sum) T
 | []=>rfl
 | e :: T=>by
  have ih:=oI K x h T
  unfold eV at ih ⊢
  rw [Yn,j8,cF,ih]
  congr 1
  have:∀ l:List Int,sumH h (l.map λq=>(e.1 + q * x,e.2))=(l.map λq=>h (e.1 + q * x)).sum * e.2:=λl=>by
   induction l with
   | nil=>simp [sumH]
   | cons q l ih=>rw [Jn,cF,Jn,Q6,ih,Int.add_mul]
  exact this K
theorem zg (K:List Int) (x:Int) (h:Int->Int):∀ f:List Int,((fS K x f).map h).sum=(f.map λy=>(K.map λq=>h (y + q * x)).sum).sum
 | []=>rfl
 | w :: f=>by
  have ih:=zg K x h f
  unfold fS at ih ⊢
  rw [Yn,Qg,sv,ih,Jn,Q6,Zn]
  rfl
theorem zh {f:List Int}:v ∈ fS K x f↔∃ w ∈ f,∃ q ∈ K,w + q * x=v:=by
 simp only [fS,Qa,Jv]
theorem qw (K:List Int) (x:Int):∀ f:List Int,(fS K x f).length=f.length * K.length
 | []=>by simp [fS]
 | w :: f=>by
  have:=qw K x f
  simp only [fS,Yn,Jo,Jh,Jm] at this ⊢
  rw [this,Vm]; omega
theorem iu (K:List Int) (x:Int):∀ T:List (Int × Int),(eV K x T).length=T.length * K.length
 | []=>by simp [eV]
 | w :: f=>by
  have:=iu K x f
  simp only [eV,Yn,Jo,Jh,Jm] at this ⊢
  rw [this,Vm]; omega
theorem Hist.step {T':List (Int × Int)} {f:List Int} (h:Hist T f) (h':HistC T' (eV K x T)):Hist T' (fS K x f):=by
 refine ⟨h'.keys,λv=>?_,λg=>?_,?_⟩
 ·rw [h'.mem v,zh]
  simp only [eV,Qa,Jv]
  constructor
  ·rintro ⟨e,⟨e0,he0,q,hq,rfl⟩,rfl⟩
   exact ⟨e0.1,(h.mem _).mp ⟨e0,he0,rfl⟩,q,hq,rfl⟩
  ·rintro ⟨w,hw,q,hq,rfl⟩
   obtain ⟨e0,he0,rfl⟩:=(h.mem w).mpr hw
   exact ⟨_,⟨e0,he0,q,hq,rfl⟩,rfl⟩
 ·rw [h'.sum g,oI,h.sum,zg]
 ·have:=h'.len
  rw [iu] at this
  rw [qw]
  exact Y9 this (Vv _ h.len)
theorem sA:∀ (xs p:List Int) (x q:Int),p.length=xs.length->wor (xs ++ [x]) (p ++ [q])=wor xs p + q * x
 | [],[],x,q,_=>by show x * q + 0=0 + q * x; rw [Wq]; omega
 | y :: xs,r :: p,x,q,h=>by
  show y * r + wor (xs ++ [x]) (p ++ [q])=y * r + wor xs p + q * x
  rw [sA xs p x q (by simpa using h)]; omega
 | [],_ :: _,_,_,h=>by cases h
 | _ :: _,[],_,_,h=>by cases h
noncomputable def wsL (K:List Int) (xs:List Int):List Int:=(lE K xs.length).map (wor xs)
theorem zi (K xs:List Int) (x:Int):wsL K (xs ++ [x])=fS K x (wsL K xs):=by
 unfold wsL fS
 rw [Jo,Jm,Yg]
 show (ext K (lE K xs.length)).map _=_
 unfold ext
 rw [List.map_flatMap,List.flatMap_map]
 have:∀ l:List (List Int),(∀ p ∈ l,p.length=xs.length)->(l.flatMap λp=>(K.map λk=>p ++ [k]).map (wor (xs ++ [x])))=l.flatMap λp=>K.map λq=>wor xs p + q * x:=λl=>by
  induction l with
  | nil=>intro _; rfl
  | cons p l ih=>
   intro h
   rw [Yn,Yn,ih λp hp=>h p (.tail _ hp),Zn]
   congr 1
   refine Wy λk _=>?_
   exact sA xs p x k (h p (.head _))
 exact this _ λp hp=>((cu _ p).mp hp).1
noncomputable def aC (T:List (Int × Int)):List (KD × D):=T.map λe=>(.inl e.1,.int e.2)
theorem zj (T:List (Int × Int)) (k:Int):(aC T).any (λkv=>decide (kv.1=.inl k))=T.any λe=>decide (e.1=k):=by
 unfold aC
 rw [List.any_map]
 congr 1
 funext e
 show decide ((Sum.inl e.1:KD)=.inl k)=decide (e.1=k)
 rw [W5]
 exact ⟨Qy,λh=>by rw [h]⟩
theorem m5 (T:List (Int × Int)) (k c:Int):putD (aC T) (.inl k) (.int c)=aC (pT T k c):=by
 unfold putD pT
 rw [zj]
 cases T.any λe=>decide (e.1=k) with
 | true=>
  rw [J8 rfl,J8 rfl]
  unfold aC
  rw [Zn,Zn]
  refine Wy λe _=>?_
  simp only [Function.comp]
  by_cases h:e.1=k
  ·rw [J8 (by rw [h]),J8 h]
  ·rw [Jc (λz=>h (Qy z)),Jc h]
 | false=>
  rw [Jc Jl,Jc Jl]
  simp [aC]
theorem zk (T:List (Int × Int)) (k:Int):(eO (aC T) (.inl k)).getD (.int 0)=.int (gT T k):=by
 unfold eO gT aC
 rw [Ut]
 have e:((λkv:KD × D=>decide (kv.1=.inl k)) ∘ λe:Int × Int=>((.inl e.1:KD),D.int e.2))=λe=>decide (e.1=k):=by
  funext e
  show decide ((Sum.inl e.1:KD)=.inl k)=decide (e.1=k)
  rw [W5]
  exact ⟨Qy,λh=>by rw [h]⟩
 rw [e]
 cases T.find? λe=>decide (e.1=k) <;> rfl
def dAt (S:Sto) (n:Nat) (T:List (Int × Int)):Prop:=S[n]?=some (.dic (aC T)) \/ S[n]?=some (.fdic (aC T))
theorem dAt.dic (h:dAt S n T):bV S (.ref n)=some (aC T):=by
 rcases h with h | h <;> simp [bV,h]
theorem dAt.seq (h:dAt S n T):bS S (.ref n)=none:=by
 rcases h with h | h <;> simp [bS,h]
theorem dAt.lt (h:dAt S n T):n < S.length:=by
 rcases h with h | h <;> exact (J9.mp h).1
noncomputable abbrev stI:SM:=(aA (aI 7 (eOp bb (ag 4) (eOp cx (ag 6) (ag 1)))) (jI fN (eOp bb (fD (ag 3) (ag 7) (eC (.int 0))) (ag 5)) (ag 3) (ag 7)))
noncomputable abbrev stO:SM:=(er (cc (ag 2) bC) (.nm 6) (aA (aI 7 (eOp bb (ag 4) (eOp cx (ag 6) (ag 1)))) (jI fN (eOp bb (fD (ag 3) (ag 7) (eC (.int 0))) (ag 5)) (ag 3) (ag 7))))
noncomputable abbrev FK:SM:=(aI 2 (ax cY (af (ag 2) (af (ag 3) (af (ag 1) ak)))))
theorem sml (h:-1<=q/\q<=1):cI q:=⟨by omega,by omega⟩
theorem DU {W:List (Int × Int)} {x w c:Int} (hq:-1<=q/\q<=1) (hm:S[m]?=some (.dic (aC W))) (hz:W.length < 1000) (r0 r2 r7:Option D):
  stI [r0,some (.int x),r2,some (.ref m),some (.int w),some (.int c),some (.int q),r7] S=.ok (.nx [r0,some (.int x),r2,some (.ref m),some (.int w),some (.int c),some (.int q),some (.int (w + q * x))]) (S.set m (.dic (aC (pT W (w + q * x) (gT W (w + q * x) + c))))):=by
 have hd:bV S (.ref m)=some (aC W):=by simp [bV,hm]
 have z:(1000:Nat)<=sizeLine:=by decide
 refine (au (aD (av (ab rfl) (av (ab rfl) (ab rfl) (cO (.inl (sml hq)))) rfl))).trans ?_
 have hg:fD (ag 3) (ag 7) (eC (.int 0)) [r0,some (.int x),r2,some (.ref m),some (.int w),some (.int c),some (.int q),some (.int (w + q * x))] S=.ok (.int (gT W (w + q * x))) S:=by
  rw [<- zk]
  exact mZ (ab rfl) hd (ab rfl) rfl hd rfl
 refine qu (av hg (ab rfl) rfl) (ab rfl) (ab rfl) ?_
 have h1:lg S (.ref m)=true:=by simp [lg,hm]
 unfold fN
 rw [J8 h1]
 unfold ot
 simp only [hm,jd]
 rw [J8 (by simp [aC]; omega),m5]
theorem sC {x w c:Int} (r0 r2:Option D) :∀ (K:List Int) (S:Sto) (W L:List (Int × Int)) (r6 r7:Option D),(∀ q ∈ K,-1<=q/\q<=1)->S[m]?=some (.dic (aC W))->HistC W L->L.length + K.length<=1000->
  ∃ (W':List (Int × Int)) (r6' r7':Option D),forL (.nm 6) stI (K.map .int) [r0,some (.int x),r2,some (.ref m),some (.int w),some (.int c),r6,r7] S=.ok (.nx [r0,some (.int x),r2,some (.ref m),some (.int w),some (.int c),r6',r7']) (S.set m (.dic (aC W')))/\HistC W' (L ++ K.map λq=>(w + q * x,c))
 | [],S,W,L,r6,r7,_,hm,h,_=>⟨W,r6,r7,by
  have hml:m < S.length:=(J9.mp hm).1
  have:S.set m (.dic (aC W))=S:=by
   have e:=(J9.mp hm).2
   rw [<- e]; exact Zu hml
  rw [this]; rfl,by simpa using h⟩
 | q :: K,S,W,L,r6,r7,hK,hm,h,hz=>by
  rw [Jm] at hz
  have hml:m < S.length:=(J9.mp hm).1
  have e1:=DU (S:=S) (x:=x) (w:=w) (c:=c) (hK q (.head _)) hm (by have:=h.len; omega) r0 r2 r7
  obtain ⟨W',a6,a7,e2,h2⟩:=sC r0 r2 K (S.set m (.dic (aC (pT W (w + q * x) (gT W (w + q * x) + c))))) (pT W (w + q * x) (gT W (w + q * x) + c)) (L ++ [(w + q * x,c)]) (some (.int q)) (some (.int (w + q * x))) (λq hq=>hK q (.tail _ hq)) (Y6 hml) (h.put (w + q * x) c) (by simp; omega)
  rw [W6] at e2
  refine ⟨W',a6,a7,(bu (r1:=[r0,some (.int x),r2,some (.ref m),some (.int w),some (.int c),some (.int q),r7]) rfl e1).trans e2,?_⟩
  rw [Jn]
  simpa using h2
theorem sD {x:Int} (hK:∀ q ∈ K,-1<=q/\q<=1) (r0:Option D) :∀ (T:List (Int × Int)) (S:Sto) (W L:List (Int × Int)) (r4 r5 r6 r7:Option D),S[m]?=some (.dic (aC W))->HistC W L->L.length + T.length * K.length<=1000->
  ∃ (W':List (Int × Int)) (r4' r5' r6' r7':Option D),forL (.tp [.nm 4,.nm 5]) stO ((aC T).map pairD) [r0,some (.int x),some (tupI K),some (.ref m),r4,r5,r6,r7] S=.ok (.nx [r0,some (.int x),some (tupI K),some (.ref m),r4',r5',r6',r7']) (S.set m (.dic (aC W')))/\HistC W' (L ++ eV K x T)
 | [],S,W,L,r4,r5,r6,r7,hm,h,_=>⟨W,r4,r5,r6,r7,by
  have hml:m < S.length:=(J9.mp hm).1
  have:S.set m (.dic (aC W))=S:=by
   have e:=(J9.mp hm).2
   rw [<- e]; exact Zu hml
  rw [this]; rfl,by simpa [eV] using h⟩
 | e :: T,S,W,L,r4,r5,r6,r7,hm,h,hz=>by
  have hm2:(e :: T).length * K.length=T.length * K.length + K.length:=by rw [Jm,Vm]
  have hml:m < S.length:=(J9.mp hm).1
  obtain ⟨W1,a6,a7,e1,h1⟩:=sC (x:=x) (w:=e.1) (c:=e.2) r0 (some (tupI K)) K S W L r6 r7 hK hm h (by omega)
  obtain ⟨W2,b4,b5,b6,b7,e2,h2⟩:=sD hK r0 T (S.set m (.dic (aC W1))) W1 (L ++ K.map λq=>(e.1 + q * x,e.2)) (some (.int e.1)) (some (.int e.2)) a6 a7 (Y6 hml) h1 (by rw [Jo,Jh]; omega)
  rw [W6] at e2
  refine ⟨W2,b4,b5,b6,b7,?_,?_⟩
  ·show forL _ _ (pairD (.inl e.1,.int e.2) :: (aC T).map pairD) _ _=_
   exact (bu (r1:=[r0,some (.int x),some (tupI K),some (.ref m),some (.int e.1),some (.int e.2),r6,r7]) rfl ((dy (ab rfl) rfl).trans e1)).trans e2
  ·have:eV K x (e :: T)=(K.map λq=>(e.1 + q * x,e.2)) ++ eV K x T:=by simp [eV]
   rw [this,<- Y7]
   exact h2
theorem m7 (hi:ρ[i]?=some (some (.ref n))) (h:dAt S n T):fE (ag i) ρ S=.ok ((aC T).map pairD) (S.set n (.fdic (aC T))):=by
 unfold fE
 rw [ab hi,R.bind_ok]
 rcases h with h | h
 ·simp only [h]
 ·simp only [h]
  have hnl:n < S.length:=(J9.mp h).1
  have:S.set n (.fdic (aC T))=S:=by
   have e:=(J9.mp h).2
   rw [<- e]; exact Zu hnl
  rw [this]
theorem m8 {x:Int} {f:List Int} (hK:∀ q ∈ K,-1<=q/\q<=1) (hd:dAt S n T) (h:Hist T f) (hz:f.length * K.length<=1000):
  ∃ T':List (Int × Int),cY [.ref n,.int x,tupI K] S=.ok (.ref S.length) (S.set n (.fdic (aC T)) ++ [.dic (aC T')])/\Hist T' (fS K x f):=by
 have hnl:=hd.lt
 have hd':dAt (S ++ [.dic []]) n T:=by
  unfold dAt
  rw [Jq hnl]
  exact hd
 have hle:T.length * K.length<=f.length * K.length:=Vv _ h.len
 have e0:(S ++ [SO.dic []]).set n (.fdic (aC T))=S.set n (.fdic (aC T)) ++ [.dic []]:=Vw _ _ hnl
 obtain ⟨T',a4,a5,a6,a7,e1,h1⟩:=sD (x:=x) hK (some (.ref n)) (m:=S.length) T (S.set n (.fdic (aC T)) ++ [.dic []]) [] [] none none none none (by simp [aC]) HistC.nil (by simp; omega)
 have e2:(S.set n (.fdic (aC T)) ++ [SO.dic []]).set S.length (.dic (aC T'))=S.set n (.fdic (aC T)) ++ [.dic (aC T')]:=by
  rw [Wn _ _ (by simp)]; simp
 rw [e2] at e1
 refine ⟨T',?_,h.step (by simpa using h1)⟩
 exact bo (ρ:=[some (.ref n),some (.int x),some (tupI K),none,none,none,none,none]) rfl ((au (S1:=S ++ [.dic []]) (aD rfl)).trans ((au (r1:=[some (.ref n),some (.int x),some (tupI K),some (.ref S.length),a4,a5,a6,a7]) ((g6 (m7 rfl hd')).trans (by rw [e0]; exact e1))).trans (aV (ab rfl))))
noncomputable def mx (g h:Int):Int:=if (if h < 0 then -h else h) > g then (if h < 0 then -h else h) else g
noncomputable def swg:List (Int × Int)->Int->Int->Int
 | [],_,g=>g
 | z :: zs,a,g=>swg zs (a + z.1 * z.2) (mx g (a + z.1 * z.2))
theorem zm:∀ (xs ss:List Int),lC (xs.map .int) (ss.map .int)=(xs.zip ss).map λz=>D.tup [.int z.1,.int z.2]
 | [],_=>rfl
 | _ :: _,[]=>rfl
 | x :: xs,s :: ss=>by
  have ih:=zm xs ss
  show D.tup [.int x,.int s] :: lC (xs.map .int) (ss.map .int)=_
  rw [ih]; rfl
theorem DV {j:Nat} (hi:r[i]?=some (some (.tup (xs.map .int)))) (hj:r[j]?=some (some (.tup (ss.map .int)))):AU (af (ag i) (af (ag j) ak)) r S=.ok ((xs.zip ss).map λz=>D.tup [.int z.1,.int z.2]) S:=by
 unfold AU
 rw [ae (ab hi) (ae (ab hj) rfl),R.bind_ok]
 show R.ok (lC (xs.map .int) (ss.map .int)) S=_
 rw [zm]
def Sg (n:Nat) (ss:List Int):Prop:=ss.length=n/\∀ s ∈ ss,s=1 \/ s = -1
theorem Sg.small (h:Sg n ss):∀ z ∈ xs.zip ss,cI z.2:=λx hx=>by
 rcases h.2 x.2 (Wz hx).2 with e | e <;> (rw [e]; decide)
noncomputable def gi (v:Int):Int:=if v < 0 then -v else v
noncomputable def inB (b v:Int):Bool:=decide (gi v<=b)
noncomputable def kpT (b:Int) (T:List (Int × Int)):List (Int × Int):=T.filter λe=>inB b e.1
theorem sE (b:Int) (h:Int->Int):∀ T:List (Int × Int),sumH h (kpT b T)=sumH (λy=>if inB b y=true then h y else 0) T
 | []=>rfl
 | e :: T=>by
  have ih:=sE b h T
  unfold kpT at ih ⊢
  rw [Zm,cF]
  by_cases hb:inB b e.1=true
  ·rw [J8 hb,J8 hb,cF,ih]
  ·rw [Jc hb,Jc hb,ih]; omega
theorem vD (b:Int) (h:Int->Int):∀ f:List Int,((f.filter (inB b)).map h).sum=(f.map λy=>if inB b y=true then h y else 0).sum
 | []=>rfl
 | y :: f=>by
  rw [Zm,Jn,Q6,<- vD b h f]
  by_cases hb:inB b y=true
  ·rw [J8 hb,J8 hb,Jn,Q6]
  ·rw [Jc hb,Jc hb]; omega
theorem Bm (b:Int) {f:List Int} (hk:Keys T) (hm:∀ v,(∃ e ∈ T,e.1=v)↔v ∈ f):(kpT b T).length<=(f.filter (inB b)).length:=by
 have nd:((kpT b T).map (·.1)).Nodup:=by
  unfold kpT
  rw [Qs,V8]
  exact hk.filter _
 have sub:(kpT b T).map (·.1) ⊆ f.filter (inB b):=λv hv=>by
  obtain ⟨e,he,rfl⟩:=Jv.mp hv
  obtain ⟨h1,h2⟩:=Y2.mp he
  exact Y2.mpr ⟨(hm e.1).mp ⟨e,h1,rfl⟩,h2⟩
 have:=List.Nodup.length_le_of_subset nd sub
 rwa [Jh] at this
theorem Hist.keep {f:List Int} (b:Int) (h:Hist T f):Hist (kpT b T) (f.filter (inB b)):=by
 refine ⟨h.keys.filter _,λv=>?_,λg=>?_,Bm b h.keys h.mem⟩
 ·rw [Y2,<- h.mem v]
  constructor
  ·rintro ⟨e,he,rfl⟩
   obtain ⟨h1,h2⟩:=Y2.mp he
   exact ⟨⟨e,h1,rfl⟩,h2⟩
  ·rintro ⟨⟨e,he,rfl⟩,h2⟩
   exact ⟨e,Y2.mpr ⟨he,h2⟩,rfl⟩
 ·rw [sE,h.sum,vD]
theorem Hist.count {f:List Int} (h:Hist T f):(T.map (·.2)).sum=(f.length:Int):=by
 have e:=h.sum λ_=>1
 unfold sumH at e
 have e1:(T.map λe=>(1:Int) * e.2)=T.map (·.2):=Wy λx _=>Int.one_mul _
 rw [e1] at e
 rw [e]
 have:∀ l:List Int,(l.map λ_=>(1:Int)).sum=(l.length:Int):=λl=>by
  induction l with
  | nil=>rfl
  | cons x l ih=>rw [Jn,Q6,ih,Jm]; omega
 exact this f
noncomputable def allS:Nat->List (List Int)
 | 0=>[[]]
 | n + 1=>(allS n).flatMap λp=>[p ++ [-1],p ++ [1]]
theorem fW:∀ (n:Nat),∀ p ∈ allS n,Sg n p
 | 0,p,h=>by
  rw [Jf.mp h]
  exact ⟨rfl,λs hs=>by cases hs⟩
 | n + 1,p,h=>by
  obtain ⟨q,hq,hp⟩:=Qa.mp h
  obtain ⟨h1,h2⟩:=fW n q hq
  simp only [Jg,Jz,Z2] at hp
  have key:∀ v:Int,(v=1 \/ v = -1)->Sg (n + 1) (q ++ [v]):=λv hv=>⟨by rw [Jo,h1]; rfl,λs hs=>by
   rcases Jp.mp hs with hs | hs
   ·exact h2 s hs
   ·rw [Jf.mp hs]; exact hv⟩
  rcases hp with rfl | rfl
  ·exact key _ (.inr rfl)
  ·exact key _ (.inl rfl)
theorem j9:∀ n:Nat,(allS n).length=2 ^ n
 | 0=>rfl
 | n + 1=>by
  have ih:=j9 n
  have:∀ l:List (List Int),(l.flatMap λp=>[p ++ [-1],p ++ [1]]).length=l.length * 2:=λl=>by
   induction l with
   | nil=>rfl
   | cons x l ih=>
    have e1:([x ++ [-1],x ++ [1]]:List (List Int)).length=2:=rfl
    rw [Yn,Jo,ih,e1,Jm]; omega
  show ((allS n).flatMap _).length=_
  rw [this,ih,Vu]
noncomputable def swO (xs p:List Int):Int:=swg (xs.zip p) 0 0
noncomputable def gI (zs:List (Int × Int)) (a:Int):Int:=zs.foldl (λc z=>c + z.1 * z.2) a
theorem m9:∀ (zs:List (Int × Int)) (a g:Int) (z:Int × Int),swg (zs ++ [z]) a g=mx (swg zs a g) (gI zs a + z.1 * z.2)
 | [],a,g,z=>rfl
 | y :: zs,a,g,z=>m9 zs (a + y.1 * y.2) (mx g (a + y.1 * y.2)) z
theorem B9 (g h b:Int):decide (mx g h<=b)=(decide (g<=b) && inB b h):=by
 unfold mx inB gi
 rw [Qf]
 simp only [decide_eq_true_eq,Yl]
 constructor
 ·intro q
  split at q <;> constructor <;> omega
 ·rintro ⟨h1,h2⟩
  split <;> omega
noncomputable def wiL (b:Int) (xs:List Int):List Int:=((allS xs.length).filter λp=>decide (swO xs p<=b)).map λp=>gI (xs.zip p) 0
theorem kc (h:p.length=xs.length) (x q:Int):(xs ++ [x]).zip (p ++ [q])=xs.zip p ++ [(x,q)]:=by
 rw [List.zip_append h.symm]; rfl
theorem oJ (zs:List (Int × Int)) (a:Int) (z:Int × Int):gI (zs ++ [z]) a=gI zs a + z.1 * z.2:=by
 unfold gI
 rw [List.foldl_append]; rfl
theorem vE (b:Int) (xs:List Int) (x:Int):∀ l:List (List Int),(∀ p ∈ l,p.length=xs.length)->
  ((fS [-1,1] x ((l.filter λp=>decide (swO xs p<=b)).map λp=>gI (xs.zip p) 0)).filter (inB b))=((l.flatMap λp=>[p ++ [-1],p ++ [1]]).filter λp=>decide (swO (xs ++ [x]) p<=b)).map λp=>gI ((xs ++ [x]).zip p) 0
 | [],_=>rfl
 | p :: l,h=>by
  have ih:=vE b xs x l λq hq=>h q (.tail _ hq)
  have hp:=h p (.head _)
  have key:∀ q:Int,decide (swO (xs ++ [x]) (p ++ [q])<=b)=(decide (swO xs p<=b) && inB b (gI (xs.zip p) 0 + q * x)):=λq=>by
   unfold swO
   rw [kc hp,m9,B9]
   show (_ && inB b (gI (xs.zip p) 0 + x * q))=_
   rw [Wq]
  have wk:∀ q:Int,gI ((xs ++ [x]).zip (p ++ [q])) 0=gI (xs.zip p) 0 + q * x:=λq=>by
   rw [kc hp,oJ]
   show _ + x * q=_
   rw [Wq]
  rw [Yn,List.filter_append,Qg,<- ih,Zm]
  by_cases hb:decide (swO xs p<=b)=true
  ·rw [J8 hb,Jn]
   unfold fS
   rw [Yn,List.filter_append]
   congr 1
   show ([gI (xs.zip p) 0 + -1 * x,gI (xs.zip p) 0 + 1 * x].filter (inB b))=_
   have k1:=key (-1)
   have k2:=key 1
   rw [hb,Bool.true_and] at k1 k2
   cases h1:inB b (gI (xs.zip p) 0 + -1 * x) <;> cases h2:inB b (gI (xs.zip p) 0 + 1 * x) <;> (rw [h1] at k1; rw [h2] at k2; simp only [Zm,Uq,k1,k2,h1,h2,Yj,Jx,Ys,Jn,W0,wk])
  ·rw [Jc hb]
   have e:([p ++ [-1],p ++ [1]].filter λp=>decide (swO (xs ++ [x]) p<=b))=[]:=by
    simp only [Zm,Uq,key,Bool.not_eq_true _ ▸ hb,Bool.false_and,Jx,Ys]
   rw [e]; rfl
theorem sF (b:Int) (xs:List Int) (x:Int):(fS [-1,1] x (wiL b xs)).filter (inB b)=wiL b (xs ++ [x]):=by
 unfold wiL
 rw [vE b xs x (allS xs.length) λp hp=>(fW _ p hp).1,Jo]
 rfl
theorem vF (b:Int):wiL b []=[0].filter (inB b):=by
 unfold wiL
 show (([[]]:List (List Int)).filter λp=>decide (swO [] p<=b)).map (λp=>gI (([]:List Int).zip p) 0)=_
 have e:decide (swO [] []<=b)=inB b 0:=by
  unfold inB swO swg gi
  simp
 simp only [Zm,Uq,e]
 by_cases h:inB b 0=true
 ·rw [J8 h,J8 h]; rfl
 ·rw [Jc h,Jc h]; rfl
theorem zo (b:Int) (xs:List Int):(wiL b xs).length<=2 ^ xs.length:=by
 unfold wiL
 rw [Jh,<- j9]
 exact List.length_filter_le _ _
def leZ (x y:List Int):Prop:=ltZ y x=false
theorem qA:∀ x:List Int,ltZ x x=false
 | []=>rfl
 | a :: x=>(ltZ_eq rfl).trans (qA x)
theorem iJ (x:List Int):leZ x x:=qA x
theorem sH:∀ {x y:List Int},ltZ x y=true->ltZ y x=false
 | [],[],h=>rfl
 | [],_ :: _,_=>rfl
 | _ :: _,[],h=>by cases h
 | a :: x,b :: y,h=>by
  by_cases e:a=b
  ·rw [ltZ_eq e] at h; rw [ltZ_eq e.symm]; exact sH h
  ·rw [fF e] at h
   have h:=Yy h
   rw [fF (λz=>e z.symm)]
   exact Jy (by omega)
theorem fw:∀ {x y z:List Int},leZ x y->leZ y z->leZ x z
 | [],y,[],_,_=>rfl
 | [],y,_ :: _,_,_=>rfl
 | _ :: _,[],_,h,_=>by cases h
 | _ :: _,_ :: _,[],_,h=>by cases h
 | a :: x,b :: y,c :: z,h1,h2=>by
  unfold leZ at h1 h2 ⊢
  by_cases e1:b=a
  ·rw [ltZ_eq e1] at h1
   by_cases e2:c=b
   ·rw [ltZ_eq e2] at h2
    rw [ltZ_eq (e2.trans e1)]
    exact fw (x:=x) (y:=y) h1 h2
   ·rw [fF e2] at h2
    rw [fF (λe=>e2 (by rw [e,e1]))]
    rw [<- e1]; exact h2
  ·rw [fF e1] at h1
   have h1:=of_decide_eq_false h1
   by_cases e2:c=b
   ·rw [fF (λe=>e1 (by rw [<- e2,e]))]
    exact Jy (by omega)
   ·rw [fF e2] at h2
    have h2:=of_decide_eq_false h2
    rw [fF (by omega)]
    exact Jy (by omega)
theorem oK {x y:List Int} (h:ltZ x y=true):leZ x y:=sH h
theorem vG:∀ {x y:List Int} (u v:List Int),x.length=y.length->ltZ (x ++ u) (y ++ v)=if x=y then ltZ u v else ltZ x y
 | [],[],u,v,_=>by simp
 | [],_ :: _,_,_,h=>by cases h
 | _ :: _,[],_,_,h=>by cases h
 | a :: x,b :: y,u,v,h=>by
  have ih:=vG u v (show x.length=y.length by simpa using h)
  rw [Qk,Qk]
  by_cases e:a=b
  ·subst e
   rw [ltZ_eq rfl,ltZ_eq rfl,ih]
   by_cases e2:x=y
   ·rw [J8 e2,J8 (by rw [e2])]
   ·rw [Jc e2,Jc (λz=>e2 (List.cons.inj z).2)]
  ·rw [fF e,fF e,Jc (λz=>e (List.cons.inj z).1)]
theorem Bn {x y u v:List Int} (hl:x.length=y.length) (h1:leZ x y) (h2:leZ u v):leZ (x ++ u) (y ++ v):=by
 unfold leZ at *
 rw [vG v u hl.symm]
 by_cases e:y=x
 ·rw [J8 e]; exact h2
 ·rw [Jc e]; exact h1
theorem vH:∀ (l:List (List Int)) (m:List Int),(fK m l=m \/ fK m l ∈ l)/\leZ (fK m l) m/\∀ y ∈ l,leZ (fK m l) y
 | [],m=>⟨.inl rfl,iJ _,λy h=>nomatch h⟩
 | x :: l,m=>by
  obtain ⟨h1,h2,h3⟩:=vH l (if ltZ x m=true then x else m)
  have e:fK m (x :: l)=fK (if ltZ x m=true then x else m) l:=rfl
  rw [e]
  by_cases hx:ltZ x m=true
  ·rw [J8 hx] at h1 h2 h3 ⊢
   refine ⟨.inr ?_,fw h2 (oK hx),λy hy=>?_⟩
   ·rcases h1 with h1 | h1
    ·rw [h1]; exact .head _
    ·exact .tail _ h1
   ·rcases Jg.mp hy with rfl | hy
    ·exact h2
    ·exact h3 y hy
  ·rw [Jc hx] at h1 h2 h3 ⊢
   have hx':leZ m x:=by unfold leZ; simpa using hx
   refine ⟨?_,h2,λy hy=>?_⟩
   ·rcases h1 with h1 | h1
    ·exact .inl h1
    ·exact .inr (.tail _ h1)
   ·rcases Jg.mp hy with rfl | hy
    ·exact fw h2 hx'
    ·exact h3 y hy
noncomputable abbrev TF:=List (Int × List Int)
noncomputable def pF (T:TF) (k:Int) (c:List Int):TF:=if T.any (λe=>decide (e.1=k)) then T.map (λe=>if e.1=k then (e.1,c) else e) else T ++ [(k,c)]
noncomputable def gF (T:TF) (k:Int):Option (List Int):=(T.find? λe=>decide (e.1=k)).map (·.2)
def KeysF (T:TF):Prop:=T.Pairwise λa b=>a.1 ≠ b.1
theorem qB {T:TF} {k:Int} {c:List Int} {e:Int × List Int}:e ∈ pF T k c↔e=(k,c) \/ (e ∈ T/\e.1 ≠ k):=by
 unfold pF
 cases ha:T.any (λe=>decide (e.1=k)) with
 | true=>
  rw [J8 rfl,Jv]
  constructor
  ·rintro ⟨d,hd,rfl⟩
   by_cases h:d.1=k
   ·rw [J8 h,h]; exact .inl rfl
   ·rw [Jc h]; exact .inr ⟨hd,h⟩
  ·rintro (rfl | ⟨he,h⟩)
   ·rw [W4] at ha
    obtain ⟨d,hd,z⟩:=ha
    have z:=Yy z
    exact ⟨d,hd,by rw [J8 z,z]⟩
   ·exact ⟨e,he,by rw [Jc h]⟩
 | false=>
  rw [Jc Jl,Jp,Jf]
  rw [Zq] at ha
  constructor
  ·rintro (h | h)
   ·exact .inr ⟨h,λz=>ha e h (Js z)⟩
   ·exact .inl h
  ·rintro (h | ⟨h,_⟩)
   ·exact .inr h
   ·exact .inl h
theorem Bo {T:TF} (hk:KeysF T) (k:Int) (c:List Int):KeysF (pF T k c):=by
 unfold pF
 cases ha:T.any (λe=>decide (e.1=k)) with
 | true=>
  rw [J8 rfl]
  unfold KeysF
  rw [V8]
  refine List.Pairwise.imp (λ{a b} h=>?_) hk
  split <;> split <;> exact h
 | false=>
  rw [Jc Jl]
  refine Zl.mpr ⟨hk,Zz _ _,λa ha' b hb=>?_⟩
  rw [Jf.mp hb]
  rw [Zq] at ha
  have:=ha a ha'
  simpa using this
theorem DW (T:TF) (k:Int) (c:List Int):(pF T k c).length<=T.length + 1:=by
 unfold pF
 split <;> simp
theorem Bp {T:TF} {k:Int} {u:List Int} (h:gF T k=some u):(k,u) ∈ T:=by
 unfold gF at h
 cases hf:T.find? λe=>decide (e.1=k) with
 | none=>rw [hf] at h; cases h
 | some d=>
  rw [hf] at h
  have h1:=List.find?_some hf
  have h1:d.1=k:=by simpa using h1
  have h2:=List.mem_of_find?_eq_some hf
  cases h
  rw [<- h1]; exact h2
theorem Bq {T:TF} {k:Int} (h:gF T k=none):∀ e ∈ T,e.1 ≠ k:=by
 unfold gF at h
 cases hf:T.find? λe=>decide (e.1=k) with
 | some d=>rw [hf] at h; cases h
 | none=>
  rw [V3] at hf
  exact λe he z=>hf e he (Js z)
noncomputable def min2 (a b:List Int):List Int:=if ltZ b a=true then b else a
structure FT (T L:TF):Prop where
 keys:KeysF T
 mem:∀ v,(∃ e ∈ T,e.1=v)↔∃ e ∈ L,e.1=v
 least:∀ e ∈ T,e ∈ L/\∀ d ∈ L,d.1=e.1->leZ e.2 d.2
 len:T.length<=L.length
theorem FT.nil:FT [] []:=⟨List.Pairwise.nil,λv=>by simp,(λe h=>nomatch h),Jb _⟩
theorem FT.put {T L:TF} (h:FT T L) (k:Int) (v:List Int):FT (pF T k (min2 v ((gF T k).getD v))) (L ++ [(k,v)]):=by
 refine ⟨Bo h.keys _ _,λx=>?_,λe he=>?_,Y9 (DW _ _ _) (by have:=h.len; simp; omega)⟩
 ·constructor
  ·rintro ⟨e,he,rfl⟩
   rcases qB.mp he with rfl | ⟨he,_⟩
   ·exact ⟨(k,v),Jw _ (Jf.mpr rfl),rfl⟩
   ·obtain ⟨d,hd,z⟩:=(h.mem _).mp ⟨e,he,rfl⟩
    exact ⟨d,Yr _ hd,z⟩
  ·rintro ⟨d,hd,rfl⟩
   by_cases hk:d.1=k
   ·exact ⟨_,qB.mpr (.inl rfl),hk.symm⟩
   ·rcases Jp.mp hd with hd | hd
    ·obtain ⟨e,he,z⟩:=(h.mem _).mpr ⟨d,hd,rfl⟩
     exact ⟨e,qB.mpr (.inr ⟨he,by rw [z]; exact hk⟩),z⟩
    ·rw [Jf.mp hd] at hk; exact absurd rfl hk
 ·rcases qB.mp he with rfl | ⟨he,hk⟩
  ·cases hg:gF T k with
   | none=>
    have e0:min2 v ((none:Option (List Int)).getD v)=v:=Jc (by rw [Vd,qA]; decide)
    rw [e0]
    refine ⟨Jw _ (Jf.mpr rfl),λd hd hz=>?_⟩
    rcases Jp.mp hd with hd | hd
    ·obtain ⟨e,he,z⟩:=(h.mem _).mpr ⟨d,hd,rfl⟩
     exact absurd (z.trans hz) (Bq hg e he)
    ·rw [Jf.mp hd]; exact iJ _
   | some u=>
    have hu:=Bp hg
    obtain ⟨l1,l2⟩:=h.least _ hu
    rw [show min2 v ((some u).getD v)=min2 v u from rfl]
    unfold min2
    by_cases hx:ltZ u v=true
    ·rw [J8 hx]
     refine ⟨Yr _ l1,λd hd hz=>?_⟩
     rcases Jp.mp hd with hd | hd
     ·exact l2 d hd hz
     ·rw [Jf.mp hd]; exact oK hx
    ·rw [Jc hx]
     have hx':leZ v u:=by unfold leZ; simpa using hx
     refine ⟨Jw _ (Jf.mpr rfl),λd hd hz=>?_⟩
     rcases Jp.mp hd with hd | hd
     ·exact fw hx' (l2 d hd hz)
     ·rw [Jf.mp hd]; exact iJ _
  ·obtain ⟨l1,l2⟩:=h.least e he
   refine ⟨Yr _ l1,λd hd hz=>?_⟩
   rcases Jp.mp hd with hd | hd
   ·exact l2 d hd hz
   ·rw [Jf.mp hd] at hz
    exact absurd hz.symm hk
noncomputable def iK (x:Int) (T:TF):TF:=T.flatMap λe=>KS.map λq=>(e.1 + q * x,e.2 ++ [q])
theorem i5 {T:TF} {d:Int × List Int}:d ∈ iK x T↔∃ e ∈ T,∃ q ∈ KS,(e.1 + q * x,e.2 ++ [q])=d:=by
 simp only [iK,Qa,Jv]
theorem kO (x:Int):∀ T:TF,(iK x T).length=T.length * 2
 | []=>rfl
 | e :: T=>by
  have:=kO x T
  simp only [iK,Yn,Jo,Jh,Jm,Yg] at this ⊢
  rw [this]; omega
noncomputable abbrev wr (xs p:List Int):Int:=gI (xs.zip p) 0
theorem fX (h:p.length=xs.length) (x q:Int):wr (xs ++ [x]) (p ++ [q])=wr xs p + q * x:=by
 unfold wr
 rw [kc h,oJ]
 show _ + x * q=_
 rw [Wq]
theorem lT (h:p.length=xs.length) (x q:Int):swO (xs ++ [x]) (p ++ [q])=mx (swO xs p) (wr xs p + q * x):=by
 unfold swO wr
 rw [kc h,m9]
 show mx _ (_ + x * q)=_
 rw [Wq]
theorem Br {g g':Int} (h:Int) (hg:g<=g'):mx g h<=mx g' h:=by
 unfold mx
 split <;> split <;> split <;> omega
theorem zp (g h:Int):g<=mx g h:=by
 unfold mx
 split <;> split <;> omega
theorem um:∀ (zs:List (Int × Int)) (a g:Int),g<=swg zs a g
 | [],a,g=>Yo _
 | z :: zs,a,g=>Z7 (zp _ _) (um zs (a + z.1 * z.2) (mx g (a + z.1 * z.2)))
theorem zr (xs p:List Int):0<=swO xs p:=um _ _ _
theorem iL (hp:p ∈ allS n) (hq:q ∈ KS):p ++ [q] ∈ allS (n + 1):=by
 refine Qa.mpr ⟨p,hp,?_⟩
 simp only [KS,Jg,Jz,Z2] at hq
 rcases hq with rfl | rfl <;> simp
theorem kf (h:p ∈ allS (n + 1)):∃ p0 q,p=p0 ++ [q]/\p0 ∈ allS n/\q ∈ KS:=by
 obtain ⟨p0,hp0,hp⟩:=Qa.mp h
 simp only [Jg,Jz,Z2] at hp
 rcases hp with rfl | rfl
 ·exact ⟨p0,-1,rfl,hp0,by decide⟩
 ·exact ⟨p0,1,rfl,hp0,by decide⟩
theorem cJ (h:p ∈ allS n):p.length=n:=(fW n p h).1
noncomputable def gO (T:List (Int × Int)) (k:Int):Option Int:=(T.find? λe=>decide (e.1=k)).map (·.2)
theorem qC {k:Int} {e:Int × Int}:e ∈ pT T k c↔e=(k,c) \/ (e ∈ T/\e.1 ≠ k):=by
 unfold pT
 cases ha:T.any (λe=>decide (e.1=k)) with
 | true=>
  rw [J8 rfl,Jv]
  constructor
  ·rintro ⟨d,hd,rfl⟩
   by_cases h:d.1=k
   ·rw [J8 h,h]; exact .inl rfl
   ·rw [Jc h]; exact .inr ⟨hd,h⟩
  ·rintro (rfl | ⟨he,h⟩)
   ·rw [W4] at ha
    obtain ⟨d,hd,z⟩:=ha
    have z:=Yy z
    exact ⟨d,hd,by rw [J8 z,z]⟩
   ·exact ⟨e,he,by rw [Jc h]⟩
 | false=>
  rw [Jc Jl,Jp,Jf]
  rw [Zq] at ha
  constructor
  ·rintro (h | h)
   ·exact .inr ⟨h,λz=>ha e h (Js z)⟩
   ·exact .inl h
  ·rintro (h | ⟨h,_⟩)
   ·exact .inr h
   ·exact .inl h
theorem Bt {k u:Int} (h:gO T k=some u):(k,u) ∈ T:=by
 unfold gO at h
 cases hf:T.find? λe=>decide (e.1=k) with
 | none=>rw [hf] at h; cases h
 | some d=>
  rw [hf] at h
  have h1:=List.find?_some hf
  have h1:d.1=k:=by simpa using h1
  have h2:=List.mem_of_find?_eq_some hf
  cases h
  rw [<- h1]; exact h2
theorem Bu {k:Int} (h:gO T k=none):∀ e ∈ T,e.1 ≠ k:=by
 unfold gO at h
 cases hf:T.find? λe=>decide (e.1=k) with
 | some d=>rw [hf] at h; cases h
 | none=>
  rw [V3] at hf
  exact λe he z=>hf e he (Js z)
noncomputable def mn (a b:Int):Int:=if b < a then b else a
structure GT (T L:List (Int × Int)):Prop where
 keys:Keys T
 mem:∀ v,(∃ e ∈ T,e.1=v)↔∃ e ∈ L,e.1=v
 least:∀ e ∈ T,e ∈ L/\∀ d ∈ L,d.1=e.1->e.2<=d.2
 len:T.length<=L.length
theorem GT.nil:GT [] []:=⟨List.Pairwise.nil,λv=>by simp,(λe h=>nomatch h),Jb _⟩
theorem GT.put {L:List (Int × Int)} (h:GT T L) (k v:Int):GT (pT T k (mn v ((gO T k).getD v))) (L ++ [(k,v)]):=by
 refine ⟨vB h.keys _ _,λx=>?_,λe he=>?_,Y9 (zf _ _ _) (by have:=h.len; simp; omega)⟩
 ·constructor
  ·rintro ⟨e,he,rfl⟩
   rcases qC.mp he with rfl | ⟨he,_⟩
   ·exact ⟨(k,v),Jw _ (Jf.mpr rfl),rfl⟩
   ·obtain ⟨d,hd,z⟩:=(h.mem _).mp ⟨e,he,rfl⟩
    exact ⟨d,Yr _ hd,z⟩
  ·rintro ⟨d,hd,rfl⟩
   by_cases hk:d.1=k
   ·exact ⟨_,qC.mpr (.inl rfl),hk.symm⟩
   ·rcases Jp.mp hd with hd | hd
    ·obtain ⟨e,he,z⟩:=(h.mem _).mpr ⟨d,hd,rfl⟩
     exact ⟨e,qC.mpr (.inr ⟨he,by rw [z]; exact hk⟩),z⟩
    ·rw [Jf.mp hd] at hk; exact absurd rfl hk
 ·rcases qC.mp he with rfl | ⟨he,hk⟩
  ·cases hg:gO T k with
   | none=>
    have e0:mn v ((none:Option Int).getD v)=v:=Jc (by rw [Vd]; omega)
    rw [e0]
    refine ⟨Jw _ (Jf.mpr rfl),λd hd hz=>?_⟩
    rcases Jp.mp hd with hd | hd
    ·obtain ⟨e,he,z⟩:=(h.mem _).mpr ⟨d,hd,rfl⟩
     exact absurd (z.trans hz) (Bu hg e he)
    ·rw [Jf.mp hd]; exact Yo _
   | some u=>
    have hu:=Bt hg
    obtain ⟨l1,l2⟩:=h.least _ hu
    rw [show mn v ((some u).getD v)=mn v u from rfl]
    unfold mn
    by_cases hx:u < v
    ·rw [J8 hx]
     refine ⟨Yr _ l1,λd hd hz=>?_⟩
     rcases Jp.mp hd with hd | hd
     ·exact l2 d hd hz
     ·rw [Jf.mp hd]; exact Yz hx
    ·rw [Jc hx]
     have hx':v<=u:=by omega
     refine ⟨Jw _ (Jf.mpr rfl),λd hd hz=>?_⟩
     rcases Jp.mp hd with hd | hd
     ·exact Z7 hx' (l2 d hd hz)
     ·rw [Jf.mp hd]; exact Yo _
  ·obtain ⟨l1,l2⟩:=h.least e he
   refine ⟨Yr _ l1,λd hd hz=>?_⟩
   rcases Jp.mp hd with hd | hd
   ·exact l2 d hd hz
   ·rw [Jf.mp hd] at hz
    exact absurd hz.symm hk
noncomputable def jt (x:Int) (T:List (Int × Int)):List (Int × Int):=T.flatMap λe=>KS.map λq=>(e.1 + q * x,mx e.2 (e.1 + q * x))
theorem i6 {d:Int × Int}:d ∈ jt x T↔∃ e ∈ T,∃ q ∈ KS,(e.1 + q * x,mx e.2 (e.1 + q * x))=d:=by
 simp only [jt,Qa,Jv]
theorem oM (x:Int):∀ T:List (Int × Int),(jt x T).length=T.length * 2
 | []=>rfl
 | e :: T=>by
  have:=oM x T
  simp only [jt,Yn,Jo,Jh,Jm,Yg] at this ⊢
  rw [this]; omega
structure LS (T:List (Int × Int)) (xs:List Int):Prop where
 keys:Keys T
 mem:∀ v,(∃ e ∈ T,e.1=v)↔∃ p ∈ allS xs.length,wr xs p=v
 least:∀ e ∈ T,(∃ p ∈ allS xs.length,wr xs p=e.1/\swO xs p=e.2)/\∀ p ∈ allS xs.length,wr xs p=e.1->e.2<=swO xs p
 len:T.length<=2 ^ xs.length
theorem LS.zero:LS [(0,0)] []:=by
 refine ⟨Zz _ _,λv=>?_,λe he=>?_,Jb _⟩
 ·constructor
  ·rintro ⟨e,he,rfl⟩
   rw [Jf.mp he]
   exact ⟨[],Jf.mpr rfl,rfl⟩
  ·rintro ⟨p,hp,rfl⟩
   have hp:p=[]:=Jf.mp hp
   rw [hp]
   exact ⟨_,Jf.mpr rfl,rfl⟩
 ·rw [Jf.mp he]
  exact ⟨⟨[],Jf.mpr rfl,rfl,rfl⟩,λp hp _=>zr _ _⟩
theorem LS.step {T':List (Int × Int)} (h:LS T xs) (h':GT T' (jt x T)):LS T' (xs ++ [x]):=by
 have hn:(xs ++ [x]).length=xs.length + 1:=by simp
 refine ⟨h'.keys,λv=>?_,λe he=>?_,?_⟩
 ·rw [h'.mem v,hn]
  constructor
  ·rintro ⟨d,hd,rfl⟩
   obtain ⟨e,he,q,hq,rfl⟩:=i6.mp hd
   obtain ⟨⟨p,a1,a2,_⟩,_⟩:=h.least e he
   exact ⟨p ++ [q],iL a1 hq,by rw [fX (cJ a1),a2]⟩
  ·rintro ⟨p,hp,rfl⟩
   obtain ⟨p0,q,rfl,hp0,hq⟩:=kf hp
   obtain ⟨e,he,z⟩:=(h.mem _).mpr ⟨p0,hp0,rfl⟩
   exact ⟨_,i6.mpr ⟨e,he,q,hq,rfl⟩,by rw [fX (cJ hp0),z]⟩
 ·rw [hn]
  obtain ⟨l1,l2⟩:=h'.least e he
  obtain ⟨d,hd,q,hq,rfl⟩:=i6.mp l1
  obtain ⟨⟨p,a1,a2,a3⟩,_⟩:=h.least d hd
  refine ⟨⟨p ++ [q],iL a1 hq,by rw [fX (cJ a1),a2],by rw [lT (cJ a1),a2,a3]⟩,λp hp hw=>?_⟩
  obtain ⟨p0,r,rfl,hp0,hr⟩:=kf hp
  rw [fX (cJ hp0)] at hw
  obtain ⟨c,hc,z⟩:=(h.mem _).mpr ⟨p0,hp0,rfl⟩
  have i1:=l2 (c.1 + r * x,mx c.2 (c.1 + r * x)) (i6.mpr ⟨c,hc,r,hr,rfl⟩) (by rw [z]; exact hw)
  rw [lT (cJ hp0)]
  have i2:=(h.least c hc).2 p0 hp0 z.symm
  have i3:=Br (wr xs p0 + r * x) i2
  rw [<- z] at i3 ⊢
  exact Z7 i1 i3
 ·have:=h'.len
  rw [oM] at this
  rw [hn,Vu]
  have:=h.len
  omega
def IsL (xs:List Int) (m:Int):Prop:=(∃ p ∈ allS xs.length,swO xs p=m)/\∀ p ∈ allS xs.length,m<=swO xs p
theorem IsL.uniq {m n:Int} (a:IsL xs m) (b:IsL xs n):m=n:=by
 obtain ⟨⟨p,hp,rfl⟩,h1⟩:=a
 obtain ⟨⟨q,hq,rfl⟩,h2⟩:=b
 have:=h1 q hq
 have:=h2 p hp
 omega
theorem Bv (n:Nat):∃ p,p ∈ allS n:=by
 have h0:0 < (allS n).length:=by rw [j9]; exact Nat.pow_pos (by decide)
 exact List.exists_mem_of_length_pos h0
theorem LS.min (h:LS T xs):∃ n ns,T.map (·.2)=n :: ns/\IsL xs (cW n ns):=by
 cases hT:T with
 | nil=>
  obtain ⟨p,hp⟩:=Bv xs.length
  obtain ⟨e,he,_⟩:=(h.mem _).mpr ⟨p,hp,rfl⟩
  rw [hT] at he; cases he
 | cons e0 T0=>
  refine ⟨e0.2,T0.map (·.2),rfl,?_⟩
  obtain ⟨⟨a1,a2⟩,a3⟩:=iV (T0.map (·.2)) e0.2
  have hin:∃ e ∈ T,e.2=cW e0.2 (T0.map (·.2)):=by
   rcases a3 with z | z
   ·exact ⟨e0,by rw [hT]; exact .head _,z.symm⟩
   ·obtain ⟨e,he,z⟩:=Jv.mp z
    exact ⟨e,by rw [hT]; exact .tail _ he,z⟩
  obtain ⟨e,he,z⟩:=hin
  rw [<- z] at a1 a2 ⊢
  constructor
  ·obtain ⟨⟨p,hp,_,hs⟩,_⟩:=h.least e he
   exact ⟨p,hp,hs⟩
  ·intro p hp
   obtain ⟨d,hd,z⟩:=(h.mem _).mpr ⟨p,hp,rfl⟩
   have i1:=(h.least d hd).2 p hp z.symm
   have i2:e.2<=d.2:=by
    rw [hT] at hd
    rcases Jg.mp hd with rfl | hd
    ·exact a1
    ·exact a2 _ (Jv.mpr ⟨d,hd,rfl⟩)
   omega
structure CF (b:Int) (T:TF) (xs:List Int):Prop where
 keys:KeysF T
 mem:∀ v,(∃ e ∈ T,e.1=v)↔∃ p ∈ allS xs.length,swO xs p<=b/\wr xs p=v
 least:∀ e ∈ T,(e.2 ∈ allS xs.length/\swO xs e.2<=b/\wr xs e.2=e.1)/\∀ p ∈ allS xs.length,swO xs p<=b->wr xs p=e.1->leZ e.2 p
 len:T.length<=2 ^ xs.length
theorem CF.zero (hb:0<=b):CF b [(0,[])] []:=by
 refine ⟨Zz _ _,λv=>?_,λe he=>?_,Jb _⟩
 ·constructor
  ·rintro ⟨e,he,rfl⟩
   rw [Jf.mp he]
   exact ⟨[],Jf.mpr rfl,hb,rfl⟩
  ·rintro ⟨p,hp,_,rfl⟩
   have hp:p=[]:=Jf.mp hp
   rw [hp]
   exact ⟨_,Jf.mpr rfl,rfl⟩
 ·rw [Jf.mp he]
  refine ⟨⟨Jf.mpr rfl,hb,rfl⟩,λp hp _ _=>?_⟩
  have hp:p=[]:=Jf.mp hp
  rw [hp]; exact iJ _
noncomputable def kpF (b:Int) (T:TF):TF:=T.filter λe=>inB b e.1
theorem vI (h:p.length=xs.length) (x q b:Int):swO (xs ++ [x]) (p ++ [q])<=b↔swO xs p<=b/\inB b (wr xs p + q * x)=true:=by
 rw [lT h]
 have e:=B9 (swO xs p) (wr xs p + q * x) b
 constructor
 ·intro z
  rw [Js z] at e
  have:=Bool.and_eq_true_iff.mp e.symm
  exact ⟨Yy this.1,this.2⟩
 ·rintro ⟨z1,z2⟩
  rw [Js z1,z2] at e
  exact Yy e
theorem CF.step {T T':TF} (h:CF b T xs) (h':FT T' (iK x T)):CF b (kpF b T') (xs ++ [x]):=by
 have hn:(xs ++ [x]).length=xs.length + 1:=by simp
 refine ⟨h'.keys.filter _,λv=>?_,λe he=>?_,?_⟩
 ·rw [hn]
  constructor
  ·rintro ⟨e,he,rfl⟩
   obtain ⟨he,hb⟩:=Y2.mp he
   obtain ⟨d,hd,z⟩:=(h'.mem _).mp ⟨e,he,rfl⟩
   obtain ⟨c,hc,q,hq,rfl⟩:=i5.mp hd
   obtain ⟨⟨a1,a2,a3⟩,_⟩:=h.least c hc
   have z:c.1 + q * x=e.1:=z
   exact ⟨c.2 ++ [q],iL a1 hq,(vI (cJ a1) x q b).mpr ⟨a2,by rw [a3,z]; exact hb⟩,by rw [fX (cJ a1),a3,z]⟩
  ·rintro ⟨p,hp,hs,rfl⟩
   obtain ⟨p0,q,rfl,hp0,hq⟩:=kf hp
   obtain ⟨s1,s2⟩:=(vI (cJ hp0) x q b).mp hs
   obtain ⟨e,he,z⟩:=(h.mem _).mpr ⟨p0,hp0,s1,rfl⟩
   obtain ⟨d,hd,y⟩:=(h'.mem (wr xs p0 + q * x)).mpr ⟨_,i5.mpr ⟨e,he,q,hq,rfl⟩,by rw [z]⟩
   exact ⟨d,Y2.mpr ⟨hd,by rw [y]; exact s2⟩,by rw [fX (cJ hp0),y]⟩
 ·rw [hn]
  obtain ⟨he,hb⟩:=Y2.mp he
  obtain ⟨l1,l2⟩:=h'.least e he
  obtain ⟨d,hd,q,hq,rfl⟩:=i5.mp l1
  obtain ⟨⟨a1,a2,a3⟩,_⟩:=h.least d hd
  refine ⟨⟨iL a1 hq,(vI (cJ a1) x q b).mpr ⟨a2,by rw [a3]; exact hb⟩,by rw [fX (cJ a1),a3]⟩,λp hp hs hw=>?_⟩
  obtain ⟨p0,r,rfl,hp0,hr⟩:=kf hp
  obtain ⟨s1,s2⟩:=(vI (cJ hp0) x r b).mp hs
  rw [fX (cJ hp0)] at hw
  obtain ⟨c,hc,z⟩:=(h.mem _).mpr ⟨p0,hp0,s1,rfl⟩
  obtain ⟨⟨c1,c2,c3⟩,c4⟩:=h.least c hc
  have i1:=l2 (c.1 + r * x,c.2 ++ [r]) (i5.mpr ⟨c,hc,r,hr,rfl⟩) (by rw [z]; exact hw)
  exact fw i1 (Bn ((cJ c1).trans (cJ hp0).symm) (c4 p0 hp0 s1 z.symm) (iJ _))
 ·have:=List.length_filter_le (λe:Int × List Int=>inB b e.1) T'
  have:=h'.len
  rw [kO] at this
  rw [hn,Vu]
  have:=h.len
  unfold kpF
  omega
def IsC (xs:List Int) (b:Int) (c:List Int):Prop:=(c ∈ allS xs.length/\swO xs c<=b)/\∀ p ∈ allS xs.length,swO xs p<=b->leZ c p
theorem CF.min {T:TF} (h:CF b T xs) (hl:IsL xs b):∃ n ns,T.map (·.2)=n :: ns/\IsC xs b (fK n ns):=by
 obtain ⟨⟨p,hp,hs⟩,_⟩:=hl
 cases hT:T with
 | nil=>
  obtain ⟨e,he,_⟩:=(h.mem _).mpr ⟨p,hp,by omega,rfl⟩
  rw [hT] at he; cases he
 | cons e0 T0=>
  refine ⟨e0.2,T0.map (·.2),rfl,?_⟩
  obtain ⟨a3,a1,a2⟩:=vH (T0.map (·.2)) e0.2
  have hin:∃ e ∈ T,e.2=fK e0.2 (T0.map (·.2)):=by
   rcases a3 with z | z
   ·exact ⟨e0,by rw [hT]; exact .head _,z.symm⟩
   ·obtain ⟨e,he,z⟩:=Jv.mp z
    exact ⟨e,by rw [hT]; exact .tail _ he,z⟩
  obtain ⟨e,he,z⟩:=hin
  rw [<- z] at a1 a2 ⊢
  obtain ⟨⟨c1,c2,_⟩,_⟩:=h.least e he
  refine ⟨⟨c1,c2⟩,λq hq hqs=>?_⟩
  obtain ⟨d,hd,y⟩:=(h.mem _).mpr ⟨q,hq,hqs,rfl⟩
  have i1:=(h.least d hd).2 q hq hqs y.symm
  have i2:leZ e.2 d.2:=by
   rw [hT] at hd
   rcases Jg.mp hd with rfl | hd
   ·exact a1
   ·exact a2 _ (Jv.mpr ⟨d,hd,rfl⟩)
  exact fw i2 i1
structure Pre (S0 S:Sto):Prop where
 old:∀ i,i < S0.length->S[i]?=S0[i]?
 len:S0.length<=S.length
theorem Pre.refl (S:Sto):Pre S S:=⟨λ_ _=>rfl,Jb _⟩
theorem Pre.trans (a:Pre S0 S1) (b:Pre S1 S2):Pre S0 S2:=⟨λi h=>(b.old i (Y0 h a.len)).trans (a.old i h),Y9 a.len b.len⟩
theorem Pre.app (S l:Sto):Pre S (S ++ l):=⟨λi h=>Jq h,by simp⟩
theorem Pre.set (p:Pre S0 S) (h:S0.length<=n) (o:SO):Pre S0 (S.set n o):=⟨λi hi=>by rw [Yk (by omega)]; exact p.old i hi,by rw [Zr]; exact p.len⟩
theorem Pre.gr {b:Nat} (g:Gr b S0 S0) (p:Pre S0 S):Gr b S0 S:=by
 obtain ⟨n,hn⟩:=g.bx
 have hb:b < S0.length:=(J9.mp hn).1
 exact ⟨⟨n,by rw [p.old b hb]; exact hn⟩,λi _ hl=>p.old i hl,p.len⟩
theorem dAt.step {r:Nat} {Tr:List (Int × Int)} {l:Sto} (h:dAt S n T) (hr:dAt S r Tr):dAt (S.set n (.fdic (aC T)) ++ l) r Tr:=by
 have hnl:=h.lt
 have hrl:=hr.lt
 unfold dAt
 rw [Jq (by rw [Zr]; exact hrl)]
 by_cases e:n=r
 ·subst e
  rw [Y6 hnl]
  have:aC Tr=aC T:=by
   rcases h with h | h <;> rcases hr with hr | hr <;> rw [h] at hr <;> have hr:=Yd hr <;> first | exact (SO.dic.inj hr).symm | exact (SO.fdic.inj hr).symm | (cases hr; done)
  rw [this]
  exact .inr rfl
 ·rw [Yk e]
  exact hr
theorem dAt.app {l:Sto} {r:Nat} (h:dAt S r T):dAt (S ++ l) r T:=by
 unfold dAt
 rw [Jq h.lt]
 exact h
theorem dAt.set {r:Nat} {o:SO} (h:dAt S r T) (hn:n ≠ r):dAt (S.set n o) r T:=by
 unfold dAt
 rw [Yk hn]
 exact h
noncomputable def fold (K:List Int) (xs:List Int) (f:List Int):List Int:=xs.foldl (λf x=>fS K x f) f
theorem vJ (K:List Int):∀ (xs pre:List Int),fold K xs (wsL K pre)=wsL K (pre ++ xs)
 | [],pre=>by simp [fold]
 | x :: xs,pre=>by
  have:=vJ K xs (pre ++ [x])
  rw [zi,Y7] at this
  exact this
theorem Bw (hK:K.length<=2) {r:Nat} (h:n * 2 ^ (r + 1)<=512):n * K.length<=1000/\n * K.length * 2 ^ r<=512:=by
 have h1:n * K.length<=n * 2:=Nat.mul_le_mul_left _ hK
 have h2:1<=2 ^ r:=Nat.one_le_pow _ _ (by decide)
 have h3:n * K.length * 2 ^ r<=n * 2 * 2 ^ r:=Vv _ h1
 have h4:n * 2 * 2 ^ r=n * 2 ^ (r + 1):=by rw [Vu,Nat.mul_assoc,Uk 2]
 have h5:n * 2 * 1<=n * 2 * 2 ^ r:=Nat.mul_le_mul_left _ h2
 omega
theorem sJ (hK:K.length<=2) (hk:∀ q ∈ K,-1<=q/\q<=1) (r0:Option D):∀ (xs:List Int) (S:Sto) (n:Nat) (T:List (Int × Int)) (f:List Int) (r3:Option D),S[n]?=some (.dic (aC T))->Hist T f->f.length * 2 ^ xs.length<=512->S0.length<=n->Pre S0 S->
  ∃ (S':Sto) (n':Nat) (T':List (Int × Int)) (r3':Option D),forL (.nm 3) FK (xs.map .int) [r0,some (tupI K),some (.ref n),r3] S=.ok (.nx [r0,some (tupI K),some (.ref n'),r3']) S'/\S'[n']?=some (.dic (aC T'))/\S0.length<=n'/\Hist T' (fold K xs f)/\Pre S0 S'
 | [],S,n,T,f,r3,hd,h,_,hn,p=>⟨S,n,T,r3,rfl,hd,hn,h,p⟩
 | x :: xs,S,n,T,f,r3,hd,h,hz,hn,p=>by
  rw [Jm] at hz
  obtain ⟨z1,z2⟩:=Bw hK hz
  obtain ⟨T1,e1,h1⟩:=m8 (x:=x) hk (.inl hd) h z1
  have p1:Pre S0 (S.set n (.fdic (aC T)) ++ [SO.dic (aC T1)]):=(p.set hn _).trans (Pre.app _ _)
  obtain ⟨S2,n2,T2,a3,e2,d2,dl2,h2,p2⟩:=sJ hK hk r0 xs (S.set n (.fdic (aC T)) ++ [SO.dic (aC T1)]) S.length T1 (fS K x f) (some (.int x)) (by simp) h1 (by rw [qw]; exact z2) p.len p1
  exact ⟨S2,n2,T2,a3,(bu (r1:=[r0,some (tupI K),some (.ref n),some (.int x)]) rfl (aD ((ar (ae (ab rfl) (ae (ab rfl) (ae (ab rfl) rfl)))).trans e1))).trans e2,d2,dl2,h2,p2⟩
theorem By:jl [((eC (.int 0)),(eC (.int 1)))] ρ S=.ok (.ref S.length) (S ++ [.dic (aC [(0,1)])]):=rfl
theorem nc (hK:K.length<=2) (hk:∀ q ∈ K,-1<=q/\q<=1) (h6:xs.length<=9) (S:Sto):∃ (S':Sto) (n:Nat) (T:List (Int × Int)),eu [tupI xs,tupI K] S=.ok (.ref n) S'/\S'[n]?=some (.dic (aC T))/\S.length<=n/\Hist T (wsL K xs)/\Pre S S':=by
 obtain ⟨S',n,T,a3,e,hd,hdl,h,p⟩:=sJ hK hk (S0:=S) (some (tupI xs)) xs (S ++ [.dic (aC [(0,1)])]) S.length [(0,1)] [0] none (by simp) Hist.zero (by
  rw [Zt,Nat.one_mul]
  exact Y9 (Qw (by decide) h6) (by decide)) (Jb _) (Pre.app _ _)
 have hf:=vJ K xs []
 rw [Z4] at hf
 have h0:wsL K []=[0]:=rfl
 rw [h0] at hf
 rw [hf] at h
 exact ⟨S',n,T,bo (ρ:=[some (tupI xs),some (tupI K),none,none]) rfl ((au (aD By)).trans ((au ((dy (ab rfl) rfl).trans e)).trans (aV (ab rfl)))),hd,hdl,h,p⟩
theorem cS (h:Row xs) (S:Sto):aM [.tup (xs.map .int)] S=.ok .non S:=by
 have e:=y6 (S:=S) h.okay
 rw [h.is] at e
 simp [aM,fnM,gW,sIf,bI,tNx,R.nx,PD.ff,tV,ax,ag,af,ak,R.bind,e]
noncomputable def aX (T:TF):List (KD × D):=T.map λe=>(.inl e.1,tupI e.2)
theorem zt (T:TF) (k:Int):(aX T).any (λkv=>decide (kv.1=.inl k))=T.any λe=>decide (e.1=k):=by
 unfold aX
 rw [List.any_map]
 congr 1
 funext e
 show decide ((Sum.inl e.1:KD)=.inl k)=decide (e.1=k)
 rw [W5]
 exact ⟨Qy,λh=>by rw [h]⟩
theorem sL (T:TF) (k:Int) (c:List Int):putD (aX T) (.inl k) (tupI c)=aX (pF T k c):=by
 unfold putD pF
 rw [zt]
 cases T.any λe=>decide (e.1=k) with
 | true=>
  rw [J8 rfl,J8 rfl]
  unfold aX
  rw [Zn,Zn]
  refine Wy λe _=>?_
  simp only [Function.comp]
  by_cases h:e.1=k
  ·rw [J8 (by rw [h]),J8 h]
  ·rw [Jc (λz=>h (Qy z)),Jc h]
 | false=>
  rw [Jc Jl,Jc Jl]
  simp [aX]
theorem zu (T:TF) (k:Int):eO (aX T) (.inl k)=(gF T k).map tupI:=by
 unfold eO gF aX
 rw [Ut]
 have e:((λkv:KD × D=>decide (kv.1=.inl k)) ∘ λe:Int × List Int=>((.inl e.1:KD),tupI e.2))=λe=>decide (e.1=k):=by
  funext e
  show decide ((Sum.inl e.1:KD)=.inl k)=decide (e.1=k)
  rw [W5]
  exact ⟨Qy,λh=>by rw [h]⟩
 rw [e]
 cases T.find? λe=>decide (e.1=k) <;> rfl
noncomputable abbrev fsI:SM:=(aA (aI 6 (eOp bb (ag 3) (eOp cx (ag 5) (ag 1)))) (aA (aI 7 (eOp bb (ag 4) (eg (af (ag 5) ak)))) (jI fN (eB oz (af (ag 7) (af (fD (ag 2) (ag 6) (ag 7)) ak))) (ag 2) (ag 6))))
theorem zv (S:Sto) (p:List Int) (q:Int) (h:p.length<=100):bb S (tupI p) (.tup [.int q])=some (tupI (p ++ [q])):=by
 have z:(1000:Nat)<=sizeLine:=by decide
 refine (uj (by simp; omega)).trans ?_
 simp [tupI]
theorem iM:∀ xs:List Int,intsOf (xs.map .int)=some xs
 | []=>rfl
 | x :: xs=>by rw [Jn,intsOf,iM xs]; rfl
theorem xi (S:Sto) (a b:List Int):oz S [tupI a,tupI b]=some (tupI (min2 a b)):=by
 show rS S [.tup (a.map .int),.tup (b.map .int)]=_
 unfold rS min2
 simp only [iM]
 by_cases h:ltZ b a=true
 ·rw [J8 h,J8 h]
 ·rw [Jc h,Jc h]
theorem DX {W:TF} {x w:Int} (hq:-1<=q/\q<=1) (hp:p.length<=100) (hm:S[m]?=some (.dic (aX W))) (hz:W.length < 1000) (r0 r6 r7:Option D):
  fsI [r0,some (.int x),some (.ref m),some (.int w),some (tupI p),some (.int q),r6,r7] S=.ok (.nx [r0,some (.int x),some (.ref m),some (.int w),some (tupI p),some (.int q),some (.int (w + q * x)),some (tupI (p ++ [q]))]) (S.set m (.dic (aX (pF W (w + q * x) (min2 (p ++ [q]) ((gF W (w + q * x)).getD (p ++ [q]))))))):=by
 have hd:bV S (.ref m)=some (aX W):=by simp [bV,hm]
 have z:(1000:Nat)<=sizeLine:=by decide
 have z1:(1:Nat)<=sizeLine:=by decide
 refine (au (aD (av (ab rfl) (av (ab rfl) (ab rfl) (cO (.inl ⟨by omega,by omega⟩))) rfl))).trans ?_
 refine (au (aD (av (ab rfl) (eG (xs:=[.int q]) rfl z1) (zv S p q hp)))).trans ?_
 have hg:fD (ag 2) (ag 6) (ag 7) [r0,some (.int x),some (.ref m),some (.int w),some (tupI p),some (.int q),some (.int (w + q * x)),some (tupI (p ++ [q]))] S=.ok (tupI ((gF W (w + q * x)).getD (p ++ [q]))) S:=by
  have e:(eO (aX W) (.inl (w + q * x))).getD (tupI (p ++ [q]))=tupI ((gF W (w + q * x)).getD (p ++ [q])):=by
   rw [zu]
   cases gF W (w + q * x) <;> rfl
  rw [<- e]
  exact mZ (ab rfl) hd (ab rfl) (ab rfl) hd rfl
 refine qu (aW (ae (ab rfl) (ae hg rfl)) (xi _ _ _)) (ab rfl) (ab rfl) ?_
 have h1:lg S (.ref m)=true:=by simp [lg,hm]
 unfold fN
 rw [J8 h1]
 unfold ot
 simp only [hm,jd]
 rw [J8 (by simp [aX]; omega),sL]
noncomputable abbrev fsO:SM:=(er (cc (eC (.tup (([(-1),(1)]:List Int).map .int))) bC) (.nm 5) (aA (aI 6 (eOp bb (ag 3) (eOp cx (ag 5) (ag 1)))) (aA (aI 7 (eOp bb (ag 4) (eg (af (ag 5) ak)))) (jI fN (eB oz (af (ag 7) (af (fD (ag 2) (ag 6) (ag 7)) ak))) (ag 2) (ag 6)))))
theorem sM {x w:Int} (hp:p.length<=100) (r0:Option D) :∀ (K:List Int) (S:Sto) (W L:TF) (r5 r6 r7:Option D),(∀ q ∈ K,-1<=q/\q<=1)->S[m]?=some (.dic (aX W))->FT W L->L.length + K.length<=1000->
  ∃ (W':TF) (r5' r6' r7':Option D),forL (.nm 5) fsI (K.map .int) [r0,some (.int x),some (.ref m),some (.int w),some (tupI p),r5,r6,r7] S=.ok (.nx [r0,some (.int x),some (.ref m),some (.int w),some (tupI p),r5',r6',r7']) (S.set m (.dic (aX W')))/\FT W' (L ++ K.map λq=>(w + q * x,p ++ [q]))
 | [],S,W,L,r5,r6,r7,_,hm,h,_=>⟨W,r5,r6,r7,by
  have hml:m < S.length:=(J9.mp hm).1
  have:S.set m (.dic (aX W))=S:=by
   have e:=(J9.mp hm).2
   rw [<- e]; exact Zu hml
  rw [this]; rfl,by simpa using h⟩
 | q :: K,S,W,L,r5,r6,r7,hK,hm,h,hz=>by
  rw [Jm] at hz
  have hml:m < S.length:=(J9.mp hm).1
  have e1:=DX (S:=S) (x:=x) (w:=w) (p:=p) (hK q (.head _)) hp hm (by have:=h.len; omega) r0 r6 r7
  obtain ⟨W',a5,a6,a7,e2,h2⟩:=sM hp r0 K (S.set m (.dic (aX (pF W (w + q * x) (min2 (p ++ [q]) ((gF W (w + q * x)).getD (p ++ [q]))))))) (pF W (w + q * x) (min2 (p ++ [q]) ((gF W (w + q * x)).getD (p ++ [q])))) (L ++ [(w + q * x,p ++ [q])]) (some (.int q)) (some (.int (w + q * x))) (some (tupI (p ++ [q]))) (λq hq=>hK q (.tail _ hq)) (Y6 hml) (h.put (w + q * x) (p ++ [q])) (by simp; omega)
  rw [W6] at e2
  refine ⟨W',a5,a6,a7,(bu (r1:=[r0,some (.int x),some (.ref m),some (.int w),some (tupI p),some (.int q),r6,r7]) rfl e1).trans e2,?_⟩
  rw [Jn]
  simpa using h2
theorem sN {x:Int} (r0:Option D) :∀ (T:TF) (S:Sto) (W L:TF) (r3 r4 r5 r6 r7:Option D),(∀ e ∈ T,e.2.length<=100)->S[m]?=some (.dic (aX W))->FT W L->L.length + T.length * 2<=1000->
  ∃ (W':TF) (r3' r4' r5' r6' r7':Option D),forL (.tp [.nm 3,.nm 4]) fsO ((aX T).map pairD) [r0,some (.int x),some (.ref m),r3,r4,r5,r6,r7] S=.ok (.nx [r0,some (.int x),some (.ref m),r3',r4',r5',r6',r7']) (S.set m (.dic (aX W')))/\FT W' (L ++ iK x T)
 | [],S,W,L,r3,r4,r5,r6,r7,_,hm,h,_=>⟨W,r3,r4,r5,r6,r7,by
  have hml:m < S.length:=(J9.mp hm).1
  have:S.set m (.dic (aX W))=S:=by
   have e:=(J9.mp hm).2
   rw [<- e]; exact Zu hml
  rw [this]; rfl,by simpa [iK] using h⟩
 | e :: T,S,W,L,r3,r4,r5,r6,r7,hp,hm,h,hz=>by
  rw [Jm] at hz
  have hml:m < S.length:=(J9.mp hm).1
  obtain ⟨W1,a5,a6,a7,e1,h1⟩:=sM (x:=x) (w:=e.1) (hp e (.head _)) r0 KS S W L r5 r6 r7 (by decide) hm h (by show L.length + 2<=1000; omega)
  obtain ⟨W2,b3,b4,b5,b6,b7,e2,h2⟩:=sN r0 T (S.set m (.dic (aX W1))) W1 (L ++ KS.map λq=>(e.1 + q * x,e.2 ++ [q])) (some (.int e.1)) (some (tupI e.2)) a5 a6 a7 (λd hd=>hp d (.tail _ hd)) (Y6 hml) h1 (by rw [Jo,Jh]; show L.length + 2 + T.length * 2<=1000; omega)
  rw [W6] at e2
  refine ⟨W2,b3,b4,b5,b6,b7,?_,?_⟩
  ·show forL _ _ (pairD (.inl e.1,tupI e.2) :: (aX T).map pairD) _ _=_
   exact (bu (r1:=[r0,some (.int x),some (.ref m),some (.int e.1),some (tupI e.2),r5,r6,r7]) rfl ((dy (d:=tupI KS) rfl rfl).trans e1)).trans e2
  ·have:iK x (e :: T)=(KS.map λq=>(e.1 + q * x,e.2 ++ [q])) ++ iK x T:=by simp only [iK,Yn]
   rw [this,<- Y7]
   exact h2
theorem oN {T:TF} (hi:ρ[i]?=some (some (.ref n))) (h:S[n]?=some (.dic (aX T))):fE (ag i) ρ S=.ok ((aX T).map pairD) (S.set n (.fdic (aX T))):=by
 unfold fE
 rw [ab hi,R.bind_ok]
 simp only [h]
theorem Bz (T:List (Int × Int)) (k:Int):eO (aC T) (.inl k)=(gO T k).map .int:=by
 unfold eO gO aC
 rw [Ut]
 have e:((λkv:KD × D=>decide (kv.1=.inl k)) ∘ λe:Int × Int=>((.inl e.1:KD),D.int e.2))=λe=>decide (e.1=k):=by
  funext e
  show decide ((Sum.inl e.1:KD)=.inl k)=decide (e.1=k)
  rw [W5]
  exact ⟨Qy,λh=>by rw [h]⟩
 rw [e]
 cases T.find? λe=>decide (e.1=k) <;> rfl
theorem set_same {o:SO} (hm:S[m]?=some o):S.set m o=S:=by
 have hml:m < S.length:=(J9.mp hm).1
 have e:=(J9.mp hm).2
 rw [<- e]; exact Zu hml
noncomputable abbrev ssI:SM:=(aA (aI 6 (eOp bb (ag 3) (eOp cx (ag 5) (ag 1)))) (aA (aI 7 (eB mG (af (ag 4) (af (eB gw (af (ag 6) ak)) ak)))) (jI fN (eB pO (af (ag 7) (af (fD (ag 2) (ag 6) (ag 7)) ak))) (ag 2) (ag 6))))
theorem DY {W:List (Int × Int)} {x w g:Int} (hq:-1<=q/\q<=1) (hm:S[m]?=some (.dic (aC W))) (hz:W.length < 1000) (r0 r6 r7:Option D):
  ssI [r0,some (.int x),some (.ref m),some (.int w),some (.int g),some (.int q),r6,r7] S=.ok (.nx [r0,some (.int x),some (.ref m),some (.int w),some (.int g),some (.int q),some (.int (w + q * x)),some (.int (mx g (w + q * x)))]) (S.set m (.dic (aC (pT W (w + q * x) (mn (mx g (w + q * x)) ((gO W (w + q * x)).getD (mx g (w + q * x)))))))):=by
 have hd:bV S (.ref m)=some (aC W):=by simp [bV,hm]
 have z:(1000:Nat)<=sizeLine:=by decide
 refine (au (aD (av (ab rfl) (av (ab rfl) (ab rfl) (cO (.inl ⟨by omega,by omega⟩))) rfl))).trans ?_
 refine (au (aD (aW (z:=.int (mx g (w + q * x))) (ae (ab rfl) (ae (aW (ae (ab rfl) rfl) rfl) rfl)) rfl))).trans ?_
 have hg:fD (ag 2) (ag 6) (ag 7) [r0,some (.int x),some (.ref m),some (.int w),some (.int g),some (.int q),some (.int (w + q * x)),some (.int (mx g (w + q * x)))] S=.ok (.int ((gO W (w + q * x)).getD (mx g (w + q * x)))) S:=by
  have e:(eO (aC W) (.inl (w + q * x))).getD (.int (mx g (w + q * x)))=.int ((gO W (w + q * x)).getD (mx g (w + q * x))):=by
   rw [Bz]
   cases gO W (w + q * x) <;> rfl
  rw [<- e]
  exact mZ (ab rfl) hd (ab rfl) (ab rfl) hd rfl
 refine qu (aW (z:=.int (mn (mx g (w + q * x)) ((gO W (w + q * x)).getD (mx g (w + q * x))))) (ae (ab rfl) (ae hg rfl)) rfl) (ab rfl) (ab rfl) ?_
 have h1:lg S (.ref m)=true:=by simp [lg,hm]
 unfold fN
 rw [J8 h1]
 unfold ot
 simp only [hm,jd]
 rw [J8 (by simp [aC]; omega),m5]
noncomputable abbrev ssO:SM:=(er (cc (eC (.tup (([(-1),(1)]:List Int).map .int))) bC) (.nm 5) (aA (aI 6 (eOp bb (ag 3) (eOp cx (ag 5) (ag 1)))) (aA (aI 7 (eB mG (af (ag 4) (af (eB gw (af (ag 6) ak)) ak)))) (jI fN (eB pO (af (ag 7) (af (fD (ag 2) (ag 6) (ag 7)) ak))) (ag 2) (ag 6)))))
theorem sO {x w g:Int} (r0:Option D) :∀ (K:List Int) (S:Sto) (W L:List (Int × Int)) (r5 r6 r7:Option D),(∀ q ∈ K,-1<=q/\q<=1)->S[m]?=some (.dic (aC W))->GT W L->L.length + K.length<=1000->
  ∃ (W':List (Int × Int)) (r5' r6' r7':Option D),forL (.nm 5) ssI (K.map .int) [r0,some (.int x),some (.ref m),some (.int w),some (.int g),r5,r6,r7] S=.ok (.nx [r0,some (.int x),some (.ref m),some (.int w),some (.int g),r5',r6',r7']) (S.set m (.dic (aC W')))/\GT W' (L ++ K.map λq=>(w + q * x,mx g (w + q * x)))
 | [],S,W,L,r5,r6,r7,_,hm,h,_=>⟨W,r5,r6,r7,by rw [set_same hm]; rfl,by simpa using h⟩
 | q :: K,S,W,L,r5,r6,r7,hK,hm,h,hz=>by
  rw [Jm] at hz
  have hml:m < S.length:=(J9.mp hm).1
  have e1:=DY (S:=S) (x:=x) (w:=w) (g:=g) (hK q (.head _)) hm (by have:=h.len; omega) r0 r6 r7
  have h1:=h.put (w + q * x) (mx g (w + q * x))
  generalize pT W (w + q * x) (mn (mx g (w + q * x)) ((gO W (w + q * x)).getD (mx g (w + q * x))))=W1 at e1 h1
  obtain ⟨W',a5,a6,a7,e2,h2⟩:=sO (x:=x) (w:=w) (g:=g) r0 K (S.set m (.dic (aC W1))) W1 (L ++ [(w + q * x,mx g (w + q * x))]) (some (.int q)) (some (.int (w + q * x))) (some (.int (mx g (w + q * x)))) (λq hq=>hK q (.tail _ hq)) (Y6 hml) h1 (by simp; omega)
  rw [W6] at e2
  refine ⟨W',a5,a6,a7,(bu (r1:=[r0,some (.int x),some (.ref m),some (.int w),some (.int g),some (.int q),r6,r7]) rfl e1).trans e2,?_⟩
  rw [Jn]
  simpa using h2
theorem sP (T:List (Int × Int)):(aC T).map PD.pairD=T.map λe=>D.tup [.int e.1,.int e.2]:=by unfold aC; rw [Zn]; rfl
theorem sQ {x:Int} (r0:Option D) :∀ (T:List (Int × Int)) (S:Sto) (W L:List (Int × Int)) (r3 r4 r5 r6 r7:Option D),S[m]?=some (.dic (aC W))->GT W L->L.length + T.length * 2<=1000->
  ∃ (W':List (Int × Int)) (r3' r4' r5' r6' r7':Option D),forL (.tp [.nm 3,.nm 4]) ssO (T.map λe=>D.tup [.int e.1,.int e.2]) [r0,some (.int x),some (.ref m),r3,r4,r5,r6,r7] S=.ok (.nx [r0,some (.int x),some (.ref m),r3',r4',r5',r6',r7']) (S.set m (.dic (aC W')))/\GT W' (L ++ jt x T)
 | [],S,W,L,r3,r4,r5,r6,r7,hm,h,_=>⟨W,r3,r4,r5,r6,r7,by rw [set_same hm]; rfl,by simpa [jt] using h⟩
 | e :: T,S,W,L,r3,r4,r5,r6,r7,hm,h,hz=>by
  rw [Jm] at hz
  have hml:m < S.length:=(J9.mp hm).1
  obtain ⟨W1,a5,a6,a7,e1,h1⟩:=sO (x:=x) (w:=e.1) (g:=e.2) r0 KS S W L r5 r6 r7 (by decide) hm h (by show L.length + 2<=1000; omega)
  obtain ⟨W2,b3,b4,b5,b6,b7,e2,h2⟩:=sQ (x:=x) r0 T (S.set m (.dic (aC W1))) W1 (L ++ KS.map λq=>(e.1 + q * x,mx e.2 (e.1 + q * x))) (some (.int e.1)) (some (.int e.2)) a5 a6 a7 (Y6 hml) h1 (by rw [Jo,Jh]; show L.length + 2 + T.length * 2<=1000; omega)
  rw [W6] at e2
  refine ⟨W2,b3,b4,b5,b6,b7,?_,?_⟩
  ·rw [Jn]
   exact (bu (r1:=[r0,some (.int x),some (.ref m),some (.int e.1),some (.int e.2),r5,r6,r7]) rfl ((dy (d:=tupI KS) rfl rfl).trans e1)).trans e2
  ·have:jt x (e :: T)=(KS.map λq=>(e.1 + q * x,mx e.2 (e.1 + q * x))) ++ jt x T:=by simp only [jt,Yn]
   rw [this,<- Y7]
   exact h2
theorem p256 (h:n<=8):2 ^ n<=256:=Y9 (Qw (by decide) h) (by decide)
theorem sR {x:Int} (hd:S[n]?=some (.dic (aC T))) (h:LS T xs) (hx:xs.length<=8):
  ∃ T':List (Int × Int),bU [.ref n,.int x] S=.ok (.ref S.length) (S.set n (.fdic (aC T)) ++ [.dic (aC T')])/\LS T' (xs ++ [x]):=by
 have hnl:n < S.length:=(J9.mp hd).1
 have hd':dAt (S ++ [SO.dic []]) n T:=.inl (by rw [Jq hnl]; exact hd)
 have hlen:T.length<=256:=Y9 h.len (p256 hx)
 have e0:(S ++ [SO.dic []]).set n (.fdic (aC T))=S.set n (.fdic (aC T)) ++ [.dic []]:=Vw _ _ hnl
 obtain ⟨T',a3,a4,a5,a6,a7,e1,h1⟩:=sQ (x:=x) (some (.ref n)) (m:=S.length) T (S.set n (.fdic (aC T)) ++ [.dic []]) [] [] none none none none none (by simp [aC]) GT.nil (by simp; omega)
 have e2:(S.set n (.fdic (aC T)) ++ [SO.dic []]).set S.length (.dic (aC T'))=S.set n (.fdic (aC T)) ++ [.dic (aC T')]:=by
  rw [Wn _ _ (by simp)]; simp
 rw [e2] at e1
 have hi:=m7 (ρ:=[some (.ref n),some (.int x),some (.ref S.length),none,none,none,none,none]) (i:=0) rfl hd'
 rw [sP,e0] at hi
 refine ⟨T',?_,h.step (by simpa using h1)⟩
 exact bo (ρ:=[some (.ref n),some (.int x),none,none,none,none,none,none]) rfl ((au (S1:=S ++ [.dic []]) (aD rfl)).trans ((au (r1:=[some (.ref n),some (.int x),some (.ref S.length),a3,a4,a5,a6,a7]) ((g6 hi).trans e1)).trans (aV (ab rfl))))
noncomputable abbrev lsB:SM:=(aI 1 (ax bU (af (ag 1) (af (ag 2) ak))))
theorem ng:∀ T:List (Int × Int),jn (aC T)=some (T.map (·.2))
 | []=>rfl
 | e :: T=>by
  show jn ((.inl e.1,.int e.2) :: aC T)=_
  unfold jn
  rw [ng T]
  rfl
theorem vK {f:Sto->D->Option D} {x z:D} (h:a r S=.ok x S1) (hz:f S1 x=some z):eUn f a r S=.ok z S1:=by unfold eUn; rw [h,R.bind_ok,hz]; rfl
theorem DZ {x:Int} {T:TF} (hd:S[n]?=some (.dic (aX T))) (hl:T.length<=256) (hp:∀ e ∈ T,e.2.length<=100):
  ∃ T':TF,bT [.ref n,.int x] S=.ok (.ref S.length) (S.set n (.fdic (aX T)) ++ [.dic (aX T')])/\FT T' (iK x T):=by
 have hnl:n < S.length:=(J9.mp hd).1
 have hd':(S ++ [SO.dic []])[n]?=some (.dic (aX T)):=by
  rw [Jq hnl]
  exact hd
 have e0:(S ++ [SO.dic []]).set n (.fdic (aX T))=S.set n (.fdic (aX T)) ++ [.dic []]:=Vw _ _ hnl
 obtain ⟨T',a3,a4,a5,a6,a7,e1,h1⟩:=sN (x:=x) (some (.ref n)) (m:=S.length) T (S.set n (.fdic (aX T)) ++ [.dic []]) [] [] none none none none none hp (by simp [aX]) FT.nil (by simp; omega)
 have e2:(S.set n (.fdic (aX T)) ++ [SO.dic []]).set S.length (.dic (aX T'))=S.set n (.fdic (aX T)) ++ [.dic (aX T')]:=by
  rw [Wn _ _ (by simp)]; simp
 rw [e2] at e1
 refine ⟨T',?_,by simpa using h1⟩
 exact bo (ρ:=[some (.ref n),some (.int x),none,none,none,none,none,none]) rfl ((au (S1:=S ++ [.dic []]) (aD rfl)).trans ((au (r1:=[some (.ref n),some (.int x),some (.ref S.length),a3,a4,a5,a6,a7]) ((g6 (oN rfl hd')).trans (by rw [e0]; exact e1))).trans (aV (ab rfl))))
theorem mergeF:∀ (U A:TF),KeysF (A ++ U)->du (aX A) (aX U)=aX (A ++ U)
 | [],A,_=>by rw [Yu]; rfl
 | e :: U,A,h=>by
  have na:A.any (λx=>decide (x.1=e.1))=false:=by
   rw [Zq]
   intro x hx hq
   exact (Zl.mp h).2.2 x hx e (.head _) (Yy hq)
  have e1:putD (aX A) (.inl e.1) (tupI e.2)=aX (A ++ [e]):=by
   rw [sL]
   unfold pF
   rw [Jc (by rw [na]; exact Jl)]
  have e2:A ++ e :: U=(A ++ [e]) ++ U:=by rw [Y7]; rfl
  show du (putD (aX A) (.inl e.1) (tupI e.2)) (aX U)=_
  rw [e1,e2]
  exact mergeF U (A ++ [e]) (e2 ▸ h)
theorem sS:∀ T:TF,nH (T.map λe=>D.tup [.int e.1,tupI e.2])=some (aX T)
 | []=>rfl
 | e :: T=>by
  rw [Jn]
  unfold nH
  simp only [jd,sS T]
  rfl
theorem xj (T:TF):(aX T).map PD.pairD=T.map λe=>D.tup [.int e.1,tupI e.2]:=by unfold aX; rw [Zn]; rfl
theorem uo {f:Sto->List D->R D} {xs:List D} (h:t r S=.ok xs S1):eBR f t r S=f S1 xs:=by unfold eBR; rw [h,R.bind_ok]
theorem sT {b:Int} {S:Sto}:∀ (T:TF) (r0 r1:Option D),dk (.tp [.nm 0,.nm 1]) (tV (eOp oLe (eB gw (af (ag 0) ak)) (ag 2))) (eg (af (ag 0) (af (ag 1) ak))) (T.map λe=>D.tup [.int e.1,tupI e.2]) [r0,r1,some (.int b)] S=.ok ((kpF b T).map λe=>D.tup [.int e.1,tupI e.2]) S
 | [],_,_=>rfl
 | e :: T,r0,r1=>by
  have ih:=sT (b:=b) (S:=S) T (some (.int e.1)) (some (tupI e.2))
  have z2:(2:Nat)<=sizeLine:=by decide
  have ht:tV (eOp oLe (eB gw (af (ag 0) ak)) (ag 2)) [some (.int e.1),some (tupI e.2),some (.int b)] S=.ok (inB b e.1) S:=bD (av (aW (z:=.int (gi e.1)) (ae (ab rfl) rfl) rfl) (ab rfl) rfl)
  have he:eg (af (ag 0) (af (ag 1) ak)) [some (.int e.1),some (tupI e.2),some (.int b)] S=.ok (.tup [.int e.1,tupI e.2]) S:=eG (xs:=[.int e.1,tupI e.2]) (ae (ab rfl) (ae (ab rfl) rfl)) z2
  rw [Jn,dk]
  simp only [G.put,G.puts,Yh,Z3,ht,R.bind_ok]
  unfold kpF at ih ⊢
  rw [Zm]
  cases hb:inB b e.1 with
  | true=>
   simp only [Yj,he,R.bind_ok,ih,Jn]
  | false=>
   simp only [Jx,Ys,ih]
theorem zw {T:TF} (hd:S[n]?=some (.dic (aX T))) (hk:KeysF T) (hz:T.length<=1000):bc [.ref n,.int b] S=.ok (.ref S.length) (S.set n (.fdic (aX T)) ++ [.dic (aX (kpF b T))]):=by
 have z:(1000:Nat)<=sizeLine:=by decide
 have hi:=oN (ρ:=[some (.ref n),some (.int b)]) (i:=0) rfl hd
 rw [xj] at hi
 have hc:bB (fE (ag 0)) 2 [1] (.tp [(.nm 0),(.nm 1)]) (tV (eOp oLe (eB gw (af (ag 0) ak)) (ag 2))) (eg (af (ag 0) (af (ag 1) ak))) [some (.ref n),some (.int b)] S=.ok (.lst ((kpF b T).map λe=>D.tup [.int e.1,tupI e.2])) (S.set n (.fdic (aX T))):=by
  unfold bB
  rw [hi,R.bind_ok,J8 (by rw [Jh]; omega)]
  have:eY 2 [1] [some (D.ref n),some (.int b)]=[none,none,some (.int b)]:=rfl
  rw [this,sT T none none,R.bind_ok]
 have hm:du [] (aX (kpF b T))=aX (kpF b T):=mergeF (kpF b T) [] (hk.filter _)
 have hf:nI (S.set n (.fdic (aX T))) [.lst ((kpF b T).map λe=>D.tup [.int e.1,tupI e.2])]=.ok (.ref S.length) (S.set n (.fdic (aX T)) ++ [.dic (aX (kpF b T))]):=by
  unfold nI
  simp only [jR,sS,hm,Zr]
 exact bo (ρ:=[some (.ref n),some (.int b)]) rfl (aV ((uo (ae hc rfl)).trans hf))
noncomputable abbrev cmB:SM:=(aI 2 (ax bc (af (ax bT (af (ag 2) (af (ag 3) ak))) (af (ag 1) ak))))
theorem sU:∀ ms:List (List Int),eT (ms.map tupI)=some ms
 | []=>rfl
 | m :: ms=>by
  have ih:=sU ms
  show (match intsOf (m.map .int),eT (ms.map tupI) with
   | some n,some ns=>some (n :: ns)
   | _,_=>none)=_
  rw [ih,g8]
theorem qD:∀ (xs ys p q:List Int),p.length=xs.length->wor (xs ++ ys) (p ++ q)=wor xs p + wor ys q
 | [],ys,[],q,_=>by show wor ys q=0 + wor ys q; omega
 | x :: xs,ys,r :: p,q,h=>by
  show x * r + wor (xs ++ ys) (p ++ q)=x * r + wor xs p + wor ys q
  rw [qD xs ys p q (by simpa using h)]; omega
 | [],_,_ :: _,_,h=>by cases h
 | _ :: _,_,[],_,h=>by cases h
theorem oO {a b:Nat} :p ∈ lE K (a + b)↔∃ q r,p=q ++ r/\q ∈ lE K a/\r ∈ lE K b:=by
 constructor
 ·intro h
  obtain ⟨h1,h2⟩:=(cu _ p).mp h
  exact ⟨p.take a,p.drop a,(Qb a p).symm,(cu _ _).mpr ⟨by rw [Q8,h1]; omega,λy hy=>h2 y (List.mem_of_mem_take hy)⟩,(cu _ _).mpr ⟨by rw [Qi,h1]; omega,λy hy=>h2 y (List.mem_of_mem_drop hy)⟩⟩
 ·rintro ⟨q,r,rfl,hq,hr⟩
  obtain ⟨q1,q2⟩:=(cu _ q).mp hq
  obtain ⟨r1,r2⟩:=(cu _ r).mp hr
  refine (cu _ _).mpr ⟨by rw [Jo,q1,r1],λy hy=>?_⟩
  rcases Jp.mp hy with hy | hy
  ·exact q2 y hy
  ·exact r2 y hy
theorem D0 {ys:List Int} :(∃ x ∈ wsL K xs,∃ y ∈ wsL K ys,x + y=v)↔Wo K (xs ++ ys) v:=by
 rw [DR,Jo]
 constructor
 ·rintro ⟨x,hx,y,hy,rfl⟩
  obtain ⟨p,hp,rfl⟩:=Jv.mp hx
  obtain ⟨q,hq,rfl⟩:=Jv.mp hy
  exact ⟨p ++ q,oO.mpr ⟨p,q,rfl,hp,hq⟩,qD xs ys p q ((cu _ _).mp hp).1⟩
 ·rintro ⟨p,hp,rfl⟩
  obtain ⟨q,r,rfl,hq,hr⟩:=oO.mp hp
  exact ⟨_,Jv.mpr ⟨q,hq,rfl⟩,_,Jv.mpr ⟨r,hr,rfl⟩,(qD xs ys q r ((cu _ _).mp hq).1).symm⟩
theorem zx {f:Sto->D->Option Int->Option Int->Option D} {lo hi:OM} {x z:D} {l u:Option Int} (h1:a r S=.ok x S1) (h2:lo r S1=.ok l S2) (h3:hi r S2=.ok u S3) (h4:f S3 x l u=some z):eSl f a lo hi r S=.ok z S3:=by unfold eSl; rw [h1,R.bind_ok,h2,R.bind_ok,h3,R.bind_ok,h4]; rfl
theorem zy (xs:List D) (m:Nat) (h:m<=xs.length):PD.cutD xs none (some (m:Int))=xs.take m:=by
 unfold PD.cutD
 have e1:HT.sIx xs.length 0 none=0:=rfl
 have e2:HT.sIx xs.length xs.length (some (m:Int))=m:=by
  rw [HT.sIx_nat]; exact Nat.min_eq_left h
 rw [e1,e2]; simp
theorem zz (xs:List D) (m:Nat) (h:m<=xs.length):PD.cutD xs (some (m:Int)) none=xs.drop m:=by
 unfold PD.cutD
 have e1:HT.sIx xs.length xs.length none=xs.length:=rfl
 have e2:HT.sIx xs.length 0 (some (m:Int))=m:=by
  rw [HT.sIx_nat]; exact Nat.min_eq_left h
 rw [e1,e2,Qm (by rw [Qi]; omega)]
noncomputable abbrev BA:FM:=fnM 2 (aA (aI 1 (eOp jk (eB dq (af (ag 0) ak)) (eC (.int 2)))) (bf (eg (af (eSl rG (ag 0) oNo (mE (ag 1))) (af (eSl rG (ag 0) (mE (ag 1)) oNo) ak)))))
theorem xk (xs:List Int) (S:Sto):BA [tupI xs] S=.ok (.tup [tupI (xs.take (xs.length / 2)),tupI (xs.drop (xs.length / 2))]) S:=by
 have z2:(2:Nat)<=sizeLine:=by decide
 have hm:xs.length / 2<=(xs.map D.int).length:=by rw [Jh]; omega
 have hl:dq S [tupI xs]=some (.int xs.length):=by
  show some (D.int ((xs.map D.int).length:Int))=_
  rw [Jh]
 have hd:jk S (.int xs.length) (.int 2)=some (.int ((xs.length / 2:Nat):Int)):=by
  show (if (0:Int) < 2/\(2:Int) < 1073741824 then some (D.int ((xs.length:Int) / 2)) else none)=_
  rw [J8 (by decide)]
  rfl
 have h1:rG S (tupI xs) none (some ((xs.length / 2:Nat):Int))=some (tupI (xs.take (xs.length / 2))):=by
  show some (D.tup (PD.cutD (xs.map .int) _ _))=_
  rw [zy _ _ hm,<- List.map_take]
 have h2:rG S (tupI xs) (some ((xs.length / 2:Nat):Int)) none=some (tupI (xs.drop (xs.length / 2))):=by
  show some (D.tup (PD.cutD (xs.map .int) _ _))=_
  rw [zz _ _ hm,<- List.map_drop]
 exact bo (ρ:=[some (tupI xs),none]) rfl ((au (aD (av (aW (ae (ab rfl) rfl) hl) rfl hd))).trans (aV (eG (ae (zx (ab rfl) rfl (sj (ab rfl)) h1) (ae (zx (ab rfl) (sj (ab rfl)) rfl h2) rfl)) z2)))
theorem D1 (K xs:List Int):(wsL K xs).length=K.length ^ xs.length:=by
 unfold wsL
 rw [Jh,sr]
theorem i7 {a:SM} {f:F} (h:a r S=.ok f S1):a r S=.ok f S1:=h
theorem E9 {x y u v:D} (hi:it ρ S=.ok [x,y] S1) (h1:e [some x] S1=.ok u S2) (h2:e [some y] S2=.ok v S3):bB it 1 [] (.nm 0) bZ e ρ S=.ok (.lst [u,v]) S3:=by
 have z2:(2:Nat)<=sizeLine:=by decide
 unfold bB
 rw [hi,R.bind_ok,J8 (show [x,y].length<=sizeLine from z2)]
 have:eY 1 [] ρ = [none]:=rfl
 rw [this]
 simp only [dk,G.put,Yh,bZ,R.bind_ok,Yj,h1,h2]
theorem sV {k:Int} (h:k ∈ KS):k = -1 \/ k=1:=by
 simp only [KS,Jg,Jz,Z2] at h
 exact h
theorem zA:∀ {xs:List Int} {v:Int},Wo KS xs v->Wo KS xs (-v)
 | [],v,h=>by
  have h:v=0:=h
  show -v=0
  omega
 | x :: xs,v,h=>by
  obtain ⟨q,hq,h⟩:=h
  refine ⟨-q,?_,?_⟩
  ·rcases sV hq with rfl | rfl <;> decide
  ·rw [show -v - x * -q = -(v - x * q) by rw [Int.mul_neg]; omega]
   exact zA h
theorem zB:∀ xs:List Int,Wo KS xs xs.sum
 | []=>rfl
 | x :: xs=>⟨1,by decide,by
  rw [Q6,show x + xs.sum - x * 1=xs.sum by omega]
  exact zB xs⟩
theorem vM:∀ {xs:List Int},(∀ x ∈ xs,1<=x)->0<=xs.sum
 | [],_=>Yo _
 | x :: xs,h=>by
  have h1:=h x (.head _)
  have h2:=vM λy hy=>h y (.tail _ hy)
  rw [Q6]; omega
theorem jC (h:Row xs) (v:Int) (S:Sto):aH [tupI xs,.int v] S=.ok .non S:=by
 have e2:cf [.int v] S=.ok .non S:=by
  have e:=si (d:=.int v) (S:=S) rfl
  have e':isI (.int v)=true:=rfl
  rw [e'] at e
  simp [cf,fnM,eU,sIf,bI,tNx,R.nx,PD.ff,tV,ax,ag,af,ak,R.bind,e]
 refine mX (ρ:=[some (tupI xs),some (.int v)]) rfl ((au (bg ((ar (ae (ab rfl) rfl)).trans (cS h S)))).trans (bg ((ar (ae (ab rfl) rfl)).trans e2)))
noncomputable def wlk (A B:List Int) (v:Int):Nat->Nat->Nat->List (Nat × Nat × Int)
 | 0,_,_=>[]
 | n + 1,i,j=>if i < A.length/\1<=j then (i,j - 1,A.getD i 0 + B.getD (j - 1) 0) :: (if A.getD i 0 + B.getD (j - 1) 0 < v then wlk A B v n (i + 1) j else wlk A B v n i (j - 1)) else []
theorem rise (h:A.Pairwise (· <= ·)) {j:Nat} (hij:i<=j) (hj:j < A.length):A.getD i 0<=A.getD j 0:=by
 have hi:i < A.length:=by omega
 rw [Yc,Yc,Ja hi,Ja hj]
 by_cases e:i=j
 ·subst e; exact Yo _
 ·exact Qu.mp h i j hi hj (by omega)
theorem jD (hA:A.Pairwise (· <= ·)) (hB:B.Pairwise (· <= ·)) {p q:Nat} (hp:p < A.length) (hq:q < B.length) (hv:v<=A.getD p 0 + B.getD q 0)
  (hm:∀ x y,x < A.length->y < B.length->v<=A.getD x 0 + B.getD y 0->A.getD p 0 + B.getD q 0<=A.getD x 0 + B.getD y 0):
  ∀ (n i j:Nat),(A.length - i) + j<=n->i<=p->q < j->j<=B.length->∃ e ∈ wlk A B v n i j,e.2.2=A.getD p 0 + B.getD q 0
 | 0,i,j,h,h1,h2,_=>by omega
 | n + 1,i,j,h,h1,h2,h3=>by
  unfold wlk
  rw [J8 ⟨by omega,by omega⟩]
  by_cases hlt:A.getD i 0 + B.getD (j - 1) 0 < v
  ·rw [J8 hlt]
   by_cases e:i=p
   ·subst e
    have:=rise hB (i:=q) (j:=j - 1) (by omega) (by omega)
    omega
   ·obtain ⟨x,hx,e2⟩:=jD hA hB hp hq hv hm n (i + 1) j (by omega) (by omega) h2 h3
    exact ⟨x,.tail _ hx,e2⟩
  ·rw [Jc hlt]
   by_cases e:j - 1=q
   ·rw [e] at hlt ⊢
    refine ⟨_,.head _,?_⟩
    have a1:=rise hA h1 hp
    have a2:=hm i q (by omega) hq (by omega)
    show A.getD i 0 + B.getD q 0=_
    omega
   ·obtain ⟨x,hx,e2⟩:=jD hA hB hp hq hv hm n i (j - 1) (by omega) h1 (by omega) (by omega)
    exact ⟨x,.tail _ hx,e2⟩
theorem nh:∀ (n i j:Nat),j<=B.length->∀ e ∈ wlk A B v n i j,∃ x y,x < A.length/\y < B.length/\e=(x,y,A.getD x 0 + B.getD y 0)
 | 0,_,_,_,e,he=>by cases he
 | n + 1,i,j,hj,e,he=>by
  unfold wlk at he
  by_cases h:i < A.length/\1<=j
  ·rw [J8 h] at he
   rcases Jg.mp he with rfl | he
   ·exact ⟨i,j - 1,h.1,by omega,rfl⟩
   ·by_cases hlt:A.getD i 0 + B.getD (j - 1) 0 < v
    ·rw [J8 hlt] at he; exact nh n (i + 1) j hj e he
    ·rw [Jc hlt] at he; exact nh n i (j - 1) (by omega) e he
  ·rw [Jc h] at he; cases he
theorem ni {A B:List Int} {v:Int}:∀ (n i j:Nat),(wlk A B v n i j).length<=n
 | 0,_,_=>Jb _
 | n + 1,i,j=>by
  unfold wlk
  split
  ·rw [Jm]
   split
   ·have:=ni (A:=A) (B:=B) (v:=v) n (i + 1) j; omega
   ·have:=ni (A:=A) (B:=B) (v:=v) n i (j - 1); omega
  ·simp
theorem zC (h:x ∈ A):∃ p,p < A.length/\A.getD p 0=x:=by
 obtain ⟨p,hp,e⟩:=Zy.mp h
 exact ⟨p,hp,by rw [Yc,Ja hp]; exact e⟩
theorem getD_mem' {p:Nat} (h:p < A.length):A.getD p 0 ∈ A:=by
 rw [Yc,Ja h]
 exact Ws h
noncomputable def zD (A B:List Int):List Int:=A.flatMap λx=>B.map λy=>x + y
theorem nj {s:Int}:s ∈ zD A B↔∃ x ∈ A,∃ y ∈ B,x + y=s:=by
 simp [zD]
theorem zE {l:List Int} {s:Int} (h:s ∈ l):∃ m ∈ l,∀ x ∈ l,m<=x:=by
 match l,h with
 | a :: r,_=>
  obtain ⟨⟨h1,h2⟩,h3⟩:=iV r a
  refine ⟨cW a r,?_,λx hx=>?_⟩
  ·rcases h3 with e | e
   ·rw [e]; exact .head _
   ·exact .tail _ e
  ·rcases Jg.mp hx with rfl | hx
   ·exact h1
   ·exact h2 x hx
theorem uq (hA:A.Pairwise (· <= ·)) (hB:B.Pairwise (· <= ·)) {y:Int} (hx:x ∈ A) (hy:y ∈ B) (h:v<=x + y):∃ e ∈ wlk A B v (A.length + B.length) 0 B.length,v<=e.2.2/\e.2.2<=x + y:=by
 have hs:x + y ∈ (zD A B).filter λs=>decide (v<=s):=Y2.mpr ⟨nj.mpr ⟨x,hx,y,hy,rfl⟩,by simpa using h⟩
 obtain ⟨m,hm,hle⟩:=zE hs
 obtain ⟨hm1,hm2⟩:=Y2.mp hm
 obtain ⟨a,ha,b,hb,rfl⟩:=nj.mp hm1
 obtain ⟨p,hp,rfl⟩:=zC ha
 obtain ⟨q,hq,rfl⟩:=zC hb
 have hv:v<=A.getD p 0 + B.getD q 0:=by simpa using hm2
 obtain ⟨e,he,ee⟩:=jD hA hB hp hq hv (λi j hi hj hij=>hle _ (Y2.mpr ⟨nj.mpr ⟨_,getD_mem' hi,_,getD_mem' hj,rfl⟩,by simpa using hij⟩)) (A.length + B.length) 0 B.length (by omega) (Y3 _) hq (Jb _)
 exact ⟨e,he,by rw [ee]; exact hv,by rw [ee]; exact hle _ hs⟩
noncomputable def eW (e:Nat × Nat × Int):D:=.tup [.int e.1,.int e.2.1,.int e.2.2]
theorem uv {a b:TM} (h:a r S=.ok true S1):PD.i8 a b r S=b r S1:=by unfold PD.i8; rw [h,R.bind_ok]; exact J8 rfl
theorem uw {a b:TM} (h:a r S=.ok false S1):PD.i8 a b r S=.ok false S1:=by unfold PD.i8; rw [h,R.bind_ok]; exact Jc Jl
noncomputable abbrev wkT:TM:=(PD.i8 (tV (eOp oLt (ag 4) (eB dq (af (eOp oIx (ag 2) (eC (.int 0))) ak)))) (tV (eOp oGe (ag 5) (eC (.int 0)))))
noncomputable abbrev wkB:SM:=(aA (aI 6 (eOp bb (eOp oIx (eOp oIx (ag 2) (eC (.int 0))) (ag 4)) (eOp oIx (eOp oIx (ag 2) (eC (.int 1))) (ag 5)))) (aA (cj (ly cK (ag 3) (af (eg (af (ag 4) (af (ag 5) (af (ag 6) ak)))) ak))) (sIf (tV (eOp oLt (ag 6) (ag 1))) (aI 4 (eOp bb (ag 4) (eC (.int 1)))) (aI 5 (eOp i9 (ag 5) (eC (.int 1)))))))
theorem o7 (h:i < A.length):oIx S (tupI A) (.int (i:Int))=some (.int (A.getD i 0)):=by
 show atI (A.map D.int) (i:Int)=_
 rw [mI (by rw [Jh]; exact h),Yc,Ja h]; simp
theorem fu:dq S [tupI A]=some (.int A.length):=by
 show some (D.int ((A.map D.int).length:Int))=_
 rw [Jh]
theorem BB (r0 r3 r6:Option D) (i j:Nat) (S:Sto):wkT [r0,some (.int v),some (.tup [tupI A,tupI B]),r3,some (.int i),some (.int ((j:Int) - 1)),r6] S=.ok (decide (i < A.length/\1<=j)) S:=by
 have h1:tV (eOp oLt (ag 4) (eB dq (af (eOp oIx (ag 2) (eC (.int 0))) ak))) [r0,some (.int v),some (.tup [tupI A,tupI B]),r3,some (.int i),some (.int ((j:Int) - 1)),r6] S=.ok (decide ((i:Int) < A.length)) S:=
  bD (av (ab rfl) (aW (ae (av (x:=.tup [tupI A,tupI B]) (ab rfl) rfl rfl) rfl) fu) rfl)
 have h2:tV (eOp oGe (ag 5) (eC (.int 0))) [r0,some (.int v),some (.tup [tupI A,tupI B]),r3,some (.int i),some (.int ((j:Int) - 1)),r6] S=.ok (decide ((j:Int) - 1 >= 0)) S:=bD (av (ab rfl) rfl rfl)
 by_cases g:i < A.length
 ·rw [Js (show (i:Int) < A.length by omega)] at h1
  rw [show wkT=PD.i8 _ _ from rfl,uv h1,h2]
  congr 1
  rw [W5]
  omega
 ·rw [Jy (show ¬ (i:Int) < A.length by omega)] at h1
  rw [show wkT=PD.i8 _ _ from rfl,uw h1,Jy (by omega)]
def WkC (A B:List Int) (v:Int) (r0:Option D) (m n:Nat):Prop:=∀ (i j:Nat) (S:Sto) (w:List D) (r6:Option D),(A.length - i) + j<=n->j<=B.length->S[m]?=some (.lst w)->w.length + n<=1000->
  ∃ r4 r5 r6':Option D,cH wkT wkB (n + 1) [r0,some (.int v),some (.tup [tupI A,tupI B]),some (.ref m),some (.int i),some (.int ((j:Int) - 1)),r6] S=.ok (.nx [r0,some (.int v),some (.tup [tupI A,tupI B]),some (.ref m),r4,r5,r6']) (S.set m (.lst (w ++ (wlk A B v n i j).map eW)))
theorem vN (r0:Option D) (ih:∀ k,n=k + 1->WkC A B v r0 m k):WkC A B v r0 m n:=λi j S w r6 h1 h2 hm hz=>by
  have hml:m < S.length:=(J9.mp hm).1
  have same:S.set m (.lst w)=S:=by
   have e:=(J9.mp hm).2
   rw [<- e]; exact Zu hml
  have ht:=BB (A:=A) (B:=B) (v:=v) r0 (some (.ref m)) r6 i j S
  by_cases g:i < A.length/\1<=j
  ·rw [Js g] at ht
   obtain ⟨k,rfl⟩:∃ k,n=k + 1:=⟨n - 1,by omega⟩
   have z3:(3:Nat)<=sizeLine:=by decide
   have z:(1000:Nat)<=sizeLine:=by decide
   have hj:((j:Int) - 1)=((j - 1:Nat):Int):=by omega
   have hL:isL S (.ref m)=true:=by simp [isL,hm]
   -- the body,up to its last choice
   have hb:∀ (k1:SM),aA (aI 6 (eOp bb (eOp oIx (eOp oIx (ag 2) (eC (.int 0))) (ag 4)) (eOp oIx (eOp oIx (ag 2) (eC (.int 1))) (ag 5)))) (aA (cj (ly cK (ag 3) (af (eg (af (ag 4) (af (ag 5) (af (ag 6) ak)))) ak))) k1) [r0,some (.int v),some (.tup [tupI A,tupI B]),some (.ref m),some (.int i),some (.int ((j - 1:Nat):Int)),r6] S
     = k1 [r0,some (.int v),some (.tup [tupI A,tupI B]),some (.ref m),some (.int i),some (.int ((j - 1:Nat):Int)),some (.int (A.getD i 0 + B.getD (j - 1) 0))] (S.set m (.lst (w ++ [eW (i,j - 1,A.getD i 0 + B.getD (j - 1) 0)]))):=λk1=>by
    refine (au (aD (av (av (av (x:=.tup [tupI A,tupI B]) (ab rfl) rfl rfl) (ab rfl) (o7 g.1)) (av (av (x:=.tup [tupI A,tupI B]) (ab rfl) rfl rfl) (ab rfl) (o7 (by omega))) rfl))).trans (au (bg (d:=.non) ((lS (ys:=[eW (i,j - 1,A.getD i 0 + B.getD (j - 1) 0)]) (ab rfl) hL (ae (eG (xs:=[.int i,.int ((j - 1:Nat):Int),.int (A.getD i 0 + B.getD (j - 1) 0)]) rfl z3) rfl)).trans ?_)))
    unfold cK
    simp only [hm]
    rw [J8 (by omega)]
   unfold cH
   rw [ht,R.bind_ok,J8 rfl,hj,show wkB=aA _ (aA _ _) from rfl,hb]
   have hw:wlk A B v (k + 1) i j=(i,j - 1,A.getD i 0 + B.getD (j - 1) 0) :: (if A.getD i 0 + B.getD (j - 1) 0 < v then wlk A B v k (i + 1) j else wlk A B v k i (j - 1)):=by
    rw [wlk,J8 g]
   rw [hw]
   have hm':(S.set m (.lst (w ++ [eW (i,j - 1,A.getD i 0 + B.getD (j - 1) 0)])))[m]?=some (.lst (w ++ [eW (i,j - 1,A.getD i 0 + B.getD (j - 1) 0)])):=Y6 hml
   by_cases hlt:A.getD i 0 + B.getD (j - 1) 0 < v
   ·obtain ⟨r4,r5,r6',e⟩:=ih k rfl (i + 1) j _ _ (some (.int (A.getD i 0 + B.getD (j - 1) 0))) (by omega) h2 hm' (by simp; omega)
    refine ⟨r4,r5,r6',?_⟩
    rw [J8 hlt,(E7 (bD (av (ab rfl) (ab rfl) (Q7 (λb=>some (D.bl b)) (Js hlt))))).trans (aD (av (ab rfl) rfl rfl)),R.bind_ok]
    rw [hj,W6,Y7] at e
    exact e
   ·obtain ⟨r4,r5,r6',e⟩:=ih k rfl i (j - 1) _ _ (some (.int (A.getD i 0 + B.getD (j - 1) 0))) (by omega) (by omega) hm' (by simp; omega)
    refine ⟨r4,r5,r6',?_⟩
    rw [Jc hlt,(fe (bD (av (ab rfl) (ab rfl) (Q7 (λb=>some (D.bl b)) (Jy hlt))))).trans (aD (av (ab rfl) rfl rfl)),R.bind_ok]
    rw [W6,Y7] at e
    exact e
  ·rw [Jy g] at ht
   have hw:wlk A B v n i j=[]:=by
    cases n with
    | zero=>rfl
    | succ n=>rw [wlk,Jc g]
   refine ⟨some (.int i),some (.int ((j:Int) - 1)),r6,?_⟩
   unfold cH
   rw [ht,R.bind_ok,Jc Jl,hw,W0,Yu,same]
theorem vO (r0:Option D) :∀ n:Nat,WkC A B v r0 m n
 | 0=>vN r0 λ_ e=>Nat.noConfusion e
 | n + 1=>vN r0 λk e=>(Nat.succ.inj e) ▸ vO r0 n
theorem BC {a:TM} {b:Bool} (h:a r S=.ok b S1):a r S=.ok b S1:=h
theorem oP:∀ T:List (Int × Int),gB (aC T)=some (T.map (·.1))
 | []=>rfl
 | e :: T=>by
  show (gB (aC T)).map (e.1 :: ·)=_
  rw [oP T]; rfl
noncomputable def wsS (T:List (Int × Int)):List Int:=jm (T.map (·.1))
theorem uz (h:dAt S n T) (hz:T.length<=1000):rX S [.ref n]=some (.lst ((wsS T).map .int)):=by
 have z:(1000:Nat)<=sizeLine:=by decide
 show (match rW S (.ref n) with | some ns=>if ns.length<=sizeLine then some (D.lst ((jm ns).map .int)) else none | none=>none)=_
 have e:rW S (.ref n)=some (T.map (·.1)):=by
  unfold rW
  rw [h.seq]
  simp only [h.dic,oP]
 rw [e]
 dsimp only
 rw [J8 (by rw [Jh]; omega)]
 rfl
theorem kg {f:List Int} (h:Hist T f) (w:Int):w ∈ wsS T↔w ∈ f:=by
 unfold wsS
 rw [(et _).mem_iff,Jv,<- h.mem w]
theorem qE (T:List (Int × Int)):(wsS T).length=T.length:=by unfold wsS; rw [(et _).length_eq,Jh]
theorem kh {l:List D}:dF S [.lst l]=some (.tup l):=rfl
theorem Fb (h12:xs.length<=12) (hr:Row xs) (S:Sto):∃ (S':Sto) (A B:List (Int × Int)),cE [tupI xs] S=.ok (.tup [tupI (wsS A),tupI (wsS B)]) S'/\Pre S S'/\Hist A (wsL KS (xs.take (xs.length / 2)))/\Hist B (wsL KS (xs.drop (xs.length / 2)))/\A.length<=64/\B.length<=64:=by
 have hk:∀ q ∈ KS,-1<=q/\q<=1:=by decide
 have hl1:(xs.take (xs.length / 2)).length<=6:=by rw [Q8]; omega
 have hl2:(xs.drop (xs.length / 2)).length<=6:=by rw [Qi]; omega
 have bnd:∀ ys:List Int,ys.length<=6->(wsL KS ys).length<=64:=λys h=>by
  rw [D1]
  exact Y9 (Qw (by decide) h) (by decide)
 obtain ⟨S1,a,A,tA,dA,la,hA,pA⟩:=nc (K:=KS) (xs:=xs.take (xs.length / 2)) (by decide) hk (by omega) S
 obtain ⟨S2,b,B,tB,dB,lb,hB,pB⟩:=nc (K:=KS) (xs:=xs.drop (xs.length / 2)) (by decide) hk (by omega) S1
 have lA:A.length<=64:=Y9 hA.len (bnd _ hl1)
 have lB:B.length<=64:=Y9 hB.len (bnd _ hl2)
 refine ⟨S2,A,B,?_,pA.trans pB,hA,hB,lA,lB⟩
 have hc:bB (cc (ax dP (af (ag 0) ak)) bC) 1 [] (.nm 0) bZ (eB dF (af (eB rX (af (ax eu (af (ag 0) (af (eC (.tup (([(-1),(1)]:List Int).map .int))) ak))) ak)) ak)) [some (tupI xs)] S=.ok (.lst [tupI (wsS A),tupI (wsS B)]) S2:=
  E9 (S1:=S) (by unfold cc; rw [(ar (ae (ab rfl) rfl)).trans (show dP [tupI xs] S=_ from xk xs S),R.bind_ok]; rfl)
   (aW (ae (aW (ae ((ar (ae (ab rfl) (ae rfl rfl))).trans tA) rfl) (uz (.inl dA) (by omega))) rfl) kh)
   (aW (ae (aW (ae ((ar (ae (ab rfl) (ae rfl rfl))).trans tB) rfl) (uz (.inl dB) (by omega))) rfl) kh)
 exact bo (ρ:=[some (tupI xs)]) rfl ((au (bg ((ar (ae (ab rfl) rfl)).trans (cS hr S)))).trans (i7 (aV (aW (ae hc rfl) kh))))
noncomputable abbrev wkL (A B:List (Int × Int)) (v:Int):List (Nat × Nat × Int):=wlk (wsS A) (wsS B) v ((wsS A).length + (wsS B).length) 0 (wsS B).length
theorem BD (h12:xs.length<=12) (hr:Row xs) (v:Int) (S:Sto):∃ (S':Sto) (m:Nat) (A B:List (Int × Int)),gG [tupI xs,.int v] S=.ok (.ref m) S'/\S'[m]?=some (.lst ((wkL A B v).map eW))/\Pre S S'/\Hist A (wsL KS (xs.take (xs.length / 2)))/\Hist B (wsL KS (xs.drop (xs.length / 2)))/\(wkL A B v).length<=128/\S.length<=m:=by
 obtain ⟨S1,A,B,e1,p1,hA,hB,lA,lB⟩:=Fb h12 hr S
 have hlen:(wsS A).length + (wsS B).length<=128:=by rw [qE,qE]; omega
 obtain ⟨r4,r5,r6,e2⟩:=vO (A:=wsS A) (B:=wsS B) (v:=v) (some (tupI xs)) (m:=S1.length) ((wsS A).length + (wsS B).length) 0 (wsS B).length (S1 ++ [.lst []]) [] none (by omega) (Jb _) (by simp) (by simp; omega)
 have hset:(S1 ++ [SO.lst []]).set S1.length (.lst ([] ++ (wkL A B v).map eW))=S1 ++ [.lst ((wkL A B v).map eW)]:=by simp
 refine ⟨S1 ++ [.lst ((wkL A B v).map eW)],S1.length,A,B,?_,by simp,p1.trans (Pre.app _ _),hA,hB,Y9 (ni _ _ _) hlen,p1.len⟩
 have e3:sWh wkT wkB [some (tupI xs),some (.int v),some (.tup [tupI (wsS A),tupI (wsS B)]),some (.ref S1.length),some (.int ((0:Nat):Int)),some (.int (((wsS B).length:Int) - 1)),none] (S1 ++ [.lst []])=.ok (.nx [some (tupI xs),some (.int v),some (.tup [tupI (wsS A),tupI (wsS B)]),some (.ref S1.length),r4,r5,r6]) (S1 ++ [.lst ((wkL A B v).map eW)]):=by
  rw [Dr _ (by rw [e2]; exact λz=>by cases z),e2,hset]
 refine bo (ρ:=[some (tupI xs),some (.int v),none,none,none,none,none]) rfl ?_
 refine (au (aD ((ar (ae (ab rfl) rfl)).trans e1))).trans ?_
 refine (au (S1:=S1 ++ [.lst []]) (i7 (aD rfl))).trans ?_
 refine (au (i7 (aD rfl))).trans ?_
 refine (au (i7 (aD (av (aW (ae (av (x:=.tup [tupI (wsS A),tupI (wsS B)]) (ab rfl) rfl rfl) rfl) fu) rfl rfl)))).trans ?_
 exact (au (i7 e3)).trans (i7 (aV (ab rfl)))
theorem zF {m:EM} {xs:List D} (h:m r S=.ok (.ref n) S1) (hn:S1[n]?=some (.lst xs)):ud m r S=.ok xs (S1.set n (.flst xs)):=by
 unfold ud
 rw [h,R.bind_ok]
 simp only [hn]
theorem oQ {A:Type} {x1 x2 x3:A->D} {out:A->D} {p:A->Bool} {t:TM} :∀ (xs:List A) (r0 r1 r2:Option D),(∀ x ∈ xs,t (some (x1 x) :: some (x2 x) :: some (x3 x) :: tl) S=.ok (p x) S)->(∀ x ∈ xs,p x=true->e (some (x1 x) :: some (x2 x) :: some (x3 x) :: tl) S=.ok (out x) S)->dk (.tp [.nm 0,.nm 1,.nm 2]) t e (xs.map λx=>.tup [x1 x,x2 x,x3 x]) (r0 :: r1 :: r2 :: tl) S=.ok ((xs.filter p).map out) S
 | [],_,_,_,_,_=>rfl
 | x :: xs,r0,r1,r2,ht,h=>by
  have h0:=ht x Ye
  have h2:=oQ (out:=out) xs (some (x1 x)) (some (x2 x)) (some (x3 x)) (λy hy=>ht y (Yb _ hy)) λy hy=>h y (Yb _ hy)
  rw [Jn,dk]
  cases hp:p x with
  | true=>
   have h1:=h x Ye hp
   rw [hp] at h0
   simp only [G.put,G.puts,Yh,Z3,R.bind_ok,Yj,h0,h1,h2,Jn,Zm,hp]
  | false=>
   rw [hp] at h0
   simp only [G.put,G.puts,Yh,Z3,R.bind_ok,h0,h2,Zm,hp,Jx,Ys]
theorem uB {A:Type} {x1 x2 x3:A->D} {out:A->D} {p:A->Bool} {t:TM} (xs:List A) (hi:it r S=.ok (xs.map λx=>.tup [x1 x,x2 x,x3 x]) S1) (hl:xs.length<=sizeLine) (hc:caps.map (λi=>(r[i]?).join)=tl) (ht:∀ x ∈ xs,t (some (x1 x) :: some (x2 x) :: some (x3 x) :: tl) S1=.ok (p x) S1) (h:∀ x ∈ xs,p x=true->e (some (x1 x) :: some (x2 x) :: some (x3 x) :: tl) S1=.ok (out x) S1):bB it 3 caps (.tp [.nm 0,.nm 1,.nm 2]) t e r S=.ok (.lst ((xs.filter p).map out)) S1:=by
 unfold bB
 rw [hi,R.bind_ok,J8 (by rw [Jh]; exact hl)]
 have:eY 3 caps r=none :: none :: none :: tl:=by unfold eY; rw [hc]; rfl
 rw [this,oQ (out:=out) xs none none none ht h,R.bind_ok]
noncomputable def Fc:Option Int->D
 | none=>.non
 | some i=>.int i
noncomputable def BE:List Int->Option Int
 | []=>none
 | n :: ns=>some (cW n ns)
theorem Fd (S:Sto):∀ l:List Int,rT S [.lst (l.map .int)]=some (Fc (BE l))
 | []=>rfl
 | n :: ns=>by
  have e:=iM (n :: ns)
  rw [Jn] at e ⊢
  unfold rT
  have ht:eT (D.int n :: ns.map D.int)=none:=rfl
  simp only [jR,ht,e]
  rfl
theorem BF:∀ {l:List Int} {u:Int},BE l=some u->u ∈ l/\∀ x ∈ l,u<=x
 | n :: ns,u,h=>by
  cases h
  obtain ⟨⟨h1,h2⟩,h3⟩:=iV ns n
  refine ⟨?_,λx hx=>?_⟩
  ·rcases h3 with e | e
   ·rw [e]; exact .head _
   ·exact .tail _ e
  ·rcases Jg.mp hx with rfl | hx
   ·exact h1
   ·exact h2 x hx
noncomputable def D2 (xs:List Int) (v:Int):Option Int->Prop
 | none=>∀ u,Wo KS xs u->u < v
 | some u=>Wo KS xs u/\v<=u/\∀ z,Wo KS xs z->v<=z->u<=z
theorem oR {A B:List (Int × Int)} (hA:Hist A (wsL KS (xs.take (xs.length / 2)))) (hB:Hist B (wsL KS (xs.drop (xs.length / 2)))) (u:Int):Wo KS xs u↔∃ x ∈ wsS A,∃ y ∈ wsS B,x + y=u:=by
 have:=D0 (K:=KS) (xs:=xs.take (xs.length / 2)) (ys:=xs.drop (xs.length / 2)) (v:=u)
 rw [Qb] at this
 rw [<- this]
 constructor
 ·rintro ⟨x,hx,y,hy,e⟩
  exact ⟨x,(kg hA x).mpr hx,y,(kg hB y).mpr hy,e⟩
 ·rintro ⟨x,hx,y,hy,e⟩
  exact ⟨x,(kg hA x).mp hx,y,(kg hB y).mp hy,e⟩
theorem zG (h12:xs.length<=12) (hr:Row xs) (v:Int) (S:Sto):∃ (S':Sto) (o:Option Int),gH [tupI xs,.int v] S=.ok (Fc o) S'/\Pre S S'/\D2 xs v o:=by
 obtain ⟨S1,m,A,B,e1,hm,p1,hA,hB,hlen,hml⟩:=BD h12 hr v S
 have z:(1000:Nat)<=sizeLine:=by decide
 have hc:bB (ud (ax gG (af (ag 0) (af (ag 1) ak)))) 3 [1] (.tp [(.nm 0),(.nm 1),(.nm 2)]) (tV (eOp oGe (ag 2) (ag 3))) (ag 2) [some (tupI xs),some (.int v)] S=.ok (.lst (((wkL A B v).filter λe=>decide (v<=e.2.2)).map λe=>D.int e.2.2)) (S1.set m (.flst ((wkL A B v).map eW))):=
  uB (x1:=λe:Nat × Nat × Int=>.int e.1) (x2:=λe=>.int e.2.1) (x3:=λe=>.int e.2.2) (tl:=[some (.int v)]) (wkL A B v) (zF ((ar (ae (ab rfl) (ae (ab rfl) rfl))).trans e1) hm) (by omega) rfl
   (λe he=>BC (bD (av (ab rfl) (ab rfl) rfl))) λe he _=>ab rfl
 have hl:((wkL A B v).filter λe=>decide (v<=e.2.2)).map (λe=>D.int e.2.2)=(((wkL A B v).filter λe=>decide (v<=e.2.2)).map λe=>e.2.2).map D.int:=by rw [Zn]; rfl
 rw [hl] at hc
 refine ⟨S1.set m (.flst ((wkL A B v).map eW)),BE (((wkL A B v).filter λe=>decide (v<=e.2.2)).map λe=>e.2.2),?_,p1.set hml _,?_⟩
 ·exact bo (ρ:=[some (tupI xs),some (.int v)]) rfl ((au (bg ((ar (ae (ab rfl) (ae (ab rfl) rfl))).trans (jC hr v S)))).trans (aV (aW (ae hc rfl) (Fd _ _))))
 ·have hit:∀ u,Wo KS xs u->v<=u->∃ w ∈ ((wkL A B v).filter λe=>decide (v<=e.2.2)).map λe=>e.2.2,w<=u:=λu hu hv=>by
   obtain ⟨x,hx,y,hy,rfl⟩:=(oR hA hB u).mp hu
   obtain ⟨e,he,h1,h2⟩:=uq (dU _) (dU _) hx hy hv
   exact ⟨e.2.2,Jv.mpr ⟨e,Y2.mpr ⟨he,by simpa using h1⟩,rfl⟩,h2⟩
  cases ho:BE (((wkL A B v).filter λe=>decide (v<=e.2.2)).map λe=>e.2.2) with
  | none=>
   intro u hu
   rcases Int.lt_or_le u v with h | h
   ·exact h
   ·obtain ⟨w,hw,_⟩:=hit u hu h
    match hl:((wkL A B v).filter λe=>decide (v<=e.2.2)).map λe=>e.2.2 with
    | []=>rw [hl] at hw; cases hw
    | n :: ns=>rw [hl] at ho; cases ho
  | some u=>
   obtain ⟨h1,h2⟩:=BF ho
   obtain ⟨e,he,rfl⟩:=Jv.mp h1
   obtain ⟨he,hv⟩:=Y2.mp he
   obtain ⟨x,y,hx,hy,rfl⟩:=nh _ _ _ (Jb _) e he
   refine ⟨(oR hA hB _).mpr ⟨_,getD_mem' hx,_,getD_mem' hy,rfl⟩,by simpa using hv,λz hz hvz=>?_⟩
   obtain ⟨w,hw,hwz⟩:=hit z hz hvz
   exact Z7 (h2 w hw) hwz
theorem xl (h12:xs.length<=12) (hr:Row xs) (S:Sto):∃ (S':Sto) (u:Int),cR [tupI xs] S=.ok (.int u) S'/\Pre S S'/\D2 xs 0 (some u):=by
 obtain ⟨S',o,e,p,h⟩:=zG h12 hr 0 S
 cases o with
 | none=>
  have:=h _ (zB xs)
  have:=vM hr.1
  omega
 | some u=>exact ⟨S',u,bo (ρ:=[some (tupI xs)]) rfl (aV ((ar (ae (ab rfl) (ae rfl rfl))).trans e)),p,h⟩
theorem D3 (hr:Row xs) (h10:xs.length<=10) (S:Sto):d5 [tupI xs] S=.ok .non S:=by
 have hl:dq S [tupI xs]=some (.int xs.length):=by show some (D.int ((xs.map D.int).length:Int))=_; rw [Jh]
 have hc:tV (eOp oGt (eB dq (af (ag 0) ak)) (eC (.int (10)))) [some (tupI xs)] S=.ok (decide ((10:Int) < xs.length)) S:=bD (av (aW (ae (ab rfl) rfl) hl) rfl rfl)
 rw [Jy (by omega)] at hc
 exact mX (ρ:=[some (tupI xs)]) rfl ((au (bg ((ar (ae (ab rfl) rfl)).trans (cS hr S)))).trans ((fe hc).trans rfl))
theorem Ca (hr:Row xs) (h10:xs.length<=10) (v:Int) (S:Sto):aR [tupI xs,.int v] S=.ok .non S:=
 mX (ρ:=[some (tupI xs),some (.int v)]) rfl ((au (bg ((ar (ae (ab rfl) (ae (ab rfl) rfl))).trans (jC hr v S)))).trans (bg ((ar (ae (ab rfl) rfl)).trans (D3 hr h10 S))))
theorem D4 {neg:Bool} :oIn neg S (.int v) (tupI L)=some (.bl (if neg then !decide (v ∈ L) else decide (v ∈ L))):=by
 have h1:(L.map D.int).all ix=true:=Yv.mpr λd hd=>by
  obtain ⟨i,_,rfl⟩:=Jv.mp hd; rfl
 have h2:((L.map D.int).any λz=>eqF z (.int v))=decide (v ∈ L):=by
  rw [Qf,W4,decide_eq_true_iff]
  constructor
  ·rintro ⟨d,hd,q⟩
   obtain ⟨i,hi,rfl⟩:=Jv.mp hd
   have:i=v:=by simpa [eqF] using q
   rw [<- this]; exact hi
  ·intro h
   exact ⟨.int v,Jv.mpr ⟨v,h,rfl⟩,by simp [eqF]⟩
 unfold oIn
 simp only [bS]
 rw [J8 ⟨rfl,h1⟩,h2]
theorem vP (i:Int) (S:Sto):ba [.int i] S=.ok (.bl true) S:=by kernel_rfl
theorem vQ (h:i < A.length):oIx S (tupI A) (.int (i:Int))=some (.int A[i]):=by
 have:=mI (xs:=A.map D.int) (i:=i) (by rw [Jh]; exact h)
 rw [List.getElem_map] at this
 exact this
theorem xm (h:t r S=.ok [.int 1,.int (n:Int)] S) (hn:n<=100000):j3 t r S=.ok ((List.range (n - 1)).map λ(m:Nat)=>D.int (1 + m)) S:=by
 unfold j3
 rw [h,R.bind_ok]
 have b1:=zc (n:=1) (by decide) (by decide)
 have b2:=zc (n:=(n:Int)) (by omega) (by omega)
 have e:PD.xc [.int 1,.int (n:Int)]=some ((1:Int),(n:Int)):=by
  simp only [PD.xc]
  rw [J8 ⟨b1.2,b1.1,b2.2,b2.1⟩]
 simp only [e]
 rw [show ((n:Int) - 1).toNat=n - 1 by omega]
theorem Fe {i:Int} :oLt S (.int i) (.int j)=some (.bl (decide (i < j))):=rfl
theorem BG (hu:L.Pairwise (· < ·)) (hm:m + 1 < L.length) (S:Sto):eOp oLt (eOp oIx (ag 1) (eOp i9 (ag 0) (eC (.int 1)))) (eOp oIx (ag 1) (ag 0)) [some (.int (1 + (m:Int))),some (tupI L)] S=.ok (.bl true) S:=by
 have e1:i9 S (.int (1 + (m:Int))) (.int 1)=some (.int (m:Int)):=by
  show some (D.int (1 + (m:Int) - 1))=_
  rw [show (1 + (m:Int) - 1)=m by omega]
 have hm0:m < L.length:=by omega
 have e2:oIx S (tupI L) (.int (1 + (m:Int)))=some (.int L[m + 1]):=by
  rw [show (1 + (m:Int))=((m + 1:Nat):Int) by omega]
  exact vQ hm
 have lt:L[m] < L[m + 1]:=Qu.mp hu m (m + 1) hm0 hm (by omega)
 have ha:eOp i9 (ag 0) (eC (.int 1)) [some (.int (1 + (m:Int))),some (tupI L)] S=.ok (.int (m:Int)) S:=av (ab rfl) rfl e1
 have hb:eOp oIx (ag 1) (eOp i9 (ag 0) (eC (.int 1))) [some (.int (1 + (m:Int))),some (tupI L)] S=.ok (.int L[m]) S:=av (ab rfl) ha (vQ hm0)
 have hd:eOp oIx (ag 1) (ag 0) [some (.int (1 + (m:Int))),some (tupI L)] S=.ok (.int L[m + 1]) S:=av (ab rfl) (ab rfl) e2
 have hf:oLt S (.int L[m]) (.int L[m + 1])=some (.bl true):=by rw [Fe,Js lt]
 exact av hb hd hf
theorem xn (hu:L.Pairwise (· < ·)) (hl:L.length<=1000) (S:Sto):dN [tupI L] S=.ok (.bl true) S:=by
 have z:(1000:Nat)<=sizeLine:=by decide
 have hi:ie S [tupI L,.ty "tuple"]=some (.bl true):=by simp [ie,tyD,gf]
 have hc:=dQ (enc:=D.int) (out:=λ_:Int=>D.bl true) (e:=ax ba (af (ag 0) ak)) (it:=cc (ag 0) bC) (caps:=[]) (tl:=[]) (r:=[some (tupI L)]) (S:=S) L (jB rfl rfl) (by omega) rfl λx _=>(ar (ae (ab rfl) rfl)).trans (vP x S)
 have ha:gx S [.lst (L.map λ_:Int=>D.bl true)]=some (.bl true):=by
  rw [fI (f:=λ_=>true),Yv.mpr λ_ _=>rfl]
 have hr:j3 (af (eC (.int 1)) (af (eB dq (af (ag 0) ak)) ak)) [some (tupI L)] S=.ok ((List.range (L.length - 1)).map λ(m:Nat)=>D.int (1 + m)) S:=xm (ae rfl (ae (aW (ae (ab rfl) rfl) fu) rfl)) (by omega)
 have hc2:=dQ (enc:=λ(m:Nat)=>D.int (1 + m)) (out:=λ_:Nat=>D.bl true) (e:=eOp oLt (eOp oIx (ag 1) (eOp i9 (ag 0) (eC (.int 1)))) (eOp oIx (ag 1) (ag 0))) (caps:=[0]) (tl:=[some (tupI L)]) (List.range (L.length - 1)) hr (by rw [Ui]; omega) rfl λm hm=>BG hu (by have:=Ur.mp hm; omega) S
 have ha2:gx S [.lst ((List.range (L.length - 1)).map λ_:Nat=>D.bl true)]=some (.bl true):=by
  rw [fI (f:=λ_=>true),Yv.mpr λ_ _=>rfl]
 exact bo (ρ:=[some (tupI L)]) rfl ((au ((fe ((js (ft (b:=true) (bD (aW (ae (ab rfl) (ae rfl rfl)) hi)))).trans (ft (b:=true) (bD (aW (ae hc rfl) ha))))).trans rfl)).trans (aV (aW (ae hc2 rfl) ha2)))
noncomputable def fJ (B:List Int):List (KD × D):=B.map λv=>(.inl v,.bl true)
theorem zH:∀ (U A:List Int),(A ++ U).Nodup->du (fJ A) (fJ U)=fJ (A ++ U)
 | [],A,_=>by rw [Yu]; rfl
 | v :: U,A,h=>by
  have na:(fJ A).any (λkv=>decide (kv.1=(.inl v:KD)))=false:=by
   rw [Zq]
   intro kv hkv hq
   obtain ⟨a,ha,rfl⟩:=Jv.mp hkv
   have e:a=v:=Qy (Yy hq)
   exact (Uf.mp h).2.2 a ha v (.head _) e
  have e1:putD (fJ A) (.inl v) (.bl true)=fJ (A ++ [v]):=by
   unfold putD
   rw [na]
   simp [fJ]
  have e2:A ++ v :: U=(A ++ [v]) ++ U:=by rw [Y7]; rfl
  show du (putD (fJ A) (.inl v) (.bl true)) (fJ U)=_
  rw [e1,e2]
  exact zH U (A ++ [v]) (e2 ▸ h)
theorem Ff:∀ B:List Int,PD.nH (B.map λv=>D.tup [.int v,.bl true])=some (fJ B)
 | []=>rfl
 | v :: B=>by
  rw [Jn]
  unfold PD.nH
  simp only [jd,Ff B]
  rfl
theorem FL {p:Nat} (hp:S[p]?=some (.dic (fJ B))) (hv:v ∈ B):t6 true S (.int v) (.ref p)=some (.bl false):=by
 have hs:bS S (.ref p)=none:=by simp [bS,hp]
 have hd:bV S (.ref p)=some (fJ B):=by simp [bV,hp]
 have hk:(eO (fJ B) (.inl v)).isSome=true:=by
  rw [xh,W4]
  exact ⟨_,Jv.mpr ⟨v,hv,rfl⟩,Js rfl⟩
 unfold t6
 rw [hs]
 simp only [Option.isSome_none,Jx,Ys]
 unfold AW
 simp only [hd,jd,hk]
 rfl
theorem xo {A:Type} {enc out:A->D} (xs:List A) (hi:it r S=.ok (xs.map enc) S1) (hl:xs.length<=sizeLine) (hc:caps.map (λi=>(r[i]?).join)=tl) (h:∀ x ∈ xs,e (some (enc x) :: tl) S1=.ok (out x) S1):bB it 1 caps (.nm 0) bZ e r S=.ok (.lst (xs.map out)) S1:=by
 unfold bB
 rw [hi,R.bind_ok,J8 (by rw [Jh]; exact hl)]
 have:eY 1 caps r=none :: tl:=by unfold eY; rw [hc]; rfl
 rw [this,comp_map (out:=out) xs none h,R.bind_ok]
theorem kl:∀ (xs:List D) (i:Nat),(PD.numbered i xs).length=xs.length
 | [],_=>rfl
 | x :: xs,i=>by rw [PD.numbered,Jm,Jm,kl xs (i + 1)]
theorem D5 (h:Keys T):(wsS T).Pairwise (· < ·):=by
 have a:=dU (T.map (·.1))
 have nd:(T.map (·.1)).Nodup:=by
  unfold Keys at h
  rw [Qs,V8]
  exact h
 have b:(jm (T.map (·.1))).Pairwise (· ≠ ·):=Qs.mp ((et (T.map (·.1))).nodup_iff.mpr nd)
 exact (a.and b).imp λ⟨x,y⟩=>by omega
theorem vR (hp:p.length=n) (hn:n<=100) (S:Sto):cP [tupI p,.int n] S=.ok (.bl true) S:=by
 have z:(100:Nat)<=sizeLine:=by decide
 have hi:ie S [tupI p,.ty "tuple"]=some (.bl true):=by simp [ie,tyD,gf]
 have hl:jw S (.int p.length) (.int n)=some (.bl true):=by rw [y9,Js (by omega)]
 have hc:=dQ (enc:=D.int) (out:=λ_:Int=>D.bl true) (e:=ax ba (af (ag 0) ak)) (it:=cc (ag 0) bC) (caps:=[]) (tl:=[]) (r:=[some (tupI p),some (.int n)]) (S:=S) p (jB rfl rfl) (by omega) rfl λx _=>(ar (ae (ab rfl) rfl)).trans (vP x S)
 have ha:gx S [.lst (p.map λ_:Int=>D.bl true)]=some (.bl true):=by
  rw [fI (f:=λ_=>true),Yv.mpr λ_ _=>rfl]
 exact bo (ρ:=[some (tupI p),some (.int n)]) rfl (aV ((qp (aW (ae (ab rfl) (ae rfl rfl)) hi)).trans ((qp (av (aW (ae (ab rfl) rfl) fu) (ab rfl) hl)).trans (aW (ae hc rfl) ha))))
theorem BH (h:Row xs) (hp:p.length=xs.length) (hq:∀ q ∈ p,-1<=q/\q<=1) (S:Sto):dw [tupI p,tupI xs] S=.ok (.bl true) S:=by
 have z:(100:Nat)<=sizeLine:=by decide
 have hl:=h.2
 have hc:=dQ (enc:=D.int) (out:=λ_:Int=>D.bl true) (e:=gQ oLe oLe (eUn ja (eC (.int 1))) (ag 0) (eC (.int 1))) (it:=cc (ag 0) bC) (caps:=[]) (tl:=[]) (r:=[some (tupI p),some (tupI xs)]) (S:=S) p (jB rfl rfl) (by omega) rfl λq hq'=>by
  obtain ⟨q0,q1⟩:=hq q hq'
  have e1:eUn ja (eC (.int 1)) [some (.int q)] S=.ok (.int (-1)) S:=rfl
  have e2:oLe S (.int (-1)) (.int q)=some (.bl true):=by show some (D.bl (decide ((-1:Int)<=q)))=_; rw [Js q0]
  have e3:oLe S (.int q) (.int 1)=some (.bl true):=by show some (D.bl (decide (q<=(1:Int))))=_; rw [Js q1]
  have ev:ag 0 [some (.int q)] S=.ok (.int q) S:=ab rfl
  show gQ oLe oLe (eUn ja (eC (.int 1))) (ag 0) (eC (.int 1)) [some (.int q)] S=_
  unfold gQ
  rw [e1,R.bind_ok,ev,R.bind_ok]
  simp only [e2]
  show (R.ok (D.int 1) S).bind _=_
  rw [R.bind_ok,e3]
  rfl
 have ha:gx S [.lst (p.map λ_:Int=>D.bl true)]=some (.bl true):=by
  rw [fI (f:=λ_=>true),Yv.mpr λ_ _=>rfl]
 exact bo (ρ:=[some (tupI p),some (tupI xs)]) rfl ((au (bg ((ar (ae (ab rfl) rfl)).trans (cS h S)))).trans (aV ((qp ((ar (ae (ab rfl) (ae (aW (ae (ab rfl) rfl) fu) rfl))).trans (vR hp (by omega) S))).trans (aW (ae hc rfl) ha))))
theorem zI (h:Row xs) (hp:p.length=xs.length) (hq:∀ q ∈ p,q = -1 \/ q=1) (S:Sto):bR [tupI p,.int xs.length] S=.ok (.bl true) S:=by
 have z:(100:Nat)<=sizeLine:=by decide
 have hl:=h.2
 have hc:=dQ (enc:=D.int) (out:=λ_:Int=>D.bl true) (e:=eOp jw (eB gw (af (ag 0) ak)) (eC (.int 1))) (it:=cc (ag 0) bC) (caps:=[]) (tl:=[]) (r:=[some (tupI p),some (.int xs.length)]) (S:=S) p (jB rfl rfl) (by omega) rfl λq hq'=>by
  rcases hq q hq' with rfl | rfl
  ·exact av (aW (ae (ab rfl) rfl) rfl) rfl rfl
  ·exact av (aW (ae (ab rfl) rfl) rfl) rfl rfl
 have ha:gx S [.lst (p.map λ_:Int=>D.bl true)]=some (.bl true):=by
  rw [fI (f:=λ_=>true),Yv.mpr λ_ _=>rfl]
 exact bo (ρ:=[some (tupI p),some (.int xs.length)]) rfl (aV ((qp ((ar (ae (ab rfl) (ae (ab rfl) rfl))).trans (vR hp (by omega) S))).trans (aW (ae hc rfl) ha)))
theorem vS (r0:Option D):∀ (xs ys:List Int) (S:Sto) (n:Nat) (T:List (Int × Int)) (r2:Option D),S[n]?=some (.dic (aC T))->LS T ys->ys.length + xs.length<=9->S0.length<=n->Pre S0 S->
  ∃ (S':Sto) (n':Nat) (T':List (Int × Int)) (r2':Option D),forL (.nm 2) lsB (xs.map .int) [r0,some (.ref n),r2] S=.ok (.nx [r0,some (.ref n'),r2']) S'/\S'[n']?=some (.dic (aC T'))/\LS T' (ys ++ xs)/\Pre S0 S'
 | [],ys,S,n,T,r2,hd,h,_,_,p=>⟨S,n,T,r2,rfl,hd,by simpa using h,p⟩
 | x :: xs,ys,S,n,T,r2,hd,h,hz,hn,p=>by
  rw [Jm] at hz
  obtain ⟨T1,e1,h1⟩:=sR (x:=x) hd h (by omega)
  obtain ⟨S2,n2,T2,a2,e2,d2,h2,p2⟩:=vS r0 xs (ys ++ [x]) (S.set n (.fdic (aC T)) ++ [SO.dic (aC T1)]) S.length T1 (some (.int x)) (by simp) h1 (by simp; omega) p.len ((p.set hn _).trans (Pre.app _ _))
  refine ⟨S2,n2,T2,a2,(bu (r1:=[r0,some (.ref n),some (.int x)]) rfl (aD ((ar (ae (ab rfl) (ae (ab rfl) rfl))).trans e1))).trans e2,d2,?_,p2⟩
  rw [Y7] at h2
  exact h2
theorem iN (h9:xs.length<=9) (hr:Row xs) (S:Sto):∃ (S':Sto) (m:Int),aU [tupI xs] S=.ok (.int m) S'/\IsL xs m/\Pre S S':=by
 obtain ⟨S',n,T,a2,e,hd,h,p⟩:=vS (S0:=S) (some (tupI xs)) xs [] (S ++ [.dic (aC [(0,0)])]) S.length [(0,0)] none (by simp) LS.zero (by simpa using h9) (Jb _) (Pre.app _ _)
 rw [Z4] at h
 obtain ⟨k,ks,ek,hm⟩:=h.min
 have hv:r9 S' (.ref n)=some (.int (cW k ks)):=by
  unfold r9
  have:bV S' (.ref n)=some (aC T):=by simp [bV,hd]
  simp only [this,ng,ek]
 have e0:jl [((eC (.int 0)),(eC (.int 0)))] [some (tupI xs),none,none] S=.ok (.ref S.length) (S ++ [.dic (aC [(0,0)])]):=rfl
 exact ⟨S',_,bo (ρ:=[some (tupI xs),none,none]) rfl ((au (bg ((ar (ae (ab rfl) rfl)).trans (cS hr S)))).trans ((au (aD e0)).trans ((au ((dy (ab rfl) rfl).trans e)).trans (aV (vK (ab rfl) hv))))),hm,p⟩
theorem vT (r0:Option D):∀ (xs ys:List Int) (S:Sto) (n:Nat) (T:TF) (r3:Option D),S[n]?=some (.dic (aX T))->CF b T ys->ys.length + xs.length<=9->S0.length<=n->Pre S0 S->
  ∃ (S':Sto) (n':Nat) (T':TF) (r3':Option D),forL (.nm 3) cmB (xs.map .int) [r0,some (.int b),some (.ref n),r3] S=.ok (.nx [r0,some (.int b),some (.ref n'),r3']) S'/\S'[n']?=some (.dic (aX T'))/\CF b T' (ys ++ xs)/\Pre S0 S'
 | [],ys,S,n,T,r3,hd,h,_,_,p=>⟨S,n,T,r3,rfl,hd,by simpa using h,p⟩
 | x :: xs,ys,S,n,T,r3,hd,h,hz,hn,p=>by
  rw [Jm] at hz
  have hl:T.length<=256:=Y9 h.len (p256 (by omega))
  obtain ⟨T1,e1,h1⟩:=DZ (x:=x) hd hl (λe he=>by rw [cJ (h.least e he).1.1]; omega)
  have hl1:T1.length<=1000:=by have:=h1.len; rw [kO] at this; omega
  have hd1:(S.set n (.fdic (aX T)) ++ [SO.dic (aX T1)])[S.length]?=some (.dic (aX T1)):=by simp
  have e2:=zw (b:=b) hd1 h1.keys hl1
  have p1:Pre S0 (S.set n (.fdic (aX T)) ++ [SO.dic (aX T1)]):=(p.set hn _).trans (Pre.app _ _)
  generalize hS1:S.set n (.fdic (aX T)) ++ [SO.dic (aX T1)]=S1 at e1 e2 p1
  obtain ⟨S3,n3,T3,a3,e3,d3,h3,p3⟩:=vT r0 xs (ys ++ [x]) (S1.set S.length (.fdic (aX T1)) ++ [SO.dic (aX (kpF b T1))]) S1.length (kpF b T1) (some (.int x)) (by simp) (h.step h1) (by simp; omega) p1.len ((p1.set p.len _).trans (Pre.app _ _))
  refine ⟨S3,n3,T3,a3,(bu (r1:=[r0,some (.int b),some (.ref n),some (.int x)]) rfl (aD ((ar (ae ((ar (ae (ab rfl) (ae (ab rfl) rfl))).trans e1) (ae (ab rfl) rfl))).trans e2))).trans e3,d3,?_,p3⟩
  rw [Y7] at h3
  exact h3
theorem vU (h9:xs.length<=9) (hr:Row xs) (hb:IsL xs b) (S:Sto):∃ (S':Sto) (c:List Int),gE [tupI xs] S=.ok (tupI c) S'/\c ∈ allS xs.length/\swO xs c=b/\Pre S S':=by
 obtain ⟨S1,b',e1,hb',p1⟩:=iN h9 hr S
 have:=hb'.uniq hb
 subst this
 have hb0:0<=b':=by obtain ⟨⟨p,_,rfl⟩,_⟩:=hb; exact zr _ _
 obtain ⟨S',n,T,a3,e,hd,h,p⟩:=vT (S0:=S1) (b:=b') (some (tupI xs)) xs [] (S1 ++ [.dic (aX [(0,[])])]) S1.length [(0,[])] none (by simp) (CF.zero hb0) (by simpa using h9) (Jb _) (Pre.app _ _)
 rw [Z4] at h
 obtain ⟨k,ks,ek,hm⟩:=h.min hb
 have hv:mT S' (.ref n)=some (tupI (fK k ks)):=by
  unfold mT
  have h1:bV S' (.ref n)=some (aX T):=by simp [bV,hd]
  have h2:(aX T).map (·.2)=(k :: ks).map tupI:=by
   rw [<- ek]
   unfold aX
   rw [Zn,Zn]; rfl
  simp only [h1,h2,sU]
 have e0:jl [((eC (.int 0)),(eg ak))] [some (tupI xs),some (.int b'),none,none] S1=.ok (.ref S1.length) (S1 ++ [.dic (aX [(0,[])])]):=rfl
 refine ⟨S',_,bo (ρ:=[some (tupI xs),none,none,none]) rfl ((au (aD ((ar (ae (ab rfl) rfl)).trans e1))).trans ((au (aD e0)).trans ((au ((dy (ab rfl) rfl).trans e)).trans (aV (vK (ab rfl) hv))))),hm.1.1,?_,p1.trans p⟩
 have:=hb.2 _ hm.1.1
 have:=hm.1.2
 omega
noncomputable abbrev swB:SM:=(aA (aI 2 (eOp bb (ag 2) (eOp cx (ag 5) (ag 4)))) (aI 3 (eB mG (af (ag 3) (af (eB gw (af (ag 2) ak)) ak)))))
theorem vV (r0 r1:Option D) (S:Sto):∀ (zs:List (Int × Int)) (a g:Int) (r4 r5:Option D),(∀ z ∈ zs,cI z.2)->∃ (a':Int) (b4 b5:Option D),forL (.tp [.nm 4,.nm 5]) swB (zs.map λz=>D.tup [.int z.1,.int z.2]) [r0,r1,some (.int a),some (.int g),r4,r5] S=.ok (.nx [r0,r1,some (.int a'),some (.int (swg zs a g)),b4,b5]) S
 | [],a,g,r4,r5,_=>⟨a,r4,r5,rfl⟩
 | z :: zs,a,g,r4,r5,h=>by
  obtain ⟨a',b4,b5,e⟩:=vV r0 r1 S zs (a + z.1 * z.2) (mx g (a + z.1 * z.2)) (some (.int z.1)) (some (.int z.2)) λy hy=>h y (.tail _ hy)
  have hm:cx S (.int z.2) (.int z.1)=some (.int (z.1 * z.2)):=by rw [cO (.inl (h z (.head _))),Wq]
  exact ⟨a',b4,b5,(bu (r1:=[r0,r1,some (.int a),some (.int g),some (.int z.1),some (.int z.2)]) rfl ((au (aD (av (ab rfl) (av (ab rfl) (ab rfl) hm) rfl))).trans (aD (aW (z:=.int (mx g (a + z.1 * z.2))) (ae (ab rfl) (ae (aW (ae (ab rfl) rfl) rfl) rfl)) rfl)))).trans e⟩
theorem iO (hr:Row xs) (h:Sg xs.length ss) (S:Sto):cq [tupI xs,tupI ss] S=.ok (.int (swO xs ss)) S:=by
 obtain ⟨a',b4,b5,el⟩:=vV (some (tupI xs)) (some (tupI ss)) S (xs.zip ss) 0 0 none none h.small
 have hn:bj [tupI ss,.int xs.length] S=.ok .non S:=mX (ρ:=[some (tupI ss),some (.int xs.length)]) rfl ((fe (ft (b:=true) (bD ((ar (ae (ab rfl) (ae (ab rfl) rfl))).trans (zI hr h.1 (λq hq=>(h.2 q hq).symm) S))))).trans rfl)
 exact bo (ρ:=[some (tupI xs),some (tupI ss),none,none,none,none]) rfl ((au (bg ((ar (ae (ab rfl) rfl)).trans (cS hr S)))).trans ((au (bg ((ar (ae (ab rfl) (ae (aW (ae (ab rfl) rfl) fu) rfl))).trans hn))).trans ((au (aD rfl)).trans ((au (aD rfl)).trans ((au ((g6 (DV rfl rfl)).trans el)).trans (aV (ab rfl)))))))
theorem oS (hr:Row xs) (h:Sg xs.length ss) (S:Sto):dH [tupI xs,tupI ss] S=.ok (tupI (ss.map λs=>-s)) S:=by
 have z:(100:Nat)<=sizeLine:=by decide
 have hl:=hr.2
 have h1:=h.1
 have hn:cQ [tupI xs,tupI ss] S=.ok .non S:=mX (ρ:=[some (tupI xs),some (tupI ss)]) rfl ((fe (ft (b:=true) (bD ((ar (ae (ab rfl) (ae (ab rfl) rfl))).trans (BH hr h.1 (λq hq=>by have:=h.2 q hq; omega) S))))).trans rfl)
 have hc:=dQ (enc:=D.int) (out:=λs:Int=>D.int (-s)) (e:=eUn ja (ag 0)) (it:=cc (ag 1) bC) (caps:=[]) (tl:=[]) (r:=[some (tupI xs),some (tupI ss)]) (S:=S) ss (jB rfl rfl) (by omega) rfl λs _=>vK (ab rfl) rfl
 have e:(ss.map λs=>D.int (-s))=(ss.map λs=>-s).map .int:=by rw [Zn]; rfl
 rw [e] at hc
 exact bo (ρ:=[some (tupI xs),some (tupI ss)]) rfl ((au (bg ((ar (ae (ab rfl) (ae (ab rfl) rfl))).trans hn))).trans (aV (aW (ae hc rfl) kh)))
theorem zJ:∀ (U A:List (Int × Int)),Keys (A ++ U)->du (aC A) (aC U)=aC (A ++ U)
 | [],A,_=>by rw [Yu]; rfl
 | e :: U,A,h=>by
  have na:A.any (λx=>decide (x.1=e.1))=false:=by
   rw [Zq]
   intro x hx hq
   exact (Zl.mp h).2.2 x hx e (.head _) (Yy hq)
  have e1:putD (aC A) (.inl e.1) (.int e.2)=aC (A ++ [e]):=by
   rw [m5]
   unfold pT
   rw [Jc (by rw [na]; exact Jl)]
  have e2:A ++ e :: U=(A ++ [e]) ++ U:=by rw [Y7]; rfl
  show du (putD (aC A) (.inl e.1) (.int e.2)) (aC U)=_
  rw [e1,e2]
  exact zJ U (A ++ [e]) (e2 ▸ h)
theorem vW:∀ T:List (Int × Int),nH (T.map λe=>D.tup [.int e.1,.int e.2])=some (aC T)
 | []=>rfl
 | e :: T=>by
  rw [Jn]
  unfold nH
  simp only [jd,vW T]
  rfl
theorem vX {b:Int} {S:Sto}:∀ (T:List (Int × Int)) (r0 r1:Option D),dk (.tp [.nm 0,.nm 1]) (tV (eOp oLe (eB gw (af (ag 0) ak)) (ag 2))) (eg (af (ag 0) (af (ag 1) ak))) (T.map λe=>D.tup [.int e.1,.int e.2]) [r0,r1,some (.int b)] S=.ok ((kpT b T).map λe=>D.tup [.int e.1,.int e.2]) S
 | [],_,_=>rfl
 | e :: T,r0,r1=>by
  have ih:=vX (b:=b) (S:=S) T (some (.int e.1)) (some (.int e.2))
  have z2:(2:Nat)<=sizeLine:=by decide
  have ht:tV (eOp oLe (eB gw (af (ag 0) ak)) (ag 2)) [some (.int e.1),some (.int e.2),some (.int b)] S=.ok (inB b e.1) S:=bD (av (aW (z:=.int (gi e.1)) (ae (ab rfl) rfl) rfl) (ab rfl) rfl)
  have he:eg (af (ag 0) (af (ag 1) ak)) [some (.int e.1),some (.int e.2),some (.int b)] S=.ok (.tup [.int e.1,.int e.2]) S:=eG (xs:=[.int e.1,.int e.2]) (ae (ab rfl) (ae (ab rfl) rfl)) z2
  rw [Jn,dk]
  simp only [G.put,G.puts,Yh,Z3,ht,R.bind_ok]
  unfold kpT at ih ⊢
  rw [Zm]
  cases hb:inB b e.1 with
  | true=>
   simp only [Yj,he,R.bind_ok,ih,Jn]
  | false=>
   simp only [Jx,Ys,ih]
theorem vY {f:List Int} (hd:dAt S n T) (h:Hist T f) (hz:f.length<=1000):bc [.ref n,.int b] S=.ok (.ref S.length) (S.set n (.fdic (aC T)) ++ [.dic (aC (kpT b T))])/\Hist (kpT b T) (f.filter (inB b)):=by
 have z:(1000:Nat)<=sizeLine:=by decide
 have hi:=m7 (ρ:=[some (.ref n),some (.int b)]) (i:=0) rfl hd
 rw [sP] at hi
 have hl:=h.len
 have hc:bB (fE (ag 0)) 2 [1] (.tp [(.nm 0),(.nm 1)]) (tV (eOp oLe (eB gw (af (ag 0) ak)) (ag 2))) (eg (af (ag 0) (af (ag 1) ak))) [some (.ref n),some (.int b)] S=.ok (.lst ((kpT b T).map λe=>D.tup [.int e.1,.int e.2])) (S.set n (.fdic (aC T))):=by
  unfold bB
  rw [hi,R.bind_ok,J8 (by rw [Jh]; omega)]
  have:eY 2 [1] [some (D.ref n),some (.int b)]=[none,none,some (.int b)]:=rfl
  rw [this,vX T none none,R.bind_ok]
 have hk:=h.keep b
 have hm:du [] (aC (kpT b T))=aC (kpT b T):=zJ (kpT b T) [] hk.keys
 have hf:nI (S.set n (.fdic (aC T))) [.lst ((kpT b T).map λe=>D.tup [.int e.1,.int e.2])]=.ok (.ref S.length) (S.set n (.fdic (aC T)) ++ [.dic (aC (kpT b T))]):=by
  unfold nI
  simp only [jR,vW,hm,Zr]
 exact ⟨bo (ρ:=[some (.ref n),some (.int b)]) rfl (aV ((uo (ae hc rfl)).trans hf)),hk⟩
noncomputable abbrev twB:SM:=(aA (aI 2 (ax bc (af (ax cY (af (ag 2) (af (ag 4) (af (eC (.tup (([(-1),(1)]:List Int).map .int))) ak)))) (af (ag 1) ak)))) (cj (ly cK (ag 3) (af (ag 2) ak))))
theorem sW {L:List D} {d:D} (h:S[m]?=some (.lst (L ++ [d]))):oIx S (.ref m) (.int (-1))=some d:=by
 unfold oIx bS
 simp only [h]
 have e:ixN (L ++ [d]).length (-1)=some L.length:=by
  rw [Jo,Zt]
  unfold ixN
  rw [Jc (by decide),J8 (by omega)]
  congr 1
  omega
 unfold atI
 rw [e]
 show (L ++ [d])[L.length]?=some d
 simp
structure Tbs (S0 S:Sto) (b:Int) (m:Nat) (xs:List Int) (P:List (Nat × List (Int × Int))):Prop where
 lst:S[m]?=some (.lst (P.map λe=>D.ref e.1))
 at_:∀ e ∈ P,dAt S e.1 e.2/\e.1 ≠ m/\S0.length<=e.1
 len:P.length=xs.length + 1
 his:∀ i,i<=xs.length->∃ e,P[i]?=some e/\Hist e.2 (wiL b (xs.take i))
 low:S0.length<=m
 pre:Pre S0 S
theorem Tbs.last {P:List (Nat × List (Int × Int))} (h:Tbs S0 S b m xs P):∃ Q e,P=Q ++ [e]/\Hist e.2 (wiL b xs):=by
 have hne:P ≠ []:=λz=>by have:=h.len; rw [z] at this; cases this
 obtain ⟨e,he,hh⟩:=h.his xs.length (Jb _)
 rw [Q9] at hh
 refine ⟨P.dropLast,e,?_,hh⟩
 have h1:=Wp hne
 have h2:P.getLast hne=e:=by
  rw [List.getLast_eq_getElem]
  obtain ⟨hl,e2⟩:=J9.mp he
  have:P.length - 1=xs.length:=by rw [h.len]; rfl
  simp only [this]
  exact e2
 rw [<- h2]; exact h1.symm
theorem BI {Q:List (Nat × List (Int × Int))} {e:Nat × List (Int × Int)} (h:Tbs S0 S b m xs (Q ++ [e])) (hT:Hist e.2 (wiL b xs)) (hl:xs.length<=8) (r0:Option D):∃ (e':Nat × List (Int × Int)) (S':Sto),twB [r0,some (.int b),some (.ref e.1),some (.ref m),some (.int x)] S=.ok (.nx [r0,some (.int b),some (.ref e'.1),some (.ref m),some (.int x)]) S'/\Tbs S0 S' b m (xs ++ [x]) ((Q ++ [e]) ++ [e'])/\Hist e'.2 (wiL b (xs ++ [x])):=by
 obtain ⟨t,T⟩:=e
 obtain ⟨hd,hne,hlow⟩:=h.at_ (t,T) (Jw _ (.head _))
 have hd:dAt S t T:=hd
 have hT:Hist T (wiL b xs):=hT
 have hw:=zo b xs
 have hp:=p256 hl
 obtain ⟨T1,e1,h1⟩:=m8 (K:=[-1,1]) (x:=x) (by decide) hd hT (by show _ * 2<=1000; omega)
 have hlf:(fS [-1,1] x (wiL b xs)).length<=1000:=by rw [qw]; show _ * 2<=1000; omega
 have hml:m < S.length:=(J9.mp h.lst).1
 have hd1:dAt (S.set t (.fdic (aC T)) ++ [.dic (aC T1)]) S.length T1:=.inl (by rw [Y5 (by rw [Zr]; exact Jb _)]; simp)
 obtain ⟨e2,h2⟩:=vY (b:=b) hd1 h1 hlf
 rw [sF] at h2
 have elen:(S.set t (.fdic (aC T)) ++ [SO.dic (aC T1)]).length=S.length + 1:=by simp
 have p1:Pre S0 (S.set t (.fdic (aC T)) ++ [SO.dic (aC T1)]):=(h.pre.set hlow _).trans (Pre.app _ _)
 have old:∀ d ∈ Q ++ [(t,T)],dAt (S.set t (.fdic (aC T)) ++ [SO.dic (aC T1)]) d.1 d.2:=λd hd'=>hd.step (h.at_ d hd').1
 have hm1:(S.set t (.fdic (aC T)) ++ [SO.dic (aC T1)])[m]?=some (.lst ((Q ++ [(t,T)]).map λe=>D.ref e.1)):=by
  rw [Jq (by rw [Zr]; exact hml),Yk hne]; exact h.lst
 rw [elen] at e2
 generalize S.set t (.fdic (aC T)) ++ [SO.dic (aC T1)]=S1 at *
 have hold:∀ d ∈ Q ++ [(t,T)],d.1 < S.length:=λd hd'=>(h.at_ d hd').1.lt
 have p2:Pre S0 (S1.set S.length (.fdic (aC T1)) ++ [SO.dic (aC (kpT b T1))]):=(p1.set h.pre.len _).trans (Pre.app _ _)
 have old2:∀ d ∈ Q ++ [(t,T)],dAt (S1.set S.length (.fdic (aC T1)) ++ [SO.dic (aC (kpT b T1))]) d.1 d.2:=λd hd'=>dAt.app ((old d hd').set (by have:=hold d hd'; omega))
 have hm2:(S1.set S.length (.fdic (aC T1)) ++ [SO.dic (aC (kpT b T1))])[m]?=some (.lst ((Q ++ [(t,T)]).map λe=>D.ref e.1)):=by
  rw [Jq (by rw [Zr]; omega),Yk (by omega)]; exact hm1
 have ht2:(S1.set S.length (.fdic (aC T1)) ++ [SO.dic (aC (kpT b T1))])[S.length + 1]?=some (.dic (aC (kpT b T1))):=by
  rw [Y5 (by rw [Zr,elen]; exact Jb _),Zr,elen]; simp
 generalize S1.set S.length (.fdic (aC T1)) ++ [SO.dic (aC (kpT b T1))]=S2 at *
 have z:(1000:Nat) < sizeLine:=by decide
 have hQ:=h.len
 have hlx:(Q ++ [(t,T)]).length<=9:=by omega
 have ha:=kN (v:=.ref (S.length + 1)) hm2 (by rw [Jh]; omega)
 have eP:(Q ++ [(t,T)]).map (λe=>D.ref e.1) ++ [D.ref (S.length + 1)]=((Q ++ [(t,T)]) ++ [(S.length + 1,kpT b T1)]).map λe=>D.ref e.1:=by rw [Qg (l₁:=Q ++ [(t,T)])]; rfl
 rw [eP] at ha
 have hml2:m < S2.length:=(J9.mp hm2).1
 refine ⟨(S.length + 1,kpT b T1),S2.set m (.lst (((Q ++ [(t,T)]) ++ [(S.length + 1,kpT b T1)]).map λe=>D.ref e.1)),?_,⟨Y6 hml2,λd hd'=>?_,?_,λi hi=>?_,h.low,p2.set h.low _⟩,h2⟩
 ·exact (au (aD ((ar (ae ((ar (ae (ab rfl) (ae (ab rfl) (ae rfl rfl)))).trans e1) (ae (ab rfl) rfl))).trans e2))).trans (bg ((lS (ab rfl) (qq hm2) (ae (ab rfl) rfl)).trans ha))
 ·rcases Jp.mp hd' with q | q
  ·obtain ⟨_,n1,n2⟩:=h.at_ d q
   exact ⟨(old2 d q).set (Ne.symm n1),n1,n2⟩
  ·rw [Jf.mp q]
   have:=h.pre.len
   exact ⟨dAt.set (.inl ht2) (show m ≠ S.length + 1 by omega),show S.length + 1 ≠ m by omega,show S0.length<=S.length + 1 by omega⟩
 ·rw [Jo,h.len,Jo]; rfl
 ·rw [Jo,Zt] at hi
  by_cases c:i<=xs.length
  ·obtain ⟨d,g1,g2⟩:=h.his i c
   exact ⟨d,by rw [Jq (by rw [h.len]; omega)]; exact g1,by rw [List.take_append_of_le_length c]; exact g2⟩
  ·have ei:i=xs.length + 1:=by omega
   subst ei
   refine ⟨(S.length + 1,kpT b T1),by rw [Y5 (by rw [h.len]; omega),h.len]; simp,?_⟩
   rw [Qm (by rw [Jo]; simp)]
   exact h2
theorem vZ (r0:Option D):∀ (ys xs:List Int) (S:Sto) (Q:List (Nat × List (Int × Int))) (e:Nat × List (Int × Int)) (r4:Option D),Tbs S0 S b m xs (Q ++ [e])->Hist e.2 (wiL b xs)->xs.length + ys.length<=9->∃ (P:List (Nat × List (Int × Int))) (S':Sto) (b2 b4:Option D),forL (.nm 4) twB (ys.map .int) [r0,some (.int b),some (.ref e.1),some (.ref m),r4] S=.ok (.nx [r0,some (.int b),b2,some (.ref m),b4]) S'/\Tbs S0 S' b m (xs ++ ys) P
 | [],xs,S,Q,e,r4,h,_,_=>⟨_,S,_,r4,rfl,by rw [Yu]; exact h⟩
 | y :: ys,xs,S,Q,e,r4,h,hT,hl=>by
  rw [Jm] at hl
  obtain ⟨e1,S1,g1,h1,hT1⟩:=BI (x:=y) h hT (by omega) r0
  obtain ⟨P,S2,b2,b4,g2,h2⟩:=vZ r0 ys (xs ++ [y]) S1 (Q ++ [e]) e1 (some (.int y)) h1 hT1 (by rw [Jo]; show xs.length + 1 + ys.length<=9; omega)
  refine ⟨P,S2,b2,b4,(bu (r1:=[r0,some (.int b),some (.ref e.1),some (.ref m),some (.int y)]) rfl g1).trans g2,?_⟩
  rw [Y7] at h2
  exact h2
theorem oT (hl:xs.length<=9) (S:Sto):∃ (m:Nat) (P:List (Nat × List (Int × Int))) (S':Sto),bP [tupI xs,.int b] S=.ok (.ref m) S'/\Tbs S S' b m xs P:=by
 have z1':(1:Nat)<=sizeLine:=by decide
 have e0:jl [((eC (.int 0)),(eC (.int 1)))] [some (tupI xs),some (.int b),none,none,none] S=.ok (.ref S.length) (S ++ [.dic (aC [(0,1)])]):=by rfl
 have hd:dAt (S ++ [.dic (aC [(0,1)])]) S.length [(0,1)]:=.inl (by simp)
 obtain ⟨e1,h1⟩:=vY (b:=b) hd Hist.zero (by show 1<=1000; decide)
 rw [<- vF] at h1
 have elen:(S ++ [SO.dic (aC [(0,1)])]).length=S.length + 1:=by simp
 have p1:Pre S ((S ++ [SO.dic (aC [(0,1)])]).set S.length (.fdic (aC [(0,1)])) ++ [SO.dic (aC (kpT b [(0,1)]))]):=((Pre.app S _).set (Jb _) _).trans (Pre.app _ _)
 rw [elen] at e1
 generalize hS1:(S ++ [SO.dic (aC [(0,1)])]).set S.length (.fdic (aC [(0,1)])) ++ [SO.dic (aC (kpT b [(0,1)]))]=S1 at e1 p1
 have l1:S1.length=S.length + 2:=by rw [<- hS1]; simp
 have ht1:S1[S.length + 1]?=some (.dic (aC (kpT b [(0,1)]))):=by
  rw [<- hS1,Y5 (by simp)]
  simp
 have hN:eNew (af (ag 2) ak) [some (tupI xs),some (.int b),some (.ref (S.length + 1)),none,none] S1=.ok (.ref S1.length) (S1 ++ [.lst [.ref (S.length + 1)]]):=by
  unfold eNew
  rw [ae (ab rfl) rfl,R.bind_ok]
  exact J8 z1'
 have hT:Tbs S (S1 ++ [.lst [.ref (S.length + 1)]]) b S1.length [] ([] ++ [(S.length + 1,kpT b [(0,1)])]):=by
  refine ⟨by simp,λd hd=>?_,rfl,λi hi=>by have e:i=0:=(by simpa using hi); subst e; exact ⟨_,rfl,h1⟩,by omega,p1.trans (Pre.app _ _)⟩
  rw [Jf.mp hd]
  exact ⟨dAt.app (.inl ht1),show S.length + 1 ≠ S1.length by omega,show S.length<=S.length + 1 by omega⟩
 obtain ⟨P,S',b2,b4,e2,h2⟩:=vZ (some (tupI xs)) xs [] (S1 ++ [.lst [.ref (S.length + 1)]]) [] (S.length + 1,kpT b [(0,1)]) none hT h1 (by show 0 + xs.length<=9; omega)
 rw [Z4] at h2
 exact ⟨S1.length,P,S',bo (ρ:=[some (tupI xs),some (.int b),none,none,none]) rfl ((au (aD ((ar (ae e0 (ae (ab rfl) rfl))).trans e1))).trans ((au (aD hN)).trans ((au ((dy (ab rfl) rfl).trans e2)).trans (aV (ab rfl))))),h2⟩
theorem lU (hr:Row xs) (hl:xs.length<=9) (S:Sto):∃ S':Sto,bF [tupI xs,.int b] S=.ok (.int (wiL b xs).length) S'/\Pre S S':=by
 obtain ⟨m,P,S',e1,h⟩:=oT (b:=b) hl S
 obtain ⟨Q,e,rfl,hT⟩:=h.last
 have hL:=h.lst
 rw [Qg] at hL
 have hd:=(h.at_ e (Jw _ (.head _))).1
 have hv:r8 S' (.ref e.1)=some (.int (wiL b xs).length):=by
  unfold r8
  simp only [hd.dic,ng,Zs,hT.count]
 exact ⟨S',bo (ρ:=[some (tupI xs),some (.int b),none]) rfl ((au (bg ((ar (ae (ab rfl) (ae (ab rfl) rfl))).trans (jC hr b S)))).trans ((au (aD (av ((ar (ae (ab rfl) (ae (ab rfl) rfl))).trans e1) rfl (sW hL)))).trans (aV (vK (ab rfl) hv)))),h.pre⟩
theorem oU:∀ T:List (Int × Int),jT (aC T)=some (T.map λe=>((.inl e.1:KD),e.2))
 | []=>rfl
 | e :: T=>by
  show (jT (aC T)).map _=_
  rw [oU T]
  rfl
theorem eq_nil {t:Nat} (h:dAt S t T):qo S (.ref t) (.dic [])=some (.bl (decide (T=[]))):=by
 have h2:bV S (.dic [])=some []:=rfl
 unfold qo
 simp only [h.dic,h2,oU]
 cases T <;> rfl
structure Lays (b:Int) (xs:List Int) (Ls:List (List Int)):Prop where
 len:Ls.length=xs.length + 1
 mem:∀ i,i<=xs.length->∀ v,v ∈ Ls.getD i []↔v ∈ wiL b (xs.take i)
 up:∀ L ∈ Ls,L.Pairwise (· < ·)
 sm:∀ L ∈ Ls,L.length<=1000
theorem sX (hr:Row xs) (hl:xs.length<=9) (S:Sto):∃ S':Sto,Pre S S'/\((wiL b xs ≠ []/\bz [tupI xs,.int b] S=.ok .non S') \/ (wiL b xs=[]/\∃ Ls,bz [tupI xs,.int b] S=.ok (.lst (Ls.map tupI)) S'/\Lays b xs Ls)):=by
 have z:(1000:Nat)<=sizeLine:=by decide
 obtain ⟨m,P,S1,e1,h⟩:=oT (b:=b) hl S
 obtain ⟨Q,e,hP,hT⟩:=h.last
 have hL:=h.lst
 have hd:=(h.at_ e (by rw [hP]; exact Jw _ (.head _))).1
 have hlast:oIx S1 (.ref m) (.int (-1))=some (.ref e.1):=by
  rw [hP,Qg] at hL
  exact sW hL
 have ht:tV (eOp qo (eOp oIx (ag 2) (eUn ja (eC (.int 1)))) (AJ [])) [some (tupI xs),some (.int b),some (.ref m)] S1=.ok (decide (e.2=[])) S1:=bD (av (av (ab rfl) rfl hlast) rfl (eq_nil hd))
 have hiff:e.2=[]↔wiL b xs=[]:=by
  constructor
  ·intro q
   match hw:wiL b xs with
   | []=>rfl
   | v :: _=>
    obtain ⟨d,hd,_⟩:=(hT.mem v).mpr (by rw [hw]; exact .head _)
    rw [q] at hd; cases hd
  ·intro q
   match hw:e.2 with
   | []=>rfl
   | d :: _=>
    have:=(hT.mem d.1).mp ⟨d,by rw [hw]; exact .head _,rfl⟩
    rw [q] at this; cases this
 have go:∀ {d:D} {S':Sto},eIf (tV (eOp qo (eOp oIx (ag 2) (eUn ja (eC (.int 1)))) (AJ []))) (bB (ud (ag 2)) 1 [] (.nm 0) bZ (eB dF (af (eB rX (af (ag 0) ak)) ak))) (eC .non) [some (tupI xs),some (.int b),some (.ref m)] S1=.ok d S'->bz [tupI xs,.int b] S=.ok d S':=λg=>bo (ρ:=[some (tupI xs),some (.int b),none]) rfl ((au (bg ((ar (ae (ab rfl) (ae (ab rfl) rfl))).trans (Ca hr (by omega) b S)))).trans ((au (aD ((ar (ae (ab rfl) (ae (ab rfl) rfl))).trans e1))).trans (aV g)))
 by_cases c:wiL b xs=[]
 ·rw [Js (hiff.mpr c)] at ht
  have hsz:∀ d ∈ P,d.2.length<=1000:=λd hdP=>by
   obtain ⟨i,hi,rfl⟩:=Zy.mp hdP
   rw [h.len] at hi
   obtain ⟨d,g1,g2⟩:=h.his i (by omega)
   have:P[i]=d:=by rw [Ja (by rw [h.len]; exact hi)] at g1; exact Yd g1
   rw [this]
   have a1:=g2.len
   have a2:=zo b (xs.take i)
   have a3:2 ^ (xs.take i).length<=2 ^ 9:=Qw (by decide) (by rw [Q8]; omega)
   have:(2:Nat) ^ 9=512:=by decide
   omega
  have hf:=zF (m:=ag 2) (r:=[some (tupI xs),some (.int b),some (.ref m)]) (ab rfl) hL
  have hc:=xo (enc:=λd:Nat × List (Int × Int)=>D.ref d.1) (out:=λd=>tupI (wsS d.2)) (e:=eB dF (af (eB rX (af (ag 0) ak)) ak)) (caps:=[]) (tl:=[]) P hf (by have:=h.len; omega) rfl λd hdP=>
   aW (ae (aW (ae (ab rfl) rfl) (uz ((h.at_ d hdP).1.set (Ne.symm (h.at_ d hdP).2.1)) (hsz d hdP))) rfl) kh
  have eM:(P.map λd=>tupI (wsS d.2))=(P.map λd=>wsS d.2).map tupI:=by rw [Zn]; rfl
  rw [eM] at hc
  refine ⟨_,h.pre.set h.low _,.inr ⟨c,P.map λd=>wsS d.2,go ((B7 ht).trans hc),?_⟩⟩
  refine ⟨by rw [Jh]; exact h.len,λi hi v=>?_,λL hL=>?_,λL hL=>?_⟩
  ·obtain ⟨d,g1,g2⟩:=h.his i hi
   rw [Yc,Yx,g1]
   exact kg g2 v
  ·obtain ⟨d,hdP,rfl⟩:=Jv.mp hL
   obtain ⟨i,hi,rfl⟩:=Zy.mp hdP
   rw [h.len] at hi
   obtain ⟨d,g1,g2⟩:=h.his i (by omega)
   have:P[i]=d:=by rw [Ja (by rw [h.len]; exact hi)] at g1; exact Yd g1
   rw [this]
   exact D5 g2.keys
  ·obtain ⟨d,hdP,rfl⟩:=Jv.mp hL
   rw [qE]
   exact hsz d hdP
 ·rw [Jy (λq=>c (hiff.mp q))] at ht
  exact ⟨S1,h.pre,.inl ⟨c,go ((B8 ht).trans rfl)⟩⟩
noncomputable abbrev lwI:SM:=(aA (aI 7 (eOp bb (ag 5) (eOp cx (ag 6) (ag 2)))) (sIf (PD.i8 (tV (eOp oLe (eB gw (af (ag 7) ak)) (ag 3))) (tV (eOp (t6 true) (ag 7) (ag 4)))) (bf (eC (.bl false))) bI))
theorem sY {p:Nat} (hp:S[p]?=some (.dic (fJ B))) {a:Int} (r0 r1:Option D):∀ (K:List Int) (r6 r7:Option D),(∀ q ∈ K,(-1<=q/\q<=1)/\(inB b (a + q * x)=true->a + q * x ∈ B))->∃ a6 a7:Option D,forL (.nm 6) lwI (K.map .int) [r0,r1,some (.int x),some (.int b),some (.ref p),some (.int a),r6,r7] S=.ok (.nx [r0,r1,some (.int x),some (.int b),some (.ref p),some (.int a),a6,a7]) S
 | [],r6,r7,_=>⟨r6,r7,rfl⟩
 | q :: K,r6,r7,h=>by
  obtain ⟨hq,hB⟩:=h q (.head _)
  obtain ⟨a6,a7,e⟩:=sY hp r0 r1 K (some (.int q)) (some (.int (a + q * x))) λy hy=>h y (.tail _ hy)
  rw [Jn]
  have ht:tV (eOp oLe (eB gw (af (ag 7) ak)) (ag 3)) [r0,r1,some (.int x),some (.int b),some (.ref p),some (.int a),some (.int q),some (.int (a + q * x))] S=.ok (inB b (a + q * x)) S:=bD (av (aW (z:=.int (gi (a + q * x))) (ae (ab rfl) rfl) rfl) (ab rfl) rfl)
  have ht2:PD.i8 (tV (eOp oLe (eB gw (af (ag 7) ak)) (ag 3))) (tV (eOp (t6 true) (ag 7) (ag 4))) [r0,r1,some (.int x),some (.int b),some (.ref p),some (.int a),some (.int q),some (.int (a + q * x))] S=.ok false S:=by
   cases c:inB b (a + q * x) with
   | false=>rw [c] at ht; exact uw ht
   | true=>rw [c] at ht; exact (uv ht).trans (bD (av (ab rfl) (ab rfl) (FL hp (hB c))))
  exact ⟨a6,a7,(bu (r1:=[r0,r1,some (.int x),some (.int b),some (.ref p),some (.int a),some (.int q),r7]) rfl ((au (aD (av (ab rfl) (av (ab rfl) (ab rfl) (cO (.inl (sml hq)))) rfl))).trans ((fe ht2).trans rfl))).trans e⟩
theorem sZ {p:Nat} (hp:S[p]?=some (.dic (fJ B))) (r0 r1:Option D):∀ (A:List Int) (r5 r6 r7:Option D),(∀ a ∈ A,∀ q ∈ KS,inB b (a + q * x)=true->a + q * x ∈ B)->∃ a5 a6 a7:Option D,forL (.nm 5) (er (cc (eC (.tup (([(-1),(1)]:List Int).map .int))) bC) (.nm 6) lwI) (A.map .int) [r0,r1,some (.int x),some (.int b),some (.ref p),r5,r6,r7] S=.ok (.nx [r0,r1,some (.int x),some (.int b),some (.ref p),a5,a6,a7]) S
 | [],r5,r6,r7,_=>⟨r5,r6,r7,rfl⟩
 | a :: A,r5,r6,r7,h=>by
  obtain ⟨b6,b7,e1⟩:=sY hp (a:=a) (x:=x) (b:=b) r0 r1 KS r6 r7 λq hq=>⟨by have:=sV hq; omega,h a (.head _) q hq⟩
  obtain ⟨a5,a6,a7,e⟩:=sZ hp r0 r1 A (some (.int a)) b6 b7 λy hy=>h y (.tail _ hy)
  rw [Jn]
  exact ⟨a5,a6,a7,(bu (r1:=[r0,r1,some (.int x),some (.int b),some (.ref p),some (.int a),r6,r7]) rfl ((dy (d:=tupI KS) rfl rfl).trans e1)).trans e⟩
theorem xp (nd:B.Nodup) (hb:B.length<=1000) (hc:∀ a ∈ A,∀ q ∈ KS,inB b (a + q * x)=true->a + q * x ∈ B) (S:Sto):bN [tupI A,tupI B,.int x,.int b] S=.ok (.bl true) (S ++ [.dic (fJ B)]):=by
 have z:(1000:Nat)<=sizeLine:=by decide
 have z2:(2:Nat)<=sizeLine:=by decide
 have h1:=dQ (enc:=D.int) (out:=λv:Int=>D.tup [.int v,.bl true]) (e:=eg (af (ag 0) (af (eC (.bl true)) ak))) (it:=cc (ag 1) bC) (caps:=[]) (tl:=[]) (r:=[some (tupI A),some (tupI B),some (.int x),some (.int b),none,none,none,none]) (S:=S) B (jB rfl rfl) (by omega) rfl λv _=>eG (xs:=[.int v,.bl true]) (ae (ab rfl) (ae rfl rfl)) z2
 have h2:nI S [.lst (B.map λv=>D.tup [.int v,.bl true])]=.ok (.ref S.length) (S ++ [.dic (fJ B)]):=by
  have hm:du [] (fJ B)=fJ B:=zH B [] nd
  unfold nI
  simp only [jR,Ff,hm]
 have hp:(S ++ [SO.dic (fJ B)])[S.length]?=some (.dic (fJ B)):=by simp
 obtain ⟨a5,a6,a7,e⟩:=sZ hp (x:=x) (b:=b) (some (tupI A)) (some (tupI B)) A none none none hc
 exact bo (ρ:=[some (tupI A),some (tupI B),some (.int x),some (.int b),none,none,none,none]) rfl ((au (aD ((uo (ae h1 rfl)).trans h2))).trans ((au ((dy (ab rfl) rfl).trans e)).trans (aV rfl)))
noncomputable abbrev lwE:EM:=(ax bN (af (eOp oIx (ag 2) (ag 0)) (af (eOp oIx (ag 2) (eOp bb (ag 0) (eC (.int 1)))) (af (ag 1) (af (ag 3) ak)))))
theorem uC (hi:i < Ls.length):oIx S (.lst (Ls.map tupI)) (.int (i:Int))=some (tupI (Ls.getD i [])):=by
 have:=mI (xs:=Ls.map tupI) (i:=i) (by rw [Jh]; exact hi)
 rw [List.getElem_map] at this
 rw [Yc,Ja hi]
 exact this
theorem v5 (hup:∀ L ∈ Ls,L.Pairwise (· < ·)) (hsm:∀ L ∈ Ls,L.length<=1000):∀ (xs:List Int) (i:Nat) (S:Sto) (r0 r1:Option D),i + xs.length + 1=Ls.length->(∀ j,(hj:j < xs.length)->∀ a ∈ Ls.getD (i + j) [],∀ q ∈ KS,inB b (a + q * xs[j])=true->a + q * xs[j] ∈ Ls.getD (i + j + 1) [])->
  ∃ S':Sto,dk (.tp [.nm 0,.nm 1]) bZ lwE (PD.numbered i (xs.map .int)) [r0,r1,some (.lst (Ls.map tupI)),some (.int b)] S=.ok (xs.map λ_=>D.bl true) S'/\Pre S S'
 | [],i,S,r0,r1,_,_=>⟨S,rfl,Pre.refl _⟩
 | x :: xs,i,S,r0,r1,hn,hc=>by
  rw [Jm] at hn
  have gm:∀ j,j < Ls.length->Ls.getD j [] ∈ Ls:=λj hj=>by
   rw [Yc,Ja hj]; exact Ws hj
  have h0:=hc 0 (by simp)
  have e2:oIx S (.lst (Ls.map tupI)) (.int ((i:Int) + 1))=some (tupI (Ls.getD (i + 1) [])):=by
   rw [show (i:Int) + 1=((i + 1:Nat):Int) by omega]
   exact uC (by omega)
  have nd:(Ls.getD (i + 1) []).Nodup:=Qs.mpr ((hup _ (gm (i + 1) (by omega))).imp λh=>by omega)
  have ee:lwE [some (.int i),some (.int x),some (.lst (Ls.map tupI)),some (.int b)] S=.ok (.bl true) (S ++ [.dic (fJ (Ls.getD (i + 1) []))]):=
   (ar (ae (av (ab rfl) (ab rfl) (uC (by omega))) (ae (av (ab rfl) (av (ab rfl) rfl rfl) e2) (ae (ab rfl) (ae (ab rfl) rfl))))).trans (xp nd (hsm _ (gm (i + 1) (by omega))) h0 S)
  obtain ⟨S',e,p⟩:=v5 hup hsm xs (i + 1) (S ++ [.dic (fJ (Ls.getD (i + 1) []))]) (some (.int i)) (some (.int x)) (by omega) (λj hj=>by
   have:=hc (j + 1) (by simp; omega)
   rw [show i + (j + 1)=i + 1 + j by omega] at this
   exact this)
  refine ⟨S',?_,(Pre.app _ _).trans p⟩
  rw [Jn,PD.numbered,dk]
  have hp:G.put (.tp [.nm 0,.nm 1]) (.tup [.int (i:Int),.int x]) [r0,r1,some (.lst (Ls.map tupI)),some (.int b)]=some [some (.int i),some (.int x),some (.lst (Ls.map tupI)),some (.int b)]:=rfl
  simp only [hp,bZ,R.bind_ok,Yj,ee,e,Jn]
theorem tf (hr:Row xs) (h9:xs.length<=9) (h:Lays b xs Ls) (hw:wiL b xs=[]) (S:Sto):∃ S':Sto,bW [.lst (Ls.map tupI),tupI xs,.int b] S=.ok (.bl true) S'/\Pre S S':=by
 have z:(1000:Nat)<=sizeLine:=by decide
 have hi:ie S [.lst (Ls.map tupI),.ty "list"]=some (.bl true):=by simp [ie,tyD,gf]
 have hlen:dq S [.lst (Ls.map tupI)]=some (.int Ls.length):=by show some (D.int ((Ls.map tupI).length:Int))=_; rw [Jh]
 have hne:iC S (.int Ls.length) (.int ((xs.length:Int) + 1))=some (.bl false):=by
  rw [y8,Js (by have:=h.len; omega)]; rfl
 have hc1:=dQ (enc:=tupI) (out:=λ_:List Int=>D.bl true) (e:=ax dN (af (ag 0) ak)) (it:=cc (ag 0) bC) (caps:=[]) (tl:=[]) (r:=[some (.lst (Ls.map tupI)),some (tupI xs),some (.int b)]) (S:=S) Ls (jB rfl rfl) (by have:=h.len; omega) rfl λL hL=>(ar (ae (ab rfl) rfl)).trans (xn (h.up L hL) (h.sm L hL) S)
 have ha:gx S [.lst (Ls.map λ_:List Int=>D.bl true)]=some (.bl true):=by
  rw [fI (f:=λ_=>true),Yv.mpr λ_ _=>rfl]
 have hLn:Ls.getD xs.length []=[]:=by
  have hm:=h.mem xs.length (Jb _)
  rw [Q9,hw] at hm
  match hq:Ls.getD xs.length [] with
  | []=>rfl
  | v :: _=>have:=(hm v).mp (by rw [hq]; exact .head _); cases this
 have hlast:oIx S (.lst (Ls.map tupI)) (.int (-1))=some (.tup []):=by
  have hil:xs.length < Ls.length:=by rw [h.len]; omega
  have e:atI (Ls.map tupI) (-1)=(Ls.map tupI)[xs.length]?:=by
   unfold atI ixN
   have hl:(Ls.map tupI).length=xs.length + 1:=by rw [Jh,h.len]
   rw [hl,Jc (by omega),J8 (by omega)]
   show (Ls.map tupI)[((-1:Int) + ((xs.length + 1:Nat):Int)).toNat]?=_
   rw [show ((-1:Int) + ((xs.length + 1:Nat):Int)).toNat=xs.length by omega]
  show atI (Ls.map tupI) (-1)=_
  rw [Yc,Ja hil] at hLn
  have hLn:Ls[xs.length]=[]:=hLn
  rw [e,Yx,Ja hil]
  show some (tupI Ls[xs.length])=_
  rw [hLn]; rfl
 have hnt:iC S (.tup []) (.tup [])=some (.bl false):=rfl
 have ht0:PD.i8 (tV (eOp oGe (ag 2) (eC (.int 0)))) (tV (eOp (oIn true) (eC (.int 0)) (eOp oIx (ag 0) (eC (.int 0))))) [some (.lst (Ls.map tupI)),some (tupI xs),some (.int b)] S=.ok false S:=by
  have hg:tV (eOp oGe (ag 2) (eC (.int 0))) [some (.lst (Ls.map tupI)),some (tupI xs),some (.int b)] S=.ok (decide ((0:Int)<=b)) S:=bD (av (ab rfl) rfl rfl)
  by_cases c:(0:Int)<=b
  ·rw [Js c] at hg
   have hx0:oIx S (.lst (Ls.map tupI)) (.int 0)=some (tupI (Ls.getD 0 [])):=uC (i:=0) (by rw [h.len]; omega)
   have h0:(0:Int) ∈ Ls.getD 0 []:=(h.mem 0 (Y3 _) 0).mpr (by
    rw [Us,vF]
    exact Y2.mpr ⟨.head _,by unfold inB gi; simpa using c⟩)
   refine (uv hg).trans (bD (av rfl (av (ab rfl) rfl hx0) ?_))
   rw [D4,Js h0]; rfl
  ·rw [Jy c] at hg
   exact uw hg
 have hc:∀ j,(hj:j < xs.length)->∀ a ∈ Ls.getD (0 + j) [],∀ q ∈ KS,inB b (a + q * xs[j])=true->a + q * xs[j] ∈ Ls.getD (0 + j + 1) []:=λj hj a ha q hq hb=>by
  rw [Nat.zero_add] at ha ⊢
  have hwa:=(h.mem j (by omega) a).mp ha
  rw [h.mem (j + 1) hj,U0,Ja hj]
  show _ ∈ wiL b (xs.take j ++ [xs[j]])
  rw [<- sF]
  exact Y2.mpr ⟨zh.mpr ⟨a,hwa,q,hq,rfl⟩,hb⟩
 obtain ⟨S2,e2,p2⟩:=v5 (b:=b) h.up h.sm xs 0 S none none (by rw [h.len]; omega) hc
 have hen:rK (af (ag 1) ak) [some (.lst (Ls.map tupI)),some (tupI xs),some (.int b)] S=.ok (PD.numbered 0 (xs.map .int)) S:=by
  unfold rK
  rw [ae (ab rfl) rfl,R.bind_ok]
  rfl
 have hc2:bB (rK (af (ag 1) ak)) 2 [0,2] (.tp [(.nm 0),(.nm 1)]) bZ lwE [some (.lst (Ls.map tupI)),some (tupI xs),some (.int b)] S=.ok (.lst (xs.map λ_=>D.bl true)) S2:=by
  unfold bB
  rw [hen,R.bind_ok,J8 (by rw [kl,Jh]; omega)]
  have:eY 2 [0,2] [some (D.lst (Ls.map tupI)),some (tupI xs),some (.int b)]=[none,none,some (.lst (Ls.map tupI)),some (.int b)]:=rfl
  rw [this,e2,R.bind_ok]
 have ha2:gx S2 [.lst (xs.map λ_:Int=>D.bl true)]=some (.bl true):=by
  rw [fI (f:=λ_=>true),Yv.mpr λ_ _=>rfl]
 refine ⟨S2,?_,p2⟩
 refine bo (ρ:=[some (.lst (Ls.map tupI)),some (tupI xs),some (.int b)]) rfl ?_
 refine (au (bg ((ar (ae (ab rfl) (ae (ab rfl) rfl))).trans (Ca hr (by omega) b S)))).trans ?_
 refine (au ((fe ((js (ft (b:=true) (bD (aW (ae (ab rfl) (ae rfl rfl)) hi)))).trans (bD (av (aW (ae (ab rfl) rfl) hlen) (av (aW (ae (ab rfl) rfl) fu) rfl rfl) hne)))).trans rfl)).trans ?_
 refine (au ((fe ((js (ft (b:=true) (bD (aW (ae hc1 rfl) ha)))).trans (bD (av (av (ab rfl) rfl hlast) (eG (xs:=[]) rfl (Y3 _)) hnt)))).trans rfl)).trans ?_
 refine (au ((fe ht0).trans rfl)).trans ?_
 exact aV (aW (ae hc2 rfl) ha2)
noncomputable def lsg (a:Int):Int:=if 0 < a then -1 else 1
noncomputable def lean:List Int->Int->List Int
 | [],_=>[]
 | x :: xs,a=>lsg a :: lean xs (a + lsg a * x)
theorem nk:∀ (xs:List Int) (a:Int),(lean xs a).length=xs.length
 | [],_=>rfl
 | x :: xs,a=>by show (lean xs _).length + 1=xs.length + 1; rw [nk]
theorem zK (a:Int):lsg a=1 \/ lsg a = -1:=by unfold lsg; split <;> simp
theorem xq (a:Int):cI (lsg a):=by rcases zK a with e | e <;> (rw [e]; decide)
theorem qF:∀ (xs:List Int) (a:Int),∀ s ∈ lean xs a,s=1 \/ s = -1
 | [],_,s,h=>by cases h
 | x :: xs,a,s,h=>by
  rcases Jg.mp h with rfl | h
  ·exact zK a
  ·exact qF xs _ s h
theorem qG (S:Sto) (o:SO):(S ++ [o])[S.length]?=some o:=by simp
theorem zL (S:Sto) (o p:SO):(S ++ [o]).set S.length p=S ++ [p]:=by simp
noncomputable abbrev leB:SM:=(aA (aI 4 (eIf (tV (eOp oGt (ag 2) (eC (.int 0)))) (eUn ja (eC (.int 1))) (eC (.int 1)))) (aA (cj (ly cK (ag 1) (af (ag 4) ak))) (aI 2 (eOp bb (ag 2) (eOp cx (ag 4) (ag 3))))))
theorem v7 (S:Sto) (r0:Option D):∀ (xs:List Int) (a:Int) (acc:List Int) (r3 r4:Option D),acc.length + xs.length<=1000->∃ (a':Int) (b3 b4:Option D),forL (.nm 3) leB (xs.map .int) [r0,some (.ref S.length),some (.int a),r3,r4] (S ++ [.lst (acc.map .int)])=.ok (.nx [r0,some (.ref S.length),some (.int a'),b3,b4]) (S ++ [.lst ((acc ++ lean xs a).map .int)])
 | [],a,acc,r3,r4,_=>⟨a,r3,r4,by show R.ok _ _=_; rw [show lean [] a=[] from rfl,Yu]⟩
 | x :: xs,a,acc,r3,r4,hl=>by
  rw [Jm] at hl
  obtain ⟨a',b3,b4,e⟩:=v7 S r0 xs (a + lsg a * x) (acc ++ [lsg a]) (some (.int x)) (some (.int (lsg a))) (by rw [Jo,Zt]; omega)
  have hi:∀ S1:Sto,eIf (tV (eOp oGt (ag 2) (eC (.int 0)))) (eUn ja (eC (.int 1))) (eC (.int 1)) [r0,some (.ref S.length),some (.int a),some (.int x),r4] S1=.ok (.int (lsg a)) S1:=λS1=>by
   have ht:tV (eOp oGt (ag 2) (eC (.int 0))) [r0,some (.ref S.length),some (.int a),some (.int x),r4] S1=.ok (decide (0 < a)) S1:=bD (av (ab rfl) rfl rfl)
   unfold lsg
   by_cases h:0 < a
   ·rw [Js h] at ht
    rw [B7 ht,J8 h]; rfl
   ·rw [Jy h] at ht
    rw [B8 ht,Jc h]; rfl
  have z:(1000:Nat) < sizeLine:=by decide
  have ha:=kN (v:=.int (lsg a)) (qG S (.lst (acc.map .int))) (by rw [Jh]; omega)
  rw [zL] at ha
  have eL:(acc ++ lean (x :: xs) a)=(acc ++ [lsg a]) ++ lean xs (a + lsg a * x):=by
   show acc ++ (lsg a :: lean xs (a + lsg a * x))=_
   rw [Y7]; rfl
  have eM:(acc.map D.int ++ [.int (lsg a)])=(acc ++ [lsg a]).map D.int:=by rw [Qg]; rfl
  rw [eM] at ha
  rw [eL]
  exact ⟨a',b3,b4,(bu (r1:=[r0,some (.ref S.length),some (.int a),some (.int x),r4]) rfl ((au (aD (hi _))).trans ((au (bg ((lS (ab rfl) (qq (qG S _)) (ae (ab rfl) rfl)).trans ha))).trans (aD (av (ab rfl) (av (ab rfl) (ab rfl) (cO (.inl (xq a)))) rfl))))).trans e⟩
theorem BJ {f:Nat} {xs:List D} (h:S[f]?=some (.lst xs)):dF S [.ref f]=some (.tup xs):=by
 show (bS S (.ref f)).map D.tup=_
 unfold bS
 simp only [h,Zs]
theorem BK (r:Rho) (S:Sto):eNew ak r S=.ok (.ref S.length) (S ++ [.lst []]):=by
 have z0:(0:Nat)<=sizeLine:=Y3 _
 unfold eNew
 show (if 0<=sizeLine then R.ok (D.ref S.length) (S ++ [SO.lst []]) else R.bad)=_
 exact J8 z0
theorem BL (h:Row xs) (S:Sto):eR [.tup (xs.map .int)] S=.ok (.tup ((lean xs 0).map .int)) (S ++ [.lst ((lean xs 0).map .int)]):=by
 obtain ⟨a',b3,b4,e⟩:=v7 S (some (.tup (xs.map .int))) xs 0 [] none none (by have:=h.2; show 0 + xs.length<=1000; omega)
 rw [Z4] at e
 exact bo (ρ:=[some (.tup (xs.map .int)),none,none,none,none]) rfl ((au (bg ((ar (ae (ab rfl) rfl)).trans (cS h S)))).trans ((au (aD (BK _ S))).trans ((au (aD rfl)).trans ((au ((dy (ab rfl) rfl).trans e)).trans (aV (aW (ae (ab rfl) rfl) (BJ (qG S _))))))))
theorem qH:∀ (n:Nat) {p:List Int},Sg n p->p ∈ allS n
 | 0,p,h=>by
  have:p=[]:=Za.mp h.1
  rw [this]; exact .head _
 | n + 1,p,h=>by
  have hne:p ≠ []:=λe=>by have:=h.1; rw [e] at this; cases this
  have e:=Wp hne
  rw [<- e]
  refine iL (qH n ⟨by rw [List.length_dropLast,h.1]; rfl,λs hs=>h.2 s (List.dropLast_subset _ hs)⟩) ?_
  rcases h.2 _ (List.getLast_mem hne) with q | q <;> rw [q] <;> decide
def Zg (zs:List (Int × Int)):Prop:=∀ z ∈ zs,0<=z.1/\(z.2=1 \/ z.2 = -1)
theorem Zg.of (hx:∀ x ∈ xs,1<=x) (h:Sg xs.length p):Zg (xs.zip p):=λz hz=>by
 obtain ⟨h1,h2⟩:=Wz hz
 exact ⟨by have:=hx _ h1; omega,h.2 _ h2⟩
theorem zM (h:q=1 \/ q = -1):x * q=x \/ x * q = -x:=by rcases h with rfl | rfl <;> omega
theorem qI (g h:Int):gi h<=mx g h:=by
 unfold mx gi
 split <;> omega
theorem zN:∀ (zs:List (Int × Int)) (a g:Int),gi a<=g->gi (gI zs a)<=swg zs a g
 | [],a,g,h=>h
 | z :: zs,a,g,h=>zN zs (a + z.1 * z.2) _ (qI _ _)
theorem v8:∀ (zs:List (Int × Int)) (a g:Int),Zg zs->gi a<=g->∀ z ∈ zs,z.1<=2 * swg zs a g
 | y :: zs,a,g,hz,h,z,hm=>by
  have h1:=um zs (a + y.1 * y.2) (mx g (a + y.1 * y.2))
  rcases Jg.mp hm with rfl | hm
  ·show z.1<=2 * swg zs (a + z.1 * z.2) (mx g (a + z.1 * z.2))
   have h2:=qI g (a + z.1 * z.2)
   have h3:=zp g (a + z.1 * z.2)
   have h4:=(hz z (.head _)).1
   unfold gi at h h2
   rcases zM (x:=z.1) (hz z (.head _)).2 with e | e <;> rw [e] at h1 h2 h3 ⊢ <;> (split at h <;> split at h2 <;> omega)
  ·exact v8 zs _ _ (λw hw=>hz w (.tail _ hw)) (qI _ _) z hm
theorem zO:∀ (zs:List (Int × Int)) (a g:Int),Zg zs->gi a<=g->swg zs a g<=g + (zs.map (·.1)).sum
 | [],a,g,_,_=>by show g<=g + 0; omega
 | y :: zs,a,g,hz,h=>by
  have h1:=zO zs (a + y.1 * y.2) (mx g (a + y.1 * y.2)) (λw hw=>hz w (.tail _ hw)) (qI _ _)
  have h4:=(hz y (.head _)).1
  have h2:mx g (a + y.1 * y.2)<=g + y.1:=by
   unfold gi at h
   unfold mx
   rcases zM (x:=y.1) (hz y (.head _)).2 with e | e <;> rw [e] <;> (split at h <;> split <;> split <;> omega)
  show swg zs _ _<=_
  rw [Jn,Q6]
  omega
theorem qJ:∀ (xs ss:List Int) (a g:Int),swg (xs.zip (ss.map λs=>-s)) (-a) g=swg (xs.zip ss) a g
 | [],_,_,_=>rfl
 | _ :: _,[],_,_=>rfl
 | x :: xs,s :: ss,a,g=>by
  have e:-a + x * -s = -(a + x * s):=by rw [Int.mul_neg]; omega
  have e2:mx g (-(a + x * s))=mx g (a + x * s):=by
   unfold mx
   split <;> split <;> first | omega | (split <;> first | omega | (split <;> omega))
  show swg (xs.zip (ss.map λs=>-s)) (-a + x * -s) (mx g (-a + x * -s))=swg (xs.zip ss) (a + x * s) (mx g (a + x * s))
  rw [e,e2]
  exact qJ xs ss _ _
theorem qK {H:Int}:∀ (xs:List Int) (a g:Int),(∀ x ∈ xs,0<=x/\x<=H)->gi a<=H->g<=H->swg (xs.zip (lean xs a)) a g<=H
 | [],_,_,_,_,h=>h
 | x :: xs,a,g,hx,ha,hg=>by
  have h1:=hx x (.head _)
  have h2:gi (a + x * lsg a)<=H:=by
   unfold gi at ha ⊢
   unfold lsg
   split at ha <;> split <;> split <;> omega
  have e:a + lsg a * x=a + x * lsg a:=by rw [Wq]
  show swg (xs.zip (lean xs (a + lsg a * x))) (a + x * lsg a) (mx g (a + x * lsg a))<=H
  rw [e]
  refine qK xs _ _ (λy hy=>hx y (.tail _ hy)) h2 ?_
  unfold mx
  unfold gi at h2
  split <;> omega
theorem zP:∀ (xs p:List Int) (a:Int),gI (xs.zip p) a=a + wor xs p
 | [],p,a=>by show a=a + wor [] p; unfold wor; omega
 | _ :: _,[],a=>by show a=a + 0; omega
 | x :: xs,q :: p,a=>by
  show gI (xs.zip p) (a + x * q)=a + (x * q + wor xs p)
  rw [zP xs p]; omega
theorem D6 {A:Type} {l:List A} {a b:A} (ha:a ∈ l) (hb:b ∈ l) (h:a ≠ b):2<=l.length:=by
 match l,ha,hb with
 | [x],ha,hb=>exact absurd ((Jf.mp ha).trans (Jf.mp hb).symm) h
 | _ :: _ :: _,_,_=>simp
theorem v9 (hp:p ∈ allS xs.length) (h:swO xs p<=b):wiL b xs ≠ []:=λe=>by
 have:wr xs p ∈ wiL b xs:=Jv.mpr ⟨p,Y2.mpr ⟨hp,Js h⟩,rfl⟩
 rw [e] at this; cases this
theorem D7 {m:Int} (hm:IsL xs m) (h:b < m):wiL b xs=[]:=by
 unfold wiL
 rw [List.map_eq_nil_iff,List.filter_eq_nil_iff]
 intro p hp hd
 have:=hm.2 p hp
 have:=Yy hd
 omega
theorem zQ (hx:∀ x ∈ xs,1<=x):(wiL xs.sum xs).length=2 ^ xs.length:=by
 unfold wiL
 rw [Jh,List.filter_eq_self.mpr λp hp=>?_,j9]
 have hs:=fW _ p hp
 have h1:=zO (xs.zip p) 0 0 (Zg.of hx hs) (Yo _)
 have h2:(xs.zip p).map (·.1)=xs:=List.map_fst_zip (by rw [hs.1]; exact Jb _)
 rw [h2] at h1
 have h1:swO xs p<=0 + xs.sum:=h1
 exact Js (by omega)
theorem BM (h:Sg xs.length ss) (hne:xs ≠ []):2<=(wiL (swO xs ss) xs).length:=by
 unfold wiL
 rw [Jh]
 have hn:Sg xs.length (ss.map λs=>-s):=⟨by rw [Jh]; exact h.1,λs hs=>by
  obtain ⟨t,ht,rfl⟩:=Jv.mp hs
  rcases h.2 t ht with e | e <;> omega⟩
 refine D6 (Y2.mpr ⟨qH _ h,Js (Yo _)⟩) (Y2.mpr ⟨qH _ hn,Js (Int.le_of_eq (qJ xs ss 0 0))⟩) λe=>?_
 match ss,h,e with
 | [],h,_=>exact hne (Za.mp h.1.symm)
 | s :: ss,h,e=>
  have e1:s = -s:=(List.cons.inj e).1
  have:=h.2 s (.head _)
  omega
theorem nJ (hx:∀ x ∈ xs,1<=x) {m:Int} (hm:IsL xs m):m<=gg 0 xs/\gg 0 xs<=2 * m:=by
 have hH:=iX xs 0
 constructor
 ·have h1:=hm.2 _ (qH _ ⟨nk xs 0,λs hs=>qF xs 0 s hs⟩)
  have h2:swO xs (lean xs 0)<=gg 0 xs:=qK xs 0 0 (λx hxm=>⟨by have:=hx x hxm; omega,hH.1.2 x hxm⟩) hH.1.1 hH.1.1
  omega
 ·obtain ⟨⟨p,hp,rfl⟩,_⟩:=hm
  have hs:=fW _ p hp
  rcases hH.2 with e | e
  ·rw [e]; have:=zr xs p; omega
  ·generalize gg 0 xs=H at *
   have h2:(xs.zip p).map (·.1)=xs:=List.map_fst_zip (by rw [hs.1]; exact Jb _)
   rw [<- h2] at e
   obtain ⟨z,hz,rfl⟩:=Jv.mp e
   exact v8 _ 0 0 (Zg.of hx hs) (Yo _) z hz
theorem Fg {m u:Int} (hm:IsL xs m) (hu:D2 xs 0 (some u)):u<=m:=by
 obtain ⟨⟨p,hp,rfl⟩,_⟩:=hm
 have hs:=fW _ p hp
 have h1:=zN (xs.zip p) 0 0 (Yo _)
 rw [zP,Int.zero_add] at h1
 have h1:gi (wor xs p)<=swO xs p:=h1
 have hw:Wo KS xs (wor xs p):=(qr _ _).mpr ⟨p,⟨hs.1,λq hq=>by rcases hs.2 q hq with e | e <;> rw [e] <;> decide⟩,rfl⟩
 unfold gi at h1
 split at h1
 ·have:=hu.2.2 _ (zA hw) (by omega)
  omega
 ·have:=hu.2.2 _ hw (by omega)
  omega
theorem uD {m n:Int} (hm:IsL xs m) (hn:IsL (xs ++ [x]) n):m<=n:=by
 obtain ⟨⟨p,hp,rfl⟩,_⟩:=hn
 rw [Jo] at hp
 obtain ⟨p0,q,rfl,hp0,hq⟩:=kf hp
 rw [lT (cJ hp0)]
 exact Z7 (hm.2 p0 hp0) (zp _ _)
structure Sim (d:D) (p:PyData):Prop where
 py:toPy d=some p
 lay:p.canLay0=true
 dep:p.depth<=3
theorem D8:∀ {ds:List D} {f:D->PyData},(∀ d ∈ ds,Sim d (f d))->eN ds=some (ds.map f)/\PyData.canLayAll0 (ds.map f)=true/\PyData.depthAll (ds.map f)<=3
 | [],f,_=>⟨rfl,rfl,by show 0<=3; omega⟩
 | d :: ds,f,h=>by
  have h1:=h d Ye
  obtain ⟨a,b,c⟩:=D8 (ds:=ds) (f:=f) λx hx=>h x (Yb _ hx)
  refine ⟨by unfold eN; rw [h1.py,a]; rfl,by unfold List.map PyData.canLayAll0; rw [h1.lay,b]; rfl,?_⟩
  have:=h1.dep
  unfold List.map PyData.depthAll
  omega
theorem oV {p:PyData} (h:p.canLay0=true) (hd:p.depth<=64):SeqAt.shaped p=true:=by
 unfold SeqAt.shaped; rw [h,Js hd]; rfl
theorem BN {xs ys:List D} {f:D->PyData} (hx:∀ d ∈ xs,Sim d (f d)) (hy:∀ d ∈ ys,Sim d (f d)):eqP (.tup xs) (.tup ys)=some (PyData.eqvAll (xs.map f) (ys.map f)):=by
 obtain ⟨a,b,c⟩:=D8 hx
 obtain ⟨a',b',c'⟩:=D8 hy
 have e1:toPy (.tup xs)=some (.tuple (xs.map f)):=by unfold toPy; rw [a]; rfl
 have e2:toPy (.tup ys)=some (.tuple (ys.map f)):=by unfold toPy; rw [a']; rfl
 have s1:SeqAt.shaped (.tuple (xs.map f))=true:=oV (by unfold PyData.canLay0; exact b) (by unfold PyData.depth; omega)
 have s2:SeqAt.shaped (.tuple (ys.map f))=true:=oV (by unfold PyData.canLay0; exact b') (by unfold PyData.depth; omega)
 unfold eqP
 have e0:eqS (.tup xs) (.tup ys)=none:=rfl
 rw [e0,e1,e2]
 simp only [s1,s2,and_self,Yj]
 rw [PyData.eqv]
noncomputable def pyI:D->PyData
 | .int i=>.int i
 | .tup [.int i,.int j]=>.tuple [.int i,.int j]
 | _=>.none
theorem Fh (i:Int):pyI (.int i)=PyData.int i:=rfl
theorem BO (i:Int):Sim (.int i) (pyI (.int i)):=⟨rfl,rfl,by show 0<=3; omega⟩
theorem tj {is:List Int}:∀ d ∈ is.map D.int,Sim d (pyI d):=λd hd=>by
 obtain ⟨i,_,rfl⟩:=Jv.mp hd
 exact BO i
theorem tm:∀ (xs ys:List Int),PyData.eqvAll ((xs.map D.int).map pyI) ((ys.map D.int).map pyI)=decide (xs=ys)
 | [],[]=>by simp [PyData.eqvAll]
 | [],y :: ys=>by simp [PyData.eqvAll]
 | x :: xs,[]=>by simp [PyData.eqvAll]
 | x :: xs,y :: ys=>by
  simp only [Jn,PyData.eqvAll,tm xs ys,Fh,PyData.eqv]
  rw [Qf]
  simp
theorem xr (xs ys:List Int):eqP (.tup (xs.map .int)) (.tup (ys.map .int))=some (decide (xs=ys)):=by
 rw [BN tj tj,tm]
noncomputable abbrev sgE:EM:=(eOp i9 (eOp cx (eC (.int 2)) (ax aS (af (ag 1) (af (eC (.int 2)) ak)))) (eC (.int 1)))
theorem wa {b:Nat}:∀ (l:List Nat) (S:Sto) (r0:Option D),Gr b S S->∃ (ss:List Int) (S':Sto),dk (.nm 0) bZ sgE (l.map λ(i:Nat)=>D.int i) [r0,some (.ref b)] S=.ok (ss.map .int) S'/\ss.length=l.length/\(∀ s ∈ ss,s=1 \/ s = -1)/\Gr b S S'
 | [],S,r0,g=>⟨[],S,rfl,rfl,λs h=>(by cases h),g⟩
 | i :: l,S,r0,g=>by
  obtain ⟨q,S1,e1,q0,q1,g1⟩:=i4 g (many:=2) (by decide) (by decide)
  obtain ⟨ss,S2,e2,h1,h2,g2⟩:=wa l S1 (some (.int i)) g1.self
  refine ⟨(2 * q - 1) :: ss,S2,?_,by rw [Jm,Jm,h1],λs hs=>?_,g1.trans g2⟩
  ·have he:sgE [some (.int i),some (.ref b)] S=.ok (.int (2 * q - 1)) S1:=av (av rfl ((ar (ae (ab rfl) (ae rfl rfl))).trans e1) (cO (.inl (by decide)))) rfl rfl
   rw [Jn,dk]
   simp only [G.put,Yh,bZ,R.bind_ok,Yj,he,e2,Jn]
  ·rcases Jg.mp hs with rfl | hs
   ·omega
   ·exact h2 s hs
theorem zR {b:Nat} (g:Gr b S S) (hn:n<=100):∃ (ss:List Int) (S':Sto),ef [.ref b,.int n] S=.ok (.tup (ss.map .int)) S'/\ss.length=n/\(∀ s ∈ ss,s=1 \/ s = -1)/\Gr b S S':=by
 obtain ⟨ss,S',e,h1,h2,g'⟩:=wa (List.range n) S none g
 rw [Ui] at h1
 refine ⟨ss,S',?_,h1,h2,g'⟩
 have z:(100:Nat)<=sizeLine:=by decide
 have hr:cU (af (ag 1) ak) [some (.ref b),some (.int n)] S=.ok ((List.range n).map λ(i:Nat)=>D.int i) S:=mY (ae (ab rfl) rfl) (by omega)
 have hc:bB (cU (af (ag 1) ak)) 1 [0] (.nm 0) bZ sgE [some (.ref b),some (.int n)] S=.ok (.lst (ss.map .int)) S':=by
  unfold bB
  rw [hr,R.bind_ok,J8 (by rw [Jh,Ui]; omega)]
  have:eY 1 [0] [some (D.ref b),some (.int n)]=[none,some (.ref b)]:=rfl
  rw [this,e,R.bind_ok]
 exact bo (ρ:=[some (.ref b),some (.int n)]) rfl (aV (aW (ae hc rfl) rfl))
theorem BP (ns:List Int) (c:Nat) (hn:ns.length<=63) (hc:1<=c/\c<=63) (r:Rho) (hr:r[0]?=some (some (.fz (ns.map .int)))) (S:Sto):∃ n:Nat,cU (af (eB mG (af (eC (.int 1)) (af (eB pO (af (eB dq (af (ag 0) ak)) (af (eC (.int c)) ak))) ak))) ak) r S=.ok ((List.range n).map (λ(i:Nat)=>D.int i)) S/\n<=c:=by
 refine ⟨max 1 (min ns.length c),mY ?_ (by omega),by omega⟩
 have e:(if (1:Int) < (if (c:Int) < (ns.length:Int) then (c:Int) else (ns.length:Int)) then (if (c:Int) < (ns.length:Int) then (c:Int) else (ns.length:Int)) else 1)=((max 1 (min ns.length c):Nat):Int):=by
  split <;> split <;> omega
 rw [<- e]
 simp [af,ak,eB,eC,ag,R.bind,R.of,hr,dq,bS,pO,mG]
theorem BQ {j:Nat} {x y:D} (h:t r S=.ok [x,y] S1):Az i j t r S=.ok (.nx ((r.set i (some x)).set j (some y))) S1:=by unfold Az; rw [h,R.bind_ok]
theorem xt {f g:Sto->D->D->Option D} {b c:EM} {x y z w:D} (ha:a r S=.ok x S1) (hb:b r S1=.ok y S2) (hf:f S2 x y=some (.bl true)) (hc:c r S2=.ok z S3) (hg:g S3 y z=some w):gQ f g a b c r S=.ok w S3:=by
 unfold gQ
 rw [ha,R.bind_ok,hb,R.bind_ok]
 simp only [hf]
 rw [hc,R.bind_ok,hg]
 rfl
theorem qL (S:Sto) (i:Int):iC S (.int i) (.int i)=some (.bl false):=by rw [y8,Js rfl]; rfl
theorem Fi {i:Int} (h:i<=j):oLe S (.int i) (.int j)=some (.bl true):=by show some (D.bl (decide (i<=j)))=_; rw [Js h]
theorem D9 {i:Int} (h:j<=i):oLt S (.int i) (.int j)=some (.bl false):=by show some (D.bl (decide (i < j)))=_; rw [Jy (by omega)]
theorem FN {i:Int} (h:i<=j):oGt S (.int i) (.int j)=some (.bl false):=by show some (D.bl (decide (j < i)))=_; rw [Jy (by omega)]
theorem z1':(1:Nat)<=sizeLine:=by decide
theorem tq {row:List Int} (hr:Row row) (h9:row.length<=9) {m:Int} (hm:IsL row m) (S:Sto):∃ S':Sto,bX [tupI row] S=.ok (.bl true) S'/\Pre S S':=by
 have z:(1000:Nat)<=sizeLine:=by decide
 obtain ⟨b1,b2⟩:=nJ hr.1 hm
 have hlw:swO row (lean row 0)<=gg 0 row:=qK row 0 0 (λx hx=>⟨by have:=hr.1 x hx; omega,(iX row 0).1.2 x hx⟩) (iX row 0).1.1 (iX row 0).1.1
 obtain ⟨S1,m',e1,hm',p1⟩:=iN h9 hr S
 have:=hm'.uniq hm
 subst this
 have hmx:se S1 [tupI (0 :: row)]=some (.int (gg 0 row)):=by
  have h1:bS S1 (tupI (0 :: row))=some ((0 :: row).map .int):=rfl
  unfold se
  simp only [h1,g8]
 have hadd:bb S1 (.tup [.int 0]) (tupI row)=some (tupI (0 :: row)):=uj (a:=[.int 0]) (by rw [Jh]; show 1 + row.length<=sizeLine; omega)
 generalize gg 0 row=H at *
 obtain ⟨S2,c,e2,hc,sc,p2⟩:=vU h9 hr hm S1
 have sgc:=fW _ c hc
 have e3:=iO hr sgc S2
 rw [sc] at e3
 obtain ⟨S3,u,e4,p3,hu⟩:=xl (by omega) hr S2
 have hum:=Fg hm hu
 have hd2:jk S3 (.int (H + 1)) (.int 2)=some (.int ((H + 1) / 2)):=by
  show (if (0:Int) < 2/\(2:Int) < 1073741824 then some (D.int ((H + 1) / 2)) else none)=_
  rw [J8 (by decide)]
 have hmax:(if (H + 1) / 2 > u then (H + 1) / 2 else u)<=m':=by split <;> omega
 have e5:=BL hr S3
 generalize hS4:S3 ++ [SO.lst ((lean row 0).map .int)]=S4 at e5
 have p4:Pre S3 S4:=by rw [<- hS4]; exact Pre.app _ _
 have sgl:Sg row.length (lean row 0):=⟨nk row 0,λs hs=>qF row 0 s hs⟩
 have e6:=iO hr sgl S4
 obtain ⟨S5,c2,e7,hc2,sc2,p5⟩:=vU h9 hr hm S4
 have sg2:=fW _ c2 hc2
 have e8:=oS hr sg2 S5
 have sg3:Sg row.length (c2.map λs=>-s):=⟨by rw [Jh]; exact sg2.1,λs hs=>by
  obtain ⟨t,ht,rfl⟩:=Jv.mp hs
  rcases sg2.2 t ht with e | e <;> omega⟩
 have e9:=iO hr sg3 S5
 have e9':swO row (c2.map λs=>-s)=m':=(qJ row c2 0 0).trans sc2
 rw [e9'] at e9
 obtain ⟨S6,e10,p6⟩:=lU (b:=m') hr h9 S5
 have w1:1<=(wiL m' row).length:=List.length_pos_iff.mpr (v9 hc (by omega))
 obtain ⟨S7,e11,p7⟩:=lU (b:=m' - 1) hr h9 S6
 have w0:wiL (m' - 1) row=[]:=D7 hm (by omega)
 rw [w0] at e11
 obtain ⟨S8,p8,⟨_,e12⟩ | ⟨c8,_⟩⟩:=sX (b:=m') hr h9 S7
 ·obtain ⟨S9,p9,⟨c9,_⟩ | ⟨_,Ls,e13,hLs⟩⟩:=sX (b:=m' - 1) hr h9 S8
  ·exact absurd w0 c9
  ·obtain ⟨S10,e14,p10⟩:=tf hr h9 hLs w0 S9
   obtain ⟨S11,e15,p11⟩:=lU (b:=row.sum) hr h9 S10
   rw [zQ hr.1] at e15
   have hsh:nC S11 (.int 1) (.int row.length)=some (.int ((2 ^ row.length:Nat):Int)):=by
    have:nC S11 (.int 1) (.int row.length)=some (.int (1 * 2 ^ (row.length:Int).toNat)):=J8 ⟨by omega,by omega,by decide⟩
    rw [this,Int.one_mul,Wh]
    congr 2
   have heq:jw S11 (.int ((2 ^ row.length:Nat):Int)) (.int ((2 ^ row.length:Nat):Int))=some (.bl true):=by rw [y9,Js rfl]
   refine ⟨S11,bo (ρ:=[some (tupI row),none,none,none]) rfl ?_,((((((((((p1.trans p2).trans p3).trans p4).trans p5).trans p6).trans p7).trans p8).trans p9).trans p10).trans p11)⟩
   refine (au (BQ (ae ((ar (ae (ab rfl) rfl)).trans e1) (ae (aW (ae (av (eG (xs:=[.int 0]) rfl z1') (ab rfl) hadd) rfl) hmx) rfl)))).trans ?_
   refine (au ((fe ((js (bD (av ((ar (ae (ab rfl) (ae ((ar (ae (ab rfl) rfl)).trans e2) rfl))).trans e3) (ab rfl) (qL S2 m')))).trans (ft (b:=true) (bD (xt (aW (ae ((ar (ae (ab rfl) rfl)).trans e4) (ae (av (av (ab rfl) rfl rfl) rfl hd2) rfl)) rfl) (ab rfl) (Fi hmax) (ab rfl) (Fi b1)))))).trans rfl)).trans ?_
   refine (au ((fe ((js (bD (av ((ar (ae (ab rfl) (ae ((ar (ae (ab rfl) rfl)).trans e5) rfl))).trans e6) (ab rfl) (FN hlw)))).trans (bD (av ((ar (ae (ab rfl) (ae ((ar (ae (ab rfl) (ae ((ar (ae (ab rfl) rfl)).trans e7) rfl))).trans e8) rfl))).trans e9) (ab rfl) (qL S5 m'))))).trans rfl)).trans ?_
   refine (au ((fe ((js (bD (av ((ar (ae (ab rfl) (ae (ab rfl) rfl))).trans e10) rfl (D9 (by omega))))).trans ((js (bD (av ((ar (ae (ab rfl) (ae (av (ab rfl) rfl rfl) rfl))).trans e11) rfl rfl))).trans (bD (av ((ar (ae (ab rfl) (ae (ab rfl) rfl))).trans e12) rfl rfl))))).trans rfl)).trans ?_
   refine (au (aD ((ar (ae (ab rfl) (ae (av (ab rfl) rfl rfl) rfl))).trans e13))).trans ?_
   refine (au ((fe ((js (bD (av (ab rfl) rfl rfl))).trans (bD (av ((ar (ae (ab rfl) (ae (ab rfl) (ae (av (ab rfl) rfl rfl) rfl)))).trans e14) rfl rfl)))).trans rfl)).trans ?_
   exact aV (av ((ar (ae (ab rfl) (ae (aW (ae (ab rfl) rfl) DP) rfl))).trans e15) (av rfl (aW (ae (ab rfl) rfl) fu) hsh) heq)
 ·exact absurd c8 (v9 hc (by omega))
noncomputable abbrev Fj:SM:=(aA (aI 2 (ax dG (af (ag 0) (af (ag 1) ak)))) (aA (aI 3 (ax fH (af (ag 2) (af (eC (.int 8)) ak)))) (aA (sIf (PD.ff (tV (ax bX (af (ag 3) ak)))) (bf (eC (.bl false))) bI) (aA (aI 4 (eOp bb (ag 3) (eg (af (eOp bb (eC (.int 1)) (ax aS (af (ag 2) (af (eC (.int 30)) ak)))) ak)))) (aA (sIf (PD.tOr (tV (eOp oLt (ax aU (af (ag 4) ak)) (ax aU (af (ag 3) ak)))) (PD.ff (tV (ax bX (af (ag 4) ak))))) (bf (eC (.bl false))) bI) (aA (aI 5 (ax ef (af (ag 2) (af (eB dq (af (ag 3) ak)) ak)))) (aA (aI 6 (ax cq (af (ag 3) (af (ag 5) ak)))) (sIf (PD.tOr (tV (eOp iC (ax cq (af (ag 3) (af (ax dH (af (ag 3) (af (ag 5) ak))) ak))) (ag 6))) (tV (eOp oLt (ax bF (af (ag 3) (af (ag 6) ak))) (eOp cx (eC (.int 2)) (eB yl (af (eOp iC (ag 3) (eg ak)) ak)))))) (bf (eC (.bl false))) bI))))))))
theorem zS (ns:List Int) (k:Nat) (S:Sto) (r2 r3 r4 r5 r6:Option D):∃ (S':Sto) (a2 a3 a4 a5 a6:Option D),Fj [some (.fz (ns.map .int)),some (.int k),r2,r3,r4,r5,r6] S=.ok (.nx [some (.fz (ns.map .int)),some (.int k),a2,a3,a4,a5,a6]) S':=by
 have z:(1000:Nat)<=sizeLine:=by decide
 obtain ⟨v,e0⟩:=DM ns k S
 have g0:Gr S.length (S ++ [.lst [.int v]]) (S ++ [.lst [.int v]]):=⟨⟨v,by simp⟩,λ_ _ _=>rfl,Jb _⟩
 obtain ⟨row,S1,e1,l1,q1,g1⟩:=DQ g0 (most:=8) ⟨by decide,by decide⟩
 have h8:row.length<=8:=by omega
 have hr:Row row:=⟨λx hx=>(q1 x hx).1,by omega⟩
 obtain ⟨_,m,_,hm,_⟩:=iN (xs:=row) (by omega) hr []
 obtain ⟨S2,e2,p2⟩:=tq hr (by omega) hm S1
 obtain ⟨t0,S3,e3,a0,a1,g3⟩:=i4 (p2.gr g1.self).self (many:=30) (by decide) (by decide)
 have t1:1<=1 + t0:=by omega
 generalize ht:1 + t0=t at *
 have ht':bb S3 (.int 1) (.int t0)=some (.int t):=by rw [<- ht]; rfl
 have ra:Row (row ++ [t]):=⟨λx hx=>by
  rcases Jp.mp hx with h | h
  ·exact hr.1 x h
  ·rw [Jf.mp h]; exact t1,by rw [Jo,Zt]; omega⟩
 have la:(row ++ [t]).length<=9:=by rw [Jo,Zt]; omega
 have aa:bb S3 (tupI row) (.tup [.int t])=some (tupI (row ++ [t])):=(uj (by rw [Jh]; show row.length + 1<=sizeLine; omega)).trans (by unfold tupI; rw [Qg]; rfl)
 obtain ⟨S4,m2,e4,hm2,p4⟩:=iN la ra S3
 obtain ⟨S5,m3,e5,hm3,p5⟩:=iN (by omega) hr S4
 have:=hm3.uniq hm
 subst this
 have hle:=uD hm hm2
 obtain ⟨S6,e6,p6⟩:=tq ra la hm2 S5
 obtain ⟨ss,S7,e7,s1,s2,g7⟩:=zR (((p4.trans p5).trans p6).gr g3.self).self (n:=row.length) (by omega)
 have hs:Sg row.length ss:=⟨s1,s2⟩
 have e8:=iO hr hs S7
 have e9:=oS hr hs S7
 have sg3:Sg row.length (ss.map λs=>-s):=⟨by rw [Jh]; exact s1,λs h=>by
  obtain ⟨q,hq,rfl⟩:=Jv.mp h
  rcases s2 q hq with e | e <;> omega⟩
 have e10:=iO hr sg3 S7
 have en:swO row (ss.map λs=>-s)=swO row ss:=qJ row ss 0 0
 rw [en] at e10
 obtain ⟨S8,e11,p8⟩:=lU (b:=swO row ss) hr (by omega) S7
 have hne:iC S8 (tupI row) (.tup [])=some (.bl (!decide (row=[]))):=by
  have:=xr row []
  unfold iC
  rw [show (D.tup []:D)=.tup (([]:List Int).map .int) from rfl,this]; rfl
 have hend:∃ d,yl S8 [.bl (!decide (row=[]))]=some (.int d)/\2 * d<=((wiL (swO row ss) row).length:Int):=by
  by_cases c:row=[]
  ·rw [Js c]; exact ⟨0,rfl,by omega⟩
  ·rw [Jy c]
   have:=BM hs c
   exact ⟨1,rfl,by omega⟩
 obtain ⟨d,hd1,hd2⟩:=hend
 refine ⟨S8,some (.ref S.length),some (tupI row),some (tupI (row ++ [t])),some (tupI ss),some (.int (swO row ss)),?_⟩
 refine (au (aD ((ar (ae (ab rfl) (ae (ab rfl) rfl))).trans e0))).trans ?_
 refine (au (aD ((ar (ae (ab rfl) (ae rfl rfl))).trans e1))).trans ?_
 refine (au ((fe (ft (b:=true) (bD ((ar (ae (ab rfl) rfl)).trans e2)))).trans rfl)).trans ?_
 refine (au (aD (av (ab rfl) (eG (xs:=[.int t]) (ae (av rfl ((ar (ae (ab rfl) (ae rfl rfl))).trans e3) ht') rfl) z1') aa))).trans ?_
 refine (au ((fe ((js (bD (av ((ar (ae (ab rfl) rfl)).trans e4) ((ar (ae (ab rfl) rfl)).trans e5) (D9 hle)))).trans (ft (b:=true) (bD ((ar (ae (ab rfl) rfl)).trans e6))))).trans rfl)).trans ?_
 refine (au (aD ((ar (ae (ab rfl) (ae (aW (ae (ab rfl) rfl) fu) rfl))).trans e7))).trans ?_
 refine (au (aD ((ar (ae (ab rfl) (ae (ab rfl) rfl))).trans e8))).trans ?_
 exact (fe ((js (bD (av ((ar (ae (ab rfl) (ae ((ar (ae (ab rfl) (ae (ab rfl) rfl))).trans e9) rfl))).trans e10) (ab rfl) (qL S7 _)))).trans (bD (av ((ar (ae (ab rfl) (ae (ab rfl) rfl))).trans e11) (av rfl (aW (ae (av (ab rfl) (eG (xs:=[]) rfl (Y3 _)) hne) rfl) hd1) (cO (.inl (by decide)))) (D9 hd2))))).trans rfl
theorem tu (ns:List Int):∀ (l:List Nat) (S:Sto) (r1 r2 r3 r4 r5 r6:Option D),∃ (S':Sto) (ρ:Rho),forL (.nm 1) Fj (l.map λ(i:Nat)=>D.int i) [some (.fz (ns.map .int)),r1,r2,r3,r4,r5,r6] S=.ok (.nx ρ) S'
 | [],S,r1,r2,r3,r4,r5,r6=>⟨S,_,rfl⟩
 | k :: l,S,r1,r2,r3,r4,r5,r6=>by
  obtain ⟨S1,a2,a3,a4,a5,a6,e1⟩:=zS ns k S r2 r3 r4 r5 r6
  obtain ⟨S2,ρ,e2⟩:=tu ns l S1 (some (.int k)) a2 a3 a4 a5 a6
  exact ⟨S2,ρ,(bu (r1:=[some (.fz (ns.map .int)),some (.int k),r2,r3,r4,r5,r6]) rfl e1).trans e2⟩
theorem zT (ns:List Int) (hn:ns.length<=63):∃ S,vv [.fz (ns.map .int)] []=.ok (.bl true) S:=by
 obtain ⟨n,hg,hn3⟩:=BP ns 3 hn (by decide) [some (.fz (ns.map .int)),none,none,none,none,none,none] rfl []
 obtain ⟨S,ρ,e⟩:=tu ns (List.range n) [] none none none none none none
 exact ⟨S,bo (ρ:=[some (.fz (ns.map .int)),none,none,none,none,none,none]) rfl ((au ((g6 hg).trans e)).trans (aV rfl))⟩
set_option maxHeartbeats 4000000
theorem km:bootBuiltins "abs" = some (.builtin "abs"):=by decide +kernel
theorem fY:bootBuiltins "all" = some (.builtin "all"):=by decide +kernel
theorem zU:bootBuiltins "bool" = some (.type "bool"):=by decide +kernel
theorem tw:bootBuiltins "dict" = some (.type "dict"):=by decide +kernel
theorem uF:bootBuiltins "divmod" = some (.builtin "divmod"):=by decide +kernel
theorem wb:bootBuiltins "int" = some (.type "int"):=by decide +kernel
theorem cv:bootBuiltins "isinstance" = some (.builtin "isinstance"):=by decide +kernel
theorem cD:bootBuiltins "len" = some (.builtin "len"):=by decide +kernel
theorem zV:bootBuiltins "list" = some (.type "list"):=by decide +kernel
theorem kn:bootBuiltins "max" = some (.builtin "max"):=by decide +kernel
theorem lV:bootBuiltins "min" = some (.builtin "min"):=by decide +kernel
theorem nq:bootBuiltins "sorted" = some (.builtin "sorted"):=by decide +kernel
theorem BR:bootBuiltins "sum" = some (.builtin "sum"):=by decide +kernel
theorem cG:bootBuiltins "tuple" = some (.type "tuple"):=by decide +kernel
structure Txt (K:PySem.W.Frag) (mg:Str->Option Value):Prop where
 cl:Cls K raisedX askedX isaX
 b_abs:mg "abs" = none
 b_all:mg "all" = none
 b_bool:mg "bool" = none
 b_dict:mg "dict" = none
 b_divmod:mg "divmod" = none
 b_enumerate:mg "enumerate" = none
 b_int:mg "int" = none
 b_isinstance:mg "isinstance" = none
 b_len:mg "len" = none
 b_list:mg "list" = none
 b_max:mg "max" = none
 b_min:mg "min" = none
 b_range:mg "range" = none
 b_sorted:mg "sorted" = none
 b_sum:mg "sum" = none
 b_tuple:mg "tuple" = none
 b_zip:mg "zip" = none
 c_LONGEST_ROW:∃ t,mg "LONGEST_ROW" = some (.int 16 t)
 c_LONGEST_TABLED:∃ t,mg "LONGEST_TABLED" = some (.int 10 t)
 m_SIGNS:TupAt K mg "SIGNS" [(-1),(1)]
section
variable {P:Program} {w:World} {K:PySem.W.Frag} {mg:Str->Option Value} {base:Heap}
theorem cy:FnScope ["script","k","here","number","j","part"] ["script","k"] (defScope fO):=fsk
theorem tD (F:Fun K "_law_box" "_law_box" fO f fd) (hm:mg "_law_box" = some (.ref f)) (hb:Binds K fd ["script","k"] []) (T:Txt K mg) :DefN P w K mg base "_law_box" 1 2 dG:=
 aJ ["script","k","here","number","j","part"] ["script","k"] 0 1 2 6 rfl rfl rfl F hm hb cy (m:=gU) λcdv A outer s H E hr=>(ao (aF cy.nd J0 J2 (aP bK (aP dm aw (vL 1)) aw)) (ao (dv (bA mD (vL 1) (aB dE J1 T.b_len cD (ah (vL 0) aj))) (ay (aF cy.nd J0 J2 (eK eJ (vL 0) (vL 1)))) cn) (ao (dv (bA (mK hr) (aP mC (vL 2) aw) aw) (ay (aN (kB (ah (aP pG (vL 2) aw) aj)))) cn) (ao (aF cy.nd J0 J2 aw) (ao (cN Yi rfl (iS J1 T.b_range (ah aw aj)) (aG cy.nd J0 J2) (ao (aF cy.nd J0 J2 (aP mC (aP bK (aP bK (aP dm (aP mC (vL 2) aw) aw) (aP dm aw (vL 4))) aw) aw)) (ao (aF cy.nd J0 J2 (aP mC (aP dm (vL 5) (vL 5)) aw)) (ay (aF cy.nd J0 J2 (aP bK (aP dm (vL 3) aw) (aP mC (aP dm (vL 5) (aP bK (vL 5) aw)) aw))))))) (ay (aN (kB (ah (vL 3) aj)))))))))
theorem tE:FnScope ["thing"] ["thing"] (defScope fP):=fsk
theorem tF (F:Fun K "is_whole" "is_whole" fP f fd) (hm:mg "is_whole" = some (.ref f)) (hb:Binds K fd ["thing"] []) (T:Txt K mg) :DefN P w K mg base "is_whole" 1 1 ba:=
 aJ ["thing"] ["thing"] 0 1 1 1 rfl rfl rfl F hm hb tE (m:=jA) λcdv A outer s H E hr=>(ay (aN (kA (aB kG J1 T.b_isinstance cv (ah (vL 0) (ah (n8 J1 T.b_int wb) aj))) (my (C8 (aB kG J1 T.b_isinstance cv (ah (vL 0) (ah (n8 J1 T.b_bool zU) aj))))))))
theorem kP:FnScope ["thing"] ["thing"] (defScope cX):=fsk
theorem kQ (F:Fun K "need_number" "need_number" cX f fd) (hm:mg "need_number" = some (.ref f)) (hb:Binds K fd ["thing"] []) (T:Txt K mg) (d_is_whole:DefN P w K mg base "is_whole" 1 1 ba):DefN P w K mg base "need_number" 2 1 cf:=
 aJ ["thing"] ["thing"] 1 2 1 1 rfl rfl rfl F hm hb kP (m:=eU) λcdv A outer s H E hr=>(ay (dv (eS (fA (az d_is_whole (hr.mono (by decide)) J1 (ah (vL 0) aj) (ai aq)))) (ay ir) cn))
theorem xu:FnScope ["thing"] ["thing"] (defScope iY):=fsk
theorem xv (F:Fun K "is_row" "is_row" iY f fd) (hm:mg "is_row" = some (.ref f)) (hb:Binds K fd ["thing"] []) (T:Txt K mg) (d_is_whole:DefN P w K mg base "is_whole" 1 1 ba):DefN P w K mg base "is_row" 2 1 eQ:=
 aJ ["thing"] ["thing"] 1 2 1 1 rfl rfl rfl F hm hb xu (m:=iE) λcdv A outer s H E hr=>(ao (dv (gu (iq (eS (fA (aB kG J1 T.b_isinstance cv (ah (vL 0) (ah (n8 J1 T.b_tuple cG) aj))))) (gb (bA u6 (aB dE J1 T.b_len cD (ah (vL 0) aj)) (B1 T.c_LONGEST_ROW J1))))) (ay (aN eI)) cn) (ay (aN (aB (iy rfl) J1 T.b_all fY (ah (cB (N:=["number"]) (k:=1) (caps:=[]) rfl (λ_ _ z=>z) (fC J0 J0 J0 J0 rfl J0) (cA (vL 0)) (λ_ _ _ _=>(aG (show (["number"]:List Str).Nodup by decide +kernel) J0 J2)) (λ_ _ _ _=>cV) (λ_ _ _ _=>(kA (az d_is_whole (hr.mono (by decide)) J1 (ah (vL 0) aj) (ai aq)) (my (kz u7 (vL 0) aw))))) aj)))))
theorem nK:FnScope ["thing"] ["thing"] (defScope eD):=fsk
theorem nL (F:Fun K "need_row" "need_row" eD f fd) (hm:mg "need_row" = some (.ref f)) (hb:Binds K fd ["thing"] []) (T:Txt K mg) (d_is_row:DefN P w K mg base "is_row" 2 1 eQ):DefN P w K mg base "need_row" 3 1 aM:=
 aJ ["thing"] ["thing"] 2 3 1 1 rfl rfl rfl F hm hb nK (m:=gW) λcdv A outer s H E hr=>(ay (dv (eS (fA (az d_is_row (hr.mono (by decide)) J1 (ah (vL 0) aj) (ai aq)))) (ay ir) cn))
theorem gj:FnScope ["row","number"] ["row","number"] (defScope bE):=fsk
theorem gk (F:Fun K "need_row_and_number" "need_row_and_number" bE f fd) (hm:mg "need_row_and_number" = some (.ref f)) (hb:Binds K fd ["row","number"] []) (T:Txt K mg) (d_need_number_n:DefN P w K mg base "need_number" 2 1 cf) (d_need_row_n:DefN P w K mg base "need_row" 3 1 aM):DefN P w K mg base "need_row_and_number" 4 2 aH:=
 aJ ["row","number"] ["row","number"] 3 4 2 2 rfl rfl rfl F hm hb gj (m:=dM) λcdv A outer s H E hr=>(ao (bM (az d_need_row_n (hr.mono (by decide)) J1 (ah (vL 0) aj) (ai aq))) (ay (bM (az d_need_number_n (hr.mono (by decide)) J1 (ah (vL 1) aj) (ai aq)))))
theorem nr:FnScope ["reached","bound"] ["reached","bound"] (defScope dY):=fsk
theorem nt (F:Fun K "kept_within" "kept_within" dY f fd) (hm:mg "kept_within" = some (.ref f)) (hb:Binds K fd ["reached","bound"] []) (T:Txt K mg) :DefN P w K mg base "kept_within" 1 2 bc:=
 aJ ["reached","bound"] ["reached","bound"] 0 1 2 2 rfl rfl rfl F hm hb nr (m:=jo) λcdv A outer s H E hr=>(ay (aN (mN (yT rfl) J1 T.b_dict tw (ah (cB (N:=["number","held","bound"]) (k:=2) (caps:=[1]) rfl (λ_ _ z=>z) (fC J0 J0 J0 J0 rfl J0) (jQ (vL 0)) (λ_ _ _ _=>(iw rfl (bJ (aG (show (["number","held","bound"]:List Str).Nodup by decide +kernel) J0 J2) (bJ (aG (show (["number","held","bound"]:List Str).Nodup by decide +kernel) J0 J2) fL)))) (λ_ _ _ _=>(vg (bA og (aB mF J1 T.b_abs km (ah (vL 0) aj)) (vC 2)))) (λ_ _ _ _=>(gc (ah (vL 0) (ah (vL 1) aj))))) aj))))
theorem ez:FnScope ["table","step","choices","wider","reached","ways","choice","there"] ["table","step","choices"] (defScope gX):=fsk
theorem uH (F:Fun K "stepped" "stepped" gX f fd) (hm:mg "stepped" = some (.ref f)) (hb:Binds K fd ["table","step","choices"] []) (T:Txt K mg) :DefN P w K mg base "stepped" 1 3 cY:=
 aJ ["table","step","choices","wider","reached","ways","choice","there"] ["table","step","choices"] 0 1 3 8 rfl rfl rfl F hm hb ez (m:=oD) λcdv A outer s H E hr=>(ao (aF ez.nd J0 J2 pW) (ao (cN Yi rfl (jQ (vL 0)) (iw rfl (bJ (aG ez.nd J0 J2) (bJ (aG ez.nd J0 J2) fL))) (ay (cN Yi rfl (cA (vL 2)) (aG ez.nd J0 J2) (ao (aF ez.nd J0 J2 (aP bK (vL 4) (aP dm (vL 6) (vL 1)))) (ay (pD (pS hr) (aP bK (pU hr (vL 3) (vL 7) aw (yA J0 J0 J0 J0)) (vL 5)) (vL 3) (vL 7))))))) (ay (aN (vL 3)))))
theorem cw:FnScope ["row","bound","table","tables","step"] ["row","bound"] (defScope cZ):=fsk
theorem kR (F:Fun K "tables_within" "tables_within" cZ f fd) (hm:mg "tables_within" = some (.ref f)) (hb:Binds K fd ["row","bound"] []) (T:Txt K mg) (d_kept_within:DefN P w K mg base "kept_within" 1 2 bc) (d_stepped:DefN P w K mg base "stepped" 1 3 cY):DefN P w K mg base "tables_within" 2 2 bP:=
 aJ ["row","bound","table","tables","step"] ["row","bound"] 1 2 2 5 rfl rfl rfl F hm hb cw (m:=hU) λcdv A outer s H E hr=>(ao (aF cw.nd J0 J2 (az d_kept_within (hr.mono (by decide)) J1 (ah (lO (jO aw aw lN)) (ah (vL 1) aj)) (ai (ai aq)))) (ao (aF cw.nd J0 J2 (kB (ah (vL 2) aj))) (ao (cN Yi rfl (cA (vL 0)) (aG cw.nd J0 J2) (ao (aF cw.nd J0 J2 (az d_kept_within (hr.mono (by decide)) J1 (ah (az d_stepped (hr.mono (by decide)) J1 (ah (vL 2) (ah (vL 4) (ah (rQ T.m_SIGNS J1) aj))) (ai (ai (ai aq)))) (ah (vL 1) aj)) (ai (ai aq)))) (ay (bM (pP We W7 W8 iT (vL 3) (ah (vL 2) aj)))))) (ay (aN (vL 3))))))
theorem iP:FnScope ["row","number","last"] ["row","number"] (defScope dZ):=fsk
theorem nu (F:Fun K "calm_many" "calm_many" dZ f fd) (hm:mg "calm_many" = some (.ref f)) (hb:Binds K fd ["row","number"] []) (T:Txt K mg) (d_need_row_and_number_n:DefN P w K mg base "need_row_and_number" 4 2 aH) (d_tables_within:DefN P w K mg base "tables_within" 2 2 bP):DefN P w K mg base "calm_many" 5 2 bF:=
 aJ ["row","number","last"] ["row","number"] 4 5 2 3 rfl rfl rfl F hm hb iP (m:=jq) λcdv A outer s H E hr=>(ao (bM (az d_need_row_and_number_n (hr.mono (by decide)) J1 (ah (vL 0) (ah (vL 1) aj)) (ai (ai aq)))) (ao (aF iP.nd J0 J2 (eK eJ (az d_tables_within (hr.mono (by decide)) J1 (ah (vL 0) (ah (vL 1) aj)) (ai (ai aq))) (n9 kC aw))) (ay (aN (Bd rfl J1 T.b_sum (vL 2))))))
theorem bp:FnScope ["firsts","step","longer","reached","signs","sign","there","chosen"] ["firsts","step"] (defScope cL):=fsk
theorem ko (F:Fun K "firsts_stepped" "firsts_stepped" cL f fd) (hm:mg "firsts_stepped" = some (.ref f)) (hb:Binds K fd ["firsts","step"] []) (T:Txt K mg) :DefN P w K mg base "firsts_stepped" 1 2 bT:=
 aJ ["firsts","step","longer","reached","signs","sign","there","chosen"] ["firsts","step"] 0 1 2 8 rfl rfl rfl F hm hb bp (m:=gC) λcdv A outer s H E hr=>(ao (aF bp.nd J0 J2 pW) (ao (cN Yi rfl (jQ (vL 0)) (iw rfl (bJ (aG bp.nd J0 J2) (bJ (aG bp.nd J0 J2) fL))) (ay (cN Yi rfl (cA (rQ T.m_SIGNS J1)) (aG bp.nd J0 J2) (ao (aF bp.nd J0 J2 (aP bK (vL 3) (aP dm (vL 5) (vL 1)))) (ao (aF bp.nd J0 J2 (aP bK (vL 4) (gc (ah (vL 5) aj)))) (ay (pD (pS hr) (aB (A7 rfl hr) J1 T.b_min lV (ah (vL 7) (ah (pU hr (vL 2) (vL 6) (vL 7) (yA J0 J0 J0 J0)) aj))) (vL 2) (vL 6)))))))) (ay (aN (vL 2)))))
theorem bq:FnScope ["swings","step","longer","reached","swung","sign","there","further"] ["swings","step"] (defScope cM):=fsk
theorem kq (F:Fun K "swings_stepped" "swings_stepped" cM f fd) (hm:mg "swings_stepped" = some (.ref f)) (hb:Binds K fd ["swings","step"] []) (T:Txt K mg) :DefN P w K mg base "swings_stepped" 1 2 bU:=
 aJ ["swings","step","longer","reached","swung","sign","there","further"] ["swings","step"] 0 1 2 8 rfl rfl rfl F hm hb bq (m:=gD) λcdv A outer s H E hr=>(ao (aF bq.nd J0 J2 pW) (ao (cN Yi rfl (jQ (vL 0)) (iw rfl (bJ (aG bq.nd J0 J2) (bJ (aG bq.nd J0 J2) fL))) (ay (cN Yi rfl (cA (rQ T.m_SIGNS J1)) (aG bq.nd J0 J2) (ao (aF bq.nd J0 J2 (aP bK (vL 3) (aP dm (vL 5) (vL 1)))) (ao (aF bq.nd J0 J2 (aB (pN rfl) J1 T.b_max kn (ah (vL 4) (ah (aB mF J1 T.b_abs km (ah (vL 6) aj)) aj)))) (ay (pD (pS hr) (aB (tY rfl) J1 T.b_min lV (ah (vL 7) (ah (pU hr (vL 2) (vL 6) (vL 7) (yA J0 J0 J0 J0)) aj))) (vL 2) (vL 6)))))))) (ay (aN (vL 2)))))
theorem di:FnScope ["row","swings","step"] ["row"] (defScope de):=fsk
theorem kS (F:Fun K "least_swing" "least_swing" de f fd) (hm:mg "least_swing" = some (.ref f)) (hb:Binds K fd ["row"] []) (T:Txt K mg) (d_need_row_n:DefN P w K mg base "need_row" 3 1 aM) (d_swings_stepped:DefN P w K mg base "swings_stepped" 1 2 bU):DefN P w K mg base "least_swing" 4 1 aU:=
 aJ ["row","swings","step"] ["row"] 3 4 1 3 rfl rfl rfl F hm hb di (m:=hW) λcdv A outer s H E hr=>(ao (bM (az d_need_row_n (hr.mono (by decide)) J1 (ah (vL 0) aj) (ai aq))) (ao (aF di.nd J0 J2 (lO (jO aw aw lN))) (ao (cN Yi rfl (cA (vL 0)) (aG di.nd J0 J2) (ay (aF di.nd J0 J2 (az d_swings_stepped (hr.mono (by decide)) J1 (ah (vL 1) (ah (vL 2) aj)) (ai (ai aq)))))) (ay (aN (Be rfl J1 T.b_min (vL 1)))))))
theorem gJ:FnScope ["row","bound","firsts","step"] ["row"] (defScope iZ):=fsk
theorem xw (F:Fun K "calm" "calm" iZ f fd) (hm:mg "calm" = some (.ref f)) (hb:Binds K fd ["row"] []) (T:Txt K mg) (d_firsts_stepped:DefN P w K mg base "firsts_stepped" 1 2 bT) (d_kept_within:DefN P w K mg base "kept_within" 1 2 bc) (d_least_swing_n:DefN P w K mg base "least_swing" 4 1 aU):DefN P w K mg base "calm" 5 1 gE:=
 aJ ["row","bound","firsts","step"] ["row"] 4 5 1 4 rfl rfl rfl F hm hb gJ (m:=sf) λcdv A outer s H E hr=>(ao (aF gJ.nd J0 J2 (az d_least_swing_n (hr.mono (by decide)) J1 (ah (vL 0) aj) (ai aq))) (ao (aF gJ.nd J0 J2 (lO (jO aw (gc aj) lN))) (ao (cN Yi rfl (cA (vL 0)) (aG gJ.nd J0 J2) (ay (aF gJ.nd J0 J2 (az d_kept_within (hr.mono (by decide)) J1 (ah (az d_firsts_stepped (hr.mono (by decide)) J1 (ah (vL 2) (ah (vL 3) aj)) (ai (ai aq))) (ah (vL 1) aj)) (ai (ai aq)))))) (ay (aN (yW rfl hr J1 T.b_min (vL 2)))))))
theorem qM:FnScope ["thing"] ["thing"] (defScope fj):=fsk
theorem qN (F:Fun K "is_rising" "is_rising" fj f fd) (hm:mg "is_rising" = some (.ref f)) (hb:Binds K fd ["thing"] []) (T:Txt K mg) (d_is_whole:DefN P w K mg base "is_whole" 1 1 ba):DefN P w K mg base "is_rising" 2 1 dN:=
 aJ ["thing"] ["thing"] 1 2 1 1 rfl rfl rfl F hm hb qM (m:=lj) λcdv A outer s H E hr=>(ao (dv (gu (iq (eS (fA (aB kG J1 T.b_isinstance cv (ah (vC 0) (ah (n8 J1 T.b_tuple cG) aj))))) (gb (eS (fA (aB (iy rfl) J1 T.b_all fY (ah (cB (N:=["number"]) (k:=1) (caps:=[]) rfl (λ_ _ z=>z) (fC J0 J0 J0 J0 rfl J0) (cA (vC 0)) (λ_ _ _ _=>(aG (show (["number"]:List Str).Nodup by decide +kernel) J0 J2)) (λ_ _ _ _=>cV) (λ_ _ _ _=>(az d_is_whole (hr.mono (by decide)) J1 (ah (vL 0) aj) (ai aq)))) aj))))))) (ay (aN eI)) cn) (ay (aN (aB (iy rfl) J1 T.b_all fY (ah (cB (N:=["place","thing"]) (k:=1) (caps:=[0]) rfl (λ_ _ z=>z) (fC J0 J0 J0 J0 rfl J0) (xf J1 T.b_range (ah aw (ah (aB dE J1 T.b_len cD (ah (vC 0) aj)) aj))) (λ_ _ _ _=>(aG (show (["place","thing"]:List Str).Nodup by decide +kernel) J0 J2)) (λ_ _ _ _=>cV) (λ_ _ _ _=>(kz mD (eK eJ (vC 1) (aP jv (vL 0) aw)) (eK eJ (vC 1) (vL 0))))) aj)))))
theorem bY:FnScope ["layer","following","step","bound","present","reached","sign","there"] ["layer","following","step","bound"] (defScope cC):=fsk
theorem jE (F:Fun K "leads_on_within" "leads_on_within" cC f fd) (hm:mg "leads_on_within" = some (.ref f)) (hb:Binds K fd ["layer","following","step","bound"] []) (T:Txt K mg) :DefN P w K mg base "leads_on_within" 1 4 bN:=
 aJ ["layer","following","step","bound","present","reached","sign","there"] ["layer","following","step","bound"] 0 1 4 8 rfl rfl rfl F hm hb bY (m:=fQ) λcdv A outer s H E hr=>(ao (aF bY.nd J0 J2 (mN (yT rfl) J1 T.b_dict tw (ah (cB (N:=["reached"]) (k:=1) (caps:=[]) rfl (λ_ _ z=>z) (fC J0 J0 J0 J0 rfl J0) (cA (vL 1)) (λ_ _ _ _=>(aG (show (["reached"]:List Str).Nodup by decide +kernel) J0 J2)) (λ_ _ _ _=>cV) (λ_ _ _ _=>(gc (ah (vL 0) (ah eI aj))))) aj))) (ao (cN Yi rfl (cA (vL 0)) (aG bY.nd J0 J2) (ay (cN Yi rfl (cA (rQ T.m_SIGNS J1)) (aG bY.nd J0 J2) (ao (aF bY.nd J0 J2 (aP bK (vL 5) (aP dm (vL 6) (vL 2)))) (ay (dv (gu (tU (bA og (aB mF J1 T.b_abs km (ah (vL 7) aj)) (vL 3)) (pC (bA (wU hr) (vL 7) (vL 4))))) (ay (aN eI)) cn)))))) (ay (aN eI))))
theorem nM:FnScope ["row"] ["row"] (defScope eE):=fsk
theorem nN (F:Fun K "need_few" "need_few" eE f fd) (hm:mg "need_few" = some (.ref f)) (hb:Binds K fd ["row"] []) (T:Txt K mg) (d_need_row_n:DefN P w K mg base "need_row" 3 1 aM):DefN P w K mg base "need_few" 4 1 d5:=
 aJ ["row"] ["row"] 3 4 1 1 rfl rfl rfl F hm hb nM (m:=j6) λcdv A outer s H E hr=>(ao (bM (az d_need_row_n (hr.mono (by decide)) J1 (ah (vL 0) aj) (ai aq))) (ay (dv (bA u6 (aB dE J1 T.b_len cD (ah (vL 0) aj)) (B1 T.c_LONGEST_TABLED J1)) (ay ir) cn)))
theorem gn:FnScope ["row","number"] ["row","number"] (defScope bG):=fsk
theorem gp (F:Fun K "need_few_and_number" "need_few_and_number" bG f fd) (hm:mg "need_few_and_number" = some (.ref f)) (hb:Binds K fd ["row","number"] []) (T:Txt K mg) (d_need_few_n:DefN P w K mg base "need_few" 4 1 d5) (d_need_row_and_number_n:DefN P w K mg base "need_row_and_number" 4 2 aH):DefN P w K mg base "need_few_and_number" 5 2 aR:=
 aJ ["row","number"] ["row","number"] 4 5 2 2 rfl rfl rfl F hm hb gn (m:=dO) λcdv A outer s H E hr=>(ao (bM (az d_need_row_and_number_n (hr.mono (by decide)) J1 (ah (vL 0) (ah (vL 1) aj)) (ai (ai aq)))) (ay (bM (az d_need_few_n (hr.mono (by decide)) J1 (ah (vL 0) aj) (ai aq)))))
theorem je:FnScope ["thing","row","number"] ["thing","row","number"] (defScope ck):=fsk
theorem jf (F:Fun K "is_swing_paper" "is_swing_paper" ck f fd) (hm:mg "is_swing_paper" = some (.ref f)) (hb:Binds K fd ["thing","row","number"] []) (T:Txt K mg) (d_is_rising:DefN P w K mg base "is_rising" 2 1 dN) (d_leads_on_within:DefN P w K mg base "leads_on_within" 1 4 bN) (d_need_few_and_number_n:DefN P w K mg base "need_few_and_number" 5 2 aR):DefN P w K mg base "is_swing_paper" 6 3 bW:=
 aJ ["thing","row","number"] ["thing","row","number"] 5 6 3 3 rfl rfl rfl F hm hb je (m:=fG) λcdv A outer s H E hr=>(ao (bM (az d_need_few_and_number_n (hr.mono (by decide)) J1 (ah (vL 1) (ah (vC 2) aj)) (ai (ai aq)))) (ao (dv (gu (iq (eS (fA (aB kG J1 T.b_isinstance cv (ah (vC 0) (ah (n8 J1 T.b_list zV) aj))))) (gb (bA (jx hr) (aB dE J1 T.b_len cD (ah (vC 0) aj)) (aP bK (aB dE J1 T.b_len cD (ah (vL 1) aj)) aw))))) (ay (aN eI)) cn) (ao (dv (gu (iq (eS (fA (aB (iy rfl) J1 T.b_all fY (ah (cB (N:=["layer"]) (k:=1) (caps:=[]) rfl (λ_ _ z=>z) (fC J0 J0 J0 J0 rfl J0) (cA (vC 0)) (λ_ _ _ _=>(aG (show (["layer"]:List Str).Nodup by decide +kernel) J0 J2)) (λ_ _ _ _=>cV) (λ_ _ _ _=>(az d_is_rising (hr.mono (by decide)) J1 (ah (vL 0) aj) (ai aq)))) aj)))) (gb (bA (jx hr) (eK eJ (vC 0) (n9 kC aw)) (gc aj))))) (ay (aN eI)) cn) (ao (dv (gu (tU (bA u7 (vC 2) aw) (pC (bA rF aw (eK eJ (vC 0) aw))))) (ay (aN eI)) cn) (ay (aN (aB (iy rfl) J1 T.b_all fY (ah (cB (N:=["place","step","thing","number"]) (k:=2) (caps:=[0,2]) rfl (λ_ _ z=>z) (fC J0 J0 J0 J0 rfl J0) (AV J1 T.b_enumerate (ah (vL 1) aj)) (λ_ _ _ _=>(iw rfl (bJ (aG (show (["place","step","thing","number"]:List Str).Nodup by decide +kernel) J0 J2) (bJ (aG (show (["place","step","thing","number"]:List Str).Nodup by decide +kernel) J0 J2) fL)))) (λ_ _ _ _=>cV) (λ_ _ _ _=>(az d_leads_on_within (hr.mono (by decide)) J1 (ah (eK eJ (vC 2) (vL 0)) (ah (eK eJ (vC 2) (aP bK (vL 0) aw)) (ah (vL 1) (ah (vC 3) aj)))) (ai (ai (ai (ai aq))))))) aj))))))))
theorem dj:FnScope ["row","signs","reached","step","sign"] ["row"] (defScope fk):=fsk
theorem qO (F:Fun K "leaning" "leaning" fk f fd) (hm:mg "leaning" = some (.ref f)) (hb:Binds K fd ["row"] []) (T:Txt K mg) (d_need_row_n:DefN P w K mg base "need_row" 3 1 aM):DefN P w K mg base "leaning" 4 1 eR:=
 aJ ["row","signs","reached","step","sign"] ["row"] 3 4 1 5 rfl rfl rfl F hm hb dj (m:=ll) λcdv A outer s H E hr=>(ao (bM (az d_need_row_n (hr.mono (by decide)) J1 (ah (vL 0) aj) (ai aq))) (ao (aF dj.nd J0 J2 (kB aj)) (ao (aF dj.nd J0 J2 aw) (ao (cN Yi rfl (cA (vL 0)) (aG dj.nd J0 J2) (ao (aF dj.nd J0 J2 (BY (bA u6 (vL 2) aw) (n9 kC aw) aw)) (ao (bM (pP We W7 W8 iT (vL 1) (ah (vL 4) aj))) (ay (aF dj.nd J0 J2 (aP bK (vL 2) (aP dm (vL 4) (vL 3)))))))) (ay (aN (dJ fB J1 T.b_tuple cG (ah (vL 1) aj))))))))
theorem qP:FnScope ["thing","many"] ["thing","many"] (defScope fm):=fsk
theorem qQ (F:Fun K "are_whole" "are_whole" fm f fd) (hm:mg "are_whole" = some (.ref f)) (hb:Binds K fd ["thing","many"] []) (T:Txt K mg) (d_is_whole:DefN P w K mg base "is_whole" 1 1 ba):DefN P w K mg base "are_whole" 2 2 cP:=
 aJ ["thing","many"] ["thing","many"] 1 2 2 2 rfl rfl rfl F hm hb qP (m:=lp) λcdv A outer s H E hr=>(ay (aN (kA (aB kG J1 T.b_isinstance cv (ah (vL 0) (ah (n8 J1 T.b_tuple cG) aj))) (kA (kz (mK hr) (aB dE J1 T.b_len cD (ah (vL 0) aj)) (vL 1)) (my (aB (iy rfl) J1 T.b_all fY (ah (cB (N:=["number"]) (k:=1) (caps:=[]) rfl (λ_ _ z=>z) (fC J0 J0 J0 J0 rfl J0) (cA (vL 0)) (λ_ _ _ _=>(aG (show (["number"]:List Str).Nodup by decide +kernel) J0 J2)) (λ_ _ _ _=>cV) (λ_ _ _ _=>(az d_is_whole (hr.mono (by decide)) J1 (ah (vL 0) aj) (ai aq)))) aj)))))))
theorem iQ:FnScope ["thing","many"] ["thing","many"] (defScope cg):=fsk
theorem iR (F:Fun K "are_so_many_signs" "are_so_many_signs" cg f fd) (hm:mg "are_so_many_signs" = some (.ref f)) (hb:Binds K fd ["thing","many"] []) (T:Txt K mg) (d_are_whole:DefN P w K mg base "are_whole" 2 2 cP):DefN P w K mg base "are_so_many_signs" 3 2 bR:=
 aJ ["thing","many"] ["thing","many"] 2 3 2 2 rfl rfl rfl F hm hb iQ (m:=fc) λcdv A outer s H E hr=>(ay (aN (kA (az d_are_whole (hr.mono (by decide)) J1 (ah (vL 0) (ah (vL 1) aj)) (ai (ai aq))) (my (aB (iy rfl) J1 T.b_all fY (ah (cB (N:=["sign"]) (k:=1) (caps:=[]) rfl (λ_ _ z=>z) (fC J0 J0 J0 J0 rfl J0) (cA (vL 0)) (λ_ _ _ _=>(aG (show (["sign"]:List Str).Nodup by decide +kernel) J0 J2)) (λ_ _ _ _=>cV) (λ_ _ _ _=>(kz (mK hr) (aB mF J1 T.b_abs km (ah (vL 0) aj)) aw))) aj))))))
theorem gK:FnScope ["thing","many"] ["thing","many"] (defScope bO):=fsk
theorem gL (F:Fun K "need_so_many_signs" "need_so_many_signs" bO f fd) (hm:mg "need_so_many_signs" = some (.ref f)) (hb:Binds K fd ["thing","many"] []) (T:Txt K mg) (d_are_so_many_signs:DefN P w K mg base "are_so_many_signs" 3 2 bR):DefN P w K mg base "need_so_many_signs" 4 2 bj:=
 aJ ["thing","many"] ["thing","many"] 3 4 2 2 rfl rfl rfl F hm hb gK (m:=d7) λcdv A outer s H E hr=>(ay (dv (eS (fA (az d_are_so_many_signs (hr.mono (by decide)) J1 (ah (vL 0) (ah (vL 1) aj)) (ai (ai aq))))) (ay ir) cn))
theorem dI:FnScope ["row","signs","reached","greatest","step","sign"] ["row","signs"] (defScope gY):=fsk
theorem uJ (F:Fun K "swing" "swing" gY f fd) (hm:mg "swing" = some (.ref f)) (hb:Binds K fd ["row","signs"] []) (T:Txt K mg) (d_need_row_n:DefN P w K mg base "need_row" 3 1 aM) (d_need_so_many_signs_n:DefN P w K mg base "need_so_many_signs" 4 2 bj):DefN P w K mg base "swing" 5 2 cq:=
 aJ ["row","signs","reached","greatest","step","sign"] ["row","signs"] 4 5 2 6 rfl rfl rfl F hm hb dI (m:=oE) λcdv A outer s H E hr=>(ao (bM (az d_need_row_n (hr.mono (by decide)) J1 (ah (vL 0) aj) (ai aq))) (ao (bM (az d_need_so_many_signs_n (hr.mono (by decide)) J1 (ah (vL 1) (ah (aB dE J1 T.b_len cD (ah (vL 0) aj)) aj)) (ai (ai aq)))) (ao (aF dI.nd J0 J2 aw) (ao (aF dI.nd J0 J2 aw) (ao (cN Yi rfl (Dv J1 T.b_zip (ah (vL 0) (ah (vL 1) aj))) (iw rfl (bJ (aG dI.nd J0 J2) (bJ (aG dI.nd J0 J2) fL))) (ao (aF dI.nd J0 J2 (aP bK (vL 2) (aP dm (vL 5) (vL 4)))) (ay (aF dI.nd J0 J2 (aB (pN rfl) J1 T.b_max kn (ah (vL 3) (ah (aB mF J1 T.b_abs km (ah (vL 2) aj)) aj))))))) (ay (aN (vL 3))))))))
theorem gM:FnScope ["row","number","tables"] ["row","number"] (defScope dg):=fsk
theorem kT (F:Fun K "swing_paper" "swing_paper" dg f fd) (hm:mg "swing_paper" = some (.ref f)) (hb:Binds K fd ["row","number"] []) (T:Txt K mg) (d_need_few_and_number_n:DefN P w K mg base "need_few_and_number" 5 2 aR) (d_tables_within:DefN P w K mg base "tables_within" 2 2 bP):DefN P w K mg base "swing_paper" 6 2 bz:=
 aJ ["row","number","tables"] ["row","number"] 5 6 2 3 rfl rfl rfl F hm hb gM (m:=hZ) λcdv A outer s H E hr=>(ao (bM (az d_need_few_and_number_n (hr.mono (by decide)) J1 (ah (vL 0) (ah (vL 1) aj)) (ai (ai aq)))) (ao (aF gM.nd J0 J2 (az d_tables_within (hr.mono (by decide)) J1 (ah (vL 0) (ah (vL 1) aj)) (ai (ai aq)))) (ay (aN (BY (bA (DL hr) (eK eJ (vL 2) (n9 kC aw)) A3) (cB (N:=["table"]) (k:=1) (caps:=[]) rfl (λ_ _ z=>z) (fC J0 J0 J0 J0 rfl J0) (yQ (vL 2)) (λ_ _ _ _=>(aG (show (["table"]:List Str).Nodup by decide +kernel) J0 J2)) (λ_ _ _ _=>cV) (λ_ _ _ _=>(dJ fB J1 T.b_tuple cG (ah (aB (yO rfl) J1 T.b_sorted nq (ah (vL 0) aj)) aj)))) tT)))))
theorem nv:FnScope ["thing","row"] ["thing","row"] (defScope d8):=fsk
theorem ny (F:Fun K "are_parts" "are_parts" d8 f fd) (hm:mg "are_parts" = some (.ref f)) (hb:Binds K fd ["thing","row"] []) (T:Txt K mg) (d_are_whole:DefN P w K mg base "are_whole" 2 2 cP) (d_need_row_n:DefN P w K mg base "need_row" 3 1 aM):DefN P w K mg base "are_parts" 4 2 dw:=
 aJ ["thing","row"] ["thing","row"] 3 4 2 2 rfl rfl rfl F hm hb nv (m:=jr) λcdv A outer s H E hr=>(ao (bM (az d_need_row_n (hr.mono (by decide)) J1 (ah (vL 1) aj) (ai aq))) (ay (aN (kA (az d_are_whole (hr.mono (by decide)) J1 (ah (vL 0) (ah (aB dE J1 T.b_len cD (ah (vL 1) aj)) aj)) (ai (ai aq))) (my (aB (iy rfl) J1 T.b_all fY (ah (cB (N:=["part"]) (k:=1) (caps:=[]) rfl (λ_ _ z=>z) (fC J0 J0 J0 J0 rfl J0) (cA (vL 0)) (λ_ _ _ _=>(aG (show (["part"]:List Str).Nodup by decide +kernel) J0 J2)) (λ_ _ _ _=>cV) (λ_ _ _ _=>(yc og og (n9 kC aw) (vL 0) aw))) aj)))))))
theorem lF:FnScope ["row","thing"] ["row","thing"] (defScope dz):=fsk
theorem lG (F:Fun K "need_parts" "need_parts" dz f fd) (hm:mg "need_parts" = some (.ref f)) (hb:Binds K fd ["row","thing"] []) (T:Txt K mg) (d_are_parts_n:DefN P w K mg base "are_parts" 4 2 dw):DefN P w K mg base "need_parts" 5 2 cQ:=
 aJ ["row","thing"] ["row","thing"] 4 5 2 2 rfl rfl rfl F hm hb lF (m:=iF) λcdv A outer s H E hr=>(ay (dv (eS (fA (az d_are_parts_n (hr.mono (by decide)) J1 (ah (vL 1) (ah (vL 0) aj)) (ai (ai aq))))) (ay ir) cn))
theorem tG:FnScope ["row","parts"] ["row","parts"] (defScope fR):=fsk
theorem tH (F:Fun K "turned" "turned" fR f fd) (hm:mg "turned" = some (.ref f)) (hb:Binds K fd ["row","parts"] []) (T:Txt K mg) (d_need_parts_n:DefN P w K mg base "need_parts" 5 2 cQ):DefN P w K mg base "turned" 6 2 dH:=
 aJ ["row","parts"] ["row","parts"] 5 6 2 2 rfl rfl rfl F hm hb tG (m:=mU) λcdv A outer s H E hr=>(ao (bM (az d_need_parts_n (hr.mono (by decide)) J1 (ah (vL 0) (ah (vL 1) aj)) (ai (ai aq)))) (ay (aN (dJ fB J1 T.b_tuple cG (ah (cB (N:=["part"]) (k:=1) (caps:=[]) rfl (λ_ _ z=>z) (fC J0 J0 J0 J0 rfl J0) (cA (vL 1)) (λ_ _ _ _=>(aG (show (["part"]:List Str).Nodup by decide +kernel) J0 J2)) (λ_ _ _ _=>cV) (λ_ _ _ _=>(n9 kC (vL 0)))) aj)))))
theorem kr:FnScope ["row","middle"] ["row"] (defScope fo):=fsk
theorem qR (F:Fun K "halves_of" "halves_of" fo f fd) (hm:mg "halves_of" = some (.ref f)) (hb:Binds K fd ["row"] []) (T:Txt K mg) :DefN P w K mg base "halves_of" 1 1 dP:=
 aJ ["row","middle"] ["row"] 0 1 1 2 rfl rfl rfl F hm hb kr (m:=lq) λcdv A outer s H E hr=>(ao (aF kr.nd J0 J2 (aP pG (aB dE J1 T.b_len cD (ah (vL 0) aj)) aw)) (ay (aN (gc (ah (BZ yk (vL 0) ve (vf (vL 1))) (ah (BZ yk (vL 0) (vf (vL 1)) ve) aj))))))
theorem fZ:FnScope ["row","choices","table","step"] ["row","choices"] (defScope fT):=fsk
theorem tI (F:Fun K "table_of" "table_of" fT f fd) (hm:mg "table_of" = some (.ref f)) (hb:Binds K fd ["row","choices"] []) (T:Txt K mg) (d_stepped:DefN P w K mg base "stepped" 1 3 cY):DefN P w K mg base "table_of" 2 2 eu:=
 aJ ["row","choices","table","step"] ["row","choices"] 1 2 2 4 rfl rfl rfl F hm hb fZ (m:=mV) λcdv A outer s H E hr=>(ao (aF fZ.nd J0 J2 (lO (jO aw aw lN))) (ao (cN Yi rfl (cA (vL 0)) (aG fZ.nd J0 J2) (ay (aF fZ.nd J0 J2 (az d_stepped (hr.mono (by decide)) J1 (ah (vL 2) (ah (vL 3) (ah (vL 1) aj))) (ai (ai (ai aq))))))) (ay (aN (vL 2)))))
theorem kU:FnScope ["row"] ["row"] (defScope dh):=fsk
theorem kW (F:Fun K "half_worths" "half_worths" dh f fd) (hm:mg "half_worths" = some (.ref f)) (hb:Binds K fd ["row"] []) (T:Txt K mg) (d_halves_of:DefN P w K mg base "halves_of" 1 1 dP) (d_need_row_n:DefN P w K mg base "need_row" 3 1 aM) (d_table_of:DefN P w K mg base "table_of" 2 2 eu):DefN P w K mg base "half_worths" 4 1 cE:=
 aJ ["row"] ["row"] 3 4 1 1 rfl rfl rfl F hm hb kU (m:=ic) λcdv A outer s H E hr=>(ao (bM (az d_need_row_n (hr.mono (by decide)) J1 (ah (vL 0) aj) (ai aq))) (ay (aN (dJ fB J1 T.b_tuple cG (ah (cB (N:=["half"]) (k:=1) (caps:=[]) rfl (λ_ _ z=>z) (fC J0 J0 J0 J0 rfl J0) (cA (az d_halves_of (hr.mono (by decide)) J1 (ah (vL 0) aj) (ai aq))) (λ_ _ _ _=>(aG (show (["half"]:List Str).Nodup by decide +kernel) J0 J2)) (λ_ _ _ _=>cV) (λ_ _ _ _=>(dJ fB J1 T.b_tuple cG (ah (aB (yO rfl) J1 T.b_sorted nq (ah (az d_table_of (hr.mono (by decide)) J1 (ah (vL 0) (ah (rQ T.m_SIGNS J1) aj)) (ai (ai aq))) aj)) aj)))) aj)))))
theorem dR:FnScope ["row","number","worths","walked","i","j","both"] ["row","number"] (defScope i0):=fsk
theorem xx (F:Fun K "walk" "walk" i0 f fd) (hm:mg "walk" = some (.ref f)) (hb:Binds K fd ["row","number"] []) (T:Txt K mg) (d_half_worths_n:DefN P w K mg base "half_worths" 4 1 cE):DefN P w K mg base "walk" 5 2 gG:=
 aJ ["row","number","worths","walked","i","j","both"] ["row","number"] 4 5 2 7 rfl rfl rfl F hm hb dR (m:=sg) λcdv A outer s H E hr=>(ao (aF dR.nd J0 J2 (az d_half_worths_n (hr.mono (by decide)) J1 (ah (vL 0) aj) (ai aq))) (ao (aF dR.nd J0 J2 (kB aj)) (ao (aF dR.nd J0 J2 aw) (ao (aF dR.nd J0 J2 (aP jv (aB dE J1 T.b_len cD (ah (eK eJ (vL 2) aw) aj)) aw)) (ao (yt Yi (gu (tU (bA mD (vL 4) (aB dE J1 T.b_len cD (ah (eK eJ (vL 2) aw) aj))) (pC (bA u7 (vL 5) aw)))) (ao (aF dR.nd J0 J2 (aP bK (eK eJ (eK eJ (vL 2) aw) (vL 4)) (eK eJ (eK eJ (vL 2) aw) (vL 5)))) (ao (bM (pP We W7 W8 iT (vL 3) (ah (gc (ah (vL 4) (ah (vL 5) (ah (vL 6) aj)))) aj))) (ay (dv (bA mD (vL 6) (vL 1)) (ay (aF dR.nd J0 J2 (aP bK (vL 4) aw))) (ay (aF dR.nd J0 J2 (aP jv (vL 5) aw)))))))) (ay (aN (vL 3))))))))
theorem uK:FnScope ["row","number"] ["row","number"] (defScope gZ):=fsk
theorem uL (F:Fun K "above" "above" gZ f fd) (hm:mg "above" = some (.ref f)) (hb:Binds K fd ["row","number"] []) (T:Txt K mg) (d_need_row_and_number_n:DefN P w K mg base "need_row_and_number" 4 2 aH) (d_walk_n:DefN P w K mg base "walk" 5 2 gG):DefN P w K mg base "above" 6 2 gH:=
 aJ ["row","number"] ["row","number"] 5 6 2 2 rfl rfl rfl F hm hb uK (m:=oF) λcdv A outer s H E hr=>(ao (bM (az d_need_row_and_number_n (hr.mono (by decide)) J1 (ah (vL 0) (ah (vC 1) aj)) (ai (ai aq)))) (ay (aN (wY (A8 rfl hr) J1 T.b_min lV (ah (cB (N:=["i","j","both","number"]) (k:=3) (caps:=[1]) rfl (λ_ _ z=>z) (fC J0 J0 J0 J0 rfl J0) (yQ (az d_walk_n (hr.mono (by decide)) J1 (ah (vL 0) (ah (vC 1) aj)) (ai (ai aq)))) (λ_ _ _ _=>(iw rfl (bJ (aG (show (["i","j","both","number"]:List Str).Nodup by decide +kernel) J0 J2) (bJ (aG (show (["i","j","both","number"]:List Str).Nodup by decide +kernel) J0 J2) (bJ (aG (show (["i","j","both","number"]:List Str).Nodup by decide +kernel) J0 J2) fL))))) (λ_ _ _ _=>(vg (bA u7 (vL 2) (vC 3)))) (λ_ _ _ _=>(vL 2))) aj)))))
theorem lH:FnScope ["row"] ["row"] (defScope dC):=fsk
theorem lI (F:Fun K "unevenness" "unevenness" dC f fd) (hm:mg "unevenness" = some (.ref f)) (hb:Binds K fd ["row"] []) (T:Txt K mg) (d_above_n:DefN P w K mg base "above" 6 2 gH):DefN P w K mg base "unevenness" 7 1 cR:=
 aJ ["row"] ["row"] 6 7 1 1 rfl rfl rfl F hm hb lH (m:=iG) λcdv A outer s H E hr=>(ay (aN (az d_above_n (hr.mono (by decide)) J1 (ah (vL 0) (ah aw aj)) (ai (ai aq)))))
theorem eX:FnScope ["row","least","high","paper"] ["row"] (defScope dD):=fsk
theorem lJ (F:Fun K "_law_right" "_law_right" dD f fd) (hm:mg "_law_right" = some (.ref f)) (hb:Binds K fd ["row"] []) (T:Txt K mg) (d_calm_many_n:DefN P w K mg base "calm_many" 5 2 bF) (d_calm_n:DefN P w K mg base "calm" 5 1 gE) (d_is_swing_paper_n:DefN P w K mg base "is_swing_paper" 6 3 bW) (d_leaning_n:DefN P w K mg base "leaning" 4 1 eR) (d_least_swing_n:DefN P w K mg base "least_swing" 4 1 aU) (d_swing_n:DefN P w K mg base "swing" 5 2 cq) (d_swing_paper_n:DefN P w K mg base "swing_paper" 6 2 bz) (d_turned_n:DefN P w K mg base "turned" 6 2 dH) (d_unevenness_n:DefN P w K mg base "unevenness" 7 1 cR):DefN P w K mg base "_law_right" 8 1 bX:=
 aJ ["row","least","high","paper"] ["row"] 7 8 1 4 rfl rfl rfl F hm hb eX (m:=iH) λcdv A outer s H E hr=>(ao (Dd rfl eX.nd J0 J0 (by decide) J0 J0 (ah (az d_least_swing_n (hr.mono (by decide)) J1 (ah (vL 0) aj) (ai aq)) (ah (aB (Bf rfl) J1 T.b_max kn (ah (aP bK (gc (ah aw aj)) (vL 0)) aj)) aj))) (ao (dv (gu (iq (bA (jx hr) (az d_swing_n (hr.mono (by decide)) J1 (ah (vL 0) (ah (az d_calm_n (hr.mono (by decide)) J1 (ah (vL 0) aj) (ai aq)) aj)) (ai (ai aq))) (vL 1)) (gb (eS (yV og og (aB (pN rfl) J1 T.b_max kn (ah (az d_unevenness_n (hr.mono (by decide)) J1 (ah (vL 0) aj) (ai aq)) (ah (aP pG (aP bK (vL 2) aw) aw) aj))) (vL 1) (vL 2)))))) (ay (aN eI)) cn) (ao (dv (gu (iq (bA u6 (az d_swing_n (hr.mono (by decide)) J1 (ah (vL 0) (ah (az d_leaning_n (hr.mono (by decide)) J1 (ah (vL 0) aj) (ai aq)) aj)) (ai (ai aq))) (vL 2)) (gb (bA (jx hr) (az d_swing_n (hr.mono (by decide)) J1 (ah (vL 0) (ah (az d_turned_n (hr.mono (by decide)) J1 (ah (vL 0) (ah (az d_calm_n (hr.mono (by decide)) J1 (ah (vL 0) aj) (ai aq)) aj)) (ai (ai aq))) aj)) (ai (ai aq))) (vL 1))))) (ay (aN eI)) cn) (ao (dv (gu (iq (bA mD (az d_calm_many_n (hr.mono (by decide)) J1 (ah (vL 0) (ah (vL 1) aj)) (ai (ai aq))) aw) (iq (bA (jx hr) (az d_calm_many_n (hr.mono (by decide)) J1 (ah (vL 0) (ah (aP jv (vL 1) aw) aj)) (ai (ai aq))) aw) (gb (bA yz (az d_swing_paper_n (hr.mono (by decide)) J1 (ah (vL 0) (ah (vL 1) aj)) (ai (ai aq))) tT))))) (ay (aN eI)) cn) (ao (aF eX.nd J0 J2 (az d_swing_paper_n (hr.mono (by decide)) J1 (ah (vL 0) (ah (aP jv (vL 1) aw) aj)) (ai (ai aq)))) (ao (dv (gu (iq (bA E2 (vL 3) tT) (gb (bA wZ (az d_is_swing_paper_n (hr.mono (by decide)) J1 (ah (vL 3) (ah (vL 0) (ah (aP jv (vL 1) aw) aj))) (ai (ai (ai aq)))) eI)))) (ay (aN eI)) cn) (ay (aN (kz (mK hr) (az d_calm_many_n (hr.mono (by decide)) J1 (ah (vL 0) (ah (aB (Dq rfl) J1 T.b_sum BR (ah (vL 0) aj)) aj)) (ai (ai aq))) (aP yh aw (aB dE J1 T.b_len cD (ah (vL 0) aj))))))))))))
theorem g9:FnScope ["box","many","left","digit"] ["box","many"] (defScope fq):=fsk
theorem qS (F:Fun K "_law_take" "_law_take" fq f fd) (hm:mg "_law_take" = some (.ref f)) (hb:Binds K fd ["box","many"] []) (T:Txt K mg) :DefN P w K mg base "_law_take" 1 2 aS:=
 aJ ["box","many","left","digit"] ["box","many"] 0 1 2 4 rfl rfl rfl F hm hb g9 (m:=iI) λcdv A outer s H E hr=>(ao (Dc (aB wK J1 T.b_divmod uF (ah (eK eJ (vL 0) aw) (ah (vL 1) aj))) (iw rfl (bJ (aG g9.nd J0 J2) (bJ (aG g9.nd J0 J2) fL)))) (ao (pD yn (vL 2) (vL 0) aw) (ay (aN (vL 3)))))
theorem cT:FnScope ["box","most","many","kind","base","found","k","given"] ["box","most"] (defScope fU):=fsk
theorem tJ (F:Fun K "_law_row" "_law_row" fU f fd) (hm:mg "_law_row" = some (.ref f)) (hb:Binds K fd ["box","most"] []) (T:Txt K mg) (d__law_take:DefN P w K mg base "_law_take" 1 2 aS):DefN P w K mg base "_law_row" 2 2 fH:=
 aJ ["box","most","many","kind","base","found","k","given"] ["box","most"] 1 2 2 8 rfl rfl rfl F hm hb cT (m:=mW) λcdv A outer s H E hr=>(ao (aF cT.nd J0 J2 (az d__law_take (hr.mono (by decide)) J1 (ah (vL 0) (ah (aP bK (vL 1) aw) aj)) (ai (ai aq)))) (ao (aF cT.nd J0 J2 (az d__law_take (hr.mono (by decide)) J1 (ah (vL 0) (ah aw aj)) (ai (ai aq)))) (ao (aF cT.nd J0 J2 (aP bK aw (az d__law_take (hr.mono (by decide)) J1 (ah (vL 0) (ah aw aj)) (ai (ai aq))))) (ao (aF cT.nd J0 J2 (kB aj)) (ao (cN Yi rfl (iS J1 T.b_range (ah (vL 2) aj)) (aG cT.nd J0 J2) (ao (aF cT.nd J0 J2 (aP bK aw (az d__law_take (hr.mono (by decide)) J1 (ah (vL 0) (ah aw aj)) (ai (ai aq))))) (ay (bM (pP We W7 W8 iT (vL 5) (ah (eK eJ (C9 (ah (vL 7) (ah (vL 7) (ah (vL 4) (ah (aP yh aw (vL 6)) (ah (aP bK (vL 4) (aP dm (vL 6) (vL 7))) (ah (aP bK (aP dm (aP Dg aw aw) (vL 7)) (vL 4)) aj))))))) (vL 3)) aj)))))) (ay (aN (dJ fB J1 T.b_tuple cG (ah (vL 5) aj)))))))))
theorem nO:FnScope ["box","many"] ["box","many"] (defScope eF):=fsk
theorem nP (F:Fun K "_law_signs" "_law_signs" eF f fd) (hm:mg "_law_signs" = some (.ref f)) (hb:Binds K fd ["box","many"] []) (T:Txt K mg) (d__law_take:DefN P w K mg base "_law_take" 1 2 aS):DefN P w K mg base "_law_signs" 2 2 ef:=
 aJ ["box","many"] ["box","many"] 1 2 2 2 rfl rfl rfl F hm hb nO (m:=j7) λcdv A outer s H E hr=>(ay (aN (dJ fB J1 T.b_tuple cG (ah (cB (N:=["one","box"]) (k:=1) (caps:=[0]) rfl (λ_ _ z=>z) (fC J0 J0 J0 J0 rfl J0) (iS J1 T.b_range (ah (vL 1) aj)) (λ_ _ _ _=>(aG (show (["one","box"]:List Str).Nodup by decide +kernel) J0 J2)) (λ_ _ _ _=>cV) (λ_ _ _ _=>(aP jv (aP dm aw (az d__law_take (hr.mono (by decide)) J1 (ah (vC 1) (ah aw aj)) (ai (ai aq)))) aw))) aj))))
theorem jF:FnScope ["script","k","box","row","more","signs","here"] ["script"] (defScope kM):=fsk
end
/-! what the top has written -/
theorem Ea {K:PySem.W.Frag}
  (gt:PySem.W.specialIn K (.builtin "object.__class__") "__get__" = some (some (.builtin "getset_descriptor.__get__")))
  (tk:PySem.W.takesIn K (.builtin "object.__class__")=some true):Cls K raisedX askedX isaX:=
 ⟨gt,tk,λc hc=>by simp [raisedX] at hc,
  λc hc k hk=>by simp [raisedX,askedX] at hc hk⟩
abbrev FnI (K:PySem.W.Frag) (n:Str) (st:Stmt):Prop:=∃ (f:Addr) (oc:Value) (od:Option Addr) (sl:Array (Option Value)) (kV dc pm:Value) (an:Option Addr) (cd ct:Value),PySem.W.nsIn K mainGlobals n=some (some (.ref f))/\K.lookup f=some ⟨oc,od,.func (PySem.W.fnOf n n (defArgs st) (defBody st) (defScope st) .none kV dc pm an cd ct),sl⟩/\PySem.W.codeIn K cd n=true/\PySem.W.keepIn K (.ref f)=true
theorem br {K:PySem.W.Frag} {n:Str} {st:Stmt} {oc:Value} {od:Option Addr} {sl:Array (Option Value)} {kV dc pm:Value} {an:Option Addr} {cd ct:Value} (a:PySem.W.nsIn K mainGlobals n=some (some (.ref f))) (l:K.lookup f=some ⟨oc,od,.func (PySem.W.fnOf n n (defArgs st) (defBody st) (defScope st) .none kV dc pm an cd ct),sl⟩) (c:PySem.W.codeIn K cd n=true) (k:PySem.W.keepIn K (.ref f)=true):FnI K n st:=⟨f,oc,od,sl,kV,dc,pm,an,cd,ct,a,l,c,k⟩
theorem us1 {p:List Value -> Prop} (h:∀ a,p [a]) (us:List Value) (e:us.length=1):p us:=by
 rcases us with _ | ⟨a,_ | ⟨b,r⟩⟩
 · simp at e
 · exact h a
 · simp at e
theorem us2 {p:List Value -> Prop} (h:∀ a b,p [a,b]) (us:List Value) (e:us.length=2):p us:=by
 rcases us with _ | ⟨a,_ | ⟨b,_ | ⟨c,r⟩⟩⟩
 · simp at e
 · simp at e
 · exact h a b
 · simp at e
theorem us3 {p:List Value -> Prop} (h:∀ a b c,p [a,b,c]) (us:List Value) (e:us.length=3):p us:=by
 rcases us with _ | ⟨a,_ | ⟨b,_ | ⟨c,_ | ⟨d,r⟩⟩⟩⟩
 · simp at e
 · simp at e
 · simp at e
 · exact h a b c
 · simp at e
theorem us4 {p:List Value -> Prop} (h:∀ a b c d,p [a,b,c,d]) (us:List Value) (e:us.length=4):p us:=by
 rcases us with _ | ⟨a,_ | ⟨b,_ | ⟨c,_ | ⟨d,_ | ⟨x,r⟩⟩⟩⟩⟩
 · simp at e
 · simp at e
 · simp at e
 · simp at e
 · exact h a b c d
 · simp at e
theorem all_mk {P:Program} {w:World} {K:PySem.W.Frag} {h:Heap} {mg:Str->Option Value} {fa:Addr} (X:K.In h) (G:h.Ns mainGlobals mg) (hfa:mg "law" = some (.ref fa))   {t_LONGEST_ROW:Tok} {t_LONGEST_TABLED:Tok} {A_SIGNS:Addr} {od_SIGNS:Option Addr} {n_SIGNS:Nat} {sl_SIGNS:Array (Option Value)} {u0_SIGNS:Tok} {u1_SIGNS:Tok}
  (h0:FnI K "_law_box" fO)
  (h1:FnI K "is_whole" fP)
  (h2:FnI K "need_number" cX)
  (h3:FnI K "is_row" iY)
  (h4:FnI K "need_row" eD)
  (h5:FnI K "need_row_and_number" bE)
  (h6:FnI K "kept_within" dY)
  (h7:FnI K "stepped" gX)
  (h8:FnI K "tables_within" cZ)
  (h9:FnI K "calm_many" dZ)
  (h10:FnI K "firsts_stepped" cL)
  (h11:FnI K "swings_stepped" cM)
  (h12:FnI K "least_swing" de)
  (h13:FnI K "calm" iZ)
  (h14:FnI K "is_rising" fj)
  (h15:FnI K "leads_on_within" cC)
  (h16:FnI K "need_few" eE)
  (h17:FnI K "need_few_and_number" bG)
  (h18:FnI K "is_swing_paper" ck)
  (h19:FnI K "leaning" fk)
  (h20:FnI K "are_whole" fm)
  (h21:FnI K "are_so_many_signs" cg)
  (h22:FnI K "need_so_many_signs" bO)
  (h23:FnI K "swing" gY)
  (h24:FnI K "swing_paper" dg)
  (h25:FnI K "are_parts" d8)
  (h26:FnI K "need_parts" dz)
  (h27:FnI K "turned" fR)
  (h28:FnI K "halves_of" fo)
  (h29:FnI K "table_of" fT)
  (h30:FnI K "half_worths" dh)
  (h31:FnI K "walk" i0)
  (h32:FnI K "above" gZ)
  (h33:FnI K "unevenness" dC)
  (h34:FnI K "_law_right" dD)
  (h35:FnI K "_law_take" fq)
  (h36:FnI K "_law_row" fU)
  (h37:FnI K "_law_signs" eF)
  (h38:FnI K "law" kM)
  (z_abs:PySem.W.nsIn K mainGlobals "abs" = some none)
  (z_all:PySem.W.nsIn K mainGlobals "all" = some none)
  (z_bool:PySem.W.nsIn K mainGlobals "bool" = some none)
  (z_dict:PySem.W.nsIn K mainGlobals "dict" = some none)
  (z_divmod:PySem.W.nsIn K mainGlobals "divmod" = some none)
  (z_enumerate:PySem.W.nsIn K mainGlobals "enumerate" = some none)
  (z_int:PySem.W.nsIn K mainGlobals "int" = some none)
  (z_isinstance:PySem.W.nsIn K mainGlobals "isinstance" = some none)
  (z_len:PySem.W.nsIn K mainGlobals "len" = some none)
  (z_list:PySem.W.nsIn K mainGlobals "list" = some none)
  (z_max:PySem.W.nsIn K mainGlobals "max" = some none)
  (z_min:PySem.W.nsIn K mainGlobals "min" = some none)
  (z_range:PySem.W.nsIn K mainGlobals "range" = some none)
  (z_sorted:PySem.W.nsIn K mainGlobals "sorted" = some none)
  (z_sum:PySem.W.nsIn K mainGlobals "sum" = some none)
  (z_tuple:PySem.W.nsIn K mainGlobals "tuple" = some none)
  (z_zip:PySem.W.nsIn K mainGlobals "zip" = some none)
  (z_LONGEST_ROW:PySem.W.nsIn K mainGlobals "LONGEST_ROW" = some (some (.int 16 t_LONGEST_ROW)))
  (z_LONGEST_TABLED:PySem.W.nsIn K mainGlobals "LONGEST_TABLED" = some (some (.int 10 t_LONGEST_TABLED)))
  (zt_SIGNS:PySem.W.nsIn K mainGlobals "SIGNS" = some (some (.ref A_SIGNS))) (yt_SIGNS:K.lookup A_SIGNS=some ⟨.type "tuple",od_SIGNS,.seq #[.int (-1) u0_SIGNS,.int (1) u1_SIGNS] n_SIGNS,sl_SIGNS⟩)
  (gt:PySem.W.specialIn K (.builtin "object.__class__") "__get__" = some (some (.builtin "getset_descriptor.__get__")))
  (tk:PySem.W.takesIn K (.builtin "object.__class__")=some true):
  ∃ fd:FuncData,(∀ (s:Shared) (v:Value),BindsTo s fd ⟨[v],[]⟩ [("script",v)])/\∀ base:Heap,K.In base->base.Ns mainGlobals mg->FnOk P w K mg base (CX1 P w) 9 fa fd ["script"] (spN K 1 vv):=by
 obtain ⟨f0,oc0,od0,sl0,kV0,dc0,pm0,an0,cd0,ct0,a0,l0,c0,k0⟩:=h0
 obtain ⟨f1,oc1,od1,sl1,kV1,dc1,pm1,an1,cd1,ct1,a1,l1,c1,k1⟩:=h1
 obtain ⟨f2,oc2,od2,sl2,kV2,dc2,pm2,an2,cd2,ct2,a2,l2,c2,k2⟩:=h2
 obtain ⟨f3,oc3,od3,sl3,kV3,dc3,pm3,an3,cd3,ct3,a3,l3,c3,k3⟩:=h3
 obtain ⟨f4,oc4,od4,sl4,kV4,dc4,pm4,an4,cd4,ct4,a4,l4,c4,k4⟩:=h4
 obtain ⟨f5,oc5,od5,sl5,kV5,dc5,pm5,an5,cd5,ct5,a5,l5,c5,k5⟩:=h5
 obtain ⟨f6,oc6,od6,sl6,kV6,dc6,pm6,an6,cd6,ct6,a6,l6,c6,k6⟩:=h6
 obtain ⟨f7,oc7,od7,sl7,kV7,dc7,pm7,an7,cd7,ct7,a7,l7,c7,k7⟩:=h7
 obtain ⟨f8,oc8,od8,sl8,kV8,dc8,pm8,an8,cd8,ct8,a8,l8,c8,k8⟩:=h8
 obtain ⟨f9,oc9,od9,sl9,kV9,dc9,pm9,an9,cd9,ct9,a9,l9,c9,k9⟩:=h9
 obtain ⟨f10,oc10,od10,sl10,kV10,dc10,pm10,an10,cd10,ct10,a10,l10,c10,k10⟩:=h10
 obtain ⟨f11,oc11,od11,sl11,kV11,dc11,pm11,an11,cd11,ct11,a11,l11,c11,k11⟩:=h11
 obtain ⟨f12,oc12,od12,sl12,kV12,dc12,pm12,an12,cd12,ct12,a12,l12,c12,k12⟩:=h12
 obtain ⟨f13,oc13,od13,sl13,kV13,dc13,pm13,an13,cd13,ct13,a13,l13,c13,k13⟩:=h13
 obtain ⟨f14,oc14,od14,sl14,kV14,dc14,pm14,an14,cd14,ct14,a14,l14,c14,k14⟩:=h14
 obtain ⟨f15,oc15,od15,sl15,kV15,dc15,pm15,an15,cd15,ct15,a15,l15,c15,k15⟩:=h15
 obtain ⟨f16,oc16,od16,sl16,kV16,dc16,pm16,an16,cd16,ct16,a16,l16,c16,k16⟩:=h16
 obtain ⟨f17,oc17,od17,sl17,kV17,dc17,pm17,an17,cd17,ct17,a17,l17,c17,k17⟩:=h17
 obtain ⟨f18,oc18,od18,sl18,kV18,dc18,pm18,an18,cd18,ct18,a18,l18,c18,k18⟩:=h18
 obtain ⟨f19,oc19,od19,sl19,kV19,dc19,pm19,an19,cd19,ct19,a19,l19,c19,k19⟩:=h19
 obtain ⟨f20,oc20,od20,sl20,kV20,dc20,pm20,an20,cd20,ct20,a20,l20,c20,k20⟩:=h20
 obtain ⟨f21,oc21,od21,sl21,kV21,dc21,pm21,an21,cd21,ct21,a21,l21,c21,k21⟩:=h21
 obtain ⟨f22,oc22,od22,sl22,kV22,dc22,pm22,an22,cd22,ct22,a22,l22,c22,k22⟩:=h22
 obtain ⟨f23,oc23,od23,sl23,kV23,dc23,pm23,an23,cd23,ct23,a23,l23,c23,k23⟩:=h23
 obtain ⟨f24,oc24,od24,sl24,kV24,dc24,pm24,an24,cd24,ct24,a24,l24,c24,k24⟩:=h24
 obtain ⟨f25,oc25,od25,sl25,kV25,dc25,pm25,an25,cd25,ct25,a25,l25,c25,k25⟩:=h25
 obtain ⟨f26,oc26,od26,sl26,kV26,dc26,pm26,an26,cd26,ct26,a26,l26,c26,k26⟩:=h26
 obtain ⟨f27,oc27,od27,sl27,kV27,dc27,pm27,an27,cd27,ct27,a27,l27,c27,k27⟩:=h27
 obtain ⟨f28,oc28,od28,sl28,kV28,dc28,pm28,an28,cd28,ct28,a28,l28,c28,k28⟩:=h28
 obtain ⟨f29,oc29,od29,sl29,kV29,dc29,pm29,an29,cd29,ct29,a29,l29,c29,k29⟩:=h29
 obtain ⟨f30,oc30,od30,sl30,kV30,dc30,pm30,an30,cd30,ct30,a30,l30,c30,k30⟩:=h30
 obtain ⟨f31,oc31,od31,sl31,kV31,dc31,pm31,an31,cd31,ct31,a31,l31,c31,k31⟩:=h31
 obtain ⟨f32,oc32,od32,sl32,kV32,dc32,pm32,an32,cd32,ct32,a32,l32,c32,k32⟩:=h32
 obtain ⟨f33,oc33,od33,sl33,kV33,dc33,pm33,an33,cd33,ct33,a33,l33,c33,k33⟩:=h33
 obtain ⟨f34,oc34,od34,sl34,kV34,dc34,pm34,an34,cd34,ct34,a34,l34,c34,k34⟩:=h34
 obtain ⟨f35,oc35,od35,sl35,kV35,dc35,pm35,an35,cd35,ct35,a35,l35,c35,k35⟩:=h35
 obtain ⟨f36,oc36,od36,sl36,kV36,dc36,pm36,an36,cd36,ct36,a36,l36,c36,k36⟩:=h36
 obtain ⟨f37,oc37,od37,sl37,kV37,dc37,pm37,an37,cd37,ct37,a37,l37,c37,k37⟩:=h37
 obtain ⟨f38,oc38,od38,sl38,kV38,dc38,pm38,an38,cd38,ct38,a38,l38,c38,k38⟩:=h38
 have e:=hfa.symm.trans (Jr X G a38)
 cases e
 have T:Txt K mg:=⟨Ea gt tk,Y8 X G z_abs,Y8 X G z_all,Y8 X G z_bool,Y8 X G z_dict,Y8 X G z_divmod,Y8 X G z_enumerate,Y8 X G z_int,Y8 X G z_isinstance,Y8 X G z_len,Y8 X G z_list,Y8 X G z_max,Y8 X G z_min,Y8 X G z_range,Y8 X G z_sorted,Y8 X G z_sum,Y8 X G z_tuple,Y8 X G z_zip,⟨_,Jr X G z_LONGEST_ROW⟩,⟨_,Jr X G z_LONGEST_TABLED⟩,AY X G zt_SIGNS yt_SIGNS⟩
 have F0:=aT (st:=fO) l0 c0 k0
 have b0:=F0.binds (ps:=["script","k"]) λ_ _ _ _ _ _=>us2 λ_ _=>rfl
 have F1:=aT (st:=fP) l1 c1 k1
 have b1:=F1.binds (ps:=["thing"]) λ_ _ _ _ _ _=>us1 λ_=>rfl
 have F2:=aT (st:=cX) l2 c2 k2
 have b2:=F2.binds (ps:=["thing"]) λ_ _ _ _ _ _=>us1 λ_=>rfl
 have F3:=aT (st:=iY) l3 c3 k3
 have b3:=F3.binds (ps:=["thing"]) λ_ _ _ _ _ _=>us1 λ_=>rfl
 have F4:=aT (st:=eD) l4 c4 k4
 have b4:=F4.binds (ps:=["thing"]) λ_ _ _ _ _ _=>us1 λ_=>rfl
 have F5:=aT (st:=bE) l5 c5 k5
 have b5:=F5.binds (ps:=["row","number"]) λ_ _ _ _ _ _=>us2 λ_ _=>rfl
 have F6:=aT (st:=dY) l6 c6 k6
 have b6:=F6.binds (ps:=["reached","bound"]) λ_ _ _ _ _ _=>us2 λ_ _=>rfl
 have F7:=aT (st:=gX) l7 c7 k7
 have b7:=F7.binds (ps:=["table","step","choices"]) λ_ _ _ _ _ _=>us3 λ_ _ _=>rfl
 have F8:=aT (st:=cZ) l8 c8 k8
 have b8:=F8.binds (ps:=["row","bound"]) λ_ _ _ _ _ _=>us2 λ_ _=>rfl
 have F9:=aT (st:=dZ) l9 c9 k9
 have b9:=F9.binds (ps:=["row","number"]) λ_ _ _ _ _ _=>us2 λ_ _=>rfl
 have F10:=aT (st:=cL) l10 c10 k10
 have b10:=F10.binds (ps:=["firsts","step"]) λ_ _ _ _ _ _=>us2 λ_ _=>rfl
 have F11:=aT (st:=cM) l11 c11 k11
 have b11:=F11.binds (ps:=["swings","step"]) λ_ _ _ _ _ _=>us2 λ_ _=>rfl
 have F12:=aT (st:=de) l12 c12 k12
 have b12:=F12.binds (ps:=["row"]) λ_ _ _ _ _ _=>us1 λ_=>rfl
 have F13:=aT (st:=iZ) l13 c13 k13
 have b13:=F13.binds (ps:=["row"]) λ_ _ _ _ _ _=>us1 λ_=>rfl
 have F14:=aT (st:=fj) l14 c14 k14
 have b14:=F14.binds (ps:=["thing"]) λ_ _ _ _ _ _=>us1 λ_=>rfl
 have F15:=aT (st:=cC) l15 c15 k15
 have b15:=F15.binds (ps:=["layer","following","step","bound"]) λ_ _ _ _ _ _=>us4 λ_ _ _ _=>rfl
 have F16:=aT (st:=eE) l16 c16 k16
 have b16:=F16.binds (ps:=["row"]) λ_ _ _ _ _ _=>us1 λ_=>rfl
 have F17:=aT (st:=bG) l17 c17 k17
 have b17:=F17.binds (ps:=["row","number"]) λ_ _ _ _ _ _=>us2 λ_ _=>rfl
 have F18:=aT (st:=ck) l18 c18 k18
 have b18:=F18.binds (ps:=["thing","row","number"]) λ_ _ _ _ _ _=>us3 λ_ _ _=>rfl
 have F19:=aT (st:=fk) l19 c19 k19
 have b19:=F19.binds (ps:=["row"]) λ_ _ _ _ _ _=>us1 λ_=>rfl
 have F20:=aT (st:=fm) l20 c20 k20
 have b20:=F20.binds (ps:=["thing","many"]) λ_ _ _ _ _ _=>us2 λ_ _=>rfl
 have F21:=aT (st:=cg) l21 c21 k21
 have b21:=F21.binds (ps:=["thing","many"]) λ_ _ _ _ _ _=>us2 λ_ _=>rfl
 have F22:=aT (st:=bO) l22 c22 k22
 have b22:=F22.binds (ps:=["thing","many"]) λ_ _ _ _ _ _=>us2 λ_ _=>rfl
 have F23:=aT (st:=gY) l23 c23 k23
 have b23:=F23.binds (ps:=["row","signs"]) λ_ _ _ _ _ _=>us2 λ_ _=>rfl
 have F24:=aT (st:=dg) l24 c24 k24
 have b24:=F24.binds (ps:=["row","number"]) λ_ _ _ _ _ _=>us2 λ_ _=>rfl
 have F25:=aT (st:=d8) l25 c25 k25
 have b25:=F25.binds (ps:=["thing","row"]) λ_ _ _ _ _ _=>us2 λ_ _=>rfl
 have F26:=aT (st:=dz) l26 c26 k26
 have b26:=F26.binds (ps:=["row","thing"]) λ_ _ _ _ _ _=>us2 λ_ _=>rfl
 have F27:=aT (st:=fR) l27 c27 k27
 have b27:=F27.binds (ps:=["row","parts"]) λ_ _ _ _ _ _=>us2 λ_ _=>rfl
 have F28:=aT (st:=fo) l28 c28 k28
 have b28:=F28.binds (ps:=["row"]) λ_ _ _ _ _ _=>us1 λ_=>rfl
 have F29:=aT (st:=fT) l29 c29 k29
 have b29:=F29.binds (ps:=["row","choices"]) λ_ _ _ _ _ _=>us2 λ_ _=>rfl
 have F30:=aT (st:=dh) l30 c30 k30
 have b30:=F30.binds (ps:=["row"]) λ_ _ _ _ _ _=>us1 λ_=>rfl
 have F31:=aT (st:=i0) l31 c31 k31
 have b31:=F31.binds (ps:=["row","number"]) λ_ _ _ _ _ _=>us2 λ_ _=>rfl
 have F32:=aT (st:=gZ) l32 c32 k32
 have b32:=F32.binds (ps:=["row","number"]) λ_ _ _ _ _ _=>us2 λ_ _=>rfl
 have F33:=aT (st:=dC) l33 c33 k33
 have b33:=F33.binds (ps:=["row"]) λ_ _ _ _ _ _=>us1 λ_=>rfl
 have F34:=aT (st:=dD) l34 c34 k34
 have b34:=F34.binds (ps:=["row"]) λ_ _ _ _ _ _=>us1 λ_=>rfl
 have F35:=aT (st:=fq) l35 c35 k35
 have b35:=F35.binds (ps:=["box","many"]) λ_ _ _ _ _ _=>us2 λ_ _=>rfl
 have F36:=aT (st:=fU) l36 c36 k36
 have b36:=F36.binds (ps:=["box","most"]) λ_ _ _ _ _ _=>us2 λ_ _=>rfl
 have F37:=aT (st:=eF) l37 c37 k37
 have b37:=F37.binds (ps:=["box","many"]) λ_ _ _ _ _ _=>us2 λ_ _=>rfl
 have F38:=aT (st:=kM) l38 c38 k38
 have b38:=F38.binds (ps:=["script"]) λ_ _ _ _ _ _=>us1 λ_=>rfl
 refine ⟨PySem.W.fnOf "law" "law" (defArgs kM) (defBody kM) (defScope kM) .none kV38 dc38 pm38 an38 cd38 ct38,λs v=>.of_eq rfl,λbase _ _=>?_⟩
 have d__law_box:DefN P w K mg base "_law_box" 1 2 dG:=tD F0 (Jr X G a0) b0 T
 have d_is_whole:DefN P w K mg base "is_whole" 1 1 ba:=tF F1 (Jr X G a1) b1 T
 have d_need_number_n:DefN P w K mg base "need_number" 2 1 cf:=kQ F2 (Jr X G a2) b2 T d_is_whole
 have d_is_row:DefN P w K mg base "is_row" 2 1 eQ:=xv F3 (Jr X G a3) b3 T d_is_whole
 have d_need_row_n:DefN P w K mg base "need_row" 3 1 aM:=nL F4 (Jr X G a4) b4 T d_is_row
 have d_need_row_and_number_n:DefN P w K mg base "need_row_and_number" 4 2 aH:=gk F5 (Jr X G a5) b5 T d_need_number_n d_need_row_n
 have d_kept_within:DefN P w K mg base "kept_within" 1 2 bc:=nt F6 (Jr X G a6) b6 T
 have d_stepped:DefN P w K mg base "stepped" 1 3 cY:=uH F7 (Jr X G a7) b7 T
 have d_tables_within:DefN P w K mg base "tables_within" 2 2 bP:=kR F8 (Jr X G a8) b8 T d_kept_within d_stepped
 have d_calm_many_n:DefN P w K mg base "calm_many" 5 2 bF:=nu F9 (Jr X G a9) b9 T d_need_row_and_number_n d_tables_within
 have d_firsts_stepped:DefN P w K mg base "firsts_stepped" 1 2 bT:=ko F10 (Jr X G a10) b10 T
 have d_swings_stepped:DefN P w K mg base "swings_stepped" 1 2 bU:=kq F11 (Jr X G a11) b11 T
 have d_least_swing_n:DefN P w K mg base "least_swing" 4 1 aU:=kS F12 (Jr X G a12) b12 T d_need_row_n d_swings_stepped
 have d_calm_n:DefN P w K mg base "calm" 5 1 gE:=xw F13 (Jr X G a13) b13 T d_firsts_stepped d_kept_within d_least_swing_n
 have d_is_rising:DefN P w K mg base "is_rising" 2 1 dN:=qN F14 (Jr X G a14) b14 T d_is_whole
 have d_leads_on_within:DefN P w K mg base "leads_on_within" 1 4 bN:=jE F15 (Jr X G a15) b15 T
 have d_need_few_n:DefN P w K mg base "need_few" 4 1 d5:=nN F16 (Jr X G a16) b16 T d_need_row_n
 have d_need_few_and_number_n:DefN P w K mg base "need_few_and_number" 5 2 aR:=gp F17 (Jr X G a17) b17 T d_need_few_n d_need_row_and_number_n
 have d_is_swing_paper_n:DefN P w K mg base "is_swing_paper" 6 3 bW:=jf F18 (Jr X G a18) b18 T d_is_rising d_leads_on_within d_need_few_and_number_n
 have d_leaning_n:DefN P w K mg base "leaning" 4 1 eR:=qO F19 (Jr X G a19) b19 T d_need_row_n
 have d_are_whole:DefN P w K mg base "are_whole" 2 2 cP:=qQ F20 (Jr X G a20) b20 T d_is_whole
 have d_are_so_many_signs:DefN P w K mg base "are_so_many_signs" 3 2 bR:=iR F21 (Jr X G a21) b21 T d_are_whole
 have d_need_so_many_signs_n:DefN P w K mg base "need_so_many_signs" 4 2 bj:=gL F22 (Jr X G a22) b22 T d_are_so_many_signs
 have d_swing_n:DefN P w K mg base "swing" 5 2 cq:=uJ F23 (Jr X G a23) b23 T d_need_row_n d_need_so_many_signs_n
 have d_swing_paper_n:DefN P w K mg base "swing_paper" 6 2 bz:=kT F24 (Jr X G a24) b24 T d_need_few_and_number_n d_tables_within
 have d_are_parts_n:DefN P w K mg base "are_parts" 4 2 dw:=ny F25 (Jr X G a25) b25 T d_are_whole d_need_row_n
 have d_need_parts_n:DefN P w K mg base "need_parts" 5 2 cQ:=lG F26 (Jr X G a26) b26 T d_are_parts_n
 have d_turned_n:DefN P w K mg base "turned" 6 2 dH:=tH F27 (Jr X G a27) b27 T d_need_parts_n
 have d_halves_of:DefN P w K mg base "halves_of" 1 1 dP:=qR F28 (Jr X G a28) b28 T
 have d_table_of:DefN P w K mg base "table_of" 2 2 eu:=tI F29 (Jr X G a29) b29 T d_stepped
 have d_half_worths_n:DefN P w K mg base "half_worths" 4 1 cE:=kW F30 (Jr X G a30) b30 T d_halves_of d_need_row_n d_table_of
 have d_walk_n:DefN P w K mg base "walk" 5 2 gG:=xx F31 (Jr X G a31) b31 T d_half_worths_n
 have d_above_n:DefN P w K mg base "above" 6 2 gH:=uL F32 (Jr X G a32) b32 T d_need_row_and_number_n d_walk_n
 have d_unevenness_n:DefN P w K mg base "unevenness" 7 1 cR:=lI F33 (Jr X G a33) b33 T d_above_n
 have d__law_right_n:DefN P w K mg base "_law_right" 8 1 bX:=lJ F34 (Jr X G a34) b34 T d_calm_many_n d_calm_n d_is_swing_paper_n d_leaning_n d_least_swing_n d_swing_n d_swing_paper_n d_turned_n d_unevenness_n
 have d__law_take:DefN P w K mg base "_law_take" 1 2 aS:=qS F35 (Jr X G a35) b35 T
 have d__law_row:DefN P w K mg base "_law_row" 2 2 fH:=tJ F36 (Jr X G a36) b36 T d__law_take
 have d__law_signs:DefN P w K mg base "_law_signs" 2 2 ef:=nP F37 (Jr X G a37) b37 T d__law_take
 exact AL ["script","k","box","row","more","signs","here"] ["script"] 8 9 1 7 rfl rfl rfl (m:=B6) F38 jF λcdv A outer s H E hr=>(ao (cN Yi rfl (iS J1 T.b_range (ah (aB (pN rfl) J1 T.b_max kn (ah aw (ah (aB (tY rfl) J1 T.b_min lV (ah (aB dE J1 T.b_len cD (ah (vL 0) aj)) (ah aw aj))) aj))) aj)) (aG jF.nd J0 J2) (ao (aF jF.nd J0 J2 (az d__law_box (hr.mono (by decide)) J1 (ah (vL 0) (ah (vL 1) aj)) (ai (ai aq)))) (ao (aF jF.nd J0 J2 (az d__law_row (hr.mono (by decide)) J1 (ah (vL 2) (ah aw aj)) (ai (ai aq)))) (ao (dv (eS (fA (az d__law_right_n (hr.mono (by decide)) J1 (ah (vL 3) aj) (ai aq)))) (ay (aN eI)) cn) (ao (aF jF.nd J0 J2 (aP bK (vL 3) (gc (ah (aP bK aw (az d__law_take (hr.mono (by decide)) J1 (ah (vL 2) (ah aw aj)) (ai (ai aq)))) aj)))) (ao (dv (gu (iq (bA mD (az d_least_swing_n (hr.mono (by decide)) J1 (ah (vL 4) aj) (ai aq)) (az d_least_swing_n (hr.mono (by decide)) J1 (ah (vL 3) aj) (ai aq))) (gb (eS (fA (az d__law_right_n (hr.mono (by decide)) J1 (ah (vL 4) aj) (ai aq))))))) (ay (aN eI)) cn) (ao (aF jF.nd J0 J2 (az d__law_signs (hr.mono (by decide)) J1 (ah (vL 2) (ah (aB dE J1 T.b_len cD (ah (vL 3) aj)) aj)) (ai (ai aq)))) (ao (aF jF.nd J0 J2 (az d_swing_n (hr.mono (by decide)) J1 (ah (vL 3) (ah (vL 5) aj)) (ai (ai aq)))) (ay (dv (gu (iq (bA (jx hr) (az d_swing_n (hr.mono (by decide)) J1 (ah (vL 3) (ah (az d_turned_n (hr.mono (by decide)) J1 (ah (vL 3) (ah (vL 5) aj)) (ai (ai aq))) aj)) (ai (ai aq))) (vL 6)) (gb (bA mD (az d_calm_many_n (hr.mono (by decide)) J1 (ah (vL 3) (ah (vL 6) aj)) (ai (ai aq))) (aP dm aw (dJ Di J1 T.b_int wb (ah (kz (jx hr) (vL 3) (gc aj)) aj))))))) (ay (aN eI)) cn)))))))))) (ay (aN eI)))
theorem walk {l:PySem.W.OpenLaw} {q:Program} {loose:List Str} {XP:(Str->Option Value)->Heap->Prop} {YP:World->Heap->Prop} {d:DefRec} {K:Params->PySem.W.Frag} (hn:l.most=some 63) (hdf:d.params.defaults=[])
  (hY:∀ (w:World) (h:Heap),YP w h->(K w.params).In h)
  (F:∀ (w:World) (mg:Str->Option Value) (fa:Addr) (h:Heap),(K w.params).In h->h.Ns mainGlobals mg->mg d.name=some (.ref fa)->
   ∃ fd:FuncData,(∀ (s:Shared) (u:Value),BindsTo s fd ⟨[u],[]⟩ [("script",u)])/\∀ base:Heap,(K w.params).In base->base.Ns mainGlobals mg->FnOk l.prog w (K w.params) mg base (CX1 l.prog w) 9 fa fd ["script"] (spN (K w.params) 1 vv)):
  PySem.W.WalkO q loose XP YP l.row.toRowW d [] (λf vs=>PySem.call f vs):=
 L2.Ay (n:=63) (k:=9) (x:="script") (CX:=λw=>CX1 l.prog w) (sp:=λw=>spN (K w.params) 1 vv) hn (by decide) hdf ⟨rfl,by decide,by decide,rfl⟩ hY F (λw H a ns hl ho hS=>AN zT (K w.params) H a ns hl ho hS) λ_ _ _ _ _ z=>Ds z
end Lw
open PySem PySem.W PyProof.Rows
set_option maxRecDepth 100000 in
set_option maxHeartbeats 0 in
theorem PySem.Challenge.cw_plusless_k55_whole_swings_holds : PySem.Challenge.rw_plusless_k55_whole_swings.Holds := by
  w_on; o_law
  refine holds_open (q := Lw.hV) (loose := []) (Xt := Lw.hX) (XP := XL Lw.hV []) (Yf := Hook.obs (kHook Lw.hK Lw.hA Lw.hKA)) (Ya := Hook.val (kHook Lw.hK Lw.hA Lw.hKA)) (YP := Hook.says (kHook Lw.hK Lw.hA Lw.hKA)) (N := 4806) Lw.left (Hook.of (kHook Lw.hK Lw.hA Lw.hKA)) (Hook.keeps (kHook Lw.hK Lw.hA Lw.hKA)) (λs e => xl_of s (Bool.and_eq_true_iff.mp e).1) XL.keeps (by rfl) (by rfl) (by rfl) (λs e => recFacts_of (Bool.and_eq_true_iff.mp e).2) (by rfl) (by first | assumption | decide +kernel) (by decide +kernel) ⟨rfl, rfl, rfl, rfl, rfl, by decide +kernel⟩ ?hw ?hc
  case hw => w_witness2
  k_fill
  refine Lw.walk (l := PySem.Challenge.rw_plusless_k55_whole_swings) rfl rfl (λw h Y => by first | exact PySem.W.kIn_of Y | exact Y.1) ?F
  case F =>
    intro w mg fa h KX G hmg
    refine' Lw.all_mk KX G hmg ?h0 ?h1 ?h2 ?h3 ?h4 ?h5 ?h6 ?h7 ?h8 ?h9 ?h10 ?h11 ?h12 ?h13 ?h14 ?h15 ?h16 ?h17 ?h18 ?h19 ?h20 ?h21 ?h22 ?h23 ?h24 ?h25 ?h26 ?h27 ?h28 ?h29 ?h30 ?h31 ?h32 ?h33 ?h34 ?h35 ?h36 ?h37 ?h38 ?z_abs ?z_all ?z_bool ?z_dict ?z_divmod ?z_enumerate ?z_int ?z_isinstance ?z_len ?z_list ?z_max ?z_min ?z_range ?z_sorted ?z_sum ?z_tuple ?z_zip ?z_LONGEST_ROW ?z_LONGEST_TABLED ?zt_SIGNS ?yt_SIGNS ?gt ?tk
    (case h0 => refine' Lw.br ?a ?l ?c ?k; (case a => k_is); (case l => k_is); (case c => k_is); (case k => k_is))
    (case h1 => refine' Lw.br ?a ?l ?c ?k; (case a => k_is); (case l => k_is); (case c => k_is); (case k => k_is))
    (case h2 => refine' Lw.br ?a ?l ?c ?k; (case a => k_is); (case l => k_is); (case c => k_is); (case k => k_is))
    (case h3 => refine' Lw.br ?a ?l ?c ?k; (case a => k_is); (case l => k_is); (case c => k_is); (case k => k_is))
    (case h4 => refine' Lw.br ?a ?l ?c ?k; (case a => k_is); (case l => k_is); (case c => k_is); (case k => k_is))
    (case h5 => refine' Lw.br ?a ?l ?c ?k; (case a => k_is); (case l => k_is); (case c => k_is); (case k => k_is))
    (case h6 => refine' Lw.br ?a ?l ?c ?k; (case a => k_is); (case l => k_is); (case c => k_is); (case k => k_is))
    (case h7 => refine' Lw.br ?a ?l ?c ?k; (case a => k_is); (case l => k_is); (case c => k_is); (case k => k_is))
    (case h8 => refine' Lw.br ?a ?l ?c ?k; (case a => k_is); (case l => k_is); (case c => k_is); (case k => k_is))
    (case h9 => refine' Lw.br ?a ?l ?c ?k; (case a => k_is); (case l => k_is); (case c => k_is); (case k => k_is))
    (case h10 => refine' Lw.br ?a ?l ?c ?k; (case a => k_is); (case l => k_is); (case c => k_is); (case k => k_is))
    (case h11 => refine' Lw.br ?a ?l ?c ?k; (case a => k_is); (case l => k_is); (case c => k_is); (case k => k_is))
    (case h12 => refine' Lw.br ?a ?l ?c ?k; (case a => k_is); (case l => k_is); (case c => k_is); (case k => k_is))
    (case h13 => refine' Lw.br ?a ?l ?c ?k; (case a => k_is); (case l => k_is); (case c => k_is); (case k => k_is))
    (case h14 => refine' Lw.br ?a ?l ?c ?k; (case a => k_is); (case l => k_is); (case c => k_is); (case k => k_is))
    (case h15 => refine' Lw.br ?a ?l ?c ?k; (case a => k_is); (case l => k_is); (case c => k_is); (case k => k_is))
    (case h16 => refine' Lw.br ?a ?l ?c ?k; (case a => k_is); (case l => k_is); (case c => k_is); (case k => k_is))
    (case h17 => refine' Lw.br ?a ?l ?c ?k; (case a => k_is); (case l => k_is); (case c => k_is); (case k => k_is))
    (case h18 => refine' Lw.br ?a ?l ?c ?k; (case a => k_is); (case l => k_is); (case c => k_is); (case k => k_is))
    (case h19 => refine' Lw.br ?a ?l ?c ?k; (case a => k_is); (case l => k_is); (case c => k_is); (case k => k_is))
    (case h20 => refine' Lw.br ?a ?l ?c ?k; (case a => k_is); (case l => k_is); (case c => k_is); (case k => k_is))
    (case h21 => refine' Lw.br ?a ?l ?c ?k; (case a => k_is); (case l => k_is); (case c => k_is); (case k => k_is))
    (case h22 => refine' Lw.br ?a ?l ?c ?k; (case a => k_is); (case l => k_is); (case c => k_is); (case k => k_is))
    (case h23 => refine' Lw.br ?a ?l ?c ?k; (case a => k_is); (case l => k_is); (case c => k_is); (case k => k_is))
    (case h24 => refine' Lw.br ?a ?l ?c ?k; (case a => k_is); (case l => k_is); (case c => k_is); (case k => k_is))
    (case h25 => refine' Lw.br ?a ?l ?c ?k; (case a => k_is); (case l => k_is); (case c => k_is); (case k => k_is))
    (case h26 => refine' Lw.br ?a ?l ?c ?k; (case a => k_is); (case l => k_is); (case c => k_is); (case k => k_is))
    (case h27 => refine' Lw.br ?a ?l ?c ?k; (case a => k_is); (case l => k_is); (case c => k_is); (case k => k_is))
    (case h28 => refine' Lw.br ?a ?l ?c ?k; (case a => k_is); (case l => k_is); (case c => k_is); (case k => k_is))
    (case h29 => refine' Lw.br ?a ?l ?c ?k; (case a => k_is); (case l => k_is); (case c => k_is); (case k => k_is))
    (case h30 => refine' Lw.br ?a ?l ?c ?k; (case a => k_is); (case l => k_is); (case c => k_is); (case k => k_is))
    (case h31 => refine' Lw.br ?a ?l ?c ?k; (case a => k_is); (case l => k_is); (case c => k_is); (case k => k_is))
    (case h32 => refine' Lw.br ?a ?l ?c ?k; (case a => k_is); (case l => k_is); (case c => k_is); (case k => k_is))
    (case h33 => refine' Lw.br ?a ?l ?c ?k; (case a => k_is); (case l => k_is); (case c => k_is); (case k => k_is))
    (case h34 => refine' Lw.br ?a ?l ?c ?k; (case a => k_is); (case l => k_is); (case c => k_is); (case k => k_is))
    (case h35 => refine' Lw.br ?a ?l ?c ?k; (case a => k_is); (case l => k_is); (case c => k_is); (case k => k_is))
    (case h36 => refine' Lw.br ?a ?l ?c ?k; (case a => k_is); (case l => k_is); (case c => k_is); (case k => k_is))
    (case h37 => refine' Lw.br ?a ?l ?c ?k; (case a => k_is); (case l => k_is); (case c => k_is); (case k => k_is))
    (case h38 => refine' Lw.br ?a ?l ?c ?k; (case a => k_is); (case l => k_is); (case c => k_is); (case k => k_is))
    (case z_abs => k_is)
    (case z_all => k_is)
    (case z_bool => k_is)
    (case z_dict => k_is)
    (case z_divmod => k_is)
    (case z_enumerate => k_is)
    (case z_int => k_is)
    (case z_isinstance => k_is)
    (case z_len => k_is)
    (case z_list => k_is)
    (case z_max => k_is)
    (case z_min => k_is)
    (case z_range => k_is)
    (case z_sorted => k_is)
    (case z_sum => k_is)
    (case z_tuple => k_is)
    (case z_zip => k_is)
    (case z_LONGEST_ROW => k_is)
    (case z_LONGEST_TABLED => k_is)
    (case zt_SIGNS => k_is)
    (case yt_SIGNS => k_is)
    (case gt => k_is)
    (case tk => k_is)
