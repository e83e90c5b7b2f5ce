import PyProof.Rows.All
import Wide.All
import OpenK.AllK
import Wide.FinOn
import PyProof.EqAt
import PyProof.EqKinds
import PyProof.TupleCall
import PyProof.ZipIter
import PyProof.EnumMake
import PyProof.Draws
import PyProof.LayNew
import PyProof.Rows.SortShell
import PyProof.IsRules
import PyProof.ListIndex
import PyProof.Cells
import PyProof.CompUse
import PyProof.DictItems
import PyProof.DictItemsLoops
import PyProof.Rows.MinMaxN
import PyProof.Rows.Range3
import KE.KRevIter
import PyProof.DictWalks
import PyProof.NeKinds
import PyProof.DictList
import PyProof.DictUpdate
import PyProof.Rows.Tup
import PyProof.FactsAll.tuple_2
import PyProof.Rows.CallKwBuiltin
import KE.KDictSum
import KE.KSortTup
import KE.KRevSl
import KE.KUnpack
import PyProof.StrBlock2
import KE.KIntText
import KE.KTabLook
import PyProof.StrCalls2
import PyProof.StrLoop
import PyProof.StrWalks
import PyProof.Rows.SetFrom
import Lean
import PySem.Challenge.RW_plusless_k83_no_lines
set_option Elab.async false
set_option linter.all false
set_option maxRecDepth 100000
set_option genSizeOf false
theorem Au.h2 (h:True:=by decide):True:=h
theorem Au.h5 (h:True:=by intro _; rfl):True:=h
theorem Au.h1 (h:True:=by rfl):True:=h
theorem Au.h8 (h:True:=by intro _ _ z; cases z):True:=h
theorem Au.h0 (h:True:=by kernel_rfl):True:=h
theorem Au.h3 (h:True:=by decide +kernel):True:=h
theorem Au.h9 (h:True:=by first | exact L2.DE _ | kernel_rfl):True:=h
theorem Au.h4 (h:True:=by intro _; kernel_rfl):True:=h
theorem Au.h7 (h:True:=by first | left; rfl | right; kernel_rfl):True:=h
theorem ex5 {α β:Type} {a b c:α->β->Prop} {P:Prop} (z:∃ x y,a x y/\b x y/\c x y) (f:∀ x y,a x y->b x y->c x y->P):P:=by
 obtain ⟨x,y,u,v,w⟩:=z
 exact f x y u v w
def Y6:=@PySem.wpAny_bind
def Y7:=@decide_eq_false
def Y8:=@PySem.Heap.get?_push_of_some
def Y9:=@if_pos
def Yb:=@PySem.W.mg_of
def Yc:=@List.map_cons
def Yd:=@Nat.le_refl
def Ye:=@PySem.wpAny_pure
def Yg:=@if_neg
def Yh:=@PySem.Heap.lt_size
def Yi:=@decide_eq_true
def Yj:=@Bool.false_ne_true
def Yk:=@List.size_toArray
def Yl:=@Nat.lt_of_lt_of_le
def Ym:=@List.length_map
def Yn:=@List.mem_cons
def Yo:=@List.length_append
def Yp:=@PySem.Heap.get?_push_size
def Yq:=@List.getElem?_eq_some_iff
def Yr:=@Nat.ne_of_lt
def Ys:=@List.mem_cons_of_mem
def Yt:=@Bool.and_eq_true
def Yu:=@List.mem_append_right
def Yv:=@List.length_cons
def Yw:=@List.getElem?_eq_getElem
def Yx:=@PySem.F.plainAttrs_str
def Yy:=@List.getElem?_set_ne
def Yz:=@List.mem_cons_self
def Z0:=@List.mem_append
def Z1:=@PySem.W.mg_none_of
def Z2:=@decide_eq_true_eq
def Z3:=@List.getElem?_append_left
def Z4:=@List.getElem?_set_self
def Z5:=@List.set_cons_zero
def Z6:=@Option.some.inj
def Z7:=@PySem.W.kia_one
def Z8:=@List.append_nil
def Z9:=@Nat.le_trans
def Za:=@PySem.wpAny_mono
def Zb:=@List.length_singleton
def Zc:=@Nat.zero_le
def Zd:=@List.not_mem_nil
def Ze:=@List.all_eq_true
def Zf:=@of_decide_eq_true
def Zg:=@PySem.Heap.get?_update_other
def Zh:=@PySem.wpAny_truthy_bool
def Zi:=@Bool.eq_iff_iff
def Zj:=@List.lookup_cons
def Zk:=@Bool.false_eq_true
def Zl:=@List.mem_of_getElem?
def Zm:=@if_true
def Zn:=@List.getElem?_replicate
def Zo:=@List.getElem?_cons_zero
def Zp:=@List.getElem?_cons_succ
def Zq:=@List.replicate_succ
def Zr:=@List.getElem?_append_right
def Zs:=@congrArg
def Zt:=@PySem.Heap.size_push
def Zu:=@PyProof.Rows.KTD.isSome_datumAt
def Zv:=@List.set_cons_succ
def Zw:=@List.mem_singleton
def Zx:=@PyProof.Rows.slot_tuple_getitem
def Zy:=@PySem.wpAny_field
def Zz:=@List.mem_filter
def Q0:=@List.mem_append_left
def Q1:=@List.length_nil
def Q2:=@PySem.wpAny_newObj_type
def Q3:=@List.getElem?_map
def Q4:=@PySem.wpAny_holding
def Q5:=@List.any_cons
def Q6:=@List.nil_append
def Q7:=@Option.map_some
def Q8:=@PySem.F.slot_str_join
def Q9:=@PySem.F.type_str_join
def Qa:=@if_false
def Qb:=@List.flatten_cons
def Qc:=@Array.getElem?_eq_getElem
def Qd:=@List.mem_map
def Qe:=@beq_eq_false_iff_ne
def Qf:=@PySem.mem_of_lookup
def Qg:=@Nat.lt_irrefl
def Qh:=@List.mem_filterMap
def Qi:=@beq_iff_eq
def Qj:=@PySem.wpAny_Call_Name_kw
def Qk:=@PySem.call_meets
def Ql:=@or_false
def Qm:=@PySem.F.slot_str_split
def Qn:=@PySem.F.type_str_split
def Qo:=@PySem.W.piece_app
def Qp:=@PySem.W.segRun_of
def Qq:=@PySem.Heap.get?_update_self
def Qr:=@PySem.Obj.isFreed_of_fields
def Qs:=@List.length_replicate
def Qt:=@List.map_nil
def Qu:=@PySem.W.looks_findIn
def Qv:=@List.length_drop
def Qw:=@decide_eq_decide
def Qx:=@Array.getElem?_eq_some_iff
def Qy:=@Bool.true_and
def Qz:=@Array.toList_append
def W0:=@PySem.wpAny_passesOwn
def W1:=@List.drop_eq_getElem_cons
def W2:=@PySem.W.callWith_K
def W3:=@PySem.F.args_tuple_add_2
def W4:=@Bool.false_and
def W5:=@PySem.wpAny_callSpecial?_slot
def W6:=@PySem.F.entry_tuple_add
def W7:=@List.length_eq_zero_iff
def W8:=@Nat.toDigits_of_lt_base
def W9:=@Nat.lt_succ_of_lt
def Wa:=@PySem.W.cellsFrom_some
def Wb:=@PySem.F.slot_tuple_add
def Wc:=@Nat.lt_succ_self
def We:=@List.length_take
def Wf:=@Array.getElem?_setIfInBounds_ne
def Wg:=@PySem.codeAny_mono
def Wh:=@List.nodup_cons
def Wi:=@List.of_mem_zip
def Wj:=@PySem.F.slot_int_rmul
def Wk:=@List.getElem?_append
def Wl:=@PySem.PassesOwn.never
def Wm:=@List.filterMap_cons
def Wn:=@Array.length_toList
def Wo:=@PySem.W.plainGet_of
def Wp:=@ne_true_of_eq_false
def Wq:=@PySem.wpAny_setField
def Wr:=@PySem.sizeLine_eq
def Ws:=@PySem.Obj.data_mapFields
def Wt:=@PyProof.Rows.callWith_type1
def Wu:=@LawfulBEq.eq_of_beq
def Wv:=@PySem.F.args_tuple_mul_2
def Ww:=@Int.emod_lt_of_pos
def Wx:=@PySem.StrLaws.join_split
def Wy:=@PySem.F.slot_str_startswith
def Wz:=@PySem.F.type_str_startswith
def V0:=@Int.fdiv_eq_ediv_of_nonneg
def V1:=@Int.fmod_eq_emod_of_nonneg
def V2:=@List.all_cons
def V3:=@List.sum_cons
def V4:=@PySem.wpAny_pyIter_list
def V5:=@PySem.F.entry_tuple_mul
def V6:=@PySem.StrLaws.found_one
def V7:=@PySem.wpAny_rule
def V8:=@PySem.wpAny_call
def V9:=@PySem.typeIs_int
def Va:=@Nat.le_of_lt
def Vb:=@List.drop_length
def Vc:=@PySem.W.Looks.ld
def Vd:=@List.getElem_mem
def Ve:=@Bool.or_eq_true
def Vf:=@Int.emod_nonneg
def Vg:=@List.map_append
def Vh:=@Nat.le_succ
namespace Lw
open PySem
noncomputable def top (i:Nat):Stmt:=PySem.Challenge.pw_plusless_k83_no_lines.main.body.getD i (.Pass ⟨0,0,0,0⟩)
noncomputable def hdI (s:Stmt) (j:Nat):Stmt:=match s with
 | .ClassDef _ _ _ body _ _ _ _ _ _ _=>body.getD j (.Pass ⟨0,0,0,0⟩)
 | _=>.Pass ⟨0,0,0,0⟩
noncomputable def hdA (s:Stmt):Arguments:=match s with
 | .FunctionDef _ a _ _ _ _ _ _ _ _=>a
 | _=>{posonlyargs:=[],args:=[],vararg:=none,kwonlyargs:=[],kw_defaults:=[],kwarg:=none,defaults:=[]}
noncomputable def hdB (s:Stmt):List Stmt:=match s with
 | .FunctionDef _ _ b _ _ _ _ _ _ _=>b
 | _=>[]
noncomputable def hdS (s:Stmt):Scope:=match s with
 | .FunctionDef _ _ _ _ _ _ sc _ _ _=>sc
 | _=>{kind:=.function,names:=[],isGenerator:=false,isCoroutine:=false}
noncomputable def hE (P:Params) (n:Str) (t:Tok) (v:Value):DictEntry:={hash:=PyData.keyHash P n,key:=.str n t,val:=v}
noncomputable def hF (n:Str) (i:Nat) (m:Str) (t:Tok) (c:Addr):Obj:={cls:=.type "function",data:=.func {name:=n,qualname:=n,params:=hdA (top i),body:=.stmts (hdB (top i)),scope:=hdS (top i),globals:=3,closure:=[],defaults:=.none,kwdefaults:=.none,pyModule:=.str m t,code:=.ref c}}
noncomputable def hC (n:Str) (t0 t1 t2:Tok) (a b c d e:Int) (r0:Value) (f:Int) (r1 r2 r3 r4 r5:Value) (g h:Int) (t3:Tok):Obj:={cls:=.type "code",data:=.fields #[.str n t0,.str n t1,.str "/claim/cut.py" t2,.int a 0,.int b 0,.int c 0,.int d 0,.int e 0,r0,.bool true,.int f 0,r1,r2,r3,r4,r5,.int g 0,.int h 0,.str "/claim/cut.py" t3]}
noncomputable def hM (n q:Str) (i j:Nat) (m:Str) (t:Tok) (c:Addr):Obj:={cls:=.type "function",data:=.func {name:=n,qualname:=q,params:=hdA (hdI (top i) j),body:=.stmts (hdB (hdI (top i) j)),scope:=hdS (hdI (top i) j),globals:=3,closure:=[],defaults:=.none,kwdefaults:=.none,pyModule:=.str m t,code:=.ref c}}
noncomputable def hC2 (q n:Str) (t0 t1 t2:Tok) (a b c d e:Int) (r0:Value) (f:Int) (r1 r2 r3 r4 r5:Value) (g h:Int) (t3:Tok):Obj:={cls:=.type "code",data:=.fields #[.str n t0,.str q t1,.str "/claim/cut.py" t2,.int a 0,.int b 0,.int c 0,.int d 0,.int e 0,r0,.bool true,.int f 0,r1,r2,r3,r4,r5,.int g 0,.int h 0,.str "/claim/cut.py" t3]}
noncomputable def hK:Params->PySem.W.Frag:=λP=>(nat_lit 2,{ cls:=.none,data:=.dict #[] })::
 (nat_lit 3,{ cls:=.type "dict",data:=.dict #[hE P "__name__" 165 (.str "law_plusless_k83_no_lines" 900),hE P "__doc__" 166 .none,hE P "__package__" 167 .none,hE P "__loader__" 168 (.builtin "__main__.__loader__#opaque"),hE P "__spec__" 169 .none,hE P "__annotations__" 170 (.ref 6),hE P "__builtins__" 171 (.ref 4),hE P "__file__" 173 (.str "/claim/cut.py" 172),hE P "__cached__" 174 .none,hE P "_wall" 193 (.ref 21),hE P "PlusError" 213 (.ref 31),hE P "NoRow" 229 (.ref 44),hE P "NoNumber" 245 (.ref 56),hE P "NoSigns" 261 (.ref 68),hE P "TooMany" 277 (.ref 80),hE P "Lacking" 293 (.ref 92),hE P "Bare" 309 (.ref 104),hE P "NoTable" 325 (.ref 116),hE P "NoLine" 341 (.ref 128),hE P "NoText" 366 (.ref 147),hE P "LONGEST_ROW" 370 (.int 16 369),hE P "is_whole" 377 (.ref 156),hE P "are_whole" 383 (.ref 161),hE P "is_row" 389 (.ref 166),hE P "need_row" 396 (.ref 173),hE P "need_number" 403 (.ref 180),hE P "need_number_from" 411 (.ref 187),hE P "need_row_and_number" 419 (.ref 194),hE P "are_parts" 425 (.ref 199),hE P "need_parts" 433 (.ref 206),hE P "total" 440 (.ref 213),hE P "SIGNS" 446 (.ref 214),hE P "stepped" 460 (.ref 221),hE P "table_of" 470 (.ref 228),hE P "halves_of" 480 (.ref 235),hE P "half_worths" 486 (.ref 240),hE P "many_met" 492 (.ref 245),hE P "firsts_stepped" 506 (.ref 252),hE P "firsts_of" 515 (.ref 259),hE P "first_met" 521 (.ref 264),hE P "walk" 534 (.ref 271),hE P "below" 540 (.ref 276),hE P "above" 546 (.ref 281),hE P "unevenness" 555 (.ref 288),hE P "TIMES_BY_PARTS" 559 (.int 2 558),hE P "TIMES_BY_SIGNS" 561 (.int 1 560),hE P "ahead_of_too_great" 571 (.ref 295),hE P "every_by_parts" 578 (.ref 302),hE P "every_by_signs" 585 (.ref 309),hE P "swings_stepped" 601 (.ref 316),hE P "least_swing" 610 (.ref 323),hE P "Keeper" 707 (.ref 401),hE P "MARK_OF" 720 (.ref 406),hE P "FIGURES" 722 (.str "0123456789" 721),hE P "PIECE" 724 (.int 60 723),hE P "figures_of" 733 (.ref 413),hE P "show" 739 (.ref 418),hE P "MOST_FIGURES" 743 (.int 30 742),hE P "row_text" 749 (.ref 423),hE P "total_text" 756 (.ref 430),hE P "even_text" 763 (.ref 437),hE P "swing_text" 770 (.ref 444),hE P "every_text" 777 (.ref 451),hE P "comes_text" 785 (.ref 458),hE P "ways_text" 793 (.ref 465),hE P "signs_text" 802 (.ref 472),hE P "number_or_none" 809 (.ref 479),hE P "near_text" 817 (.ref 486),hE P "CHANGED_ALONE" 820 (.ref 487),hE P "ASKED_ALONE" 831 (.ref 488),hE P "ASKED_OF_A_NUMBER" 840 (.ref 489),hE P "is_number_word" 846 (.ref 494),hE P "is_line" 853 (.ref 501),hE P "words_of_line" 861 (.ref 508),hE P "Desk" 899 (.ref 532),hE P "_law_box" 913 (.ref 543),hE P "_law_take" 923 (.ref 550),hE P "_law_odd" 931 (.ref 557),hE P "_law_classes" 939 (.ref 564),hE P "_law_only" 945 (.ref 569),hE P "_law_said" 951 (.ref 574),hE P "_law_bent" 963 (.ref 581),hE P "_law_number" 969 (.ref 586),hE P "_law_is_line" 978 (.ref 593),hE P "law" 984 (.ref 598)] 85 })::
 (nat_lit 30,{ cls:=.type "dict",data:=.dict #[hE P "__module__" 203 (.str "plusless.errors" 194),hE P "__firstlineno__" 207 (.int 5 206),hE P "__static_attributes__" 208 (.ref 29),hE P "__weakref__" 210 (.ref 32),hE P "__doc__" 211 .none] 3 })::
 (nat_lit 31,{ cls:=.type "type",data:=.cls { name:="PlusError",bases:=[.type "ValueError"],mro:=[.ref 31,.type "ValueError",.type "Exception",.type "BaseException",.type "object"],ns:=30,qualname:="PlusError",subclasses:=[.ref 44,.ref 56,.ref 68,.ref 80,.ref 92,.ref 104,.ref 116,.ref 128,.ref 147] },slots:=#[some (.ref 22),none,some (.str "PlusError" 196),some (.str "PlusError" 204),some (.builtin "ValueError.__new__"),some (.bool true)] })::
 (nat_lit 43,{ cls:=.type "dict",data:=.dict #[hE P "__module__" 221 (.str "plusless.errors" 194),hE P "__firstlineno__" 225 (.int 7 224),hE P "__static_attributes__" 226 (.ref 42),hE P "__doc__" 227 .none] 2 })::
 (nat_lit 44,{ cls:=.type "type",data:=.cls { name:="NoRow",bases:=[.ref 31],mro:=[.ref 44,.ref 31,.type "ValueError",.type "Exception",.type "BaseException",.type "object"],ns:=43,qualname:="NoRow" },slots:=#[some (.ref 35),none,some (.str "NoRow" 214),some (.str "NoRow" 222),some (.builtin "ValueError.__new__"),some (.bool true)] })::
 (nat_lit 55,{ cls:=.type "dict",data:=.dict #[hE P "__module__" 237 (.str "plusless.errors" 194),hE P "__firstlineno__" 241 (.int 9 240),hE P "__static_attributes__" 242 (.ref 54),hE P "__doc__" 243 .none] 2 })::
 (nat_lit 56,{ cls:=.type "type",data:=.cls { name:="NoNumber",bases:=[.ref 31],mro:=[.ref 56,.ref 31,.type "ValueError",.type "Exception",.type "BaseException",.type "object"],ns:=55,qualname:="NoNumber" },slots:=#[some (.ref 47),none,some (.str "NoNumber" 230),some (.str "NoNumber" 238),some (.builtin "ValueError.__new__"),some (.bool true)] })::
 (nat_lit 67,{ cls:=.type "dict",data:=.dict #[hE P "__module__" 253 (.str "plusless.errors" 194),hE P "__firstlineno__" 257 (.int 11 256),hE P "__static_attributes__" 258 (.ref 66),hE P "__doc__" 259 .none] 2 })::
 (nat_lit 68,{ cls:=.type "type",data:=.cls { name:="NoSigns",bases:=[.ref 31],mro:=[.ref 68,.ref 31,.type "ValueError",.type "Exception",.type "BaseException",.type "object"],ns:=67,qualname:="NoSigns" },slots:=#[some (.ref 59),none,some (.str "NoSigns" 246),some (.str "NoSigns" 254),some (.builtin "ValueError.__new__"),some (.bool true)] })::
 (nat_lit 79,{ cls:=.type "dict",data:=.dict #[hE P "__module__" 269 (.str "plusless.errors" 194),hE P "__firstlineno__" 273 (.int 13 272),hE P "__static_attributes__" 274 (.ref 78),hE P "__doc__" 275 .none] 2 })::
 (nat_lit 80,{ cls:=.type "type",data:=.cls { name:="TooMany",bases:=[.ref 31],mro:=[.ref 80,.ref 31,.type "ValueError",.type "Exception",.type "BaseException",.type "object"],ns:=79,qualname:="TooMany" },slots:=#[some (.ref 71),none,some (.str "TooMany" 262),some (.str "TooMany" 270),some (.builtin "ValueError.__new__"),some (.bool true)] })::
 (nat_lit 91,{ cls:=.type "dict",data:=.dict #[hE P "__module__" 285 (.str "plusless.errors" 194),hE P "__firstlineno__" 289 (.int 15 288),hE P "__static_attributes__" 290 (.ref 90),hE P "__doc__" 291 .none] 2 })::
 (nat_lit 92,{ cls:=.type "type",data:=.cls { name:="Lacking",bases:=[.ref 31],mro:=[.ref 92,.ref 31,.type "ValueError",.type "Exception",.type "BaseException",.type "object"],ns:=91,qualname:="Lacking" },slots:=#[some (.ref 83),none,some (.str "Lacking" 278),some (.str "Lacking" 286),some (.builtin "ValueError.__new__"),some (.bool true)] })::
 (nat_lit 103,{ cls:=.type "dict",data:=.dict #[hE P "__module__" 301 (.str "plusless.errors" 194),hE P "__firstlineno__" 305 (.int 17 304),hE P "__static_attributes__" 306 (.ref 102),hE P "__doc__" 307 .none] 2 })::
 (nat_lit 104,{ cls:=.type "type",data:=.cls { name:="Bare",bases:=[.ref 31],mro:=[.ref 104,.ref 31,.type "ValueError",.type "Exception",.type "BaseException",.type "object"],ns:=103,qualname:="Bare" },slots:=#[some (.ref 95),none,some (.str "Bare" 294),some (.str "Bare" 302),some (.builtin "ValueError.__new__"),some (.bool true)] })::
 (nat_lit 115,{ cls:=.type "dict",data:=.dict #[hE P "__module__" 317 (.str "plusless.errors" 194),hE P "__firstlineno__" 321 (.int 19 320),hE P "__static_attributes__" 322 (.ref 114),hE P "__doc__" 323 .none] 2 })::
 (nat_lit 116,{ cls:=.type "type",data:=.cls { name:="NoTable",bases:=[.ref 31],mro:=[.ref 116,.ref 31,.type "ValueError",.type "Exception",.type "BaseException",.type "object"],ns:=115,qualname:="NoTable" },slots:=#[some (.ref 107),none,some (.str "NoTable" 310),some (.str "NoTable" 318),some (.builtin "ValueError.__new__"),some (.bool true)] })::
 (nat_lit 127,{ cls:=.type "dict",data:=.dict #[hE P "__module__" 333 (.str "plusless.errors" 194),hE P "__firstlineno__" 337 (.int 21 336),hE P "__static_attributes__" 338 (.ref 126),hE P "__doc__" 339 .none] 2 })::
 (nat_lit 128,{ cls:=.type "type",data:=.cls { name:="NoLine",bases:=[.ref 31],mro:=[.ref 128,.ref 31,.type "ValueError",.type "Exception",.type "BaseException",.type "object"],ns:=127,qualname:="NoLine" },slots:=#[some (.ref 119),none,some (.str "NoLine" 326),some (.str "NoLine" 334),some (.builtin "ValueError.__new__"),some (.bool true)] })::
 (nat_lit 143,hC2 "NoText.__init__" "__init__" 354 355 356 25 2 0 0 3 (.ref 138) 181 (.ref 139) .none (.ref 140) (.ref 141) (.ref 142) 359 25 360)::
 (nat_lit 144,hM "__init__" "NoText.__init__" 11 0 "plusless.errors" 194 143)::
 (nat_lit 146,{ cls:=.type "dict",data:=.dict #[hE P "__module__" 349 (.str "plusless.errors" 194),hE P "__firstlineno__" 353 (.int 23 352),hE P "__init__" 361 (.ref 144),hE P "__static_attributes__" 363 (.ref 145),hE P "__doc__" 364 .none] 2 })::
 (nat_lit 147,{ cls:=.type "type",data:=.cls { name:="NoText",bases:=[.ref 31],mro:=[.ref 147,.ref 31,.type "ValueError",.type "Exception",.type "BaseException",.type "object"],ns:=146,qualname:="NoText" },slots:=#[some (.ref 131),none,some (.str "NoText" 342),some (.str "NoText" 350),some (.builtin "ValueError.__new__"),some (.bool true)] })::
 (nat_lit 155,hC "is_whole" 371 372 373 29 1 0 0 3 (.ref 150) 181 (.ref 151) .none (.ref 152) (.ref 153) (.ref 154) 375 29 376)::
 (nat_lit 156,hF "is_whole" 14 "plusless.rows" 367 155)::
 (nat_lit 165,hC "is_row" 384 385 386 33 1 0 0 3 (.ref 162) 181 (.ref 163) .none .none .none (.ref 164) 387 33 388)::
 (nat_lit 166,hF "is_row" 16 "plusless.rows" 367 165)::
 (nat_lit 172,hC "need_row" 390 391 392 37 1 0 0 3 (.ref 167) 181 (.ref 168) .none (.ref 169) (.ref 170) (.ref 171) 394 37 395)::
 (nat_lit 173,hF "need_row" 17 "plusless.rows" 367 172)::
 (nat_lit 179,hC "need_number" 397 398 399 40 1 0 0 3 (.ref 174) 181 (.ref 175) .none (.ref 176) (.ref 177) (.ref 178) 401 40 402)::
 (nat_lit 180,hF "need_number" 18 "plusless.rows" 367 179)::
 (nat_lit 186,hC "need_number_from" 404 405 406 43 2 0 0 3 (.ref 181) 181 (.ref 182) .none (.ref 183) (.ref 184) (.ref 185) 409 43 410)::
 (nat_lit 187,hF "need_number_from" 19 "plusless.rows" 367 186)::
 (nat_lit 212,hC "total" 434 435 436 56 1 0 0 3 (.ref 207) 181 (.ref 208) .none (.ref 209) (.ref 210) (.ref 211) 438 56 439)::
 (nat_lit 213,hF "total" 23 "plusless.rows" 367 212)::
 (nat_lit 336,hC2 "Keeper.__init__" "__init__" 625 626 627 158 1 0 0 3 (.ref 331) 181 (.ref 332) .none (.ref 333) (.ref 334) (.ref 335) 629 158 630)::
 (nat_lit 337,hM "__init__" "Keeper.__init__" 50 0 "plusless.keeper" 611 336)::
 (nat_lit 343,hC2 "Keeper.change" "change" 632 633 634 162 2 0 0 3 (.ref 338) 181 (.ref 339) .none (.ref 340) (.ref 341) (.ref 342) 637 162 638)::
 (nat_lit 344,hM "change" "Keeper.change" 50 1 "plusless.keeper" 611 343)::
 (nat_lit 350,hC2 "Keeper.put" "put" 640 641 642 167 2 0 0 3 (.ref 345) 181 (.ref 346) .none (.ref 347) (.ref 348) (.ref 349) 645 167 646)::
 (nat_lit 351,hM "put" "Keeper.put" 50 2 "plusless.keeper" 611 350)::
 (nat_lit 357,hC2 "Keeper.take" "take" 648 649 650 173 1 0 0 3 (.ref 352) 181 (.ref 353) .none (.ref 354) (.ref 355) (.ref 356) 652 173 653)::
 (nat_lit 358,hM "take" "Keeper.take" 50 3 "plusless.keeper" 611 357)::
 (nat_lit 364,hC2 "Keeper.back" "back" 655 656 657 178 1 0 0 3 (.ref 359) 181 (.ref 360) .none (.ref 361) (.ref 362) (.ref 363) 659 178 660)::
 (nat_lit 365,hM "back" "Keeper.back" 50 4 "plusless.keeper" 611 364)::
 (nat_lit 371,hC2 "Keeper.row" "row" 662 663 664 184 1 0 0 3 (.ref 366) 181 (.ref 367) .none (.ref 368) (.ref 369) (.ref 370) 666 184 667)::
 (nat_lit 372,hM "row" "Keeper.row" 50 5 "plusless.keeper" 611 371)::
 (nat_lit 400,{ cls:=.type "dict",data:=.dict #[hE P "__module__" 620 (.str "plusless.keeper" 611),hE P "__firstlineno__" 624 (.int 156 623),hE P "__init__" 631 (.ref 337),hE P "change" 639 (.ref 344),hE P "put" 647 (.ref 351),hE P "take" 654 (.ref 358),hE P "back" 661 (.ref 365),hE P "row" 668 (.ref 372),hE P "worths_many" 675 (.ref 379),hE P "ways" 683 (.ref 386),hE P "first" 691 (.ref 393),hE P "times" 697 (.ref 398),hE P "__static_attributes__" 700 (.ref 399),hE P "__dict__" 702 (.ref 402),hE P "__weakref__" 704 (.ref 403),hE P "__doc__" 705 .none] 4 })::
 (nat_lit 401,{ cls:=.type "type",data:=.cls { name:="Keeper",bases:=[.type "object"],mro:=[.ref 401,.type "object"],ns:=400,qualname:="Keeper" },slots:=#[none,none,some (.str "Keeper" 613),some (.str "Keeper" 621),some (.builtin "object.__new__"),some (.bool true)] })::
 (nat_lit 422,hC "row_text" 744 745 746 214 1 0 0 3 (.ref 419) 181 (.ref 420) .none .none .none (.ref 421) 747 214 748)::
 (nat_lit 423,hF "row_text" 59 "plusless.desk" 740 422)::
 (nat_lit 429,hC "total_text" 750 751 752 216 1 0 0 3 (.ref 424) 181 (.ref 425) .none (.ref 426) (.ref 427) (.ref 428) 754 216 755)::
 (nat_lit 430,hF "total_text" 60 "plusless.desk" 740 429)::
 (nat_lit 487,{ cls:=.type "tuple",data:=.seq #[.str "take" 818,.str "back" 819] })::
 (nat_lit 488,{ cls:=.type "dict",data:=.dict #[hE P "row" 821 (.ref 423),hE P "total" 822 (.ref 430),hE P "even" 823 (.ref 437),hE P "swing" 824 (.ref 444),hE P "every" 825 (.ref 451)] 5 })::
 (nat_lit 489,{ cls:=.type "dict",data:=.dict #[hE P "comes" 832 (.ref 458),hE P "ways" 833 (.ref 465),hE P "signs" 834 (.ref 472),hE P "near" 835 (.ref 486)] 4 })::
 (nat_lit 493,hC "is_number_word" 841 842 843 240 1 0 0 3 (.ref 490) 181 (.ref 491) .none .none .none (.ref 492) 844 240 845)::
 (nat_lit 494,hF "is_number_word" 72 "plusless.desk" 740 493)::
 (nat_lit 500,hC "is_line" 847 848 849 245 1 0 0 3 (.ref 495) 181 (.ref 496) .none (.ref 497) (.ref 498) (.ref 499) 851 245 852)::
 (nat_lit 501,hF "is_line" 73 "plusless.desk" 740 500)::
 (nat_lit 507,hC "words_of_line" 854 855 856 253 1 0 0 3 (.ref 502) 181 (.ref 503) .none (.ref 504) (.ref 505) (.ref 506) 859 253 860)::
 (nat_lit 508,hF "words_of_line" 74 "plusless.desk" 740 507)::
 (nat_lit 521,hC2 "Desk.__init__" "__init__" 874 875 876 262 1 0 0 3 (.ref 516) 181 (.ref 517) .none (.ref 518) (.ref 519) (.ref 520) 878 262 879)::
 (nat_lit 522,hM "__init__" "Desk.__init__" 75 0 "plusless.desk" 740 521)::
 (nat_lit 528,hC2 "Desk.say" "say" 881 882 883 265 2 0 0 3 (.ref 523) 181 (.ref 524) .none (.ref 525) (.ref 526) (.ref 527) 888 265 889)::
 (nat_lit 529,hM "say" "Desk.say" 75 1 "plusless.desk" 740 528)::
 (nat_lit 531,{ cls:=.type "dict",data:=.dict #[hE P "__module__" 869 (.str "plusless.desk" 740),hE P "__firstlineno__" 873 (.int 260 872),hE P "__init__" 880 (.ref 522),hE P "say" 890 (.ref 529),hE P "__static_attributes__" 892 (.ref 530),hE P "__dict__" 894 (.ref 533),hE P "__weakref__" 896 (.ref 534),hE P "__doc__" 897 .none] 4 })::
 (nat_lit 532,{ cls:=.type "type",data:=.cls { name:="Desk",bases:=[.type "object"],mro:=[.ref 532,.type "object"],ns:=531,qualname:="Desk" },slots:=#[none,none,some (.str "Desk" 862),some (.str "Desk" 870),some (.builtin "object.__new__"),some (.bool true)] })::
 (nat_lit 542,hC "_law_box" 902 903 904 278 2 0 0 3 (.ref 537) 181 (.ref 538) .none (.ref 539) (.ref 540) (.ref 541) 911 278 912)::
 (nat_lit 543,hF "_law_box" 77 "law_plusless_k83_no_lines" 900 542)::
 (nat_lit 549,hC "_law_take" 914 915 916 290 2 0 0 3 (.ref 544) 181 (.ref 545) .none (.ref 546) (.ref 547) (.ref 548) 921 290 922)::
 (nat_lit 550,hF "_law_take" 78 "law_plusless_k83_no_lines" 900 549)::
 (nat_lit 556,hC "_law_odd" 924 925 926 294 1 0 0 3 (.ref 551) 181 (.ref 552) .none (.ref 553) (.ref 554) (.ref 555) 929 294 930)::
 (nat_lit 557,hF "_law_odd" 79 "law_plusless_k83_no_lines" 900 556)::
 (nat_lit 563,hC "_law_classes" 932 933 934 297 1 0 0 3 (.ref 558) 181 (.ref 559) .none (.ref 560) (.ref 561) (.ref 562) 937 297 938)::
 (nat_lit 564,hF "_law_classes" 80 "law_plusless_k83_no_lines" 900 563)::
 (nat_lit 568,hC "_law_only" 940 941 942 301 2 0 0 3 (.ref 565) 181 (.ref 566) .none .none .none (.ref 567) 943 301 944)::
 (nat_lit 569,hF "_law_only" 81 "law_plusless_k83_no_lines" 900 568)::
 (nat_lit 573,hC "_law_said" 946 947 948 305 2 0 0 3 (.ref 570) 181 (.ref 571) .none .none .none (.ref 572) 949 305 950)::
 (nat_lit 574,hF "_law_said" 82 "law_plusless_k83_no_lines" 900 573)::
 (nat_lit 580,hC "_law_bent" 952 953 954 310 2 0 0 3 (.ref 575) 181 (.ref 576) .none (.ref 577) (.ref 578) (.ref 579) 961 310 962)::
 (nat_lit 581,hF "_law_bent" 83 "law_plusless_k83_no_lines" 900 580)::
 (nat_lit 585,hC "_law_number" 964 965 966 326 1 0 0 3 (.ref 582) 181 (.ref 583) .none .none .none (.ref 584) 967 326 968)::
 (nat_lit 586,hF "_law_number" 84 "law_plusless_k83_no_lines" 900 585)::
 (nat_lit 592,hC "_law_is_line" 970 971 972 333 1 0 0 3 (.ref 587) 181 (.ref 588) .none (.ref 589) (.ref 590) (.ref 591) 976 333 977)::
 (nat_lit 593,hF "_law_is_line" 85 "law_plusless_k83_no_lines" 900 592)::
 (nat_lit 597,hC "law" 979 980 981 343 1 0 0 3 (.ref 594) 181 (.ref 595) .none .none .none (.ref 596) 982 343 983)::
 (nat_lit 598,hF "law" 86 "law_plusless_k83_no_lines" 900 597)::[]
noncomputable def hA:List Addr:=[2,3,30,31,43,44,55,56,67,68,79,80,91,92,103,104,115,116,127,128,143,144,146,147,155,156,165,166,172,173,179,180,186,187,212,213,336,337,343,344,350,351,357,358,364,365,371,372,400,401,422,423,429,430,487,488,489,493,494,500,501,507,508,521,522,528,529,531,532,542,543,549,550,556,557,563,564,568,569,573,574,580,581,585,586,592,593,597,598]
noncomputable def hV:Program:={PySem.Challenge.pw_plusless_k83_no_lines with main:={PySem.Challenge.pw_plusless_k83_no_lines.main with body:=[top 0,top 2,top 3,top 4,top 5,top 6,top 7,top 8,top 9,top 10,top 11,top 13,top 14,top 15,top 16,top 17,top 18,top 19,top 20,top 21,top 22,top 23,top 25,top 26,top 27,top 29,top 30,top 31,top 32,top 33,top 34,top 35,top 36,top 37,top 39,top 41,top 42,top 43,top 44,top 45,top 47,top 48,top 50,top 52,top 53,top 54,top 55,top 56,top 58,top 59,top 60,top 61,top 62,top 63,top 64,top 65,top 66,top 67,top 68,top 69,top 70,top 71,top 72,top 73,top 74,top 75,top 77,top 78,top 79,top 80,top 81,top 82,top 83,top 84,top 85,top 86]}}
theorem hKA (P:Params):hA=(hK P).map (·.1):=by kernel_rfl
noncomputable abbrev hX (s:Shared):Bool:=PySem.W.xlAt hV [] s && PySem.W.recOk (PySem.W.RowW.records PySem.Challenge.rw_plusless_k83_no_lines.row.toRowW) s
noncomputable def hG (n:Str) (i:Nat):Obj:={cls:=.none,data:=.func {name:=n,qualname:=n,params:=hdA (top i),body:=.stmts (hdB (top i)),scope:=hdS (top i),globals:=0,closure:=[],defaults:=.none,kwdefaults:=.none}}
noncomputable def hG2 (n q:Str) (i j:Nat):Obj:={cls:=.none,data:=.func {name:=n,qualname:=q,params:=hdA (hdI (top i) j),body:=.stmts (hdB (hdI (top i) j)),scope:=hdS (hdI (top i) j),globals:=0,closure:=[],defaults:=.none,kwdefaults:=.none}}
noncomputable def q0 (P:Params):Obj:={ cls:=.type "tuple",data:=.seq #[] }
noncomputable def q1 (P:Params):Obj:={ cls:=.none,data:=.fields #[] }
noncomputable def q2 (P:Params):Obj:={ cls:=.type "code",data:=.fields #[.str "<module>" 182,.str "<module>" 183,.str "/claim/cut.py" 184,.int 1 0,.int 0 0,.int 0 0,.int 0 0,.int 0 0,.ref 11,.bool false,.int 181 0,.ref 12,.none,.none,.none,.none,.int 185 0,.int 1 0,.str "/claim/cut.py" 186] }
noncomputable def q3 (P:Params):Obj:={ cls:=.type "frame",slots:=#[some (.ref 13),some (.ref 3),some (.ref 3),none,some (.str "__main__" 164),none,some (.ref 0)] }
noncomputable def q4 (P:Params):Obj:={ cls:=.type "dict",data:=.dict #[hE P "__name__" 165 (.str "plusless.errors" 194),hE P "__doc__" 166 .none,hE P "__package__" 167 .none,hE P "__loader__" 168 (.builtin "__main__.__loader__#opaque"),hE P "__spec__" 169 .none,hE P "__annotations__" 170 (.ref 6),hE P "__builtins__" 171 (.ref 4),hE P "__file__" 173 (.str "/claim/cut.py" 172),hE P "__cached__" 174 .none,hE P "_wall" 193 (.ref 21),hE P "PlusError" 213 (.ref 31),hE P "NoRow" 229 (.ref 44),hE P "NoNumber" 245 (.ref 56),hE P "NoSigns" 261 (.ref 68),hE P "TooMany" 277 (.ref 80),hE P "Lacking" 293 (.ref 92),hE P "Bare" 309 (.ref 104)] 17 }
noncomputable def q5 (P:Params):Obj:={ cls:=.none,data:=.fields #[.int 1 0,.int 0 0,.ref 20,.int 5 0,.int 0 0,.ref 27,.int 7 0,.int 0 0,.ref 40,.int 9 0,.int 0 0,.ref 52,.int 11 0,.int 0 0,.ref 64,.int 13 0,.int 0 0,.ref 76,.int 15 0,.int 0 0,.ref 88,.int 17 0,.int 0 0,.ref 100] }
noncomputable def q6 (P:Params):Obj:={ cls:=.type "tuple",data:=.seq #[] }
noncomputable def q7 (P:Params):Obj:={ cls:=.none,data:=.fields #[] }
noncomputable def q8 (P:Params):Obj:={ cls:=.type "tuple",data:=.seq #[.str "k" 190] }
noncomputable def q9 (P:Params):Obj:={ cls:=.type "tuple",data:=.seq #[] }
noncomputable def q10 (P:Params):Obj:=hG "_wall" 0
noncomputable def q11 (P:Params):Obj:=hC "_wall" 187 188 189 1 1 0 0 3 (.ref 15) 181 (.ref 16) .none (.ref 17) (.ref 18) (.ref 19) 191 1 192
noncomputable def q12 (P:Params):Obj:=hF "_wall" 0 "__main__" 164 20
noncomputable def q13 (P:Params):Obj:={ cls:=.type "tuple",data:=.seq #[.type "ValueError"] }
noncomputable def q14 (P:Params):Obj:={ cls:=.type "builtin_function_or_method",data:=.fields #[.builtin "type.__prepare__",.type "type"] }
noncomputable def q15 (P:Params):Obj:={ cls:=.type "dict",data:=.dict #[hE P "__module__" 203 (.str "plusless.errors" 194),hE P "__qualname__" 205 (.str "PlusError" 204),hE P "__firstlineno__" 207 (.int 5 206),hE P "__static_attributes__" 208 (.ref 29)] 4 }
noncomputable def q16 (P:Params):Obj:={ cls:=.type "tuple",data:=.seq #[] }
noncomputable def q17 (P:Params):Obj:={ cls:=.none,data:=.fields #[] }
noncomputable def q18 (P:Params):Obj:={ cls:=.type "code",data:=.fields #[.str "PlusError" 198,.str "PlusError" 199,.str "/claim/cut.py" 200,.int 5 0,.int 0 0,.int 0 0,.int 0 0,.int 0 0,.ref 25,.bool false,.int 181 0,.ref 26,.none,.none,.none,.none,.int 201 0,.int 5 0,.str "/claim/cut.py" 202] }
noncomputable def q19 (P:Params):Obj:={ cls:=.type "frame",slots:=#[some (.ref 27),some (.ref 3),some (.ref 24),none,some (.str "plusless.errors" 194),none,some (.ref 0)] }
noncomputable def q20 (P:Params):Obj:={ cls:=.type "tuple",data:=.seq #[] }
noncomputable def q21 (P:Params):Obj:={ cls:=.type "dict",data:=.dict #[hE P "__module__" 203 (.str "plusless.errors" 194),hE P "__firstlineno__" 207 (.int 5 206),hE P "__static_attributes__" 208 (.ref 29),hE P "__weakref__" 210 (.ref 32),hE P "__doc__" 211 .none] 3 }
noncomputable def q22 (P:Params):Obj:={ cls:=.type "type",data:=.cls { name:="PlusError",bases:=[.type "ValueError"],mro:=[.ref 31,.type "ValueError",.type "Exception",.type "BaseException",.type "object"],ns:=30,qualname:="PlusError",subclasses:=[.ref 44,.ref 56,.ref 68,.ref 80,.ref 92,.ref 104] },slots:=#[some (.ref 22),none,some (.str "PlusError" 196),some (.str "PlusError" 204),some (.builtin "ValueError.__new__"),some (.bool true)] }
noncomputable def q23 (P:Params):Obj:={ cls:=.type "getset_descriptor",data:=.fields #[.str "__weakref__" 209,.ref 31,.builtin "ExceptionGroup.__weakref__",.none] }
noncomputable def q24 (P:Params):Obj:={ cls:=.type "super",data:=.fields #[.ref 31,.ref 31,.ref 31] }
noncomputable def q25 (P:Params):Obj:={ cls:=.type "builtin_function_or_method",data:=.fields #[.builtin "object.__init_subclass__",.ref 31] }
noncomputable def q26 (P:Params):Obj:={ cls:=.type "tuple",data:=.seq #[.ref 31] }
noncomputable def q27 (P:Params):Obj:={ cls:=.type "builtin_function_or_method",data:=.fields #[.builtin "type.__prepare__",.type "type"] }
noncomputable def q28 (P:Params):Obj:={ cls:=.type "dict",data:=.dict #[hE P "__module__" 221 (.str "plusless.errors" 194),hE P "__qualname__" 223 (.str "NoRow" 222),hE P "__firstlineno__" 225 (.int 7 224),hE P "__static_attributes__" 226 (.ref 42)] 4 }
noncomputable def q29 (P:Params):Obj:={ cls:=.type "tuple",data:=.seq #[] }
noncomputable def q30 (P:Params):Obj:={ cls:=.none,data:=.fields #[] }
noncomputable def q31 (P:Params):Obj:={ cls:=.type "code",data:=.fields #[.str "NoRow" 216,.str "NoRow" 217,.str "/claim/cut.py" 218,.int 7 0,.int 0 0,.int 0 0,.int 0 0,.int 0 0,.ref 38,.bool false,.int 181 0,.ref 39,.none,.none,.none,.none,.int 219 0,.int 7 0,.str "/claim/cut.py" 220] }
noncomputable def q32 (P:Params):Obj:={ cls:=.type "frame",slots:=#[some (.ref 40),some (.ref 3),some (.ref 37),none,some (.str "plusless.errors" 194),none,some (.ref 0)] }
noncomputable def q33 (P:Params):Obj:={ cls:=.type "tuple",data:=.seq #[] }
noncomputable def q34 (P:Params):Obj:={ cls:=.type "dict",data:=.dict #[hE P "__module__" 221 (.str "plusless.errors" 194),hE P "__firstlineno__" 225 (.int 7 224),hE P "__static_attributes__" 226 (.ref 42),hE P "__doc__" 227 .none] 2 }
noncomputable def q35 (P:Params):Obj:={ cls:=.type "type",data:=.cls { name:="NoRow",bases:=[.ref 31],mro:=[.ref 44,.ref 31,.type "ValueError",.type "Exception",.type "BaseException",.type "object"],ns:=43,qualname:="NoRow" },slots:=#[some (.ref 35),none,some (.str "NoRow" 214),some (.str "NoRow" 222),some (.builtin "ValueError.__new__"),some (.bool true)] }
noncomputable def q36 (P:Params):Obj:={ cls:=.type "super",data:=.fields #[.ref 44,.ref 44,.ref 44] }
noncomputable def q37 (P:Params):Obj:={ cls:=.type "builtin_function_or_method",data:=.fields #[.builtin "object.__init_subclass__",.ref 44] }
noncomputable def q38 (P:Params):Obj:={ cls:=.type "tuple",data:=.seq #[.ref 31] }
noncomputable def q39 (P:Params):Obj:={ cls:=.type "builtin_function_or_method",data:=.fields #[.builtin "type.__prepare__",.type "type"] }
noncomputable def q40 (P:Params):Obj:={ cls:=.type "dict",data:=.dict #[hE P "__module__" 237 (.str "plusless.errors" 194),hE P "__qualname__" 239 (.str "NoNumber" 238),hE P "__firstlineno__" 241 (.int 9 240),hE P "__static_attributes__" 242 (.ref 54)] 4 }
noncomputable def q41 (P:Params):Obj:={ cls:=.type "tuple",data:=.seq #[] }
noncomputable def q42 (P:Params):Obj:={ cls:=.none,data:=.fields #[] }
noncomputable def q43 (P:Params):Obj:={ cls:=.type "code",data:=.fields #[.str "NoNumber" 232,.str "NoNumber" 233,.str "/claim/cut.py" 234,.int 9 0,.int 0 0,.int 0 0,.int 0 0,.int 0 0,.ref 50,.bool false,.int 181 0,.ref 51,.none,.none,.none,.none,.int 235 0,.int 9 0,.str "/claim/cut.py" 236] }
noncomputable def q44 (P:Params):Obj:={ cls:=.type "frame",slots:=#[some (.ref 52),some (.ref 3),some (.ref 49),none,some (.str "plusless.errors" 194),none,some (.ref 0)] }
noncomputable def q45 (P:Params):Obj:={ cls:=.type "tuple",data:=.seq #[] }
noncomputable def q46 (P:Params):Obj:={ cls:=.type "dict",data:=.dict #[hE P "__module__" 237 (.str "plusless.errors" 194),hE P "__firstlineno__" 241 (.int 9 240),hE P "__static_attributes__" 242 (.ref 54),hE P "__doc__" 243 .none] 2 }
noncomputable def q47 (P:Params):Obj:={ cls:=.type "type",data:=.cls { name:="NoNumber",bases:=[.ref 31],mro:=[.ref 56,.ref 31,.type "ValueError",.type "Exception",.type "BaseException",.type "object"],ns:=55,qualname:="NoNumber" },slots:=#[some (.ref 47),none,some (.str "NoNumber" 230),some (.str "NoNumber" 238),some (.builtin "ValueError.__new__"),some (.bool true)] }
noncomputable def q48 (P:Params):Obj:={ cls:=.type "super",data:=.fields #[.ref 56,.ref 56,.ref 56] }
noncomputable def q49 (P:Params):Obj:={ cls:=.type "builtin_function_or_method",data:=.fields #[.builtin "object.__init_subclass__",.ref 56] }
noncomputable def q50 (P:Params):Obj:={ cls:=.type "tuple",data:=.seq #[.ref 31] }
noncomputable def q51 (P:Params):Obj:={ cls:=.type "builtin_function_or_method",data:=.fields #[.builtin "type.__prepare__",.type "type"] }
noncomputable def q52 (P:Params):Obj:={ cls:=.type "dict",data:=.dict #[hE P "__module__" 253 (.str "plusless.errors" 194),hE P "__qualname__" 255 (.str "NoSigns" 254),hE P "__firstlineno__" 257 (.int 11 256),hE P "__static_attributes__" 258 (.ref 66)] 4 }
noncomputable def q53 (P:Params):Obj:={ cls:=.type "tuple",data:=.seq #[] }
noncomputable def q54 (P:Params):Obj:={ cls:=.none,data:=.fields #[] }
noncomputable def q55 (P:Params):Obj:={ cls:=.type "code",data:=.fields #[.str "NoSigns" 248,.str "NoSigns" 249,.str "/claim/cut.py" 250,.int 11 0,.int 0 0,.int 0 0,.int 0 0,.int 0 0,.ref 62,.bool false,.int 181 0,.ref 63,.none,.none,.none,.none,.int 251 0,.int 11 0,.str "/claim/cut.py" 252] }
noncomputable def q56 (P:Params):Obj:={ cls:=.type "frame",slots:=#[some (.ref 64),some (.ref 3),some (.ref 61),none,some (.str "plusless.errors" 194),none,some (.ref 0)] }
noncomputable def q57 (P:Params):Obj:={ cls:=.type "tuple",data:=.seq #[] }
noncomputable def q58 (P:Params):Obj:={ cls:=.type "dict",data:=.dict #[hE P "__module__" 253 (.str "plusless.errors" 194),hE P "__firstlineno__" 257 (.int 11 256),hE P "__static_attributes__" 258 (.ref 66),hE P "__doc__" 259 .none] 2 }
noncomputable def q59 (P:Params):Obj:={ cls:=.type "type",data:=.cls { name:="NoSigns",bases:=[.ref 31],mro:=[.ref 68,.ref 31,.type "ValueError",.type "Exception",.type "BaseException",.type "object"],ns:=67,qualname:="NoSigns" },slots:=#[some (.ref 59),none,some (.str "NoSigns" 246),some (.str "NoSigns" 254),some (.builtin "ValueError.__new__"),some (.bool true)] }
noncomputable def q60 (P:Params):Obj:={ cls:=.type "super",data:=.fields #[.ref 68,.ref 68,.ref 68] }
noncomputable def q61 (P:Params):Obj:={ cls:=.type "builtin_function_or_method",data:=.fields #[.builtin "object.__init_subclass__",.ref 68] }
noncomputable def q62 (P:Params):Obj:={ cls:=.type "tuple",data:=.seq #[.ref 31] }
noncomputable def q63 (P:Params):Obj:={ cls:=.type "builtin_function_or_method",data:=.fields #[.builtin "type.__prepare__",.type "type"] }
noncomputable def q64 (P:Params):Obj:={ cls:=.type "dict",data:=.dict #[hE P "__module__" 269 (.str "plusless.errors" 194),hE P "__qualname__" 271 (.str "TooMany" 270),hE P "__firstlineno__" 273 (.int 13 272),hE P "__static_attributes__" 274 (.ref 78)] 4 }
noncomputable def q65 (P:Params):Obj:={ cls:=.type "tuple",data:=.seq #[] }
noncomputable def q66 (P:Params):Obj:={ cls:=.none,data:=.fields #[] }
noncomputable def q67 (P:Params):Obj:={ cls:=.type "code",data:=.fields #[.str "TooMany" 264,.str "TooMany" 265,.str "/claim/cut.py" 266,.int 13 0,.int 0 0,.int 0 0,.int 0 0,.int 0 0,.ref 74,.bool false,.int 181 0,.ref 75,.none,.none,.none,.none,.int 267 0,.int 13 0,.str "/claim/cut.py" 268] }
noncomputable def q68 (P:Params):Obj:={ cls:=.type "frame",slots:=#[some (.ref 76),some (.ref 3),some (.ref 73),none,some (.str "plusless.errors" 194),none,some (.ref 0)] }
noncomputable def q69 (P:Params):Obj:={ cls:=.type "tuple",data:=.seq #[] }
noncomputable def q70 (P:Params):Obj:={ cls:=.type "dict",data:=.dict #[hE P "__module__" 269 (.str "plusless.errors" 194),hE P "__firstlineno__" 273 (.int 13 272),hE P "__static_attributes__" 274 (.ref 78),hE P "__doc__" 275 .none] 2 }
noncomputable def q71 (P:Params):Obj:={ cls:=.type "type",data:=.cls { name:="TooMany",bases:=[.ref 31],mro:=[.ref 80,.ref 31,.type "ValueError",.type "Exception",.type "BaseException",.type "object"],ns:=79,qualname:="TooMany" },slots:=#[some (.ref 71),none,some (.str "TooMany" 262),some (.str "TooMany" 270),some (.builtin "ValueError.__new__"),some (.bool true)] }
noncomputable def q72 (P:Params):Obj:={ cls:=.type "super",data:=.fields #[.ref 80,.ref 80,.ref 80] }
noncomputable def q73 (P:Params):Obj:={ cls:=.type "builtin_function_or_method",data:=.fields #[.builtin "object.__init_subclass__",.ref 80] }
noncomputable def q74 (P:Params):Obj:={ cls:=.type "tuple",data:=.seq #[.ref 31] }
noncomputable def q75 (P:Params):Obj:={ cls:=.type "builtin_function_or_method",data:=.fields #[.builtin "type.__prepare__",.type "type"] }
noncomputable def q76 (P:Params):Obj:={ cls:=.type "dict",data:=.dict #[hE P "__module__" 285 (.str "plusless.errors" 194),hE P "__qualname__" 287 (.str "Lacking" 286),hE P "__firstlineno__" 289 (.int 15 288),hE P "__static_attributes__" 290 (.ref 90)] 4 }
noncomputable def q77 (P:Params):Obj:={ cls:=.type "tuple",data:=.seq #[] }
noncomputable def q78 (P:Params):Obj:={ cls:=.none,data:=.fields #[] }
noncomputable def q79 (P:Params):Obj:={ cls:=.type "code",data:=.fields #[.str "Lacking" 280,.str "Lacking" 281,.str "/claim/cut.py" 282,.int 15 0,.int 0 0,.int 0 0,.int 0 0,.int 0 0,.ref 86,.bool false,.int 181 0,.ref 87,.none,.none,.none,.none,.int 283 0,.int 15 0,.str "/claim/cut.py" 284] }
noncomputable def q80 (P:Params):Obj:={ cls:=.type "frame",slots:=#[some (.ref 88),some (.ref 3),some (.ref 85),none,some (.str "plusless.errors" 194),none,some (.ref 0)] }
noncomputable def q81 (P:Params):Obj:={ cls:=.type "tuple",data:=.seq #[] }
noncomputable def q82 (P:Params):Obj:={ cls:=.type "dict",data:=.dict #[hE P "__module__" 285 (.str "plusless.errors" 194),hE P "__firstlineno__" 289 (.int 15 288),hE P "__static_attributes__" 290 (.ref 90),hE P "__doc__" 291 .none] 2 }
noncomputable def q83 (P:Params):Obj:={ cls:=.type "type",data:=.cls { name:="Lacking",bases:=[.ref 31],mro:=[.ref 92,.ref 31,.type "ValueError",.type "Exception",.type "BaseException",.type "object"],ns:=91,qualname:="Lacking" },slots:=#[some (.ref 83),none,some (.str "Lacking" 278),some (.str "Lacking" 286),some (.builtin "ValueError.__new__"),some (.bool true)] }
noncomputable def q84 (P:Params):Obj:={ cls:=.type "super",data:=.fields #[.ref 92,.ref 92,.ref 92] }
noncomputable def q85 (P:Params):Obj:={ cls:=.type "builtin_function_or_method",data:=.fields #[.builtin "object.__init_subclass__",.ref 92] }
noncomputable def q86 (P:Params):Obj:={ cls:=.type "tuple",data:=.seq #[.ref 31] }
noncomputable def q87 (P:Params):Obj:={ cls:=.type "builtin_function_or_method",data:=.fields #[.builtin "type.__prepare__",.type "type"] }
noncomputable def q88 (P:Params):Obj:={ cls:=.type "dict",data:=.dict #[hE P "__module__" 301 (.str "plusless.errors" 194),hE P "__qualname__" 303 (.str "Bare" 302),hE P "__firstlineno__" 305 (.int 17 304),hE P "__static_attributes__" 306 (.ref 102)] 4 }
noncomputable def q89 (P:Params):Obj:={ cls:=.type "tuple",data:=.seq #[] }
noncomputable def q90 (P:Params):Obj:={ cls:=.none,data:=.fields #[] }
noncomputable def q91 (P:Params):Obj:={ cls:=.type "code",data:=.fields #[.str "Bare" 296,.str "Bare" 297,.str "/claim/cut.py" 298,.int 17 0,.int 0 0,.int 0 0,.int 0 0,.int 0 0,.ref 98,.bool false,.int 181 0,.ref 99,.none,.none,.none,.none,.int 299 0,.int 17 0,.str "/claim/cut.py" 300] }
noncomputable def q92 (P:Params):Obj:={ cls:=.type "frame",slots:=#[some (.ref 100),some (.ref 3),some (.ref 97),none,some (.str "plusless.errors" 194),none,some (.ref 0)] }
noncomputable def q93 (P:Params):Obj:={ cls:=.type "tuple",data:=.seq #[] }
noncomputable def q94 (P:Params):Obj:={ cls:=.type "dict",data:=.dict #[hE P "__module__" 301 (.str "plusless.errors" 194),hE P "__firstlineno__" 305 (.int 17 304),hE P "__static_attributes__" 306 (.ref 102),hE P "__doc__" 307 .none] 2 }
noncomputable def q95 (P:Params):Obj:={ cls:=.type "type",data:=.cls { name:="Bare",bases:=[.ref 31],mro:=[.ref 104,.ref 31,.type "ValueError",.type "Exception",.type "BaseException",.type "object"],ns:=103,qualname:="Bare" },slots:=#[some (.ref 95),none,some (.str "Bare" 294),some (.str "Bare" 302),some (.builtin "ValueError.__new__"),some (.bool true)] }
noncomputable def q96 (P:Params):Obj:={ cls:=.type "super",data:=.fields #[.ref 104,.ref 104,.ref 104] }
noncomputable def q97 (P:Params):Obj:={ cls:=.type "builtin_function_or_method",data:=.fields #[.builtin "object.__init_subclass__",.ref 104] }
noncomputable def q98 (P:Params):Obj:={ cls:=.type "dict",data:=.dict #[hE P "__name__" 165 (.str "plusless.halves" 471),hE P "__doc__" 166 .none,hE P "__package__" 167 .none,hE P "__loader__" 168 (.builtin "__main__.__loader__#opaque"),hE P "__spec__" 169 .none,hE P "__annotations__" 170 (.ref 6),hE P "__builtins__" 171 (.ref 4),hE P "__file__" 173 (.str "/claim/cut.py" 172),hE P "__cached__" 174 .none,hE P "_wall" 193 (.ref 21),hE P "PlusError" 213 (.ref 31),hE P "NoRow" 229 (.ref 44),hE P "NoNumber" 245 (.ref 56),hE P "NoSigns" 261 (.ref 68),hE P "TooMany" 277 (.ref 80),hE P "Lacking" 293 (.ref 92),hE P "Bare" 309 (.ref 104),hE P "NoTable" 325 (.ref 116),hE P "NoLine" 341 (.ref 128),hE P "NoText" 366 (.ref 147),hE P "LONGEST_ROW" 370 (.int 16 369),hE P "is_whole" 377 (.ref 156),hE P "are_whole" 383 (.ref 161),hE P "is_row" 389 (.ref 166),hE P "need_row" 396 (.ref 173),hE P "need_number" 403 (.ref 180),hE P "need_number_from" 411 (.ref 187),hE P "need_row_and_number" 419 (.ref 194),hE P "are_parts" 425 (.ref 199),hE P "need_parts" 433 (.ref 206),hE P "total" 440 (.ref 213),hE P "SIGNS" 446 (.ref 214),hE P "stepped" 460 (.ref 221),hE P "table_of" 470 (.ref 228),hE P "halves_of" 480 (.ref 235),hE P "half_worths" 486 (.ref 240),hE P "many_met" 492 (.ref 245),hE P "firsts_stepped" 506 (.ref 252)] 38 }
noncomputable def q99 (P:Params):Obj:={ cls:=.none,data:=.fields #[.int 1 0,.int 0 0,.ref 20,.int 5 0,.int 0 0,.ref 27,.int 7 0,.int 0 0,.ref 40,.int 9 0,.int 0 0,.ref 52,.int 11 0,.int 0 0,.ref 64,.int 13 0,.int 0 0,.ref 76,.int 15 0,.int 0 0,.ref 88,.int 17 0,.int 0 0,.ref 100,.int 19 0,.int 0 0,.ref 112,.int 21 0,.int 0 0,.ref 124,.int 23 0,.int 0 0,.ref 136,.int 29 0,.int 0 0,.ref 155,.int 31 0,.int 0 0,.ref 160,.int 33 0,.int 0 0,.ref 165,.int 37 0,.int 0 0,.ref 172,.int 40 0,.int 0 0,.ref 179,.int 43 0,.int 0 0,.ref 186,.int 47 0,.int 0 0,.ref 193,.int 50 0,.int 0 0,.ref 198,.int 53 0,.int 0 0,.ref 205,.int 56 0,.int 0 0,.ref 212,.int 61 0,.int 0 0,.ref 220,.int 68 0,.int 0 0,.ref 227,.int 74 0,.int 0 0,.ref 234,.int 77 0,.int 0 0,.ref 239,.int 80 0,.int 0 0,.ref 244,.int 84 0,.int 0 0,.ref 251] }
noncomputable def uW (P:Params):Obj:={ cls:=.type "type",data:=.cls { name:="PlusError",bases:=[.type "ValueError"],mro:=[.ref 31,.type "ValueError",.type "Exception",.type "BaseException",.type "object"],ns:=30,qualname:="PlusError",subclasses:=[.ref 44,.ref 56,.ref 68,.ref 80,.ref 92,.ref 104,.ref 116,.ref 128,.ref 147] },slots:=#[some (.ref 22),none,some (.str "PlusError" 196),some (.str "PlusError" 204),some (.builtin "ValueError.__new__"),some (.bool true)] }
noncomputable def uX (P:Params):Obj:={ cls:=.type "tuple",data:=.seq #[.ref 31] }
noncomputable def uY (P:Params):Obj:={ cls:=.type "builtin_function_or_method",data:=.fields #[.builtin "type.__prepare__",.type "type"] }
noncomputable def uZ (P:Params):Obj:={ cls:=.type "dict",data:=.dict #[hE P "__module__" 317 (.str "plusless.errors" 194),hE P "__qualname__" 319 (.str "NoTable" 318),hE P "__firstlineno__" 321 (.int 19 320),hE P "__static_attributes__" 322 (.ref 114)] 4 }
noncomputable def u3 (P:Params):Obj:={ cls:=.type "tuple",data:=.seq #[] }
noncomputable def u4 (P:Params):Obj:={ cls:=.none,data:=.fields #[] }
noncomputable def u5 (P:Params):Obj:={ cls:=.type "code",data:=.fields #[.str "NoTable" 312,.str "NoTable" 313,.str "/claim/cut.py" 314,.int 19 0,.int 0 0,.int 0 0,.int 0 0,.int 0 0,.ref 110,.bool false,.int 181 0,.ref 111,.none,.none,.none,.none,.int 315 0,.int 19 0,.str "/claim/cut.py" 316] }
noncomputable def u6 (P:Params):Obj:={ cls:=.type "frame",slots:=#[some (.ref 112),some (.ref 3),some (.ref 109),none,some (.str "plusless.errors" 194),none,some (.ref 0)] }
noncomputable def u7 (P:Params):Obj:={ cls:=.type "tuple",data:=.seq #[] }
noncomputable def u9 (P:Params):Obj:={ cls:=.type "dict",data:=.dict #[hE P "__module__" 317 (.str "plusless.errors" 194),hE P "__firstlineno__" 321 (.int 19 320),hE P "__static_attributes__" 322 (.ref 114),hE P "__doc__" 323 .none] 2 }
noncomputable def vb (P:Params):Obj:={ cls:=.type "type",data:=.cls { name:="NoTable",bases:=[.ref 31],mro:=[.ref 116,.ref 31,.type "ValueError",.type "Exception",.type "BaseException",.type "object"],ns:=115,qualname:="NoTable" },slots:=#[some (.ref 107),none,some (.str "NoTable" 310),some (.str "NoTable" 318),some (.builtin "ValueError.__new__"),some (.bool true)] }
noncomputable def vc (P:Params):Obj:={ cls:=.type "super",data:=.fields #[.ref 116,.ref 116,.ref 116] }
noncomputable def vd (P:Params):Obj:={ cls:=.type "builtin_function_or_method",data:=.fields #[.builtin "object.__init_subclass__",.ref 116] }
noncomputable def ve (P:Params):Obj:={ cls:=.type "tuple",data:=.seq #[.ref 31] }
noncomputable def vf (P:Params):Obj:={ cls:=.type "builtin_function_or_method",data:=.fields #[.builtin "type.__prepare__",.type "type"] }
noncomputable def vg (P:Params):Obj:={ cls:=.type "dict",data:=.dict #[hE P "__module__" 333 (.str "plusless.errors" 194),hE P "__qualname__" 335 (.str "NoLine" 334),hE P "__firstlineno__" 337 (.int 21 336),hE P "__static_attributes__" 338 (.ref 126)] 4 }
noncomputable def vh (P:Params):Obj:={ cls:=.type "tuple",data:=.seq #[] }
noncomputable def vi (P:Params):Obj:={ cls:=.none,data:=.fields #[] }
noncomputable def vj (P:Params):Obj:={ cls:=.type "code",data:=.fields #[.str "NoLine" 328,.str "NoLine" 329,.str "/claim/cut.py" 330,.int 21 0,.int 0 0,.int 0 0,.int 0 0,.int 0 0,.ref 122,.bool false,.int 181 0,.ref 123,.none,.none,.none,.none,.int 331 0,.int 21 0,.str "/claim/cut.py" 332] }
noncomputable def vk (P:Params):Obj:={ cls:=.type "frame",slots:=#[some (.ref 124),some (.ref 3),some (.ref 121),none,some (.str "plusless.errors" 194),none,some (.ref 0)] }
noncomputable def vm (P:Params):Obj:={ cls:=.type "tuple",data:=.seq #[] }
noncomputable def vn (P:Params):Obj:={ cls:=.type "dict",data:=.dict #[hE P "__module__" 333 (.str "plusless.errors" 194),hE P "__firstlineno__" 337 (.int 21 336),hE P "__static_attributes__" 338 (.ref 126),hE P "__doc__" 339 .none] 2 }
noncomputable def vo (P:Params):Obj:={ cls:=.type "type",data:=.cls { name:="NoLine",bases:=[.ref 31],mro:=[.ref 128,.ref 31,.type "ValueError",.type "Exception",.type "BaseException",.type "object"],ns:=127,qualname:="NoLine" },slots:=#[some (.ref 119),none,some (.str "NoLine" 326),some (.str "NoLine" 334),some (.builtin "ValueError.__new__"),some (.bool true)] }
noncomputable def vp (P:Params):Obj:={ cls:=.type "super",data:=.fields #[.ref 128,.ref 128,.ref 128] }
noncomputable def vq (P:Params):Obj:={ cls:=.type "builtin_function_or_method",data:=.fields #[.builtin "object.__init_subclass__",.ref 128] }
noncomputable def vt (P:Params):Obj:={ cls:=.type "tuple",data:=.seq #[.ref 31] }
noncomputable def vw (P:Params):Obj:={ cls:=.type "builtin_function_or_method",data:=.fields #[.builtin "type.__prepare__",.type "type"] }
noncomputable def vx (P:Params):Obj:={ cls:=.type "dict",data:=.dict #[hE P "__module__" 349 (.str "plusless.errors" 194),hE P "__qualname__" 351 (.str "NoText" 350),hE P "__firstlineno__" 353 (.int 23 352),hE P "__init__" 361 (.ref 144),hE P "__static_attributes__" 363 (.ref 145)] 5 }
noncomputable def vz (P:Params):Obj:={ cls:=.type "tuple",data:=.seq #[] }
noncomputable def vA (P:Params):Obj:={ cls:=.none,data:=.fields #[.int 25 0,.int 4 0,.ref 143] }
noncomputable def vB (P:Params):Obj:={ cls:=.type "code",data:=.fields #[.str "NoText" 344,.str "NoText" 345,.str "/claim/cut.py" 346,.int 23 0,.int 0 0,.int 0 0,.int 0 0,.int 0 0,.ref 134,.bool false,.int 181 0,.ref 135,.none,.none,.none,.none,.int 347 0,.int 23 0,.str "/claim/cut.py" 348] }
noncomputable def vD (P:Params):Obj:={ cls:=.type "frame",slots:=#[some (.ref 136),some (.ref 3),some (.ref 133),none,some (.str "plusless.errors" 194),none,some (.ref 0)] }
noncomputable def vE (P:Params):Obj:={ cls:=.type "tuple",data:=.seq #[] }
noncomputable def vF (P:Params):Obj:={ cls:=.none,data:=.fields #[] }
noncomputable def vG (P:Params):Obj:={ cls:=.type "tuple",data:=.seq #[.str "self" 357,.str "at" 358] }
noncomputable def vH (P:Params):Obj:={ cls:=.type "tuple",data:=.seq #[] }
noncomputable def vI (P:Params):Obj:=hG2 "__init__" "NoText.__init__" 11 0
noncomputable def vJ (P:Params):Obj:=hC2 "NoText.__init__" "__init__" 354 355 356 25 2 0 0 3 (.ref 138) 181 (.ref 139) .none (.ref 140) (.ref 141) (.ref 142) 359 25 360
noncomputable def vK (P:Params):Obj:=hM "__init__" "NoText.__init__" 11 0 "plusless.errors" 194 143
noncomputable def vM (P:Params):Obj:={ cls:=.type "tuple",data:=.seq #[.str "at" 362] }
noncomputable def vN (P:Params):Obj:={ cls:=.type "dict",data:=.dict #[hE P "__module__" 349 (.str "plusless.errors" 194),hE P "__firstlineno__" 353 (.int 23 352),hE P "__init__" 361 (.ref 144),hE P "__static_attributes__" 363 (.ref 145),hE P "__doc__" 364 .none] 2 }
noncomputable def vO (P:Params):Obj:={ cls:=.type "type",data:=.cls { name:="NoText",bases:=[.ref 31],mro:=[.ref 147,.ref 31,.type "ValueError",.type "Exception",.type "BaseException",.type "object"],ns:=146,qualname:="NoText" },slots:=#[some (.ref 131),none,some (.str "NoText" 342),some (.str "NoText" 350),some (.builtin "ValueError.__new__"),some (.bool true)] }
noncomputable def vP (P:Params):Obj:={ cls:=.type "super",data:=.fields #[.ref 147,.ref 147,.ref 147] }
noncomputable def vQ (P:Params):Obj:={ cls:=.type "builtin_function_or_method",data:=.fields #[.builtin "object.__init_subclass__",.ref 147] }
noncomputable def vR (P:Params):Obj:={ cls:=.type "tuple",data:=.seq #[] }
noncomputable def vS (P:Params):Obj:={ cls:=.none,data:=.fields #[] }
noncomputable def vT (P:Params):Obj:={ cls:=.type "tuple",data:=.seq #[.str "thing" 374] }
noncomputable def vU (P:Params):Obj:={ cls:=.type "tuple",data:=.seq #[] }
noncomputable def vV (P:Params):Obj:=hG "is_whole" 14
noncomputable def vW (P:Params):Obj:=hC "is_whole" 371 372 373 29 1 0 0 3 (.ref 150) 181 (.ref 151) .none (.ref 152) (.ref 153) (.ref 154) 375 29 376
noncomputable def vX (P:Params):Obj:=hF "is_whole" 14 "plusless.rows" 367 155
noncomputable def vY (P:Params):Obj:={ cls:=.type "tuple",data:=.seq #[] }
noncomputable def vZ (P:Params):Obj:={ cls:=.none,data:=.fields #[] }
noncomputable def v3 (P:Params):Obj:=hG "are_whole" 15
noncomputable def v5 (P:Params):Obj:=hC "are_whole" 378 379 380 31 2 0 0 3 (.ref 157) 181 (.ref 158) .none .none .none (.ref 159) 381 31 382
noncomputable def v7 (P:Params):Obj:=hF "are_whole" 15 "plusless.rows" 367 160
noncomputable def v8 (P:Params):Obj:={ cls:=.type "tuple",data:=.seq #[] }
noncomputable def wa (P:Params):Obj:={ cls:=.none,data:=.fields #[] }
noncomputable def wb (P:Params):Obj:=hG "is_row" 16
noncomputable def wc (P:Params):Obj:=hC "is_row" 384 385 386 33 1 0 0 3 (.ref 162) 181 (.ref 163) .none .none .none (.ref 164) 387 33 388
noncomputable def we (P:Params):Obj:=hF "is_row" 16 "plusless.rows" 367 165
noncomputable def wg (P:Params):Obj:={ cls:=.type "tuple",data:=.seq #[] }
noncomputable def wj (P:Params):Obj:={ cls:=.none,data:=.fields #[] }
noncomputable def wk (P:Params):Obj:={ cls:=.type "tuple",data:=.seq #[.str "thing" 393] }
noncomputable def wm (P:Params):Obj:={ cls:=.type "tuple",data:=.seq #[] }
noncomputable def wo (P:Params):Obj:=hG "need_row" 17
noncomputable def wq (P:Params):Obj:=hC "need_row" 390 391 392 37 1 0 0 3 (.ref 167) 181 (.ref 168) .none (.ref 169) (.ref 170) (.ref 171) 394 37 395
noncomputable def wt (P:Params):Obj:=hF "need_row" 17 "plusless.rows" 367 172
noncomputable def wu (P:Params):Obj:={ cls:=.type "tuple",data:=.seq #[] }
noncomputable def wx (P:Params):Obj:={ cls:=.none,data:=.fields #[] }
noncomputable def wy (P:Params):Obj:={ cls:=.type "tuple",data:=.seq #[.str "thing" 400] }
noncomputable def wz (P:Params):Obj:={ cls:=.type "tuple",data:=.seq #[] }
noncomputable def wA (P:Params):Obj:=hG "need_number" 18
noncomputable def wB (P:Params):Obj:=hC "need_number" 397 398 399 40 1 0 0 3 (.ref 174) 181 (.ref 175) .none (.ref 176) (.ref 177) (.ref 178) 401 40 402
noncomputable def wC (P:Params):Obj:=hF "need_number" 18 "plusless.rows" 367 179
noncomputable def wD (P:Params):Obj:={ cls:=.type "tuple",data:=.seq #[] }
noncomputable def wF (P:Params):Obj:={ cls:=.none,data:=.fields #[] }
noncomputable def wG (P:Params):Obj:={ cls:=.type "tuple",data:=.seq #[.str "least" 407,.str "thing" 408] }
noncomputable def wH (P:Params):Obj:={ cls:=.type "tuple",data:=.seq #[] }
noncomputable def wI (P:Params):Obj:=hG "need_number_from" 19
noncomputable def wJ (P:Params):Obj:=hC "need_number_from" 404 405 406 43 2 0 0 3 (.ref 181) 181 (.ref 182) .none (.ref 183) (.ref 184) (.ref 185) 409 43 410
noncomputable def wK (P:Params):Obj:=hF "need_number_from" 19 "plusless.rows" 367 186
noncomputable def wL (P:Params):Obj:={ cls:=.type "tuple",data:=.seq #[] }
noncomputable def wM (P:Params):Obj:={ cls:=.none,data:=.fields #[] }
noncomputable def wN (P:Params):Obj:={ cls:=.type "tuple",data:=.seq #[.str "row" 415,.str "number" 416] }
noncomputable def wO (P:Params):Obj:={ cls:=.type "tuple",data:=.seq #[] }
noncomputable def wQ (P:Params):Obj:=hG "need_row_and_number" 20
noncomputable def wR (P:Params):Obj:=hC "need_row_and_number" 412 413 414 47 2 0 0 3 (.ref 188) 181 (.ref 189) .none (.ref 190) (.ref 191) (.ref 192) 417 47 418
noncomputable def wU (P:Params):Obj:=hF "need_row_and_number" 20 "plusless.rows" 367 193
noncomputable def wV (P:Params):Obj:={ cls:=.type "tuple",data:=.seq #[] }
noncomputable def wW (P:Params):Obj:={ cls:=.none,data:=.fields #[] }
noncomputable def wX (P:Params):Obj:=hG "are_parts" 21
noncomputable def wY (P:Params):Obj:=hC "are_parts" 420 421 422 50 2 0 0 3 (.ref 195) 181 (.ref 196) .none .none .none (.ref 197) 423 50 424
noncomputable def wZ (P:Params):Obj:=hF "are_parts" 21 "plusless.rows" 367 198
noncomputable def w8 (P:Params):Obj:={ cls:=.type "tuple",data:=.seq #[] }
noncomputable def w9 (P:Params):Obj:={ cls:=.none,data:=.fields #[] }
noncomputable def xa (P:Params):Obj:={ cls:=.type "tuple",data:=.seq #[.str "row" 429,.str "thing" 430] }
noncomputable def xb (P:Params):Obj:={ cls:=.type "tuple",data:=.seq #[] }
noncomputable def xc (P:Params):Obj:=hG "need_parts" 22
noncomputable def xf (P:Params):Obj:=hC "need_parts" 426 427 428 53 2 0 0 3 (.ref 200) 181 (.ref 201) .none (.ref 202) (.ref 203) (.ref 204) 431 53 432
noncomputable def xg (P:Params):Obj:=hF "need_parts" 22 "plusless.rows" 367 205
noncomputable def xh (P:Params):Obj:={ cls:=.type "tuple",data:=.seq #[] }
noncomputable def xi (P:Params):Obj:={ cls:=.none,data:=.fields #[] }
noncomputable def xj (P:Params):Obj:={ cls:=.type "tuple",data:=.seq #[.str "row" 437] }
noncomputable def xk (P:Params):Obj:={ cls:=.type "tuple",data:=.seq #[] }
noncomputable def xl (P:Params):Obj:=hG "total" 23
noncomputable def xm (P:Params):Obj:=hC "total" 434 435 436 56 1 0 0 3 (.ref 207) 181 (.ref 208) .none (.ref 209) (.ref 210) (.ref 211) 438 56 439
noncomputable def xn (P:Params):Obj:=hF "total" 23 "plusless.rows" 367 212
noncomputable def xo (P:Params):Obj:={ cls:=.type "tuple",data:=.seq #[.int (-1) 444,.int 1 445] }
noncomputable def xp (P:Params):Obj:={ cls:=.type "tuple",data:=.seq #[] }
noncomputable def xq (P:Params):Obj:={ cls:=.none,data:=.fields #[] }
noncomputable def xr (P:Params):Obj:={ cls:=.type "tuple",data:=.seq #[.str "table" 450,.str "step" 451,.str "choices" 452,.str "wider" 453,.str "reached" 454,.str "ways" 455,.str "choice" 456,.str "there" 457] }
noncomputable def xt (P:Params):Obj:={ cls:=.type "tuple",data:=.seq #[] }
noncomputable def xu (P:Params):Obj:=hG "stepped" 26
noncomputable def xv (P:Params):Obj:=hC "stepped" 447 448 449 61 3 0 0 3 (.ref 215) 181 (.ref 216) .none (.ref 217) (.ref 218) (.ref 219) 458 61 459
noncomputable def xw (P:Params):Obj:=hF "stepped" 26 "plusless.tables" 441 220
noncomputable def xx (P:Params):Obj:={ cls:=.type "tuple",data:=.seq #[] }
noncomputable def xy (P:Params):Obj:={ cls:=.none,data:=.fields #[] }
noncomputable def xA (P:Params):Obj:={ cls:=.type "tuple",data:=.seq #[.str "row" 464,.str "choices" 465,.str "table" 466,.str "step" 467] }
noncomputable def xB (P:Params):Obj:={ cls:=.type "tuple",data:=.seq #[] }
noncomputable def xD (P:Params):Obj:=hG "table_of" 27
noncomputable def xE (P:Params):Obj:=hC "table_of" 461 462 463 68 2 0 0 3 (.ref 222) 181 (.ref 223) .none (.ref 224) (.ref 225) (.ref 226) 468 68 469
noncomputable def xF (P:Params):Obj:=hF "table_of" 27 "plusless.tables" 441 227
noncomputable def xG (P:Params):Obj:={ cls:=.type "tuple",data:=.seq #[] }
noncomputable def xH (P:Params):Obj:={ cls:=.none,data:=.fields #[] }
noncomputable def xI (P:Params):Obj:={ cls:=.type "tuple",data:=.seq #[.str "row" 476,.str "middle" 477] }
noncomputable def xJ (P:Params):Obj:={ cls:=.type "tuple",data:=.seq #[] }
noncomputable def xK (P:Params):Obj:=hG "halves_of" 29
noncomputable def xN (P:Params):Obj:=hC "halves_of" 473 474 475 74 1 0 0 3 (.ref 229) 181 (.ref 230) .none (.ref 231) (.ref 232) (.ref 233) 478 74 479
noncomputable def xP (P:Params):Obj:=hF "halves_of" 29 "plusless.halves" 471 234
noncomputable def xQ (P:Params):Obj:={ cls:=.type "tuple",data:=.seq #[] }
noncomputable def xR (P:Params):Obj:={ cls:=.none,data:=.fields #[] }
noncomputable def xT (P:Params):Obj:=hG "half_worths" 30
noncomputable def xV (P:Params):Obj:=hC "half_worths" 481 482 483 77 1 0 0 3 (.ref 236) 181 (.ref 237) .none .none .none (.ref 238) 484 77 485
noncomputable def xW (P:Params):Obj:=hF "half_worths" 30 "plusless.halves" 471 239
noncomputable def xX (P:Params):Obj:={ cls:=.type "tuple",data:=.seq #[] }
noncomputable def xY (P:Params):Obj:={ cls:=.none,data:=.fields #[] }
noncomputable def xZ (P:Params):Obj:=hG "many_met" 31
noncomputable def x8 (P:Params):Obj:=hC "many_met" 487 488 489 80 2 0 0 3 (.ref 241) 181 (.ref 242) .none .none .none (.ref 243) 490 80 491
noncomputable def x9 (P:Params):Obj:=hF "many_met" 31 "plusless.halves" 471 244
noncomputable def ya (P:Params):Obj:={ cls:=.type "tuple",data:=.seq #[] }
noncomputable def yb (P:Params):Obj:={ cls:=.none,data:=.fields #[] }
noncomputable def yc (P:Params):Obj:={ cls:=.type "tuple",data:=.seq #[.str "firsts" 496,.str "step" 497,.str "longer" 498,.str "reached" 499,.str "signs" 500,.str "sign" 501,.str "there" 502,.str "chosen" 503] }
noncomputable def yd (P:Params):Obj:={ cls:=.type "tuple",data:=.seq #[] }
noncomputable def ye (P:Params):Obj:=hG "firsts_stepped" 32
noncomputable def yf (P:Params):Obj:=hC "firsts_stepped" 493 494 495 84 2 0 0 3 (.ref 246) 181 (.ref 247) .none (.ref 248) (.ref 249) (.ref 250) 504 84 505
noncomputable def yg (P:Params):Obj:=hF "firsts_stepped" 32 "plusless.halves" 471 251
noncomputable def HR (P:Params):Obj:={ cls:=.type "dict",data:=.dict #[hE P "__name__" 165 (.str "plusless.keeper" 611),hE P "__doc__" 166 .none,hE P "__package__" 167 .none,hE P "__loader__" 168 (.builtin "__main__.__loader__#opaque"),hE P "__spec__" 169 .none,hE P "__annotations__" 170 (.ref 6),hE P "__builtins__" 171 (.ref 4),hE P "__file__" 173 (.str "/claim/cut.py" 172),hE P "__cached__" 174 .none,hE P "_wall" 193 (.ref 21),hE P "PlusError" 213 (.ref 31),hE P "NoRow" 229 (.ref 44),hE P "NoNumber" 245 (.ref 56),hE P "NoSigns" 261 (.ref 68),hE P "TooMany" 277 (.ref 80),hE P "Lacking" 293 (.ref 92),hE P "Bare" 309 (.ref 104),hE P "NoTable" 325 (.ref 116),hE P "NoLine" 341 (.ref 128),hE P "NoText" 366 (.ref 147),hE P "LONGEST_ROW" 370 (.int 16 369),hE P "is_whole" 377 (.ref 156),hE P "are_whole" 383 (.ref 161),hE P "is_row" 389 (.ref 166),hE P "need_row" 396 (.ref 173),hE P "need_number" 403 (.ref 180),hE P "need_number_from" 411 (.ref 187),hE P "need_row_and_number" 419 (.ref 194),hE P "are_parts" 425 (.ref 199),hE P "need_parts" 433 (.ref 206),hE P "total" 440 (.ref 213),hE P "SIGNS" 446 (.ref 214),hE P "stepped" 460 (.ref 221),hE P "table_of" 470 (.ref 228),hE P "halves_of" 480 (.ref 235),hE P "half_worths" 486 (.ref 240),hE P "many_met" 492 (.ref 245),hE P "firsts_stepped" 506 (.ref 252),hE P "firsts_of" 515 (.ref 259),hE P "first_met" 521 (.ref 264),hE P "walk" 534 (.ref 271),hE P "below" 540 (.ref 276),hE P "above" 546 (.ref 281),hE P "unevenness" 555 (.ref 288),hE P "TIMES_BY_PARTS" 559 (.int 2 558),hE P "TIMES_BY_SIGNS" 561 (.int 1 560),hE P "ahead_of_too_great" 571 (.ref 295),hE P "every_by_parts" 578 (.ref 302),hE P "every_by_signs" 585 (.ref 309),hE P "swings_stepped" 601 (.ref 316),hE P "least_swing" 610 (.ref 323),hE P "Keeper" 707 (.ref 401)] 52 }
noncomputable def HS (P:Params):Obj:={ cls:=.none,data:=.fields #[.int 1 0,.int 0 0,.ref 20,.int 5 0,.int 0 0,.ref 27,.int 7 0,.int 0 0,.ref 40,.int 9 0,.int 0 0,.ref 52,.int 11 0,.int 0 0,.ref 64,.int 13 0,.int 0 0,.ref 76,.int 15 0,.int 0 0,.ref 88,.int 17 0,.int 0 0,.ref 100,.int 19 0,.int 0 0,.ref 112,.int 21 0,.int 0 0,.ref 124,.int 23 0,.int 0 0,.ref 136,.int 29 0,.int 0 0,.ref 155,.int 31 0,.int 0 0,.ref 160,.int 33 0,.int 0 0,.ref 165,.int 37 0,.int 0 0,.ref 172,.int 40 0,.int 0 0,.ref 179,.int 43 0,.int 0 0,.ref 186,.int 47 0,.int 0 0,.ref 193,.int 50 0,.int 0 0,.ref 198,.int 53 0,.int 0 0,.ref 205,.int 56 0,.int 0 0,.ref 212,.int 61 0,.int 0 0,.ref 220,.int 68 0,.int 0 0,.ref 227,.int 74 0,.int 0 0,.ref 234,.int 77 0,.int 0 0,.ref 239,.int 80 0,.int 0 0,.ref 244,.int 84 0,.int 0 0,.ref 251,.int 92 0,.int 0 0,.ref 258,.int 97 0,.int 0 0,.ref 263,.int 102 0,.int 0 0,.ref 270,.int 115 0,.int 0 0,.ref 275,.int 118 0,.int 0 0,.ref 280,.int 122 0,.int 0 0,.ref 287,.int 127 0,.int 0 0,.ref 294,.int 134 0,.int 0 0,.ref 301,.int 137 0,.int 0 0,.ref 308,.int 141 0,.int 0 0,.ref 315,.int 149 0,.int 0 0,.ref 322,.int 156 0,.int 0 0,.ref 329] }
noncomputable def Ag (P:Params):Obj:={ cls:=.type "tuple",data:=.seq #[] }
noncomputable def Ah (P:Params):Obj:={ cls:=.none,data:=.fields #[] }
noncomputable def Ai (P:Params):Obj:={ cls:=.type "tuple",data:=.seq #[.str "row" 510,.str "firsts" 511,.str "step" 512] }
noncomputable def Aj (P:Params):Obj:={ cls:=.type "tuple",data:=.seq #[] }
noncomputable def Ak (P:Params):Obj:=hG "firsts_of" 33
noncomputable def Al (P:Params):Obj:=hC "firsts_of" 507 508 509 92 1 0 0 3 (.ref 253) 181 (.ref 254) .none (.ref 255) (.ref 256) (.ref 257) 513 92 514
noncomputable def Am (P:Params):Obj:=hF "firsts_of" 33 "plusless.halves" 471 258
noncomputable def An (P:Params):Obj:={ cls:=.type "tuple",data:=.seq #[] }
noncomputable def Ao (P:Params):Obj:={ cls:=.none,data:=.fields #[] }
noncomputable def Ap (P:Params):Obj:=hG "first_met" 34
noncomputable def Aq (P:Params):Obj:=hC "first_met" 516 517 518 97 2 0 0 3 (.ref 260) 181 (.ref 261) .none .none .none (.ref 262) 519 97 520
noncomputable def Ar (P:Params):Obj:=hF "first_met" 34 "plusless.halves" 471 263
noncomputable def As (P:Params):Obj:={ cls:=.type "tuple",data:=.seq #[] }
noncomputable def Av (P:Params):Obj:={ cls:=.none,data:=.fields #[] }
noncomputable def Aw (P:Params):Obj:={ cls:=.type "tuple",data:=.seq #[.str "row" 525,.str "number" 526,.str "worths" 527,.str "walked" 528,.str "i" 529,.str "j" 530,.str "both" 531] }
noncomputable def Ax (P:Params):Obj:={ cls:=.type "tuple",data:=.seq #[] }
noncomputable def Ay (P:Params):Obj:=hG "walk" 35
noncomputable def Az (P:Params):Obj:=hC "walk" 522 523 524 102 2 0 0 3 (.ref 265) 181 (.ref 266) .none (.ref 267) (.ref 268) (.ref 269) 532 102 533
noncomputable def AA (P:Params):Obj:=hF "walk" 35 "plusless.halves" 471 270
noncomputable def AB (P:Params):Obj:={ cls:=.type "tuple",data:=.seq #[] }
noncomputable def AD (P:Params):Obj:={ cls:=.none,data:=.fields #[] }
noncomputable def AE (P:Params):Obj:=hG "below" 36
noncomputable def AF (P:Params):Obj:=hC "below" 535 536 537 115 2 0 0 3 (.ref 272) 181 (.ref 273) .none .none .none (.ref 274) 538 115 539
noncomputable def AG (P:Params):Obj:=hF "below" 36 "plusless.halves" 471 275
noncomputable def AH (P:Params):Obj:={ cls:=.type "tuple",data:=.seq #[] }
noncomputable def AI (P:Params):Obj:={ cls:=.none,data:=.fields #[] }
noncomputable def AJ (P:Params):Obj:=hG "above" 37
noncomputable def AK (P:Params):Obj:=hC "above" 541 542 543 118 2 0 0 3 (.ref 277) 181 (.ref 278) .none .none .none (.ref 279) 544 118 545
noncomputable def AL (P:Params):Obj:=hF "above" 37 "plusless.halves" 471 280
noncomputable def AN (P:Params):Obj:={ cls:=.type "tuple",data:=.seq #[] }
noncomputable def AO (P:Params):Obj:={ cls:=.none,data:=.fields #[] }
noncomputable def AQ (P:Params):Obj:={ cls:=.type "tuple",data:=.seq #[.str "row" 552] }
noncomputable def AR (P:Params):Obj:={ cls:=.type "tuple",data:=.seq #[] }
noncomputable def AS (P:Params):Obj:=hG "unevenness" 39
noncomputable def AU (P:Params):Obj:=hC "unevenness" 549 550 551 122 1 0 0 3 (.ref 282) 181 (.ref 283) .none (.ref 284) (.ref 285) (.ref 286) 553 122 554
noncomputable def AV (P:Params):Obj:=hF "unevenness" 39 "plusless.evenness" 547 287
noncomputable def AW (P:Params):Obj:={ cls:=.type "tuple",data:=.seq #[] }
noncomputable def AX (P:Params):Obj:={ cls:=.none,data:=.fields #[] }
noncomputable def AY (P:Params):Obj:={ cls:=.type "tuple",data:=.seq #[.str "row" 565,.str "times" 566,.str "ahead" 567,.str "number" 568] }
noncomputable def AZ (P:Params):Obj:={ cls:=.type "tuple",data:=.seq #[] }
noncomputable def A1 (P:Params):Obj:=hG "ahead_of_too_great" 43
noncomputable def A3 (P:Params):Obj:=hC "ahead_of_too_great" 562 563 564 127 2 0 0 3 (.ref 289) 181 (.ref 290) .none (.ref 291) (.ref 292) (.ref 293) 569 127 570
noncomputable def A4 (P:Params):Obj:=hF "ahead_of_too_great" 43 "plusless.every" 556 294
noncomputable def A5 (P:Params):Obj:={ cls:=.type "tuple",data:=.seq #[] }
noncomputable def A6 (P:Params):Obj:={ cls:=.none,data:=.fields #[] }
noncomputable def A7 (P:Params):Obj:={ cls:=.type "tuple",data:=.seq #[.str "row" 575] }
noncomputable def A8 (P:Params):Obj:={ cls:=.type "tuple",data:=.seq #[] }
noncomputable def A9 (P:Params):Obj:=hG "every_by_parts" 44
noncomputable def Ba (P:Params):Obj:=hC "every_by_parts" 572 573 574 134 1 0 0 3 (.ref 296) 181 (.ref 297) .none (.ref 298) (.ref 299) (.ref 300) 576 134 577
noncomputable def Bb (P:Params):Obj:=hF "every_by_parts" 44 "plusless.every" 556 301
noncomputable def Bc (P:Params):Obj:={ cls:=.type "tuple",data:=.seq #[] }
noncomputable def Bd (P:Params):Obj:={ cls:=.none,data:=.fields #[] }
noncomputable def Be (P:Params):Obj:={ cls:=.type "tuple",data:=.seq #[.str "row" 582] }
noncomputable def Bf (P:Params):Obj:={ cls:=.type "tuple",data:=.seq #[] }
noncomputable def Bg (P:Params):Obj:=hG "every_by_signs" 45
noncomputable def Bh (P:Params):Obj:=hC "every_by_signs" 579 580 581 137 1 0 0 3 (.ref 303) 181 (.ref 304) .none (.ref 305) (.ref 306) (.ref 307) 583 137 584
noncomputable def Bi (P:Params):Obj:=hF "every_by_signs" 45 "plusless.every" 556 308
noncomputable def Bj (P:Params):Obj:={ cls:=.type "tuple",data:=.seq #[] }
noncomputable def Bk (P:Params):Obj:={ cls:=.none,data:=.fields #[] }
noncomputable def Bl (P:Params):Obj:={ cls:=.type "tuple",data:=.seq #[.str "swings" 591,.str "step" 592,.str "longer" 593,.str "reached" 594,.str "swung" 595,.str "sign" 596,.str "there" 597,.str "further" 598] }
noncomputable def Bm (P:Params):Obj:={ cls:=.type "tuple",data:=.seq #[] }
noncomputable def Bn (P:Params):Obj:=hG "swings_stepped" 47
noncomputable def Bo (P:Params):Obj:=hC "swings_stepped" 588 589 590 141 2 0 0 3 (.ref 310) 181 (.ref 311) .none (.ref 312) (.ref 313) (.ref 314) 599 141 600
noncomputable def Bp (P:Params):Obj:=hF "swings_stepped" 47 "plusless.inturn" 586 315
noncomputable def Bq (P:Params):Obj:={ cls:=.type "tuple",data:=.seq #[] }
noncomputable def Br (P:Params):Obj:={ cls:=.none,data:=.fields #[] }
noncomputable def Bs (P:Params):Obj:={ cls:=.type "tuple",data:=.seq #[.str "row" 605,.str "swings" 606,.str "step" 607] }
noncomputable def Bt (P:Params):Obj:={ cls:=.type "tuple",data:=.seq #[] }
noncomputable def Bu (P:Params):Obj:=hG "least_swing" 48
noncomputable def Bv (P:Params):Obj:=hC "least_swing" 602 603 604 149 1 0 0 3 (.ref 317) 181 (.ref 318) .none (.ref 319) (.ref 320) (.ref 321) 608 149 609
noncomputable def Bw (P:Params):Obj:=hF "least_swing" 48 "plusless.inturn" 586 322
noncomputable def By (P:Params):Obj:={ cls:=.type "tuple",data:=.seq #[] }
noncomputable def Bz (P:Params):Obj:={ cls:=.type "builtin_function_or_method",data:=.fields #[.builtin "type.__prepare__",.type "type"] }
noncomputable def BA (P:Params):Obj:={ cls:=.type "dict",data:=.dict #[hE P "__module__" 620 (.str "plusless.keeper" 611),hE P "__qualname__" 622 (.str "Keeper" 621),hE P "__firstlineno__" 624 (.int 156 623),hE P "__init__" 631 (.ref 337),hE P "change" 639 (.ref 344),hE P "put" 647 (.ref 351),hE P "take" 654 (.ref 358),hE P "back" 661 (.ref 365),hE P "row" 668 (.ref 372),hE P "worths_many" 675 (.ref 379),hE P "ways" 683 (.ref 386),hE P "first" 691 (.ref 393),hE P "times" 697 (.ref 398),hE P "__static_attributes__" 700 (.ref 399)] 14 }
noncomputable def BB (P:Params):Obj:={ cls:=.type "tuple",data:=.seq #[] }
noncomputable def BC (P:Params):Obj:={ cls:=.none,data:=.fields #[.int 158 0,.int 4 0,.ref 336,.int 162 0,.int 4 0,.ref 343,.int 167 0,.int 4 0,.ref 350,.int 173 0,.int 4 0,.ref 357,.int 178 0,.int 4 0,.ref 364,.int 184 0,.int 4 0,.ref 371,.int 187 0,.int 4 0,.ref 378,.int 190 0,.int 4 0,.ref 385,.int 193 0,.int 4 0,.ref 392,.int 196 0,.int 4 0,.ref 397] }
noncomputable def BD (P:Params):Obj:={ cls:=.type "code",data:=.fields #[.str "Keeper" 615,.str "Keeper" 616,.str "/claim/cut.py" 617,.int 156 0,.int 0 0,.int 0 0,.int 0 0,.int 0 0,.ref 327,.bool false,.int 181 0,.ref 328,.none,.none,.none,.none,.int 618 0,.int 156 0,.str "/claim/cut.py" 619] }
noncomputable def BE (P:Params):Obj:={ cls:=.type "frame",slots:=#[some (.ref 329),some (.ref 3),some (.ref 326),none,some (.str "plusless.keeper" 611),none,some (.ref 0)] }
noncomputable def BF (P:Params):Obj:={ cls:=.type "tuple",data:=.seq #[] }
noncomputable def BG (P:Params):Obj:={ cls:=.none,data:=.fields #[] }
noncomputable def BH (P:Params):Obj:={ cls:=.type "tuple",data:=.seq #[.str "self" 628] }
noncomputable def BI (P:Params):Obj:={ cls:=.type "tuple",data:=.seq #[] }
noncomputable def BJ (P:Params):Obj:=hG2 "__init__" "Keeper.__init__" 50 0
noncomputable def BK (P:Params):Obj:=hC2 "Keeper.__init__" "__init__" 625 626 627 158 1 0 0 3 (.ref 331) 181 (.ref 332) .none (.ref 333) (.ref 334) (.ref 335) 629 158 630
noncomputable def BL (P:Params):Obj:=hM "__init__" "Keeper.__init__" 50 0 "plusless.keeper" 611 336
noncomputable def BM (P:Params):Obj:={ cls:=.type "tuple",data:=.seq #[] }
noncomputable def BN (P:Params):Obj:={ cls:=.none,data:=.fields #[] }
noncomputable def BO (P:Params):Obj:={ cls:=.type "tuple",data:=.seq #[.str "self" 635,.str "numbers" 636] }
noncomputable def BP (P:Params):Obj:={ cls:=.type "tuple",data:=.seq #[] }
noncomputable def BQ (P:Params):Obj:=hG2 "change" "Keeper.change" 50 1
noncomputable def BR (P:Params):Obj:=hC2 "Keeper.change" "change" 632 633 634 162 2 0 0 3 (.ref 338) 181 (.ref 339) .none (.ref 340) (.ref 341) (.ref 342) 637 162 638
noncomputable def BS (P:Params):Obj:=hM "change" "Keeper.change" 50 1 "plusless.keeper" 611 343
noncomputable def BU (P:Params):Obj:={ cls:=.type "tuple",data:=.seq #[] }
noncomputable def BV (P:Params):Obj:={ cls:=.none,data:=.fields #[] }
noncomputable def BW (P:Params):Obj:={ cls:=.type "tuple",data:=.seq #[.str "self" 643,.str "number" 644] }
noncomputable def BX (P:Params):Obj:={ cls:=.type "tuple",data:=.seq #[] }
noncomputable def BY (P:Params):Obj:=hG2 "put" "Keeper.put" 50 2
noncomputable def BZ (P:Params):Obj:=hC2 "Keeper.put" "put" 640 641 642 167 2 0 0 3 (.ref 345) 181 (.ref 346) .none (.ref 347) (.ref 348) (.ref 349) 645 167 646
noncomputable def B0 (P:Params):Obj:=hM "put" "Keeper.put" 50 2 "plusless.keeper" 611 350
noncomputable def B1 (P:Params):Obj:={ cls:=.type "tuple",data:=.seq #[] }
noncomputable def B3 (P:Params):Obj:={ cls:=.none,data:=.fields #[] }
noncomputable def B4 (P:Params):Obj:={ cls:=.type "tuple",data:=.seq #[.str "self" 651] }
noncomputable def B5 (P:Params):Obj:={ cls:=.type "tuple",data:=.seq #[] }
noncomputable def B6 (P:Params):Obj:=hG2 "take" "Keeper.take" 50 3
noncomputable def B7 (P:Params):Obj:=hC2 "Keeper.take" "take" 648 649 650 173 1 0 0 3 (.ref 352) 181 (.ref 353) .none (.ref 354) (.ref 355) (.ref 356) 652 173 653
noncomputable def B8 (P:Params):Obj:=hM "take" "Keeper.take" 50 3 "plusless.keeper" 611 357
noncomputable def B9 (P:Params):Obj:={ cls:=.type "tuple",data:=.seq #[] }
noncomputable def Cb (P:Params):Obj:={ cls:=.none,data:=.fields #[] }
noncomputable def Cc (P:Params):Obj:={ cls:=.type "tuple",data:=.seq #[.str "self" 658] }
noncomputable def Ce (P:Params):Obj:={ cls:=.type "tuple",data:=.seq #[] }
noncomputable def Cf (P:Params):Obj:=hG2 "back" "Keeper.back" 50 4
noncomputable def Cg (P:Params):Obj:=hC2 "Keeper.back" "back" 655 656 657 178 1 0 0 3 (.ref 359) 181 (.ref 360) .none (.ref 361) (.ref 362) (.ref 363) 659 178 660
noncomputable def Ci (P:Params):Obj:=hM "back" "Keeper.back" 50 4 "plusless.keeper" 611 364
noncomputable def Cj (P:Params):Obj:={ cls:=.type "tuple",data:=.seq #[] }
noncomputable def Ck (P:Params):Obj:={ cls:=.none,data:=.fields #[] }
noncomputable def Cm (P:Params):Obj:={ cls:=.type "tuple",data:=.seq #[.str "self" 665] }
noncomputable def Cn (P:Params):Obj:={ cls:=.type "tuple",data:=.seq #[] }
noncomputable def Co (P:Params):Obj:=hG2 "row" "Keeper.row" 50 5
noncomputable def Cq (P:Params):Obj:=hC2 "Keeper.row" "row" 662 663 664 184 1 0 0 3 (.ref 366) 181 (.ref 367) .none (.ref 368) (.ref 369) (.ref 370) 666 184 667
noncomputable def Cr (P:Params):Obj:=hM "row" "Keeper.row" 50 5 "plusless.keeper" 611 371
noncomputable def Cs (P:Params):Obj:={ cls:=.type "tuple",data:=.seq #[] }
noncomputable def Ct (P:Params):Obj:={ cls:=.none,data:=.fields #[] }
noncomputable def Cu (P:Params):Obj:={ cls:=.type "tuple",data:=.seq #[.str "self" 672] }
noncomputable def Cv (P:Params):Obj:={ cls:=.type "tuple",data:=.seq #[] }
noncomputable def Cw (P:Params):Obj:=hG2 "worths_many" "Keeper.worths_many" 50 6
noncomputable def Cy (P:Params):Obj:=hC2 "Keeper.worths_many" "worths_many" 669 670 671 187 1 0 0 3 (.ref 373) 181 (.ref 374) .none (.ref 375) (.ref 376) (.ref 377) 673 187 674
noncomputable def Cz (P:Params):Obj:=hM "worths_many" "Keeper.worths_many" 50 6 "plusless.keeper" 611 378
noncomputable def CA (P:Params):Obj:={ cls:=.type "tuple",data:=.seq #[] }
noncomputable def CB (P:Params):Obj:={ cls:=.none,data:=.fields #[] }
noncomputable def CC (P:Params):Obj:={ cls:=.type "tuple",data:=.seq #[.str "self" 679,.str "number" 680] }
noncomputable def CD (P:Params):Obj:={ cls:=.type "tuple",data:=.seq #[] }
noncomputable def CF (P:Params):Obj:=hG2 "ways" "Keeper.ways" 50 7
noncomputable def CG (P:Params):Obj:=hC2 "Keeper.ways" "ways" 676 677 678 190 2 0 0 3 (.ref 380) 181 (.ref 381) .none (.ref 382) (.ref 383) (.ref 384) 681 190 682
noncomputable def CH (P:Params):Obj:=hM "ways" "Keeper.ways" 50 7 "plusless.keeper" 611 385
noncomputable def CI (P:Params):Obj:={ cls:=.type "tuple",data:=.seq #[] }
noncomputable def CJ (P:Params):Obj:={ cls:=.none,data:=.fields #[] }
noncomputable def CK (P:Params):Obj:={ cls:=.type "tuple",data:=.seq #[.str "self" 687,.str "number" 688] }
noncomputable def CL (P:Params):Obj:={ cls:=.type "tuple",data:=.seq #[] }
noncomputable def CM (P:Params):Obj:=hG2 "first" "Keeper.first" 50 8
noncomputable def CN (P:Params):Obj:=hC2 "Keeper.first" "first" 684 685 686 193 2 0 0 3 (.ref 387) 181 (.ref 388) .none (.ref 389) (.ref 390) (.ref 391) 689 193 690
noncomputable def CO (P:Params):Obj:=hM "first" "Keeper.first" 50 8 "plusless.keeper" 611 392
noncomputable def CP (P:Params):Obj:={ cls:=.type "tuple",data:=.seq #[] }
noncomputable def CQ (P:Params):Obj:={ cls:=.none,data:=.fields #[] }
noncomputable def CS (P:Params):Obj:=hG2 "times" "Keeper.times" 50 9
noncomputable def CT (P:Params):Obj:=hC2 "Keeper.times" "times" 692 693 694 196 2 0 0 3 (.ref 394) 181 (.ref 395) .none .none .none (.ref 396) 695 196 696
noncomputable def CU (P:Params):Obj:=hM "times" "Keeper.times" 50 9 "plusless.keeper" 611 397
noncomputable def CV (P:Params):Obj:={ cls:=.type "tuple",data:=.seq #[.str "earlier" 698,.str "numbers" 699] }
noncomputable def CW (P:Params):Obj:={ cls:=.type "dict",data:=.dict #[hE P "__module__" 620 (.str "plusless.keeper" 611),hE P "__firstlineno__" 624 (.int 156 623),hE P "__init__" 631 (.ref 337),hE P "change" 639 (.ref 344),hE P "put" 647 (.ref 351),hE P "take" 654 (.ref 358),hE P "back" 661 (.ref 365),hE P "row" 668 (.ref 372),hE P "worths_many" 675 (.ref 379),hE P "ways" 683 (.ref 386),hE P "first" 691 (.ref 393),hE P "times" 697 (.ref 398),hE P "__static_attributes__" 700 (.ref 399),hE P "__dict__" 702 (.ref 402),hE P "__weakref__" 704 (.ref 403),hE P "__doc__" 705 .none] 4 }
noncomputable def CY (P:Params):Obj:={ cls:=.type "type",data:=.cls { name:="Keeper",bases:=[.type "object"],mro:=[.ref 401,.type "object"],ns:=400,qualname:="Keeper" },slots:=#[none,none,some (.str "Keeper" 613),some (.str "Keeper" 621),some (.builtin "object.__new__"),some (.bool true)] }
noncomputable def CZ (P:Params):Obj:={ cls:=.type "getset_descriptor",data:=.fields #[.str "__dict__" 701,.ref 401,.builtin "function.__dict__",.builtin "function.__dict__#set"] }
noncomputable def C0 (P:Params):Obj:={ cls:=.type "getset_descriptor",data:=.fields #[.str "__weakref__" 703,.ref 401,.builtin "ExceptionGroup.__weakref__",.none] }
noncomputable def C3 (P:Params):Obj:={ cls:=.type "super",data:=.fields #[.ref 401,.ref 401,.ref 401] }
noncomputable def C4 (P:Params):Obj:={ cls:=.type "builtin_function_or_method",data:=.fields #[.builtin "object.__init_subclass__",.ref 401] }
noncomputable def HU (P:Params):Obj:={ cls:=.type "dict",data:=.dict #[hE P "__name__" 165 (.str "plusless.desk" 740),hE P "__doc__" 166 .none,hE P "__package__" 167 .none,hE P "__loader__" 168 (.builtin "__main__.__loader__#opaque"),hE P "__spec__" 169 .none,hE P "__annotations__" 170 (.ref 6),hE P "__builtins__" 171 (.ref 4),hE P "__file__" 173 (.str "/claim/cut.py" 172),hE P "__cached__" 174 .none,hE P "_wall" 193 (.ref 21),hE P "PlusError" 213 (.ref 31),hE P "NoRow" 229 (.ref 44),hE P "NoNumber" 245 (.ref 56),hE P "NoSigns" 261 (.ref 68),hE P "TooMany" 277 (.ref 80),hE P "Lacking" 293 (.ref 92),hE P "Bare" 309 (.ref 104),hE P "NoTable" 325 (.ref 116),hE P "NoLine" 341 (.ref 128),hE P "NoText" 366 (.ref 147),hE P "LONGEST_ROW" 370 (.int 16 369),hE P "is_whole" 377 (.ref 156),hE P "are_whole" 383 (.ref 161),hE P "is_row" 389 (.ref 166),hE P "need_row" 396 (.ref 173),hE P "need_number" 403 (.ref 180),hE P "need_number_from" 411 (.ref 187),hE P "need_row_and_number" 419 (.ref 194),hE P "are_parts" 425 (.ref 199),hE P "need_parts" 433 (.ref 206),hE P "total" 440 (.ref 213),hE P "SIGNS" 446 (.ref 214),hE P "stepped" 460 (.ref 221),hE P "table_of" 470 (.ref 228),hE P "halves_of" 480 (.ref 235),hE P "half_worths" 486 (.ref 240),hE P "many_met" 492 (.ref 245),hE P "firsts_stepped" 506 (.ref 252),hE P "firsts_of" 515 (.ref 259),hE P "first_met" 521 (.ref 264),hE P "walk" 534 (.ref 271),hE P "below" 540 (.ref 276),hE P "above" 546 (.ref 281),hE P "unevenness" 555 (.ref 288),hE P "TIMES_BY_PARTS" 559 (.int 2 558),hE P "TIMES_BY_SIGNS" 561 (.int 1 560),hE P "ahead_of_too_great" 571 (.ref 295),hE P "every_by_parts" 578 (.ref 302),hE P "every_by_signs" 585 (.ref 309),hE P "swings_stepped" 601 (.ref 316),hE P "least_swing" 610 (.ref 323),hE P "Keeper" 707 (.ref 401),hE P "MARK_OF" 720 (.ref 406),hE P "FIGURES" 722 (.str "0123456789" 721),hE P "PIECE" 724 (.int 60 723),hE P "figures_of" 733 (.ref 413),hE P "show" 739 (.ref 418),hE P "MOST_FIGURES" 743 (.int 30 742),hE P "row_text" 749 (.ref 423),hE P "total_text" 756 (.ref 430),hE P "even_text" 763 (.ref 437),hE P "swing_text" 770 (.ref 444),hE P "every_text" 777 (.ref 451),hE P "comes_text" 785 (.ref 458),hE P "ways_text" 793 (.ref 465),hE P "signs_text" 802 (.ref 472),hE P "number_or_none" 809 (.ref 479),hE P "near_text" 817 (.ref 486),hE P "CHANGED_ALONE" 820 (.ref 487),hE P "ASKED_ALONE" 831 (.ref 488),hE P "ASKED_OF_A_NUMBER" 840 (.ref 489),hE P "is_number_word" 846 (.ref 494),hE P "is_line" 853 (.ref 501),hE P "words_of_line" 861 (.ref 508)] 74 }
noncomputable def HV (P:Params):Obj:={ cls:=.none,data:=.fields #[.int 1 0,.int 0 0,.ref 20,.int 5 0,.int 0 0,.ref 27,.int 7 0,.int 0 0,.ref 40,.int 9 0,.int 0 0,.ref 52,.int 11 0,.int 0 0,.ref 64,.int 13 0,.int 0 0,.ref 76,.int 15 0,.int 0 0,.ref 88,.int 17 0,.int 0 0,.ref 100,.int 19 0,.int 0 0,.ref 112,.int 21 0,.int 0 0,.ref 124,.int 23 0,.int 0 0,.ref 136,.int 29 0,.int 0 0,.ref 155,.int 31 0,.int 0 0,.ref 160,.int 33 0,.int 0 0,.ref 165,.int 37 0,.int 0 0,.ref 172,.int 40 0,.int 0 0,.ref 179,.int 43 0,.int 0 0,.ref 186,.int 47 0,.int 0 0,.ref 193,.int 50 0,.int 0 0,.ref 198,.int 53 0,.int 0 0,.ref 205,.int 56 0,.int 0 0,.ref 212,.int 61 0,.int 0 0,.ref 220,.int 68 0,.int 0 0,.ref 227,.int 74 0,.int 0 0,.ref 234,.int 77 0,.int 0 0,.ref 239,.int 80 0,.int 0 0,.ref 244,.int 84 0,.int 0 0,.ref 251,.int 92 0,.int 0 0,.ref 258,.int 97 0,.int 0 0,.ref 263,.int 102 0,.int 0 0,.ref 270,.int 115 0,.int 0 0,.ref 275,.int 118 0,.int 0 0,.ref 280,.int 122 0,.int 0 0,.ref 287,.int 127 0,.int 0 0,.ref 294,.int 134 0,.int 0 0,.ref 301,.int 137 0,.int 0 0,.ref 308,.int 141 0,.int 0 0,.ref 315,.int 149 0,.int 0 0,.ref 322,.int 156 0,.int 0 0,.ref 329,.int 202 0,.int 0 0,.ref 412,.int 209 0,.int 0 0,.ref 417,.int 214 0,.int 0 0,.ref 422,.int 216 0,.int 0 0,.ref 429,.int 218 0,.int 0 0,.ref 436,.int 220 0,.int 0 0,.ref 443,.int 222 0,.int 0 0,.ref 450,.int 226 0,.int 0 0,.ref 457,.int 228 0,.int 0 0,.ref 464,.int 230 0,.int 0 0,.ref 471,.int 233 0,.int 0 0,.ref 478,.int 235 0,.int 0 0,.ref 485,.int 240 0,.int 0 0,.ref 493,.int 245 0,.int 0 0,.ref 500,.int 253 0,.int 0 0,.ref 507] }
noncomputable def ET (P:Params):Obj:={ cls:=.type "dict",data:=.dict #[{ hash:=1,key:=.int 1 710,val:=.str "+" 711 },{ hash:=0,key:=.int 0 712,val:=.str "." 713 },{ hash:=-2,key:=.int (-1) 715,val:=.str "-" 716 }] 3 }
noncomputable def EU (P:Params):Obj:={ cls:=.type "tuple",data:=.seq #[] }
noncomputable def EV (P:Params):Obj:={ cls:=.none,data:=.fields #[] }
noncomputable def EW (P:Params):Obj:={ cls:=.type "tuple",data:=.seq #[.str "number" 728,.str "behind" 729,.str "rest" 730] }
noncomputable def EX (P:Params):Obj:={ cls:=.type "tuple",data:=.seq #[] }
noncomputable def EY (P:Params):Obj:=hG "figures_of" 55
noncomputable def EZ (P:Params):Obj:=hC "figures_of" 725 726 727 202 1 0 0 3 (.ref 407) 181 (.ref 408) .none (.ref 409) (.ref 410) (.ref 411) 731 202 732
noncomputable def E2 (P:Params):Obj:=hF "figures_of" 55 "plusless.texts" 708 412
noncomputable def E3 (P:Params):Obj:={ cls:=.type "tuple",data:=.seq #[] }
noncomputable def E4 (P:Params):Obj:={ cls:=.none,data:=.fields #[] }
noncomputable def E5 (P:Params):Obj:=hG "show" 56
noncomputable def E6 (P:Params):Obj:=hC "show" 734 735 736 209 2 0 0 3 (.ref 414) 181 (.ref 415) .none .none .none (.ref 416) 737 209 738
noncomputable def E7 (P:Params):Obj:=hF "show" 56 "plusless.texts" 708 417
noncomputable def E8 (P:Params):Obj:={ cls:=.type "tuple",data:=.seq #[] }
noncomputable def E9 (P:Params):Obj:={ cls:=.none,data:=.fields #[] }
noncomputable def Fb (P:Params):Obj:=hG "row_text" 59
noncomputable def Fc (P:Params):Obj:=hC "row_text" 744 745 746 214 1 0 0 3 (.ref 419) 181 (.ref 420) .none .none .none (.ref 421) 747 214 748
noncomputable def Fd (P:Params):Obj:=hF "row_text" 59 "plusless.desk" 740 422
noncomputable def Fe (P:Params):Obj:={ cls:=.type "tuple",data:=.seq #[] }
noncomputable def Ff (P:Params):Obj:={ cls:=.none,data:=.fields #[] }
noncomputable def Fg (P:Params):Obj:={ cls:=.type "tuple",data:=.seq #[.str "row" 753] }
noncomputable def Fh (P:Params):Obj:={ cls:=.type "tuple",data:=.seq #[] }
noncomputable def Fi (P:Params):Obj:=hG "total_text" 60
noncomputable def Fj (P:Params):Obj:=hC "total_text" 750 751 752 216 1 0 0 3 (.ref 424) 181 (.ref 425) .none (.ref 426) (.ref 427) (.ref 428) 754 216 755
noncomputable def Fl (P:Params):Obj:=hF "total_text" 60 "plusless.desk" 740 429
noncomputable def Fm (P:Params):Obj:={ cls:=.type "tuple",data:=.seq #[] }
noncomputable def Fn (P:Params):Obj:={ cls:=.none,data:=.fields #[] }
noncomputable def Fp (P:Params):Obj:={ cls:=.type "tuple",data:=.seq #[.str "row" 760] }
noncomputable def Fq (P:Params):Obj:={ cls:=.type "tuple",data:=.seq #[] }
noncomputable def Fs (P:Params):Obj:=hG "even_text" 61
noncomputable def Ft (P:Params):Obj:=hC "even_text" 757 758 759 218 1 0 0 3 (.ref 431) 181 (.ref 432) .none (.ref 433) (.ref 434) (.ref 435) 761 218 762
noncomputable def Fu (P:Params):Obj:=hF "even_text" 61 "plusless.desk" 740 436
noncomputable def Fv (P:Params):Obj:={ cls:=.type "tuple",data:=.seq #[] }
noncomputable def Fw (P:Params):Obj:={ cls:=.none,data:=.fields #[] }
noncomputable def Fx (P:Params):Obj:={ cls:=.type "tuple",data:=.seq #[.str "row" 767] }
noncomputable def Fy (P:Params):Obj:={ cls:=.type "tuple",data:=.seq #[] }
noncomputable def Fz (P:Params):Obj:=hG "swing_text" 62
noncomputable def FA (P:Params):Obj:=hC "swing_text" 764 765 766 220 1 0 0 3 (.ref 438) 181 (.ref 439) .none (.ref 440) (.ref 441) (.ref 442) 768 220 769
noncomputable def FC (P:Params):Obj:=hF "swing_text" 62 "plusless.desk" 740 443
noncomputable def FD (P:Params):Obj:={ cls:=.type "tuple",data:=.seq #[] }
noncomputable def FE (P:Params):Obj:={ cls:=.none,data:=.fields #[] }
noncomputable def FF (P:Params):Obj:={ cls:=.type "tuple",data:=.seq #[.str "row" 774] }
noncomputable def FG (P:Params):Obj:={ cls:=.type "tuple",data:=.seq #[] }
noncomputable def FH (P:Params):Obj:=hG "every_text" 63
noncomputable def FI (P:Params):Obj:=hC "every_text" 771 772 773 222 1 0 0 3 (.ref 445) 181 (.ref 446) .none (.ref 447) (.ref 448) (.ref 449) 775 222 776
noncomputable def FJ (P:Params):Obj:=hF "every_text" 63 "plusless.desk" 740 450
noncomputable def FK (P:Params):Obj:={ cls:=.type "tuple",data:=.seq #[] }
noncomputable def FL (P:Params):Obj:={ cls:=.none,data:=.fields #[] }
noncomputable def FN (P:Params):Obj:={ cls:=.type "tuple",data:=.seq #[.str "row" 781,.str "number" 782] }
noncomputable def FO (P:Params):Obj:={ cls:=.type "tuple",data:=.seq #[] }
noncomputable def FP (P:Params):Obj:=hG "comes_text" 64
noncomputable def FQ (P:Params):Obj:=hC "comes_text" 778 779 780 226 2 0 0 3 (.ref 452) 181 (.ref 453) .none (.ref 454) (.ref 455) (.ref 456) 783 226 784
noncomputable def FR (P:Params):Obj:=hF "comes_text" 64 "plusless.desk" 740 457
noncomputable def FT (P:Params):Obj:={ cls:=.type "tuple",data:=.seq #[] }
noncomputable def FU (P:Params):Obj:={ cls:=.none,data:=.fields #[] }
noncomputable def FW (P:Params):Obj:={ cls:=.type "tuple",data:=.seq #[.str "row" 789,.str "number" 790] }
noncomputable def FX (P:Params):Obj:={ cls:=.type "tuple",data:=.seq #[] }
noncomputable def FY (P:Params):Obj:=hG "ways_text" 65
noncomputable def FZ (P:Params):Obj:=hC "ways_text" 786 787 788 228 2 0 0 3 (.ref 459) 181 (.ref 460) .none (.ref 461) (.ref 462) (.ref 463) 791 228 792
noncomputable def Ga (P:Params):Obj:=hF "ways_text" 65 "plusless.desk" 740 464
noncomputable def Gb (P:Params):Obj:={ cls:=.type "tuple",data:=.seq #[] }
noncomputable def Gd (P:Params):Obj:={ cls:=.none,data:=.fields #[] }
noncomputable def Ge (P:Params):Obj:={ cls:=.type "tuple",data:=.seq #[.str "row" 797,.str "number" 798,.str "signs" 799] }
noncomputable def Gf (P:Params):Obj:={ cls:=.type "tuple",data:=.seq #[] }
noncomputable def Gg (P:Params):Obj:=hG "signs_text" 66
noncomputable def Gh (P:Params):Obj:=hC "signs_text" 794 795 796 230 2 0 0 3 (.ref 466) 181 (.ref 467) .none (.ref 468) (.ref 469) (.ref 470) 800 230 801
noncomputable def Gi (P:Params):Obj:=hF "signs_text" 66 "plusless.desk" 740 471
noncomputable def Gj (P:Params):Obj:={ cls:=.type "tuple",data:=.seq #[] }
noncomputable def Gk (P:Params):Obj:={ cls:=.none,data:=.fields #[] }
noncomputable def Gm (P:Params):Obj:={ cls:=.type "tuple",data:=.seq #[.str "number" 806] }
noncomputable def Gn (P:Params):Obj:={ cls:=.type "tuple",data:=.seq #[] }
noncomputable def Gp (P:Params):Obj:=hG "number_or_none" 67
noncomputable def Gq (P:Params):Obj:=hC "number_or_none" 803 804 805 233 1 0 0 3 (.ref 473) 181 (.ref 474) .none (.ref 475) (.ref 476) (.ref 477) 807 233 808
noncomputable def Gs (P:Params):Obj:=hF "number_or_none" 67 "plusless.desk" 740 478
noncomputable def Gu (P:Params):Obj:={ cls:=.type "tuple",data:=.seq #[] }
noncomputable def Gv (P:Params):Obj:={ cls:=.none,data:=.fields #[] }
noncomputable def Gw (P:Params):Obj:={ cls:=.type "tuple",data:=.seq #[.str "row" 813,.str "number" 814] }
noncomputable def Gx (P:Params):Obj:={ cls:=.type "tuple",data:=.seq #[] }
noncomputable def Gy (P:Params):Obj:=hG "near_text" 68
noncomputable def Gz (P:Params):Obj:=hC "near_text" 810 811 812 235 2 0 0 3 (.ref 480) 181 (.ref 481) .none (.ref 482) (.ref 483) (.ref 484) 815 235 816
noncomputable def GA (P:Params):Obj:=hF "near_text" 68 "plusless.desk" 740 485
noncomputable def GB (P:Params):Obj:={ cls:=.type "tuple",data:=.seq #[.str "take" 818,.str "back" 819] }
noncomputable def GC (P:Params):Obj:={ cls:=.type "dict",data:=.dict #[hE P "row" 821 (.ref 423),hE P "total" 822 (.ref 430),hE P "even" 823 (.ref 437),hE P "swing" 824 (.ref 444),hE P "every" 825 (.ref 451)] 5 }
noncomputable def GD (P:Params):Obj:={ cls:=.type "dict",data:=.dict #[hE P "comes" 832 (.ref 458),hE P "ways" 833 (.ref 465),hE P "signs" 834 (.ref 472),hE P "near" 835 (.ref 486)] 4 }
noncomputable def GF (P:Params):Obj:={ cls:=.type "tuple",data:=.seq #[] }
noncomputable def GG (P:Params):Obj:={ cls:=.none,data:=.fields #[] }
noncomputable def GH (P:Params):Obj:=hG "is_number_word" 72
noncomputable def GI (P:Params):Obj:=hC "is_number_word" 841 842 843 240 1 0 0 3 (.ref 490) 181 (.ref 491) .none .none .none (.ref 492) 844 240 845
noncomputable def GJ (P:Params):Obj:=hF "is_number_word" 72 "plusless.desk" 740 493
noncomputable def GK (P:Params):Obj:={ cls:=.type "tuple",data:=.seq #[] }
noncomputable def GL (P:Params):Obj:={ cls:=.none,data:=.fields #[] }
noncomputable def GN (P:Params):Obj:={ cls:=.type "tuple",data:=.seq #[.str "words" 850] }
noncomputable def GO (P:Params):Obj:={ cls:=.type "tuple",data:=.seq #[] }
noncomputable def GP (P:Params):Obj:=hG "is_line" 73
noncomputable def GQ (P:Params):Obj:=hC "is_line" 847 848 849 245 1 0 0 3 (.ref 495) 181 (.ref 496) .none (.ref 497) (.ref 498) (.ref 499) 851 245 852
noncomputable def GR (P:Params):Obj:=hF "is_line" 73 "plusless.desk" 740 500
noncomputable def GS (P:Params):Obj:={ cls:=.type "tuple",data:=.seq #[] }
noncomputable def GU (P:Params):Obj:={ cls:=.none,data:=.fields #[] }
noncomputable def GV (P:Params):Obj:={ cls:=.type "tuple",data:=.seq #[.str "line" 857,.str "words" 858] }
noncomputable def GW (P:Params):Obj:={ cls:=.type "tuple",data:=.seq #[] }
noncomputable def GX (P:Params):Obj:=hG "words_of_line" 74
noncomputable def GY (P:Params):Obj:=hC "words_of_line" 854 855 856 253 1 0 0 3 (.ref 502) 181 (.ref 503) .none (.ref 504) (.ref 505) (.ref 506) 859 253 860
noncomputable def GZ (P:Params):Obj:=hF "words_of_line" 74 "plusless.desk" 740 507
noncomputable def HW (P:Params):Obj:={ cls:=.type "dict",data:=.dict #[hE P "__name__" 165 (.str "law_plusless_k83_no_lines" 900),hE P "__doc__" 166 .none,hE P "__package__" 167 .none,hE P "__loader__" 168 (.builtin "__main__.__loader__#opaque"),hE P "__spec__" 169 .none,hE P "__annotations__" 170 (.ref 6),hE P "__builtins__" 171 (.ref 4),hE P "__file__" 173 (.str "/claim/cut.py" 172),hE P "__cached__" 174 .none,hE P "_wall" 193 (.ref 21),hE P "PlusError" 213 (.ref 31),hE P "NoRow" 229 (.ref 44),hE P "NoNumber" 245 (.ref 56),hE P "NoSigns" 261 (.ref 68),hE P "TooMany" 277 (.ref 80),hE P "Lacking" 293 (.ref 92),hE P "Bare" 309 (.ref 104),hE P "NoTable" 325 (.ref 116),hE P "NoLine" 341 (.ref 128),hE P "NoText" 366 (.ref 147),hE P "LONGEST_ROW" 370 (.int 16 369),hE P "is_whole" 377 (.ref 156),hE P "are_whole" 383 (.ref 161),hE P "is_row" 389 (.ref 166),hE P "need_row" 396 (.ref 173),hE P "need_number" 403 (.ref 180),hE P "need_number_from" 411 (.ref 187),hE P "need_row_and_number" 419 (.ref 194),hE P "are_parts" 425 (.ref 199),hE P "need_parts" 433 (.ref 206),hE P "total" 440 (.ref 213),hE P "SIGNS" 446 (.ref 214),hE P "stepped" 460 (.ref 221),hE P "table_of" 470 (.ref 228),hE P "halves_of" 480 (.ref 235),hE P "half_worths" 486 (.ref 240),hE P "many_met" 492 (.ref 245),hE P "firsts_stepped" 506 (.ref 252),hE P "firsts_of" 515 (.ref 259),hE P "first_met" 521 (.ref 264),hE P "walk" 534 (.ref 271),hE P "below" 540 (.ref 276),hE P "above" 546 (.ref 281),hE P "unevenness" 555 (.ref 288),hE P "TIMES_BY_PARTS" 559 (.int 2 558),hE P "TIMES_BY_SIGNS" 561 (.int 1 560),hE P "ahead_of_too_great" 571 (.ref 295),hE P "every_by_parts" 578 (.ref 302),hE P "every_by_signs" 585 (.ref 309),hE P "swings_stepped" 601 (.ref 316),hE P "least_swing" 610 (.ref 323),hE P "Keeper" 707 (.ref 401),hE P "MARK_OF" 720 (.ref 406),hE P "FIGURES" 722 (.str "0123456789" 721),hE P "PIECE" 724 (.int 60 723),hE P "figures_of" 733 (.ref 413),hE P "show" 739 (.ref 418),hE P "MOST_FIGURES" 743 (.int 30 742),hE P "row_text" 749 (.ref 423),hE P "total_text" 756 (.ref 430),hE P "even_text" 763 (.ref 437),hE P "swing_text" 770 (.ref 444),hE P "every_text" 777 (.ref 451),hE P "comes_text" 785 (.ref 458),hE P "ways_text" 793 (.ref 465),hE P "signs_text" 802 (.ref 472),hE P "number_or_none" 809 (.ref 479),hE P "near_text" 817 (.ref 486),hE P "CHANGED_ALONE" 820 (.ref 487),hE P "ASKED_ALONE" 831 (.ref 488),hE P "ASKED_OF_A_NUMBER" 840 (.ref 489),hE P "is_number_word" 846 (.ref 494),hE P "is_line" 853 (.ref 501),hE P "words_of_line" 861 (.ref 508),hE P "Desk" 899 (.ref 532),hE P "_law_box" 913 (.ref 543),hE P "_law_take" 923 (.ref 550),hE P "_law_odd" 931 (.ref 557),hE P "_law_classes" 939 (.ref 564),hE P "_law_only" 945 (.ref 569),hE P "_law_said" 951 (.ref 574),hE P "_law_bent" 963 (.ref 581),hE P "_law_number" 969 (.ref 586),hE P "_law_is_line" 978 (.ref 593),hE P "law" 984 (.ref 598)] 85 }
noncomputable def HX (P:Params):Obj:={ cls:=.none,data:=.fields #[.int 1 0,.int 0 0,.ref 20,.int 5 0,.int 0 0,.ref 27,.int 7 0,.int 0 0,.ref 40,.int 9 0,.int 0 0,.ref 52,.int 11 0,.int 0 0,.ref 64,.int 13 0,.int 0 0,.ref 76,.int 15 0,.int 0 0,.ref 88,.int 17 0,.int 0 0,.ref 100,.int 19 0,.int 0 0,.ref 112,.int 21 0,.int 0 0,.ref 124,.int 23 0,.int 0 0,.ref 136,.int 29 0,.int 0 0,.ref 155,.int 31 0,.int 0 0,.ref 160,.int 33 0,.int 0 0,.ref 165,.int 37 0,.int 0 0,.ref 172,.int 40 0,.int 0 0,.ref 179,.int 43 0,.int 0 0,.ref 186,.int 47 0,.int 0 0,.ref 193,.int 50 0,.int 0 0,.ref 198,.int 53 0,.int 0 0,.ref 205,.int 56 0,.int 0 0,.ref 212,.int 61 0,.int 0 0,.ref 220,.int 68 0,.int 0 0,.ref 227,.int 74 0,.int 0 0,.ref 234,.int 77 0,.int 0 0,.ref 239,.int 80 0,.int 0 0,.ref 244,.int 84 0,.int 0 0,.ref 251,.int 92 0,.int 0 0,.ref 258,.int 97 0,.int 0 0,.ref 263,.int 102 0,.int 0 0,.ref 270,.int 115 0,.int 0 0,.ref 275,.int 118 0,.int 0 0,.ref 280,.int 122 0,.int 0 0,.ref 287,.int 127 0,.int 0 0,.ref 294,.int 134 0,.int 0 0,.ref 301,.int 137 0,.int 0 0,.ref 308,.int 141 0,.int 0 0,.ref 315,.int 149 0,.int 0 0,.ref 322,.int 156 0,.int 0 0,.ref 329,.int 202 0,.int 0 0,.ref 412,.int 209 0,.int 0 0,.ref 417,.int 214 0,.int 0 0,.ref 422,.int 216 0,.int 0 0,.ref 429,.int 218 0,.int 0 0,.ref 436,.int 220 0,.int 0 0,.ref 443,.int 222 0,.int 0 0,.ref 450,.int 226 0,.int 0 0,.ref 457,.int 228 0,.int 0 0,.ref 464,.int 230 0,.int 0 0,.ref 471,.int 233 0,.int 0 0,.ref 478,.int 235 0,.int 0 0,.ref 485,.int 240 0,.int 0 0,.ref 493,.int 245 0,.int 0 0,.ref 500,.int 253 0,.int 0 0,.ref 507,.int 260 0,.int 0 0,.ref 514,.int 278 0,.int 0 0,.ref 542,.int 290 0,.int 0 0,.ref 549,.int 294 0,.int 0 0,.ref 556,.int 297 0,.int 0 0,.ref 563,.int 301 0,.int 0 0,.ref 568,.int 305 0,.int 0 0,.ref 573,.int 310 0,.int 0 0,.ref 580,.int 326 0,.int 0 0,.ref 585,.int 333 0,.int 0 0,.ref 592,.int 343 0,.int 0 0,.ref 597] }
noncomputable def HY (P:Params):Obj:={ cls:=.type "tuple",data:=.seq #[] }
noncomputable def HZ (P:Params):Obj:={ cls:=.type "builtin_function_or_method",data:=.fields #[.builtin "type.__prepare__",.type "type"] }
noncomputable def Ia (P:Params):Obj:={ cls:=.type "dict",data:=.dict #[hE P "__module__" 869 (.str "plusless.desk" 740),hE P "__qualname__" 871 (.str "Desk" 870),hE P "__firstlineno__" 873 (.int 260 872),hE P "__init__" 880 (.ref 522),hE P "say" 890 (.ref 529),hE P "__static_attributes__" 892 (.ref 530)] 6 }
noncomputable def Ib (P:Params):Obj:={ cls:=.type "tuple",data:=.seq #[] }
noncomputable def Ic (P:Params):Obj:={ cls:=.none,data:=.fields #[.int 262 0,.int 4 0,.ref 521,.int 265 0,.int 4 0,.ref 528] }
noncomputable def Ie (P:Params):Obj:={ cls:=.type "code",data:=.fields #[.str "Desk" 864,.str "Desk" 865,.str "/claim/cut.py" 866,.int 260 0,.int 0 0,.int 0 0,.int 0 0,.int 0 0,.ref 512,.bool false,.int 181 0,.ref 513,.none,.none,.none,.none,.int 867 0,.int 260 0,.str "/claim/cut.py" 868] }
noncomputable def Ig (P:Params):Obj:={ cls:=.type "frame",slots:=#[some (.ref 514),some (.ref 3),some (.ref 511),none,some (.str "plusless.desk" 740),none,some (.ref 0)] }
noncomputable def Ih (P:Params):Obj:={ cls:=.type "tuple",data:=.seq #[] }
noncomputable def Ii (P:Params):Obj:={ cls:=.none,data:=.fields #[] }
noncomputable def Ij (P:Params):Obj:={ cls:=.type "tuple",data:=.seq #[.str "self" 877] }
noncomputable def Ik (P:Params):Obj:={ cls:=.type "tuple",data:=.seq #[] }
noncomputable def Il (P:Params):Obj:=hG2 "__init__" "Desk.__init__" 75 0
noncomputable def Im (P:Params):Obj:=hC2 "Desk.__init__" "__init__" 874 875 876 262 1 0 0 3 (.ref 516) 181 (.ref 517) .none (.ref 518) (.ref 519) (.ref 520) 878 262 879
noncomputable def Io (P:Params):Obj:=hM "__init__" "Desk.__init__" 75 0 "plusless.desk" 740 521
noncomputable def Ip (P:Params):Obj:={ cls:=.type "tuple",data:=.seq #[] }
noncomputable def Iq (P:Params):Obj:={ cls:=.none,data:=.fields #[] }
noncomputable def Ir (P:Params):Obj:={ cls:=.type "tuple",data:=.seq #[.str "self" 884,.str "line" 885,.str "words" 886,.str "row" 887] }
noncomputable def Iu (P:Params):Obj:={ cls:=.type "tuple",data:=.seq #[] }
noncomputable def Iv (P:Params):Obj:=hG2 "say" "Desk.say" 75 1
noncomputable def Iw (P:Params):Obj:=hC2 "Desk.say" "say" 881 882 883 265 2 0 0 3 (.ref 523) 181 (.ref 524) .none (.ref 525) (.ref 526) (.ref 527) 888 265 889
noncomputable def Iy (P:Params):Obj:=hM "say" "Desk.say" 75 1 "plusless.desk" 740 528
noncomputable def Iz (P:Params):Obj:={ cls:=.type "tuple",data:=.seq #[.str "keeper" 891] }
noncomputable def IA (P:Params):Obj:={ cls:=.type "dict",data:=.dict #[hE P "__module__" 869 (.str "plusless.desk" 740),hE P "__firstlineno__" 873 (.int 260 872),hE P "__init__" 880 (.ref 522),hE P "say" 890 (.ref 529),hE P "__static_attributes__" 892 (.ref 530),hE P "__dict__" 894 (.ref 533),hE P "__weakref__" 896 (.ref 534),hE P "__doc__" 897 .none] 4 }
noncomputable def IB (P:Params):Obj:={ cls:=.type "type",data:=.cls { name:="Desk",bases:=[.type "object"],mro:=[.ref 532,.type "object"],ns:=531,qualname:="Desk" },slots:=#[none,none,some (.str "Desk" 862),some (.str "Desk" 870),some (.builtin "object.__new__"),some (.bool true)] }
noncomputable def IC (P:Params):Obj:={ cls:=.type "getset_descriptor",data:=.fields #[.str "__dict__" 893,.ref 532,.builtin "function.__dict__",.builtin "function.__dict__#set"] }
noncomputable def ID (P:Params):Obj:={ cls:=.type "getset_descriptor",data:=.fields #[.str "__weakref__" 895,.ref 532,.builtin "ExceptionGroup.__weakref__",.none] }
noncomputable def IE (P:Params):Obj:={ cls:=.type "super",data:=.fields #[.ref 532,.ref 532,.ref 532] }
noncomputable def IF (P:Params):Obj:={ cls:=.type "builtin_function_or_method",data:=.fields #[.builtin "object.__init_subclass__",.ref 532] }
noncomputable def IG (P:Params):Obj:={ cls:=.type "tuple",data:=.seq #[] }
noncomputable def IH (P:Params):Obj:={ cls:=.none,data:=.fields #[] }
noncomputable def II (P:Params):Obj:={ cls:=.type "tuple",data:=.seq #[.str "script" 905,.str "k" 906,.str "here" 907,.str "number" 908,.str "j" 909,.str "part" 910] }
noncomputable def IJ (P:Params):Obj:={ cls:=.type "tuple",data:=.seq #[] }
noncomputable def IK (P:Params):Obj:=hG "_law_box" 77
noncomputable def IL (P:Params):Obj:=hC "_law_box" 902 903 904 278 2 0 0 3 (.ref 537) 181 (.ref 538) .none (.ref 539) (.ref 540) (.ref 541) 911 278 912
noncomputable def IM (P:Params):Obj:=hF "_law_box" 77 "law_plusless_k83_no_lines" 900 542
noncomputable def IP (P:Params):Obj:={ cls:=.type "tuple",data:=.seq #[] }
noncomputable def IQ (P:Params):Obj:={ cls:=.none,data:=.fields #[] }
noncomputable def IS (P:Params):Obj:={ cls:=.type "tuple",data:=.seq #[.str "box" 917,.str "many" 918,.str "left" 919,.str "digit" 920] }
noncomputable def IT (P:Params):Obj:={ cls:=.type "tuple",data:=.seq #[] }
noncomputable def IU (P:Params):Obj:=hG "_law_take" 78
noncomputable def IV (P:Params):Obj:=hC "_law_take" 914 915 916 290 2 0 0 3 (.ref 544) 181 (.ref 545) .none (.ref 546) (.ref 547) (.ref 548) 921 290 922
noncomputable def IW (P:Params):Obj:=hF "_law_take" 78 "law_plusless_k83_no_lines" 900 549
noncomputable def IY (P:Params):Obj:={ cls:=.type "tuple",data:=.seq #[] }
noncomputable def IZ (P:Params):Obj:={ cls:=.none,data:=.fields #[] }
noncomputable def I0 (P:Params):Obj:={ cls:=.type "tuple",data:=.seq #[.str "box" 927,.str "some" 928] }
noncomputable def Ja (P:Params):Obj:={ cls:=.type "tuple",data:=.seq #[] }
noncomputable def Jb (P:Params):Obj:=hG "_law_odd" 79
noncomputable def Jc (P:Params):Obj:=hC "_law_odd" 924 925 926 294 1 0 0 3 (.ref 551) 181 (.ref 552) .none (.ref 553) (.ref 554) (.ref 555) 929 294 930
noncomputable def Jd (P:Params):Obj:=hF "_law_odd" 79 "law_plusless_k83_no_lines" 900 556
noncomputable def Je (P:Params):Obj:={ cls:=.type "tuple",data:=.seq #[] }
noncomputable def Jf (P:Params):Obj:={ cls:=.none,data:=.fields #[] }
noncomputable def Jg (P:Params):Obj:={ cls:=.type "tuple",data:=.seq #[.str "e" 935,.str "found" 936] }
noncomputable def Jh (P:Params):Obj:={ cls:=.type "tuple",data:=.seq #[] }
noncomputable def Ji (P:Params):Obj:=hG "_law_classes" 80
noncomputable def Jj (P:Params):Obj:=hC "_law_classes" 932 933 934 297 1 0 0 3 (.ref 558) 181 (.ref 559) .none (.ref 560) (.ref 561) (.ref 562) 937 297 938
noncomputable def Jk (P:Params):Obj:=hF "_law_classes" 80 "law_plusless_k83_no_lines" 900 563
noncomputable def Jl (P:Params):Obj:={ cls:=.type "tuple",data:=.seq #[] }
noncomputable def Jm (P:Params):Obj:={ cls:=.none,data:=.fields #[] }
noncomputable def Jn (P:Params):Obj:=hG "_law_only" 81
noncomputable def Jo (P:Params):Obj:=hC "_law_only" 940 941 942 301 2 0 0 3 (.ref 565) 181 (.ref 566) .none .none .none (.ref 567) 943 301 944
noncomputable def Jp (P:Params):Obj:=hF "_law_only" 81 "law_plusless_k83_no_lines" 900 568
noncomputable def Jq (P:Params):Obj:={ cls:=.type "tuple",data:=.seq #[] }
noncomputable def Jr (P:Params):Obj:={ cls:=.none,data:=.fields #[] }
noncomputable def Js (P:Params):Obj:=hG "_law_said" 82
noncomputable def Jt (P:Params):Obj:=hC "_law_said" 946 947 948 305 2 0 0 3 (.ref 570) 181 (.ref 571) .none .none .none (.ref 572) 949 305 950
noncomputable def Ju (P:Params):Obj:=hF "_law_said" 82 "law_plusless_k83_no_lines" 900 573
noncomputable def Jv (P:Params):Obj:={ cls:=.type "tuple",data:=.seq #[] }
noncomputable def Jw (P:Params):Obj:={ cls:=.none,data:=.fields #[] }
noncomputable def Jx (P:Params):Obj:={ cls:=.type "tuple",data:=.seq #[.str "box" 955,.str "line" 956,.str "words" 957,.str "at" 958,.str "word" 959,.str "kind" 960] }
noncomputable def Jy (P:Params):Obj:={ cls:=.type "tuple",data:=.seq #[] }
noncomputable def Jz (P:Params):Obj:=hG "_law_bent" 83
noncomputable def JA (P:Params):Obj:=hC "_law_bent" 952 953 954 310 2 0 0 3 (.ref 575) 181 (.ref 576) .none (.ref 577) (.ref 578) (.ref 579) 961 310 962
noncomputable def JB (P:Params):Obj:=hF "_law_bent" 83 "law_plusless_k83_no_lines" 900 580
noncomputable def JC (P:Params):Obj:={ cls:=.type "tuple",data:=.seq #[] }
noncomputable def JD (P:Params):Obj:={ cls:=.none,data:=.fields #[] }
noncomputable def JE (P:Params):Obj:=hG "_law_number" 84
noncomputable def JF (P:Params):Obj:=hC "_law_number" 964 965 966 326 1 0 0 3 (.ref 582) 181 (.ref 583) .none .none .none (.ref 584) 967 326 968
noncomputable def JG (P:Params):Obj:=hF "_law_number" 84 "law_plusless_k83_no_lines" 900 585
noncomputable def JH (P:Params):Obj:={ cls:=.type "tuple",data:=.seq #[] }
noncomputable def JI (P:Params):Obj:={ cls:=.none,data:=.fields #[] }
noncomputable def JJ (P:Params):Obj:={ cls:=.type "tuple",data:=.seq #[.str "line" 973,.str "words" 974,.str "number" 975] }
noncomputable def JK (P:Params):Obj:={ cls:=.type "tuple",data:=.seq #[] }
noncomputable def JL (P:Params):Obj:=hG "_law_is_line" 85
noncomputable def JM (P:Params):Obj:=hC "_law_is_line" 970 971 972 333 1 0 0 3 (.ref 587) 181 (.ref 588) .none (.ref 589) (.ref 590) (.ref 591) 976 333 977
noncomputable def JN (P:Params):Obj:=hF "_law_is_line" 85 "law_plusless_k83_no_lines" 900 592
noncomputable def JO (P:Params):Obj:={ cls:=.type "tuple",data:=.seq #[] }
noncomputable def JP (P:Params):Obj:={ cls:=.none,data:=.fields #[] }
noncomputable def JQ (P:Params):Obj:=hG "law" 86
noncomputable def JR (P:Params):Obj:=hC "law" 979 980 981 343 1 0 0 3 (.ref 594) 181 (.ref 595) .none .none .none (.ref 596) 982 343 983
noncomputable def JS (P:Params):Obj:=hF "law" 86 "law_plusless_k83_no_lines" 900 597
noncomputable def t0T (P:Params):PySem.W.BT:=(.node (PySem.W.boot_o_0 P) (.node (PySem.W.boot_o_1 P) (.node (PySem.W.boot_o_3 P) (.node (PySem.W.boot_o_7 P) .nil .nil) (.node (q0 P) .nil .nil)) (.node (PySem.W.boot_o_5 P) (.node (PySem.W.boot_o_9 P) .nil .nil) (.node (q2 P) .nil .nil))) (.node (PySem.W.boot_o_2 P) (.node (PySem.W.boot_o_4 P) (.node (PySem.W.boot_o_8 P) .nil .nil) (.node (q1 P) .nil .nil)) (.node (PySem.W.boot_o_6 P) (.node (PySem.W.boot_o_10 P) .nil .nil) (.node (q3 P) .nil .nil))))
noncomputable def t1T (P:Params):PySem.W.BT:=(.node (PySem.W.boot_o_0 P) (.node (PySem.W.boot_o_1 P) (.node (q4 P) (.node (PySem.W.boot_o_7 P) (.node (q6 P) (.node (q22 P) (.node (q54 P) .nil .nil) (.node (q86 P) .nil .nil)) (.node (q38 P) (.node (q70 P) .nil .nil) .nil)) (.node (q14 P) (.node (q30 P) (.node (q62 P) .nil .nil) (.node (q94 P) .nil .nil)) (.node (q46 P) (.node (q78 P) .nil .nil) .nil))) (.node (q0 P) (.node (q10 P) (.node (q26 P) (.node (q58 P) .nil .nil) (.node (q90 P) .nil .nil)) (.node (q42 P) (.node (q74 P) .nil .nil) .nil)) (.node (q18 P) (.node (q34 P) (.node (q66 P) .nil .nil) .nil) (.node (q50 P) (.node (q82 P) .nil .nil) .nil)))) (.node (PySem.W.boot_o_5 P) (.node (PySem.W.boot_o_9 P) (.node (q8 P) (.node (q24 P) (.node (q56 P) .nil .nil) (.node (q88 P) .nil .nil)) (.node (q40 P) (.node (q72 P) .nil .nil) .nil)) (.node (q16 P) (.node (q32 P) (.node (q64 P) .nil .nil) (.node (q96 P) .nil .nil)) (.node (q48 P) (.node (q80 P) .nil .nil) .nil))) (.node (q2 P) (.node (q12 P) (.node (q28 P) (.node (q60 P) .nil .nil) (.node (q92 P) .nil .nil)) (.node (q44 P) (.node (q76 P) .nil .nil) .nil)) (.node (q20 P) (.node (q36 P) (.node (q68 P) .nil .nil) .nil) (.node (q52 P) (.node (q84 P) .nil .nil) .nil))))) (.node (PySem.W.boot_o_2 P) (.node (PySem.W.boot_o_4 P) (.node (PySem.W.boot_o_8 P) (.node (q7 P) (.node (q23 P) (.node (q55 P) .nil .nil) (.node (q87 P) .nil .nil)) (.node (q39 P) (.node (q71 P) .nil .nil) .nil)) (.node (q15 P) (.node (q31 P) (.node (q63 P) .nil .nil) (.node (q95 P) .nil .nil)) (.node (q47 P) (.node (q79 P) .nil .nil) .nil))) (.node (q5 P) (.node (q11 P) (.node (q27 P) (.node (q59 P) .nil .nil) (.node (q91 P) .nil .nil)) (.node (q43 P) (.node (q75 P) .nil .nil) .nil)) (.node (q19 P) (.node (q35 P) (.node (q67 P) .nil .nil) .nil) (.node (q51 P) (.node (q83 P) .nil .nil) .nil)))) (.node (PySem.W.boot_o_6 P) (.node (PySem.W.boot_o_10 P) (.node (q9 P) (.node (q25 P) (.node (q57 P) .nil .nil) (.node (q89 P) .nil .nil)) (.node (q41 P) (.node (q73 P) .nil .nil) .nil)) (.node (q17 P) (.node (q33 P) (.node (q65 P) .nil .nil) (.node (q97 P) .nil .nil)) (.node (q49 P) (.node (q81 P) .nil .nil) .nil))) (.node (q3 P) (.node (q13 P) (.node (q29 P) (.node (q61 P) .nil .nil) (.node (q93 P) .nil .nil)) (.node (q45 P) (.node (q77 P) .nil .nil) .nil)) (.node (q21 P) (.node (q37 P) (.node (q69 P) .nil .nil) .nil) (.node (q53 P) (.node (q85 P) .nil .nil) .nil))))))
noncomputable def t2T (P:Params):PySem.W.BT:=(.node (PySem.W.boot_o_0 P) (.node (PySem.W.boot_o_1 P) (.node (q98 P) (.node (PySem.W.boot_o_7 P) (.node (q6 P) (.node (uW P) (.node (q54 P) (.node (vn P) .nil .nil) (.node (wO P) .nil .nil)) (.node (q86 P) (.node (v3 P) .nil .nil) (.node (xy P) .nil .nil))) (.node (q38 P) (.node (q70 P) (.node (vJ P) .nil .nil) (.node (xh P) .nil .nil)) (.node (u4 P) (.node (wx P) .nil .nil) (.node (xV P) .nil .nil)))) (.node (q14 P) (.node (q30 P) (.node (q62 P) (.node (vA P) .nil .nil) (.node (wZ P) .nil .nil)) (.node (q94 P) (.node (wg P) .nil .nil) (.node (xI P) .nil .nil))) (.node (q46 P) (.node (q78 P) (.node (vS P) .nil .nil) (.node (xp P) .nil .nil)) (.node (ve P) (.node (wG P) .nil .nil) (.node (yb P) .nil .nil))))) (.node (q0 P) (.node (q10 P) (.node (q26 P) (.node (q58 P) (.node (vt P) .nil .nil) (.node (wV P) .nil .nil)) (.node (q90 P) (.node (wa P) .nil .nil) (.node (xE P) .nil .nil))) (.node (q42 P) (.node (q74 P) (.node (vO P) .nil .nil) (.node (xl P) .nil .nil)) (.node (u9 P) (.node (wB P) .nil .nil) (.node (xZ P) .nil .nil)))) (.node (q18 P) (.node (q34 P) (.node (q66 P) (.node (vF P) .nil .nil) (.node (xb P) .nil .nil)) (.node (uX P) (.node (wo P) .nil .nil) (.node (xP P) .nil .nil))) (.node (q50 P) (.node (q82 P) (.node (vW P) .nil .nil) (.node (xu P) .nil .nil)) (.node (vi P) (.node (wK P) .nil .nil) (.node (yf P) .nil .nil)))))) (.node (PySem.W.boot_o_5 P) (.node (PySem.W.boot_o_9 P) (.node (q8 P) (.node (q24 P) (.node (q56 P) (.node (vp P) .nil .nil) (.node (wR P) .nil .nil)) (.node (q88 P) (.node (v7 P) .nil .nil) (.node (xB P) .nil .nil))) (.node (q40 P) (.node (q72 P) (.node (vM P) .nil .nil) (.node (xj P) .nil .nil)) (.node (u6 P) (.node (wz P) .nil .nil) (.node (xX P) .nil .nil)))) (.node (q16 P) (.node (q32 P) (.node (q64 P) (.node (vD P) .nil .nil) (.node (w9 P) .nil .nil)) (.node (q96 P) (.node (wk P) .nil .nil) (.node (xK P) .nil .nil))) (.node (q48 P) (.node (q80 P) (.node (vU P) .nil .nil) (.node (xr P) .nil .nil)) (.node (vg P) (.node (wI P) .nil .nil) (.node (yd P) .nil .nil))))) (.node (q2 P) (.node (q12 P) (.node (q28 P) (.node (q60 P) (.node (vx P) .nil .nil) (.node (wX P) .nil .nil)) (.node (q92 P) (.node (wc P) .nil .nil) (.node (xG P) .nil .nil))) (.node (q44 P) (.node (q76 P) (.node (vQ P) .nil .nil) (.node (xn P) .nil .nil)) (.node (vc P) (.node (wD P) .nil .nil) (.node (x9 P) .nil .nil)))) (.node (q20 P) (.node (q36 P) (.node (q68 P) (.node (vH P) .nil .nil) (.node (xf P) .nil .nil)) (.node (uZ P) (.node (wt P) .nil .nil) (.node (xR P) .nil .nil))) (.node (q52 P) (.node (q84 P) (.node (vY P) .nil .nil) (.node (xw P) .nil .nil)) (.node (vk P) (.node (wM P) .nil .nil) .nil)))))) (.node (PySem.W.boot_o_2 P) (.node (PySem.W.boot_o_4 P) (.node (PySem.W.boot_o_8 P) (.node (q7 P) (.node (q23 P) (.node (q55 P) (.node (vo P) .nil .nil) (.node (wQ P) .nil .nil)) (.node (q87 P) (.node (v5 P) .nil .nil) (.node (xA P) .nil .nil))) (.node (q39 P) (.node (q71 P) (.node (vK P) .nil .nil) (.node (xi P) .nil .nil)) (.node (u5 P) (.node (wy P) .nil .nil) (.node (xW P) .nil .nil)))) (.node (q15 P) (.node (q31 P) (.node (q63 P) (.node (vB P) .nil .nil) (.node (w8 P) .nil .nil)) (.node (q95 P) (.node (wj P) .nil .nil) (.node (xJ P) .nil .nil))) (.node (q47 P) (.node (q79 P) (.node (vT P) .nil .nil) (.node (xq P) .nil .nil)) (.node (vf P) (.node (wH P) .nil .nil) (.node (yc P) .nil .nil))))) (.node (q99 P) (.node (q11 P) (.node (q27 P) (.node (q59 P) (.node (vw P) .nil .nil) (.node (wW P) .nil .nil)) (.node (q91 P) (.node (wb P) .nil .nil) (.node (xF P) .nil .nil))) (.node (q43 P) (.node (q75 P) (.node (vP P) .nil .nil) (.node (xm P) .nil .nil)) (.node (vb P) (.node (wC P) .nil .nil) (.node (x8 P) .nil .nil)))) (.node (q19 P) (.node (q35 P) (.node (q67 P) (.node (vG P) .nil .nil) (.node (xc P) .nil .nil)) (.node (uY P) (.node (wq P) .nil .nil) (.node (xQ P) .nil .nil))) (.node (q51 P) (.node (q83 P) (.node (vX P) .nil .nil) (.node (xv P) .nil .nil)) (.node (vj P) (.node (wL P) .nil .nil) (.node (yg P) .nil .nil)))))) (.node (PySem.W.boot_o_6 P) (.node (PySem.W.boot_o_10 P) (.node (q9 P) (.node (q25 P) (.node (q57 P) (.node (vq P) .nil .nil) (.node (wU P) .nil .nil)) (.node (q89 P) (.node (v8 P) .nil .nil) (.node (xD P) .nil .nil))) (.node (q41 P) (.node (q73 P) (.node (vN P) .nil .nil) (.node (xk P) .nil .nil)) (.node (u7 P) (.node (wA P) .nil .nil) (.node (xY P) .nil .nil)))) (.node (q17 P) (.node (q33 P) (.node (q65 P) (.node (vE P) .nil .nil) (.node (xa P) .nil .nil)) (.node (q97 P) (.node (wm P) .nil .nil) (.node (xN P) .nil .nil))) (.node (q49 P) (.node (q81 P) (.node (vV P) .nil .nil) (.node (xt P) .nil .nil)) (.node (vh P) (.node (wJ P) .nil .nil) (.node (ye P) .nil .nil))))) (.node (q3 P) (.node (q13 P) (.node (q29 P) (.node (q61 P) (.node (vz P) .nil .nil) (.node (wY P) .nil .nil)) (.node (q93 P) (.node (we P) .nil .nil) (.node (xH P) .nil .nil))) (.node (q45 P) (.node (q77 P) (.node (vR P) .nil .nil) (.node (xo P) .nil .nil)) (.node (vd P) (.node (wF P) .nil .nil) (.node (ya P) .nil .nil)))) (.node (q21 P) (.node (q37 P) (.node (q69 P) (.node (vI P) .nil .nil) (.node (xg P) .nil .nil)) (.node (u3 P) (.node (wu P) .nil .nil) (.node (xT P) .nil .nil))) (.node (q53 P) (.node (q85 P) (.node (vZ P) .nil .nil) (.node (xx P) .nil .nil)) (.node (vm P) (.node (wN P) .nil .nil) .nil)))))))
noncomputable def t3T (P:Params):PySem.W.BT:=(.node (PySem.W.boot_o_0 P) (.node (PySem.W.boot_o_1 P) (.node (HR P) (.node (PySem.W.boot_o_7 P) (.node (q6 P) (.node (uW P) (.node (q54 P) (.node (vn P) (.node (Ai P) .nil .nil) (.node (CD P) .nil .nil)) (.node (wO P) (.node (Bs P) .nil .nil) .nil)) (.node (q86 P) (.node (v3 P) (.node (AU P) .nil .nil) .nil) (.node (xy P) (.node (B0 P) .nil .nil) .nil))) (.node (q38 P) (.node (q70 P) (.node (vJ P) (.node (AA P) .nil .nil) (.node (CV P) .nil .nil)) (.node (xh P) (.node (BJ P) .nil .nil) .nil)) (.node (u4 P) (.node (wx P) (.node (Bc P) .nil .nil) .nil) (.node (xV P) (.node (Ck P) .nil .nil) .nil)))) (.node (q14 P) (.node (q30 P) (.node (q62 P) (.node (vA P) (.node (Aq P) .nil .nil) (.node (CM P) .nil .nil)) (.node (wZ P) (.node (BB P) .nil .nil) .nil)) (.node (q94 P) (.node (wg P) (.node (A4 P) .nil .nil) .nil) (.node (xI P) (.node (B9 P) .nil .nil) .nil))) (.node (q46 P) (.node (q78 P) (.node (vS P) (.node (AJ P) .nil .nil) .nil) (.node (xp P) (.node (BR P) .nil .nil) .nil)) (.node (ve P) (.node (wG P) (.node (Bk P) .nil .nil) .nil) (.node (yb P) (.node (Cu P) .nil .nil) .nil))))) (.node (q0 P) (.node (q10 P) (.node (q26 P) (.node (q58 P) (.node (vt P) (.node (Am P) .nil .nil) (.node (CI P) .nil .nil)) (.node (wV P) (.node (Bw P) .nil .nil) .nil)) (.node (q90 P) (.node (wa P) (.node (AY P) .nil .nil) .nil) (.node (xE P) (.node (B5 P) .nil .nil) .nil))) (.node (q42 P) (.node (q74 P) (.node (vO P) (.node (AF P) .nil .nil) (.node (C0 P) .nil .nil)) (.node (xl P) (.node (BN P) .nil .nil) .nil)) (.node (u9 P) (.node (wB P) (.node (Bg P) .nil .nil) .nil) (.node (xZ P) (.node (Cq P) .nil .nil) .nil)))) (.node (q18 P) (.node (q34 P) (.node (q66 P) (.node (vF P) (.node (Aw P) .nil .nil) (.node (CQ P) .nil .nil)) (.node (xb P) (.node (BF P) .nil .nil) .nil)) (.node (uX P) (.node (wo P) (.node (A8 P) .nil .nil) .nil) (.node (xP P) (.node (Cf P) .nil .nil) .nil))) (.node (q50 P) (.node (q82 P) (.node (vW P) (.node (AO P) .nil .nil) .nil) (.node (xu P) (.node (BW P) .nil .nil) .nil)) (.node (vi P) (.node (wK P) (.node (Bo P) .nil .nil) .nil) (.node (yf P) (.node (Cz P) .nil .nil) .nil)))))) (.node (PySem.W.boot_o_5 P) (.node (PySem.W.boot_o_9 P) (.node (q8 P) (.node (q24 P) (.node (q56 P) (.node (vp P) (.node (Ak P) .nil .nil) (.node (CG P) .nil .nil)) (.node (wR P) (.node (Bu P) .nil .nil) .nil)) (.node (q88 P) (.node (v7 P) (.node (AW P) .nil .nil) .nil) (.node (xB P) (.node (B3 P) .nil .nil) .nil))) (.node (q40 P) (.node (q72 P) (.node (vM P) (.node (AD P) .nil .nil) (.node (CY P) .nil .nil)) (.node (xj P) (.node (BL P) .nil .nil) .nil)) (.node (u6 P) (.node (wz P) (.node (Be P) .nil .nil) .nil) (.node (xX P) (.node (Cn P) .nil .nil) .nil)))) (.node (q16 P) (.node (q32 P) (.node (q64 P) (.node (vD P) (.node (As P) .nil .nil) (.node (CO P) .nil .nil)) (.node (w9 P) (.node (BD P) .nil .nil) .nil)) (.node (q96 P) (.node (wk P) (.node (A6 P) .nil .nil) .nil) (.node (xK P) (.node (Cc P) .nil .nil) .nil))) (.node (q48 P) (.node (q80 P) (.node (vU P) (.node (AL P) .nil .nil) .nil) (.node (xr P) (.node (BU P) .nil .nil) .nil)) (.node (vg P) (.node (wI P) (.node (Bm P) .nil .nil) .nil) (.node (yd P) (.node (Cw P) .nil .nil) .nil))))) (.node (q2 P) (.node (q12 P) (.node (q28 P) (.node (q60 P) (.node (vx P) (.node (Ao P) .nil .nil) (.node (CK P) .nil .nil)) (.node (wX P) (.node (Bz P) .nil .nil) .nil)) (.node (q92 P) (.node (wc P) (.node (A1 P) .nil .nil) .nil) (.node (xG P) (.node (B7 P) .nil .nil) .nil))) (.node (q44 P) (.node (q76 P) (.node (vQ P) (.node (AH P) .nil .nil) (.node (C4 P) .nil .nil)) (.node (xn P) (.node (BP P) .nil .nil) .nil)) (.node (vc P) (.node (wD P) (.node (Bi P) .nil .nil) .nil) (.node (x9 P) (.node (Cs P) .nil .nil) .nil)))) (.node (q20 P) (.node (q36 P) (.node (q68 P) (.node (vH P) (.node (Ay P) .nil .nil) (.node (CT P) .nil .nil)) (.node (xf P) (.node (BH P) .nil .nil) .nil)) (.node (uZ P) (.node (wt P) (.node (Ba P) .nil .nil) .nil) (.node (xR P) (.node (Ci P) .nil .nil) .nil))) (.node (q52 P) (.node (q84 P) (.node (vY P) (.node (AR P) .nil .nil) .nil) (.node (xw P) (.node (BY P) .nil .nil) .nil)) (.node (vk P) (.node (wM P) (.node (Bq P) .nil .nil) .nil) (.node (Ag P) (.node (CB P) .nil .nil) .nil))))))) (.node (PySem.W.boot_o_2 P) (.node (PySem.W.boot_o_4 P) (.node (PySem.W.boot_o_8 P) (.node (q7 P) (.node (q23 P) (.node (q55 P) (.node (vo P) (.node (Aj P) .nil .nil) (.node (CF P) .nil .nil)) (.node (wQ P) (.node (Bt P) .nil .nil) .nil)) (.node (q87 P) (.node (v5 P) (.node (AV P) .nil .nil) .nil) (.node (xA P) (.node (B1 P) .nil .nil) .nil))) (.node (q39 P) (.node (q71 P) (.node (vK P) (.node (AB P) .nil .nil) (.node (CW P) .nil .nil)) (.node (xi P) (.node (BK P) .nil .nil) .nil)) (.node (u5 P) (.node (wy P) (.node (Bd P) .nil .nil) .nil) (.node (xW P) (.node (Cm P) .nil .nil) .nil)))) (.node (q15 P) (.node (q31 P) (.node (q63 P) (.node (vB P) (.node (Ar P) .nil .nil) (.node (CN P) .nil .nil)) (.node (w8 P) (.node (BC P) .nil .nil) .nil)) (.node (q95 P) (.node (wj P) (.node (A5 P) .nil .nil) .nil) (.node (xJ P) (.node (Cb P) .nil .nil) .nil))) (.node (q47 P) (.node (q79 P) (.node (vT P) (.node (AK P) .nil .nil) .nil) (.node (xq P) (.node (BS P) .nil .nil) .nil)) (.node (vf P) (.node (wH P) (.node (Bl P) .nil .nil) .nil) (.node (yc P) (.node (Cv P) .nil .nil) .nil))))) (.node (HS P) (.node (q11 P) (.node (q27 P) (.node (q59 P) (.node (vw P) (.node (An P) .nil .nil) (.node (CJ P) .nil .nil)) (.node (wW P) (.node (By P) .nil .nil) .nil)) (.node (q91 P) (.node (wb P) (.node (AZ P) .nil .nil) .nil) (.node (xF P) (.node (B6 P) .nil .nil) .nil))) (.node (q43 P) (.node (q75 P) (.node (vP P) (.node (AG P) .nil .nil) (.node (C3 P) .nil .nil)) (.node (xm P) (.node (BO P) .nil .nil) .nil)) (.node (vb P) (.node (wC P) (.node (Bh P) .nil .nil) .nil) (.node (x8 P) (.node (Cr P) .nil .nil) .nil)))) (.node (q19 P) (.node (q35 P) (.node (q67 P) (.node (vG P) (.node (Ax P) .nil .nil) (.node (CS P) .nil .nil)) (.node (xc P) (.node (BG P) .nil .nil) .nil)) (.node (uY P) (.node (wq P) (.node (A9 P) .nil .nil) .nil) (.node (xQ P) (.node (Cg P) .nil .nil) .nil))) (.node (q51 P) (.node (q83 P) (.node (vX P) (.node (AQ P) .nil .nil) .nil) (.node (xv P) (.node (BX P) .nil .nil) .nil)) (.node (vj P) (.node (wL P) (.node (Bp P) .nil .nil) .nil) (.node (yg P) (.node (CA P) .nil .nil) .nil)))))) (.node (PySem.W.boot_o_6 P) (.node (PySem.W.boot_o_10 P) (.node (q9 P) (.node (q25 P) (.node (q57 P) (.node (vq P) (.node (Al P) .nil .nil) (.node (CH P) .nil .nil)) (.node (wU P) (.node (Bv P) .nil .nil) .nil)) (.node (q89 P) (.node (v8 P) (.node (AX P) .nil .nil) .nil) (.node (xD P) (.node (B4 P) .nil .nil) .nil))) (.node (q41 P) (.node (q73 P) (.node (vN P) (.node (AE P) .nil .nil) (.node (CZ P) .nil .nil)) (.node (xk P) (.node (BM P) .nil .nil) .nil)) (.node (u7 P) (.node (wA P) (.node (Bf P) .nil .nil) .nil) (.node (xY P) (.node (Co P) .nil .nil) .nil)))) (.node (q17 P) (.node (q33 P) (.node (q65 P) (.node (vE P) (.node (Av P) .nil .nil) (.node (CP P) .nil .nil)) (.node (xa P) (.node (BE P) .nil .nil) .nil)) (.node (q97 P) (.node (wm P) (.node (A7 P) .nil .nil) .nil) (.node (xN P) (.node (Ce P) .nil .nil) .nil))) (.node (q49 P) (.node (q81 P) (.node (vV P) (.node (AN P) .nil .nil) .nil) (.node (xt P) (.node (BV P) .nil .nil) .nil)) (.node (vh P) (.node (wJ P) (.node (Bn P) .nil .nil) .nil) (.node (ye P) (.node (Cy P) .nil .nil) .nil))))) (.node (q3 P) (.node (q13 P) (.node (q29 P) (.node (q61 P) (.node (vz P) (.node (Ap P) .nil .nil) (.node (CL P) .nil .nil)) (.node (wY P) (.node (BA P) .nil .nil) .nil)) (.node (q93 P) (.node (we P) (.node (A3 P) .nil .nil) .nil) (.node (xH P) (.node (B8 P) .nil .nil) .nil))) (.node (q45 P) (.node (q77 P) (.node (vR P) (.node (AI P) .nil .nil) .nil) (.node (xo P) (.node (BQ P) .nil .nil) .nil)) (.node (vd P) (.node (wF P) (.node (Bj P) .nil .nil) .nil) (.node (ya P) (.node (Ct P) .nil .nil) .nil)))) (.node (q21 P) (.node (q37 P) (.node (q69 P) (.node (vI P) (.node (Az P) .nil .nil) (.node (CU P) .nil .nil)) (.node (xg P) (.node (BI P) .nil .nil) .nil)) (.node (u3 P) (.node (wu P) (.node (Bb P) .nil .nil) .nil) (.node (xT P) (.node (Cj P) .nil .nil) .nil))) (.node (q53 P) (.node (q85 P) (.node (vZ P) (.node (AS P) .nil .nil) .nil) (.node (xx P) (.node (BZ P) .nil .nil) .nil)) (.node (vm P) (.node (wN P) (.node (Br P) .nil .nil) .nil) (.node (Ah P) (.node (CC P) .nil .nil) .nil))))))))
noncomputable def t4T (P:Params):PySem.W.BT:=(.node (PySem.W.boot_o_0 P) (.node (PySem.W.boot_o_1 P) (.node (HU P) (.node (PySem.W.boot_o_7 P) (.node (q6 P) (.node (uW P) (.node (q54 P) (.node (vn P) (.node (Ai P) .nil .nil) (.node (CD P) .nil .nil)) (.node (wO P) (.node (Bs P) .nil .nil) (.node (FF P) .nil .nil))) (.node (q86 P) (.node (v3 P) (.node (AU P) .nil .nil) (.node (E4 P) .nil .nil)) (.node (xy P) (.node (B0 P) .nil .nil) (.node (Gs P) .nil .nil)))) (.node (q38 P) (.node (q70 P) (.node (vJ P) (.node (AA P) .nil .nil) (.node (CV P) .nil .nil)) (.node (xh P) (.node (BJ P) .nil .nil) (.node (FY P) .nil .nil))) (.node (u4 P) (.node (wx P) (.node (Bc P) .nil .nil) (.node (Fm P) .nil .nil)) (.node (xV P) (.node (Ck P) .nil .nil) (.node (GK P) .nil .nil))))) (.node (q14 P) (.node (q30 P) (.node (q62 P) (.node (vA P) (.node (Aq P) .nil .nil) (.node (CM P) .nil .nil)) (.node (wZ P) (.node (BB P) .nil .nil) (.node (FO P) .nil .nil))) (.node (q94 P) (.node (wg P) (.node (A4 P) .nil .nil) (.node (Fd P) .nil .nil)) (.node (xI P) (.node (B9 P) .nil .nil) (.node (GB P) .nil .nil)))) (.node (q46 P) (.node (q78 P) (.node (vS P) (.node (AJ P) .nil .nil) (.node (EU P) .nil .nil)) (.node (xp P) (.node (BR P) .nil .nil) (.node (Gh P) .nil .nil))) (.node (ve P) (.node (wG P) (.node (Bk P) .nil .nil) (.node (Fw P) .nil .nil)) (.node (yb P) (.node (Cu P) .nil .nil) (.node (GU P) .nil .nil)))))) (.node (q0 P) (.node (q10 P) (.node (q26 P) (.node (q58 P) (.node (vt P) (.node (Am P) .nil .nil) (.node (CI P) .nil .nil)) (.node (wV P) (.node (Bw P) .nil .nil) (.node (FJ P) .nil .nil))) (.node (q90 P) (.node (wa P) (.node (AY P) .nil .nil) (.node (E8 P) .nil .nil)) (.node (xE P) (.node (B5 P) .nil .nil) (.node (Gx P) .nil .nil)))) (.node (q42 P) (.node (q74 P) (.node (vO P) (.node (AF P) .nil .nil) (.node (C0 P) .nil .nil)) (.node (xl P) (.node (BN P) .nil .nil) (.node (Gd P) .nil .nil))) (.node (u9 P) (.node (wB P) (.node (Bg P) .nil .nil) (.node (Fs P) .nil .nil)) (.node (xZ P) (.node (Cq P) .nil .nil) (.node (GP P) .nil .nil))))) (.node (q18 P) (.node (q34 P) (.node (q66 P) (.node (vF P) (.node (Aw P) .nil .nil) (.node (CQ P) .nil .nil)) (.node (xb P) (.node (BF P) .nil .nil) (.node (FT P) .nil .nil))) (.node (uX P) (.node (wo P) (.node (A8 P) .nil .nil) (.node (Fh P) .nil .nil)) (.node (xP P) (.node (Cf P) .nil .nil) (.node (GG P) .nil .nil)))) (.node (q50 P) (.node (q82 P) (.node (vW P) (.node (AO P) .nil .nil) (.node (EY P) .nil .nil)) (.node (xu P) (.node (BW P) .nil .nil) (.node (Gm P) .nil .nil))) (.node (vi P) (.node (wK P) (.node (Bo P) .nil .nil) (.node (FA P) .nil .nil)) (.node (yf P) (.node (Cz P) .nil .nil) (.node (GY P) .nil .nil))))))) (.node (PySem.W.boot_o_5 P) (.node (PySem.W.boot_o_9 P) (.node (q8 P) (.node (q24 P) (.node (q56 P) (.node (vp P) (.node (Ak P) .nil .nil) (.node (CG P) .nil .nil)) (.node (wR P) (.node (Bu P) .nil .nil) (.node (FH P) .nil .nil))) (.node (q88 P) (.node (v7 P) (.node (AW P) .nil .nil) (.node (E6 P) .nil .nil)) (.node (xB P) (.node (B3 P) .nil .nil) (.node (Gv P) .nil .nil)))) (.node (q40 P) (.node (q72 P) (.node (vM P) (.node (AD P) .nil .nil) (.node (CY P) .nil .nil)) (.node (xj P) (.node (BL P) .nil .nil) (.node (Ga P) .nil .nil))) (.node (u6 P) (.node (wz P) (.node (Be P) .nil .nil) (.node (Fp P) .nil .nil)) (.node (xX P) (.node (Cn P) .nil .nil) (.node (GN P) .nil .nil))))) (.node (q16 P) (.node (q32 P) (.node (q64 P) (.node (vD P) (.node (As P) .nil .nil) (.node (CO P) .nil .nil)) (.node (w9 P) (.node (BD P) .nil .nil) (.node (FQ P) .nil .nil))) (.node (q96 P) (.node (wk P) (.node (A6 P) .nil .nil) (.node (Ff P) .nil .nil)) (.node (xK P) (.node (Cc P) .nil .nil) (.node (GD P) .nil .nil)))) (.node (q48 P) (.node (q80 P) (.node (vU P) (.node (AL P) .nil .nil) (.node (EW P) .nil .nil)) (.node (xr P) (.node (BU P) .nil .nil) (.node (Gj P) .nil .nil))) (.node (vg P) (.node (wI P) (.node (Bm P) .nil .nil) (.node (Fy P) .nil .nil)) (.node (yd P) (.node (Cw P) .nil .nil) (.node (GW P) .nil .nil)))))) (.node (q2 P) (.node (q12 P) (.node (q28 P) (.node (q60 P) (.node (vx P) (.node (Ao P) .nil .nil) (.node (CK P) .nil .nil)) (.node (wX P) (.node (Bz P) .nil .nil) (.node (FL P) .nil .nil))) (.node (q92 P) (.node (wc P) (.node (A1 P) .nil .nil) (.node (Fb P) .nil .nil)) (.node (xG P) (.node (B7 P) .nil .nil) (.node (Gz P) .nil .nil)))) (.node (q44 P) (.node (q76 P) (.node (vQ P) (.node (AH P) .nil .nil) (.node (C4 P) .nil .nil)) (.node (xn P) (.node (BP P) .nil .nil) (.node (Gf P) .nil .nil))) (.node (vc P) (.node (wD P) (.node (Bi P) .nil .nil) (.node (Fu P) .nil .nil)) (.node (x9 P) (.node (Cs P) .nil .nil) (.node (GR P) .nil .nil))))) (.node (q20 P) (.node (q36 P) (.node (q68 P) (.node (vH P) (.node (Ay P) .nil .nil) (.node (CT P) .nil .nil)) (.node (xf P) (.node (BH P) .nil .nil) (.node (FW P) .nil .nil))) (.node (uZ P) (.node (wt P) (.node (Ba P) .nil .nil) (.node (Fj P) .nil .nil)) (.node (xR P) (.node (Ci P) .nil .nil) (.node (GI P) .nil .nil)))) (.node (q52 P) (.node (q84 P) (.node (vY P) (.node (AR P) .nil .nil) (.node (E2 P) .nil .nil)) (.node (xw P) (.node (BY P) .nil .nil) (.node (Gp P) .nil .nil))) (.node (vk P) (.node (wM P) (.node (Bq P) .nil .nil) (.node (FD P) .nil .nil)) (.node (Ag P) (.node (CB P) .nil .nil) .nil))))))) (.node (PySem.W.boot_o_2 P) (.node (PySem.W.boot_o_4 P) (.node (PySem.W.boot_o_8 P) (.node (q7 P) (.node (q23 P) (.node (q55 P) (.node (vo P) (.node (Aj P) .nil .nil) (.node (CF P) .nil .nil)) (.node (wQ P) (.node (Bt P) .nil .nil) (.node (FG P) .nil .nil))) (.node (q87 P) (.node (v5 P) (.node (AV P) .nil .nil) (.node (E5 P) .nil .nil)) (.node (xA P) (.node (B1 P) .nil .nil) (.node (Gu P) .nil .nil)))) (.node (q39 P) (.node (q71 P) (.node (vK P) (.node (AB P) .nil .nil) (.node (CW P) .nil .nil)) (.node (xi P) (.node (BK P) .nil .nil) (.node (FZ P) .nil .nil))) (.node (u5 P) (.node (wy P) (.node (Bd P) .nil .nil) (.node (Fn P) .nil .nil)) (.node (xW P) (.node (Cm P) .nil .nil) (.node (GL P) .nil .nil))))) (.node (q15 P) (.node (q31 P) (.node (q63 P) (.node (vB P) (.node (Ar P) .nil .nil) (.node (CN P) .nil .nil)) (.node (w8 P) (.node (BC P) .nil .nil) (.node (FP P) .nil .nil))) (.node (q95 P) (.node (wj P) (.node (A5 P) .nil .nil) (.node (Fe P) .nil .nil)) (.node (xJ P) (.node (Cb P) .nil .nil) (.node (GC P) .nil .nil)))) (.node (q47 P) (.node (q79 P) (.node (vT P) (.node (AK P) .nil .nil) (.node (EV P) .nil .nil)) (.node (xq P) (.node (BS P) .nil .nil) (.node (Gi P) .nil .nil))) (.node (vf P) (.node (wH P) (.node (Bl P) .nil .nil) (.node (Fx P) .nil .nil)) (.node (yc P) (.node (Cv P) .nil .nil) (.node (GV P) .nil .nil)))))) (.node (HV P) (.node (q11 P) (.node (q27 P) (.node (q59 P) (.node (vw P) (.node (An P) .nil .nil) (.node (CJ P) .nil .nil)) (.node (wW P) (.node (By P) .nil .nil) (.node (FK P) .nil .nil))) (.node (q91 P) (.node (wb P) (.node (AZ P) .nil .nil) (.node (E9 P) .nil .nil)) (.node (xF P) (.node (B6 P) .nil .nil) (.node (Gy P) .nil .nil)))) (.node (q43 P) (.node (q75 P) (.node (vP P) (.node (AG P) .nil .nil) (.node (C3 P) .nil .nil)) (.node (xm P) (.node (BO P) .nil .nil) (.node (Ge P) .nil .nil))) (.node (vb P) (.node (wC P) (.node (Bh P) .nil .nil) (.node (Ft P) .nil .nil)) (.node (x8 P) (.node (Cr P) .nil .nil) (.node (GQ P) .nil .nil))))) (.node (q19 P) (.node (q35 P) (.node (q67 P) (.node (vG P) (.node (Ax P) .nil .nil) (.node (CS P) .nil .nil)) (.node (xc P) (.node (BG P) .nil .nil) (.node (FU P) .nil .nil))) (.node (uY P) (.node (wq P) (.node (A9 P) .nil .nil) (.node (Fi P) .nil .nil)) (.node (xQ P) (.node (Cg P) .nil .nil) (.node (GH P) .nil .nil)))) (.node (q51 P) (.node (q83 P) (.node (vX P) (.node (AQ P) .nil .nil) (.node (EZ P) .nil .nil)) (.node (xv P) (.node (BX P) .nil .nil) (.node (Gn P) .nil .nil))) (.node (vj P) (.node (wL P) (.node (Bp P) .nil .nil) (.node (FC P) .nil .nil)) (.node (yg P) (.node (CA P) .nil .nil) (.node (GZ P) .nil .nil))))))) (.node (PySem.W.boot_o_6 P) (.node (PySem.W.boot_o_10 P) (.node (q9 P) (.node (q25 P) (.node (q57 P) (.node (vq P) (.node (Al P) .nil .nil) (.node (CH P) .nil .nil)) (.node (wU P) (.node (Bv P) .nil .nil) (.node (FI P) .nil .nil))) (.node (q89 P) (.node (v8 P) (.node (AX P) .nil .nil) (.node (E7 P) .nil .nil)) (.node (xD P) (.node (B4 P) .nil .nil) (.node (Gw P) .nil .nil)))) (.node (q41 P) (.node (q73 P) (.node (vN P) (.node (AE P) .nil .nil) (.node (CZ P) .nil .nil)) (.node (xk P) (.node (BM P) .nil .nil) (.node (Gb P) .nil .nil))) (.node (u7 P) (.node (wA P) (.node (Bf P) .nil .nil) (.node (Fq P) .nil .nil)) (.node (xY P) (.node (Co P) .nil .nil) (.node (GO P) .nil .nil))))) (.node (q17 P) (.node (q33 P) (.node (q65 P) (.node (vE P) (.node (Av P) .nil .nil) (.node (CP P) .nil .nil)) (.node (xa P) (.node (BE P) .nil .nil) (.node (FR P) .nil .nil))) (.node (q97 P) (.node (wm P) (.node (A7 P) .nil .nil) (.node (Fg P) .nil .nil)) (.node (xN P) (.node (Ce P) .nil .nil) (.node (GF P) .nil .nil)))) (.node (q49 P) (.node (q81 P) (.node (vV P) (.node (AN P) .nil .nil) (.node (EX P) .nil .nil)) (.node (xt P) (.node (BV P) .nil .nil) (.node (Gk P) .nil .nil))) (.node (vh P) (.node (wJ P) (.node (Bn P) .nil .nil) (.node (Fz P) .nil .nil)) (.node (ye P) (.node (Cy P) .nil .nil) (.node (GX P) .nil .nil)))))) (.node (q3 P) (.node (q13 P) (.node (q29 P) (.node (q61 P) (.node (vz P) (.node (Ap P) .nil .nil) (.node (CL P) .nil .nil)) (.node (wY P) (.node (BA P) .nil .nil) (.node (FN P) .nil .nil))) (.node (q93 P) (.node (we P) (.node (A3 P) .nil .nil) (.node (Fc P) .nil .nil)) (.node (xH P) (.node (B8 P) .nil .nil) (.node (GA P) .nil .nil)))) (.node (q45 P) (.node (q77 P) (.node (vR P) (.node (AI P) .nil .nil) (.node (ET P) .nil .nil)) (.node (xo P) (.node (BQ P) .nil .nil) (.node (Gg P) .nil .nil))) (.node (vd P) (.node (wF P) (.node (Bj P) .nil .nil) (.node (Fv P) .nil .nil)) (.node (ya P) (.node (Ct P) .nil .nil) (.node (GS P) .nil .nil))))) (.node (q21 P) (.node (q37 P) (.node (q69 P) (.node (vI P) (.node (Az P) .nil .nil) (.node (CU P) .nil .nil)) (.node (xg P) (.node (BI P) .nil .nil) (.node (FX P) .nil .nil))) (.node (u3 P) (.node (wu P) (.node (Bb P) .nil .nil) (.node (Fl P) .nil .nil)) (.node (xT P) (.node (Cj P) .nil .nil) (.node (GJ P) .nil .nil)))) (.node (q53 P) (.node (q85 P) (.node (vZ P) (.node (AS P) .nil .nil) (.node (E3 P) .nil .nil)) (.node (xx P) (.node (BZ P) .nil .nil) (.node (Gq P) .nil .nil))) (.node (vm P) (.node (wN P) (.node (Br P) .nil .nil) (.node (FE P) .nil .nil)) (.node (Ah P) (.node (CC P) .nil .nil) .nil))))))))
noncomputable def t5T (P:Params):PySem.W.BT:=(.node (PySem.W.boot_o_0 P) (.node (PySem.W.boot_o_1 P) (.node (HW P) (.node (PySem.W.boot_o_7 P) (.node (q6 P) (.node (uW P) (.node (q54 P) (.node (vn P) (.node (Ai P) (.node (Ia P) .nil .nil) .nil) (.node (CD P) .nil .nil)) (.node (wO P) (.node (Bs P) (.node (Jv P) .nil .nil) .nil) (.node (FF P) .nil .nil))) (.node (q86 P) (.node (v3 P) (.node (AU P) (.node (IM P) .nil .nil) .nil) (.node (E4 P) .nil .nil)) (.node (xy P) (.node (B0 P) .nil .nil) (.node (Gs P) .nil .nil)))) (.node (q38 P) (.node (q70 P) (.node (vJ P) (.node (AA P) (.node (Iv P) .nil .nil) .nil) (.node (CV P) .nil .nil)) (.node (xh P) (.node (BJ P) (.node (JL P) .nil .nil) .nil) (.node (FY P) .nil .nil))) (.node (u4 P) (.node (wx P) (.node (Bc P) (.node (Jf P) .nil .nil) .nil) (.node (Fm P) .nil .nil)) (.node (xV P) (.node (Ck P) .nil .nil) (.node (GK P) .nil .nil))))) (.node (q14 P) (.node (q30 P) (.node (q62 P) (.node (vA P) (.node (Aq P) (.node (Ik P) .nil .nil) .nil) (.node (CM P) .nil .nil)) (.node (wZ P) (.node (BB P) (.node (JD P) .nil .nil) .nil) (.node (FO P) .nil .nil))) (.node (q94 P) (.node (wg P) (.node (A4 P) (.node (IY P) .nil .nil) .nil) (.node (Fd P) .nil .nil)) (.node (xI P) (.node (B9 P) .nil .nil) (.node (GB P) .nil .nil)))) (.node (q46 P) (.node (q78 P) (.node (vS P) (.node (AJ P) (.node (IE P) .nil .nil) .nil) (.node (EU P) .nil .nil)) (.node (xp P) (.node (BR P) .nil .nil) (.node (Gh P) .nil .nil))) (.node (ve P) (.node (wG P) (.node (Bk P) (.node (Jn P) .nil .nil) .nil) (.node (Fw P) .nil .nil)) (.node (yb P) (.node (Cu P) .nil .nil) (.node (GU P) .nil .nil)))))) (.node (q0 P) (.node (q10 P) (.node (q26 P) (.node (q58 P) (.node (vt P) (.node (Am P) (.node (Ig P) .nil .nil) .nil) (.node (CI P) .nil .nil)) (.node (wV P) (.node (Bw P) (.node (Jz P) .nil .nil) .nil) (.node (FJ P) .nil .nil))) (.node (q90 P) (.node (wa P) (.node (AY P) (.node (IT P) .nil .nil) .nil) (.node (E8 P) .nil .nil)) (.node (xE P) (.node (B5 P) .nil .nil) (.node (Gx P) .nil .nil)))) (.node (q42 P) (.node (q74 P) (.node (vO P) (.node (AF P) (.node (IA P) .nil .nil) .nil) (.node (C0 P) .nil .nil)) (.node (xl P) (.node (BN P) (.node (JP P) .nil .nil) .nil) (.node (Gd P) .nil .nil))) (.node (u9 P) (.node (wB P) (.node (Bg P) (.node (Jj P) .nil .nil) .nil) (.node (Fs P) .nil .nil)) (.node (xZ P) (.node (Cq P) .nil .nil) (.node (GP P) .nil .nil))))) (.node (q18 P) (.node (q34 P) (.node (q66 P) (.node (vF P) (.node (Aw P) (.node (Ip P) .nil .nil) .nil) (.node (CQ P) .nil .nil)) (.node (xb P) (.node (BF P) (.node (JH P) .nil .nil) .nil) (.node (FT P) .nil .nil))) (.node (uX P) (.node (wo P) (.node (A8 P) (.node (Jb P) .nil .nil) .nil) (.node (Fh P) .nil .nil)) (.node (xP P) (.node (Cf P) .nil .nil) (.node (GG P) .nil .nil)))) (.node (q50 P) (.node (q82 P) (.node (vW P) (.node (AO P) (.node (II P) .nil .nil) .nil) (.node (EY P) .nil .nil)) (.node (xu P) (.node (BW P) .nil .nil) (.node (Gm P) .nil .nil))) (.node (vi P) (.node (wK P) (.node (Bo P) (.node (Jr P) .nil .nil) .nil) (.node (FA P) .nil .nil)) (.node (yf P) (.node (Cz P) .nil .nil) (.node (GY P) .nil .nil))))))) (.node (PySem.W.boot_o_5 P) (.node (PySem.W.boot_o_9 P) (.node (q8 P) (.node (q24 P) (.node (q56 P) (.node (vp P) (.node (Ak P) (.node (Ic P) .nil .nil) .nil) (.node (CG P) .nil .nil)) (.node (wR P) (.node (Bu P) (.node (Jx P) .nil .nil) .nil) (.node (FH P) .nil .nil))) (.node (q88 P) (.node (v7 P) (.node (AW P) (.node (IQ P) .nil .nil) .nil) (.node (E6 P) .nil .nil)) (.node (xB P) (.node (B3 P) .nil .nil) (.node (Gv P) .nil .nil)))) (.node (q40 P) (.node (q72 P) (.node (vM P) (.node (AD P) (.node (Iy P) .nil .nil) .nil) (.node (CY P) .nil .nil)) (.node (xj P) (.node (BL P) (.node (JN P) .nil .nil) .nil) (.node (Ga P) .nil .nil))) (.node (u6 P) (.node (wz P) (.node (Be P) (.node (Jh P) .nil .nil) .nil) (.node (Fp P) .nil .nil)) (.node (xX P) (.node (Cn P) .nil .nil) (.node (GN P) .nil .nil))))) (.node (q16 P) (.node (q32 P) (.node (q64 P) (.node (vD P) (.node (As P) (.node (Im P) .nil .nil) .nil) (.node (CO P) .nil .nil)) (.node (w9 P) (.node (BD P) (.node (JF P) .nil .nil) .nil) (.node (FQ P) .nil .nil))) (.node (q96 P) (.node (wk P) (.node (A6 P) (.node (I0 P) .nil .nil) .nil) (.node (Ff P) .nil .nil)) (.node (xK P) (.node (Cc P) .nil .nil) (.node (GD P) .nil .nil)))) (.node (q48 P) (.node (q80 P) (.node (vU P) (.node (AL P) (.node (IG P) .nil .nil) .nil) (.node (EW P) .nil .nil)) (.node (xr P) (.node (BU P) .nil .nil) (.node (Gj P) .nil .nil))) (.node (vg P) (.node (wI P) (.node (Bm P) (.node (Jp P) .nil .nil) .nil) (.node (Fy P) .nil .nil)) (.node (yd P) (.node (Cw P) .nil .nil) (.node (GW P) .nil .nil)))))) (.node (q2 P) (.node (q12 P) (.node (q28 P) (.node (q60 P) (.node (vx P) (.node (Ao P) (.node (Ii P) .nil .nil) .nil) (.node (CK P) .nil .nil)) (.node (wX P) (.node (Bz P) (.node (JB P) .nil .nil) .nil) (.node (FL P) .nil .nil))) (.node (q92 P) (.node (wc P) (.node (A1 P) (.node (IV P) .nil .nil) .nil) (.node (Fb P) .nil .nil)) (.node (xG P) (.node (B7 P) .nil .nil) (.node (Gz P) .nil .nil)))) (.node (q44 P) (.node (q76 P) (.node (vQ P) (.node (AH P) (.node (IC P) .nil .nil) .nil) (.node (C4 P) .nil .nil)) (.node (xn P) (.node (BP P) (.node (JR P) .nil .nil) .nil) (.node (Gf P) .nil .nil))) (.node (vc P) (.node (wD P) (.node (Bi P) (.node (Jl P) .nil .nil) .nil) (.node (Fu P) .nil .nil)) (.node (x9 P) (.node (Cs P) .nil .nil) (.node (GR P) .nil .nil))))) (.node (q20 P) (.node (q36 P) (.node (q68 P) (.node (vH P) (.node (Ay P) (.node (Ir P) .nil .nil) .nil) (.node (CT P) .nil .nil)) (.node (xf P) (.node (BH P) (.node (JJ P) .nil .nil) .nil) (.node (FW P) .nil .nil))) (.node (uZ P) (.node (wt P) (.node (Ba P) (.node (Jd P) .nil .nil) .nil) (.node (Fj P) .nil .nil)) (.node (xR P) (.node (Ci P) .nil .nil) (.node (GI P) .nil .nil)))) (.node (q52 P) (.node (q84 P) (.node (vY P) (.node (AR P) (.node (IK P) .nil .nil) .nil) (.node (E2 P) .nil .nil)) (.node (xw P) (.node (BY P) .nil .nil) (.node (Gp P) .nil .nil))) (.node (vk P) (.node (wM P) (.node (Bq P) (.node (Jt P) .nil .nil) .nil) (.node (FD P) .nil .nil)) (.node (Ag P) (.node (CB P) .nil .nil) (.node (HY P) .nil .nil)))))))) (.node (PySem.W.boot_o_2 P) (.node (PySem.W.boot_o_4 P) (.node (PySem.W.boot_o_8 P) (.node (q7 P) (.node (q23 P) (.node (q55 P) (.node (vo P) (.node (Aj P) (.node (Ib P) .nil .nil) .nil) (.node (CF P) .nil .nil)) (.node (wQ P) (.node (Bt P) (.node (Jw P) .nil .nil) .nil) (.node (FG P) .nil .nil))) (.node (q87 P) (.node (v5 P) (.node (AV P) (.node (IP P) .nil .nil) .nil) (.node (E5 P) .nil .nil)) (.node (xA P) (.node (B1 P) .nil .nil) (.node (Gu P) .nil .nil)))) (.node (q39 P) (.node (q71 P) (.node (vK P) (.node (AB P) (.node (Iw P) .nil .nil) .nil) (.node (CW P) .nil .nil)) (.node (xi P) (.node (BK P) (.node (JM P) .nil .nil) .nil) (.node (FZ P) .nil .nil))) (.node (u5 P) (.node (wy P) (.node (Bd P) (.node (Jg P) .nil .nil) .nil) (.node (Fn P) .nil .nil)) (.node (xW P) (.node (Cm P) .nil .nil) (.node (GL P) .nil .nil))))) (.node (q15 P) (.node (q31 P) (.node (q63 P) (.node (vB P) (.node (Ar P) (.node (Il P) .nil .nil) .nil) (.node (CN P) .nil .nil)) (.node (w8 P) (.node (BC P) (.node (JE P) .nil .nil) .nil) (.node (FP P) .nil .nil))) (.node (q95 P) (.node (wj P) (.node (A5 P) (.node (IZ P) .nil .nil) .nil) (.node (Fe P) .nil .nil)) (.node (xJ P) (.node (Cb P) .nil .nil) (.node (GC P) .nil .nil)))) (.node (q47 P) (.node (q79 P) (.node (vT P) (.node (AK P) (.node (IF P) .nil .nil) .nil) (.node (EV P) .nil .nil)) (.node (xq P) (.node (BS P) .nil .nil) (.node (Gi P) .nil .nil))) (.node (vf P) (.node (wH P) (.node (Bl P) (.node (Jo P) .nil .nil) .nil) (.node (Fx P) .nil .nil)) (.node (yc P) (.node (Cv P) .nil .nil) (.node (GV P) .nil .nil)))))) (.node (HX P) (.node (q11 P) (.node (q27 P) (.node (q59 P) (.node (vw P) (.node (An P) (.node (Ih P) .nil .nil) .nil) (.node (CJ P) .nil .nil)) (.node (wW P) (.node (By P) (.node (JA P) .nil .nil) .nil) (.node (FK P) .nil .nil))) (.node (q91 P) (.node (wb P) (.node (AZ P) (.node (IU P) .nil .nil) .nil) (.node (E9 P) .nil .nil)) (.node (xF P) (.node (B6 P) .nil .nil) (.node (Gy P) .nil .nil)))) (.node (q43 P) (.node (q75 P) (.node (vP P) (.node (AG P) (.node (IB P) .nil .nil) .nil) (.node (C3 P) .nil .nil)) (.node (xm P) (.node (BO P) (.node (JQ P) .nil .nil) .nil) (.node (Ge P) .nil .nil))) (.node (vb P) (.node (wC P) (.node (Bh P) (.node (Jk P) .nil .nil) .nil) (.node (Ft P) .nil .nil)) (.node (x8 P) (.node (Cr P) .nil .nil) (.node (GQ P) .nil .nil))))) (.node (q19 P) (.node (q35 P) (.node (q67 P) (.node (vG P) (.node (Ax P) (.node (Iq P) .nil .nil) .nil) (.node (CS P) .nil .nil)) (.node (xc P) (.node (BG P) (.node (JI P) .nil .nil) .nil) (.node (FU P) .nil .nil))) (.node (uY P) (.node (wq P) (.node (A9 P) (.node (Jc P) .nil .nil) .nil) (.node (Fi P) .nil .nil)) (.node (xQ P) (.node (Cg P) .nil .nil) (.node (GH P) .nil .nil)))) (.node (q51 P) (.node (q83 P) (.node (vX P) (.node (AQ P) (.node (IJ P) .nil .nil) .nil) (.node (EZ P) .nil .nil)) (.node (xv P) (.node (BX P) .nil .nil) (.node (Gn P) .nil .nil))) (.node (vj P) (.node (wL P) (.node (Bp P) (.node (Js P) .nil .nil) .nil) (.node (FC P) .nil .nil)) (.node (yg P) (.node (CA P) .nil .nil) (.node (GZ P) .nil .nil))))))) (.node (PySem.W.boot_o_6 P) (.node (PySem.W.boot_o_10 P) (.node (q9 P) (.node (q25 P) (.node (q57 P) (.node (vq P) (.node (Al P) (.node (Ie P) .nil .nil) .nil) (.node (CH P) .nil .nil)) (.node (wU P) (.node (Bv P) (.node (Jy P) .nil .nil) .nil) (.node (FI P) .nil .nil))) (.node (q89 P) (.node (v8 P) (.node (AX P) (.node (IS P) .nil .nil) .nil) (.node (E7 P) .nil .nil)) (.node (xD P) (.node (B4 P) .nil .nil) (.node (Gw P) .nil .nil)))) (.node (q41 P) (.node (q73 P) (.node (vN P) (.node (AE P) (.node (Iz P) .nil .nil) .nil) (.node (CZ P) .nil .nil)) (.node (xk P) (.node (BM P) (.node (JO P) .nil .nil) .nil) (.node (Gb P) .nil .nil))) (.node (u7 P) (.node (wA P) (.node (Bf P) (.node (Ji P) .nil .nil) .nil) (.node (Fq P) .nil .nil)) (.node (xY P) (.node (Co P) .nil .nil) (.node (GO P) .nil .nil))))) (.node (q17 P) (.node (q33 P) (.node (q65 P) (.node (vE P) (.node (Av P) (.node (Io P) .nil .nil) .nil) (.node (CP P) .nil .nil)) (.node (xa P) (.node (BE P) (.node (JG P) .nil .nil) .nil) (.node (FR P) .nil .nil))) (.node (q97 P) (.node (wm P) (.node (A7 P) (.node (Ja P) .nil .nil) .nil) (.node (Fg P) .nil .nil)) (.node (xN P) (.node (Ce P) .nil .nil) (.node (GF P) .nil .nil)))) (.node (q49 P) (.node (q81 P) (.node (vV P) (.node (AN P) (.node (IH P) .nil .nil) .nil) (.node (EX P) .nil .nil)) (.node (xt P) (.node (BV P) .nil .nil) (.node (Gk P) .nil .nil))) (.node (vh P) (.node (wJ P) (.node (Bn P) (.node (Jq P) .nil .nil) .nil) (.node (Fz P) .nil .nil)) (.node (ye P) (.node (Cy P) .nil .nil) (.node (GX P) .nil .nil)))))) (.node (q3 P) (.node (q13 P) (.node (q29 P) (.node (q61 P) (.node (vz P) (.node (Ap P) (.node (Ij P) .nil .nil) .nil) (.node (CL P) .nil .nil)) (.node (wY P) (.node (BA P) (.node (JC P) .nil .nil) .nil) (.node (FN P) .nil .nil))) (.node (q93 P) (.node (we P) (.node (A3 P) (.node (IW P) .nil .nil) .nil) (.node (Fc P) .nil .nil)) (.node (xH P) (.node (B8 P) .nil .nil) (.node (GA P) .nil .nil)))) (.node (q45 P) (.node (q77 P) (.node (vR P) (.node (AI P) (.node (ID P) .nil .nil) .nil) (.node (ET P) .nil .nil)) (.node (xo P) (.node (BQ P) (.node (JS P) .nil .nil) .nil) (.node (Gg P) .nil .nil))) (.node (vd P) (.node (wF P) (.node (Bj P) (.node (Jm P) .nil .nil) .nil) (.node (Fv P) .nil .nil)) (.node (ya P) (.node (Ct P) .nil .nil) (.node (GS P) .nil .nil))))) (.node (q21 P) (.node (q37 P) (.node (q69 P) (.node (vI P) (.node (Az P) (.node (Iu P) .nil .nil) .nil) (.node (CU P) .nil .nil)) (.node (xg P) (.node (BI P) (.node (JK P) .nil .nil) .nil) (.node (FX P) .nil .nil))) (.node (u3 P) (.node (wu P) (.node (Bb P) (.node (Je P) .nil .nil) .nil) (.node (Fl P) .nil .nil)) (.node (xT P) (.node (Cj P) .nil .nil) (.node (GJ P) .nil .nil)))) (.node (q53 P) (.node (q85 P) (.node (vZ P) (.node (AS P) (.node (IL P) .nil .nil) .nil) (.node (E3 P) .nil .nil)) (.node (xx P) (.node (BZ P) .nil .nil) (.node (Gq P) .nil .nil))) (.node (vm P) (.node (wN P) (.node (Br P) (.node (Ju P) .nil .nil) .nil) (.node (FE P) .nil .nil)) (.node (Ah P) (.node (CC P) .nil .nil) (.node (HZ P) .nil .nil)))))))))
noncomputable abbrev hp:Program:=PySem.Challenge.rw_plusless_k83_no_lines.row.prog
noncomputable def iQ:Env:={scope:=hp.main.scope,locals:=mainNs,globals:=mainNs,cells:=[],code:=.ref 13,frame:=some 14}
noncomputable def hB:List Stmt:=PySem.W.behindTheImports hp
noncomputable def hCd:Code:=Code.body hB iQ
noncomputable def hp0:Pos:=⟨0,0,0,0⟩
noncomputable def sT (t:PySem.W.BT) (n k:Nat) (os:OsState):PySem.W.SharedT:={tree:=t,n:=n,life:={},gens:=#[],drawn:={},toks:=k,os:=os}
noncomputable def hH (P:Params):Heap:=PySem.W.absHeap (t5T P) 599 {}
set_option maxHeartbeats 0 in
theorem tg (w:World) (os:OsState):PySem.W.topGo treeTable hp w 11 (some (.ref 6)) 12 {heap:=PySem.W.boot_heap w.params,gens:=#[],drawn:=PySem.W.boot_drawn,toks:=PySem.W.boot_toks,os:=os} (PySem.W.topStub hp)=some ((sT (t0T w.params) 15 187 os).abs,{cur:=denote treeTable (Code.body hB iQ),code:=hCd,pos:=hp0,stack:=[PySem.W.topFrame hp0]}):=by kernel_rfl
set_option maxHeartbeats 0 in
theorem tb (w:World) (os:OsState):PySem.W.segRun treeTable hp w 11 (some (.ref 6)) 1 1 (sT (t0T w.params) 15 187 os).abs (PySem.W.blockOf hB iQ hCd hp0 [PySem.W.topFrame hp0])=some (Flow.next,(sT (t0T w.params) 15 187 os).abs,hCd,hp0):=by kernel_rfl
set_option maxHeartbeats 0 in
theorem pc0 (w:World) (os:OsState):PySem.W.segRunT treeTable hp w 11 (some (.ref 6)) 1 4300 (sT (t0T w.params) 15 187 os) (PySem.W.piecesOf ((hB.drop 0).take 9) iQ hCd hp0 [PySem.W.topFrame hp0])=some (Flow.next,sT (t1T w.params) 107 310 os,hCd,⟨17,0,18,8⟩):=by kernel_rfl
set_option maxHeartbeats 0 in
theorem pc1 (w:World) (os:OsState):PySem.W.segRunT treeTable hp w 11 (some (.ref 6)) 1 2500 (sT (t1T w.params) 107 310 os) (PySem.W.piecesOf ((hB.drop 9).take 24) iQ hCd ⟨17,0,18,8⟩ [PySem.W.topFrame hp0])=some (Flow.next,sT (t2T w.params) 253 507 os,hCd,⟨84,0,91,17⟩):=by kernel_rfl
set_option maxHeartbeats 0 in
theorem pc2 (w:World) (os:OsState):PySem.W.segRunT treeTable hp w 11 (some (.ref 6)) 1 1300 (sT (t2T w.params) 253 507 os) (PySem.W.piecesOf ((hB.drop 33).take 18) iQ hCd ⟨84,0,91,17⟩ [PySem.W.topFrame hp0])=some (Flow.next,sT (t3T w.params) 406 708 os,hCd,⟨156,0,197,107⟩):=by kernel_rfl
set_option maxHeartbeats 0 in
theorem JT (w:World) (os:OsState):PySem.W.segRunT treeTable hp (w.withFollow "special-get-raises" true) 11 (some (.ref 6)) 1 1300 (sT (t3T (w.withFollow "special-get-raises" true).params) 406 708 os) (PySem.W.piecesOf ((hB.drop 51).take 24) iQ hCd ⟨156,0,197,107⟩ [PySem.W.topFrame hp0])=some (Flow.next,sT (t4T (w.withFollow "special-get-raises" true).params) 509 862 os,hCd,⟨253,0,259,16⟩):=by kernel_rfl
set_option maxHeartbeats 0 in
theorem JU (w:World) (os:OsState):PySem.W.segRunT treeTable hp (w.withFollow "special-get-raises" false) 11 (some (.ref 6)) 1 1300 (sT (t3T (w.withFollow "special-get-raises" false).params) 406 708 os) (PySem.W.piecesOf ((hB.drop 51).take 24) iQ hCd ⟨156,0,197,107⟩ [PySem.W.topFrame hp0])=some (Flow.next,sT (t4T (w.withFollow "special-get-raises" false).params) 509 862 os,hCd,⟨253,0,259,16⟩):=by kernel_rfl
theorem pc3 (w:World) (os:OsState):PySem.W.segRunT treeTable hp w 11 (some (.ref 6)) 1 1300 (sT (t3T w.params) 406 708 os) (PySem.W.piecesOf ((hB.drop 51).take 24) iQ hCd ⟨156,0,197,107⟩ [PySem.W.topFrame hp0])=some (Flow.next,sT (t4T w.params) 509 862 os,hCd,⟨253,0,259,16⟩):=PySem.W.byRow2 "special-get-raises" (P:=λw=>∀ os,PySem.W.segRunT treeTable hp w 11 (some (.ref 6)) 1 1300 (sT (t3T w.params) 406 708 os) (PySem.W.piecesOf ((hB.drop 51).take 24) iQ hCd ⟨156,0,197,107⟩ [PySem.W.topFrame hp0])=some (Flow.next,sT (t4T w.params) 509 862 os,hCd,⟨253,0,259,16⟩)) (λw os=>JU w os) (λw os=>JT w os) w os
set_option maxHeartbeats 0 in
theorem pc4 (w:World) (os:OsState):PySem.W.segRunT treeTable hp w 11 (some (.ref 6)) 1 1300 (sT (t4T w.params) 509 862 os) (PySem.W.piecesOf ((hB.drop 75).take 12) iQ hCd ⟨253,0,259,16⟩ [PySem.W.topFrame hp0])=some (Flow.next,sT (t5T w.params) 599 985 os,hCd,⟨343,0,359,15⟩):=by kernel_rfl
set_option maxHeartbeats 0 in
theorem tz (w:World) (os:OsState):PySem.W.topRun treeTable hp w 11 (some (.ref 6)) 2 (sT (t5T w.params) 599 985 os).abs (PySem.W.restOf [] iQ hCd ⟨343,0,359,15⟩ [PySem.W.topFrame hp0])=some {heap:=hH w.params,gens:=#[],drawn:={},toks:=985,os:=os}:=by kernel_rfl
set_option maxHeartbeats 0 in
theorem hsp:hB=((hB.drop 0).take 9++((hB.drop 9).take 24++((hB.drop 33).take 18++((hB.drop 51).take 24++((hB.drop 75).take 12++[]))))):=by kernel_rfl
theorem JV (w:World) (os:OsState):PySem.W.topRun treeTable hp w 11 (some (.ref 6)) (12+(1+(4300+(2500+(1300+(1300+(1300+2))))))) {heap:=PySem.W.boot_heap w.params,gens:=#[],drawn:=PySem.W.boot_drawn,toks:=PySem.W.boot_toks,os:=os} (PySem.W.topStub hp)=some {heap:=hH w.params,gens:=#[],drawn:={},toks:=985,os:=os}:=by
 have key:∀ b,b=((hB.drop 0).take 9++((hB.drop 9).take 24++((hB.drop 33).take 18++((hB.drop 51).take 24++((hB.drop 75).take 12++[])))))->PySem.W.topRun treeTable hp w 11 (some (.ref 6)) (4300+(2500+(1300+(1300+(1300+2))))) (sT (t0T w.params) 15 187 os).abs (PySem.W.restOf b iQ hCd hp0 [PySem.W.topFrame hp0])=some {heap:=hH w.params,gens:=#[],drawn:={},toks:=985,os:=os}:=λb e=>by
  subst e
  exact (Qo (Qp (pc0 w os)) (Qo (Qp (pc1 w os)) (Qo (Qp (pc2 w os)) (Qo (Qp (pc3 w os)) (Qo (Qp (pc4 w os)) (tz w os))))))
 exact PySem.W.go_top (tg w os) (PySem.W.piece_block (tb w os) (key hB hsp))
set_option maxHeartbeats 0 in
theorem C5 (w:World):(λos=>(PySem.W.staticsOk (importedModules hp.main.body) (PySem.W.boot_heap w.params) (hH w.params) && PySem.W.namesBound hp (hH w.params) && PySem.W.gensDone {heap:=hH w.params,gens:=#[],drawn:={},toks:=985,os:=os} && PySem.W.laidKept (PySem.W.boot_heap w.params) (hH w.params),PySem.W.openSeen hV ["MARK_OF","ASKED_ALONE","ASKED_OF_A_NUMBER"] (importedModules hp.main.body) hX true {heap:=hH w.params,gens:=#[],drawn:={},toks:=985,os:=os},PySem.W.Hook.obs (PySem.W.kHook hK hA hKA) {heap:=hH w.params,gens:=#[],drawn:={},toks:=985,os:=os}))=λ_:OsState=>(true,PySem.W.openGood hV ["MARK_OF","ASKED_ALONE","ASKED_OF_A_NUMBER"],PySem.W.Hook.val (PySem.W.kHook hK hA hKA) w):=by kernel_rfl
theorem left:PySem.W.LeftO PySem.Challenge.rw_plusless_k83_no_lines.row.prog hV ["MARK_OF","ASKED_ALONE","ASKED_OF_A_NUMBER"] hX (PySem.W.Hook.obs (PySem.W.kHook hK hA hKA)) (PySem.W.Hook.val (PySem.W.kHook hK hA hKA)) 12700:=PySem.W.LeftO.of_pieces (H₀:=PySem.W.boot_heap) (H₁:=hH) (gs₀:=#[]) (gs₁:=#[]) (d₀:=PySem.W.boot_drawn) (d₁:={}) (k₀:=PySem.W.boot_toks) (k₁:=985) (m₀:=11) (ann:=some (.ref 6)) (M:=(12+(1+(4300+(2500+(1300+(1300+(1300+2)))))))) (PySem.W.boot_open (by kernel_rfl) (by decide) (λs=>by kernel_rfl)) (λw=>by kernel_rfl) JV (by decide) C5
end Lw
section
set_option Elab.async false
set_option linter.all false
set_option maxRecDepth 100000
namespace PySem
variable {l:List Env}
def ZO (o:Obj):Prop:=∃ fs:Array Value,o.data=.fields fs/\fs[2]?=some .none
def Heap.Zat (h:Heap) (e:Addr):Prop:=∃ o,h.get? e=some o/\ZO o
section
variable {M:Model} {A:Around} {E:Value->Shared->Prop} {s:Shared} {bs:Heap} {en:Env} {out:List Env} {L e:Addr} {cl a0:Value}
theorem Heap.Zat.same {h h':Heap} (z:h.Zat e) (k:h'.get? e=h.get? e):h'.Zat e:=let ⟨o,q,r⟩:=z; ⟨o,k.trans q,r⟩
theorem rG {ob:Obj} {fs:Array Value} {hd:Value} {more:Bool} {Q:Unit->Shared->Prop} (hA:A.frames=some (en :: out)) (hF:s.heap.FunFrames bs (en :: out)) (hL:en.frame=some L)
  (hE:s.heap.get? e=some ob) (hB:bs.StaysIn s.heap) (hN:bs.get? e=none) (hD:ob.data=.fields fs) (h0:fs[0]?=some a0) (h2:fs[2]?=some .none)
  (k:∀ h',Heap.NotedW bs (en :: out) e ob.cls a0 (rawInt L) s.heap h'->h'.Zat e->Q () { s with heap:=h' }):
  wpAny M A (do let f <- frameOf en; let pl <- entryPlaceOf L more; let t <- EntryCells.newEntry hd f .none (rawInt L) .none pl; setField (.ref e) 1 t) Q E s:=by
 have lt:1 < fs.size:=by have:=(Qx.mp h2).1; omega
 have notF:e ∉ (en :: out).filterMap (·.frame):=λz=>by
  obtain ⟨_,o',q,r⟩:=hF.mem z
  rw [hE] at q
  cases q
  exact r fs hD
 refine Y6 (wpAny_frameOf_fun hA hF hL λg1 so=>?_)
 refine Y6 (wpAny_entryPlaceOf λpl place=>?_)
 unfold EntryCells.newEntry newFields
 refine Y6 (Q2 ?_ (place.sizeOk5 _ _ _ _ _))
 generalize htb:({ cls:=.type "traceback",data:=.fields ([hd,.ref L,.none,rawInt L,.none] ++ (if pl.isEmpty then List.replicate 6 Value.none else pl)).toArray }:Obj)=tb
 have e1:g1.get? e=some ob:=(so.2.1 e notF).trans hE
 have b1:bs.StaysIn g1:=λc o q=>(so.2.1 c λz=>by rw [(hF.mem z).1] at q; cases q).trans (hB c o q)
 have e2:=Y8 (h:=g1) tb e1
 refine Wq e2 hD lt ?_
 generalize hfn:Obj.mapFields (λz=>z.setIfInBounds 1 (Value.ref g1.objs.size))=fn
 have d3:(fn ob).data=.fields (fs.setIfInBounds 1 (.ref g1.objs.size)):=by rw [<- hfn]; exact Ws hD _
 have c3:(fn ob).cls=ob.cls:=by rw [<- hfn]; exact Obj.cls_mapFields _ _
 have e3:((g1.push tb).update e fn).get? e=some (fn ob):=Qq fn e2 (Qr d3)
 have ne:g1.objs.size ≠ e:=Nat.ne_of_gt (Yh e1)
 have t3:((g1.push tb).update e fn).get? g1.objs.size=some tb:=(Zg (g1.push tb) fn (Ne.symm ne)).trans (Yp g1 (by rw [<- htb]; rfl))
 have other:∀ c o,c ≠ e->g1.get? c=some o->((g1.push tb).update e fn).get? c=some o:=λc o n q=>by
  rw [Zg (g1.push tb) fn (Ne.symm n)]
  exact Y8 tb q
 have noE:∀ c o,s.heap.get? c=some o->(∀ ws,o.data ≠ .fields ws)->c ≠ e:=λc o q r z=>by
  rw [z,hE] at q
  cases q
  exact r fs hD
 refine k _ ⟨λc o q=>other c o (λz=>by rw [z,hN] at q; cases q) (b1 c o q),hF.of_keeps λc o q r=>?_,?_,λc o q r=>?_⟩ ⟨fn ob,e3,_,d3,?_⟩
 ·obtain ⟨sl,y⟩:=so.2.2 c o q
  exact ⟨_,other c _ (noE c o q r) y,rfl⟩
 ·refine ⟨fn ob,_,g1.objs.size,tb,_,e3,⟨c3,?_⟩,d3,?_,b1.fresh,ne,t3,(by rw [<- htb]),?_⟩
  ·rw [Wf (by decide)]; exact h0
  ·simp [lt]
  ·first | (simp; done) | (rcases place with rfl | ⟨_,_,_,_,_,_,_,rfl⟩ <;> simp)
 ·obtain ⟨sl,y⟩:=so.2.2 c o q
  exact ⟨sl,other c _ (noE c o q r) y⟩
 ·rw [Wf (by decide)]; exact h2
theorem yh {Q:Unit->Shared->Prop} (hA:A.frames=some (en :: out)) (hF:s.heap.FunFrames bs (en :: out)) (hL:en.frame=some L) (tr:s.heap.TracedW bs e cl a0) (hB:bs.StaysIn s.heap) (hN:bs.get? e=none) (z:s.heap.Zat e)
  (k:∀ h',Heap.NotedW bs (en :: out) e cl a0 (rawInt L) s.heap h'->h'.Zat e->Q () { s with heap:=h' }):wpAny M A (noteFrame (.ref e) en) Q E s:=by
 obtain ⟨ob,fs,T,oT,ts,hE,⟨hC,h0⟩,hD,h1,nT,Te,hT,dT,h3⟩:=tr
 obtain ⟨ob',q',fs',d',h2⟩:=z
 rw [hE] at q'
 cases q'
 rw [hD] at d'
 cases d'
 subst hC
 unfold noteFrame
 simp only [hL]
 refine Y6 (Zy hE hD h1 ?_)
 rw [Y9 (by simp)]
 refine Y6 (Zy hT dT h3 ?_)
 rw [Yg (by simp [rawInt])]
 refine Y6 (Wq hT dT (Qx.mp h3).1 ?_)
 have oth:∀ c,c ≠ T->(s.heap.update T (Obj.mapFields (λy=>y.setIfInBounds 3 Value.none))).get? c=s.heap.get? c:=λc n=>Zg _ _ (Ne.symm n)
 have noT:∀ c o,s.heap.get? c=some o->(∀ ws,o.data ≠ .fields ws)->c ≠ T:=λc o q r y=>by
  rw [y,hT] at q
  cases q
  exact r ts dT
 exact rG hA (hF.of_keeps λc o q r=>⟨o,(oth c (noT c o q r)).trans q,rfl⟩) hL ((oth e (Ne.symm Te)).trans hE) (λc o q=>(oth c λy=>by rw [y,nT] at q; cases q).trans (hB c o q)) hN hD h0 h2
  λh' ⟨x1,x2,x3,x4⟩ zz=>k h' ⟨x1,x2,x3,λc o q r=>x4 c o ((oth c (noT c o q r)).trans q) r⟩ zz
theorem oG {ob:Obj} {fs:Array Value} {Q:Unit->Shared->Prop} (hA:A.frames=some (en :: out)) (hF:s.heap.FunFrames bs (en :: out)) (hL:en.frame=some L)
  (hE:s.heap.get? e=some ob) (hB:bs.StaysIn s.heap) (hN:bs.get? e=none) (hD:ob.data=.fields fs) (h0:fs[0]?=some a0) (h1:fs[1]?=some .none) (h2:fs[2]?=some .none)
  (k:∀ h',Heap.NotedW bs (en :: out) e ob.cls a0 (rawInt L) s.heap h'->h'.Zat e->Q () { s with heap:=h' }):wpAny M A (noteFrame (.ref e) en) Q E s:=by
 unfold noteFrame
 simp only [hL]
 refine Y6 (Zy hE hD h1 ?_)
 rw [Yg (by decide)]
 exact rG hA hF hL hE hB hN hD h0 h2 k
theorem lX {fl:Value} {Q:Unit->Shared->Prop} (hB:bs.StaysIn s.heap) (hF:s.heap.FunFrames bs l) (tr:s.heap.TracedAtW bs e cl a0 fl) (z:s.heap.Zat e)
  (k:∀ h',bs.StaysIn h'->h'.FunFrames bs l->h'.TracedW bs e cl a0->s.heap.UpToSlots h'->h'.Zat e->Q () { s with heap:=h' }):wpAny M A (setFlight (.ref e) none) Q E s:=by
 obtain ⟨ob,fs,T,oT,ts,hE,hC,hD,h1,nT,Te,hT,dT,h3⟩:=tr
 have lt:3 < ts.size:=(Qx.mp h3).1
 generalize hfn:Obj.mapFields (λy=>y.setIfInBounds 3 ((none:Option Addr).elim Value.none λf=>rawInt f))=fn
 have oth:∀ c,c ≠ T->(s.heap.update T fn).get? c=s.heap.get? c:=λc n=>Zg _ _ (Ne.symm n)
 have noT:∀ c o,s.heap.get? c=some o->(∀ ws,o.data ≠ .fields ws)->c ≠ T:=λc o q r y=>by
  rw [y,hT] at q
  cases q
  exact r ts dT
 have dF:(fn oT).data=.fields (ts.setIfInBounds 3 .none):=by rw [<- hfn]; exact Ws dT _
 unfold setFlight
 refine Y6 (Zy hE hD h1 ?_)
 rw [Y9 (by simp)]
 refine Wq hT dT lt ?_
 rw [hfn]
 refine k _ (λc o q=>(oth c λy=>by rw [y,nT] at q; cases q).trans (hB c o q)) (hF.of_keeps λc o q r=>⟨o,(oth c (noT c o q r)).trans q,rfl⟩) ?_ (λc o q r=>⟨o.slots,(oth c (noT c o q r)).trans q⟩) (z.same (oth e (Ne.symm Te)))
 exact ⟨ob,fs,T,fn oT,_,(oth e (Ne.symm Te)).trans hE,hC,hD,h1,nT,Te,Qq fn hT (Qr dF),dF,by simp [lt]⟩
theorem rH {Q:Unit->Shared->Prop} (hA:A.frames=some (en :: out)) (hL:en.frame=some L) (fl:Heap.FlyingW bs (en :: out) e cl a0 s.heap) (z:s.heap.Zat e)
  (k:∀ h',Heap.HeldW bs (en :: out) e cl a0 L h'->s.heap.UpToSlots h'->h'.Zat e->Q () { s with heap:=h' }):wpAny M A (noteFrame (.ref e) en) Q E s:=by
 obtain ⟨y1,y2,y3,y4⟩:=fl
 exact yh hA y3 hL y4 y1 y2 z λh' ⟨x1,x2,x3,x4⟩ zz=>k h' ⟨x1,y2,x2,x3⟩ x4 zz
theorem rJ {Q:Unit->Shared->Prop} (hh:Heap.HeldW bs l e cl a0 L s.heap) (z:s.heap.Zat e)
  (k:∀ h',Heap.FlyingW bs l e cl a0 h'->s.heap.UpToSlots h'->h'.Zat e->Q () { s with heap:=h' }):wpAny M A (setFlight (.ref e) none) Q E s:=by
 obtain ⟨y1,y2,y3,y4⟩:=hh
 exact lX y1 y3 y4 z λh' x1 x2 x3 x4 zz=>k h' ⟨x1,y2,x2,x3⟩ x4 zz
theorem ng {Q:Unit->Shared->Prop} (fl:Heap.FlyingW bs l e cl a0 s.heap) (z:s.heap.Zat e)
  (k:∀ h',Heap.FlyingW bs l e cl a0 h'->s.heap.UpToSlots h'->h'.Zat e->Q () { s with heap:=h' }):wpAny M A (setFlight (.ref e) none) Q E s:=by
 obtain ⟨y1,y2,y3,y4⟩:=fl
 exact lX y1 y3 y4.at z λh' x1 x2 x3 x4 zz=>k h' ⟨x1,y2,x2,x3⟩ x4 zz
theorem yi {Q:Unit->Shared->Prop} (hA:A.frames=some (en :: out)) (hL:en.frame=some L) (fl:Heap.FlyingW bs (en :: out) e cl a0 s.heap) (z:s.heap.Zat e)
  (k:∀ h',Heap.FlyingW bs out e cl a0 h'->s.heap.UpToSlots h'->h'.Zat e->Q () { s with heap:=h' }):wpAny M A (leaving en (.ref e)) Q E s:=by
 unfold leaving
 refine Y6 (rH hA hL fl z λh1 x1 x2 x3=>?_)
 refine rJ (s:={ s with heap:=h1 }) x1 x3 λh2 y1 y2 y3=>?_
 obtain ⟨a,b,⟨_,_,c⟩,d⟩:=y1
 exact k h2 ⟨a,b,c,d⟩ (x2.trans y2) y3
theorem nh {h:Heap} {vs:List Value} {Q:Unit->Shared->Prop} (hA:A.frames=some (en :: out)) (hL:en.frame=some L) (hB:bs.StaysIn h) (hF:h.FunFrames bs (en :: out)) (mk:Heap.MadeExcOf h s.heap e cl vs)
  (k:∀ h' t,Heap.FlyingW bs out e cl (.ref t) h'->s.heap.UpToSlots h'->h'.Zat e->Q () { s with heap:=h' }):wpAny M A (leaving en (.ref e)) Q E s:=by
 obtain ⟨t,hE,_,_⟩:=mk.there
 have nw:bs.get? e=none:=by
  cases q:bs.get? e with
  | none=>rfl
  | some o'=>have:=hB e o' q; rw [mk.new] at this; cases this
 unfold leaving
 refine Y6 (oG (a0:=.ref t) hA (hF.of_keeps λc o q _=>⟨o,mk.keeps c o q,rfl⟩) hL hE (λc o q=>mk.keeps c o (hB c o q)) nw rfl rfl rfl rfl λh1 x1 x2=>?_)
 obtain ⟨a,b,c,d⟩:=x1
 refine lX (s:={ s with heap:=h1 }) a b c x2 λh2 y1 y2 y3 y4 y5=>?_
 obtain ⟨_,_,y2⟩:=y2
 exact k h2 t ⟨y1,nw,y2,y3⟩ (Heap.UpToSlots.trans d y4) y5
end
end PySem
namespace PySem
open PyProof.Rows
variable {ha:Addr}
theorem kT:entryFor table "proto.unchain" = some Builtin.«proto.unchain»:=entryFor_of_tree (by kernel_rfl)
theorem kU:plainId "proto.unchain" = true:=by decide +kernel
section
variable {prog:Program} {w:World} {A:Around} {E:Value->Shared->Prop} {s:Shared}
theorem rK {ea:Addr} {Q:Value->Shared->Prop} (z:s.heap.Zat ha) (h:Q .none s):wpAny (model prog w) A (runValue (.builtin "proto.unchain" ⟨[.ref ea,.ref ha,.ref ha,.bool false],[]⟩)) Q E s:=by
 obtain ⟨o,ho,fs,hd,h2⟩:=z
 refine wpAny_runValue (codeAny_builtin kT ?_)
 rw [Around.under_plainId kU _]
 unfold Builtin.«proto.unchain»
 refine Y6 (Zy ho hd h2 ?_)
 rw [Y9 (by rfl)]
 refine Y6 (Ye ?_)
 exact Ye h
theorem qk {α:Type} {ea:Addr} {o:Obj} {fs:Array Value} {Q:α->Shared->Prop} (hh:A.handled=some (.ref ha)) (z:s.heap.Zat ha) (ne:ha ≠ ea) (he:s.heap.get? ea=some o) (hd:o.data=.fields fs) (hs:2 < fs.size)
  (h:E (.ref ea) { s with heap:=s.heap.update ea (Obj.mapFields (λy=>y.setIfInBounds 2 (.ref ha))) }):wpAny (model prog w) A (raiseNew (.ref ea):Sem α) Q E s:=by
 unfold raiseNew
 refine Y6 (wpAny_handled ?_)
 rw [hh]
 dsimp only
 rw [Y9 (by simpa using ne)]
 refine Y6 (Q4 (rK z ?_))
 refine Y6 ?_
 show wpAny _ _ (setField (.ref ea) 2 (.ref ha)) _ _ s
 exact Wq he hd hs (wpAny_throw h)
theorem ql {it:Addr} {x left step:Int} {Q:Option Value->Shared->Prop} (hh:A.handled=some (.ref ha)) (z:s.heap.Zat ha) (hit:IsRangeIter s.heap it x left step) (hl:left<=0)
  (k:∀ h',Heap.ExtBut it s.heap h'->Q none { s with heap:=h' }):wpAny (model prog w) A (pyNext (.ref it)) Q E s:=by
 have ty:s.TypeIs (.ref it) "range_iterator":=⟨_,hit,rfl⟩
 have lta:ha < s.heap.objs.size:=let ⟨o,q,_⟩:=z; Yh q
 unfold pyNext
 refine Y6 (wpAny_attempt (W5 (name:=Str.ofString "__next__") ty F.slot_range_iterator_next (wpAny_call_entry F.slot_range_iterator_next ty F.entry_range_iterator_next ?_ (F.args_range_iterator_next_1 _))))
 show wpAny _ _ (field (.ref it) 0 >>= _) _ _ s
 refine Y6 (Zy hit rfl (x:=rawInt x) rfl ?_)
 show wpAny _ _ (field (.ref it) 1 >>= _) _ _ s
 refine Y6 (Zy hit rfl (x:=rawInt left) rfl ?_)
 show wpAny _ _ (field (.ref it) 2 >>= _) _ _ s
 refine Y6 (Zy hit rfl (x:=rawInt step) rfl ?_)
 show wpAny _ _ (if left<=0 then _ else _) _ _ s
 rw [Y9 hl]
 refine Y6 (V7 ?_)
 refine Y6 ?_
 show wpAny _ _ (newExc (.type "StopIteration") [] >>= _) _ _ _
 refine Y6 ?_
 simp only [newExc,newTuple]
 refine Y6 (Q2 ?_ (by size_fits))
 refine Y6 (m:=firstArgMember _ _) (wpAny_of_eq (a:=Value.none) (by first | rfl | (simp only [firstArgMember]; rfl)) ?_)
 refine Q2 ?_ (by size_fits)
 refine qk (ha:=ha) (by first | exact hh | (show A.in1.handled=_; exact hh)) ?_ ?_ (Yp _ rfl) rfl ?_ ?_
 ·obtain ⟨o,q,r⟩:=z
  exact ⟨o,Y8 _ (Y8 _ q),r⟩
 ·exact Yr (Yl lta (by rw [Zt]; exact Vh _))
 ·rw [Array.size_append]; exact Yl (show 2 < 6 by decide) (Nat.le_add_right _ _)
 ·dsimp only
  generalize hfn:Obj.mapFields (λy=>y.setIfInBounds 2 (Value.ref ha))=fn
  generalize hg:s.heap.push { cls:=Value.type "tuple",data:=Data.seq #[] }=g
  generalize hex:({ cls:=Value.type "StopIteration",data:=Data.fields (#[Value.ref s.heap.objs.size,Value.none,Value.none,Value.none,Value.bool false,Value.none] ++ ownMembersOf (Value.type "StopIteration") []) }:Obj)=ex
  have c0:ex.cls=.type "StopIteration":=by rw [<- hex]
  have d0:∃ fs,ex.data=.fields fs:=⟨_,by rw [<- hex]⟩
  obtain ⟨fs,d0⟩:=d0
  have p0:(g.push ex).get? g.objs.size=some ex:=Yp g (Qr d0)
  have d1:(fn ex).data=.fields (fs.setIfInBounds 2 (.ref ha)):=by rw [<- hfn]; exact Ws d0 _
  have c1:(fn ex).cls=.type "StopIteration":=by rw [<- hfn]; exact (Obj.cls_mapFields _ _).trans c0
  have e1:((g.push ex).update g.objs.size fn).get? g.objs.size=some (fn ex):=Qq fn p0 (Qr d1)
  refine Y6 (wpAny_isInstance (T:="StopIteration") (b:=true) ⟨fn ex,e1,c1⟩ isSubtype_stop ?_)
  refine Ye (k _ λb o _ q=>?_)
  have q1:g.get? b=some o:=by rw [<- hg]; exact Y8 _ q
  rw [Zg (g.push ex) fn (Nat.ne_of_gt (Yh q1))]
  exact Y8 ex q1
end
end PySem
namespace L2
open PySem PySem.Spec PyProof.Rows
variable {us:List Value} {u:Value} {a b C:Addr} {o:Obj} {P:Program} {w:World} {h:Heap} {i j k:Nat} {x:Str} {e:Expr} {A:Around} {s:Shared} {pos:Pos} {pins:List (Addr × Obj)} {qb:Bool} {fp:List Addr} {op:CmpOp} {kindOf:Str→Option NameKind}
noncomputable abbrev Key:=Sum Int Str
noncomputable def lu:Key->Value->Bool
 | .inl k,v=>Value.isInt k v
 | .inr x,v=>Value.isStrOf x v
noncomputable def JW (w:World):Key->Int
 | .inl k=>hashInt k
 | .inr x=>hashStr w x
theorem bq:∀ {k:Key} {v:Value},lu k v=true->(∃ i t,k=Sum.inl i/\v=Value.int i t) \/ (∃ x t,k=Sum.inr x/\v=Value.str x t)
 | .inl i,v,h=>by
  obtain ⟨t,e⟩:=Value.isInt_shape (k:=i) (v:=v) h
  exact .inl ⟨i,t,rfl,e⟩
 | .inr x,v,h=>by
  obtain ⟨t,e⟩:=Value.isStrOf_shape (x:=x) (v:=v) h
  exact .inr ⟨x,t,rfl,e⟩
theorem qm (i:Int) (t:Tok):lu (.inl i) (.int i t)=true:=by simp [lu,Value.isInt]
theorem qo (x:Str) (t:Tok):lu (.inr x) (.str x t)=true:=by simp [lu,Value.isStrOf]
theorem C6 (a b:Int):decide ((Sum.inl a:Key)=Sum.inl b)=(a == b):=by
 by_cases e:a=b
 ·subst e; simp
 ·have h:¬ (Sum.inl a:Key)=Sum.inl b:=λq=>e (Sum.inl.inj q)
  rw [Y7 h]
  exact (Qe.mpr e).symm
theorem C7 (a b:Str):decide ((Sum.inr a:Key)=Sum.inr b)=decide (a=b):=by
 by_cases e:a=b
 ·subst e; simp
 ·have h:¬ (Sum.inr a:Key)=Sum.inr b:=λq=>e (Sum.inr.inj q)
  rw [Y7 h,Y7 e]
theorem C8 (a:Int) (b:Str):decide ((Sum.inl a:Key)=Sum.inr b)=false:=Y7 (λq=>nomatch q)
theorem C9 (a:Str) (b:Int):decide ((Sum.inr a:Key)=Sum.inl b)=false:=Y7 (λq=>nomatch q)
noncomputable def cZ (prog:Program) (w:World):PySem.KeyKind prog w Key where
 is:=lu
 hash:=JW w
 inj:=λv a b ha hb=>by
  rcases bq ha with ⟨i,t,rfl,rfl⟩ | ⟨x,t,rfl,rfl⟩
  ·rcases bq hb with ⟨j,u,rfl,e⟩ | ⟨y,u,rfl,e⟩
   ·injection e with e1 _; rw [e1]
   ·exact nomatch e
  ·rcases bq hb with ⟨j,u,rfl,e⟩ | ⟨y,u,rfl,e⟩
   ·exact nomatch e
   ·injection e with e1 _; rw [e1]
 byValue:=λk v h=>by
  rcases bq h with ⟨i,t,rfl,rfl⟩ | ⟨x,t,rfl,rfl⟩ <;> rfl
 pyHash:=λhv h=>by
  rcases bq hv with ⟨i,t,rfl,rfl⟩ | ⟨x,t,rfl,rfl⟩
  ·exact wpAny_pyHash_int h
  ·exact wpAny_pyHash_str h
 eqBool:=λhu hv h=>by
  rcases bq hu with ⟨i,t,rfl,rfl⟩ | ⟨x,t,rfl,rfl⟩
  ·rcases bq hv with ⟨j,u,rfl,rfl⟩ | ⟨y,u,rfl,rfl⟩
   ·rw [C6] at h; exact wpAny_eqBool_int h
   ·rw [C8] at h; exact SeqAt.EqAt.int_str i t y u _ _ _ _ h
  ·rcases bq hv with ⟨j,u,rfl,rfl⟩ | ⟨y,u,rfl,rfl⟩
   ·rw [C9] at h; exact SeqAt.EqAt.str_int x t j u _ _ _ _ h
   ·rw [C7] at h; exact wpAny_eqBool_str h
 «strs»:=λk x t v h=>by
  rcases bq h with ⟨i,u,rfl,e⟩ | ⟨y,u,rfl,e⟩
  ·exact nomatch e
  ·injection e with e1 _
   subst e1
   cases v <;> rfl
theorem ni (prog:Program) (w:World) (i:Int) (t:Tok):(cZ prog w).is (.inl i) (.int i t)=true:=qm i t
theorem nj (prog:Program) (w:World) (x:Str) (t:Tok):(cZ prog w).is (.inr x) (.str x t)=true:=qo x t
inductive V where
 | non | bl (b:Bool) | int (i:Int) | str (x:Str) | byt (b:Array UInt8) | flt (b:UInt64) | ref (a:Addr) | ty (n:String)
 deriving DecidableEq
noncomputable def RelV:V->Value->Prop
 | .non,u=>u=Value.none
 | .bl b,u=>u=Value.bool b
 | .int i,u=>∃ t,u=Value.int i t
 | .str x,u=>∃ t,u=Value.str x t
 | .byt b,u=>∃ t,u=Value.bytes b t
 | .flt b,u=>∃ t,u=Value.float b t
 | .ref a,u=>u=Value.ref a
 | .ty n,u=>u=Value.type n
noncomputable abbrev Vals:List V->List Value->Prop:=Paired RelV
theorem Vals.length {xs:List V} (r:Vals xs us):xs.length=us.length:=Paired.length r
theorem Vals.get:∀ {xs:List V} {us:List Value} {i:Nat} {x:V},Vals xs us->xs[i]?=some x->∃ u,us[i]?=some u/\RelV x u
 | _,_,_,_,.nil,e=>by simp at e
 | _,_,0,_,.cons r _,e=>by simp at e; subst e; exact ⟨_,rfl,r⟩
 | _,_,i + 1,x,.cons _ t,e=>by
  obtain ⟨u,h1,h2⟩:=Vals.get (i:=i) (x:=x) t (by simpa using e)
  exact ⟨u,by simpa using h1,h2⟩
theorem Vals.set {x:V} (r:RelV x u):∀ {xs:List V} {us:List Value} (i:Nat),Vals xs us->Vals (xs.set i x) (us.set i u)
 | _,_,_,.nil=>.nil
 | _,_,0,.cons _ t=>.cons r t
 | _,_,i + 1,.cons q t=>.cons q (Vals.set r i t)
theorem Vals.append:∀ {xs ys:List V} {us ws:List Value},Vals xs us->Vals ys ws->Vals (xs ++ ys) (us ++ ws)
 | _,_,_,_,.nil,s=>s
 | _,_,_,_,.cons r t,s=>.cons r (Vals.append t s)
theorem Vals.take:∀ {xs:List V} {us:List Value} (n:Nat),Vals xs us->Vals (xs.take n) (us.take n)
 | _,_,0,_=>.nil
 | _,_,_ + 1,.nil=>.nil
 | _,_,n + 1,.cons r t=>.cons r (Vals.take n t)
theorem Vals.drop:∀ {xs:List V} {us:List Value} (n:Nat),Vals xs us->Vals (xs.drop n) (us.drop n)
 | _,_,0,r=>r
 | _,_,_ + 1,.nil=>.nil
 | _,_,n + 1,.cons _ t=>Vals.drop n t
noncomputable def kW:Option V->Option Value->Prop
 | some v,some u=>RelV v u
 | none,none=>True
 | _,_=>False
noncomputable def KV {κ:Type}:List (κ × V)->List (κ × Value)->Prop:=Paired λ(p:κ × V) (q:κ × Value)=>p.1=q.1/\RelV p.2 q.2
noncomputable def kV:Key->V
 | .inl i=>.int i
 | .inr x=>.str x
set_option genInjectivity false in
inductive HO where
 /-- a list -/
 | lst (xs:List V)
 /-- a tuple (never changes) -/
 | tup (xs:List V)
 /-- a dict whose keys are ints and texts; one whose keys are tuples of ints and texts (the empty one is both) -/
 | dK (kvs:List (Key × V)) | dT (kvs:List (List Key × V))
 /-- a set of ints: its members,its size -/
 | set (S:Int->Bool) (n:Nat)
 /-- an instance of the class at C,its dict at dx,its attributes -/
 | ins (C dx:Addr) (fs:List (Str × V))
 /-- the dict of the instance at x -/
 | own (x:Addr)
 /-- the dict of an exception -/
 | xd (fs:List (Str × V))
 /-- a bound method,f of x -/
 | met (f x:Addr)
 /-- a range object lo,lo + 1,.. below hi -/
 | rng (lo hi:Int)
 /-- a thing that is known to the object (the script; a dict while a loop walks it): read,never written while it is so -/
 | frz (o:Obj) (u:HO)
 /-- a code object's table -/
 | tbl (ps:Array Value)
 /-- any other thing,by what is true of its one object (a def of one's own: SetO a S n:=HO.ext λh=>..) -/
 | ext (φ:Heap->Prop)
noncomputable abbrev Hp:=Addr->Option HO
variable {H:Hp}
noncomputable def upd (H:Hp) (a:Addr) (o:HO):Hp:=λb=>if b=a then some o else H b
theorem aL {o:HO}:upd H a o a=some o:=by unfold upd; rw [Y9 rfl]
theorem aA {o:HO} (h:b ≠ a):upd H a o b=H b:=by unfold upd; rw [Yg h]
theorem aK {o:HO} (h:H a=some o) (h':H b=none):a ≠ b:=by
 intro e; subst e; rw [h] at h'; cases h'
section
variable (P:Program) (w:World)
noncomputable def bY (H:Hp) (h:Heap) (a:Addr):HO->Prop
 | .lst xs=>xs.length<=sizeLine/\∃ (its:List Value) (n:Nat),Vals xs its/\h.get? a=some { cls:=.type "list",data:=.seq its.toArray n }
 | .tup xs=>xs.length<=sizeLine/\∃ its:List Value,Vals xs its/\IsTup h a its.toArray
 | .dK kvs=>kvs.length<=sizeLine/\(a == sysModules)=false/\∃ vs,KV kvs vs/\h.DictOf (cZ P w) a vs
 | .dT kvs=>kvs.length<=sizeLine/\(a == sysModules)=false/\∃ xs:List (List Key × Addr × Value),
   Paired (λ(p:List Key × V) (q:List Key × Addr × Value)=>p.1=q.1/\H q.2.1=some (.tup (p.1.map kV))/\RelV p.2 q.2.2) kvs xs/\
   ∃ o es ep,h.get? a=some o/\o.ExactDict/\o.data=.dict es ep/\es.toList=xs.map (entryOfKey (tupleKind (cZ P w)))/\(xs.map (·.1)).Nodup
 | .set S n=>h.SetOf (intKind P w) a S n
 | .ins C dx fs=>H dx=some (.own a)/\fs.length<=1000/\dx ≠ a/\h.get? a=some (PySem.W.instObj C dx)/\
   ∃ mA,h.Ns1 dx mA/\(∀ f,kW (fs.lookup f) (mA f))/\PySem.Within mA (fs.map (·.1))
 | .own _=>∃ o,h.get? a=some o
 | .xd fs=>∃ mA,h.Ns1 a mA/\∀ f,kW (fs.lookup f) (mA f)
 | .rng lo hi=>∃ t u v,h.get? a=some { cls:=.type "range",data:=.fields #[.int lo t,.int hi u,.int 1 v] }
 | .frz o u=>h.get? a=some o/\bY H h a u
 | .tbl ps=>h.get? a=some { cls:=.none,data:=.fields ps }
 | .met f x=>h.get? a=some (PySem.W.methodObj (.ref f) (.ref x))
 | .ext φ=>φ h/\(∃ o,h.get? a=some o)/\∀ h1 h2:Heap,φ h1->(∀ o,h1.get? a=some o->h2.get? a=some o)->φ h2
def HOk (H:Hp) (h:Heap):Prop:=∀ a o,H a=some o->bY P w H h a o
end
section
variable {P:Program} {w:World} {H H':Hp} {h h':Heap} {a:Addr} {o:HO}
theorem bY.lt (x:bY P w H h a o):a < h.objs.size:=by
 cases o with
 | lst xs=>obtain ⟨_,_,_,_,e⟩:=x; exact Yh e
 | tup xs=>obtain ⟨_,_,_,p⟩:=x; exact p.lt
 | dK kvs=>obtain ⟨_,_,_,_,o,_,_,e,_⟩:=x; exact Yh e
 | dT kvs=>obtain ⟨_,_,_,_,o,_,_,e,_⟩:=x; exact Yh e
 | set S n=>obtain ⟨o,_,_,_,e,_⟩:=x; exact Yh e
 | ins C dx fs=>obtain ⟨_,_,_,e,_⟩:=x; exact Yh e
 | own y=>obtain ⟨_,e⟩:=x; exact Yh e
 | xd fs=>obtain ⟨_,⟨_,_,_,e,_⟩,_⟩:=x; exact Yh e
 | rng lo hi=>obtain ⟨_,_,_,e⟩:=x; exact Yh e
 | frz ob u=>obtain ⟨e,_⟩:=x; exact Yh e
 | tbl ps=>exact Yh (show h.get? a=some _ from x)
 | met f y=>exact Yh (show h.get? a=some _ from x)
 | ext φ=>obtain ⟨_,⟨_,e⟩,_⟩:=x; exact Yh e
theorem Paired.mapP {α β:Type} {F G:α->β->Prop}:∀ {l₁:List α} {l₂:List β},Paired F l₁ l₂->(∀ a b,F a b->G a b)->Paired G l₁ l₂
 | _,_,.nil,_=>.nil
 | _,_,.cons r t,f=>.cons (f _ _ r) (Paired.mapP t f)
theorem bY.stay (x:bY P w H h a o) (k:∀ b u,(b=a \/ H b=some (.own a))->h.get? b=some u->h'.get? b=some u)
  (ho:∀ b,H b=some (.own a)->H' b=some (.own a)) (ht:∀ b xs,H b=some (.tup xs)->H' b=some (.tup xs)):bY P w H' h' a o:=by
 induction o with
 | lst xs=>obtain ⟨z,its,n,r,e⟩:=x; exact ⟨z,its,n,r,k _ _ (.inl rfl) e⟩
 | tup xs=>obtain ⟨z,its,r,ob,e,c⟩:=x; exact ⟨z,its,r,ob,k _ _ (.inl rfl) e,c⟩
 | dK kvs=>obtain ⟨z,y,vs,r,ob,es,ep,e,c⟩:=x; exact ⟨z,y,vs,r,ob,es,ep,k _ _ (.inl rfl) e,c⟩
 | dT kvs=>
  obtain ⟨z,y,xs,r,ob,es,ep,e,c⟩:=x
  exact ⟨z,y,xs,Paired.mapP r λp q z=>⟨z.1,ht _ _ z.2.1,z.2.2⟩,ob,es,ep,k _ _ (.inl rfl) e,c⟩
 | set S n=>obtain ⟨ob,es,ep,t,e,c⟩:=x; exact ⟨ob,es,ep,t,k _ _ (.inl rfl) e,c⟩
 | ins C dx fs=>
  obtain ⟨d,z,ne,e,mA,⟨od,es,ep,e2,c⟩,r⟩:=x
  exact ⟨ho _ d,z,ne,k _ _ (.inl rfl) e,mA,⟨od,es,ep,k _ _ (.inr d) e2,c⟩,r⟩
 | own y=>obtain ⟨ob,e⟩:=x; exact ⟨ob,k _ _ (.inl rfl) e⟩
 | xd fs=>obtain ⟨mA,⟨od,es,ep,e,c⟩,r⟩:=x; exact ⟨mA,⟨od,es,ep,k _ _ (.inl rfl) e,c⟩,r⟩
 | rng lo hi=>obtain ⟨t,u,v,e⟩:=x; exact ⟨t,u,v,k _ _ (.inl rfl) e⟩
 | frz ob u ih=>obtain ⟨e,q⟩:=x; exact ⟨k _ _ (.inl rfl) e,ih q⟩
 | tbl ps=>
  have e:h.get? a=some { cls:=.none,data:=.fields ps }:=x
  show h'.get? a=some { cls:=.none,data:=.fields ps }
  exact k a _ (.inl rfl) e
 | met f y=>
  have e:h.get? a=some (PySem.W.methodObj (.ref f) (.ref y)):=x
  show h'.get? a=some (PySem.W.methodObj (.ref f) (.ref y))
  exact k a _ (.inl rfl) e
 | ext φ=>obtain ⟨p,⟨o,e⟩,st⟩:=x; exact ⟨st _ _ p λo q=>k _ _ (.inl rfl) q,⟨o,k _ _ (.inl rfl) e⟩,st⟩
theorem HOk.lt (x:HOk P w H h) (e:H a=some o):a < h.objs.size:=(x a o e).lt
theorem HOk.fresh (x:HOk P w H h) (e:h.objs.size<=a):H a=none:=by
 cases q:H a with
 | none=>rfl
 | some u=>exact absurd (Yl (x.lt q) e) (Qg _)
theorem HOk.kept (x:HOk P w H h) (k:∀ b u,h.get? b=some u->h'.get? b=some u):HOk P w H h':=λa o e=>
 (x a o e).stay (λb u _ q=>k b u q) (λ_ q=>q) λ_ _ q=>q
theorem HOk.laid (x:HOk P w H h) (k:∀ b u,h.get? b=some u->h'.get? b=some u) (hp:h.objs.size<=a) (new:bY P w (upd H a o) h' a o):HOk P w (upd H a o) h':=λb u e=>by
 have hn:=x.fresh hp
 by_cases hb:b=a
 ·subst hb; rw [aL] at e; cases e; exact new
 ·rw [aA hb] at e
  exact (x b u e).stay (λc v _ q=>k c v q) (λc q=>by rw [aA (aK q hn)]; exact q) λc xs q=>by rw [aA (aK q hn)]; exact q
end
def Rd (H:Hp) (a:Addr) (u:HO):Prop:=H a=some u \/ ∃ o,H a=some (.frz o u)
theorem Rd.ok {u:HO} (r:Rd H a u) (x:HOk P w H h):bY P w H h a u:=by
 rcases r with r | ⟨o,r⟩
 ·exact x a u r
 ·obtain ⟨_,q⟩:=x a _ r
  exact q
noncomputable def Mut:Option HO->Prop
 | some (.lst _)=>True
 | some (.dK _)=>True
 | some (.dT _)=>True
 | some (.set _ _)=>True
 | some (.ins _ _ _)=>True
 | some (.ext _)=>True
 | _=>False
section
variable {P:Program} {w:World} {H:Hp} {h h':Heap} {x e:Addr} {o':HO}
theorem HOk.write (ok:HOk P w H h) (mu:Mut (H x)) (he:e=x \/ H e=some (.own x)) (k:∀ b u,b ≠ e->h.get? b=some u->h'.get? b=some u) (heo:∃ u,h'.get? e=some u)
  (new:bY P w (upd H x o') h' x o'):HOk P w (upd H x o') h':=λb u q=>by
 have nown:∀ c y,H c=some (.own y)->c ≠ x:=λc y r z=>by subst z; rw [r] at mu; exact mu
 have ntup:∀ c xs,H c=some (.tup xs)->c ≠ x:=λc xs r z=>by subst z; rw [r] at mu; exact mu
 by_cases hb:b=x
 ·subst hb; rw [aL] at q; cases q; exact new
 ·rw [aA hb] at q
  by_cases hbe:b=e
  ·have q':H b=some (.own x):=by
    rcases he with z | z
    ·exact absurd (hbe.trans z) hb
    ·rw [hbe]; exact z
   rw [q] at q'; cases q'
   obtain ⟨v,hv⟩:=heo
   exact ⟨v,by rw [hbe]; exact hv⟩
  ·refine (ok b u q).stay (λc v hc r=>k c v ?_ r) (λc r=>by rw [aA (nown c b r)]; exact r) λc xs r=>by rw [aA (ntup c xs r)]; exact r
   rcases hc with rfl | hc
   ·exact hbe
   ·rintro rfl
    rcases he with z | z
    ·exact nown c b hc z
    ·rw [hc] at z; cases z; exact hb rfl
end
structure Un (fs ex:List Addr) (H H':Hp) (h h':Heap):Prop where
 keep:∀ b o,h.get? b=some o->H b=none->b ∉ fs->b ∉ ex->h'.get? b=some o
 slot:∀ b o,h.get? b=some o->H b=none->b ∈ fs->b ∉ ex->∃ sl,h'.get? b=some { o with slots:=sl }
 free:∀ b o,h.get? b=some o->H b=none->b ∉ ex->H' b=none
 there:∀ b o,h.get? b=some o->b ∉ ex->∃ o',h'.get? b=some o'
 tups:∀ b xs,H b=some (.tup xs)->H' b=some (.tup xs)
 frzs:∀ b o u,H b=some (.frz o u)->H' b=some (.frz o u)
 tbls:∀ b ps,H b=some (.tbl ps)->∃ more,H' b=some (.tbl (ps ++ more))
section
variable {fs fs' ex ex':List Addr} {H H1 H2:Hp} {h h1 h2 h':Heap} {a x e:Addr} {o:HO}
theorem Un.any (u:Un fs ex H H1 h h1) {ob:Obj} (q:h.get? b=some ob) (n:H b=none) (hx:b ∉ ex):∃ sl,h1.get? b=some { ob with slots:=sl }:=by
 by_cases hb:b ∈ fs
 ·exact u.slot b ob q n hb hx
 ·exact ⟨ob.slots,u.keep b ob q n hb hx⟩
theorem Un.trans (a:Un fs ex H H1 h h1) (b:Un fs ex H1 H2 h1 h2):Un fs ex H H2 h h2 where
 keep:=λc ob q n hc hx=>b.keep c ob (a.keep c ob q n hc hx) (a.free c ob q n hx) hc hx
 slot:=λc ob q n hc hx=>by
  obtain ⟨sl,e1⟩:=a.slot c ob q n hc hx
  obtain ⟨sl',e2⟩:=b.slot c _ e1 (a.free c ob q n hx) hc hx
  exact ⟨sl',e2⟩
 free:=λc ob q n hx=>by
  obtain ⟨o',e1⟩:=a.there c ob q hx
  exact b.free c o' e1 (a.free c ob q n hx) hx
 there:=λc ob q hx=>by
  obtain ⟨o',e1⟩:=a.there c ob q hx
  exact b.there c o' e1 hx
 tups:=λc xs q=>b.tups c xs (a.tups c xs q)
 frzs:=λc ob xs q=>b.frzs c ob xs (a.frzs c ob xs q)
 tbls:=λc ps q=>by
  obtain ⟨m1,e1⟩:=a.tbls c ps q
  obtain ⟨m2,e2⟩:=b.tbls c _ e1
  exact ⟨m1 ++ m2,by rw [e2,Array.append_assoc]⟩
theorem Un.kept (k:∀ b u,h.get? b=some u->h'.get? b=some u):Un fs ex H H h h':=
 ⟨λb ob q _ _ _=>k b ob q,λb ob q _ _ _=>⟨ob.slots,k b ob q⟩,λ_ _ _ n _=>n,λb ob q _=>⟨ob,k b ob q⟩,λ_ _ q=>q,λ_ _ _ q=>q,λ_ ps q=>⟨#[],by rw [q]; simp⟩⟩
theorem Un.refl:Un fs ex H H h h:=Un.kept λ_ _ q=>q
theorem Un.laid (k:∀ b u,h.get? b=some u->h'.get? b=some u) (hp:h.objs.size<=a) (hn:H a=none):Un fs ex H (upd H a o) h h' where
 keep:=λb u q _ _ _=>k b u q
 slot:=λb u q _ _ _=>⟨u.slots,k b u q⟩
 free:=λb u q n _=>by rw [aA (Yr (Yl (Yh q) hp))]; exact n
 there:=λb u q _=>⟨u,k b u q⟩
 tups:=λb xs q=>by rw [aA (aK q hn)]; exact q
 frzs:=λb u xs q=>by rw [aA (aK q hn)]; exact q
 tbls:=λb ps q=>⟨#[],by rw [aA (aK q hn),q]; simp⟩
theorem Un.write (mu:Mut (H x)) (he:e=x \/ H e=some (.own x)) (k:∀ b u,b ≠ e->h.get? b=some u->h'.get? b=some u) (heo:∃ u,h'.get? e=some u):Un fs ex H (upd H x o) h h':=by
 have hx:∀ b,H b=none->b ≠ x:=λb n z=>by subst z; rw [n] at mu; exact mu
 have hb:∀ b,H b=none->b ≠ e:=λb n z=>by
  subst z
  rcases he with r | r
  ·exact hx b n r
  ·rw [n] at r; cases r
 have hm:∀ b u,H b=some u->¬ Mut (some u)->b ≠ x:=λb u q nm z=>by subst z; rw [q] at mu; exact nm mu
 refine ⟨λb u q n _ _=>k b u (hb b n) q,λb u q n _ _=>⟨u.slots,k b u (hb b n) q⟩,λb u q n _=>by rw [aA (hx b n)]; exact n,λb u q _=>?_,
  λb xs q=>by rw [aA (hm b _ q λz=>z)]; exact q,λb u xs q=>by rw [aA (hm b _ q λz=>z)]; exact q,λb ps q=>⟨#[],by rw [aA (hm b _ q λz=>z),q]; simp⟩⟩
 by_cases hbe:b=e
 ·subst hbe; exact heo
 ·exact ⟨u,k b u hbe q⟩
end
noncomputable def trk (h:Heap) (H:Hp):List Addr:=(List.range h.objs.size).filter λa=>(H a).isSome
noncomputable def lY (h:Heap) (H:Hp):Heap:=PySem.W.hideAll h (trk h H)
theorem qp (h:Heap) (H:Hp):(lY h H).objs.size=h.objs.size:=PySem.W.hideAll_size _ _
theorem rL (e:h.get? b=some o) (n:H b=none):(lY h H).get? b=some o:=
 PySem.W.hideAll_get _ e λhm=>by
  have q:(H b).isSome=true:=(Zz.mp hm).2
  rw [n] at q; simp at q
theorem yj (e:(lY h H).get? b=some o):h.get? b=some o/\H b=none:=by
 have e':h.get? b=some o:=PySem.W.of_hideAll (trk h H) e
 refine ⟨e',?_⟩
 cases q:H b with
 | none=>rfl
 | some x=>
  have hm:b ∈ trk h H:=Zz.mpr ⟨List.mem_range.mpr (Yh e'),by simp [q]⟩
  have z:(lY h H).get? b=none:=PySem.W.hideAll_none (trk h H) hm
  rw [z] at e; cases e
structure Mod (K:PySem.W.Frag) (mg:Str->Option Value) (base:Heap):Prop where
 kin:K.In base
 glob:base.Ns mainGlobals mg
 blt:∃ mb,base.Ns builtinsNs mb/\∀ x:Str,x ≠ "__name__"->mb x=bootBuiltins x
 nolimit:base.NoLimit
structure Cx where
 prog:Program
 w:World
 K:PySem.W.Frag
 mg:Str->Option Value
 base:Heap
 A:Around
 N:List Str
 s₀:Shared
 H₀:Hp
 env:Env
 outer:List Env
 stack:List Env
 ex:List Addr
 fn:Str->Bool
 calm:Bool
 pn:List (Addr × Obj)
 xe:Value->Shared->Prop
variable {X:Cx}
noncomputable def frs (l:List Env):List Addr:=l.filterMap (·.frame)
noncomputable abbrev Cx.fs (X:Cx):List Addr:=frs X.outer
def Vis (sc:Scope) (x:Str):Prop:=sc.names.lookup x=some .local \/ sc.names.lookup x=some .cell \/ sc.names.lookup x=some .free
def Loc (sc:Scope) (x:Str):Prop:=sc.names.lookup x=some .local \/ sc.names.lookup x=some .cell
def Look (env:Env) (h:Heap) (m:Str->Option Value) (x:Str) (u:Value):Prop:=
 (env.kindOf x=some .local/\m x=some u) \/ ((env.kindOf x=some .cell \/ env.kindOf x=some .free)/\∃ c,env.cells.lookup x=some c/\h.IsCell c (some u))
structure Cx.Ok (X:Cx):Prop where
 mod:Mod X.K X.mg X.base
 kind:X.env.scope.kind=.function
 glob:X.env.globals=mainGlobals
 blt:X.env.builtins=builtinsNs
 above:X.s₀.heap.objs.size<=X.env.locals
 inj:∀ x y c,X.env.cells.lookup x=some c->X.env.cells.lookup y=some c->x=y
 has:∀ x,(X.env.kindOf x=some .cell \/ X.env.kindOf x=some .free)->∃ c,X.env.cells.lookup x=some c
 cab:∀ x c,X.fn x=true->X.env.cells.lookup x=some c->X.s₀.heap.objs.size<=c
 hd:X.calm=true->X.A.handled=none
 frames:X.A.frames=some X.stack
 stk:X.stack=X.outer \/ (X.stack=X.env :: X.outer/\X.env.frame=some X.env.locals)
 exf:∀ b ∈ X.ex,b ≠ X.env.locals/\∀ x c,X.env.cells.lookup x=some c->c ≠ b
 bs:∀ b o,X.base.get? b=some o->X.s₀.heap.get? b=some o/\X.H₀ b=none
 bsz:X.base.objs.size<=X.s₀.heap.objs.size
 noex:∀ b o,X.base.get? b=some o->b ∉ X.ex
 exfs:∀ b ∈ X.ex,b ∉ X.fs
 funs:X.s₀.heap.FunFrames X.base X.outer
 frf:∀ b ∈ X.fs,X.H₀ b=none
structure Inv (X:Cx) (pins:List (Addr × Obj)) (σ:List (Option V)) (H:Hp) (s:Shared):Prop where
 ok:X.Ok
 os:s.os=X.s₀.os
 bare:AllBare s.gens
 base:Un X.fs X.ex X.H₀ H X.s₀.heap s.heap
 loc:∃ m,s.heap.Ns X.env.locals m/\∀ (i:Nat) (x:Str) (v:V),X.N[i]?=some x->σ[i]?=some (some v)->Vis X.env.scope x->∃ u,RelV v u/\Look X.env s.heap m x u
 cell:∀ x c,X.env.cells.lookup x=some c->∃ v,s.heap.IsCell c v
 free:H X.env.locals=none
 freeC:∀ x c,X.env.cells.lookup x=some c->H c=none
 pin:∀ p ∈ X.pn ++ pins,s.heap.get? p.1=some p.2/\H p.1=none/\p.1 ≠ X.env.locals/\p.1 ∉ X.fs/\∀ v,p.2.data ≠ .cell v
 hok:HOk X.prog X.w H s.heap
 len:σ.length=X.N.length
section
variable {X:Cx} {pins:List (Addr × Obj)} {σ:List (Option V)} {H H':Hp} {s:Shared} {h':Heap}
theorem Cx.Ok.nofr (ok:X.Ok) (e:X.base.get? b=some o):b ∉ X.fs:=λhb=>by
 have:=(ok.funs.mem hb).1
 rw [e] at this; cases this
theorem Inv.bs (I:Inv X pins σ H s):∀ b o,X.base.get? b=some o->s.heap.get? b=some o/\H b=none:=λb o e=>
 ⟨I.base.keep b o (I.ok.bs b o e).1 (I.ok.bs b o e).2 (I.ok.nofr e) (I.ok.noex b o e),I.base.free b o (I.ok.bs b o e).1 (I.ok.bs b o e).2 (I.ok.noex b o e)⟩
theorem Inv.bk (I:Inv X pins σ H s):∀ b o,X.base.get? b=some o->s.heap.get? b=some o:=λb o e=>(I.bs b o e).1
theorem Inv.mod (I:Inv X pins σ H s):Mod X.K X.mg X.base:=I.ok.mod
theorem Inv.kIn (I:Inv X pins σ H s):X.K.In s.heap:=I.ok.mod.kin.keeps I.bk
theorem Inv.lt (I:Inv X pins σ H s):X.env.locals < s.heap.objs.size:=let ⟨_,hn,_⟩:=I.loc; hn.lt
theorem Inv.sz (I:Inv X pins σ H s):X.s₀.heap.objs.size<=s.heap.objs.size:=Z9 I.ok.above (Va I.lt)
theorem Inv.nofs (I:Inv X pins σ H s) (h:s.heap.objs.size<=a):a ∉ X.fs:=λhb=>by
 obtain ⟨_,o,ho,_⟩:=I.ok.funs.mem hb
 exact absurd (Yl (Yh ho) (Z9 I.sz h)) (Qg _)
theorem Inv.cne (I:Inv X pins σ H s):∀ x c,X.env.cells.lookup x=some c->c ≠ X.env.locals:=λx c e z=>by
 obtain ⟨v,o,ho,hd⟩:=I.cell x c e
 obtain ⟨m,⟨o',es,ep,ho',hd',_⟩,_⟩:=I.loc
 rw [z,ho'] at ho; cases ho; rw [hd'] at hd; cases hd
theorem Inv.funs (I:Inv X pins σ H s):s.heap.FunFrames X.base X.outer:=by
 have all:∀ (l:List Env),(∀ b ∈ frs l,b ∈ X.fs)->X.s₀.heap.FunFrames X.base l->s.heap.FunFrames X.base l:=by
  intro l
  induction l with
  | nil=>intro _ _; trivial
  | cons env r ih=>
   intro hs hl
   obtain ⟨hk,⟨L,o,hf,hn,ho,hd⟩,hr⟩:=hl
   have hL:L ∈ X.fs:=hs L (by unfold frs; rw [Wm,hf]; exact Yz)
   obtain ⟨sl,e⟩:=I.base.slot L o ho (I.ok.frf L hL) hL λz=>I.ok.exfs L z hL
   exact ⟨hk,⟨L,_,hf,hn,e,hd⟩,ih (λb hb=>hs b (by unfold frs; rw [Wm,hf]; exact Ys _ hb)) hr⟩
 exact all X.outer (λ_ hb=>hb) I.ok.funs
theorem Inv.stack (I:Inv X pins σ H s):s.heap.FunFrames X.base X.stack:=by
 rcases I.ok.stk with e | ⟨e,hf⟩
 ·rw [e]; exact I.funs
 ·rw [e]
  obtain ⟨m,hn,_⟩:=I.loc
  refine .cons (by rw [I.ok.kind]; decide) hf hn ?_ I.funs
  exact Heap.get?_none_of_le (Z9 I.ok.bsz I.ok.above)
theorem Inv.stkSub (I:Inv X pins σ H s):∀ b ∈ frs X.stack,b ∈ X.env.locals :: X.fs:=λb hb=>by
 rcases I.ok.stk with e | ⟨e,hf⟩
 ·rw [e] at hb; exact Ys _ hb
 ·rw [e] at hb
  unfold frs at hb
  rw [Wm,hf] at hb
  exact hb
theorem Inv.stkFree (I:Inv X pins σ H s):∀ b ∈ frs X.stack,H b=none:=λb hb=>by
 rcases Yn.mp (I.stkSub b hb) with e | hb
 ·rw [e]; exact I.free
 ·obtain ⟨_,o,ho,_⟩:=I.ok.funs.mem hb
  exact I.base.free b o ho (I.ok.frf b hb) λz=>I.ok.exfs b z hb
theorem Inv.step {g':Array GenState} {t':Nat} {d':Drawn} {ch:List Addr} (I:Inv X pins σ H s)
  (hch:∀ b ∈ ch,(b ∈ X.ex \/ X.s₀.heap.objs.size<=b)/\b ≠ X.env.locals/\(∀ x c,X.env.cells.lookup x=some c->c ≠ b)/\∀ p ∈ X.pn ++ pins,p.1 ≠ b)
  (keep:∀ b o,b ≠ X.env.locals->b ∉ X.fs->b ∉ ch->s.heap.get? b=some o->H b=none->h'.get? b=some o)
  (slot:∀ b o,b ≠ X.env.locals->b ∈ X.fs->b ∉ ch->s.heap.get? b=some o->H b=none->∃ sl,h'.get? b=some { o with slots:=sl }) (free:∀ b o,b ∉ ch->s.heap.get? b=some o->H b=none->H' b=none)
  (there:∀ b o,b ∉ ch->s.heap.get? b=some o->∃ o',h'.get? b=some o')
  (tups:∀ b xs,H b=some (.tup xs)->H' b=some (.tup xs)) (frzs:∀ b o u,H b=some (.frz o u)->H' b=some (.frz o u)) (tbls:∀ b ps,H b=some (.tbl ps)->∃ more,H' b=some (.tbl (ps ++ more)))
  (ns:∀ m,s.heap.Ns X.env.locals m->h'.Ns X.env.locals m) (hok:HOk X.prog X.w H' h') (hg:AllBare g'):
  Inv X pins σ H' { s with heap:=h',gens:=g',drawn:=d',toks:=t' }:=by
 have neL:∀ b o,X.s₀.heap.get? b=some o->b ≠ X.env.locals:=λb o e=>Yr (Yl (Yh e) I.ok.above)
 have neC:∀ b o,X.s₀.heap.get? b=some o->b ∉ X.ex->b ∉ ch:=λb o e hx hb=>by
  rcases (hch b hb).1 with z | z
  ·exact hx z
  ·exact absurd (Yl (Yh e) z) (Qg _)
 have cellK:∀ x c,X.env.cells.lookup x=some c->∀ v,s.heap.IsCell c v->h'.IsCell c v:=λx c e v ⟨o,ho,hd⟩=>by
  have nch:c ∉ ch:=λz=>(hch c z).2.2.1 x c e rfl
  by_cases hc:c ∈ X.fs
  ·obtain ⟨sl,q⟩:=slot c o (I.cne x c e) hc nch ho (I.freeC x c e)
   exact ⟨_,q,hd⟩
  ·exact ⟨o,keep c o (I.cne x c e) hc nch ho (I.freeC x c e),hd⟩
 refine ⟨I.ok,I.os,hg,⟨λb o e n hb hx=>?_,λb o e n hb hx=>?_,λb o e n hx=>?_,λb o e hx=>?_,λb xs e=>tups b xs (I.base.tups b xs e),λb o xs e=>frzs b o xs (I.base.frzs b o xs e),λb ps e=>?_⟩,?_,λx c e=>?_,?_,λx c e=>?_,λp hp=>?_,hok,I.len⟩
 ·exact keep b o (neL b o e) hb (neC b o e hx) (I.base.keep b o e n hb hx) (I.base.free b o e n hx)
 ·obtain ⟨sl,e1⟩:=I.base.slot b o e n hb hx
  obtain ⟨sl',e2⟩:=slot b _ (neL b o e) hb (neC b o e hx) e1 (I.base.free b o e n hx)
  exact ⟨sl',e2⟩
 ·obtain ⟨o',e1⟩:=I.base.there b o e hx
  exact free b o' (neC b o e hx) e1 (I.base.free b o e n hx)
 ·obtain ⟨o',e1⟩:=I.base.there b o e hx
  exact there b o' (neC b o e hx) e1
 ·obtain ⟨m1,e1⟩:=I.base.tbls b ps e
  obtain ⟨m2,e2⟩:=tbls b _ e1
  exact ⟨m1 ++ m2,by rw [e2,Array.append_assoc]⟩
 ·obtain ⟨m,hn,hl⟩:=I.loc
  refine ⟨m,ns m hn,λi x v e1 e2 e3=>?_⟩
  obtain ⟨u,r,l⟩:=hl i x v e1 e2 e3
  refine ⟨u,r,?_⟩
  rcases l with l | ⟨k,c,e,z⟩
  ·exact .inl l
  ·exact .inr ⟨k,c,e,cellK x c e _ z⟩
 ·obtain ⟨v,z⟩:=I.cell x c e
  exact ⟨v,cellK x c e v z⟩
 ·obtain ⟨m,⟨o,_,_,ho,_⟩,_⟩:=I.loc
  exact free _ o (λz=>(hch _ z).2.1 rfl) ho I.free
 ·obtain ⟨v,o,ho,hd⟩:=I.cell x c e
  exact free c o (λz=>(hch c z).2.2.1 x c e rfl) ho (I.freeC x c e)
 ·obtain ⟨e,n,ne,nf,d⟩:=I.pin p hp
  have nch:p.1 ∉ ch:=λz=>(hch p.1 z).2.2.2 p hp rfl
  exact ⟨keep p.1 p.2 ne nf nch e n,free p.1 p.2 nch e n,ne,nf,d⟩
theorem Inv.un {t':Nat} (I:Inv X pins σ H s) (u:Un X.fs [] H H' s.heap h') (hok:HOk X.prog X.w H' h'):Inv X pins σ H' { s with heap:=h',toks:=t' }:=by
 obtain ⟨m,⟨o,es,ep,ho,r⟩,_⟩:=id I.loc
 obtain ⟨sl,hL⟩:=u.any ho I.free (by simp)
 exact I.step (g':=s.gens) (d':=s.drawn) (ch:=[]) (λ_ z=>nomatch z) (λb o _ hb _ e n=>u.keep b o e n hb (by simp)) (λb o _ hb _ e n=>u.slot b o e n hb (by simp)) (λb o _ e n=>u.free b o e n (by simp)) (λb o _ e=>u.there b o e (by simp)) u.tups u.frzs u.tbls (λm' hm=>by
  obtain ⟨o',es',ep',ho',r'⟩:=hm
  rw [ho] at ho'; cases ho'
  exact ⟨_,es',ep',hL,r'⟩) hok I.bare
theorem Inv.call {g':Array GenState} {t':Nat} {d':Drawn} {ch:List Addr} (I:Inv X pins σ H s) (u:Un (frs X.stack) ch H H' s.heap h') (hok:HOk X.prog X.w H' h') (hg:AllBare g')
  (hch:∀ b ∈ ch,(b ∈ X.ex \/ X.s₀.heap.objs.size<=b)/\b ≠ X.env.locals/\(∀ x c,X.env.cells.lookup x=some c->c ≠ b)/\∀ p ∈ X.pn ++ pins,p.1 ≠ b):
  Inv X pins σ H' { s with heap:=h',gens:=g',drawn:=d',toks:=t' }:=by
 obtain ⟨m,⟨o,es,ep,ho,r⟩,_⟩:=id I.loc
 obtain ⟨sl,hL⟩:=u.any ho I.free λz=>(hch _ z).2.1 rfl
 exact I.step (ch:=ch) hch (λb o hL hb hc e n=>u.keep b o e n (λz=>(Yn.mp (I.stkSub b z)).elim hL hb) hc) (λb o _ _ hc e n=>u.any e n hc) (λb o hc e n=>u.free b o e n hc) (λb o hc e=>u.there b o e hc) u.tups u.frzs u.tbls (λm' hm=>by
  obtain ⟨o',es',ep',ho',r'⟩:=hm
  rw [ho] at ho'; cases ho'
  exact ⟨_,es',ep',hL,r'⟩) hok hg
theorem Inv.turned {t':Nat} {it:Addr} (I:Inv X pins σ H s) (k:∀ b o,b ≠ it->s.heap.get? b=some o->h'.get? b=some o) (hn:H it=none) (hL:it ≠ X.env.locals)
  (h1:it ∈ X.ex \/ X.s₀.heap.objs.size<=it) (h2:∀ x c,X.env.cells.lookup x=some c->c ≠ it) (h3:∀ p ∈ X.pn ++ pins,p.1 ≠ it):Inv X pins σ H { s with heap:=h',toks:=t' }:=by
 have nit:∀ b u,H b=some u->b ≠ it:=λb u e z=>by rw [z,hn] at e; cases e
 refine I.step (g':=s.gens) (d':=s.drawn) (ch:=[it]) (λb hb=>?_) (λb o _ _ hc e _=>k b o (λz=>hc (by simp [z])) e) (λb o _ _ hc e _=>⟨o.slots,k b o (λz=>hc (by simp [z])) e⟩) (λ_ _ _ _ n=>n)
  (λb o hc e=>⟨o,k b o (λz=>hc (by simp [z])) e⟩) (λ_ _ e=>e) (λ_ _ _ e=>e) (λb ps e=>⟨#[],by rw [e]; simp⟩) (λm hm=>?_) (λb u e=>?_) I.bare
 ·have e:b=it:=by simpa using hb
  subst e
  exact ⟨h1,hL,h2,h3⟩
 ·obtain ⟨o,es,ep,ho,r⟩:=hm
  exact ⟨o,es,ep,k _ o (Ne.symm hL) ho,r⟩
 ·refine (I.hok b u e).stay (λc v hc q=>k c v ?_ q) (λ_ q=>q) λ_ _ q=>q
  rcases hc with z | z
  ·rw [z]; exact nit b u e
  ·exact nit c _ z
theorem Inv.tok (I:Inv X pins σ H s) (t:Nat):Inv X pins σ H { s with toks:=t }:=I.un (h':=s.heap) (t':=t) Un.refl I.hok
theorem Inv.kept {t':Nat} (I:Inv X pins σ H s) (k:∀ b u,s.heap.get? b=some u->h'.get? b=some u):Inv X pins σ H { s with heap:=h',toks:=t' }:=I.un (Un.kept k) (I.hok.kept k)
theorem Inv.laid {o:HO} {t':Nat} (I:Inv X pins σ H s) (k:∀ b u,s.heap.get? b=some u->h'.get? b=some u) (hp:s.heap.objs.size<=a) (new:bY X.prog X.w (upd H a o) h' a o):
  Inv X pins σ (upd H a o) { s with heap:=h',toks:=t' }:=I.un (Un.laid k hp (I.hok.fresh hp)) (I.hok.laid k hp new)
theorem Inv.write {x e:Addr} {o:HO} {t':Nat} (I:Inv X pins σ H s) (mu:Mut (H x)) (he:e=x \/ H e=some (.own x)) (k:∀ b u,b ≠ e->s.heap.get? b=some u->h'.get? b=some u) (heo:∃ u,h'.get? e=some u)
  (new:bY X.prog X.w (upd H x o) h' x o):Inv X pins σ (upd H x o) { s with heap:=h',toks:=t' }:=I.un (Un.write mu he k heo) (I.hok.write mu he k heo new)
theorem Inv.pins_of {pins':List (Addr × Obj)} (I:Inv X pins σ H s) (h:∀ p ∈ pins',s.heap.get? p.1=some p.2/\H p.1=none/\p.1 ≠ X.env.locals/\p.1 ∉ X.fs/\∀ v,p.2.data ≠ .cell v):Inv X pins' σ H s:=
 ⟨I.ok,I.os,I.bare,I.base,I.loc,I.cell,I.free,I.freeC,λp hp=>(Z0.mp hp).elim (λz=>I.pin p (Q0 _ z)) (h p),I.hok,I.len⟩
theorem nk {N:List Str} (hN:N.Nodup) (a:N[i]?=some x) (b:N[j]?=some x):i=j:=by
 obtain ⟨h1,e1⟩:=Yq.mp a
 obtain ⟨h2,e2⟩:=Yq.mp b
 exact (List.getElem_inj hN).mp (e1.trans e2.symm)
theorem lx {M:Model} {A:Around} {E:Value->Shared->Prop} {v:V} {Q:Unit->Shared->Prop} (I:Inv X pins σ H s) (hN:X.N.Nodup) (hi:X.N[i]?=some x) (hx:Loc X.env.scope x) (r:RelV v u)
  (h:∀ s',Inv X pins (σ.set i (some v)) H s'->(∃ a,Heap.SameBut a s.heap s'.heap/\(a=X.env.locals \/ X.env.cells.lookup x=some a))->Q () s') (hf:X.fn x=true \/ X.env.scope.names.lookup x=some .local):wpAny M A (storeName X.env x u) Q E s:=by
 obtain ⟨m,hn,hl⟩:=id I.loc
 have hcls:(X.env.scope.kind == .class || (X.env.scope.kind == .module && X.env.locals != X.env.globals))=false:=by rw [I.ok.kind]; rfl
 have hiσ:i < σ.length:=by rw [I.len]; exact (Yq.mp hi).1
 have cne:=I.cne
 have tracked:∀ {a:Addr} {h':Heap},(∃ o,s.heap.get? a=some o/\H a=none)->Heap.SameBut a s.heap h'->HOk X.prog X.w H h':=λ{a h'} ha hs b ob e=>by
  obtain ⟨_,_,hfree⟩:=ha
  refine (I.hok b ob e).stay (λc w' hc q=>(hs.2 c ?_).trans q) (λ_ q=>q) λ_ _ q=>q
  rintro rfl
  rcases hc with rfl | hc
  ·rw [hfree] at e; cases e
  ·rw [hfree] at hc; cases hc
 rcases hx with hk | hk
 ·refine wpAny_storeName_local hk hn (λh' hn' hs=>?_) hcls
  obtain ⟨oL,_,_,hoL,_⟩:=id hn
  refine h _ ⟨I.ok,I.os,I.bare,⟨λb o e n hb hx=>?_,λb o e n hb hx=>?_,I.base.free,λb o e hx=>?_,I.base.tups,I.base.frzs,I.base.tbls⟩,⟨_,hn',λj y v' e1 e2 e3=>?_⟩,λy c e=>?_,I.free,I.freeC,λp hp=>?_,tracked ⟨oL,hoL,I.free⟩ hs,by simpa using I.len⟩ ⟨_,hs,.inl rfl⟩
  ·exact (hs.2 b (Yr (Yl (Yh e) I.ok.above))).trans (I.base.keep b o e n hb hx)
  ·obtain ⟨sl,e1⟩:=I.base.slot b o e n hb hx
   exact ⟨sl,(hs.2 b (Yr (Yl (Yh e) I.ok.above))).trans e1⟩
  ·obtain ⟨o',e1⟩:=I.base.there b o e hx
   exact ⟨o',(hs.2 b (Yr (Yl (Yh e) I.ok.above))).trans e1⟩
  ·by_cases hj:j=i
   ·subst hj
    rw [hi] at e1; cases e1
    rw [Z4 hiσ] at e2
    cases e2
    exact ⟨u,r,.inl ⟨hk,by simp⟩⟩
   ·rw [Yy (Ne.symm hj)] at e2
    obtain ⟨u',r',q⟩:=hl j y v' e1 e2 e3
    refine ⟨u',r',?_⟩
    rcases q with ⟨k,e⟩ | ⟨k,c,e,z⟩
    ·refine .inl ⟨k,?_⟩
     have:y ≠ x:=λe=>hj (nk hN e1 (e ▸ hi))
     simp [this,e]
    ·exact .inr ⟨k,c,e,z.sameBut hs (cne y c e)⟩
  ·obtain ⟨w',z⟩:=I.cell y c e
   exact ⟨w',z.sameBut hs (cne y c e)⟩
  ·obtain ⟨e,n,ne,nf,d⟩:=I.pin p hp
   exact ⟨(hs.2 p.1 ne).trans e,n,ne,nf,d⟩
 ·have hfn:X.fn x=true:=by
   rcases hf with z | z
   ·exact z
   ·rw [z] at hk; cases hk
  obtain ⟨c,hc⟩:=I.ok.has x (.inl hk)
  obtain ⟨w',z⟩:=I.cell x c hc
  refine wpAny_storeName_cell I.ok.kind hk hc z (λh' hc' hs=>?_)
  obtain ⟨oc,hoc,hocd⟩:=id z
  refine h { s with heap:=h' } ⟨I.ok,I.os,I.bare,⟨λb o e n hb hx=>?_,λb o e n hb hx=>?_,I.base.free,λb o e hx=>?_,I.base.tups,I.base.frzs,I.base.tbls⟩,⟨m,hn.sameBut hs (Ne.symm (cne x c hc)),λj y v' e1 e2 e3=>?_⟩,λy c' e=>?_,I.free,I.freeC,λp hp=>?_,tracked ⟨oc,hoc,I.freeC x c hc⟩ hs,by simpa using I.len⟩ ⟨c,hs,.inr hc⟩
  ·exact (hs.2 b (Yr (Yl (Yh e) (I.ok.cab x c hfn hc)))).trans (I.base.keep b o e n hb hx)
  ·obtain ⟨sl,e1⟩:=I.base.slot b o e n hb hx
   exact ⟨sl,(hs.2 b (Yr (Yl (Yh e) (I.ok.cab x c hfn hc)))).trans e1⟩
  ·obtain ⟨o',e1⟩:=I.base.there b o e hx
   exact ⟨o',(hs.2 b (Yr (Yl (Yh e) (I.ok.cab x c hfn hc)))).trans e1⟩
  ·by_cases hj:j=i
   ·subst hj
    rw [hi] at e1; cases e1
    rw [Z4 hiσ] at e2
    cases e2
    exact ⟨u,r,.inr ⟨.inl hk,c,hc,hc'⟩⟩
   ·rw [Yy (Ne.symm hj)] at e2
    obtain ⟨u',r',q⟩:=hl j y v' e1 e2 e3
    refine ⟨u',r',?_⟩
    rcases q with q | ⟨k,c',e,z'⟩
    ·exact .inl q
    ·refine .inr ⟨k,c',e,z'.sameBut hs ?_⟩
     rintro rfl
     exact hj (nk hN e1 (I.ok.inj _ _ _ e hc ▸ hi))
  ·by_cases hcc:c'=c
   ·subst hcc; exact ⟨_,hc'⟩
   ·obtain ⟨w2,z2⟩:=I.cell y c' e
    exact ⟨w2,z2.sameBut hs hcc⟩
  ·obtain ⟨e,n,ne,nf,d⟩:=I.pin p hp
   refine ⟨(hs.2 p.1 ?_).trans e,n,ne,nf,d⟩
   intro q
   rw [q,hoc] at e
   have q':oc=p.2:=Z6 e
   exact d w' (by rw [<- q']; exact hocd)
theorem j0 {M:Model} {A:Around} {E:Value->Shared->Prop} {v:V} {Q:Unit->Shared->Prop} (I:Inv X pins σ H s) (hN:X.N.Nodup) (hi:X.N[i]?=some x) (hx:Loc X.env.scope x) (r:RelV v u)
  (h:∀ s',Inv X pins (σ.set i (some v)) H s'->Q () s') (hf:X.fn x=true \/ X.env.scope.names.lookup x=some .local):wpAny M A (storeName X.env x u) Q E s:=
 lx I hN hi hx r (λs' I' _=>h s' I') hf
theorem Inv.call' {s':Shared} {ch:List Addr} (I:Inv X pins σ H s) (ho:s'.os=s.os) (u:Un (frs X.stack) ch H H' s.heap s'.heap) (hok:HOk X.prog X.w H' s'.heap) (hg:AllBare s'.gens)
  (hch:∀ b ∈ ch,(b ∈ X.ex \/ X.s₀.heap.objs.size<=b)/\b ≠ X.env.locals/\(∀ x c,X.env.cells.lookup x=some c->c ≠ b)/\∀ p ∈ X.pn ++ pins,p.1 ≠ b):Inv X pins σ H' s':=by
 obtain ⟨h',g',d',t',o'⟩:=s'
 have e:o'=s.os:=ho
 subst e
 exact I.call (g':=g') (t':=t') (d':=d') u hok hg hch
end
noncomputable abbrev XK:=Value->Option Addr->Hp->Prop
noncomputable abbrev St:=List (Option V)
variable {σ:St}
noncomputable abbrev VK:=V->Hp->Prop
noncomputable abbrev TE:=St->Hp->VK->Prop
variable {t:TE}
noncomputable abbrev TT:=St->Hp->(Bool->Hp->Prop)->Prop
noncomputable abbrev TA:=St->Hp->(List V->Hp->Prop)->Prop
set_option genInjectivity false in
structure Ends where
 nx:St->Hp->Prop
 rt:VK
 bk:St->Hp->Prop:=λ_ _=>False
 ct:St->Hp->Prop:=λ_ _=>False
noncomputable abbrev TS:=Ends->St->Hp->Prop
def EP (X:Cx) (pins:List (Addr × Obj)) (σ:St) (Q:VK) (u:Value) (s':Shared):Prop:=∃ v H',Inv X pins σ H' s'/\RelV v u/\Q v H'
def TP (X:Cx) (pins:List (Addr × Obj)) (σ:St) (Q:Bool->Hp->Prop) (b:Bool) (s':Shared):Prop:=∃ H',Inv X pins σ H' s'/\Q b H'
def AP (X:Cx) (pins:List (Addr × Obj)) (σ:St) (Q:List V->Hp->Prop) (us:List Value) (s':Shared):Prop:=∃ vs H',Inv X pins σ H' s'/\Vals vs us/\Q vs H'
def SP (X:Cx) (pins:List (Addr × Obj)) (D:Ends) (f:Flow) (s':Shared):Prop:=
 match f with
 | .next=>∃ σ' H',Inv X pins σ' H' s'/\D.nx σ' H'
 | .brk=>∃ σ' H',Inv X pins σ' H' s'/\D.bk σ' H'
 | .cont=>∃ σ' H',Inv X pins σ' H' s'/\D.ct σ' H'
 | .ret u=>∃ v σ' H',Inv X pins σ' H' s'/\RelV v u/\D.rt v H'
def PE (X:Cx) (e:Expr) (t:TE):Prop:=
 ∀ (pins:List (Addr × Obj)) (s:Shared) (σ:St) (H:Hp) (Q:VK),Inv X pins σ H s->t σ H Q->wpAny (model X.prog X.w) X.A (eval e X.env) (EP X pins σ Q) X.xe s
def PT (X:Cx) (e:Expr) (t:TT):Prop:=
 ∀ (pins:List (Addr × Obj)) (s:Shared) (σ:St) (H:Hp) (Q:Bool->Hp->Prop),Inv X pins σ H s->t σ H Q->wpAny (model X.prog X.w) X.A (isTrue e X.env (eval e X.env)) (TP X pins σ Q) X.xe s
def PW (X:Cx) (e:Expr) (t:TT):Prop:=
 ∀ (whole:Sem Value) (pins:List (Addr × Obj)) (s:Shared) (σ:St) (H:Hp) (Q:Bool->Hp->Prop),Inv X pins σ H s->t σ H Q->wpAny (model X.prog X.w) X.A (isTrue e X.env whole) (TP X pins σ Q) X.xe s
theorem PW.pt {t:TT} (h:PW X e t):PT X e t:=h _
def PA (X:Cx) (es:List Expr) (t:TA):Prop:=
 ∀ (pos:Pos) (pins:List (Addr × Obj)) (s:Shared) (σ:St) (H:Hp) (Q:List V->Hp->Prop),Inv X pins σ H s->t σ H Q->wpAny (model X.prog X.w) X.A (spliced (backTo pos (starEach es X.env))) (AP X pins σ Q) X.xe s
def PS (X:Cx) (st:Stmt) (t:TS):Prop:=
 ∀ (pins:List (Addr × Obj)) (s:Shared) (σ:St) (H:Hp) (D:Ends),Inv X pins σ H s->t D σ H->wpAny (model X.prog X.w) X.A (exec st X.env) (SP X pins D) X.xe s
def PSs (X:Cx) (st:List Stmt) (t:TS):Prop:=
 ∀ (pins:List (Addr × Obj)) (s:Shared) (σ:St) (H:Hp) (D:Ends),Inv X pins σ H s->t D σ H->wpAny (model X.prog X.w) X.A (execs st X.env) (SP X pins D) X.xe s
theorem thn {α:Type} {t:Sem α} {Q Q':α->Shared->Prop} {M:Model} {E:Value->Shared->Prop} (h:wpAny M A t Q E s) (hQ:∀ a s,Q a s->Q' a s):wpAny M A t Q' E s:=Za h hQ λ_ _ x=>x
section
variable {X:Cx}
noncomputable def G0 (i:Nat):TE:=λσ H Q=>∃ v,σ[i]?=some (some v)/\Q v H
noncomputable def tC (v:V):TE:=λ_ H Q=>Q v H
theorem Dc (hN:X.N[i]?=some x) (hv:Vis X.env.scope x) (hd:autoParam ((x == ("__debug__":Str))=false) Au.h2._auto_1) (hcd:autoParam ((x == ("__classdict__":Str))=false) Au.h2._auto_1):PE X (.Name x pos) (G0 i):=by
 intro pins s σ H Q I h
 obtain ⟨v,e,h⟩:=h
 obtain ⟨m,hn,hl⟩:=I.loc
 obtain ⟨u,r,l⟩:=hl i x v hN e hv
 have fin:EP X pins σ Q u s:=⟨v,H,I,r,h⟩
 rcases l with ⟨hk,hm⟩ | ⟨hk,c,hc,hcell⟩
 ·exact wpAny_Name (wpAny_loadName_local I.ok.kind hk hn hm fin) hd
 ·rcases hk with hk | hk
  ·exact wpAny_Name (wpAny_loadName_cell I.ok.kind hk hc hcell fin) hd
  ·exact wpAny_Name (wpAny_loadName_free I.ok.kind hk hc hcell fin hcd) hd
theorem Dd {i j pos}:PE X (.Constant (.int i) j pos) (tC (.int i)):=λ_ _ _ H _ I h=>wpAny_Constant_int ⟨.int i,H,I.tok _,⟨_,rfl⟩,h⟩
theorem G1 {b j pos}:PE X (.Constant (.bool b) j pos) (tC (.bl b)):=λ_ _ _ H _ I h=>Constant_bool ⟨.bl b,H,I,rfl,h⟩
theorem De {j pos}:PE X (.Constant .none j pos) (tC .non):=λ_ _ _ H _ I h=>Constant_none ⟨.non,H,I,rfl,h⟩
theorem Df {x j pos}:PE X (.Constant (.str x) j pos) (tC (.str x)):=λ_ _ _ H _ I h=>Calls.Constant_str ⟨.str x,H,I.tok _,⟨_,rfl⟩,h⟩
def Gl (X:Cx) (x:Str):Prop:=X.env.kindOf x=some .globalImplicit
theorem gE {E:Value->Shared->Prop} {pos:Pos} {Q:Value->Shared->Prop} (I:Inv X pins σ H s) (hg:Gl X x) (hm:X.mg x=some u) (h:Q u s)
  (hd:autoParam ((x == ("__debug__":Str))=false) Au.h2._auto_1):wpAny (model X.prog X.w) X.A (eval (.Name x pos) X.env) Q E s:=
 Calls.Name_function_global I.ok.kind hg (Calls.loadGlobal_global (by rw [I.ok.glob]; exact I.mod.glob.keeps I.bk) hm h) hd
theorem lZ {E:Value->Shared->Prop} {pos:Pos} {Q:Value->Shared->Prop} (I:Inv X pins σ H s) (hg:Gl X x) (hm:X.mg x=none) (hv:bootBuiltins x=some u) (h:Q u s)
  (hn:autoParam (x ≠ "__name__") Au.h2._auto_1) (hd:autoParam ((x == ("__debug__":Str))=false) Au.h2._auto_1):wpAny (model X.prog X.w) X.A (eval (.Name x pos) X.env) Q E s:=by
 obtain ⟨mb,h1,h2⟩:=I.mod.blt
 exact Calls.Name_function_global I.ok.kind hg (Calls.loadGlobal_builtin (by rw [I.ok.glob]; exact I.mod.glob.keeps I.bk) hm (by rw [I.ok.blt]; exact h1.keeps I.bk) ((h2 x hn).trans hv) h) hd
theorem gF {v:V} (hg:Gl X x) (hm:X.mg x=some u) (r:RelV v u) (hd:autoParam ((x == ("__debug__":Str))=false) Au.h2._auto_1):PE X (.Name x pos) (tC v):=
 λ_ _ _ H _ I h=>gE I hg hm ⟨v,H,I,r,h⟩ hd
theorem yk {v:V} (hg:Gl X x) (hm:X.mg x=none) (hv:bootBuiltins x=some u) (r:RelV v u) (hn:autoParam (x ≠ "__name__") Au.h2._auto_1) (hd:autoParam ((x == ("__debug__":Str))=false) Au.h2._auto_1):PE X (.Name x pos) (tC v):=
 λ_ _ _ H _ I h=>lZ I hg hm hv ⟨v,H,I,r,h⟩ hn hd
variable {a b:Expr} {ta tb:TE} {pos:Pos}
noncomputable def tB (t:TE):TT:=λσ H Q=>t σ H λx H1=>∃ c,x=.bl c/\Q c H1
theorem Dg (h:PE X e t) (he:autoParam (∀ whole,isTrue e X.env whole=(do let v <- whole; standAt e.pos; holding [v] (truthy v))) Au.h5._auto_1):PT X e (tB t):=by
 intro pins s σ H Q I hw
 refine isTrue_plain (thn (h pins s σ H _ I hw) λv s1 zq=>?_) (he _)
 obtain ⟨x,H1,I1,r1,q1⟩:=zq
 obtain ⟨d,rfl,q⟩:=q1
 cases r1
 exact Zh ⟨H1,I1,q⟩
variable {tA tB':TT} {rest:List Expr}
noncomputable def nq (t u:TT):TT:=λσ H Q=>t σ H λc H1=>if c=true then u σ H1 Q else Q false H1
noncomputable def tOr (t u:TT):TT:=λσ H Q=>t σ H λc H1=>if c=true then Q true H1 else u σ H1 Q
noncomputable def eZ (t:TT):TT:=λσ H Q=>t σ H λc H1=>Q (!c) H1
theorem yl (ha:PT X a tA):PW X (.BoolOp .And [a] pos) tA:=by
 intro wh pins s σ H Q I h
 refine isTrue_and (thn (ha pins s σ H Q I h) λc s1 e=>?_)
 cases c with
 | true=>exact isTrue_and_nil e
 | false=>exact e
theorem Dh (ha:PT X a tA):PW X (.BoolOp .Or [a] pos) tA:=by
 intro wh pins s σ H Q I h
 refine isTrue_or (thn (ha pins s σ H Q I h) λc s1 e=>?_)
 cases c with
 | false=>exact isTrue_or_nil e
 | true=>exact e
theorem Di (ha:PT X a tA) (hb:PW X (.BoolOp .And (b :: rest) pos) tB'):PW X (.BoolOp .And (a :: b :: rest) pos) (nq tA tB'):=by
 intro wh pins s σ H Q I h
 refine isTrue_and (thn (ha pins s σ H _ I h) λc s1 zq=>?_)
 obtain ⟨H1,I1,q1⟩:=zq
 cases c with
 | true=>exact hb wh pins s1 σ H1 Q I1 q1
 | false=>exact ⟨H1,I1,q1⟩
theorem G2 (ha:PT X a tA) (hb:PW X (.BoolOp .Or (b :: rest) pos) tB'):PW X (.BoolOp .Or (a :: b :: rest) pos) (tOr tA tB'):=by
 intro wh pins s σ H Q I h
 refine isTrue_or (thn (ha pins s σ H _ I h) λc s1 zq=>?_)
 obtain ⟨H1,I1,q1⟩:=zq
 cases c with
 | true=>exact ⟨H1,I1,q1⟩
 | false=>exact hb wh pins s1 σ H1 Q I1 q1
theorem Dj (ha:PT X a tA):PT X (.UnaryOp .Not a pos) (eZ tA):=by
 intro pins s σ H Q I h
 exact isTrue_not (ha pins s σ H (λc H1=>Q (!c) H1) I h)
noncomputable def G3 (ta tb:TE):TE:=λσ H Q=>ta σ H λx H1=>∃ c,x=.bl c/\if c=true then tb σ H1 Q else Q (.bl false) H1
noncomputable def JX (ta tb:TE):TE:=λσ H Q=>ta σ H λx H1=>∃ c,x=.bl c/\if c=true then Q (.bl true) H1 else tb σ H1 Q
noncomputable def G4 (ta:TE):TE:=λσ H Q=>ta σ H λx H1=>∃ c,x=.bl c/\Q (.bl (!c)) H1
theorem rM {op} (h:PE X a t):PE X (.BoolOp op [a] pos) t:=λpins s σ H Q I hw=>BoolOp_one (h pins s σ H Q I hw)
theorem Dk (ha:PE X a ta) (hb:PE X (.BoolOp .And (b :: rest) pos) tb):PE X (.BoolOp .And (a :: b :: rest) pos) (G3 ta tb):=by
 intro pins s σ H Q I h
 refine BoolOp_and (thn (ha pins s σ H _ I h) λv s1 zq=>?_)
 obtain ⟨x,H1,I1,r1,q1⟩:=zq
 obtain ⟨c,rfl,q1⟩:=q1
 cases r1
 refine Zh ?_
 cases c with
 | true=>exact hb pins s1 σ H1 Q I1 q1
 | false=>exact ⟨.bl false,H1,I1,rfl,q1⟩
theorem G5 (ha:PE X a ta) (hb:PE X (.BoolOp .Or (b :: rest) pos) tb):PE X (.BoolOp .Or (a :: b :: rest) pos) (JX ta tb):=by
 intro pins s σ H Q I h
 refine BoolOp_or (thn (ha pins s σ H _ I h) λv s1 zq=>?_)
 obtain ⟨x,H1,I1,r1,q1⟩:=zq
 obtain ⟨c,rfl,q1⟩:=q1
 cases r1
 refine Zh ?_
 cases c with
 | false=>exact hb pins s1 σ H1 Q I1 q1
 | true=>exact ⟨.bl true,H1,I1,rfl,q1⟩
theorem Dl (ha:PE X a ta):PE X (.UnaryOp .Not a pos) (G4 ta):=by
 intro pins s σ H Q I h
 refine UnaryOp_ (thn (ha pins s σ H _ I h) λv s1 zq=>?_)
 obtain ⟨x,H1,I1,r1,q1⟩:=zq
 obtain ⟨c,rfl,q1⟩:=q1
 cases r1
 exact not_of (Zh ⟨.bl (!c),H1,I1,rfl,q1⟩)
noncomputable def tIf (t:TT) (ta tb:TE):TE:=λσ H Q=>t σ H λc H1=>if c=true then ta σ H1 Q else tb σ H1 Q
theorem rN {c:Expr} (hc:PT X c tA) (ha:PE X a ta) (hb:PE X b tb):PE X (.IfExp c a b pos) (tIf tA ta tb):=by
 intro pins s σ H Q I h
 refine wpAny_IfExp (thn (hc pins s σ H _ I h) λd s1 zq=>?_)
 obtain ⟨H1,I1,q1⟩:=zq
 cases d with
 | true=>exact ha pins s1 σ H1 Q I1 q1
 | false=>exact hb pins s1 σ H1 Q I1 q1
end
def SqL (K:PySem.W.Frag) (H:Hp) (a:Addr) (xs:List V):Prop:=
 Rd H a (.lst xs) \/
  ∃ (o:Obj) (its:Array Value) (n:Nat),K.lookup a=some o/\o.cls=.type "list"/\o.dict=none/\o.data=.seq its n/\its.size<=sizeLine/\Vals xs its.toList
def SqT (K:PySem.W.Frag) (H:Hp) (a:Addr) (xs:List V):Prop:=
 Rd H a (.tup xs) \/
  ∃ (o:Obj) (its:Array Value) (n:Nat),K.lookup a=some o/\o.cls=.type "tuple"/\o.data=.seq its n/\its.size<=sizeLine/\Vals xs its.toList
noncomputable def JY:Value->Option V
 | .none=>some .non
 | .bool b=>some (.bl b)
 | .int i _=>some (.int i)
 | .str x _=>some (.str x)
 | .bytes b _=>some (.byt b)
 | .float b _=>some (.flt b)
 | .ref a=>some (.ref a)
 | .type n=>some (.ty n)
 | _=>none
theorem RelV.abs {x:V} (r:RelV x u):JY u=some x:=by
 cases x with
 | non=>cases r; rfl
 | bl _=>cases r; rfl
 | int _=>obtain ⟨t,rfl⟩:=r; rfl
 | str _=>obtain ⟨t,rfl⟩:=r; rfl
 | byt _=>obtain ⟨t,rfl⟩:=r; rfl
 | flt _=>obtain ⟨t,rfl⟩:=r; rfl
 | ref _=>cases r; rfl
 | ty _=>cases r; rfl
theorem RelV.inj {x y:V} (r:RelV x u) (q:RelV y u):x=y:=Z6 (r.abs.symm.trans q.abs)
theorem Vals.inj:∀ {xs ys:List V} {us:List Value},Vals xs us->Vals ys us->xs=ys
 | _,_,_,.nil,.nil=>rfl
 | _,_,_,.cons r t,.cons r' t'=>by rw [r.inj r',Vals.inj t t']
section
variable {X:Cx} {pins:List (Addr × Obj)} {σ:St} {H:Hp} {s:Shared} {a:Addr} {xs ys:List V}
theorem SqL.of {K:PySem.W.Frag} (h:H a=some (.lst xs)):SqL K H a xs:=.inl (.inl h)
theorem SqT.of {K:PySem.W.Frag} (h:H a=some (.tup xs)):SqT K H a xs:=.inl (.inl h)
theorem Inv.list (I:Inv X pins σ H s) (h:SqL X.K H a xs):∃ its:List Value,Vals xs its/\PlainL s.heap a its.toArray/\xs.length<=sizeLine:=by
 rcases h with h | ⟨o,its,n,hk,hc,hd,hs,hz,r⟩
 ·obtain ⟨z,its,n,r,e⟩:=h.ok I.hok
  exact ⟨its,r,⟨_,n,e,rfl,rfl,rfl⟩,z⟩
 ·refine ⟨its.toList,r,⟨o,n,I.kIn a o hk,hc,hd,by simpa using hs⟩,?_⟩
  have e:=r.length
  simp only [Wn] at e
  omega
theorem Inv.tuple (I:Inv X pins σ H s) (h:SqT X.K H a xs):∃ its:List Value,Vals xs its/\IsTup s.heap a its.toArray/\xs.length<=sizeLine:=by
 rcases h with h | ⟨o,its,n,hk,hc,hs,hz,r⟩
 ·obtain ⟨z,its,r,p⟩:=h.ok I.hok
  exact ⟨its,r,p,z⟩
 ·refine ⟨its.toList,r,⟨o,I.kIn a o hk,hc,n,by simpa using hs⟩,?_⟩
  have e:=r.length
  simp only [Wn] at e
  omega
theorem Inv.list_inj (I:Inv X pins σ H s) (h:SqL X.K H a xs) (h':SqL X.K H a ys):xs=ys:=by
 obtain ⟨its,r,⟨o,n,e,_,_,d⟩,_⟩:=I.list h
 obtain ⟨its',r',⟨o',n',e',_,_,d'⟩,_⟩:=I.list h'
 rw [e] at e'; cases e'
 rw [d] at d'
 injection d' with d1 _
 have:its=its':=by simpa using Zs Array.toList d1
 subst this
 exact r.inj r'
theorem Inv.tuple_inj (I:Inv X pins σ H s) (h:SqT X.K H a xs) (h':SqT X.K H a ys):xs=ys:=by
 obtain ⟨its,r,⟨o,e,_,n,d⟩,_⟩:=I.tuple h
 obtain ⟨its',r',⟨o',e',_,n',d'⟩,_⟩:=I.tuple h'
 rw [e] at e'; cases e'
 rw [d] at d'
 injection d' with d1 _
 have:its=its':=by simpa using Zs Array.toList d1
 subst this
 exact r.inj r'
end
noncomputable abbrev Cx.wish (X:Cx) (E:Value->Shared->Prop):Cx:={ X with xe:=E }
noncomputable abbrev Cx.nox (X:Cx):Cx:=X.wish λ_ _=>False
theorem Cx.Ok.wish (ok:X.Ok) (E:Value->Shared->Prop):(X.wish E).Ok:=
 ⟨ok.mod,ok.kind,ok.glob,ok.blt,ok.above,ok.inj,ok.has,ok.cab,ok.hd,ok.frames,ok.stk,ok.exf,ok.bs,ok.bsz,ok.noex,ok.exfs,ok.funs,ok.frf⟩
theorem Cx.Ok.unwish {E:Value->Shared->Prop} (ok:(X.wish E).Ok):X.Ok:=
 ⟨ok.mod,ok.kind,ok.glob,ok.blt,ok.above,ok.inj,ok.has,ok.cab,ok.hd,ok.frames,ok.stk,ok.exf,ok.bs,ok.bsz,ok.noex,ok.exfs,ok.funs,ok.frf⟩
section
variable {X:Cx} {pins:List (Addr × Obj)} {σ:St} {H:Hp} {s:Shared} {E:Value->Shared->Prop}
theorem Inv.wish (I:Inv X pins σ H s) (E:Value->Shared->Prop):Inv (X.wish E) pins σ H s:=⟨I.ok.wish E,I.os,I.bare,I.base,I.loc,I.cell,I.free,I.freeC,I.pin,I.hok,I.len⟩
theorem Inv.unwish (I:Inv (X.wish E) pins σ H s):Inv X pins σ H s:=⟨I.ok.unwish,I.os,I.bare,I.base,I.loc,I.cell,I.free,I.freeC,I.pin,I.hok,I.len⟩
theorem SP.unwish {D:Ends} {f:Flow} {s':Shared} (h:SP (X.wish E) pins D f s'):SP X pins D f s':=by
 cases f with
 | next=>obtain ⟨σ',H',I,q⟩:=h; exact ⟨σ',H',I.unwish,q⟩
 | brk=>obtain ⟨σ',H',I,q⟩:=h; exact ⟨σ',H',I.unwish,q⟩
 | cont=>obtain ⟨σ',H',I,q⟩:=h; exact ⟨σ',H',I.unwish,q⟩
 | ret u=>obtain ⟨v,σ',H',I,r,q⟩:=h; exact ⟨v,σ',H',I.unwish,r,q⟩
theorem PE.nox (h:PE X.nox e t):PE X e t:=λpins s σ H Q I hw=>
 Za (h pins s σ H Q (I.wish _) hw) (λ_ _ ⟨v,H',I',r,q⟩=>⟨v,H',I'.unwish,r,q⟩) λ_ _ z=>False.elim z
theorem PT.nox {t:TT} (h:PT X.nox e t):PT X e t:=λpins s σ H Q I hw=>
 Za (h pins s σ H Q (I.wish _) hw) (λ_ _ ⟨H',I',q⟩=>⟨H',I'.unwish,q⟩) λ_ _ z=>False.elim z
theorem PSs.nox {st:List Stmt} {t:TS} (h:PSs X.nox st t):PSs X st t:=λpins s σ H D I hw=>
 Za (h pins s σ H D (I.wish _) hw) (λ_ _ q=>q.unwish) λ_ _ z=>False.elim z
end
section
variable {X:Cx} {st:Stmt} {rest:List Stmt} {t u:TS} {e:Expr} {te:TE} {pos:Pos}
noncomputable def G6:TS:=λD σ H=>D.nx σ H
noncomputable def JZ (t u:TS):TS:=λD σ H=>t { D with nx:=u D } σ H
theorem pw:PSs X [] G6:=λ_ _ σ H _ I h=>wpAny_execs_nil ⟨σ,H,I,h⟩
theorem rO (h1:PS X st t) (h2:PSs X rest u):PSs X (st :: rest) (JZ t u):=by
 intro pins s σ H D I h
 refine wpAny_execs_cons (thn (h1 pins s σ H { D with nx:=u D } I h) λf s1 q=>?_)
 cases f with
 | next=>
  obtain ⟨σ',H',I',q⟩:=q
  exact h2 pins s1 σ' H' D I' q
 | ret v=>exact q
 | brk=>exact q
 | cont=>exact q
theorem ym (h1:PS X st t):PSs X [st] t:=by
 intro pins s σ H D I h
 refine wpAny_execs_cons (thn (h1 pins s σ H D I h) λf s1 q=>?_)
 cases f with
 | next=>exact wpAny_execs_nil q
 | ret v=>exact q
 | brk=>exact q
 | cont=>exact q
theorem Inv.quiet (I:Inv X pins σ H s):interactive X.env=false:=by simp [interactive,I.ok.kind]
noncomputable def G7 (te:TE):TS:=λD σ H=>te σ H λ_ H1=>D.nx σ H1
theorem yn (he:PE X e te) (hs:autoParam (swapsWith e none pos.line X.env=pure false) Au.h1._auto_1):PS X (.Expr e pos) (G7 te):=by
 intro pins s σ H D I h
 exact wpAny_Expr_any (thn (he pins s σ H _ I h) λv s1 zq=>ex5 zq λx H1 I1 r1 q1=>⟨σ,H1,I1,q1⟩) I.quiet hs
noncomputable def J0 (te:TE):TS:=λD σ H=>te σ H D.rt
theorem Dm (he:PE X e te):PS X (.Return (some e) pos) (J0 te):=by
 intro pins s σ H D I h
 exact wpAny_Return_some (thn (he pins s σ H _ I h) λv s1 zq=>ex5 zq λx H1 I1 r1 q1=>⟨x,σ,H1,I1,r1,q1⟩)
noncomputable def J1 (c:TT) (t u:TS):TS:=λD σ H=>c σ H λb H1=>if b=true then t D σ H1 else u D σ H1
theorem G8 {c:Expr} {a b:List Stmt} {tc:TT} (hc:PT X c tc) (ha:PSs X a t) (hb:PSs X b u):PS X (.If c a b pos) (J1 tc t u):=by
 intro pins s σ H D I h
 refine wpAny_If (thn (hc pins s σ H _ I h) λd s1 zq=>?_)
 obtain ⟨H1,I1,q1⟩:=zq
 cases d with
 | true=>exact ha pins s1 σ H1 D I1 q1
 | false=>exact hb pins s1 σ H1 D I1 q1
noncomputable def Dn:TS:=λ_ _ _=>False
theorem rP:PS X st Dn:=λ_ _ _ _ _ _ h=>h.elim
end
noncomputable abbrev TG:=V->St->Hp->(St->Hp->Prop)->Prop
noncomputable abbrev TGs:=List V->St->Hp->(St->Hp->Prop)->Prop
def PG (X:Cx) (target:Expr) (t:TG):Prop:=
 ∀ (pins:List (Addr × Obj)) (s:Shared) (σ:St) (H:Hp) (v:V) (u:Value) (Q:St->Hp->Prop),Inv X pins σ H s->RelV v u->t v σ H Q->
  wpAny (model X.prog X.w) X.A (assign target X.env u) (λ_ s'=>∃ σ' H',Inv X pins σ' H' s'/\Q σ' H') X.xe s
def PGs (X:Cx) (ts:List Expr) (t:TGs):Prop:=
 ∀ (pins:List (Addr × Obj)) (s:Shared) (σ:St) (H:Hp) (vs:List V) (us:List Value) (Q:St->Hp->Prop),Inv X pins σ H s->Vals vs us->t vs σ H Q->
  wpAny (model X.prog X.w) X.A (assignInOrder ((assignEach ts X.env).map (·.2)) us) (λ_ s'=>∃ σ' H',Inv X pins σ' H' s'/\Q σ' H') X.xe s
noncomputable abbrev yo:=V->V->V->Hp->(Hp->Prop)->Prop
def yp (X:Cx) (t:yo):Prop:=
 ∀ (pins:List (Addr × Obj)) (s:Shared) (σ:St) (H:Hp) (o i v:V) (ov iv u:Value) (Q:Hp->Prop),Inv X pins σ H s->RelV o ov->RelV i iv->RelV v u->t o i v H Q->
  wpAny (model X.prog X.w) X.A (setItem ov iv u) (λ_ s'=>∃ H',Inv X pins σ H' s'/\Q H') X.xe s
section
variable {X:Cx} {pos:Pos}
noncomputable def rQ (i:Nat):TG:=λv σ H Q=>Q (σ.set i (some v)) H
theorem yq (hN:X.N.Nodup) (hi:X.N[i]?=some x) (hx:Loc X.env.scope x) (hf:X.fn x=true \/ X.env.scope.names.lookup x=some .local):PG X (.Name x pos) (rQ i):=by
 intro pins s σ H v u Q I r h
 exact wpAny_assign_Name (j0 I hN hi hx r (λs' I'=>⟨_,H,I',h⟩) hf)
noncomputable def J2:TGs:=λvs σ H Q=>vs=[]/\Q σ H
noncomputable def G9 (t:TG) (u:TGs):TGs:=λvs σ H Q=>∃ v r,vs=v :: r/\t v σ H λσ' H'=>u r σ' H' Q
theorem yr:PGs X [] J2:=by
 intro pins s σ H vs us Q I r h
 obtain ⟨e,h⟩:=h
 subst e
 cases r
 exact assignInOrder_nil ⟨σ,H,I,h⟩
theorem rR {es:List Expr} {t:TG} {u:TGs} (h1:PG X e t) (h2:PGs X es u)
  (hs:autoParam ((assignEach (e :: es) X.env).map (·.2)=assign e X.env :: (assignEach es X.env).map (·.2)) Au.h1._auto_1):PGs X (e :: es) (G9 t u):=by
 intro pins s σ H vs us Q I r h
 obtain ⟨v,vr,e1,h⟩:=h
 subst e1
 cases r with
 | cons r rr=>
  rw [hs]
  refine assignInOrder_cons (thn (h1 pins s σ H _ _ _ I r h) λ_ s1 zq=>?_)
  obtain ⟨σ1,H1,I1,q1⟩:=zq
  exact h2 pins s1 σ1 H1 _ _ Q I1 rr q1
noncomputable def J3 (K:PySem.W.Frag) (n:Nat) (t:TGs):TG:=λv σ H Q=>∃ a xs,v=.ref a/\SqT K H a xs/\xs.length=n/\t xs σ H Q
theorem Dp {es:List Expr} {k:Nat} {t:TGs} {n:Nat} (hc:X.calm=true) (h:PGs X es t)
  (hn:autoParam ((assignEach es X.env).length=n) Au.h1._auto_1) (hst:autoParam ((assignEach es X.env).findIdx? (·.1)=none) Au.h1._auto_1):PG X (.Tuple es k pos) (J3 X.K n t):=by
 intro pins s σ H v u Q I r hw
 obtain ⟨a,xs,e1,hq,hl,hw⟩:=hw
 subst e1
 cases r
 obtain ⟨its,rv,ht,hz⟩:=I.tuple hq
 refine assign_Tuple_tuple (I.ok.hd hc) ht (by simp [hn,<- hl,rv.length]) hst λh' hx=>?_
 have I1:Inv X pins σ H { s with heap:=h' }:=I.kept (t':=s.toks) λb o e=>hx b o (Yr (Yh e)) e
 exact h pins _ σ H xs _ Q I1 (by simpa using rv) hw
noncomputable def J4 (to ti:TE) (t:yo):TG:=λv σ H Q=>to σ H λo H1=>ti σ H1 λi H2=>t o i v H2 λH3=>Q σ H3
theorem Dr {o i:Expr} {to ti:TE} {t:yo} (ho:PE X o to) (hi:PE X i ti) (hs:yp X t)
  (ha:autoParam (∀ v,assign (.Subscript o i pos) X.env v=(do
   let ov <- holding [v] (eval o X.env)
   let iv <- holding [v,ov] (eval i X.env)
   standAt pos
   holding [v,ov,iv] (setItem ov iv v)
   release [v,ov,iv] [])) Au.h5._auto_1):PG X (.Subscript o i pos) (J4 to ti t):=by
 intro pins s σ H v u Q I r h
 rw [ha]
 refine Y6 (Q4 (thn (ho pins s σ H _ I h) λov s1 zq=>?_))
 obtain ⟨x,H1,I1,r1,q1⟩:=zq
 refine Y6 (Q4 (thn (hi pins s1 σ H1 _ I1 q1) λiv s2 zq=>?_))
 obtain ⟨y,H2,I2,r2,q2⟩:=zq
 refine Y6 (wpAny_standAt (Y6 (Q4 (thn (hs pins s2 σ H2 x y v ov iv u _ I2 r1 r2 r q2) λ_ s3 zq=>?_))))
 obtain ⟨H3,I3,q3⟩:=zq
 exact wpAny_release ⟨σ,H3,I3,q3⟩
noncomputable def Ds (te:TE) (g:TG):TS:=λD σ H=>te σ H λx H1=>g x σ H1 D.nx
theorem rS {tg:Expr} {te:TE} {g:TG} (he:PE X e te) (hg:PG X tg g) (hs:autoParam (swapsWithSole [tg] e pos.line X.env=pure false) Au.h1._auto_1) (hw:autoParam (swappedStores [tg] e X.env=pure none) Au.h1._auto_1)
  (h1:autoParam ((assignEach [tg] X.env).map (·.2)=[assign tg X.env]) Au.h1._auto_1):PS X (.Assign [tg] e pos) (Ds te g):=by
 intro pins s σ H D I h
 refine wpAny_Assign_stores (thn (he pins s σ H _ I h) λv s1 zq=>?_) hs hw
 obtain ⟨x,H1,I1,r1,q1⟩:=zq
 rw [h1]
 exact thn (hg pins s1 σ H1 x v _ I1 r1 q1) λ_ s2 q=>q
theorem Dt {te:TE} {pos':Pos} (hN:X.N.Nodup) (hi:X.N[i]?=some x) (hx:Loc X.env.scope x) (he:PE X e te) (hs:autoParam (swapsWith e (some (.Name x pos')) pos.line X.env=pure false) Au.h1._auto_1) (hf:X.fn x=true \/ X.env.scope.names.lookup x=some .local):
  PS X (.Assign [.Name x pos'] e pos) (Ds te (rQ i)):=by
 intro pins s σ H D I h
 refine wpAny_Assign_Name (thn (he pins s σ H _ I h) λv s1 zq=>?_) hs
 obtain ⟨y,H1,I1,r1,q1⟩:=zq
 exact j0 I1 hN hi hx r1 (λs2 I2=>⟨_,H1,I2,q1⟩) hf
end
set_option genInjectivity false in
structure It where
 go:Nat->Hp->Prop
 yld:Nat->Hp->V->Hp->Prop
 stop:Nat->Hp->Prop
def FpOk (X:Cx) (pins:List (Addr × Obj)) (H:Hp) (b:Addr):Prop:=
 H b=none/\b ≠ X.env.locals/\b ∉ X.fs/\(b ∈ X.ex \/ X.s₀.heap.objs.size<=b)/\(∀ x c,X.env.cells.lookup x=some c->c ≠ b)/\∀ p ∈ X.pn ++ pins,p.1 ≠ b
theorem Inv.fpOk {H':Hp} (I:Inv X pins σ H s) (hb:s.heap.objs.size<=b) (hn:H' b=none):FpOk X pins H' b:=by
 refine ⟨hn,Nat.ne_of_gt (Yl I.lt hb),I.nofs hb,.inr (Z9 I.sz hb),λx c e z=>?_,λp hp z=>?_⟩
 ·obtain ⟨v,q⟩:=I.cell x c e
  exact absurd (Yl q.lt (by rw [z]; exact hb)) (Qg _)
 ·exact absurd (Yl (Yh (I.pin p hp).1) (by rw [z]; exact hb)) (Qg _)
def QtH (X:Cx):Prop:=X.A.handled=none \/ ∃ a o u,X.A.handled=some (.ref a)/\X.H₀ a=some (.frz o u)/\ZO o
def Cd (qb:Bool) (X:Cx):Prop:=X.calm=true \/ (qb=true/\QtH X)
theorem Cd.cm (h:Cd false X):X.calm=true:=h.elim id λz=>nomatch z.1
theorem Inv.qt {σ:List (Option V)} (I:Inv X pins σ H s) (h:Cd qb X):X.A.handled=none \/ ∃ a,X.A.handled=some (.ref a)/\s.heap.Zat a:=by
 rcases h with h | ⟨_,h | ⟨a,o,u,e,q,z⟩⟩
 ·exact .inl (I.ok.hd h)
 ·exact .inl h
 ·exact .inr ⟨a,e,o,(I.hok a _ (I.base.frzs a o u q)).1,z⟩
structure Turn (qb:Bool) (P:Program) (w:World) (K:PySem.W.Frag) (tg:Expr) (J:It) (fp:List Addr) (it:Addr) (tn:Nat->Heap->Prop):Prop where
 mem:it ∈ fp
 obj:∀ i h,tn i h->∀ b ∈ fp,∃ o,h.get? b=some o/\∀ v,o.data ≠ .cell v
 keep:∀ i h h',tn i h->(∀ b ∈ fp,∀ o,h.get? b=some o->h'.get? b=some o)->tn i h'
 item:∀ (X:Cx),X.prog=P->X.w=w->X.K=K->Cd qb X->∀ (i:Nat) (pins:List (Addr × Obj)) (s:Shared) (σ:St) (H:Hp) (E:Value->Shared->Prop),Inv X pins σ H s->(∀ b ∈ fp,FpOk X pins H b)->tn i s.heap->J.go i H->
  wpAny (model P w) X.A (pyNext (.ref it)) (λr s1=>∃ u,r=some u/\
   wpAny (model P w) X.A (letOwnedTupleGo tg (.ref it) u) (λ_ s2=>∃ x H',Inv X pins σ H' s2/\RelV x u/\J.yld i H x H'/\tn (i + 1) s2.heap/\∀ b ∈ fp,H' b=none) E s1) E s
 done:∀ (X:Cx),X.prog=P->X.w=w->X.K=K->Cd qb X->∀ (i:Nat) (pins:List (Addr × Obj)) (s:Shared) (σ:St) (H:Hp) (E:Value->Shared->Prop),Inv X pins σ H s->(∀ b ∈ fp,FpOk X pins H b)->tn i s.heap->J.stop i H->
  wpAny (model P w) X.A (pyNext (.ref it)) (λr s1=>r=none/\Inv X pins σ H s1) E s
 self:∀ (A:Around) (i:Nat) (s:Shared) (Q:Value->Shared->Prop) (E:Value->Shared->Prop),tn i s.heap->Q (.ref it) s->wpAny (model P w) A (pyIter (.ref it)) Q E s
noncomputable abbrev TI:=St->Hp->(It->Hp->Prop)->Prop
def Ha (qb:Bool) (X:Cx) (pins:List (Addr × Obj)) (σ:St) (tg:Expr) (R:It->Hp->Prop) (itv:Value) (s2:Shared):Prop:=
 ∃ (it:Addr) (fp:List Addr) (tn:Nat->Heap->Prop) (J:It) (H':Hp),itv=.ref it/\Inv X pins σ H' s2/\Turn qb X.prog X.w X.K tg J fp it tn/\tn 0 s2.heap/\(∀ b ∈ fp,FpOk X pins H' b)/\R J H'
def PIb (qb:Bool) (X:Cx) (tg iter:Expr) (wi:TI):Prop:=
 ∀ (pins:List (Addr × Obj)) (s:Shared) (σ:St) (H:Hp) (R:It->Hp->Prop),Inv X pins σ H s->wi σ H R->
  wpAny (model X.prog X.w) X.A (eval iter X.env) (λv s1=>wpAny (model X.prog X.w) X.A (pyIter v) (Ha qb X pins σ tg R) X.xe s1) X.xe s
noncomputable abbrev PI:=PIb false
theorem nt {M:Model} {A:Around} {E:Value->Shared->Prop} {tg:Expr} {it:Addr} {u:Value} {n:String} {vs:Array Value} {Q:Unit->Shared->Prop} (ho:s.heap.get? it=some o) (hc:o.cls=.type n) (hd:o.data=.fields vs)
    (hn:["enumerate","zip","dict_itemiterator","dict_reverseitemiterator","odict_iterator","itertools.zip_longest","itertools.pairwise"].contains n=false) (hQ:Q () s):wpAny M A (letOwnedTupleGo tg (.ref it) u) Q E s:=by
  unfold letOwnedTupleGo
  cases tg <;> first
    | exact Ye hQ
    | (cases u <;> first
        | exact Ye hQ
        | (refine Y6 (wpAny_load ho ?_)
           rw [hc,hd]
           show wpAny M A (if (["enumerate","zip","dict_itemiterator","dict_reverseitemiterator","odict_iterator","itertools.zip_longest","itertools.pairwise"].contains n && vs[0]? == some (rawInt _))=true then _ else _) Q E s
           rw [Yg (by intro h; rw [hn,W4] at h; cases h)]
           exact Ye hQ))
noncomputable def Itl (K:PySem.W.Frag) (a:Addr):It:=
 ⟨λi H=>∃ xs x,SqL K H a xs/\xs[i]?=some x,λi H x H'=>H'=H/\∀ xs,SqL K H a xs->xs[i]?=some x,λi H=>∃ xs,SqL K H a xs/\xs.length<=i⟩
noncomputable def Itt (K:PySem.W.Frag) (a:Addr):It:=
 ⟨λi H=>∃ xs x,SqT K H a xs/\xs[i]?=some x,λi H x H'=>H'=H/\∀ xs,SqT K H a xs->xs[i]?=some x,λi H=>∃ xs,SqT K H a xs/\xs.length<=i⟩
noncomputable def Itr (lo:Int) (n:Nat):It:=⟨λi _=>i < n,λi H x H'=>H'=H/\x=.int (lo + i),λi _=>n<=i⟩
theorem qq {K:PySem.W.Frag} {tg:Expr} (a it:Addr):Turn false P w K tg (Itl K a) [it] it (λi h=>h.IsListIter it a i) where
 mem:=by simp
 obj:=λi h st b hb=>by
  have e:b=it:=by simpa using hb
  subst e
  obtain ⟨o,e,c,d⟩:=st
  exact ⟨o,e,λv z=>by rw [d] at z; cases z⟩
 keep:=λi h h' st k=>st.at λo e=>k it (by simp) o e
 item:=by
  intro X hP hw hK hc i pins s σ H E I hf st hg
  subst hP hw hK
  obtain ⟨xs,x,hq,hx⟩:=hg
  obtain ⟨its,rv,p,hz⟩:=I.list hq
  obtain ⟨u,hu,ru⟩:=rv.get hx
  obtain ⟨f0,f1,f2,f3,f4,f5⟩:=hf it (by simp)
  refine wpAny_pyNext_list_item st p.isList (x:=u) (by simpa using hu) λh' st' sb=>?_
  have I1:Inv X pins σ H { s with heap:=h' }:=I.turned (t':=s.toks) (λb o hb e=>(sb.2 b hb).trans e) f0 f1 f3 f4 f5
  obtain ⟨o,e,c,d⟩:=id st'
  exact ⟨u,rfl,nt (s:={ s with heap:=h' }) e c d (by decide) ⟨x,H,I1,ru,⟨rfl,λys hy=>by rw [I.list_inj hy hq]; exact hx⟩,st',λb hb=>(hf b hb).1⟩⟩
 done:=by
  intro X hP hw hK hc i pins s σ H E I hf st hg
  subst hP hw hK
  obtain ⟨xs,hq,hx⟩:=hg
  obtain ⟨its,rv,p,hz⟩:=I.list hq
  obtain ⟨f0,f1,f2,f3,f4,f5⟩:=hf it (by simp)
  have hl:=rv.length
  exact wpAny_pyNext_list_end (I.ok.hd hc.cm) st p.isList (by simp; omega) λh' eb=>⟨rfl,I.turned (t':=s.toks) (λb o hb e=>eb b o hb e) f0 f1 f3 f4 f5⟩
 self:=λ_ _ _ _ _ st h=>wpAny_pyIter_listiter st h
theorem oH {K:PySem.W.Frag} {tg:Expr} (a it:Addr):Turn false P w K tg (Itt K a) [it] it (λi h=>h.IsTupleIter it a i) where
 mem:=by simp
 obj:=λi h st b hb=>by
  have e:b=it:=by simpa using hb
  subst e
  obtain ⟨o,e,c,d⟩:=st
  exact ⟨o,e,λv z=>by rw [d] at z; cases z⟩
 keep:=λi h h' st k=>st.at λo e=>k it (by simp) o e
 item:=by
  intro X hP hw hK hc i pins s σ H E I hf st hg
  subst hP hw hK
  obtain ⟨xs,x,hq,hx⟩:=hg
  obtain ⟨its,rv,p,hz⟩:=I.tuple hq
  obtain ⟨u,hu,ru⟩:=rv.get hx
  obtain ⟨f0,f1,f2,f3,f4,f5⟩:=hf it (by simp)
  refine wpAny_pyNext_tuple_item st (show s.heap.IsTuple a its.toArray from p) (x:=u) (by simpa using hu) λh' st' sb=>?_
  have I1:Inv X pins σ H { s with heap:=h' }:=I.turned (t':=s.toks) (λb o hb e=>(sb.2 b hb).trans e) f0 f1 f3 f4 f5
  obtain ⟨o,e,c,d⟩:=id st'
  exact ⟨u,rfl,nt (s:={ s with heap:=h' }) e c d (by decide) ⟨x,H,I1,ru,⟨rfl,λys hy=>by rw [I.tuple_inj hy hq]; exact hx⟩,st',λb hb=>(hf b hb).1⟩⟩
 done:=by
  intro X hP hw hK hc i pins s σ H E I hf st hg
  subst hP hw hK
  obtain ⟨xs,hq,hx⟩:=hg
  obtain ⟨its,rv,p,hz⟩:=I.tuple hq
  obtain ⟨f0,f1,f2,f3,f4,f5⟩:=hf it (by simp)
  have hl:=rv.length
  exact wpAny_pyNext_tuple_end (I.ok.hd hc.cm) st (show s.heap.IsTuple a its.toArray from p) (by simp; omega) λh' eb=>⟨rfl,I.turned (t':=s.toks) (λb o hb e=>eb b o hb e) f0 f1 f3 f4 f5⟩
 self:=λ_ _ _ _ _ st h=>wpAny_pyIter_tupleiter st h
theorem oI {K:PySem.W.Frag} {tg:Expr} (it:Addr) (lo:Int) (n:Nat):Turn qb P w K tg (Itr lo n) [it] it (λi h=>IsRangeIter h it (lo + (i:Nat) * 1) ((n:Int) - (i:Nat)) 1) where
 mem:=by simp
 obj:=λi h st b hb=>by
  have e:b=it:=by simpa using hb
  subst e
  exact ⟨_,st,λv z=>by
   have z':Data.fields _=Data.cell v:=z
   cases z'⟩
 keep:=λi h h' st k=>k it (by simp) _ st
 item:=by
  intro X hP hw hK hc i pins s σ H E I hf st hg
  subst hP hw hK
  obtain ⟨f0,f1,f2,f3,f4,f5⟩:=hf it (by simp)
  have hg':(i:Nat) < n:=hg
  refine wpAny_pyNext_range_item st (by omega) λh' st' kk=>?_
  have I1:Inv X pins σ H { s with heap:=h',toks:=s.toks + 1 }:=I.turned (λb o hb e=>(kk.2 b hb).trans e) f0 f1 f3 f4 f5
  have st2:IsRangeIter h' it (lo + ((i + 1:Nat):Int) * 1) ((n:Int) - ((i + 1:Nat):Int)) 1:=by
   have e1:lo + ((i + 1:Nat):Int) * 1=lo + (i:Nat) * 1 + 1:=by omega
   have e2:(n:Int) - ((i + 1:Nat):Int)=(n:Int) - (i:Nat) - 1:=by omega
   rw [e1,e2]; exact st'
  refine ⟨_,rfl,nt (s:={ s with heap:=h',toks:=s.toks + 1 }) (n:="range_iterator") st2 rfl rfl (by decide) ⟨.int (lo + i),H,I1,⟨s.toks,?_⟩,⟨rfl,rfl⟩,st2,λb hb=>(hf b hb).1⟩⟩
  rw [Int.mul_one]
 done:=by
  intro X hP hw hK hc i pins s σ H E I hf st hg
  subst hP hw hK
  obtain ⟨f0,f1,f2,f3,f4,f5⟩:=hf it (by simp)
  have hg':n<=i:=hg
  rcases I.qt hc with hh | ⟨ha,hh,z⟩
  ·exact wpAny_pyNext_range_end hh st (by omega) λh' eb=>⟨rfl,I.turned (t':=s.toks) (λb o hb e=>eb b o hb e) f0 f1 f3 f4 f5⟩
  ·exact ql hh z st (by omega) λh' eb=>⟨rfl,I.turned (t':=s.toks) (λb o hb e=>eb b o hb e) f0 f1 f3 f4 f5⟩
 self:=λ_ _ _ _ _ st h=>wpAny_pyIter_rangeiter st h
section
variable {X:Cx} {tg:Expr}
noncomputable def Hb (K:PySem.W.Frag) (tl:TE):TI:=λσ H R=>tl σ H λx H1=>∃ a,x=.ref a/\(∃ xs,SqL K H1 a xs)/\R (Itl K a) H1
noncomputable def J6 (K:PySem.W.Frag) (tl:TE):TI:=λσ H R=>tl σ H λx H1=>∃ a,x=.ref a/\(∃ xs,SqT K H1 a xs)/\R (Itt K a) H1
theorem yt {l:Expr} {tl:TE} (hl:PE X l tl):PI X tg l (Hb X.K tl):=by
 intro pins s σ H R I h
 refine thn (hl pins s σ H _ I h) λv s1 zq=>?_
 obtain ⟨x,H1,I1,r1,q1⟩:=zq
 obtain ⟨a,e,⟨xs,hq⟩,q⟩:=q1
 subst e
 cases r1
 obtain ⟨its,rv,p,hz⟩:=I1.list hq
 refine V4 p.isList ?_
 refine ⟨s1.heap.objs.size,[s1.heap.objs.size],_,_,H1,rfl,I1.kept (t':=s1.toks) λb o e=>Y8 _ e,qq a _,⟨_,Yp _ rfl,rfl,rfl⟩,λb hb=>?_,q⟩
 have e:b=s1.heap.objs.size:=by simpa using hb
 subst e
 exact I1.fpOk (Yd _) (I1.hok.fresh (Yd _))
theorem Du {l:Expr} {tl:TE} (hl:PE X l tl):PI X tg l (J6 X.K tl):=by
 intro pins s σ H R I h
 refine thn (hl pins s σ H _ I h) λv s1 zq=>?_
 obtain ⟨x,H1,I1,r1,q1⟩:=zq
 obtain ⟨a,e,⟨xs,hq⟩,q⟩:=q1
 subst e
 cases r1
 obtain ⟨its,rv,p,hz⟩:=I1.tuple hq
 refine wpAny_pyIter_tuple (show s1.heap.IsTuple a its.toArray from p) ?_
 refine ⟨s1.heap.objs.size,[s1.heap.objs.size],_,_,H1,rfl,I1.kept (t':=s1.toks) λb o e=>Y8 _ e,oH a _,⟨_,Yp _ rfl,rfl,rfl⟩,λb hb=>?_,q⟩
 have e:b=s1.heap.objs.size:=by simpa using hb
 subst e
 exact I1.fpOk (Yd _) (I1.hok.fresh (Yd _))
theorem rT {qb:Bool} {R:It->Hp->Prop} {E:Value->Shared->Prop} {lo hi:Int} {t u v:Tok} {tk:Nat} (I:Inv X pins σ H s) (h1:-(2 ^ 62)<=lo) (h2:lo < 2 ^ 62) (h3:-(2 ^ 62)<=hi) (h4:hi < 2 ^ 62)
  (q:R (Itr lo (hi - lo).toNat) H):wpAny (model X.prog X.w) X.A (pyIter (.ref s.heap.objs.size)) (Ha qb X pins σ tg R) E { s with heap:=s.heap.push { cls:=.type "range",data:=.fields #[.int lo t,.int hi u,.int 1 v] },toks:=tk }:=by
 refine wpAny_pyIter_range (IsRange.new ..) (small_one h1 h2 h3 h4) ?_
 have I1:Inv X pins σ H { s with heap:=s.heap.push { cls:=.type "range",data:=.fields #[.int lo t,.int hi u,.int 1 v] },toks:=tk }:=I.kept λb o e=>Y8 _ e
 refine ⟨(s.heap.push { cls:=.type "range",data:=.fields #[.int lo t,.int hi u,.int 1 v] }).objs.size,[(s.heap.push { cls:=.type "range",data:=.fields #[.int lo t,.int hi u,.int 1 v] }).objs.size],_,_,H,rfl,
  I1.kept (t':=tk) λb o e=>Y8 _ e,oI _ lo (hi - lo).toNat,?_,λb hb=>?_,q⟩
 ·have e1:lo + ((0:Nat):Int) * 1=lo:=by simp
  have e2:(((hi - lo).toNat:Nat):Int) - ((0:Nat):Int)=Builtin.Range.rangeSize lo hi 1:=by rw [rangeSize_one]; split <;> omega
  show IsRangeIter _ _ (lo + ((0:Nat):Int) * 1) ((((hi - lo).toNat:Nat):Int) - ((0:Nat):Int)) 1
  rw [e1,e2]
  exact Yp _ rfl
 ·have e:b=(s.heap.push { cls:=.type "range",data:=.fields #[.int lo t,.int hi u,.int 1 v] }).objs.size:=by simpa using hb
  subst e
  exact I1.fpOk (Yd _) (I1.hok.fresh (Yd _))
noncomputable def Hc (ta:TA):TI:=λσ H R=>ta σ H λvs H1=>∃ j:Int,vs=[.int j]/\-(2 ^ 62)<=j/\j < 2 ^ 62/\R (Itr 0 j.toNat) H1
theorem qr {a:Expr} {ta:TA} {p:Pos} (hg:Gl X "range") (hm:X.mg "range" = none) (ha:PA X [a] ta) (hs:autoParam (starEach [a] X.env=[(false,eval a X.env)]) Au.h1._auto_1):PIb qb X tg (.Call (.Name "range" p) [a] [] pos) (Hc ta):=by
 intro pins s σ H R I h
 refine Call_ (lZ I hg hm boot_range (Wt (thn (ha pos pins s σ H _ I h) λus s1 zq=>?_) hs rfl))
 obtain ⟨vs,H1,I1,r1,q1⟩:=zq
 obtain ⟨j,e,q1,q2,q⟩:=q1
 subst e
 cases r1 with
 | cons r rr=>
  cases rr
  obtain ⟨t,rfl⟩:=r
  exact call_range_1 (rT I1 (by omega) (by omega) q1 q2 (by simpa using q))
noncomputable def J9 (wi:TI) (g:TG) (tb:TS):TS:=λD σ H=>wi σ H λJ H1=>∃ W:Nat->Nat->St->Hp->Prop,(∃ m,W 0 m σ H1)/\∀ i m σ H,W i m σ H->
 (J.stop i H/\D.nx σ H) \/ (J.go i H/\∃ N:St->Hp->Prop,(∀ σ' H',N σ' H'->∃ m',m' < m/\W (i + 1) m' σ' H')/\∀ x H',J.yld i H x H'->g x σ H' λσ2 H2=>tb { D with nx:=N,ct:=N,bk:=D.nx } σ2 H2)
noncomputable def iR (fp:List Addr) (h:Heap):List (Addr × Obj):=fp.filterMap λb=>(h.get? b).map λo=>(b,o)
theorem dH (hb:b ∈ fp) (e:h.get? b=some o):(b,o) ∈ iR fp h:=Qh.mpr ⟨b,hb,by rw [e]; rfl⟩
theorem qu {p:Addr × Obj} (hp:p ∈ iR fp h):p.1 ∈ fp/\h.get? p.1=some p.2:=by
 obtain ⟨b,hb,e⟩:=Qh.mp hp
 cases q:h.get? b with
 | none=>rw [q] at e; cases e
 | some o=>
  rw [q] at e
  have e':(b,o)=p:=Z6 e
  subst e'
  exact ⟨hb,q⟩
theorem Inv.pinned (I:Inv X pins σ H s) (hf:∀ b ∈ fp,FpOk X pins H b) (ho:∀ b ∈ fp,∃ o,s.heap.get? b=some o/\∀ v,o.data ≠ .cell v):Inv X (pins ++ iR fp s.heap) σ H s:=
 I.pins_of λp hp=>(Z0.mp hp).elim (λz=>I.pin p (Yu _ z)) λz=>by
  obtain ⟨hb,e⟩:=qu z
  obtain ⟨f0,f1,f2,_⟩:=hf p.1 hb
  obtain ⟨o,e',d⟩:=ho p.1 hb
  rw [e] at e'; cases e'
  exact ⟨e,f0,f1,f2,d⟩
theorem Inv.unpinned {pl:List (Addr × Obj)} (I:Inv X (pins ++ pl) σ H s):Inv X pins σ H s:=I.pins_of λp hp=>I.pin p (Yu _ (Q0 _ hp))
theorem Dv {iter:Expr} {body:List Stmt} {wi:TI} {g:TG} {tb:TS} {pos:Pos} (hp:PassesOwn (model X.prog X.w) X.A X.env X.xe) (hc:X.calm=true) (hi:PI X tg iter wi) (hg:PG X tg g) (hb:PSs X body tb)
  (hs:autoParam (∀ x,foldedSetIterable iter X.env x=pure x) Au.h5._auto_1):PS X (.For tg iter body [] pos) (J9 wi g tb):=by
 intro pins s σ H D I h
 refine wpAny_For (thn (hi pins s σ H _ I h) λv s1 h1=>thn h1 λitv s2 h2=>?_) hs
 obtain ⟨it,fp,tn,J,H2,e,I2,T,st2,f2,W,⟨m0,w0⟩,turn⟩:=h2
 subst e
 -- what stays true of the iterator's objects through the loop
 have stat:∀ {H':Hp},(∀ b ∈ fp,H' b=none)->∀ b ∈ fp,FpOk X pins H' b:=λhn b hb=>⟨hn b hb,(f2 b hb).2⟩
 refine codeAny_forLoop_any (λn s'=>∃ i σ' H',Inv X pins σ' H' s'/\tn i s'.heap/\(∀ b ∈ fp,H' b=none)/\W i n σ' H') ?_ m0 ⟨0,σ,H2,I2,st2,λb hb=>(f2 b hb).1,w0⟩
 rintro n s3 ⟨i,σ3,H3,I3,st3,fr3,w3⟩
 rcases turn i n σ3 H3 w3 with ⟨stop,qn⟩ | ⟨go,N,hN,step⟩
 ·refine W0 hp (thn (T.done X rfl rfl rfl (.inl hc) i pins s3 σ3 H3 X.xe I3 (stat fr3) st3 stop) λr s4 zq=>?_)
  obtain ⟨hr,I4⟩:=zq
  subst hr
  exact wpAny_execs_nil ⟨σ3,H3,I4,qn⟩
 ·refine W0 hp (thn (T.item X rfl rfl rfl (.inl hc) i pins s3 σ3 H3 X.xe I3 (stat fr3) st3 go) λr s4 zq=>?_)
  obtain ⟨u,hr,h4⟩:=zq
  subst hr
  refine W0 hp (thn h4 λ_ s5 zq=>?_)
  obtain ⟨x,H5,I5,r5,y5,st5,fr5⟩:=zq
  have I5':=I5.pinned (stat fr5) (T.obj _ _ st5)
  refine W0 hp (thn (hg _ s5 σ3 H5 x u _ I5' r5 (step x H5 y5)) λ_ s6 zq=>?_)
  obtain ⟨σ6,H6,I6,q6⟩:=zq
  refine W0 hp (thn (hb _ s6 σ6 H6 _ I6 q6) λf s7 q7=>?_)
  have again:∀ {σ7:St} {H7:Hp},Inv X (pins ++ iR fp s5.heap) σ7 H7 s7->N σ7 H7->∃ m,m < n/\∃ i σ' H',Inv X pins σ' H' s7/\tn i s7.heap/\(∀ b ∈ fp,H' b=none)/\W i m σ' H':=λ{σ7 H7} I7 n7=>by
   obtain ⟨m',hm,w7⟩:=hN σ7 H7 n7
   refine ⟨m',hm,i + 1,σ7,H7,I7.unpinned,T.keep _ _ _ st5 λb hb o e=>(I7.pin (b,o) (Yu _ (Yu _ (dH hb e)))).1,λb hb=>?_,w7⟩
   obtain ⟨o,e,d⟩:=T.obj _ _ st5 b hb
   exact (I7.pin (b,o) (Yu _ (Yu _ (dH hb e)))).2.1
  cases f with
  | next=>obtain ⟨σ7,H7,I7,n7⟩:=q7; exact again I7 n7
  | cont=>obtain ⟨σ7,H7,I7,n7⟩:=q7; exact again I7 n7
  | brk=>obtain ⟨σ7,H7,I7,q7⟩:=q7; exact ⟨σ7,H7,I7.unpinned,q7⟩
  | ret v=>obtain ⟨x7,σ7,H7,I7,r7,q7⟩:=q7; exact ⟨x7,σ7,H7,I7.unpinned,r7,q7⟩
end
noncomputable abbrev R2:=V->V->Hp->VK->Prop
variable {r:R2}
def OpR (X:Cx) (f:Value->Value->Sem Value) (r:R2):Prop:=
 ∀ (pins:List (Addr × Obj)) (s:Shared) (σ:St) (H:Hp) (x y:V) (v u:Value) (Q:VK),Inv X pins σ H s->RelV x v->RelV y u->r x y H Q->
  wpAny (model X.prog X.w) X.A (f v u) (EP X pins σ Q) X.xe s
def UnR (X:Cx) (f:Value->Sem Value) (r:V->Hp->VK->Prop):Prop:=
 ∀ (pins:List (Addr × Obj)) (s:Shared) (σ:St) (H:Hp) (x:V) (v:Value) (Q:VK),Inv X pins σ H s->RelV x v->r x H Q->
  wpAny (model X.prog X.w) X.A (f v) (EP X pins σ Q) X.xe s
def cF (X:Cx) (f:Value) (r:List V->Hp->VK->Prop):Prop:=
 ∀ (pins:List (Addr × Obj)) (s:Shared) (σ:St) (H:Hp) (xs:List V) (us:List Value) (Q:VK),Inv X pins σ H s->Vals xs us->r xs H Q->
  wpAny (model X.prog X.w) X.A (call f us) (EP X pins σ Q) X.xe s
noncomputable def tOp (r:R2) (ta tb:TE):TE:=λσ H Q=>ta σ H λx H1=>tb σ H1 λy H2=>r x y H2 Q
noncomputable def tUn (r:V->Hp->VK->Prop) (ta:TE):TE:=λσ H Q=>ta σ H λx H1=>r x H1 Q
noncomputable def rI (C:Int->Int->Prop) (g:Int->Int->V):R2:=λx y H Q=>∃ i j,x=.int i/\y=.int j/\C i j/\Q (g i j) H
noncomputable def rI0 (g:Int->Int->V):R2:=λx y H Q=>∃ i j,x=.int i/\y=.int j/\Q (g i j) H
noncomputable def rU (g:Int->V):V->Hp->VK->Prop:=λx H Q=>∃ i,x=.int i/\Q (g i) H
section
variable {X:Cx} {a b c:Expr} {ta tb tc:TE} {pos:Pos}
theorem Dw (ha:PE X a ta) (hb:PE X b tb) {R:V->V->Hp->Prop} (I:Inv X pins σ H s)
  (h:ta σ H λx H1=>tb σ H1 λy H2=>R x y H2) {Q:Value->Shared->Prop} {f:Value->Value->Sem Value}
  (hf:∀ v u s2 x y H2,Inv X pins σ H2 s2->RelV x v->RelV y u->R x y H2->wpAny (model X.prog X.w) X.A (f v u) Q X.xe s2):
  wpAny (model X.prog X.w) X.A (eval a X.env) (λv s₁=>wpAny (model X.prog X.w) X.A (eval b X.env) (λu s₂=>wpAny (model X.prog X.w) X.A (f v u) Q X.xe s₂) X.xe s₁) X.xe s:=by
 refine thn (ha pins s σ H _ I h) λv s1 zq=>?_
 obtain ⟨x,H1,I1,r1,q1⟩:=zq
 refine thn (hb pins s1 σ H1 _ I1 q1) λu s2 zq=>?_
 obtain ⟨y,H2,I2,r2,q2⟩:=zq
 exact hf v u s2 x y H2 I2 r1 r2 q2
theorem Hd {op:Operator} (ho:OpR X (binaryOp op) r) (ha:PE X a ta) (hb:PE X b tb):PE X (.BinOp a op b pos) (tOp r ta tb):=by
 intro pins s σ H Q I h
 exact wpAny_BinOp (Dw ha hb I h λv u s2 x y H2 I2 rx ry q=>ho pins s2 σ H2 x y v u Q I2 rx ry q)
theorem He {op:UnaryOp} {r:V->Hp->VK->Prop} (ho:UnR X (unaryOp op) r) (ha:PE X a ta):PE X (.UnaryOp op a pos) (tUn r ta):=by
 intro pins s σ H Q I h
 exact UnaryOp_ (thn (ha pins s σ H _ I h) λv s1 zq=>ex5 zq λx H1 I1 r1 q1=>ho pins s1 σ H1 x v Q I1 r1 q1)
theorem opI {f:Value->Value->Sem Value} {C:Int->Int->Prop} {g:Int->Int->Int}
  (rule:∀ (i j:Int) (t u:Tok) (s:Shared) (Q:Value->Shared->Prop) (E:Value->Shared->Prop),C i j->Q (.int (g i j) s.toks) { s with toks:=s.toks + 1 }->wpAny (model X.prog X.w) X.A (f (.int i t) (.int j u)) Q E s):
  OpR X f (rI C λi j=>.int (g i j)):=by
 intro pins s σ H x y v u Q I rx ry h
 obtain ⟨i,j,rfl,rfl,hc,q⟩:=h
 obtain ⟨t,rfl⟩:=rx
 obtain ⟨t',rfl⟩:=ry
 exact rule i j t t' s _ _ hc ⟨.int (g i j),H,I.tok _,⟨_,rfl⟩,q⟩
theorem Ka {f:Value->Value->Sem Value} {g:Int->Int->Int}
  (rule:∀ (i j:Int) (t u:Tok) (s:Shared) (Q:Value->Shared->Prop) (E:Value->Shared->Prop),Q (.int (g i j) s.toks) { s with toks:=s.toks + 1 }->wpAny (model X.prog X.w) X.A (f (.int i t) (.int j u)) Q E s):
  OpR X f (rI0 λi j=>.int (g i j)):=by
 intro pins s σ H x y v u Q I rx ry h
 obtain ⟨i,j,rfl,rfl,q⟩:=h
 obtain ⟨t,rfl⟩:=rx
 obtain ⟨t',rfl⟩:=ry
 exact rule i j t t' s _ _ ⟨.int (g i j),H,I.tok _,⟨_,rfl⟩,q⟩
theorem yu {f:Value->Value->Sem Value} {g:Int->Int->Bool}
  (rule:∀ (i j:Int) (t u:Tok) (s:Shared) (Q:Value->Shared->Prop) (E:Value->Shared->Prop),Q (.bool (g i j)) s->wpAny (model X.prog X.w) X.A (f (.int i t) (.int j u)) Q E s):
  OpR X f (rI0 λi j=>.bl (g i j)):=by
 intro pins s σ H x y v u Q I rx ry h
 obtain ⟨i,j,rfl,rfl,q⟩:=h
 obtain ⟨t,rfl⟩:=rx
 obtain ⟨t',rfl⟩:=ry
 exact rule i j t t' s _ _ ⟨.bl (g i j),H,I,rfl,q⟩
def Hf (i j:Int):Prop:=0 < j/\j < 1073741824
def Kb (i j:Int):Prop:=0<=j/\j<=1000000/\i.natAbs < 2 ^ 64
def Dx (i j:Int):Prop:=(-(2 ^ 64) < i/\i < 2 ^ 64) \/ (-(2 ^ 64) < j/\j < 2 ^ 64)
theorem Dx.ok {i j:Int} (h:Dx i j):IntMulOk i j:=by
 rcases h with ⟨h1,h2⟩ | ⟨h1,h2⟩
 ·exact .of_left (intBits_le_64 h1 h2)
 ·exact .of_right (intBits_le_64 h1 h2)
theorem Dy:OpR X (binaryOp .Add) (rI0 λi j=>.int (i + j)):=Ka λ_ _ _ _ _ _ _ q=>add_int q
theorem Dz:OpR X (binaryOp .Mult) (rI Dx λi j=>.int (i * j)):=opI λ_ _ _ _ _ _ _ hc q=>mul_int q hc.ok
theorem yw:OpR X (binaryOp .FloorDiv) (rI Hf λi j=>.int (i / j)):=opI λi j _ _ _ _ _ hc q=>by
 have h1:(0:Int) < j:=hc.1
 have h2:j < 1073741824:=hc.2
 exact floordiv_int (by omega) (by rw [V0 i (by omega)]; exact q) (.inl (PyProof.noPylong_small (by omega)))
theorem DA:OpR X (binaryOp .Mod) (rI (λ_ j=>0 < j) λi j=>.int (i % j)):=opI λi j _ _ _ _ _ hc q=>by
 have h1:(0:Int) < j:=hc
 exact mod_int' (by omega) (by rw [V1 i (by omega)]; exact q)
theorem DB:OpR X (binaryOp .Pow) (rI Kb λi j=>.int (i ^ j.toNat)):=opI λ_ _ _ _ _ _ _ hc q=>pow_int_small hc.1 hc.2.1 hc.2.2 q
theorem unI {f:Value->Sem Value} {g:Int->Int}
  (rule:∀ (i:Int) (t:Tok) (s:Shared) (Q:Value->Shared->Prop) (E:Value->Shared->Prop),Q (.int (g i) s.toks) { s with toks:=s.toks + 1 }->wpAny (model X.prog X.w) X.A (f (.int i t)) Q E s):
  UnR X f (rU λi=>.int (g i)):=by
 intro pins s σ H x v Q I rx h
 obtain ⟨i,rfl,q⟩:=h
 obtain ⟨t,rfl⟩:=rx
 exact rule i t s _ _ ⟨.int (g i),H,I.tok _,⟨_,rfl⟩,q⟩
theorem DC:UnR X (unaryOp .USub) (rU λi=>.int (-i)):=unI λ_ _ _ _ _ q=>neg_int q
end
noncomputable def DD:V->V->Bool
 | .non,.non=>true | .non,.int _=>true | .int _,.non=>true | .non,.bl _=>true | .bl _,.non=>true | .non,.str _=>true | .str _,.non=>true
 | .int _,.int _=>true | .bl _,.bl _=>true | .str _,.str _=>true | .byt _,.byt _=>true
 | .int _,.str _=>true | .str _,.int _=>true | .bl _,.str _=>true | .str _,.bl _=>true
 | _,_=>false
noncomputable def rEq:R2:=λx y H Q=>DD x y=true/\Q (.bl (decide (x=y))) H
noncomputable def rNe:R2:=λx y H Q=>DD x y=true/\Q (.bl (!decide (x=y))) H
theorem px {i j:Int}:decide (V.int i=V.int j)=(i == j):=by
 rw [Zi]
 simp
theorem rV {i j:Bool}:decide (V.bl i=V.bl j)=(i == j):=by
 rw [Zi]
 simp
theorem pz {i j:Str}:decide (V.str i=V.str j)=(i == j):=by
 rw [Zi]
 simp
theorem pA {i j:Array UInt8}:decide (V.byt i=V.byt j)=(i.toList == j.toList):=by
 rw [Zi]
 cases i
 cases j
 simp
section
variable {X:Cx} {a b c:Expr} {ta tb tc:TE} {pos:Pos}
theorem aW {Q:VK} {k k':Bool} (I:Inv X pins σ H s) (q:Q (.bl k) H) (e:k=k'):EP X pins σ Q (.bool k') s:=by
 subst e
 exact ⟨.bl k,H,I,rfl,q⟩
theorem Hg:OpR X (compareOp .Eq) rEq:=by
 intro pins s σ H x y v u Q I rx ry h
 obtain ⟨hs,q⟩:=h
 cases x with
 | non=>
  cases rx
  cases y with
  | non=>cases ry; exact PySem.EqNone.eq_none_none (aW I q (by simp))
  | bl j=>cases ry; exact PySem.EqNone.eq_none_bool (aW I q (by simp))
  | int j=>obtain ⟨t',rfl⟩:=ry; exact PySem.EqNone.eq_none_int (aW I q (by simp))
  | str j=>obtain ⟨t',rfl⟩:=ry; exact PySem.EqNone.eq_none_str (aW I q (by simp))
  | _=>exact absurd (show false=true from hs) Yj
 | bl i=>
  cases rx
  cases y with
  | non=>cases ry; exact PySem.EqNone.eq_bool_none (aW I q (by simp))
  | bl j=>cases ry; exact eq_bool (aW I q rV)
  | str j=>obtain ⟨t',rfl⟩:=ry; exact PySem.EqMixed.eq_bool_str (aW I q (by simp))
  | _=>exact absurd (show false=true from hs) Yj
 | int i=>
  obtain ⟨t,rfl⟩:=rx
  cases y with
  | non=>cases ry; exact PySem.EqNone.eq_int_none (aW I q (by simp))
  | int j=>obtain ⟨t',rfl⟩:=ry; exact eq_int (aW I q px)
  | str j=>obtain ⟨t',rfl⟩:=ry; exact PySem.EqMixed.eq_int_str (aW I q (by simp))
  | _=>exact absurd (show false=true from hs) Yj
 | str i=>
  obtain ⟨t,rfl⟩:=rx
  cases y with
  | non=>cases ry; exact PySem.EqNone.eq_str_none (aW I q (by simp))
  | bl j=>cases ry; exact PySem.EqMixed.eq_str_bool (aW I q (by simp))
  | int j=>obtain ⟨t',rfl⟩:=ry; exact PySem.EqMixed.eq_str_int (aW I q (by simp))
  | str j=>obtain ⟨t',rfl⟩:=ry; exact eq_str (aW I q pz)
  | _=>exact absurd (show false=true from hs) Yj
 | byt i=>
  obtain ⟨t,rfl⟩:=rx
  cases y with
  | byt j=>obtain ⟨t',rfl⟩:=ry; exact PySem.W.eq_bytes (aW I q pA)
  | _=>exact absurd (show false=true from hs) Yj
 | _=>cases y <;> exact absurd (show false=true from hs) Yj
theorem Hh:OpR X (compareOp .NotEq) rNe:=by
 intro pins s σ H x y v u Q I rx ry h
 obtain ⟨hs,q⟩:=h
 cases x with
 | non=>
  cases rx
  cases y with
  | non=>cases ry; exact PySem.EqNone.ne_none_none (aW I q (by simp))
  | bl j=>cases ry; exact PySem.EqNone.ne_none_bool (aW I q (by simp))
  | int j=>obtain ⟨t',rfl⟩:=ry; exact PySem.EqNone.ne_none_int (aW I q (by simp))
  | str j=>obtain ⟨t',rfl⟩:=ry; exact PySem.EqNone.ne_none_str (aW I q (by simp))
  | _=>exact absurd (show false=true from hs) Yj
 | bl i=>
  cases rx
  cases y with
  | non=>cases ry; exact PySem.EqNone.ne_bool_none (aW I q (by simp))
  | bl j=>cases ry; exact ne_bool (aW I q (Zs not rV))
  | str j=>obtain ⟨t',rfl⟩:=ry; exact PySem.EqMixed.ne_bool_str (aW I q (by simp))
  | _=>exact absurd (show false=true from hs) Yj
 | int i=>
  obtain ⟨t,rfl⟩:=rx
  cases y with
  | non=>cases ry; exact PySem.EqNone.ne_int_none (aW I q (by simp))
  | int j=>obtain ⟨t',rfl⟩:=ry; exact ne_int (aW I q (Zs not px))
  | str j=>obtain ⟨t',rfl⟩:=ry; exact PySem.EqMixed.ne_int_str (aW I q (by simp))
  | _=>exact absurd (show false=true from hs) Yj
 | str i=>
  obtain ⟨t,rfl⟩:=rx
  cases y with
  | non=>cases ry; exact PySem.EqNone.ne_str_none (aW I q (by simp))
  | bl j=>cases ry; exact PySem.EqMixed.ne_str_bool (aW I q (by simp))
  | int j=>obtain ⟨t',rfl⟩:=ry; exact PySem.EqMixed.ne_str_int (aW I q (by simp))
  | str j=>obtain ⟨t',rfl⟩:=ry; exact ne_str (aW I q (Zs not pz))
  | _=>exact absurd (show false=true from hs) Yj
 | byt i=>
  obtain ⟨t,rfl⟩:=rx
  cases y with
  | byt j=>obtain ⟨t',rfl⟩:=ry; exact PySem.W.ne_bytes (aW I q (Zs not pA))
  | _=>exact absurd (show false=true from hs) Yj
 | _=>cases y <;> exact absurd (show false=true from hs) Yj
theorem Hi:OpR X (compareOp .Lt) (rI0 λi j=>.bl (decide (i < j))):=yu λ_ _ _ _ _ _ _ q=>lt_int q
theorem Hj:OpR X (compareOp .LtE) (rI0 λi j=>.bl (decide (i<=j))):=yu λ_ _ _ _ _ _ _ q=>le_int q
theorem Hk:OpR X (compareOp .Gt) (rI0 λi j=>.bl (decide (j < i))):=yu λ_ _ _ _ _ _ _ q=>gt_int q
theorem Hl:OpR X (compareOp .GtE) (rI0 λi j=>.bl (decide (j<=i))):=yu λ_ _ _ _ _ _ _ q=>ge_int q
theorem qv:OpR X (compareOp .In) (λx y H Q=>∃ i j,x=.str i/\y=.str j/\Q (.bl (!(Builtin.Str.occurrences j i 0 j.length 1).isEmpty)) H):=by
 intro pins s σ H x y v u Q I rx ry h
 obtain ⟨i,j,rfl,rfl,q⟩:=h
 obtain ⟨t,rfl⟩:=rx
 obtain ⟨t',rfl⟩:=ry
 exact in_str (aW I q rfl)
theorem DE (b:Expr) (h:autoParam (op ≠ .In) Au.h2._auto_1) (h2:autoParam (op ≠ .NotIn) Au.h2._auto_1):behindInMarks op b=false:=by
 have e1:(op == CmpOp.In)=false:=by cases op <;> first | rfl | exact absurd rfl h
 have e2:(op == CmpOp.NotIn)=false:=by cases op <;> first | rfl | exact absurd rfl h2
 cases b <;> simp [behindInMarks,e1,e2]
theorem pB (ho:OpR X (compareOp op) r) (ha:PE X a ta) (hb:PE X b tb) (hm:behindInMarks op b=false):PE X (.Compare a [op] [b] pos) (tOp r ta tb):=by
 intro pins s σ H Q I h
 exact wpAny_Compare1 (Dw ha hb I h λv u s2 x y H2 I2 rx ry q=>ho pins s2 σ H2 x y v u Q I2 rx ry q) hm
noncomputable def zU (t:TE):TT:=λσ H Q=>t σ H λx H'=>∃ k,x=.bl k/\Q k H'
theorem yx (ho:OpR X (compareOp op) r) (ha:PE X a ta) (hb:PE X b tb) (hm:behindInMarks op b=false):PT X (.Compare a [op] [b] pos) (zU (tOp r ta tb)):=by
 intro pins s σ H Q I h
 refine wpAny_isTrue_Compare1 (thn (ha pins s σ H _ I h) λv s1 zq=>ex5 zq λx H1 I1 r1 q1=>thn (hb pins s1 σ H1 _ I1 q1) λu s2 zq=>ex5 zq λy H2 I2 r2 q2=>
  thn (ho pins s2 σ H2 x y v u _ I2 r1 r2 q2) λc s3 ⟨z,H3,I3,r3,k,e,q3⟩=>?_) hm
 subst e
 cases r3
 exact Zh ⟨H3,I3,q3⟩
noncomputable def rW (r r':R2) (ta tb tc:TE):TE:=λσ H Q=>ta σ H λx H1=>tb σ H1 λy H2=>r x y H2 λz H3=>∃ k,z=.bl k/\
 (if k=true then tc σ H3 λw' H4=>r' y w' H4 Q else Q (.bl false) H3)
theorem rX {op':CmpOp} {r':R2} (ho:OpR X (compareOp op) r) (ho':OpR X (compareOp op') r') (ha:PE X a ta) (hb:PE X b tb) (hc:PE X c tc)
  (hm:lastMarks [op,op'] [b,c]=false:=by with_unfolding_all rfl):PE X (.Compare a [op,op'] [b,c] pos) (rW r r' ta tb tc):=by
 intro pins s σ H Q I h
 refine Compare_chain (thn (ha pins s σ H _ I h) λv s1 zq=>ex5 zq λx H1 I1 r1 q1=>chain_link (thn (hb pins s1 σ H1 _ I1 q1) λu s2 zq=>ex5 zq λy H2 I2 r2 q2=>
  thn (ho pins s2 σ H2 x y v u _ I2 r1 r2 q2) λd s3 ⟨z,H3,I3,r3,k,e,q3⟩=>?_)) hm
 subst e
 cases r3
 refine Zh ?_
 cases k with
 | false=>exact ite_ff ⟨.bl false,H3,I3,rfl,q3⟩
 | true=>exact ite_tt (chain_last (thn (hc pins s3 σ H3 _ I3 q3) λw' s4 ⟨z',H4,I4,r4,q4⟩=>ho' pins s4 σ H4 y z' u w' Q I4 r2 r4 q4))
theorem rY {op':CmpOp} {r':R2} (ho:OpR X (compareOp op) r) (ho':OpR X (compareOp op') r') (ha:PE X a ta) (hb:PE X b tb) (hc:PE X c tc)
  (hm:lastMarks [op,op'] [b,c]=false:=by with_unfolding_all rfl):PT X (.Compare a [op,op'] [b,c] pos) (zU (rW r r' ta tb tc)):=by
 intro pins s σ H Q I h
 refine isTrue_chain (thn (ha pins s σ H _ I h) λv s1 zq=>ex5 zq λx H1 I1 r1 q1=>test_link (thn (hb pins s1 σ H1 _ I1 q1) λu s2 zq=>ex5 zq λy H2 I2 r2 q2=>
  thn (ho pins s2 σ H2 x y v u _ I2 r1 r2 q2) λd s3 ⟨z,H3,I3,r3,k,e,q3⟩=>?_)) hm
 subst e
 cases r3
 refine Zh ?_
 cases k with
 | false=>
  obtain ⟨k',e',q'⟩:=q3
  cases e'
  exact ite_ff ⟨H3,I3,q'⟩
 | true=>
  refine ite_tt (test_last (thn (hc pins s3 σ H3 _ I3 q3) λw' s4 ⟨z',H4,I4,r4,q4⟩=>thn (ho' pins s4 σ H4 y z' u w' _ I4 r2 r4 q4) λd' s5 zq=>?_))
  obtain ⟨z2,H5,I5,r5,k2,e2,q5⟩:=zq
  subst e2
  cases r5
  exact Zh ⟨H5,I5,q5⟩
theorem g5:(sizeLine:Nat) < 2 ^ 63:=by rw [Wr]; decide
theorem oJ:OpR X (binaryOp .Add) (λx y H Q=>∃ i j,x=.str i/\y=.str j/\i.length + j.length<=sizeLine/\Q (.str (i ++ j)) H):=by
 intro pins s σ H x y v u Q I rx ry h
 obtain ⟨i,j,rfl,rfl,hz,q⟩:=h
 obtain ⟨t,rfl⟩:=rx
 obtain ⟨t',rfl⟩:=ry
 exact add_str (λt' tk=>⟨.str (i ++ j),H,I.tok _,⟨_,rfl⟩,q⟩) hz
theorem vals1 {x:V} (r:Vals [x] us):∃ u,us=[u]/\RelV x u:=by
 cases r with
 | cons r1 r2=>cases r2; exact ⟨_,rfl,r1⟩
theorem vals2 {x y:V} (r:Vals [x,y] us):∃ u w',us=[u,w']/\RelV x u/\RelV y w':=by
 cases r with
 | cons r1 r2=>
  cases r2 with
  | cons r3 r4=>cases r4; exact ⟨_,_,rfl,r1,r3⟩
theorem qw (hc:X.calm=true):cF X (.builtin "max") (λxs H Q=>∃ i j,xs=[.int i,.int j]/\Q (.int (if j > i then j else i)) H):=by
 intro pins s σ H xs us Q I r h
 obtain ⟨i,j,rfl,q⟩:=h
 obtain ⟨u,w',rfl,⟨t,rfl⟩,⟨t',rfl⟩⟩:=vals2 r
 refine max_two_ints (I.ok.hd hc) λh' tk k=>⟨_,H,I.kept k,?_,q⟩
 by_cases hj:j > i
 ·rw [Y9 hj,Y9 hj]; exact ⟨_,rfl⟩
 ·rw [Yg hj,Yg hj]; exact ⟨_,rfl⟩
theorem qA (hc:X.calm=true):cF X (.builtin "min") (λxs H Q=>∃ i j,xs=[.int i,.int j]/\Q (.int (if j < i then j else i)) H):=by
 intro pins s σ H xs us Q I r h
 obtain ⟨i,j,rfl,q⟩:=h
 obtain ⟨u,w',rfl,⟨t,rfl⟩,⟨t',rfl⟩⟩:=vals2 r
 refine min_two_ints (I.ok.hd hc) λh' tk k=>⟨_,H,I.kept k,?_,q⟩
 by_cases hj:j < i
 ·rw [Y9 hj,Y9 hj]; exact ⟨_,rfl⟩
 ·rw [Yg hj,Yg hj]; exact ⟨_,rfl⟩
theorem ly:cF X (.type "int") (λxs H Q=>(∃ i,xs=[.int i]/\Q (.int i) H) \/ ∃ k,xs=[.bl k]/\Q (.int (if k then 1 else 0)) H):=by
 intro pins s σ H xs us Q I r h
 rcases h with ⟨i,rfl,q⟩ | ⟨k,rfl,q⟩
 ·obtain ⟨u,rfl,t,rfl⟩:=vals1 r
  exact call_int_int ⟨.int i,H,I,⟨_,rfl⟩,q⟩
 ·obtain ⟨u,rfl,r1⟩:=vals1 r
  cases r1
  exact call_int_bool ⟨.int (if k then 1 else 0),H,I.tok _,⟨_,rfl⟩,q⟩
theorem mf:cF X (.type "str") (λxs H Q=>∃ i,xs=[.int i]/\i.natAbs.log2 < 1920/\Q (.str (toString i)) H):=by
 intro pins s σ H xs us Q I r h
 obtain ⟨i,rfl,hz,q⟩:=h
 obtain ⟨u,rfl,t,rfl⟩:=vals1 r
 exact PySem.P.str_of_int hz ⟨.str _,H,I.tok _,⟨_,rfl⟩,q⟩
theorem nu:cF X (.builtin "divmod") (λxs H Q=>∃ i j,xs=[.int i,.int j]/\Hf i j/\∀ p,H p=none->Q (.ref p) (upd H p (.tup [.int (i / j),.int (i % j)]))):=by
 intro pins s σ H xs us Q I r h
 obtain ⟨i,j,rfl,⟨h1,h2⟩,q⟩:=h
 obtain ⟨u,w',rfl,⟨t,rfl⟩,⟨t',rfl⟩⟩:=vals2 r
 refine divmod_int (by omega) ?_ (.inl (PyProof.noPylong_small (by omega)))
 rw [V0 i (by omega),V1 i (by omega)]
 have hn:H s.heap.objs.size=none:=I.hok.fresh (Yd _)
 refine ⟨.ref s.heap.objs.size,_,?_,rfl,q _ hn⟩
 refine I.laid (λb o e=>Y8 _ e) (Yd _) ⟨by simp only [Yv,Q1]; rw [Wr]; decide,[.int (i / j) s.toks,.int (i % j) (s.toks + 1)],.cons ⟨_,rfl⟩ (.cons ⟨_,rfl⟩ .nil),?_⟩
 exact ⟨_,Yp s.heap rfl,rfl,0,rfl⟩
end
structure ObjM (h:Heap) (x dx C:Addr) (mA:Str->Option Value):Prop where
 obj:h.get? x=some (PySem.W.instObj C dx)
 ns:h.Ns1 dx mA
 ne:dx ≠ x
theorem qB {dx:Addr} {mA:Str->Option Value} (n:h.Ns1 dx mA):∃ od,h.get? dx=some od/\∀ name,PySem.W.lookIn name od=some (mA name):=by
 obtain ⟨o,es,ep,ho,hd,hk,_,hm⟩:=n
 refine ⟨o,ho,λname=>?_⟩
 have e:=hm name
 unfold nsFind findBy at e
 rw [<- Array.find?_toList] at e
 unfold PySem.W.lookIn
 rw [hd]
 dsimp only
 split
 ·rename_i y q
  rw [q] at e
  exact Zs some e
 ·rename_i q
  rw [q] at e
  have a:es.toList.any (·.refKey)=false:=by
   rw [List.any_eq_false]
   intro y hy
   obtain ⟨z,t,hkey⟩:=hk y (Array.mem_toList_iff.mp hy)
   simp [DictEntry.refKey,hkey]
  have a':¬ es.toList.any (·.refKey)=true:=by rw [a]; exact Yj
  rw [Yg a']
  exact Zs some e
theorem ObjM.look {x dx:Addr} {mA:Str->Option Value} (I:ObjM h x dx C mA):∃ od,PySem.W.InstAt h x (PySem.W.instObj C dx) C (some od)/\∀ name,PySem.W.lookIn name od=some (mA name):=
 let ⟨od,ho,hl⟩:=qB I.ns
 ⟨od,⟨I.obj,rfl,rfl,ho⟩,hl⟩
section
variable {prog:Program} {w:World} {A:Around} {E:Value->Shared->Prop} {s:Shared} {K:PySem.W.Frag} {x dx C f:Addr} {mA:Str->Option Value} {name:Str} {v:Value}
theorem get_map {expr:Bool} {Q:Value->Shared->Prop} (X:K.In s.heap) (I:ObjM s.heap x dx C mA) (hg:PySem.W.plainGet K C name=true) (hh:PySem.W.hasDictIn K C=true)
  (ha:PySem.W.findIn K (.ref C) name=some none) (hv:mA name=some v) (hv':PySem.W.handedIn v=true) (h:Q v { s with toks:=s.toks + 1 }):
  wpAny (model prog w) A (getAttr (.ref x) name expr) Q E s:=by
 obtain ⟨od,J,hl⟩:=I.look
 exact PySem.W.get_value X J (Wo hg).1 (PySem.W.findObj_own hh ha rfl (by rw [hl,hv])) hv' h
theorem rZ {pl:Sem Bool} {Q:Value × List Value->Shared->Prop} (X:K.In s.heap) (I:ObjM s.heap x dx C mA) (hg:PySem.W.plainGet K C name=true)
  (hf:PySem.W.findIn K (.ref C) name=some (some (.ref f))) (ht:PySem.W.isFn K (.ref f)=true) (hv:mA name=none) (h:Q (.ref f,[.ref x]) s):
  wpAny (model prog w) A (getMethod (.ref x) name pl) Q E s:=by
 obtain ⟨od,J,hl⟩:=I.look
 exact PySem.W.method_fn X J (Wo hg).1 (Wo hg).2 hf (Qi.mp ht) (by show (PySem.W.lookIn name od).map (·.isSome)=some false; rw [hl,hv]; rfl) h
theorem yy {ns:List Str} {Q:Unit->Shared->Prop} (X:K.In s.heap) (I:ObjM s.heap x dx C mA)
  (hs:PySem.W.findIn K (.ref C) "__setattr__" = some (some (.builtin "object.__setattr__"))) (hp:PySem.W.plainOver K C=true) (ht:PySem.W.takerIn K C name=some none) (hh:PySem.W.hasDictIn K C=true)
  (hw:PySem.Within mA ns) (hsz:ns.length<=sizeLine)
  (h:∀ h',ObjM h' x dx C (λy=>if y=name then some v else mA y)->Heap.SameBut dx s.heap h'->Q () { s with heap:=h',toks:=s.toks + 2 }):
  wpAny (model prog w) A (setAttr (.ref x) name v) Q E s:=by
 obtain ⟨od,J,hl⟩:=I.look
 refine PySem.W.set_plain X J hs (PySem.W.osa_open (s:={ s with toks:=s.toks + 1 }) (r:=none) X J hp ht λb=>?_)
 obtain ⟨cd,hc,hd'⟩:=PySem.W.any_some hh
 have hx:s.heap.get? x=some ⟨.ref C,some dx,.plain,#[]⟩:=I.obj
 refine Y6 (Ye (Y6 (Y6 (wpAny_loadPart hx (Y6 (PySem.W.Looks.here (s:={ s with toks:=s.toks + 1 }) (PySem.W.looks_clsIn X hc) ?_))))))
 rw [hd']
 refine Ye (a:=some dx) (Y6 (Ye (Y6 ?_)))
 refine wpAny_nsSet1 (s:={ s with toks:=s.toks + 1 }) I.ns λh' hn2 hs2=>?_
 obtain ⟨oD,esD,epD,hoD,hdD,hcD⟩:=hn2.count (PySem.Within.cons name v hw)
 refine Y6 (wpAny_lookBehind hoD (by rw [hdD]; exact pastItsLine_dict (Z9 hcD (by rw [Yv]; omega))) ?_)
 exact Ye (h _ ⟨(hs2.2 _ (Ne.symm I.ne)).trans I.obj,hn2,I.ne⟩ hs2)
theorem sd {R:Result->Shared->Prop} {vs:List Value} {kw:List (Str × Value)} (X:K.In s.heap) (hm:PySem.W.makesIn K C=true)
  (hi:PySem.W.findIn K (.ref C) "__init__" = some (some (.ref f))) (hf:PySem.W.typeIn K (.ref f)=some (.type "function"))
  (h:codeAny (model prog w) (A.under (.builtin "type.__call__" ⟨.ref C :: vs,kw⟩)) (.call (.ref f) ⟨.ref (s.heap.objs.size + 1) :: vs,kw⟩) (PySem.W.InitBack (s.heap.objs.size + 1) R)
   { s with heap:=(s.heap.push PySem.W.emptyDict).push (PySem.W.instObj C s.heap.objs.size) }):
  codeAny (model prog w) A (.call (.ref C) ⟨vs,kw⟩) R s:=by
 obtain ⟨hh,g,d,t,os⟩:=s
 exact PySem.W.make_core (PySem.W.makes_of X hm) (Qu X hi) (λself=>PySem.W.bind_fn X self hf) (.inl rfl) h
end
noncomputable def fk (f:Str) (v:V):List (Str × V)->List (Str × V)
 | []=>[(f,v)]
 | (g,x) :: r=>if g=f then (g,v) :: r else (g,x) :: fk f v r
theorem jq (f g:Str) (v:V):∀ fs:List (Str × V),(fk f v fs).lookup g=if g=f then some v else fs.lookup g
 | []=>by
  show List.lookup g [(f,v)]=_
  by_cases h:g=f
  ·have hb:(g == f)=true:=Qi.mpr h
   simp only [List.lookup,hb,Y9 h]
  ·have hb:(g == f)=false:=Qe.mpr h
   simp only [List.lookup,hb,Yg h]
 | (k,x) :: r=>by
  have ih:=jq f g v r
  rw [show fk f v ((k,x) :: r)=(if k=f then (k,v) :: r else (k,x) :: fk f v r) from rfl]
  by_cases hk:k=f
  ·rw [Y9 hk]
   by_cases h:g=k
   ·have hb:(g == k)=true:=Qi.mpr h
    simp only [List.lookup,hb,Y9 (h.trans hk)]
   ·have hb:(g == k)=false:=Qe.mpr h
    simp only [List.lookup,hb,Yg (λe:g=f=>h (e.trans hk.symm))]
  ·rw [Yg hk]
   by_cases h:g=k
   ·have hb:(g == k)=true:=Qi.mpr h
    simp only [List.lookup,hb,Yg (λe:g=f=>hk (h.symm.trans e))]
   ·have hb:(g == k)=false:=Qe.mpr h
    simp only [List.lookup,hb]
    exact ih
theorem iS (f:Str) (v:V):∀ fs:List (Str × V),f ∈ (fk f v fs).map (·.1)/\∀ g,g ∈ fs.map (·.1)->g ∈ (fk f v fs).map (·.1)
 | []=>⟨by simp [fk],λg h=>by simp at h⟩
 | (k,x) :: r=>by
  obtain ⟨i1,i2⟩:=iS f v r
  rw [show fk f v ((k,x) :: r)=(if k=f then (k,v) :: r else (k,x) :: fk f v r) from rfl]
  by_cases hk:k=f
  ·rw [Y9 hk]
   subst hk
   exact ⟨by simp,λg h=>by simpa using h⟩
  ·rw [Yg hk]
   refine ⟨?_,λg h=>?_⟩
   ·rw [Yc]
    exact Ys _ i1
   ·rw [Yc] at h ⊢
    rcases Yn.mp h with e | e
    ·exact Yn.mpr (.inl e)
    ·exact Ys _ (i2 g e)
theorem jr (f:Str) (v:V):∀ fs:List (Str × V),(fk f v fs).length<=fs.length + 1
 | []=>by simp [fk]
 | (k,x) :: r=>by
  have ih:=jr f v r
  rw [show fk f v ((k,x) :: r)=(if k=f then (k,v) :: r else (k,x) :: fk f v r) from rfl]
  by_cases hk:k=f
  ·rw [Y9 hk,Yv,Yv]; omega
  ·rw [Yg hk,Yv,Yv]; omega
theorem kW.some_of {v:V} {o:Option Value} (r:kW (some v) o):∃ u,o=some u/\RelV v u:=by
 cases o with
 | none=>exact (show False from r).elim
 | some u=>exact ⟨u,rfl,r⟩
theorem kW.none_of {o:Option Value} (r:kW none o):o=none:=by
 cases o with
 | none=>rfl
 | some u=>exact (show False from r).elim
theorem qC {v:V} (r:RelV v u):PySem.W.handedIn u=true:=by
 cases v with
 | non=>cases (show u=Value.none from r); rfl
 | bl b=>cases (show u=Value.bool b from r); rfl
 | int i=>obtain ⟨t,e⟩:=(show ∃ t,u=Value.int i t from r); cases e; rfl
 | str x=>obtain ⟨t,e⟩:=(show ∃ t,u=Value.str x t from r); cases e; rfl
 | byt b=>obtain ⟨t,e⟩:=(show ∃ t,u=Value.bytes b t from r); cases e; rfl
 | flt b=>obtain ⟨t,e⟩:=(show ∃ t,u=Value.float b t from r); cases e; rfl
 | ref a=>cases (show u=Value.ref a from r); rfl
 | ty n=>cases (show u=Value.type n from r); rfl
section
variable {P:Program} {w:World} {H H':Hp} {h h':Heap} {a C dx:Addr} {fs fs':List (Str × V)}
theorem jO (hok:HOk P w H h) (e:H a=some (.ins C dx fs)):∃ mA,ObjM h a dx C mA/\(∀ f,kW (fs.lookup f) (mA f))/\PySem.Within mA (fs.map (·.1))/\fs.length<=1000/\H dx=some (.own a):=by
 obtain ⟨d,z,ne,ob,mA,n,r,q⟩:=(show bY P w H h a (.ins C dx fs) from hok a _ e)
 exact ⟨mA,⟨ob,n,ne⟩,r,q,z,d⟩
end
structure Cls (K:PySem.W.Frag) (C:Addr):Prop where
 pg:PySem.W.plainGet K C Str.empty=true
 hd:PySem.W.hasDictIn K C=true
 po:PySem.W.plainOver K C=true
 sa:PySem.W.findIn K (.ref C) "__setattr__" = some (some (.builtin "object.__setattr__"))
theorem Cls.get {K:PySem.W.Frag} (c:Cls K C) (f:Str):PySem.W.plainGet K C f=true:=c.pg
def g6 (K:PySem.W.Frag) (C:Addr) (f:Str):Prop:=PySem.W.findIn K (.ref C) f=some none
theorem g6.taker {K:PySem.W.Frag} {f:Str} (n:g6 K C f):PySem.W.takerIn K C f=some none:=by
 unfold PySem.W.takerIn
 rw [show PySem.W.findIn K (.ref C) f=some none from n]
 rfl
structure Meth (K:PySem.W.Frag) (C:Addr) (m:Str) (f:Addr):Prop where
 at_:PySem.W.findIn K (.ref C) m=some (some (.ref f))
 fn:PySem.W.isFn K (.ref f)=true
 kp:PySem.W.keepIn K (.ref f)=true
section
variable {X:Cx} {pins:List (Addr × Obj)} {σ:St} {H:Hp} {s:Shared} {a C dx:Addr} {fs:List (Str × V)} {f:Str} {v:V} {A:Around} {E:Value->Shared->Prop}
theorem oK {b:Bool} {Q:Value->Shared->Prop} (I:Inv X pins σ H s) (e:H a=some (.ins C dx fs)) (c:Cls X.K C) (n:g6 X.K C f) (l:fs.lookup f=some v)
  (h:∀ u s',Inv X pins σ H s'->RelV v u->Q u s'):wpAny (model X.prog X.w) A (getAttr (.ref a) f b) Q E s:=by
 obtain ⟨mA,O,r,_,_,_⟩:=jO I.hok e
 obtain ⟨u,hu,ru⟩:=kW.some_of (v:=v) (o:=mA f) (by rw [<- l]; exact r f)
 exact get_map I.kIn O (c.get f) c.hd n hu (qC ru) (h u _ (I.tok _) ru)
theorem j1 {m:Str} {g:Addr} {pl:Sem Bool} {Q:Value × List Value->Shared->Prop} (I:Inv X pins σ H s) (e:H a=some (.ins C dx fs)) (c:Cls X.K C) (k:Meth X.K C m g) (l:fs.lookup m=none)
  (h:Q (.ref g,[.ref a]) s):wpAny (model X.prog X.w) A (getMethod (.ref a) m pl) Q E s:=by
 obtain ⟨mA,O,r,_,_,_⟩:=jO I.hok e
 have hn:mA m=none:=kW.none_of (by rw [<- l]; exact r m)
 exact rZ I.kIn O (c.get m) k.at_ k.fn hn h
theorem oM {y:V} {Q:Unit->Shared->Prop} (I:Inv X pins σ H s) (e:H a=some (.ins C dx fs)) (c:Cls X.K C) (n:g6 X.K C f) (hl:fs.length < 1000) (ry:RelV y u)
  (h:∀ s',Inv X pins σ (upd H a (.ins C dx (fk f y fs))) s'->Q () s'):wpAny (model X.prog X.w) A (setAttr (.ref a) f u) Q E s:=by
 obtain ⟨mA,O,r,wi,_,ho⟩:=jO I.hok e
 have hz:(fs.map (·.1)).length<=sizeLine:=by rw [Ym,Wr]; omega
 refine yy I.kIn O c.sa c.po n.taker c.hd wi hz λh' O' sb=>h _ ?_
 have hd:∃ o,h'.get? dx=some o:=let ⟨o,_,_,e',_⟩:=O'.ns; ⟨o,e'⟩
 refine I.write (x:=a) (e:=dx) (by rw [e]; exact True.intro) (.inr ho) (λb q hb z=>(sb.2 b hb).trans z) hd ?_
 refine ⟨by rw [aA O.ne]; exact ho,?_,O.ne,O'.obj,_,O'.ns,λg=>?_,λg hg=>?_⟩
 ·have:=jr f y fs; omega
 ·show kW ((fk f y fs).lookup g) (if g=f then some u else mA g)
  rw [jq]
  by_cases q:g=f
  ·rw [Y9 q,Y9 q]; exact ry
  ·rw [Yg q,Yg q]; exact r g
 ·by_cases q:g=f
  ·rw [q]; exact (iS f y fs).1
  ·refine (iS f y fs).2 g (wi g λz=>hg ?_)
   show (if g=f then some u else mA g)=none
   rw [Yg q]; exact z
theorem Inv.made (I:Inv X pins σ H s):Inv X pins σ (upd (upd H s.heap.objs.size (.own (s.heap.objs.size + 1))) (s.heap.objs.size + 1) (.ins C s.heap.objs.size []))
  { s with heap:=(s.heap.push PySem.W.emptyDict).push (PySem.W.instObj C s.heap.objs.size) }:=by
 have e1:(s.heap.push PySem.W.emptyDict).get? s.heap.objs.size=some PySem.W.emptyDict:=Yp s.heap rfl
 have e2:((s.heap.push PySem.W.emptyDict).push (PySem.W.instObj C s.heap.objs.size)).get? (s.heap.objs.size + 1)=some (PySem.W.instObj C s.heap.objs.size):=by
  have:=Yp (s.heap.push PySem.W.emptyDict) (o:=PySem.W.instObj C s.heap.objs.size) rfl
  rwa [Zt] at this
 have e3:(s.heap.push PySem.W.emptyDict).Ns s.heap.objs.size (λ_=>none):=⟨PySem.W.emptyDict,#[],_,e1,rfl,(λe he=>absurd he (by simp)),λ_=>rfl⟩
 have I1:=I.laid (a:=s.heap.objs.size) (o:=.own (s.heap.objs.size + 1)) (h':=s.heap.push PySem.W.emptyDict) (t':=s.toks) (λb u q=>Y8 _ q) (Yd _) ⟨_,e1⟩
 refine I1.laid (a:=s.heap.objs.size + 1) (o:=.ins C s.heap.objs.size []) (t':=s.toks) (λb u q=>Y8 _ q) (Nat.le_of_eq (Zt _ _)) ?_
 have ne:s.heap.objs.size ≠ s.heap.objs.size + 1:=Yr (Wc _)
 refine ⟨by rw [aA ne,aL],Zc _,ne,e2,λ_=>none,(Heap.Ns1.of_empty e3).at λo q=>Y8 _ q,λ_=>True.intro,λy hy=>absurd rfl hy⟩
theorem yz {prog:Program} {w:World} {env:Env} {f:Str} {pos:Pos} {s:Shared} {Q:Value->Shared->Prop} (hb:attributeBase e f env (eval e env)=eval e env)
  (h:wpAny (model prog w) A (eval e env) (λo s₁=>wpAny (model prog w) A (getAttr o f true) Q E s₁) E s):wpAny (model prog w) A (eval (.Attribute e f pos) env) Q E s:=
 Attribute_any_ h (by rw [arm_eval_Attribute,hb])
end
noncomputable def Kc (K:PySem.W.Frag) (ta:TE) (f:Str):TE:=λσ H Q=>ta σ H λx H1=>∃ a C dx fs v,x=.ref a/\H1 a=some (.ins C dx fs)/\Cls K C/\g6 K C f/\fs.lookup f=some v/\Q v H1
noncomputable def Kd (K:PySem.W.Frag) (ta tv:TE) (f:Str):TS:=λD σ H=>tv σ H λy H1=>ta σ H1 λx H2=>∃ a C dx fs,x=.ref a/\H2 a=some (.ins C dx fs)/\Cls K C/\g6 K C f/\fs.length < 1000/\
 D.nx σ (upd H2 a (.ins C dx (fk f y fs)))
section
variable {X:Cx} {o e value:Expr} {f:Str} {pos pos' tpos:Pos} {ta tv:TE}
theorem DF (he:PE X e ta) (hb:attributeBase e f X.env (eval e X.env)=eval e X.env):PE X (.Attribute e f pos) (Kc X.K ta f):=by
 intro pins s σ H Q I h
 refine yz hb (thn (he pins s σ H _ I h) λu s1 zq=>?_)
 obtain ⟨x,H1,I1,rx,a,C,dx,fs,v,ex,ea,c,n,l,q⟩:=zq
 subst ex
 obtain rfl:u=Value.ref a:=rx
 exact oK I1 ea c n l λu' s2 I2 ru=>⟨v,H1,I2,ru,q⟩
theorem DG (ha:PE X o ta) (hv:PE X value tv) (hs:swapsWith value (some (.Attribute o f pos')) pos.line X.env=pure false):PS X (.Assign [.Attribute o f pos'] value pos) (Kd X.K ta tv f):=by
 intro pins s σ H D I h
 refine plainObj_wpAny_Assign_Attribute (thn (hv pins s σ H _ I h) λu s1 zq=>ex5 zq λy H1 I1 ry q=>thn (ha pins s1 σ H1 _ I1 q) λov s2 zq=>?_) hs
 obtain ⟨x,H2,I2,rx,a,C,dx,fs,ex,ea,c,n,l,q2⟩:=zq
 subst ex
 obtain rfl:ov=Value.ref a:=rx
 exact oM I2 ea c n l ry λs3 I3=>⟨σ,_,I3,q2⟩
end
section
variable {X:Cx} {pins:List (Addr × Obj)} {σ:St} {H:Hp} {s:Shared} {A:Around} {E:Value->Shared->Prop} {Q:Value->Shared->Prop} {c:Value} {b:Bool}
inductive TyOf (K:PySem.W.Frag) (H:Hp):V->Value->Prop where
 | non:TyOf K H .non (.type "NoneType")
 | bl (x:Bool):TyOf K H (.bl x) (.type "bool")
 | int (i:Int):TyOf K H (.int i) (.type "int")
 | str (x:Str):TyOf K H (.str x) (.type "str")
 | flt (x:UInt64):TyOf K H (.flt x) (.type "float")
 | lst {a:Addr} {xs:List V} (e:H a=some (.lst xs)):TyOf K H (.ref a) (.type "list")
 | frz {a:Addr} {o:Obj} {xs:List V} (e:H a=some (.frz o (.lst xs))):TyOf K H (.ref a) (.type "list")
 | tup {a:Addr} {xs:List V} (e:H a=some (.tup xs)):TyOf K H (.ref a) (.type "tuple")
 | dK {a:Addr} {kvs:List (Key × V)} (e:H a=some (.dK kvs)):TyOf K H (.ref a) (.type "dict")
 | dT {a:Addr} {kvs:List (List Key × V)} (e:H a=some (.dT kvs)):TyOf K H (.ref a) (.type "dict")
 | ins {a C dx:Addr} {fs:List (Str × V)} (e:H a=some (.ins C dx fs)) (cl:Cls K C) (ha:PySem.W.findIn K (.ref C) "__class__" = some (some (.builtin "object.__class__")))
   (hn:PySem.W.specialIn K (.builtin "object.__class__") "__get__" = some (some (.builtin "getset_descriptor.__get__"))) (htk:PySem.W.takesIn K (.builtin "object.__class__")=some true)
   (hm:PySem.W.mroIn K C (.type "object")=some true):TyOf K H (.ref a) (.ref C)
theorem qD {x:V} {t:Value} (I:Inv X pins σ H s) (rx:RelV x u) (ty:TyOf X.K H x t) (e:PySem.W.kitOne X.K t c=some b) (h:∀ tk,Q (.bool b) { s with toks:=tk }):
  wpAny (model X.prog X.w) A (call (.builtin "isinstance") [u,c]) Q E s:=by
 cases ty with
 | non=>cases (show u=Value.none from rx); exact Z7 PySem.W.kitx_none I.kIn True.intro e (λz=>nomatch z) h
 | bl y=>cases (show u=Value.bool y from rx); exact Z7 PySem.W.kitx_bool I.kIn True.intro e (λz=>nomatch z) h
 | int i=>obtain ⟨t,q⟩:=(show ∃ t,u=Value.int i t from rx); cases q; exact Z7 PySem.W.kitx_int I.kIn True.intro e (λz=>nomatch z) h
 | str y=>obtain ⟨t,q⟩:=(show ∃ t,u=Value.str y t from rx); cases q; exact Z7 PySem.W.kitx_str I.kIn True.intro e (λz=>nomatch z) h
 | flt y=>obtain ⟨t,q⟩:=(show ∃ t,u=Value.float y t from rx); cases q; exact Z7 PySem.W.kitx_float I.kIn True.intro e (λz=>nomatch z) h
 | @lst a xs ea=>
  cases (show u=Value.ref a from rx)
  obtain ⟨_,_,n,_,h1⟩:=(show bY X.prog X.w H s.heap a (.lst xs) from I.hok a _ ea)
  exact Z7 PySem.W.kitx_list I.kIn ⟨_,h1,rfl⟩ e (λz=>nomatch z) h
 | @frz a ob xs ea=>
  cases (show u=Value.ref a from rx)
  obtain ⟨_,_,_,n,_,h1⟩:=(show bY X.prog X.w H s.heap a (.frz ob (.lst xs)) from I.hok a _ ea)
  exact Z7 PySem.W.kitx_list I.kIn ⟨_,h1,rfl⟩ e (λz=>nomatch z) h
 | @tup a xs ea=>
  cases (show u=Value.ref a from rx)
  obtain ⟨_,_,_,p⟩:=(show bY X.prog X.w H s.heap a (.tup xs) from I.hok a _ ea)
  obtain ⟨o,h1,h2,_⟩:=p
  exact Z7 PySem.W.kitx_tuple I.kIn ⟨o,h1,h2⟩ e (λz=>nomatch z) h
 | @dK a kvs ea=>
  cases (show u=Value.ref a from rx)
  obtain ⟨_,_,vs,_,p⟩:=(show bY X.prog X.w H s.heap a (.dK kvs) from I.hok a _ ea)
  obtain ⟨o,es,ep,h1,h2,_⟩:=p
  exact Z7 PySem.W.kitx_dict I.kIn ⟨o,h1,h2.1⟩ e (λz=>nomatch z) h
 | @dT a kvs ea=>
  cases (show u=Value.ref a from rx)
  obtain ⟨_,_,xs,_,o,es,ep,h1,h2,_⟩:=(show bY X.prog X.w H s.heap a (.dT kvs) from I.hok a _ ea)
  exact Z7 PySem.W.kitx_dict I.kIn ⟨o,h1,h2.1⟩ e (λz=>nomatch z) h
 | @ins a C dx fs ea cl ha hn htk hm=>
  cases (show u=Value.ref a from rx)
  obtain ⟨mA,O,_⟩:=jO I.hok ea
  obtain ⟨od,J,_⟩:=O.look
  exact Z7 (PySem.W.kitx_own (cl.get _) cl.hd ha hn htk hm) I.kIn J e (λz=>nomatch z) h
end
structure Room (k:Nat) (A:Around):Prop where
 hd:A.handled=none
 dp:A.depth + 3 * k + 5 < recursionLimit
 un:A.units + 16 * k + 200 < cLine
 gd:A.guards=some []
theorem Room.mono (r:Room k A) (h:j<=k):Room j A:=⟨r.hd,by have:=r.dp; omega,by have:=r.un; omega,r.gd⟩
theorem Room.deeper (r:Room (k + 1) A) (env:Env):Room k (A.deeper env):=
 ⟨r.hd,by have:=r.dp; show A.depth + 1 + 3 * k + 5 < _; omega,by have:=r.un; show A.units + 3 + 16 * k + 200 < _; omega,r.gd⟩
theorem oN {kw:List (Str × Value)}:(A.under (.builtin "type.__call__" ⟨.ref C :: us,kw⟩)).depth=A.depth + 1:=by
 first | rfl | simp [Around.under,Code.weight,Code.isCreation,Code.isGuard,Code.isCaller,Code.frames,Code.isFrame,guardIds]
theorem oO {kw:List (Str × Value)}:(A.under (.builtin "type.__call__" ⟨.ref C :: us,kw⟩)).units=A.units + 1:=by
 first | rfl | simp [Around.under,Code.cUnits,Code.frames,Code.isFrame]
theorem Room.make (r:Room (k + 1) A) (C:Addr) (us:List Value) (kw:List (Str × Value)):Room k (A.under (.builtin "type.__call__" ⟨.ref C :: us,kw⟩)):=
 ⟨r.hd,by have:=r.dp; rw [oN]; omega,by have:=r.un; rw [oO]; omega,by first | exact r.gd | (have:=r.gd; simpa [Around.under,Code.isGuard,guardIds] using this)⟩
theorem Room.depth (r:Room k A):A.depth < recursionLimit:=by have:=r.dp; omega
theorem Room.units (r:Room k A):A.units + 64 < cLine:=by have:=r.un; omega
noncomputable def DH:TA:=λ_ H Q=>Q [] H
noncomputable def Hm (ta:TE) (tr:TA):TA:=λσ H Q=>ta σ H λx H1=>tr σ H1 λxs H2=>Q (x :: xs) H2
section
variable {X:Cx} {e:Expr} {es:List Expr} {te:TE} {t:TA} {pos:Pos}
theorem DI:PA X [] DH:=λ_ _ _ _ H Q I h=>Calls.spliced_nil ⟨[],H,I,.nil,h⟩
theorem yA (ha:PE X e te) (hr:PA X es t) (hs:autoParam (starEach (e :: es) X.env=(false,eval e X.env) :: starEach es X.env) Au.h1._auto_1):PA X (e :: es) (Hm te t):=by
 intro pos pins s σ H Q I h
 rw [hs]
 show wpAny _ _ (spliced ((false,eval e X.env) :: backTo pos (starEach es X.env))) _ _ s
 refine Calls.spliced_cons (thn (ha pins s σ H _ I h) λu s1 zq=>?_)
 obtain ⟨x,H1,I1,r1,q1⟩:=zq
 exact thn (hr pos pins s1 σ H1 _ I1 q1) λus s2 zq=>ex5 zq λxs H2 I2 r2 q2=>⟨x :: xs,H2,I2,.cons r1 r2,q2⟩
noncomputable def Ke (t:TA):TE:=λσ H Q=>t σ H λxs H1=>xs.length<=sizeLine/\∀ p,H1 p=none->Q (.ref p) (upd H1 p (.tup xs))
noncomputable def Kf (t:TA):TE:=λσ H Q=>t σ H λxs H1=>xs.length<=sizeLine/\∀ p,H1 p=none->Q (.ref p) (upd H1 p (.lst xs))
theorem DJ {x1} (h:PA X es t):PE X (.Tuple es x1 pos) (Ke t):=by
 intro pins s σ H Q I hq
 refine wpAny_Tuple_spliced (thn (h pos pins s σ H _ I hq) λus s1 ⟨xs,H1,I1,r,z,q⟩=>⟨by rw [<- r.length]; exact z,?_⟩)
 have hf:H1 s1.heap.objs.size=none:=I1.hok.fresh (Yd _)
 refine ⟨.ref s1.heap.objs.size,upd H1 s1.heap.objs.size (.tup xs),I1.laid (t':=s1.toks) (λb u e=>Y8 _ e) (Yd _) ?_,rfl,q _ hf⟩
 exact ⟨z,us,r,⟨_,Yp _ rfl,rfl,_,rfl⟩⟩
theorem se (h:PA X es t):PE X (.List es pos) (Kf t):=by
 intro pins s σ H Q I hq
 refine wpAny_List_spliced (thn (h pos pins s σ H _ I hq) λus s1 ⟨xs,H1,I1,r,z,q⟩=>⟨by rw [<- r.length]; exact z,?_⟩)
 have hf:H1 s1.heap.objs.size=none:=I1.hok.fresh (Yd _)
 refine ⟨.ref s1.heap.objs.size,upd H1 s1.heap.objs.size (.lst xs),I1.laid (t':=s1.toks) (λb u e=>Y8 _ e) (Yd _) ?_,rfl,q _ hf⟩
 exact ⟨z,us,0,r,Yp _ rfl⟩
end
noncomputable abbrev Sp:=List V->Hp->VK->XK->Prop
noncomputable abbrev CXT:=List Env->Hp->Shared->XK->Value->Shared->Prop
structure Env0 (P:Program) (w:World) (K:PySem.W.Frag) (mg:Str->Option Value) (base:Heap) (A:Around) (outer:List Env) (s:Shared) (H:Hp):Prop where
 frames:A.frames=some outer
 mod:Mod K mg base
 bs:∀ b o,base.get? b=some o->s.heap.get? b=some o/\H b=none
 bsz:base.objs.size<=s.heap.objs.size
 funs:s.heap.FunFrames base outer
 frf:∀ b ∈ frs outer,H b=none
 hok:HOk P w H s.heap
 bare:AllBare s.gens
def CE (outer:List Env) (P:Program) (w:World) (H:Hp) (s:Shared) (Q:VK) (u:Value) (s':Shared):Prop:=
 ∃ v H',s'.os=s.os/\AllBare s'.gens/\Un (frs outer) [] H H' s.heap s'.heap/\HOk P w H' s'.heap/\RelV v u/\Q v H'
def CR (CX:CXT) (outer:List Env) (P:Program) (w:World) (H:Hp) (s:Shared) (Q:VK) (E:XK) (r:Result) (s':Shared):Prop:=
 match r with
 | .ok (.ret u)=>CE outer P w H s Q u s'
 | .ok _=>False
 | .error e=>CX outer H s E e s'
structure FnOk (P:Program) (w:World) (K:PySem.W.Frag) (mg:Str->Option Value) (base:Heap) (CX:CXT) (k:Nat) (f:Addr) (fd:FuncData) (ps:List Str) (sp:Sp):Prop where
 len:∀ vs H Q E,sp vs H Q E->vs.length=ps.length
 run:∀ (A:Around) (outer:List Env) (s:Shared) (H:Hp) (args:Args) (us:List Value) (vs:List V) (Q:VK) (E:XK),Room k A->Env0 P w K mg base A outer s H->BindsTo s fd args (ps.zip us)->Vals vs us->sp vs H Q E->
  codeAny (model P w) A (.call (.ref f) args) (CR CX outer P w H s Q E) s
theorem FnOk.mono {K:PySem.W.Frag} {mg:Str->Option Value} {base:Heap} {CX:CXT} {f:Addr} {fd:FuncData} {ps:List Str} {sp:Sp} (F:FnOk P w K mg base CX j f fd ps sp) (h:j<=k):
  FnOk P w K mg base CX k f fd ps sp:=⟨F.len,λA outer s H args us vs Q E hr=>F.run A outer s H args us vs Q E (hr.mono h)⟩
theorem Env0.make {K:PySem.W.Frag} {mg:Str->Option Value} {base:Heap} {outer:List Env} (e:Env0 P w K mg base A outer s H) (C:Addr) (us:List Value) (kw:List (Str × Value)):
  Env0 P w K mg base (A.under (.builtin "type.__call__" ⟨.ref C :: us,kw⟩)) outer s H:=⟨by first | exact e.frames | (simpa [Around.under,Code.envs,Code.isFrame,pushEnvs] using e.frames),e.mod,e.bs,e.bsz,e.funs,e.frf,e.hok,e.bare⟩
section
variable {X:Cx} {pins:List (Addr × Obj)} {σ:St} {H:Hp} {s s':Shared}
theorem Inv.env0 (I:Inv X pins σ H s):Env0 X.prog X.w X.K X.mg X.base X.A X.stack s H:=
 ⟨I.ok.frames,I.ok.mod,I.bs,Z9 I.ok.bsz I.sz,I.stack,I.stkFree,I.hok,I.bare⟩
theorem Inv.after {Q:VK} (I:Inv X pins σ H s) (h:CE X.stack X.prog X.w H s Q u s'):EP X pins σ Q u s':=by
 obtain ⟨v,H',os,bare,un,hok,r,q⟩:=h
 obtain ⟨hh,g,d,t,os'⟩:=s'
 obtain rfl:os'=s.os:=os
 exact ⟨v,H',I.call (h':=hh) (g':=g) (d':=d) (t':=t) (ch:=[]) un hok bare (λb z=>absurd z (by simp)),r,q⟩
end
noncomputable def zV (sp:Sp) (dvs:List V) (E:XK) (t:TA):TE:=λσ H Q=>t σ H λvs H1=>sp (vs ++ dvs) H1 Q E
noncomputable def zW (C:Addr) (m:Str) (sp:Sp) (dvs:List V) (E:XK) (ta:TE) (t:TA):TE:=λσ H Q=>ta σ H λx H1=>∃ a dx fs,x=.ref a/\H1 a=some (.ins C dx fs)/\fs.lookup m=none/\
 t σ H1 λvs H2=>sp (x :: (vs ++ dvs)) H2 Q E
noncomputable def Hn (C:Addr) (sp:Sp) (dvs:List V) (E:XK) (t:TA):TE:=λσ H Q=>t σ H λvs H1=>∀ x dx,H1 x=none->H1 dx=none->dx ≠ x->
 sp (.ref x :: (vs ++ dvs)) (upd (upd H1 dx (.own x)) x (.ins C dx [])) (λv H2=>v=.non/\Q (.ref x) H2) E
def Binds (K:PySem.W.Frag) (fd:FuncData) (ps:List Str) (ds:List Value):Prop:=
 ∀ (s:Shared) (us:List Value),K.In s.heap->(us ++ ds).length=ps.length->BindsTo s fd ⟨us,[]⟩ (ps.zip (us ++ ds))
theorem Binds.all {K:PySem.W.Frag} {fd:FuncData} {ps:List Str} (h:∀ us:List Value,us.length=ps.length->bindArgs fd ⟨us,[]⟩=pure (ps.zip us)):Binds K fd ps []:=λs us _ hl=>by
 rw [Z8] at hl ⊢
 exact .of_eq (h us hl)
def Passes (CX:CXT) (X:Cx) (E:XK):Prop:=∀ (pins:List (Addr × Obj)) (σ:St) (H:Hp) (s:Shared) (e:Value) (s':Shared),Inv X pins σ H s->CX X.stack H s E e s'->X.xe e s'
section
variable {X:Cx} {CX:CXT} {k:Nat} {f C:Addr} {fd:FuncData} {ps:List Str} {sp:Sp} {dvs:List V} {ds:List Value} {E:XK} {x m:Str} {p pos apos:Pos} {e o:Expr} {es:List Expr} {ta:TE} {t:TA}
theorem mi {pins:List (Addr × Obj)} {σ:St} {H:Hp} {s:Shared} {Q:VK} {us:List Value} {vs:List V} (F:FnOk X.prog X.w X.K X.mg X.base CX k f fd ps sp) (hr:Room k X.A) (hb:Binds X.K fd ps ds) (hd:Vals dvs ds) (hx:Passes CX X E)
  (I:Inv X pins σ H s) (r:Vals vs us) (h:sp (vs ++ dvs) H Q E):wpAny (model X.prog X.w) X.A (call (.ref f) us) (EP X pins σ Q) X.xe s:=by
 have r2:Vals (vs ++ dvs) (us ++ ds):=r.append hd
 have hl:(us ++ ds).length=ps.length:=by rw [<- r2.length]; exact F.len _ _ _ _ h
 refine V8 (Wg (F.run X.A X.stack s H ⟨us,[]⟩ (us ++ ds) (vs ++ dvs) Q E hr I.env0 (hb s us I.kIn hl) r2 h) λr s' hq=>?_)
 cases r with
 | error e=>exact hx pins σ H s e s' I hq
 | ok fl=>
  cases fl with
  | ret u=>exact I.after hq
  | next=>exact False.elim hq
  | brk=>exact False.elim hq
  | cont=>exact False.elim hq
theorem pC (F:FnOk X.prog X.w X.K X.mg X.base CX k f fd ps sp) (hr:Room k X.A) (hg:Gl X x) (hm:X.mg x=some (.ref f)) (hk:PySem.W.keepIn X.K (.ref f)=true) (hb:Binds X.K fd ps ds) (hd:Vals dvs ds) (hx:Passes CX X E)
  (ha:PA X (e :: es) t) (hdb:autoParam ((x == ("__debug__":Str))=false) Au.h2._auto_1) (he:autoParam (starEach (e :: es) X.env=(false,eval e X.env) :: starEach es X.env) Au.h1._auto_1) (hpl:autoParam ((backTo pos (starEach es X.env)).any (·.1)=false) Au.h1._auto_1):
  PE X (.Call (.Name x p) (e :: es) [] pos) (zV sp dvs E t):=by
 intro pins s σ H Q I h
 refine Qj (gE I hg hm ?_ hdb)
 refine W2 (h₀:=X.base) I.ok.mod.kin hk (thn (ha pos pins s σ H _ I h) λus s1 zq=>ex5 zq λvs H1 I1 r q=>⟨I1.kIn,?_⟩) he hpl
 exact mi F hr hb hd hx I1 r q
theorem pD {pl:Sem Bool} (he:PE X o ta) (c:Cls X.K C) (hm:Meth X.K C m f) (F:FnOk X.prog X.w X.K X.mg X.base CX k f fd ps sp) (hr:Room k X.A) (hb:Binds X.K fd ps ds) (hd:Vals dvs ds) (hx:Passes CX X E) (ha:PA X (e :: es) t)
  (hst:autoParam (starEach (e :: es) X.env=(false,eval e X.env) :: starEach es X.env) Au.h1._auto_1) (hpl:autoParam ((backTo pos (starEach es X.env)).any (·.1)=false) Au.h1._auto_1)
  (ht:autoParam (eval (.Call (.Attribute o m apos) (e :: es) [] pos) X.env=(do
   let ov <- eval o X.env
   standAt apos.atName
   let (f,first) <- holding [ov] (getMethod ov m pl)
   callWith pos f first (backTo pos (starEach (e :: es) X.env)) (backToKw pos (keywordEach [] X.env)))) Au.h1._auto_1):
  PE X (.Call (.Attribute o m apos) (e :: es) [] pos) (zW C m sp dvs E ta t):=by
 intro pins s σ H Q I h
 refine PySem.W.methodCall_KW (pl:=pl) (thn (he pins s σ H _ I h) λu s1 zq=>?_) ht
 obtain ⟨x,H1,I1,rx,a,dx,fs,ex,ea,l,q⟩:=zq
 subst ex
 obtain rfl:u=Value.ref a:=rx
 refine j1 I1 ea c hm l ?_
 refine W2 (first:=[.ref a]) (h₀:=X.base) I.ok.mod.kin hm.kp (thn (ha pos pins s1 σ H1 _ I1 q) λus s2 zq=>ex5 zq λvs H2 I2 r q2=>⟨I2.kIn,?_⟩) hst hpl
 exact mi (us:=.ref a :: us) (vs:=.ref a :: vs) F hr hb hd hx I2 (.cons rfl r) q2
theorem nv {pl:Sem Bool} (he:PE X o ta) (c:Cls X.K C) (hm:Meth X.K C m f) (F:FnOk X.prog X.w X.K X.mg X.base CX k f fd ps sp) (hr:Room k X.A) (hb:Binds X.K fd ps ds) (hd:Vals dvs ds) (hx:Passes CX X E)
  (ht:autoParam (eval (.Call (.Attribute o m apos) [] [] pos) X.env=(do
   let ov <- eval o X.env
   standAt apos.atName
   let (f,first) <- holding [ov] (getMethod ov m pl)
   callWith pos f first (backTo pos (starEach [] X.env)) (backToKw pos (keywordEach [] X.env)))) Au.h1._auto_1):
  PE X (.Call (.Attribute o m apos) [] [] pos) (zW C m sp dvs E ta DH):=by
 intro pins s σ H Q I h
 refine PySem.W.methodCall_KW (pl:=pl) (thn (he pins s σ H _ I h) λu s1 zq=>?_) ht
 obtain ⟨x,H1,I1,rx,a,dx,fs,ex,ea,l,q⟩:=zq
 subst ex
 obtain rfl:u=Value.ref a:=rx
 refine j1 I1 ea c hm l ?_
 exact PySem.W.callWith_K0 (first:=[.ref a]) I1.kIn hm.kp (mi (us:=[.ref a]) (vs:=[.ref a]) F hr hb hd hx I1 (.cons rfl .nil) q)
structure Mk (K:PySem.W.Frag) (C f:Addr):Prop where
 makes:PySem.W.makesIn K C=true
 init:PySem.W.findIn K (.ref C) "__init__" = some (some (.ref f))
 fn:PySem.W.isFn K (.ref f)=true
 kp:PySem.W.keepIn K (.ref C)=true
theorem sf {pins:List (Addr × Obj)} {σ:St} {H:Hp} {s:Shared} {Q:VK} {us:List Value} {vs:List V} (M:Mk X.K C f) (F:FnOk X.prog X.w X.K X.mg X.base CX k f fd ps sp) (hr:Room (k + 1) X.A) (hb:Binds X.K fd ps ds) (hd:Vals dvs ds)
  (hx:Passes CX X E) (I:Inv X pins σ H s) (r:Vals vs us)
  (h:∀ x dx,H x=none->H dx=none->dx ≠ x->sp (.ref x :: (vs ++ dvs)) (upd (upd H dx (.own x)) x (.ins C dx [])) (λv H2=>v=.non/\Q (.ref x) H2) E):
  wpAny (model X.prog X.w) X.A (call (.ref C) us) (EP X pins σ Q) X.xe s:=by
 have hq:=h (s.heap.objs.size + 1) s.heap.objs.size (I.hok.fresh (Vh _)) (I.hok.fresh (Yd _)) (Yr (Wc _))
 have I2:=Inv.made (C:=C) I
 have r2:Vals (V.ref (s.heap.objs.size + 1) :: (vs ++ dvs)) (Value.ref (s.heap.objs.size + 1) :: (us ++ ds)):=.cons rfl (r.append hd)
 have hl:(Value.ref (s.heap.objs.size + 1) :: us ++ ds).length=ps.length:=by
  have e:=r2.length
  rw [F.len _ _ _ _ hq] at e
  exact e.symm
 refine V8 (sd (f:=f) I.kIn M.makes M.init (Qi.mp M.fn) (Wg (F.run _ X.stack _ _ ⟨Value.ref (s.heap.objs.size + 1) :: us,[]⟩ (Value.ref (s.heap.objs.size + 1) :: (us ++ ds)) _ _ E (hr.make C us [])
  (I2.env0.make C us []) (hb _ (Value.ref (s.heap.objs.size + 1) :: us) I2.kIn hl) r2 hq) λr s' hq'=>?_))
 cases r with
 | error e=>exact hx pins σ _ _ e s' I2 hq'
 | ok fl=>
  cases fl with
  | ret u=>
   obtain ⟨v,H',I3,rv,ev,q3⟩:=I2.after hq'
   subst ev
   exact ⟨rv,⟨V.ref (s.heap.objs.size + 1),H',I3,rfl,q3⟩⟩
  | next=>exact False.elim hq'
  | brk=>exact False.elim hq'
  | cont=>exact False.elim hq'
theorem sg (M:Mk X.K C f) (F:FnOk X.prog X.w X.K X.mg X.base CX k f fd ps sp) (hr:Room (k + 1) X.A) (hg:Gl X x) (hm:X.mg x=some (.ref C)) (hb:Binds X.K fd ps ds) (hd:Vals dvs ds) (hx:Passes CX X E)
  (hdb:autoParam ((x == ("__debug__":Str))=false) Au.h2._auto_1):PE X (.Call (.Name x p) [] [] pos) (Hn C sp dvs E DH):=by
 intro pins s σ H Q I h
 refine Qj (gE I hg hm ?_ hdb)
 exact PySem.W.callWith_K0 I.kIn M.kp (sf (us:=[]) M F hr hb hd hx I .nil h)
end
structure FnScope (N P:List Str) (sc:Scope):Prop where
 kind:sc.kind=.function
 co:sc.isCoroutine=false
 gen:sc.isGenerator=false
 nd:N.Nodup
 pre:N.take P.length=P
 par:∀ x ∈ P,sc.names.lookup x=some .local \/ sc.names.lookup x=some .cell
 nofree:∀ y ∈ sc.names,y.2 ≠ .free
theorem lz:∀ {binds:List (Str × Value)} {m:Str->Option Value},(∀ v,(x,v) ∉ binds)->bindL kindOf binds m x=m x
 | [],_,_=>rfl
 | (n,v) :: r,m,h=>by
  unfold bindL
  rw [lz λw hw=>h w (Ys _ hw)]
  split
  ·have:x ≠ n:=by rintro rfl; exact h v Yz
   simp [this]
  ·rfl
theorem lD:∀ {binds:List (Str × Value)} {m:Str->Option Value},(∀ v,(x,v) ∉ binds)->bindC kindOf binds m x=m x
 | [],_,_=>rfl
 | (n,v) :: r,m,h=>by
  unfold bindC
  rw [lD λw hw=>h w (Ys _ hw)]
  split
  ·rfl
  ·have:x ≠ n:=by rintro rfl; exact h v Yz
   simp [this]
theorem lE {v:Value}:∀ {P:List Str} {vs:List Value} {i:Nat} {m:Str->Option Value},P.Nodup->P[i]?=some x->vs[i]?=some v->kindOf x=some .local->
  bindL kindOf (P.zip vs) m x=some v
 | [],_,_,_,_,h,_,_=>by simp at h
 | _ :: _,[],_,_,_,_,h,_=>by simp at h
 | p :: P,w :: vs,0,m,nd,h1,h2,hk=>by
  simp at h1 h2; subst h1; subst h2
  show bindL kindOf ((p,w) :: P.zip vs) m p=_
  unfold bindL
  rw [lz λv hv=>(Wh.mp nd).1 (Wi hv).1,Y9 hk]
  simp
 | p :: P,w :: vs,i + 1,m,nd,h1,h2,hk=>by
  show bindL kindOf ((p,w) :: P.zip vs) m x=_
  unfold bindL
  exact lE (i:=i) (Wh.mp nd).2 (by simpa using h1) (by simpa using h2) hk
theorem lF {v:Value}:∀ {P:List Str} {vs:List Value} {i:Nat} {m:Str->Option Value},P.Nodup->P[i]?=some x->vs[i]?=some v->kindOf x ≠ some .local->
  bindC kindOf (P.zip vs) m x=some v
 | [],_,_,_,_,h,_,_=>by simp at h
 | _ :: _,[],_,_,_,_,h,_=>by simp at h
 | p :: P,w :: vs,0,m,nd,h1,h2,hk=>by
  simp at h1 h2; subst h1; subst h2
  show bindC kindOf ((p,w) :: P.zip vs) m p=_
  unfold bindC
  rw [lD λv hv=>(Wh.mp nd).1 (Wi hv).1,Yg hk]
  simp
 | p :: P,w :: vs,i + 1,m,nd,h1,h2,hk=>by
  show bindC kindOf ((p,w) :: P.zip vs) m x=_
  unfold bindC
  exact lF (i:=i) (Wh.mp nd).2 (by simpa using h1) (by simpa using h2) hk
noncomputable def start (N:List Str) (vs:List V):St:=vs.map some ++ List.replicate (N.length - vs.length) none
noncomputable def gL (CX:CXT) (P:Program) (w:World) (K:PySem.W.Frag) (mg:Str->Option Value) (base:Heap) (N:List Str) (qual:Str) (scope:Scope) (f:Addr) (cd:Value) (A:Around) (outer:List Env) (s:Shared) (H:Hp) (E:XK):Cx where
 prog:=P
 w:=w
 K:=K
 mg:=mg
 base:=base
 A:=A.deeper (envOfC qual scope s.heap.objs.size f cd)
 N:=N
 s₀:=s
 H₀:=H
 env:=envOfC qual scope s.heap.objs.size f cd
 outer:=outer
 stack:=envOfC qual scope s.heap.objs.size f cd :: outer
 ex:=[]
 calm:=true
 fn:=λ_=>true
 pn:=[]
 xe:=λe s'=>wpAny (model P w) (A.deeper (envOfC qual scope s.heap.objs.size f cd)) (leaving (envOfC qual scope s.heap.objs.size f cd) e) (λ_ s''=>CX outer H s E e s'') (λe' s''=>CX outer H s E e' s'') s'
theorem ny {sc:Scope} {n:Nat} (h:sc.names.lookup x=some .cell):∃ c,(cellsFrom n sc.names []).lookup x=some c:=by
 have q:=Wa sc.names n [] (.inl h)
 exact Option.isSome_iff_exists.mp q
theorem lG {CX:CXT} {P:Program} {w:World} {K:PySem.W.Frag} {mg:Str->Option Value} {base:Heap} {N ps:List Str} {qual:Str} {scope:Scope} {f:Addr} {cd:Value} {A:Around} {outer:List Env} {s s1:Shared} {H:Hp} {E:XK} {us:List Value} {vs:List V}
  (S:FnScope N ps scope) (hd:A.handled=none) (e0:Env0 P w K mg base A outer s H) (hl:vs.length=ps.length) (r:Vals vs us)
  (x:InCallC s s.heap.objs.size (bindL (envOfC qual scope s.heap.objs.size f cd).kindOf (ps.zip us) λ_=>none) (cellsFrom (s.heap.objs.size + 1) scope.names []) (bindC (envOfC qual scope s.heap.objs.size f cd).kindOf (ps.zip us) λ_=>none) s1):
  Inv (gL CX P w K mg base N qual scope f cd A outer s H E) [] (start N vs) H s1:=by
 have hpl:ps.length<=N.length:=by have:=Zs List.length S.pre; rw [We] at this; omega
 obtain ⟨h1,tk,rfl,hk⟩:=x.done
 have noA:∀ b:Addr,b ∉ (gL CX P w K mg base N qual scope f cd A outer s H E).ex:=λb z=>absurd (show b ∈ ([]:List Addr) from z) (by simp)
 refine ⟨⟨e0.mod,S.kind,rfl,rfl,Yd _,λy z c h1 h2=>?_,λy hy=>?_,λy c _ h=>?_,λ_=>hd,Around.frames_deeper e0.frames,.inr ⟨rfl,rfl⟩,λb z=>absurd z (noA b),e0.bs,e0.bsz,λb _ _=>noA b,λb z=>absurd z (noA b),e0.funs,e0.frf⟩,
  rfl,e0.bare,Un.kept hk,⟨_,x.toInCall.ns,λi y v h1 h2 h3=>?_⟩,λy c h=>⟨_,x.cell y c h⟩,e0.hok.fresh (Yd _),λy c h=>?_,λp hp=>absurd (show p ∈ ([]:List (Addr × Obj)) from hp) (by simp),e0.hok.kept hk,?_⟩
 ·exact name_of_addr x.apart (Qf h1) (Qf h2)
 ·have hy:scope.names.lookup y=some .cell \/ scope.names.lookup y=some .free:=hy
  rcases hy with hy | hy
  ·exact ny hy
  ·exact absurd rfl (S.nofree _ (Qf hy))
 ·exact Va (x.above y c (Qf h))
 ·have hi:i < vs.length:=by
   unfold start at h2
   by_cases hi:i < vs.length
   ·exact hi
   ·rw [Zr (by simpa using hi)] at h2
    rw [Zn] at h2
    split at h2 <;> cases h2
  have ha:vs[i]?=some v:=by
   unfold start at h2
   rw [Z3 (by simpa using hi),Q3] at h2
   cases e:vs[i]? with
   | none=>rw [e] at h2; cases h2
   | some a=>rw [e] at h2; cases h2; rfl
  obtain ⟨u,hu,rv⟩:=r.get ha
  have hp:ps[i]?=some y:=by
   rw [<- S.pre,List.getElem?_take_of_lt (by omega)]; exact h1
  have ndP:ps.Nodup:=by rw [<- S.pre]; exact S.nd.sublist (List.take_sublist _ _)
  refine ⟨u,rv,?_⟩
  rcases S.par y (Zl hp) with k | k
  ·exact .inl ⟨k,lE ndP hp hu k⟩
  ·obtain ⟨c,e⟩:=ny (n:=s.heap.objs.size + 1) k
   refine .inr ⟨.inl k,c,e,?_⟩
   have q:=x.cell y c e
   rw [lF ndP hp hu (by show scope.names.lookup y ≠ _; rw [k]; decide)] at q
   exact q
 ·exact e0.hok.fresh (Va (x.above y c (Qf h)))
 ·unfold start
  show _=N.length
  rw [Yo,Ym,Qs]
  omega
theorem zX {CX:CXT} {P:Program} {w:World} {K:PySem.W.Frag} {mg:Str->Option Value} {base:Heap} {k:Nat} {f:Addr} {name qual:Str} {params:Arguments} {body:List Stmt} {scope:Scope} {dV kV doc pm cdv ct oc:Value} {an od:Option Addr}
  {osl:Array (Option Value)} {N ps:List Str} {sp:Sp} (lk:K.lookup f=some ⟨oc,od,.func (PySem.W.fnOf name qual params body scope dV kV doc pm an cdv ct),osl⟩) (hcd:PySem.W.codeIn K cdv qual=true) (S:FnScope N ps scope)
  (len:∀ vs H Q E,sp vs H Q E->vs.length=ps.length)
  (hbody:∀ (A:Around) (outer:List Env) (s:Shared) (H:Hp) (vs:List V) (Q:VK) (E:XK),Room k (A.deeper (envOfC qual scope s.heap.objs.size f cdv))->sp vs H Q E->
   ∃ t,PSs (gL CX P w K mg base N qual scope f cdv A outer s H E) body t/\t { nx:=λ_ H'=>Q .non H',rt:=Q } (start N vs) H):
  FnOk P w K mg base CX (k + 1) f (PySem.W.fnOf name qual params body scope dV kV doc pm an cdv ct) ps sp:=by
 refine ⟨len,λA outer s H args us vs Q E hr e0 hb r hsp=>?_⟩
 have hl:=len _ _ _ _ hsp
 have KX:K.In s.heap:=e0.mod.kin.keeps λb o e=>(e0.bs b o e).1
 have lim:s.heap.NoLimit:=e0.mod.nolimit.keeps λb o e=>(e0.bs b o e).1
 have hkind:∀ y ∈ ps.zip us,scope.names.lookup y.1=some .local \/ (scope.names.lookup y.1=some .cell/\((cellsFrom (s.heap.objs.size + 1) scope.names []).lookup y.1).isSome=true):=λ⟨n,v⟩ hy=>by
  rcases S.par n (Wi hy).1 with q | q
  ·exact .inl q
  ·exact .inr ⟨q,Wa _ _ _ (.inl q)⟩
 refine codeAny_call_function hr.depth (KX _ _ lk) rfl S.co S.gen rfl (PySem.W.codeRec_of KX hcd) (hb _ _ _ _ ?_)
 refine wpAny_newFunctionEnv_cells S.kind hkind λenv he s1 x=>?_
 subst he
 refine ⟨lim.keeps x.toInCall.keep,codeAny_func ?_⟩
 obtain ⟨t,ht,hq⟩:=hbody A outer s H vs Q E (hr.deeper _) hsp
 have I:Inv (gL CX P w K mg base N qual scope f cdv A outer s H E) [] (start N vs) H s1:=lG S hr.hd e0 hl r x
 refine Za (ht [] s1 (start N vs) H _ I hq) (λfl s' hs=>?_) λe s' hs=>hs
 have fin:∀ {σ':St} {H':Hp} {v:V} {u:Value},Inv (gL CX P w K mg base N qual scope f cdv A outer s H E) [] σ' H' s'->RelV v u->Q v H'->CE outer P w H s Q u s':=
  λ{σ' H' v u} J rv q=>⟨v,H',J.os,J.bare,J.base,J.hok,rv,q⟩
 cases fl with
 | ret u=>
  obtain ⟨v,σ',H',J,rv,q⟩:=hs
  exact fin J rv q
 | next=>
  obtain ⟨σ',H',J,q⟩:=hs
  exact fin (v:=V.non) (u:=Value.none) J rfl q
 | brk=>
  obtain ⟨_,_,_,q⟩:=hs
  exact False.elim q
 | cont=>
  obtain ⟨_,_,_,q⟩:=hs
  exact False.elim q
section
variable {X:Cx} {x:Str} {p pos:Pos} {e:Expr} {es:List Expr} {t:TA} {id T:String} {r:List V->Hp->VK->Prop}
noncomputable def tCB (r:List V->Hp->VK->Prop) (t:TA):TE:=λσ H Q=>t σ H λvs H1=>r vs H1 Q
theorem sh (hc:cF X (.builtin id) r) (hg:Gl X x) (hm:X.mg x=none) (hv:bootBuiltins x=some (.builtin id)) (ha:PA X (e :: es) t) (hn:autoParam (x ≠ "__name__") Au.h2._auto_1) (hdb:autoParam ((x == ("__debug__":Str))=false) Au.h2._auto_1)
  (he:autoParam (starEach (e :: es) X.env=(false,eval e X.env) :: starEach es X.env) Au.h1._auto_1) (hpl:autoParam ((backTo pos (starEach es X.env)).any (·.1)=false) Au.h1._auto_1):PE X (.Call (.Name x p) (e :: es) [] pos) (tCB r t):=by
 intro pins s σ H Q I h
 refine Qj (lZ I hg hm hv ?_ hn hdb)
 exact PyProof.Rows.callWith_builtin1 (thn (ha pos pins s σ H _ I h) λus s1 zq=>ex5 zq λvs H1 I1 r1 q1=>hc pins s1 σ H1 vs us Q I1 r1 q1) he hpl
theorem qE (hc:cF X (.type T) r) (hg:Gl X x) (hm:X.mg x=none) (hv:bootBuiltins x=some (.type T)) (ha:PA X (e :: es) t) (hn:autoParam (x ≠ "__name__") Au.h2._auto_1) (hdb:autoParam ((x == ("__debug__":Str))=false) Au.h2._auto_1)
  (he:autoParam (starEach (e :: es) X.env=(false,eval e X.env) :: starEach es X.env) Au.h1._auto_1) (hpl:autoParam ((backTo pos (starEach es X.env)).any (·.1)=false) Au.h1._auto_1):PE X (.Call (.Name x p) (e :: es) [] pos) (tCB r t):=by
 intro pins s σ H Q I h
 refine Qj (lZ I hg hm hv ?_ hn hdb)
 exact Wt (thn (ha pos pins s σ H _ I h) λus s1 zq=>ex5 zq λvs H1 I1 r1 q1=>hc pins s1 σ H1 vs us Q I1 r1 q1) he hpl
end
end L2
namespace HT
open PySem PyProof.Rows
section
variable {prog:Program} {w:World} {A:Around} {E:Value->Shared->Prop} {s:Shared}
theorem cat_tup {t b:Addr} {vs ws:List Value} {Q:Value->Shared->Prop} (ht:IsTup s.heap t vs.toArray) (hb:IsTup s.heap b ws.toArray) (hv:vs ≠ [])
  (h1:ws=[]->Q (.ref t) s) (h2:ws ≠ []->Q (.ref s.heap.objs.size) { s with heap:=s.heap.push { cls:=.type "tuple",data:=.seq (vs ++ ws).toArray } })
  (hsz:vs.length + ws.length<=sizeLine):wpAny (model prog w) A (binaryOp .Add (.ref t) (.ref b)) Q E s:=by
 obtain ⟨⟨cls,dd,data,sl⟩,ho,hc,n,hd⟩:=id ht
 obtain ⟨⟨cls2,dd2,data2,sl2⟩,ho2,hc2,n2,hd2⟩:=id hb
 simp only at hc hd hc2 hd2
 subst hc hd hc2 hd2
 have e:vs.toArray ++ ws.toArray=(vs ++ ws).toArray:=by simp
 by_cases hw:ws=[]
 ·exact concat_meets ⟨_,ho,rfl⟩ ⟨_,ho2,rfl⟩ noFill_tuple_add seq_tuple_add Wb W6 (W3 _ _)
   (tuple_addW1 t b vs.toArray ws.toArray n n2 dd dd2 sl sl2 (by simpa using hv) (by simp [hw])) ⟨ho,ho2,h1 hw⟩
 ·refine concat_meets ⟨_,ho,rfl⟩ ⟨_,ho2,rfl⟩ noFill_tuple_add seq_tuple_add Wb W6 (W3 _ _)
   (tuple_addW2 t b vs.toArray ws.toArray n n2 dd dd2 sl sl2 (by simpa using hv) (by simpa using hw) (by rw [Yk,Yk]; exact hsz)) ⟨ho,ho2,?_⟩
  rw [e]
  exact h2 hw
noncomputable def sIx (n d:Nat):Option Int->Nat
 | none=>d
 | some v=>if v < 0 then (v + (n:Int)).toNat else min v.toNat n
theorem DK (n d:Nat) (hd:d<=n) (o:Option Int):sIx n d o<=n:=by
 cases o with
 | none=>exact hd
 | some v=>
  show (if v < 0 then (v + (n:Int)).toNat else min v.toNat n)<=n
  by_cases hv:v < 0
  ·rw [Y9 hv]; omega
  ·rw [Yg hv]; exact Nat.min_le_right _ _
theorem pE (v:Int) (n d:Nat):(if v < 0 then max (v + (n:Int)) 0 else min v (n:Int))=((sIx n d (some v):Nat):Int):=by
 show (if v < 0 then max (v + (n:Int)) 0 else min v (n:Int))=(((if v < 0 then (v + (n:Int)).toNat else min v.toNat n):Nat):Int)
 by_cases hv:v < 0
 ·simp only [Y9 hv]; omega
 ·simp only [Yg hv]; omega
theorem oP (lo hi:Option Int) (n:Nat):Builtin.Slice.sliceAdjust lo hi 1 (n:Int)=(((sIx n 0 lo:Nat):Int),((sIx n n hi:Nat):Int)):=by
 have h1:¬ ((1:Int) < 0):=by omega
 unfold Builtin.Slice.sliceAdjust
 simp only [h1,Qa]
 refine Prod.ext ?_ ?_
 ·cases lo with
  | none=>rfl
  | some v=>exact pE v n 0
 ·cases hi with
  | none=>rfl
  | some v=>exact pE v n n
theorem oQ (i j:Nat):Builtin.Slice.slicePlaces (i:Int) (j:Int) 1=j - i:=by
 unfold Builtin.Slice.slicePlaces
 have h1:(1:Int) > 0:=by omega
 simp only [h1,Zm,Int.ediv_one]
 split <;> omega
theorem j2 {v:Value} {o:Option Int} {Q:Option Int->Shared->Prop} (p:IsPart v o) (h:Q o s):wpAny (model prog w) A (Builtin.Slice.slicePartIndex v) Q E s:=by
 cases p with
 | none=>exact slicePart_none h
 | int i t=>exact slicePart_int h
theorem fm {sl:Addr} {vl vu:Value} {lo hi:Option Int} {n:Nat} {Q:Int × Int × Nat->Shared->Prop} (hs:s.heap.IsSliceOf sl vl vu .none) (pl:IsPart vl lo) (pu:IsPart vu hi)
  (h:Q (((sIx n 0 lo:Nat):Int),1,sIx n n hi - sIx n 0 lo) s):wpAny (model prog w) A (Builtin.Slice.sliceApplied (.ref sl) (pure (n:Int))) Q E s:=by
 obtain ⟨os,hos,hcs,hds⟩:=id hs
 unfold Builtin.Slice.sliceApplied Builtin.Slice.sliceFields
 refine Y6 (Y6 (Zy hos hds (x:=vl) rfl (Y6 (Zy hos hds (x:=vu) rfl (Y6 (Zy hos hds (x:=.none) rfl (Ye ?_)))))))
 refine Y6 (slicePart_none ?_)
 show wpAny _ _ (if ((1:Int) == 0)=true then _ else _) _ _ s
 rw [Yg (by decide)]
 refine Y6 (j2 pl (Y6 (j2 pu (Y6 (Ye ?_)))))
 show wpAny _ _ (match Builtin.Slice.sliceAdjust lo hi 1 (n:Int) with | (lo,hi)=>pure (lo,(1:Int),Builtin.Slice.slicePlaces lo hi 1)) _ _ s
 rw [oP lo hi n]
 show wpAny _ _ (pure (((sIx n 0 lo:Nat):Int),(1:Int),Builtin.Slice.slicePlaces ((sIx n 0 lo:Nat):Int) ((sIx n n hi:Nat):Int) 1)) _ _ s
 rw [oQ]
 exact Ye h
theorem si (xs:Array Value) (i k:Nat):((List.range k).filterMap λ(m:Nat)=>xs[((i:Int) + (m:Int) * 1).toNat]?).toArray=((xs.toList.drop i).take k).toArray:=by
 have e:(λ(m:Nat)=>xs[((i:Int) + (m:Int) * 1).toNat]?)=λm=>xs[i + m]?:=by
  funext m
  have:((i:Int) + (m:Int) * 1).toNat=i + m:=by omega
  rw [this]
 rw [e]
 have:=pick_run xs i k
 rw [List.filterMap_map] at this
 have e2:((λx=>xs[x]?) ∘ λx=>i + x)=λm=>xs[i + m]?:=rfl
 rw [e2] at this
 rw [this]
theorem getItem_tuple_cut {t sl:Addr} {items:Array Value} {vl vu:Value} {lo hi:Option Int} {Q:Value->Shared->Prop} (ht:IsTup s.heap t items) (hs:s.heap.IsSliceOf sl vl vu .none) (pl:IsPart vl lo) (pu:IsPart vu hi)
  (hw:¬ (sIx items.size 0 lo=0/\sIx items.size items.size hi=items.size))
  (h:Q (.ref s.heap.objs.size) { s with heap:=s.heap.push { cls:=.type "tuple",data:=.seq ((items.toList.drop (sIx items.size 0 lo)).take (sIx items.size items.size hi - sIx items.size 0 lo)).toArray } })
  (hsz:items.size<=sizeLine):wpAny (model prog w) A (getItem (.ref t) (.ref sl)) Q E s:=by
 have htake:sizeOk (.seq ((items.toList.drop (sIx items.size 0 lo)).take (sIx items.size items.size hi - sIx items.size 0 lo)).toArray):=by
  show ((items.toList.drop (sIx items.size 0 lo)).take (sIx items.size items.size hi - sIx items.size 0 lo)).toArray.size<=sizeLine
  rw [Yk,We,Qv,Wn]
  omega
 have hj:sIx items.size items.size hi<=items.size:=DK _ _ (Yd _) hi
 obtain ⟨os,hos,hcs,hds⟩:=id hs
 have hTs:s.TypeIs (.ref sl) "slice":=⟨os,hos,hcs⟩
 unfold getItem
 try with_reducible refine Q4 ?_
 first | refine Y6 (Ye ?_) | skip
 refine Y6 (wpAny_sequenceKey ht.typeIs (by decide) ?_)
 refine Y6 (W5 (name:=Str.ofString "__getitem__") ht.typeIs Zx
  (wpAny_call_entry Zx ht.typeIs entry_tuple_getitem ?_ (args_tuple_getitem _ _)))
 show wpAny _ _ (Builtin.Tuple.tupleItemsOf (.ref t) >>= _) _ _ s
 refine Y6 (tupleItemsOf_ ht ?_)
 refine Y6 (wpAny_typeOf hTs ?_)
 rw [Y9 (by decide)]
 refine Y6 (fm hs pl pu ?_)
 have hno:¬ ((((sIx items.size 0 lo:Nat):Int) == 0 && (1:Int) == 1 && (sIx items.size items.size hi - sIx items.size 0 lo) == items.size)=true):=by
  intro q
  rw [Yt,Yt] at q
  have q1:((sIx items.size 0 lo:Nat):Int)=0:=Wu q.1.1
  have q2:sIx items.size items.size hi - sIx items.size 0 lo=items.size:=Wu q.2
  exact hw ⟨by omega,by omega⟩
 show wpAny _ _ (if (((sIx items.size 0 lo:Nat):Int) == 0 && (1:Int) == 1 && (sIx items.size items.size hi - sIx items.size 0 lo) == items.size)=true then _ else _) _ _ s
 rw [Yg hno,si]
 first
  | exact Y6 (m:=Builtin.Tuple.tupleExact _) (Q2 (Ye ⟨_,rfl,Ye h⟩) htake)
  | exact Y6 (m:=Builtin.Tuple.tupleExact _) (Q2 (Y6 (Ye (Ye ⟨_,rfl,Ye h⟩))) htake)
  | exact Y6 (Y6 (m:=Builtin.Tuple.tupleExact _) (Q2 (Ye (Ye ⟨_,rfl,Ye h⟩)) htake))
  | exact Y6 (Y6 (m:=Builtin.Tuple.tupleExact _) (Q2 (Ye ⟨_,rfl,Ye h⟩) htake))
end
end HT
namespace L2
open PySem PySem.Spec PyProof.Rows
variable {us:List Value} {H:Hp} {s:Shared} {u v:Value} {P:Program} {w:World} {X:Cx} {pos:Pos}
noncomputable abbrev TO:=St->Hp->(Option Int->Hp->Prop)->Prop
def PO (X:Cx) (e:Option Expr) (t:TO):Prop:=
 ∀ (pins:List (Addr × Obj)) (s:Shared) (σ:St) (H:Hp) (Q:Option Int->Hp->Prop),Inv X pins σ H s->t σ H Q->
  wpAny (model X.prog X.w) X.A (evalPart e X.env) (λu s'=>∃ o H',Inv X pins σ H' s'/\IsPart u o/\Q o H') X.xe s
noncomputable def yB:TO:=λ_ H Q=>Q none H
noncomputable def Ho (t:TE):TO:=λσ H Q=>t σ H λx H1=>∃ i,x=.int i/\Q (some i) H1
section
variable {X:Cx} {e:Expr} {te:TE} {lo hi:Option Expr} {tl th:TO} {pos p2:Pos}
theorem yC:PO X none yB:=by
 intro pins s σ H Q I h
 rw [evalPart_none]
 exact Ye ⟨none,H,I,.none,h⟩
theorem yD (h:PE X e te):PO X (some e) (Ho te):=by
 intro pins s σ H Q I hw
 rw [evalPart_some]
 refine thn (h pins s σ H _ I hw) λu s1 zq=>?_
 obtain ⟨x,H1,I1,r1,q1⟩:=zq
 obtain ⟨i,rfl,q⟩:=q1
 obtain ⟨t,rfl⟩:=r1
 exact ⟨some i,H1,I1,.int i t,q⟩
def SlR (X:Cx) (r:V->Option Int->Option Int->Hp->VK->Prop):Prop:=
 ∀ (pins:List (Addr × Obj)) (s:Shared) (σ:St) (H:Hp) (x:V) (v vl vu:Value) (lo hi:Option Int) (sl:Addr) (Q:VK),Inv X pins σ H s->RelV x v->s.heap.IsSliceOf sl vl vu .none->IsPart vl lo->IsPart vu hi->r x lo hi H Q->
  ∃ T id,typeLookup (.type T) "__getitem__" = pure (some (.builtin id))/\s.TypeIs v T/\wpAny (model X.prog X.w) X.A (getItem v (.ref sl)) (EP X pins σ Q) X.xe s
noncomputable def tSl (r:V->Option Int->Option Int->Hp->VK->Prop) (te:TE) (tl th:TO):TE:=λσ H Q=>te σ H λx H1=>tl σ H1 λl H2=>th σ H2 λu H3=>r x l u H3 Q
theorem sj {r:V->Option Int->Option Int->Hp->VK->Prop} (hr:SlR X r) (he:PE X e te) (hl:PO X lo tl) (hu:PO X hi th):PE X (.Subscript e (.Slice lo hi none p2) pos) (tSl r te tl th):=by
 intro pins s σ H Q I h
 refine Subscript_ (thn (he pins s σ H _ I h) λv s1 zq=>?_)
 obtain ⟨x,H1,I1,r1,q1⟩:=zq
 refine wpAny_Slice (thn (hl pins s1 σ H1 _ I1 q1) λvl s2 zq=>ex5 zq λl H2 I2 pl q2=>thn (hu pins s2 σ H2 _ I2 q2) λvu s3 zq=>?_)
 obtain ⟨u,H3,I3,pu,q3⟩:=zq
 rw [evalPart_none]
 refine Ye ?_
 have I4:Inv X pins σ H3 { s3 with heap:=s3.heap.push { cls:=.type "slice",data:=.fields #[vl,vu,.none] } }:=I3.kept (t':=s3.toks) λb ob q=>Y8 _ q
 obtain ⟨T,id,hT,ht,hg⟩:=hr pins { s3 with heap:=s3.heap.push { cls:=.type "slice",data:=.fields #[vl,vu,.none] } } σ H3 x v vl vu l u s3.heap.objs.size Q I4 r1 (Heap.IsSliceOf.new ..) pl pu q3
 show wpAny (model X.prog X.w) X.A (subscriptTail e (.Slice lo hi none p2) v (.ref s3.heap.objs.size)) (EP X pins σ Q) X.xe { s3 with heap:=s3.heap.push { cls:=.type "slice",data:=.fields #[vl,vu,.none] } }
 exact tail_any (ops:=[.ref s3.heap.objs.size,v]) ht hT hg (by with_unfolding_all rfl)
noncomputable def nz (xs:List V) (lo hi:Option Int):List V:=(xs.drop (HT.sIx xs.length 0 lo)).take (HT.sIx xs.length xs.length hi - HT.sIx xs.length 0 lo)
theorem js (xs:List V) (lo hi:Option Int):(nz xs lo hi).length<=xs.length:=by
 unfold nz
 rw [We,Qv]
 omega
noncomputable def Kg (K:PySem.W.Frag):V->Option Int->Option Int->Hp->VK->Prop:=λx lo hi H Q=>∃ a xs,x=.ref a/\SqT K H a xs/\
 ¬ (HT.sIx xs.length 0 lo=0/\HT.sIx xs.length xs.length hi=xs.length)/\∀ p,H p=none->Q (.ref p) (upd H p (.tup (nz xs lo hi)))
theorem DL:SlR X (Kg X.K):=by
 intro pins s σ H x v vl vu lo hi sl Q I rx hs pl pu h
 obtain ⟨a,xs,rfl,hx,hw,q⟩:=h
 cases rx
 obtain ⟨its,r,ht,hz⟩:=I.tuple hx
 have hlen:its.toArray.size=xs.length:=by rw [Yk]; exact r.length.symm
 refine ⟨"tuple",_,PyProof.Rows.slot_tuple_getitem.lookup,ht.typeIs,?_⟩
 refine HT.getItem_tuple_cut ht hs pl pu (by rw [hlen]; exact hw) ?_ (by rw [hlen]; exact hz)
 rw [hlen]
 refine ⟨.ref s.heap.objs.size,_,I.laid (t':=s.toks) (o:=.tup (nz xs lo hi)) (λb ob q=>Y8 _ q) (Yd _) ?_,rfl,q _ (I.hok.fresh (Yd _))⟩
 exact ⟨Z9 (js xs lo hi) hz,_,(r.drop (HT.sIx xs.length 0 lo)).take (HT.sIx xs.length xs.length hi - HT.sIx xs.length 0 lo),IsTup.new _ _⟩
noncomputable def Hq (K:PySem.W.Frag):R2:=λx y H Q=>∃ a b xs ys,x=.ref a/\y=.ref b/\SqT K H a xs/\SqT K H b ys/\xs ≠ []/\xs.length + ys.length<=sizeLine/\
 (ys=[]->Q (.ref a) H)/\(ys ≠ []->∀ p,H p=none->Q (.ref p) (upd H p (.tup (xs ++ ys))))
theorem Vals.nil_iff {xs:List V} (r:Vals xs us):us=[]↔xs=[]:=by
 cases r with
 | nil=>simp
 | cons _ _=>simp
theorem yE:OpR X (binaryOp .Add) (Hq X.K):=by
 intro pins s σ H x y v u Q I rx ry h
 obtain ⟨a,b,xs,ys,rfl,rfl,ha,hb,hx,hz,q1,q2⟩:=h
 cases rx
 cases ry
 obtain ⟨its,r1,p1,_⟩:=I.tuple ha
 obtain ⟨its2,r2,p2,_⟩:=I.tuple hb
 refine HT.cat_tup p1 p2 (λz=>hx (r1.nil_iff.mp z)) (λz=>⟨.ref a,H,I,rfl,q1 (r2.nil_iff.mp z)⟩) (λz=>?_) (by rw [<- r1.length,<- r2.length]; exact hz)
 refine ⟨.ref s.heap.objs.size,_,I.laid (t':=s.toks) (o:=.tup (xs ++ ys)) (λb ob q=>Y8 _ q) (Yd _) ?_,rfl,q2 (λw=>z (r2.nil_iff.mpr w)) _ (I.hok.fresh (Yd _))⟩
 exact ⟨by rw [Yo]; exact hz,_,r1.append r2,IsTup.new _ _⟩
end
noncomputable def ixN (n:Nat) (i:Int):Option Nat:=if 0<=i then (if i < n then some i.toNat else none) else if -(n:Int)<=i then some (i + n).toNat else none
noncomputable def atI {α:Type} (xs:List α) (i:Int):Option α:=(ixN xs.length i).bind λj=>xs[j]?
theorem pF {n:Nat} {i:Int} {j:Nat} (h:ixN n i=some j):seqIndex? i n=some j/\j < n/\-(n:Int)<=i/\i < n:=by
 unfold ixN at h
 by_cases h0:0<=i
 ·rw [Y9 h0] at h
  by_cases h1:i < n
  ·rw [Y9 h1] at h
   have e:i.toNat=j:=Z6 h
   exact ⟨by rw [seqIndex_of h0 h1,e],by omega,by omega,h1⟩
  ·rw [Yg h1] at h; cases h
 ·rw [Yg h0] at h
  by_cases h1:-(n:Int)<=i
  ·rw [Y9 h1] at h
   have e:(i + n).toNat=j:=Z6 h
   exact ⟨by rw [seqIndex_neg (by omega) h1,e],by omega,h1,by omega⟩
  ·rw [Yg h1] at h; cases h
theorem mj {α:Type} {xs:List α} {i:Int} {v:α} (h:atI xs i=some v):∃ j,seqIndex? i xs.length=some j/\xs[j]?=some v/\j < xs.length/\-(xs.length:Int)<=i/\i < xs.length:=by
 unfold atI at h
 cases e:ixN xs.length i with
 | none=>rw [e] at h; cases h
 | some j=>
  rw [e] at h
  obtain ⟨h1,h2,h3,h4⟩:=pF e
  exact ⟨j,h1,h,h2,h3,h4⟩
theorem pG {α:Type} {xs:List α} {j:Nat} {v:α} (h:xs[j]?=some v):atI xs (j:Int)=some v:=by
 have hj:j < xs.length:=(Yq.mp h).1
 have e:ixN xs.length (j:Int)=some j:=by
  unfold ixN
  rw [Y9 (by omega),Y9 (by omega)]; simp
 unfold atI; rw [e]; exact h
def mm (b:Expr):Prop:=∀ o i,subscripted b false o i=operate [o,i] (getItem o i)
def IxR (X:Cx) (r:R2):Prop:=
 ∀ (value slice:Expr) (pins:List (Addr × Obj)) (s:Shared) (σ:St) (H:Hp) (x y:V) (v u:Value) (Q:VK),Inv X pins σ H s->RelV x v->RelV y u->r x y H Q->
  subscripted slice false v u=operate [v,u] (getItem v u)->wpAny (model X.prog X.w) X.A (subscriptTail value slice v u) (EP X pins σ Q) X.xe s
def MtR (X:Cx) (id:String) (r:V->List V->Hp->VK->Prop):Prop:=
 ∀ (pins:List (Addr × Obj)) (s:Shared) (σ:St) (H:Hp) (x:V) (xs:List V) (v:Value) (us:List Value) (Q:VK),Inv X pins σ H s->RelV x v->Vals xs us->r x xs H Q->
  wpAny (model X.prog X.w) X.A (call (.builtin id) (v :: us)) (EP X pins σ Q) X.xe s
section
variable {X:Cx} {a b:Expr} {ta tb:TE} {pos:Pos}
theorem IxR.or {r r':R2} (h:IxR X r) (h':IxR X r'):IxR X (λx y H Q=>r x y H Q \/ r' x y H Q):=by
 intro value slice pins s σ H x y v u Q I rx ry q hs
 rcases q with q | q
 ·exact h value slice pins s σ H x y v u Q I rx ry q hs
 ·exact h' value slice pins s σ H x y v u Q I rx ry q hs
theorem Hr {r:R2} (hr:IxR X r) (ha:PE X a ta) (hb:PE X b tb) (hs:mm b):PE X (.Subscript a b pos) (tOp r ta tb):=by
 intro pins s σ H Q I h
 exact Subscript_ (Dw ha hb I h λv u s2 x y H2 I2 rx ry q=>hr a b pins s2 σ H2 x y v u Q I2 rx ry q (hs _ _))
noncomputable def Hs (K:PySem.W.Frag):R2:=λx y H Q=>∃ p xs i v,x=.ref p/\y=.int i/\SqL K H p xs/\atI xs i=some v/\Q v H
noncomputable def Ht (K:PySem.W.Frag):R2:=λx y H Q=>∃ p xs i v,x=.ref p/\y=.int i/\SqT K H p xs/\atI xs i=some v/\Q v H
noncomputable def Hu:R2:=λx y H Q=>∃ z i c,x=.str z/\y=.int i/\z.length<=sizeLine/\atI z.cps.toList i=some c/\Q (.str ⟨#[c]⟩) H
theorem yF:IxR X (Hs X.K):=by
 intro value slice pins s σ H x y v u Q I rx ry h hs
 obtain ⟨p,xs,i,z,rfl,rfl,hq,he,q⟩:=h
 cases rx
 obtain ⟨t,rfl⟩:=ry
 obtain ⟨its,r,pl,hz⟩:=I.list hq
 obtain ⟨j,h1,h2,h3,h4,h5⟩:=mj he
 obtain ⟨w,ew,rw'⟩:=r.get h2
 have hl:=r.length
 have hn:=g5
 have fin:EP X pins σ Q w s:=⟨z,H,I,rw',q⟩
 by_cases h0:0<=i
 ·have hj:i.toNat=j:=by
   rw [seqIndex_of h0 h5] at h1
   exact Z6 h1
  exact item_listR pl.isList h0 (by omega) (by rw [hj]; simpa using ew) fin hs
 ·have hj:(i + (its.toArray.size:Int)).toNat=j:=by
   rw [seqIndex_neg (by omega) h4] at h1
   rw [Yk,<- hl]
   exact Z6 h1
  exact subscriptTail_builtinR (x:=w) pl.isList.typeIs slot_list_getitem.lookup
   (wpAny_getItem_list_neg (Q:=λr s'=>r=w/\EP X pins σ Q r s') pl.isList (by omega) (by rw [Yk] <;> omega) (by omega) (by rw [hj]; simpa using ew) ⟨rfl,fin⟩) hs
theorem DM:IxR X (Ht X.K):=by
 intro value slice pins s σ H x y v u Q I rx ry h hs
 obtain ⟨p,xs,i,z,rfl,rfl,hq,he,q⟩:=h
 cases rx
 obtain ⟨t,rfl⟩:=ry
 obtain ⟨its,r,pl,hz⟩:=I.tuple hq
 obtain ⟨j,h1,h2,h3,h4,h5⟩:=mj he
 obtain ⟨w,ew,rw'⟩:=r.get h2
 have hl:=r.length
 have hn:=g5
 have fin:EP X pins σ Q w s:=⟨z,H,I,rw',q⟩
 exact subscriptTail_builtinR (x:=w) pl.typeIs slot_tuple_getitem.lookup
  (getItem_tuple (j:=j) (Q:=λr s'=>r=w/\EP X pins σ Q r s') pl (by omega) (by omega) (by rw [Yk,<- hl]; exact h1) (by simpa using ew) ⟨rfl,fin⟩) hs
theorem DN:IxR X Hu:=by
 intro value slice pins s σ H x y v u Q I rx ry h hs
 obtain ⟨z,i,c,rfl,rfl,hz,he,q⟩:=h
 obtain ⟨t,rfl⟩:=rx
 obtain ⟨t',rfl⟩:=ry
 obtain ⟨j,h1,h2,h3,h4,h5⟩:=mj he
 have hl:z.cps.toList.length=z.length:=by simp [Str.length]
 rw [hl] at h1 h4 h5
 have hn:=g5
 exact tail_any (typeIs_str s z t) slot_str_getitem.lookup (getItem_str (c:=c) (by
  have e1:decide (i < -(2 ^ 63:Int))=false:=Y7 (by omega)
  have e2:decide (i >= 2 ^ 63)=false:=Y7 (by omega)
  rw [e1,e2,Bool.or_false]) (by rw [h1]; simpa using h2) ⟨.str ⟨#[c]⟩,H,I.tok _,⟨_,rfl⟩,q⟩) hs
noncomputable def rIx (K:PySem.W.Frag):R2:=λx y H Q=>Hs K x y H Q \/ Ht K x y H Q \/ Hu x y H Q
theorem sk:IxR X (rIx X.K):=yF.or (DM.or DN)
theorem oR (its:List Value) (n j:Nat) (u:Value):Obj.mapSeq (·.setIfInBounds j u) { cls:=.type "list",data:=.seq its.toArray n }={ cls:=.type "list",data:=.seq (its.set j u).toArray n }:=by
 simp [Obj.mapSeq]
theorem Inv.lst {pins:List (Addr × Obj)} {σ:St} {H:Hp} {s:Shared} {p:Addr} {xs:List V} (I:Inv X pins σ H s) (h:H p=some (.lst xs)):
  ∃ (its:List Value) (n:Nat),Vals xs its/\s.heap.get? p=some { cls:=.type "list",data:=.seq its.toArray n }/\xs.length<=sizeLine:=by
 obtain ⟨z,its,n,r,e⟩:=I.hok p _ h
 exact ⟨its,n,r,e,z⟩
theorem Inv.lstUpd {pins:List (Addr × Obj)} {σ:St} {p:Addr} {xs ys:List V} {its its':List Value} {n n':Nat} {f:Obj->Obj} (I:Inv X pins σ H s) (h:H p=some (.lst xs))
  (ho:s.heap.get? p=some { cls:=.type "list",data:=.seq its.toArray n }) (hf:f { cls:=.type "list",data:=.seq its.toArray n }={ cls:=.type "list",data:=.seq its'.toArray n' }) (r:Vals ys its') (hz:ys.length<=sizeLine) (t:Nat):
  Inv X pins σ (upd H p (.lst ys)) { s with heap:=s.heap.update p f,toks:=t }:=by
 have e:(s.heap.update p f).get? p=some { cls:=.type "list",data:=.seq its'.toArray n' }:=by
  rw [Qq f ho (by rw [hf] <;> rfl),hf]
 refine I.write (x:=p) (e:=p) (by rw [h]; trivial) (.inl rfl) (λb u hb q=>(Zg _ _ (Ne.symm hb)).trans q) ⟨_,e⟩ ?_
 exact ⟨hz,its',n',r,e⟩
noncomputable def Hv:V->V->V->Hp->(Hp->Prop)->Prop:=λo i v H Q=>∃ p xs k j,o=.ref p/\i=.int k/\H p=some (.lst xs)/\ixN xs.length k=some j/\Q (upd H p (.lst (xs.set j v)))
theorem set_list:yp X Hv:=by
 intro pins s σ H o i v ov iv u Q I ro ri rv h
 obtain ⟨p,xs,k,j,rfl,rfl,hp,hj,q⟩:=h
 cases ro
 obtain ⟨t,rfl⟩:=ri
 obtain ⟨its,n,r,ho,hz⟩:=I.lst hp
 obtain ⟨h1,h2,h3,h4⟩:=pF hj
 have hl:=r.length
 have hn:=g5
 have I':Inv X pins σ (upd H p (.lst (xs.set j v))) { s with heap:=s.heap.update p (Obj.mapSeq (·.setIfInBounds j u)) }:=
  I.lstUpd hp ho (oR its n j u) (r.set rv j) (by rw [List.length_set]; exact hz) s.toks
 by_cases h0:0<=k
 ·have hk:k.toNat=j:=by
   rw [seqIndex_of h0 h4] at h1
   exact Z6 h1
  exact PySem.W.ki_setAt ho h0 (by omega) (by rw [Yk,<- hl]; exact h4) (by rw [hk]; exact ⟨_,I',q⟩)
 ·have hk:(k + (its.toArray.size:Int)).toNat=j:=by
   rw [seqIndex_neg (by omega) h3] at h1
   rw [Yk,<- hl]
   exact Z6 h1
  exact PySem.W.ki_setBack ho (by omega) (by rw [Yk,<- hl]; exact h3) (by omega) (by rw [hk]; exact ⟨_,I',q⟩)
theorem mn (lo hi:Option Int) (n:Nat):(sliceBounds lo hi none n).1=((HT.sIx n 0 lo:Nat):Int)/\(sliceBounds lo hi none n).2.1=((HT.sIx n n hi:Nat):Int)/\(sliceBounds lo hi none n).2.2=1:=by
 refine ⟨?_,?_,rfl⟩
 ·cases lo with
  | none=>simp [sliceBounds,HT.sIx]
  | some i=>
   simp only [sliceBounds,HT.sIx,Option.getD_none,show (1:Int) > 0 by decide,Zm]
   by_cases h:i < 0
   ·simp only [h,Zm] <;> omega
   ·simp only [h,Qa] <;> omega
 ·cases hi with
  | none=>simp [sliceBounds,HT.sIx]
  | some i=>
   simp only [sliceBounds,HT.sIx,Option.getD_none,show (1:Int) > 0 by decide,Zm]
   by_cases h:i < 0
   ·simp only [h,Zm] <;> omega
   ·simp only [h,Qa] <;> omega
theorem kX (its:List Value) (lo hi:Option Int):slicePick its.toArray lo hi none=((its.drop (HT.sIx its.length 0 lo)).take (HT.sIx its.length its.length hi - HT.sIx its.length 0 lo)).toArray:=by
 obtain ⟨h1,h2,h3⟩:=mn lo hi its.toArray.size
 unfold slicePick
 rw [h1,h2,h3]
 simp only [sliceRange_one,pick_run,Yk] <;> rfl
noncomputable def Kh (K:PySem.W.Frag):V->Option Int->Option Int->Hp->VK->Prop:=λx lo hi H Q=>∃ a xs,x=.ref a/\SqL K H a xs/\∀ p,H p=none->Q (.ref p) (upd H p (.lst (nz xs lo hi)))
theorem yG:SlR X (Kh X.K):=by
 intro pins s σ H x v vl vu lo hi sl Q I rx hs pl pu h
 obtain ⟨a,xs,rfl,hx,q⟩:=h
 cases rx
 obtain ⟨its,r,ht,hz⟩:=I.list hx
 have hlen:=r.length
 refine ⟨"list",_,slot_list_getitem.lookup,ht.isList.typeIs,?_⟩
 refine wpAny_getItem_list_slice ht.isList hs pl pu .none (by simp) ?_ (by rw [Yk] <;> omega)
 rw [kX,<- hlen]
 refine ⟨.ref s.heap.objs.size,_,I.laid (t':=s.toks) (o:=.lst (nz xs lo hi)) (λb ob q=>Y8 _ q) (Yd _) ?_,rfl,q _ (I.hok.fresh (Yd _))⟩
 exact ⟨Z9 (js xs lo hi) hz,_,0,(r.drop (HT.sIx xs.length 0 lo)).take (HT.sIx xs.length xs.length hi - HT.sIx xs.length 0 lo),Yp _ rfl⟩
noncomputable def gQ:V->Bool
 | .non=>true
 | .bl _=>true
 | .int _=>true
 | .str _=>true
 | _=>false
noncomputable def eqV:V->V->Bool
 | .non,.non=>true
 | .bl a,.bl b=>a == b
 | .bl a,.int b=>(if a then 1 else 0) == b
 | .int a,.bl b=>a == (if b then 1 else 0)
 | .int a,.int b=>a == b
 | .str a,.str b=>a == b
 | _,_=>false
theorem DO {A:Around} {y x:V} (ry:RelV y u) (rx:RelV x v) (fy:gQ y=true) (fx:gQ x=true):SeqAt.EqAt A s u v (eqV y x):=by
 cases y with
 | non=>
  cases ry
  cases x with
  | non=>cases rx; exact SeqAt.EqAt.same _
  | bl b=>cases rx; exact SeqAt.EqAt.none_bool b
  | int b=>obtain ⟨t,rfl⟩:=rx; exact SeqAt.EqAt.none_int b t
  | str b=>obtain ⟨t,rfl⟩:=rx; exact SeqAt.EqAt.none_str b t
  | _=>exact absurd (show false=true from fx) Yj
 | bl a=>
  cases ry
  cases x with
  | non=>cases rx; exact SeqAt.EqAt.bool_none a
  | bl b=>cases rx; exact SeqAt.EqAt.bool_bool a b
  | int b=>obtain ⟨t,rfl⟩:=rx; exact SeqAt.EqAt.bool_int a b t
  | str b=>obtain ⟨t,rfl⟩:=rx; exact SeqAt.EqAt.bool_str a b t
  | _=>exact absurd (show false=true from fx) Yj
 | int a=>
  obtain ⟨t',rfl⟩:=ry
  cases x with
  | non=>cases rx; exact SeqAt.EqAt.int_none a t'
  | bl b=>cases rx; exact SeqAt.EqAt.int_bool a t' b
  | int b=>obtain ⟨t,rfl⟩:=rx; exact SeqAt.EqAt.int_int a t' b t
  | str b=>obtain ⟨t,rfl⟩:=rx; exact SeqAt.EqAt.int_str a t' b t
  | _=>exact absurd (show false=true from fx) Yj
 | str a=>
  obtain ⟨t',rfl⟩:=ry
  cases x with
  | non=>cases rx; exact SeqAt.EqAt.str_none a t'
  | bl b=>cases rx; exact SeqAt.EqAt.str_bool a t' b
  | int b=>obtain ⟨t,rfl⟩:=rx; exact SeqAt.EqAt.str_int a t' b t
  | str b=>obtain ⟨t,rfl⟩:=rx; exact SeqAt.EqAt.str_str a t' b t
  | _=>exact absurd (show false=true from fx) Yj
 | _=>exact absurd (show false=true from fy) Yj
noncomputable def eqU (x:V) (u:Value):Bool:=match u with
 | .none=>eqV .non x
 | .bool b=>eqV (.bl b) x
 | .int i _=>eqV (.int i) x
 | .str z _=>eqV (.str z) x
 | _=>false
theorem sr {x y:V} (r:RelV y u) (f:gQ y=true):eqU x u=eqV y x:=by
 cases y with
 | non=>cases r; rfl
 | bl b=>cases r; rfl
 | int i=>obtain ⟨t,rfl⟩:=r; rfl
 | str z=>obtain ⟨t,rfl⟩:=r; rfl
 | _=>exact absurd (show false=true from f) Yj
theorem ir {x:V}:∀ {xs:List V} {us:List Value},Vals xs us->xs.all gQ=true->us.any (eqU x)=xs.any λy=>eqV y x
 | _,_,.nil,_=>rfl
 | y :: xs,u :: us,.cons r t,f=>by
  rw [V2,Yt] at f
  rw [Q5,Q5,sr r f.1,ir t f.2]
theorem gb {A:Around} {x:V} (rx:RelV x v) (fx:gQ x=true):∀ {xs:List V} {us:List Value},Vals xs us->xs.all gQ=true->∀ u ∈ us,SeqAt.EqAt A s u v (eqU x u)
 | _,_,.nil,_=>λu hu=>by cases hu
 | y :: xs,u :: us,.cons r t,f=>λu' hu=>by
  rw [V2,Yt] at f
  rcases Yn.mp hu with rfl | hu
  ·rw [sr r f.1]; exact DO r rx f.1 fx
  ·exact gb rx fx t f.2 u' hu
noncomputable def inV (x:V) (xs:List V):Bool:=xs.any λy=>eqV y x
noncomputable def rIn (K:PySem.W.Frag) (neg:Bool):R2:=λx y H Q=>∃ p xs,y=.ref p/\(SqL K H p xs \/ SqT K H p xs)/\gQ x=true/\xs.all gQ=true/\Q (.bl (if neg then !inV x xs else inV x xs)) H
theorem qF:OpR X (compareOp .In) (rIn X.K false):=by
 intro pins s σ H x y v u Q I rx ry h
 obtain ⟨p,xs,rfl,hq,fx,fs,q⟩:=h
 cases ry
 rcases hq with hq | hq
 ·obtain ⟨its,r,pl,hz⟩:=I.list hq
  refine SeqAt.in_listAt (eqU x) pl.isList (λw hw=>gb rx fx r fs w (by simpa using hw)) ⟨.bl _,H,I,rfl,?_⟩
  rw [show its.toArray.any (eqU x)=its.any (eqU x) by simp,ir r fs]
  exact q
 ·obtain ⟨its,r,pl,hz⟩:=I.tuple hq
  refine SeqAt.in_tupleAt (eqU x) pl (λw hw=>gb rx fx r fs w (by simpa using hw)) ⟨.bl _,H,I,rfl,?_⟩
  rw [show its.toArray.any (eqU x)=its.any (eqU x) by simp,ir r fs]
  exact q
theorem mq:OpR X (compareOp .NotIn) (rIn X.K true):=by
 intro pins s σ H x y v u Q I rx ry h
 obtain ⟨p,xs,rfl,hq,fx,fs,q⟩:=h
 cases ry
 rcases hq with hq | hq
 ·obtain ⟨its,r,pl,hz⟩:=I.list hq
  refine SeqAt.notIn_listAt (eqU x) pl.isList (λw hw=>gb rx fx r fs w (by simpa using hw)) ⟨.bl _,H,I,rfl,?_⟩
  rw [show its.toArray.any (eqU x)=its.any (eqU x) by simp,ir r fs]
  exact q
 ·obtain ⟨its,r,pl,hz⟩:=I.tuple hq
  refine SeqAt.notIn_tupleAt (eqU x) pl (λw hw=>gb rx fx r fs w (by simpa using hw)) ⟨.bl _,H,I,rfl,?_⟩
  rw [show its.toArray.any (eqU x)=its.any (eqU x) by simp,ir r fs]
  exact q
theorem mr:OpR X (compareOp .NotIn) (λx y H Q=>∃ i j,x=.str i/\y=.str j/\Q (.bl (!(!(Builtin.Str.occurrences j i 0 j.length 1).isEmpty))) H):=by
 intro pins s σ H x y v u Q I rx ry h
 obtain ⟨i,j,rfl,rfl,q⟩:=h
 obtain ⟨t,rfl⟩:=rx
 obtain ⟨t',rfl⟩:=ry
 exact notIn_str ⟨.bl _,H,I,rfl,q⟩
theorem mw:cF X (.builtin "len") (λxs H Q=>∃ p ys,xs=[.ref p]/\(SqL X.K H p ys \/ SqT X.K H p ys)/\Q (.int ys.length) H):=by
 intro pins s σ H xs us Q I r h
 obtain ⟨p,ys,rfl,hq,q⟩:=h
 obtain ⟨u,rfl,rx⟩:=vals1 r
 cases rx
 have hn:=g5
 rcases hq with hq | hq
 ·obtain ⟨its,r',pl,hz⟩:=I.list hq
  have hlen:=r'.length
  exact Calls.call_len_list pl.isList (by simp only [Yk] <;> omega) ⟨.int ys.length,H,I.tok _,⟨s.toks + 1,by rw [Yk,hlen]⟩,q⟩
 ·obtain ⟨its,r',pl,hz⟩:=I.tuple hq
  have hlen:=r'.length
  exact len_tuple pl (by simp only [Yk] <;> omega) ⟨.int ys.length,H,I.tok _,⟨s.toks + 1,by rw [Yk,hlen]⟩,q⟩
theorem mx:cF X (.builtin "len") (λxs H Q=>∃ z,xs=[.str z]/\z.length<=sizeLine/\Q (.int z.length) H):=by
 intro pins s σ H xs us Q I r h
 obtain ⟨z,rfl,hz,q⟩:=h
 obtain ⟨u,rfl,t,rfl⟩:=vals1 r
 have hn:=g5
 exact len_str (by omega) ⟨.int z.length,H,I.tok _,⟨_,rfl⟩,q⟩
def tyV (K:PySem.W.Frag) (T:String) (x:V) (H:Hp):Prop:=match x with
 | .str _=>T = "str"
 | .int _=>T = "int"
 | .ref p=>(T = "list"/\∃ xs,SqL K H p xs) \/ (T = "tuple"/\∃ o,K.lookup p=some o/\o.cls=.type "tuple"/\o.dict=none) \/
   (T = "dict"/\((∃ kvs,H p=some (.dK kvs)) \/ ∃ kvs,H p=some (.dT kvs))) \/ (T = "set"/\∃ S n,H p=some (.set S n))
 | _=>False
theorem su {pins:List (Addr × Obj)} {σ:St} {T:String} {x:V} (I:Inv X pins σ H s) (r:RelV x v) (ty:tyV X.K T x H):
  s.TypeIs v T/\∀ a,v=.ref a->∃ ob,s.heap.get? a=some ob/\ob.dict=none:=by
 cases x with
 | str z=>
  obtain ⟨t,rfl⟩:=r
  cases (show T = "str" from ty)
  exact ⟨typeIs_str s z t,λ_ e=>nomatch e⟩
 | int i=>
  obtain ⟨t,rfl⟩:=r
  cases (show T = "int" from ty)
  exact ⟨V9 s i t,λ_ e=>nomatch e⟩
 | ref p=>
  cases r
  rcases ty with ⟨rfl,xs,hq⟩ | ⟨rfl,o,hk,hc,hd⟩ | ⟨rfl,hk⟩ | ⟨rfl,S,n,hk⟩
  ·obtain ⟨its,_,pl,_⟩:=I.list hq
   refine ⟨pl.isList.typeIs,λa e=>?_⟩
   cases e
   obtain ⟨o,n,e,c,hd,_⟩:=pl
   exact ⟨o,e,hd⟩
  ·refine ⟨⟨o,I.kIn p o hk,hc⟩,λa e=>?_⟩
   cases e
   exact ⟨o,I.kIn _ o hk,hd⟩
  ·have z:∃ o,s.heap.get? p=some o/\o.ExactDict:=by
    rcases hk with ⟨kvs,hk⟩ | ⟨kvs,hk⟩
    ·obtain ⟨_,_,_,_,o,_,_,e,ex,_⟩:=I.hok p _ hk
     exact ⟨o,e,ex⟩
    ·obtain ⟨_,_,_,_,o,_,_,e,ex,_⟩:=I.hok p _ hk
     exact ⟨o,e,ex⟩
   obtain ⟨o,e,ex⟩:=z
   refine ⟨⟨o,e,ex.1⟩,λa e2=>?_⟩
   cases e2
   exact ⟨o,e,ex.2.1⟩
  ·obtain ⟨o,_,_,_,e,ex,_⟩:=I.hok p _ hk
   refine ⟨⟨o,e,ex.1⟩,λa e2=>?_⟩
   cases e2
   exact ⟨o,e,ex.2.1⟩
 | _=>exact False.elim ty
noncomputable def Ki (K:PySem.W.Frag) (T:String) (r:V->List V->Hp->VK->Prop) (to:TE):TE:=λσ H Q=>to σ H λx H1=>tyV K T x H1/\r x [] H1 Q
noncomputable def tBM (K:PySem.W.Frag) (T:String) (r:V->List V->Hp->VK->Prop) (to:TE) (t:TA):TE:=λσ H Q=>to σ H λx H1=>tyV K T x H1/\t σ H1 λxs H2=>r x xs H2 Q
variable {o e:Expr} {es:List Expr} {to:TE} {t:TA} {name:Str} {apos cpos:Pos} {T id:String} {r:V->List V->Hp->VK->Prop}
theorem sv (pa:PlainAttrs T) (slot:Slot T name id) (hty:typeOf (.builtin id)=pure (.type "method_descriptor")) (hm:MtR X id r) (ho:PE X o to)
  (hbase:autoParam (attributeBase o name X.env (eval o X.env)=eval o X.env) Au.h1._auto_1) (hline:autoParam ((apos.endLine == cpos.line)=true) Au.h1._auto_1):PE X (.Call (.Attribute o name apos) [] [] cpos) (Ki X.K T r to):=by
 intro pins s σ H Q I h
 refine wpAny_Call_method0_late hbase hline (thn (ho pins s σ H _ I h) λv s1 zq=>?_)
 obtain ⟨x,H1,I1,r1,ty,q1⟩:=zq
 obtain ⟨h1,h2⟩:=su I1 r1 ty
 exact ⟨T,id,pa,slot,hty,h1,h2,Calls.callWith_builtin rfl (PySem.evalArgs_none (hm pins s1 σ H1 x [] v [] Q I1 r1 .nil q1))⟩
theorem zY (pa:PlainAttrs T) (slot:Slot T name id) (hty:typeOf (.builtin id)=pure (.type "method_descriptor")) (hm:MtR X id r) (ho:PE X o to) (ha:PA X (e :: es) t)
  (hbase:autoParam (attributeBase o name X.env (eval o X.env)=eval o X.env) Au.h1._auto_1)
  (hfew:autoParam (((backTo cpos (starEach (e :: es) X.env)).all (λx=>!x.1) && (backToKw cpos (keywordEach [] X.env)).all (λx=>x.1.isSome)
   && decide ((e :: es).length + ([]:List Keyword).length + (if ([]:List Keyword).isEmpty then 0 else 1) < 30))=true) Au.h1._auto_1)
  (hline:autoParam ((apos.endLine == cpos.line)=true) Au.h1._auto_1) (hs:autoParam (starEach (e :: es) X.env=(false,eval e X.env) :: starEach es X.env) Au.h1._auto_1) (hplain:autoParam ((backTo cpos (starEach es X.env)).any (·.1)=false) Au.h1._auto_1):
  PE X (.Call (.Attribute o name apos) (e :: es) [] cpos) (tBM X.K T r to t):=by
 intro pins s σ H Q I h
 refine wpAny_Call_method_late hbase hfew hline rfl (thn (ho pins s σ H _ I h) λv s1 zq=>?_)
 obtain ⟨x,H1,I1,r1,ty,q1⟩:=zq
 obtain ⟨h1,h2⟩:=su I1 r1 ty
 refine ⟨T,id,pa,slot,hty,h1,h2,?_⟩
 have hA:=ha cpos pins s1 σ H1 _ I1 q1
 rw [hs] at hA ⊢
 refine Calls.callWith_builtin (by show (false || (backTo cpos (starEach es X.env)).any (·.1))=false; rw [hplain] <;> rfl) (Calls.evalArgs_plain ?_)
 exact thn hA λus s2 zq=>ex5 zq λvs H2 I2 r2 q2=>hm pins s2 σ H2 x vs v us Q I2 r1 r2 q2
end
def MtM (X:Cx) (id:String) (r:V->List V->Hp->VK->Prop):Prop:=
 ∀ (pins:List (Addr × Obj)) (s:Shared) (σ:St) (H:Hp) (x:V) (xs:List V) (v:Value) (us:List Value) (Q:VK),Inv X pins σ H s->RelV x v->Vals xs us->r x xs H Q->
  wpAny (model X.prog X.w) X.A (call (.builtin id) (v :: us)) (EP X pins σ Q) X.xe s
theorem Vals.one:∀ {x:V} {us:List Value},Vals [x] us->∃ u,us=[u]/\RelV x u
 | _,_,.cons r .nil=>⟨_,rfl,r⟩
theorem Vals.zero:∀ {us:List Value},Vals [] us->us=[]
 | _,.nil=>rfl
theorem Vals.dropLast {xs:List V} (h:Vals xs us):Vals xs.dropLast us.dropLast:=by
 induction h with
 | nil=>exact .nil
 | cons r t ih=>
  cases t with
  | nil=>exact .nil
  | cons q t'=>exact .cons r ih
theorem Vals.rep {xs:List V} (h:Vals xs us):∀ k:Nat,Vals (List.replicate k xs).flatten (List.replicate k us).flatten
 | 0=>.nil
 | k + 1=>by
  rw [Zq,Zq,Qb,Qb]
  exact Vals.append h (Vals.rep h k)
theorem oS {α:Type} (l:List α):l.eraseIdx (l.length - 1)=l.dropLast:=by
 induction l with
 | nil=>rfl
 | cons a r ih=>
  cases r with
  | nil=>rfl
  | cons b r=>
   have e:(a :: b :: r).length - 1=((b :: r).length - 1) + 1:=by
    have h1:(a :: b :: r).length=r.length + 2:=rfl
    have h2:(b :: r).length=r.length + 1:=rfl
    omega
   rw [e,List.eraseIdx_cons_succ,ih]
   all_goals rfl
theorem foldl_rep (its:List Value):∀ (k:Nat) (acc:List Value),
  List.foldl (λx1 x2=>x1 ++ x2) acc.toArray (List.replicate k its.toArray)=(acc ++ (List.replicate k its).flatten).toArray
 | 0,acc=>by simp
 | k + 1,acc=>by
  have e:acc.toArray ++ its.toArray=(acc ++ its).toArray:=by simp
  have e2:(acc ++ its) ++ (List.replicate k its).flatten=acc ++ (List.replicate (k + 1) its).flatten:=by
   rw [Zq,Qb,List.append_assoc]
  rw [<- e2,<- foldl_rep its k (acc ++ its),<- e,Zq,List.foldl_cons]
section
variable {X:Cx} {pins:List (Addr × Obj)} {σ:St} {H:Hp} {s:Shared} {l b:Addr} {xs ys zs:List V}
theorem Inv.lset {its its':List Value} {n:Nat} {f:Array Value->Array Value} {t':Nat} (I:Inv X pins σ H s) (hH:H l=some (.lst xs))
  (e:s.heap.get? l=some { cls:=.type "list",data:=.seq its.toArray n }) (hf:f its.toArray=its'.toArray) (hv:Vals ys its') (hz:ys.length<=sizeLine):
  Inv X pins σ (upd H l (.lst ys)) { s with heap:=s.heap.update l (Obj.mapSeq f),toks:=t' }:=by
 have q:=PySem.IsL.update e f
 rw [hf] at q
 refine I.write (x:=l) (e:=l) (by rw [hH]; exact trivial) (.inl rfl) (λb' u hb hu=>(Zg s.heap (Obj.mapSeq f) (Ne.symm hb)).trans hu) ⟨_,q⟩ ?_
 exact ⟨hz,its',_,hv,q⟩
theorem Inv.lnew {its:List Value} {t':Nat} (I:Inv X pins σ H s) (hv:Vals ys its) (hz:ys.length<=sizeLine):
  Inv X pins σ (upd H s.heap.objs.size (.lst ys)) { s with heap:=s.heap.push { cls:=.type "list",data:=.seq its.toArray },toks:=t' }:=
 I.laid (λ_ _ q=>Y8 _ q) (Yd _) ⟨hz,its,0,hv,Yp _ rfl⟩
theorem Inv.fresh (I:Inv X pins σ H s):H s.heap.objs.size=none:=I.hok.fresh (Yd _)
theorem Inv.lstM (I:Inv X pins σ H s) (hH:H l=some (.lst xs)):xs.length<=sizeLine/\∃ (its:List Value) (n:Nat),Vals xs its/\xs.length=its.length/\s.heap.get? l=some { cls:=.type "list",data:=.seq its.toArray n }:=by
 obtain ⟨z,its,n,r,e⟩:=I.hok l _ hH
 exact ⟨z,its,n,r,r.length,e⟩
theorem sx {n:Nat} (h:n<=sizeLine):Builtin.List.listTooLong n=false:=by
 unfold Builtin.List.listTooLong
 exact Y7 (by omega)
end
section
variable {X:Cx}
noncomputable def yH:V->List V->Hp->VK->Prop:=λx vs H Q=>∃ l xs y,x=.ref l/\vs=[y]/\H l=some (.lst xs)/\xs.length < sizeLine/\Q .non (upd H l (.lst (xs ++ [y])))
theorem iT:MtM X "list.append" yH:=by
 intro pins s σ H x vs v us Q I rx rv h
 obtain ⟨l,xs,y,rfl,rfl,hH,hz,q⟩:=h
 cases rx
 obtain ⟨u,rfl,ru⟩:=rv.one
 obtain ⟨z,its,n,r,hl,e⟩:=I.lstM hH
 refine Qk F.slot_list_append ⟨_,e,rfl⟩ F.entry_list_append (F.args_list_append_2 _ _) (PySem.list_append l its.toArray n u (by rw [Yk]; omega)) ⟨e,?_⟩
 refine ⟨.non,_,I.lset (its':=its ++ [u]) hH e (by simp) (r.append (.cons ru .nil)) ?_,rfl,q⟩
 rw [Yo,Zb]
 omega
noncomputable def Kj:V->List V->Hp->VK->Prop:=λx vs H Q=>∃ l xs y,x=.ref l/\vs=[]/\H l=some (.lst xs)/\xs[xs.length - 1]?=some y/\Q y (upd H l (.lst xs.dropLast))
theorem DP:MtM X "list.pop" Kj:=by
 intro pins s σ H x vs v us Q I rx rv h
 obtain ⟨l,xs,y,rfl,rfl,hH,hy,q⟩:=h
 cases rx
 have hus:=rv.zero
 subst hus
 obtain ⟨z,its,n,r,hl,e⟩:=I.lstM hH
 obtain ⟨u,hu,ru⟩:=r.get hy
 have hy':its.toArray[its.toArray.size - 1]?=some u:=by
  show its.toArray[its.length - 1]?=some u
  rw [<- Array.getElem?_toList,<- hl]
  exact hu
 refine Qk F.slot_list_pop ⟨_,e,rfl⟩ F.entry_list_pop (F.args_list_pop_1 _) (MeetsSeq.list_pop_last l its.toArray n u hy' (by rw [Yk]; omega)) ⟨e,?_⟩
 refine ⟨y,_,I.lset (its':=its.dropLast) hH e ?_ r.dropLast ?_,ru,q⟩
 ·show its.toArray.eraseIdxIfInBounds (its.toArray.size - 1)=its.dropLast.toArray
  rw [Yk,List.eraseIdxIfInBounds_toArray,oS]
 ·rw [List.length_dropLast]
  omega
noncomputable def Kk:R2:=λx y H Q=>∃ l b xs zs,x=.ref l/\y=.ref b/\H l=some (.lst xs)/\H b=some (.lst zs)/\xs.length + zs.length<=sizeLine/\∀ p,H p=none->Q (.ref p) (upd H p (.lst (xs ++ zs)))
theorem DQ:OpR X (binaryOp .Add) Kk:=by
 intro pins s σ H x y v u Q I rx ry h
 obtain ⟨l,b,xs,zs,rfl,rfl,hH,hB,hz,q⟩:=h
 cases rx
 cases ry
 obtain ⟨z,its,n,r,hl,e⟩:=I.lstM hH
 obtain ⟨z2,its2,n2,r2,hl2,e2⟩:=I.lstM hB
 refine PySem.P.add_list e e2 ?_ (by rw [Yk,Yk]; omega)
 have ea:its.toArray ++ its2.toArray=(its ++ its2).toArray:=by simp
 rw [ea]
 exact ⟨.ref _,_,I.lnew (t':=s.toks) (r.append r2) (by rw [Yo]; omega),rfl,q _ I.fresh⟩
noncomputable def Kl:R2:=λx y H Q=>∃ l k xs,x=.ref l/\y=.int k/\H l=some (.lst xs)/\-(2 ^ 63)<=k/\k < 2 ^ 63/\xs.length * k.toNat<=sizeLine/\
 ∀ p,H p=none->Q (.ref p) (upd H p (.lst (List.replicate k.toNat xs).flatten))
theorem len_rep {α:Type} (xs:List α) (k:Nat):(List.replicate k xs).flatten.length=k * xs.length:=by
 induction k with
 | zero=>simp
 | succ k ih=>rw [Zq,Qb,Yo,ih,Nat.succ_mul,Nat.add_comm]
theorem DR:OpR X (binaryOp .Mult) Kl:=by
 intro pins s σ H x y v u Q I rx ry h
 obtain ⟨l,k,xs,rfl,rfl,hH,h1,h2,hz,q⟩:=h
 cases rx
 obtain ⟨t,rfl⟩:=ry
 obtain ⟨z,its,n,r,hl,e⟩:=I.lstM hH
 have hlen:its.toArray.size * k.toNat<=sizeLine:=by rw [Yk,<- hl]; exact hz
 have hcap:¬ its.toArray.size * k.toNat > (2 ^ 63 - 1) / 8:=by
  have:(sizeLine:Nat)<=(2 ^ 63 - 1) / 8:=by decide
  omega
 have hfit:¬ (!Builtin.List.listFitsIndex k)=true:=by
  rw [fitsIndex_both h1 h2]
  exact Yj
 have hlong:¬ Builtin.List.listTooLong (its.toArray.size * k.toNat)=true:=by
  rw [sx hlen]
  exact Yj
 have hnew:List.foldl (λx1 x2=>x1 ++ x2) #[] (List.replicate (if its.toArray.isEmpty=true then 0 else k.toNat) its.toArray)=(List.replicate k.toNat its).flatten.toArray:=by
  have f0:∀ m:Nat,List.foldl (λx1 x2=>x1 ++ x2) #[] (List.replicate m its.toArray)=(List.replicate m its).flatten.toArray:=λm=>by
   have:=foldl_rep its m []
   rw [Q6] at this
   exact this
  rw [f0]
  cases its with
  | nil=>simp
  | cons a r'=>rw [Yg (by simp)]
 refine wpAny_binaryOp_repeat_ref (T:="list") (U:="int") (by decide) ⟨_,e,rfl⟩ (λs'=>V9 s' k t) noFill_list_mul F.fills_int_mul Wj repeat_list F.slot_int_index.lookup
  (Qk Wj (V9 s k t) F.entry_int_rmul (F.args_int_rmul_2 _ _) (int___rmul___int_list k t l its.toArray n)
   ⟨e,rfl,⟨_,e,rfl⟩,Qk F.slot_list_mul ⟨_,e,rfl⟩ F.entry_list_mul (F.args_list_mul_2 _ _) (AutoListH.list___mul___list_int_3 l its.toArray n k t hfit hcap hlong) ⟨e,?_⟩⟩)
 rw [hnew]
 exact ⟨.ref _,_,I.lnew (t':=s.toks) (r.rep k.toNat) (by rw [len_rep,Nat.mul_comm]; exact hz),rfl,q _ I.fresh⟩
end
section
variable {κ:Type} [DecidableEq κ]
noncomputable def putK (kvs:List (κ × V)) (k:κ) (v:V):List (κ × V):=
 if (kvs.any λkv=>decide (kv.1=k))=true then kvs.map (λkv=>if kv.1=k then (kv.1,v) else kv) else kvs ++ [(k,v)]
theorem nA (kvs:List (κ × V)) (k:κ) (v:V):(putK kvs k v).length<=kvs.length + 1:=by
 unfold putK
 split
 ·rw [Ym]; omega
 ·rw [Yo,Yv,Q1]; omega
theorem KV.any {kvs:List (κ × V)} {vs:List (κ × Value)} (r:KV kvs vs) (k:κ):(kvs.any λkv=>decide (kv.1=k))=vs.any λkv=>decide (kv.1=k):=by
 unfold KV at r
 induction r with
 | nil=>rfl
 | cons h t ih=>rw [Q5,Q5,ih,h.1]
theorem KV.repl {kvs:List (κ × V)} {vs:List (κ × Value)} (r:KV kvs vs) (k:κ) {y:V} (ry:RelV y u):
  KV (kvs.map λkv=>if kv.1=k then (kv.1,y) else kv) (vs.map λkv=>if kv.1=k then (kv.1,u) else kv):=by
 unfold KV at r ⊢
 induction r with
 | nil=>exact .nil
 | @cons p q ps qs h t ih=>
  rw [Yc,Yc]
  refine .cons ?_ ih
  obtain ⟨h1,h2⟩:=h
  by_cases e:p.1=k
  ·rw [Y9 e,Y9 (h1.symm.trans e)]; exact ⟨h1,ry⟩
  ·rw [Yg e,Yg (λz=>e (h1.trans z))]; exact ⟨h1,h2⟩
theorem KV.put {kvs:List (κ × V)} {vs:List (κ × Value)} (r:KV kvs vs) (k:κ) {y:V} (ry:RelV y u):KV (putK kvs k y) (stored vs k u):=by
 unfold putK stored
 rw [r.any k]
 by_cases e:(vs.any λkv=>decide (kv.1=k))=true
 ·rw [Y9 e,Y9 e]; exact r.repl k ry
 ·rw [Yg e,Yg e]; exact Paired.snoc r ⟨rfl,ry⟩
theorem KV.length {kvs:List (κ × V)} {vs:List (κ × Value)} (r:KV kvs vs):kvs.length=vs.length:=Paired.length r
end
theorem Hw {k:Key} (r:RelV (kV k) u):(cZ P w).is k u=true:=by
 cases k with
 | inl i=>obtain ⟨t,e⟩:=(show ∃ t,u=Value.int i t from r); subst e; exact ni P w i t
 | inr x=>obtain ⟨t,e⟩:=(show ∃ t,u=Value.str x t from r); subst e; exact nj P w x t
section
variable {P:Program} {w:World} {H:Hp} {h:Heap} {a:Addr}
theorem Hx {u:HO} (ok:HOk P w H h) (e:Rd H a u):bY P w H h a u:=e.ok ok
theorem zZ {kvs:List (Key × V)} (ok:HOk P w H h) (e:Rd H a (.dK kvs)):kvs.length<=sizeLine/\(a == sysModules)=false/\∃ vs,KV kvs vs/\h.DictOf (cZ P w) a vs:=
 show bY P w H h a (.dK kvs) from Hx ok e
theorem Hy {kvs:List (Key × V)} (ok:HOk P w H h) (e:H a=some (.dK kvs)):kvs.length<=sizeLine/\(a == sysModules)=false/\∃ vs,KV kvs vs/\h.DictOf (cZ P w) a vs:=zZ ok (.inl e)
end
section
variable {X:Cx} {pins:List (Addr × Obj)} {σ:St} {H:Hp} {s:Shared} {a:Addr} {y v:V} {u r:Value} {o:Option V} {A:Around} {E:Value->Shared->Prop}
theorem Inv.big (I:Inv X pins σ H s):sysModules < s.heap.objs.size:=by
 have h:mainGlobals < s.heap.objs.size:=(I.mod.glob.keeps I.bk).lt
 exact Nat.lt_trans (by decide) h
theorem yI {h':Heap} {t':Nat} {ob:HO} (I:Inv X pins σ H s) (mu:Mut (H a)) (hs:Heap.SameBut a s.heap h') (he:∃ q,h'.get? a=some q) (new:bY X.prog X.w (upd H a ob) h' a ob):
  Inv X pins σ (upd H a ob) { s with heap:=h',toks:=t' }:=
 I.write (x:=a) (e:=a) mu (.inl rfl) (λb q hb z=>(hs.2 b hb).trans z) he new
theorem DS {H':Hp} {h':Heap} {kvs:List (Key × V)} {vs:List (Key × Value)} (z:kvs.length<=sizeLine) (hd:(a == sysModules)=false) (rel:KV kvs vs) (dd:h'.DictOf (cZ P w) a vs):
  bY P w H' h' a (.dK kvs):=⟨z,hd,vs,rel,dd⟩
end
section
variable {X:Cx} {pins:List (Addr × Obj)} {σ:St} {H:Hp} {s:Shared} {a:Addr} {kvs:List (Key × V)} {k:Key} {u:Value} {A:Around} {E:Value->Shared->Prop}
theorem Hz {Q:Value->Shared->Prop} (I:Inv X pins σ H s) (e:Rd H a (.dK kvs)) (h:∀ t s',Inv X pins σ H s'->Q (.int kvs.length t) s'):wpAny (model X.prog X.w) A (call (.builtin "len") [.ref a]) Q E s:=by
 obtain ⟨z,hd,vs,rel,dd⟩:=zZ I.hok e
 refine call_len_dict hd dd (by rw [<- rel.length]; rw [Wr] at z; omega) ?_
 rw [<- rel.length]
 exact h _ _ (I.tok _)
end
theorem sy (h:Heap) (hb:sysModules < h.objs.size):bY P w H (h.push { cls:=.type "dict",data:=.dict #[] }) h.objs.size (.dK []):=
 ⟨Zc _,Qe.mpr (Ne.symm (Yr hb)),[],.nil,Heap.DictOf.new h⟩
noncomputable def my:List (TE × TE)->St->Hp->(List (V × V)->Hp->Prop)->Prop
 | [],_,H,Q=>Q [] H
 | (tk,tv) :: r,σ,H,Q=>tk σ H λx H1=>tv σ H1 λy H2=>my r σ H2 λps H3=>Q ((x,y) :: ps) H3
noncomputable abbrev VV:List (V × V)->List (Value × Value)->Prop:=Paired λp q=>RelV p.1 q.1/\RelV p.2 q.2
def PPs (X:Cx) (pos:Pos) (keys:List (Option Expr)) (values:List Expr) (trs:List (TE × TE)):Prop:=
 ∀ (pins:List (Addr × Obj)) (s:Shared) (σ:St) (H:Hp) (Q:List (V × V)->Hp->Prop),Inv X pins σ H s->my trs σ H Q->
  wpAny (model X.prog X.w) X.A (evalPairs (pairTrees keys values X.env pos)) (λvs s'=>∃ ps H',Inv X pins σ H' s'/\VV ps vs/\Q ps H') X.xe s
theorem yJ:PPs X pos [] [] []:=λpins s σ H Q I h=>pairTrees_nil_walk ⟨[],H,I,.nil,h⟩
theorem sD {k v:Expr} {ks:List (Option Expr)} {vs:List Expr} {tk tv:TE} {trs:List (TE × TE)} (hk:PE X k tk) (hv:PE X v tv) (hr:PPs X pos ks vs trs):
  PPs X pos (some k :: ks) (v :: vs) ((tk,tv) :: trs):=λpins s σ H Q I h=>
 pairTrees_cons_walk (thn (hk pins s σ H _ I h) λu s1 zq=>ex5 zq λx H1 I1 rx q1=>thn (hv pins s1 σ H1 _ I1 q1) λw2 s2 zq=>ex5 zq λy H2 I2 ry q2=>
  thn (hr pins s2 σ H2 _ I2 q2) λws s3 zq=>ex5 zq λps H3 I3 rel q3=>⟨(x,y) :: ps,H3,I3,.cons ⟨rx,ry⟩ rel,q3⟩)
noncomputable def e6 (kvs more:List (Key × V)):List (Key × V):=more.foldl (λacc kv=>putK acc kv.1 kv.2) kvs
theorem KV.merge:∀ {more:List (Key × V)} {rs:List (Key × Value)} {kvs:List (Key × V)} {vs:List (Key × Value)},KV more rs->KV kvs vs->KV (e6 kvs more) (merged vs rs):=by
 intro more rs kvs vs r
 unfold KV at r
 induction r generalizing kvs vs with
 | nil=>intro q; exact q
 | @cons p q ps qs h t ih=>
  intro r0
  have e:KV (putK kvs p.1 p.2) (stored vs q.1 q.2):=by
   have:=r0.put p.1 h.2
   rw [<- h.1]; exact this
  exact ih e
theorem gR:∀ (more kvs:List (Key × V)),(e6 kvs more).length<=kvs.length + more.length
 | [],kvs=>by show kvs.length<=kvs.length + 0; omega
 | p :: r,kvs=>by
  have h1:=gR r (putK kvs p.1 p.2)
  have h2:=nA kvs p.1 p.2
  show (e6 (putK kvs p.1 p.2) r).length<=_
  rw [Yv]; omega
theorem j3 {P:Program} {w:World}:∀ {kvs:List (Key × V)} {ws:List (Value × Value)},VV (kvs.map λkv=>(kV kv.1,kv.2)) ws->∃ rs,Carries (cZ P w) ws rs/\KV kvs rs
 | [],_,r=>by rw [Qt] at r; cases r; exact ⟨[],True.intro,.nil⟩
 | p :: kvs,_,r=>by
  rw [Yc] at r
  cases r with
  | @cons a b as bs h t=>
   obtain ⟨rs,c,q⟩:=j3 (P:=P) (w:=w) t
   obtain ⟨b1,b2⟩:=b
   exact ⟨(p.1,b2) :: rs,⟨Hw h.1,rfl,c⟩,.cons ⟨rfl,h.2⟩ q⟩
noncomputable def z3 (trs:List (TE × TE)):TE:=λσ H Q=>∀ p,H p=none->my trs σ (upd H p (.dK [])) λps H2=>H2 p=some (.dK [])/\∃ kvs:List (Key × V),ps=kvs.map (λkv=>(kV kv.1,kv.2))/\kvs.length<=15/\Q (.ref p) (upd H2 p (.dK (e6 [] kvs)))
theorem yK {keys:List (Option Expr)} {values:List Expr} {trs:List (TE × TE)} (h:PPs X pos keys values trs) (hall:keys.all (·.isSome)=true) (hl:keys.length=values.length) (h0:keys ≠ [])
  (h15:keys.length<=15):PE X (.Dict keys values pos) (z3 trs):=by
 intro pins s σ H Q I q
 have hn:=I.hok.fresh (Yd s.heap.objs.size)
 have I1:=I.laid (a:=s.heap.objs.size) (o:=.dK []) (h':=s.heap.push { cls:=.type "dict",data:=.dict #[] }) (t':=s.toks) (λ_ _ q=>Y8 _ q) (Yd _) (sy s.heap I.big)
 refine wpAny_Dict_walk (knd:=cZ X.prog X.w) hall hl h0 h15 (thn (h pins _ σ _ _ I1 (q _ hn)) λws s2 zq=>?_)
 obtain ⟨ps,H2,I2,rel,e,kvs,ep,lk,q2⟩:=zq
 subst ep
 obtain ⟨rs,c,rk⟩:=j3 (P:=X.prog) (w:=X.w) rel
 obtain ⟨z,hd,vs0,r0,dd⟩:=Hy I2.hok e
 cases r0
 refine ⟨rs,c,dd,λh' dd' hs=>⟨.ref s.heap.objs.size,_,?_,rfl,q2⟩⟩
 have hz:(e6 [] kvs).length<=sizeLine:=by
  have h1:=gR kvs []
  rw [Q1] at h1
  rw [Wr]; omega
 have he:∃ q,h'.get? s.heap.objs.size=some q:=let ⟨q,_,_,hq,_⟩:=dd'; ⟨q,hq⟩
 exact yI I2 (by rw [e]; exact True.intro) hs he (DS hz hd (rk.merge .nil) dd')
end L2
namespace Att
open PySem PySem.W PySem.Calls PyProof.Rows
theorem jI {P:Params} {h:Heap}:∀ (ns:List Int) (vs:List Value),WellAll P h vs (ns.map WData.int)->IntsAre vs ns:=by
 intro ns
 induction ns with
 | nil=>
  intro vs w
  rw [Qt] at w
  cases w
  exact .nil
 | cons n ns ih=>
  intro vs w
  rw [Yc] at w
  cases w with
  | cons a b=>
   cases a
   exact .cons _ _ (ih _ b)
theorem qG {l:OpenLaw} {n:Nat} (hn:l.most=some n) {P:Params} {h:Heap} {args:List WData} {vals:List Value}
  (hpre:l.row.toRowW.claim.pre args=true) (hwl:WellAll P h vals args):
  ∃ a vs ns,vals=[Value.ref a]/\args=[WData.list (ns.map WData.int)]/\h.get? a=some { cls:=.type "list",data:=.seq vs.toArray }/\IntsAre vs ns/\ns.length<=n:=by
 have hsh:WShape.hasAll [] args [.list .int]=true:=(pre_splitW hpre).1
 have hc:l.pre.holds [] { args:=args }=true:=(pre_splitW hpre).2
 obtain ⟨d,r,rfl,h1,h2⟩:=hasAllW_cons hsh
 obtain rfl:=hasAllW_nil h2
 obtain ⟨xs,rfl,h3⟩:=hasW_list h1
 obtain ⟨ns,rfl⟩:=items_int h3
 have hlen:ns.length<=n:=by
  unfold OpenLaw.pre at hc
  have h4:(WTm.not (.lt (.lit (.int (n:Int))) (.len (.arg 0)))).holds [] { args:=[.list (ns.map .int)] }=true:=by
   have h4:=(holds_andW hc).1
   rw [hn] at h4
   exact h4
  have h5:=condW_of h4 (w_not (w_lt w_lit (w_len_list (w_arg rfl))))
  rw [Ym] at h5
  refine Nat.le_of_not_lt λq=>?_
  have q':(n:Int) < ((ns.length:Nat):Int):=by omega
  first
   | (rw [Yi q'] at h5; exact absurd h5 (by decide))
   | (simp at h5; omega)
 cases hwl with
 | cons w1 w2=>
  cases w2
  cases w1 with
  | list ho hall=>exact ⟨_,_,ns,rfl,rfl,ho,jI ns _ hall,hlen⟩
theorem qH (l:OpenLaw) (args:List WData):l.row.toRowW.claim.post args (.bool true) args=true:=
 postW_of (r:=l.row.toRowW) (X:=(true == true))
  (show WShape.has [] (.bool true) .bool=true by first | rfl | decide | simp [WShape.has,WShape.arms,WShape.armsAll])
  (show (WTm.eq .res (.lit (.bool true))).value [] { args:=args,res:=some (.bool true),after:=args }=some (.bool (true == true)) from w_eq_bool (w_res rfl) w_lit) rfl
theorem attach_call {l:OpenLaw} {n:Nat} {q:Program} {loose:List Str} {XP:(Str->Option Value)->Heap->Prop} {YP:World->Heap->Prop} {d:DefRec}
  (hn:l.most=some n) (hdf:d.params.defaults=[])
  (call:∀ (w:World) (s₀ s₁:Shared) (mg mb:Str->Option Value) (fa:Addr) (o:Obj) (pm cd doc:Value) (a:Addr) (vs:List Value) (ns:List Int),
   Ground q loose [] XP w s₀ mg mb s₁.heap->YP w s₁.heap->
   s₁.heap.get? fa=some o->o.data=.func (docDef d.name d.params d.body d.scope pm cd doc)->s₁.heap.CodeRec cd d.name->mg d.name=some (.ref fa)->
   s₁.heap.get? a=some { cls:=.type "list",data:=.seq vs.toArray }->IntsAre vs ns->ns.length<=n->s₁.gens = #[]->
   codeAny (model l.prog w) callerA (.call (.ref fa) ⟨[.ref a],[]⟩) (λr s'=>r=.ok (.ret (.bool true))/\OldK s₁.heap s'.heap/\s'.os=s₁.os/\AllBare s'.gens) s₁):
  WalkO q loose XP YP l.row.toRowW d [] (λf vs=>PySem.call f vs):=by
 intro w s₀ s₁ mg mb G Y fa o pm cd doc dV kV ho hd hcd hD hmg hg args vals as hpre hlay hrd hwl hlo
 obtain rfl:dV=.none:=Dflts.none hD hdf
 obtain rfl:kV=.none:=Dflts.noKw hD
 obtain ⟨a,vs,ns,rfl,rfl,hobj,hints,hlen⟩:=qG hn hpre hwl
 refine enter_call (Wg (call w s₀ s₁ mg mb fa o pm cd doc a vs ns G Y ho (fd_plain hd) hcd hmg hobj hints hlen hg) λr s' hq=>?_)
 obtain ⟨rfl,h2,h3,h4⟩:=hq
 exact ⟨.inl ⟨.bool true,.bool true,[],rfl,λ_=>rfl,.bool true,qH l _,λ_=>⟨List.Pairwise.nil,λ_ hm=>(nomatch hm)⟩⟩,h2,h3,h4⟩
end Att
namespace L2
open PySem PySem.Spec PyProof.Rows
variable {x:Str}
theorem lH:∀ {vs:List Value} {ns:List Int},IntsAre vs ns->Vals (ns.map V.int) vs
 | _,_,.nil=>.nil
 | _,_,.cons n t h=>.cons ⟨t,rfl⟩ (lH h)
def sE (H:Hp):Prop:=∀ b,H b=none \/ ∃ o xs,H b=some (.frz o (.lst xs))
theorem sF {P:Program} {w:World} {K:PySem.W.Frag} {mg mb:Str->Option Value} {CX:CXT} {k:Nat} {fa a:Addr} {fd:FuncData} {x:Str} {sp:Sp} {s₁:Shared} {vs:List Value} {ns:List Int}
  (KX:K.In s₁.heap) (hns:s₁.heap.Ns mainGlobals mg) (hb:s₁.heap.Ns builtinsNs mb) (hbb:∀ x:Str,x ≠ "__name__"->mb x=bootBuiltins x) (hlim:s₁.heap.NoLimit) (hg:s₁.gens = #[])
  (ha:s₁.heap.get? a=some { cls:=.type "list",data:=.seq vs.toArray }) (hi:IntsAre vs ns) (hl:ns.length<=sizeLine) (hr:Room k callerA)
  (F:∀ base:Heap,K.In base->base.Ns mainGlobals mg->FnOk P w K mg base CX k fa fd [x] sp) (hbind:∀ (s:Shared) (u:Value),BindsTo s fd ⟨[u],[]⟩ [(x,u)])
  (hsp:∀ H:Hp,sE H->SqL K H a (ns.map V.int)->sp [.ref a] H (λv _=>v=.bl true) λ_ _ _=>False)
  (hCX:∀ H e s',CX [] H s₁ (λ_ _ _=>False) e s'->False):
  codeAny (model P w) callerA (.call (.ref fa) ⟨[.ref a],[]⟩) (λr s'=>r=.ok (.ret (.bool true))/\OldK s₁.heap s'.heap/\s'.os=s₁.os/\AllBare s'.gens) s₁:=by
 have rv:=lH hi
 have lenV:=hi.length
 -- from an abstract heap in which nothing but the script may be tracked
 have core:∀ H:Hp,sE H->SqL K H a (ns.map V.int)->HOk P w H s₁.heap->(∀ b,H b ≠ none->b=a)->(H a ≠ none->K.lookup a=none)->
   codeAny (model P w) callerA (.call (.ref fa) ⟨[.ref a],[]⟩) (λr s'=>r=.ok (.ret (.bool true))/\OldK s₁.heap s'.heap/\s'.os=s₁.os/\AllBare s'.gens) s₁:=by
  intro H hO hS hok hA hK
  have base_of:∀ {b:Addr} {o:Obj},s₁.heap.get? b=some o->H b=none->(lY s₁.heap H).get? b=some o:=λe n=>rL e n
  have noA:∀ {b:Addr} {o:Obj} {es:Array DictEntry} {ep:Nat},s₁.heap.get? b=some o->o.data=.dict es ep->H b=none:=λ{b o es ep} e d=>by
   cases q:H b with
   | none=>rfl
   | some u=>
    have e':b=a:=hA b (by rw [q]; simp)
    subst e'
    rw [ha] at e; cases e
    have d':Data.seq vs.toArray _=Data.dict es ep:=d
    cases d'
  have nsK:∀ {b:Addr} {m:Str->Option Value},s₁.heap.Ns b m->(lY s₁.heap H).Ns b m:=λ{b m} ⟨o,es,ep,e,d,r⟩=>⟨o,es,ep,base_of e (noA e d),d,r⟩
  have hKb:K.In (lY s₁.heap H):=λb o e=>base_of (KX b o e) (by
   cases q:H b with
   | none=>rfl
   | some u=>
    have e':b=a:=hA b (by rw [q]; simp)
    subst e'
    rw [hK (by rw [q]; simp)] at e; cases e)
  have hM:Mod K mg (lY s₁.heap H):=⟨hKb,nsK hns,⟨mb,nsK hb,hbb⟩,let ⟨mc,h1,h2⟩:=hlim; ⟨mc,nsK h1,h2⟩⟩
  have e0:Env0 P w K mg (lY s₁.heap H) callerA [] s₁ H:=⟨rfl,hM,λb o e=>yj e,Nat.le_of_eq (qp _ _),trivial,λb hb=>absurd (show b ∈ ([]:List Addr) from hb) (by simp),hok,.of_eq hg⟩
  refine Wg ((F _ hKb (nsK hns)).run callerA [] s₁ H ⟨[.ref a],[]⟩ [.ref a] [.ref a] _ _ hr e0 (hbind s₁ (.ref a)) (.cons rfl .nil) (hsp H hO hS)) λr s' h=>?_
  cases r with
  | error e=>exact (hCX H e s' h).elim
  | ok fl=>
   cases fl with
   | next=>exact False.elim h
   | brk=>exact False.elim h
   | cont=>exact False.elim h
   | ret u=>
    obtain ⟨v,H',os,bare,un,hok',r',q⟩:=h
    have q':v=.bl true:=q
    subst q'
    obtain rfl:u=Value.bool true:=r'
    refine ⟨rfl,OldK.of_keep λb o e=>?_,os,bare⟩
    cases q:H b with
    | none=>exact un.keep b o e q (by intro z; exact absurd (show b ∈ ([]:List Addr) from z) (by simp)) (by simp)
    | some u=>
     rcases hO b with z | ⟨ob,xs,z⟩
     ·rw [q] at z; cases z
     ·have z2:=un.frzs b ob _ z
      obtain ⟨e1,_⟩:=hok b _ z
      obtain ⟨e2,_⟩:=hok' b _ z2
      rw [e] at e1; cases e1
      exact e2
 cases hk:K.lookup a with
 | some o=>
  -- the script is one of the module's own objects
  have e:=KX a o hk
  rw [ha] at e
  cases e
  refine core (λ_=>none) (λ_=>.inl rfl) (.inr ⟨_,vs.toArray,_,hk,rfl,rfl,rfl,by rw [Yk,lenV]; exact hl,by simpa using rv⟩) (λb u z=>by have z':(none:Option HO)=some u:=z; cases z') (λb z=>absurd rfl z) λz=>absurd rfl z
 | none=>
  refine core (λb=>if b=a then some (.frz { cls:=.type "list",data:=.seq vs.toArray } (.lst (ns.map V.int))) else none) (λb=>?_) (.inl (.inr ⟨{ cls:=.type "list",data:=.seq vs.toArray },Y9 rfl⟩)) (λb u z=>?_) (λb z=>?_) λ_=>hk
  ·by_cases hb:b=a
   ·exact .inr ⟨_,_,Y9 hb⟩
   ·exact .inl (Yg hb)
  ·by_cases hb:b=a
   ·have z':=(Y9 hb).symm.trans z
    cases z'
    subst hb
    exact ⟨ha,by rw [Ym]; exact hl,vs,_,rv,ha⟩
   ·have z':=(Yg hb).symm.trans z
    cases z'
  ·by_cases hb:b=a
   ·exact hb
   ·exact absurd (Yg hb) z
theorem yL {l:PySem.W.OpenLaw} {n k:Nat} {q:Program} {loose:List Str} {XP:(Str->Option Value)->Heap->Prop} {YP:World->Heap->Prop} {d:DefRec} {K:Params->PySem.W.Frag} {CX:World->CXT} {sp:World->Sp} {x:Str}
  (hn:l.most=some n) (hn2:n<=sizeLine) (hdf:d.params.defaults=[]) (hr:Room k callerA)
  (hY:∀ (w:World) (h:Heap),YP w h->(K w.params).In h)
  (F:∀ (w:World) (mg:Str->Option Value) (fa:Addr) (h:Heap),(K w.params).In h->h.Ns mainGlobals mg->mg d.name=some (.ref fa)->
   ∃ fd:FuncData,(∀ (s:Shared) (u:Value),BindsTo s fd ⟨[u],[]⟩ [(x,u)])/\
    ∀ base:Heap,(K w.params).In base->base.Ns mainGlobals mg->FnOk l.prog w (K w.params) mg base (CX w) k fa fd [x] (sp w))
  (hsp:∀ (w:World) (H:Hp) (a:Addr) (ns:List Int),ns.length<=n->sE H->SqL (K w.params) H a (ns.map V.int)->sp w [.ref a] H (λv _=>v=.bl true) λ_ _ _=>False)
  (hCX:∀ (w:World) (H:Hp) (s:Shared) (e:Value) (s':Shared),CX w [] H s (λ_ _ _=>False) e s'->False):
  PySem.W.WalkO q loose XP YP l.row.toRowW d [] (λf vs=>PySem.call f vs):=by
 refine Att.attach_call hn hdf λw s₀ s₁ mg mb fa o pm cd doc a vs ns G Y ho hd hcd hmg hobj hints hlen hg=>?_
 have KX:=hY w _ Y
 obtain ⟨fd,hb,hF⟩:=F w mg fa _ KX G.T.g hmg
 exact sF KX G.T.g G.T.b G.T.builtins G.T.nolimit hg hobj hints (Z9 hlen hn2) hr hF hb (λH hO hS=>hsp w H a ns hlen hO hS) λH e s'=>hCX w H s₁ e s'
noncomputable def inClass (s:Stmt) (j:Nat):Stmt:=match s with
 | .ClassDef _ _ _ body _ _ _ _ _ _ _=>body.getD j (.Pass ⟨0,0,0,0⟩)
 | _=>.Pass ⟨0,0,0,0⟩
noncomputable def defArgs (s:Stmt):Arguments:=match s with
 | .FunctionDef _ a _ _ _ _ _ _ _ _=>a
 | _=>{ posonlyargs:=[],args:=[],vararg:=none,kwonlyargs:=[],kw_defaults:=[],kwarg:=none,defaults:=[] }
noncomputable def defBody (s:Stmt):List Stmt:=match s with
 | .FunctionDef _ _ b _ _ _ _ _ _ _=>b
 | _=>[]
noncomputable def defScope (s:Stmt):Scope:=match s with
 | .FunctionDef _ _ _ _ _ _ sc _ _ _=>sc
 | _=>{ kind:=.function,names:=[],isGenerator:=false,isCoroutine:=false }
noncomputable abbrev CX0:CXT:=λ_ _ _ _ _ _=>False
noncomputable abbrev E0:XK:=λ_ _ _=>False
structure Fun (K:PySem.W.Frag) (x qual:Str) (st:Stmt) (f:Addr) (fd:FuncData):Prop where
 ex:∃ (oc:Value) (od:Option Addr) (kV doc pm:Value) (an:Option Addr) (cdv ct:Value) (osl:Array (Option Value)),
  fd=PySem.W.fnOf x qual (defArgs st) (defBody st) (defScope st) .none kV doc pm an cdv ct/\K.lookup f=some ⟨oc,od,.func fd,osl⟩/\PySem.W.codeIn K cdv qual=true
 kp:PySem.W.keepIn K (.ref f)=true
section
variable {P:Program} {w:World} {K:PySem.W.Frag} {mg:Str->Option Value} {base:Heap}
theorem Fun.binds {qual:Str} {st:Stmt} {f:Addr} {fd:FuncData} {ps:List Str} (F:Fun K x qual st f fd)
  (h:∀ (kV doc pm:Value) (an:Option Addr) (cdv ct:Value) (us:List Value),us.length=ps.length->bindArgs (PySem.W.fnOf x qual (defArgs st) (defBody st) (defScope st) .none kV doc pm an cdv ct) ⟨us,[]⟩=pure (ps.zip us)):Binds K fd ps []:=by
 obtain ⟨oc,od,kV,doc,pm,an,cdv,ct,osl,rfl,lk,hcd⟩:=F.ex
 exact .all (h kV doc pm an cdv ct)
theorem aX {qual:Str} {st:Stmt} {f:Addr} {oc:Value} {od an:Option Addr} {osl:Array (Option Value)} {kV doc pm cdv ct:Value} (l:K.lookup f=some ⟨oc,od,.func (PySem.W.fnOf x qual (defArgs st) (defBody st) (defScope st) .none kV doc pm an cdv ct),osl⟩)
  (c:PySem.W.codeIn K cdv qual=true) (k:PySem.W.keepIn K (.ref f)=true):Fun K x qual st f (PySem.W.fnOf x qual (defArgs st) (defBody st) (defScope st) .none kV doc pm an cdv ct):=⟨⟨oc,od,kV,doc,pm,an,cdv,ct,osl,rfl,l,c⟩,k⟩
end
section
variable {X:Cx}
theorem pv (i:Nat) {pos:Pos} (hN:autoParam (X.N[i]?=some x) Au.h1._auto_1) (hv:Vis X.env.scope x) (hd:autoParam ((x == ("__debug__":Str))=false) Au.h2._auto_1)
  (hcd:autoParam ((x == ("__classdict__":Str))=false) Au.h2._auto_1):PE X (.Name x pos) (G0 i):=Dc hN hv hd hcd
end
theorem kY {A B:Prop} (h:B):if false=true then A else B:=by
 rw [Yg Yj]
 exact h
theorem kZ {A B:Prop} (h:A):if true=true then A else B:=by
 rw [Y9 rfl]
 exact h
section
variable {X:Cx}
theorem lI:cF X (.builtin "len") (λxs H Q=>∃ a kvs,xs=[V.ref a]/\H a=some (.dK kvs)/\Q (.int kvs.length) H):=by
 intro pins s σ H xs us Q I r h
 obtain ⟨a,kvs,rfl,ha,q⟩:=h
 obtain ⟨u,rfl,ru⟩:=vals1 r
 cases ru
 exact Hz I (.inl ha) λt s' I'=>⟨.int kvs.length,H,I',⟨t,rfl⟩,q⟩
end
end L2
end
set_option autoImplicit false
namespace PD
open PySem
inductive D where
 | non | bl (b:Bool) | int (i:Int) | str (x:Str)
 | tup (xs:List D) | lst (xs:List D) | fz (xs:List D) | dic (kvs:List (Sum Int Str × D)) | ref (n:Nat) | ty (n:String)
 /-- a caught exception of an own class; an own class -/
 | exc (c:Str) | cls (c:Str)
 deriving Inhabited
inductive SO where
 | lst (xs:List D) | dic (kvs:List (Sum Int Str × D)) | ins (c:Str) (fs:List (Str × D))
 /-- a dict that has been walked: read,changed no more -/
 | fdic (kvs:List (Sum Int Str × D))
 /-- a list that has been walked: read,changed no more -/
 | flst (xs:List D)
 deriving Inhabited
noncomputable abbrev Sto:=List SO
set_option genInjectivity false in
structure XD where
 cls:Str
 arg:D
 deriving Inhabited
inductive R (A:Type) where
 | ok (a:A) (S:Sto) | err (x:XD) (S:Sto) | bad
noncomputable def R.bind {A B:Type} (r:R A) (f:A->Sto->R B):R B:=match r with
 | .ok a S=>f a S | .err x S=>.err x S | .bad=>.bad
theorem R.bind_ok {A B:Type} (a:A) (S:Sto) (f:A->Sto->R B):(R.ok a S).bind f=f a S:=rfl
theorem R.bind_err {A B:Type} (x:XD) (S:Sto) (f:A->Sto->R B):(R.err (A:=A) x S).bind f=.err x S:=rfl
theorem R.bind_bad {A B:Type} (f:A->Sto->R B):(R.bad (A:=A)).bind f=.bad:=rfl
noncomputable def R.of {A:Type} (S:Sto):Option A->R A
 | some a=>.ok a S | none=>.bad
theorem R.of_some {A:Type} (S:Sto) (a:A):R.of S (some a)=.ok a S:=rfl
noncomputable abbrev Rho:=List (Option D)
noncomputable abbrev EM:=Rho->Sto->R D
noncomputable abbrev TM:=Rho->Sto->R Bool
noncomputable abbrev AM:=Rho->Sto->R (List D)
set_option genInjectivity false in
inductive F where
 | nx (r:Rho) | rt (d:D) | bk (r:Rho) | ct (r:Rho)
noncomputable abbrev SM:=Rho->Sto->R F
noncomputable abbrev FM:=List D->Sto->R D
noncomputable def af (i:Nat):EM:=λr S=>match r[i]? with
 | some (some d)=>.ok d S
 | _=>.bad
noncomputable def eC (d:D):EM:=λ_ S=>.ok d S
noncomputable def eUn (f:Sto->D->Option D) (a:EM):EM:=λr S=>(a r S).bind λx S1=>R.of S1 (f S1 x)
noncomputable def eOp (f:Sto->D->D->Option D) (a b:EM):EM:=λr S=>(a r S).bind λx S1=>(b r S1).bind λy S2=>R.of S2 (f S2 x y)
noncomputable def eI (f g:Sto->D->D->Option D) (a b c:EM):EM:=λr S=>(a r S).bind λx S1=>(b r S1).bind λy S2=>match f S2 x y with
 | some (.bl true)=>(c r S2).bind λz S3=>R.of S3 (g S3 y z)
 | some (.bl false)=>.ok (.bl false) S2
 | _=>.bad
noncomputable def la (a b:EM):EM:=λr S=>(a r S).bind λx S1=>match x with
 | .bl true=>b r S1
 | .bl false=>.ok (.bl false) S1
 | _=>.bad
noncomputable def eOr (a b:EM):EM:=λr S=>(a r S).bind λx S1=>match x with
 | .bl true=>.ok (.bl true) S1
 | .bl false=>b r S1
 | _=>.bad
noncomputable def DT (a:EM):EM:=λr S=>(a r S).bind λx S1=>match x with
 | .bl b=>.ok (.bl (!b)) S1
 | _=>.bad
noncomputable def eIf (t:TM) (a b:EM):EM:=λr S=>(t r S).bind λc S1=>if c=true then a r S1 else b r S1
noncomputable def aj:AM:=λ_ S=>.ok [] S
noncomputable def aa (a:EM) (t:AM):AM:=λr S=>(a r S).bind λx S1=>(t r S1).bind λxs S2=>.ok (x :: xs) S2
noncomputable def eJ (t:AM):EM:=λr S=>(t r S).bind λxs S1=>if xs.length<=sizeLine then .ok (.tup xs) S1 else .bad
noncomputable def cS (t:AM):EM:=λr S=>(t r S).bind λxs S1=>if xs.length<=sizeLine then .ok (.lst xs) S1 else .bad
noncomputable def eNew (t:AM):EM:=λr S=>(t r S).bind λxs S1=>if xs.length<=sizeLine then .ok (.ref S1.length) (S1 ++ [.lst xs]) else .bad
noncomputable def aJ (f:FM) (t:AM):EM:=λr S=>(t r S).bind λxs S1=>f xs S1
noncomputable def eB (f:Sto->List D->Option D) (t:AM):EM:=λr S=>(t r S).bind λxs S1=>R.of S1 (f S1 xs)
noncomputable def eBN (f:Sto->List D->Option SO) (t:AM):EM:=λr S=>(t r S).bind λxs S1=>match f S1 xs with
 | some o=>.ok (.ref S1.length) (S1 ++ [o])
 | none=>.bad
noncomputable def tV (a:EM):TM:=λr S=>(a r S).bind λx S1=>match x with
 | .bl b=>.ok b S1
 | _=>.bad
noncomputable def nq (a b:TM):TM:=λr S=>(a r S).bind λc S1=>if c=true then b r S1 else .ok false S1
noncomputable def tOr (a b:TM):TM:=λr S=>(a r S).bind λc S1=>if c=true then .ok true S1 else b r S1
noncomputable def eZ (a:TM):TM:=λr S=>(a r S).bind λc S1=>.ok (!c) S1
noncomputable def R.nx {A:Type}:R A->R A
 | .err _ _=>.bad
 | r=>r
noncomputable def eNx (a:EM):EM:=λr S=>(a r S).nx
noncomputable def tNx (a:TM):TM:=λr S=>(a r S).nx
noncomputable def aNx (a:AM):AM:=λr S=>(a r S).nx
noncomputable def aG:SM:=λr S=>.ok (.nx r) S
noncomputable def nB:SM:=λ_ _=>.bad
noncomputable def aC (a b:SM):SM:=λr S=>(a r S).bind λf S1=>match f with
 | .nx r1=>b r1 S1
 | g=>.ok g S1
noncomputable def aM (a:EM):SM:=λr S=>(a r S).bind λx S1=>.ok (.rt x) S1
noncomputable def KG:SM:=λ_ S=>.ok (.rt .non) S
noncomputable def fO (a:EM):SM:=λr S=>(a r S).bind λ_ S1=>.ok (.nx r) S1
noncomputable def sIf (t:TM) (a b:SM):SM:=λr S=>(t r S).bind λc S1=>if c=true then a r S1 else b r S1
noncomputable def Km:SM:=λr S=>.ok (.bk r) S
noncomputable def KH:SM:=λr S=>.ok (.ct r) S
set_option genInjectivity false in
inductive G where
 | nm (i:Nat) | tp (gs:List G)
mutual
noncomputable def G.put:G->D->Rho->Option Rho
 | .nm i,d,r=>some (r.set i (some d))
 | .tp gs,d,r=>match d with
  | .tup xs=>G.puts gs xs r
  | _=>none
noncomputable def G.puts:List G->List D->Rho->Option Rho
 | [],[],r=>some r
 | g :: gs,x :: xs,r=>match G.put g x r with
  | some r1=>G.puts gs xs r1
  | none=>none
 | _,_,_=>none
end
noncomputable def bh (i:Nat) (a:EM):SM:=λr S=>(a r S).bind λx S1=>.ok (.nx (r.set i (some x))) S1
noncomputable def DU (g:G) (a:EM):SM:=λr S=>(a r S).bind λx S1=>match g.put x r with
 | some r1=>.ok (.nx r1) S1
 | none=>.bad
noncomputable def KI (i j:Nat) (t:AM):SM:=λr S=>(t r S).bind λxs S1=>match xs with
 | [x,y]=>.ok (.nx ((r.set i (some x)).set j (some y))) S1
 | _=>.bad
noncomputable def DV (f:Sto->D->D->D->Option Sto) (e o i:EM):SM:=λr S=>(e r S).bind λv S1=>(o r S1).bind λx S2=>(i r S2).bind λy S3=>match f S3 x y v with
 | some S4=>.ok (.nx r) S4
 | none=>.bad
noncomputable def KJ (f:Sto->D->List D->Option Sto) (o:EM) (t:AM):SM:=λr S=>(o r S).bind λx S1=>(t r S1).bind λys S2=>match f S2 x ys with
 | some S3=>.ok (.nx r) S3
 | none=>.bad
noncomputable def sNx (a:SM):SM:=λr S=>(a r S).nx
noncomputable def eK (c:Str) (t:AM):SM:=λr S=>(t r S).bind λxs S1=>if xs.length<=sizeLine then .err ⟨c,.tup xs⟩ S1 else .bad
noncomputable def j4 (cs:List Str) (i n:Nat) (b h:SM):SM:=λr S=>match b r S with
 | .err x S1=>if cs.contains x.cls=true then (h ((List.replicate n none).set i (some (.exc x.cls))) S1).nx.bind λf S2=>match f with
   | .rt d=>.ok (.rt d) S2
   | _=>.bad
  else .bad
 | .ok f S1=>.ok f S1
 | .bad=>.bad
noncomputable def forL (g:G) (b:SM):List D->SM
 | []=>λr S=>.ok (.nx r) S
 | x :: xs=>λr S=>match g.put x r with
  | none=>.bad
  | some r1=>(b r1 S).bind λf S1=>match f with
   | .nx r2=>forL g b xs r2 S1
   | .ct r2=>forL g b xs r2 S1
   | .bk r2=>.ok (.nx r2) S1
   | .rt d=>.ok (.rt d) S1
noncomputable def jJ (it:AM) (g:G) (b:SM):SM:=λr S=>(it r S).bind λxs S1=>forL g b xs r S1
noncomputable def sG (t:TM) (b:SM):Nat->SM
 | 0=>λ_ _=>.bad
 | n + 1=>λr S=>(t r S).bind λc S1=>if c=true then (b r S1).bind λf S2=>match f with
   | .nx r2=>sG t b n r2 S2
   | .ct r2=>sG t b n r2 S2
   | .bk r2=>.ok (.nx r2) S2
   | .rt d=>.ok (.rt d) S2
  else .ok (.nx r) S1
noncomputable def gS (k:Nat) (caps:List Nat) (r:Rho):Rho:=List.replicate k none ++ caps.map λi=>(r[i]?).join
noncomputable def dR (g:G) (t:TM) (e:EM):List D->Rho->Sto->R (List D)
 | [],_,S=>.ok [] S
 | x :: xs,r,S=>match g.put x r with
  | none=>.bad
  | some r1=>(t r1 S).bind λc S1=>if c=true then (e r1 S1).bind λy S2=>(dR g t e xs r1 S2).bind λys S3=>.ok (y :: ys) S3
    else dR g t e xs r1 S1
noncomputable def cn (it:AM) (k:Nat) (caps:List Nat) (g:G) (t:TM) (e:EM):EM:=λr S=>(it r S).bind λxs S1=>
 if xs.length<=sizeLine then (dR g t e xs (gS k caps r) S1).bind λys S2=>.ok (.lst ys) S2 else .bad
noncomputable def dS:TM:=λ_ S=>.ok true S
noncomputable def fnM (n:Nat) (b:SM):FM:=λds S=>(b (ds.map some ++ List.replicate (n - ds.length) none) S).bind λf S1=>match f with
 | .rt d=>.ok d S1
 | .nx _=>.ok .non S1
 | _=>.bad
end PD
namespace PD
open PySem PySem.Spec PyProof.Rows L2
variable {H H' H2:Hp} {a p:Addr} {o:HO} {n k:Nat} {r:Rho} {X:Cx} {e:Expr} {t:TT} {x:Str} {i:Int} {T:String} {op:CmpOp} {rest es:List Expr} {mt:TM} {ms:AM} {S:Sto} {qb:Bool} {N:List Str} {env:Env} {scope:Scope} {caps:List Nat} {ma:EM} {pins:List (Addr × Obj)} {s:Shared}
set_option genInjectivity false in
structure Wd where
 st:List Addr
 hid:List Addr
variable {w w' w2:Wd}
def Wd.no (w:Wd) (a:Addr):Prop:=a ∉ w.st/\a ∉ w.hid
noncomputable def Wd.add (w:Wd) (p:Addr):Wd:=⟨w.st ++ [p],w.hid⟩
noncomputable def Wd.hide (w:Wd) (p:Addr):Wd:=⟨w.st,p :: w.hid⟩
def At (w:Wd) (H:Hp) (a:Addr) (o:HO):Prop:=H a=some o/\w.no a
def nC (K:PySem.W.Frag) (a:Addr) (vs:List V):Prop:=
 ∃ (o:Obj) (its:Array Value) (n:Nat),K.lookup a=some o/\o.cls=.type "tuple"/\o.data=.seq its n/\its.size<=sizeLine/\Vals vs its.toList
def Kn (K:PySem.W.Frag) (a:Addr) (vs:List V):Prop:=
 ∃ (o:Obj) (its:Array Value) (n:Nat),K.lookup a=some o/\o.cls=.type "list"/\o.dict=none/\o.data=.seq its n/\its.size<=sizeLine/\Vals vs its.toList
def qI (K:PySem.W.Frag) (w:Wd) (H:Hp) (a:Addr) (vs:List V):Prop:=(∃ o,At w H a (.frz o (.lst vs))) \/ Kn K a vs
theorem qI.sq {K:PySem.W.Frag} {vs:List V} (h:qI K w H a vs):SqL K H a vs:=h.elim (λ⟨o,z⟩=>.inl (.inr ⟨o,z.1⟩)) .inr
noncomputable def ExcAt (a:Addr) (C:Value):Heap->Prop:=λh=>∃ o,h.get? a=some o/\o.cls=C
mutual
noncomputable def RD (K:PySem.W.Frag) (w:Wd) (H:Hp):D->V->Prop
 | .non,v=>v=.non
 | .bl b,v=>v=.bl b
 | .int i,v=>v=.int i
 | .str x,v=>v=.str x
 | .tup ds,v=>∃ a vs,v=.ref a/\(At w H a (.tup vs) \/ nC K a vs)/\RDs K w H ds vs
 | .lst ds,v=>∃ a vs,v=.ref a/\At w H a (.lst vs)/\RDs K w H ds vs
 | .fz ds,v=>∃ a vs,v=.ref a/\qI K w H a vs/\RDs K w H ds vs
 | .dic kvs,v=>∃ a us,v=.ref a/\At w H a (.dK us)/\RDk K w H kvs us
 | .ref n,v=>∃ a,v=.ref a/\w.st[n]?=some a
 | .ty n,v=>v=.ty n
 | .exc c,v=>∃ a C o,v=.ref a/\PySem.W.nsIn K mainGlobals c=some (some C)/\At w H a (.frz o (.ext (ExcAt a C)))
 | .cls c,v=>∃ C,PySem.W.nsIn K mainGlobals c=some (some (.ref C))/\v=.ref C
noncomputable def RDs (K:PySem.W.Frag) (w:Wd) (H:Hp):List D->List V->Prop
 | [],vs=>vs=[]
 | d :: ds,vs=>∃ v r,vs=v :: r/\RD K w H d v/\RDs K w H ds r
noncomputable def RDk (K:PySem.W.Frag) (w:Wd) (H:Hp):List (Sum Int Str × D)->List (Key × V)->Prop
 | [],us=>us=[]
 | (k,d) :: ds,us=>∃ v r,us=(k,v) :: r/\RD K w H d v/\RDk K w H ds r
end
structure Ext (w:Wd) (H:Hp) (w':Wd) (H':Hp):Prop where
 keep:∀ a o,H a=some o->a ∉ w.st->H' a=some o
 sub:∃ l,w'.st=w.st ++ l/\∀ a ∈ l,H a=none
 hid:∀ a,a ∈ w.hid->a ∈ w'.hid
 hnew:∀ a,a ∈ w'.hid->a ∈ w.hid \/ H a=none
 frz:∀ a o u,H a=some (.frz o u)->H' a=some (.frz o u)
theorem Ext.refl (w:Wd) (H:Hp):Ext w H w H:=⟨λ_ _ h _=>h,⟨[],by simp,λ_ h=>nomatch h⟩,λ_ h=>h,λ_ h=>.inl h,λ_ _ _ h=>h⟩
theorem Ext.out (x:Ext w H w' H') (h:H a=some o) (n:a ∉ w.st):a ∉ w'.st:=by
 obtain ⟨l,e,f⟩:=x.sub
 rw [e]
 intro z
 rcases Z0.mp z with z | z
 ·exact n z
 ·rw [f a z] at h; cases h
theorem Ext.at (x:Ext w H w' H') (h:At w H a o):At w' H' a o:=⟨x.keep a o h.1 h.2.1,x.out h.1 h.2.1,λz=>(x.hnew a z).elim h.2.2 λe=>by rw [h.1] at e; cases e⟩
theorem Ext.get (x:Ext w H w' H') (h:w.st[n]?=some a):w'.st[n]?=some a:=by
 obtain ⟨l,e,f⟩:=x.sub
 rw [e,Z3 (Yq.mp h).1]
 exact h
theorem Ext.trans {w1:Wd} {H1:Hp} (x:Ext w H w1 H1) (y:Ext w1 H1 w2 H2) (fr:∀ a ∈ w.st,∃ o,H a=some o/\∃ o',H1 a=some o'):Ext w H w2 H2:=by
 have hno:∀ a,H1 a=none->H a=none:=λa z=>by
  cases e:H a with
  | none=>rfl
  | some o=>
   by_cases hw:a ∈ w.st
   ·obtain ⟨_,_,o',e'⟩:=fr a hw
    rw [z] at e'; cases e'
   ·have:=x.keep a o e hw
    rw [z] at this; cases this
 refine ⟨λa o h n=>y.keep a o (x.keep a o h n) (x.out h n),?_,λa h=>y.hid a (x.hid a h),λa h=>(y.hnew a h).elim (x.hnew a) λz=>.inr (hno a z),λa o u h=>y.frz a o u (x.frz a o u h)⟩
 obtain ⟨l,e1,f⟩:=x.sub
 obtain ⟨l2,e2,f2⟩:=y.sub
 refine ⟨l ++ l2,by rw [e2,e1]; simp,λa ha=>?_⟩
 rcases Z0.mp ha with z | z
 ·exact f a z
 ·exact hno a (f2 a z)
section
variable {K:PySem.W.Frag} {w w':Wd} {H H':Hp}
mutual
theorem RD.ext (x:Ext w H w' H'):∀ (d:D) (v:V),RD K w H d v->RD K w' H' d v
 | .non,_,h=>h
 | .bl _,_,h=>h
 | .int _,_,h=>h
 | .str _,_,h=>h
 | .tup ds,v,h=>by
  unfold RD at h ⊢
  obtain ⟨a,vs,e,p,r⟩:=h
  exact ⟨a,vs,e,p.imp x.at id,RDs.ext x ds vs r⟩
 | .lst ds,v,h=>by
  unfold RD at h ⊢
  obtain ⟨a,vs,e,p,r⟩:=h
  exact ⟨a,vs,e,x.at p,RDs.ext x ds vs r⟩
 | .fz ds,v,h=>by
  unfold RD at h ⊢
  obtain ⟨a,vs,e,p,r⟩:=h
  exact ⟨a,vs,e,p.imp (λ⟨o,z⟩=>⟨o,x.at z⟩) id,RDs.ext x ds vs r⟩
 | .dic kvs,v,h=>by
  unfold RD at h ⊢
  obtain ⟨a,us,e,p,r⟩:=h
  exact ⟨a,us,e,x.at p,RDk.ext x kvs us r⟩
 | .ref n,v,h=>by
  unfold RD at h ⊢
  obtain ⟨a,e,p⟩:=h
  exact ⟨a,e,x.get p⟩
 | .ty _,_,h=>h
 | .exc c,v,h=>by
  unfold RD at h ⊢
  obtain ⟨a,C,o,e,q,p⟩:=h
  exact ⟨a,C,o,e,q,x.at p⟩
 | .cls _,_,h=>h
theorem RDs.ext (x:Ext w H w' H'):∀ (ds:List D) (vs:List V),RDs K w H ds vs->RDs K w' H' ds vs
 | [],_,h=>h
 | d :: ds,vs,h=>by
  unfold RDs at h ⊢
  obtain ⟨v,r,e,p,q⟩:=h
  exact ⟨v,r,e,RD.ext x d v p,RDs.ext x ds r q⟩
theorem RDk.ext (x:Ext w H w' H'):∀ (ds:List (Sum Int Str × D)) (vs:List (Key × V)),RDk K w H ds vs->RDk K w' H' ds vs
 | [],_,h=>h
 | (k,d) :: ds,vs,h=>by
  unfold RDk at h ⊢
  obtain ⟨v,r,e,p,q⟩:=h
  exact ⟨v,r,e,RD.ext x d v p,RDk.ext x ds r q⟩
end
end
def RDf (K:PySem.W.Frag) (w:Wd) (H:Hp) (fs:List (Str × D)) (us:List (Str × V)):Prop:=fs.map (·.1)=us.map (·.1)/\RDs K w H (fs.map (·.2)) (us.map (·.2))
noncomputable def RO (K:PySem.W.Frag) (w:Wd) (H:Hp) (a:Addr):SO->Prop
 | .lst ds=>∃ vs,H a=some (.lst vs)/\RDs K w H ds vs
 | .dic kvs=>∃ us,H a=some (.dK us)/\RDk K w H kvs us
 | .fdic kvs=>∃ o us,H a=some (.frz o (.dK us))/\RDk K w H kvs us
 | .ins c fs=>∃ C dx us,PySem.W.nsIn K mainGlobals c=some (some (.ref C))/\H a=some (.ins C dx us)/\RDf K w H fs us
 | .flst ds=>∃ o vs,H a=some (.frz o (.lst vs))/\RDs K w H ds vs
structure RS (K:PySem.W.Frag) (w:Wd) (H:Hp) (S:Sto):Prop where
 nd:w.st.Nodup
 len:w.st.length=S.length
 obj:∀ (n:Nat) (o:SO),S[n]?=some o->∃ a:Addr,w.st[n]?=some a/\RO K w H a o
 hid:∀ a ∈ w.hid,a ∉ w.st/\∃ o,H a=some o
section
variable {K:PySem.W.Frag} {w w':Wd} {H H':Hp} {S:Sto}
theorem RS.there (s:RS K w H S) (ha:a ∈ w.st):∃ o,H a=some o:=by
 obtain ⟨n,hn⟩:=List.mem_iff_getElem?.mp ha
 have hl:n < S.length:=by rw [<- s.len]; exact (Yq.mp hn).1
 obtain ⟨b,hb,r⟩:=s.obj n S[n] (Yw hl)
 rw [hn] at hb; cases hb
 revert r
 cases S[n] with
 | lst ds=>rintro ⟨vs,e,_⟩; exact ⟨_,e⟩
 | dic kvs=>rintro ⟨vs,e,_⟩; exact ⟨_,e⟩
 | fdic kvs=>rintro ⟨o,vs,e,_⟩; exact ⟨_,e⟩
 | ins c fs=>rintro ⟨C,dx,us,_,e,_⟩; exact ⟨_,e⟩
 | flst ds=>rintro ⟨o,vs,e,_⟩; exact ⟨_,e⟩
theorem RS.freshS (s:RS K w H S) (h:H a=none):a ∉ w.st:=λz=>by
 obtain ⟨o,e⟩:=s.there z
 rw [h] at e; cases e
theorem RS.fresh (s:RS K w H S) (h:H a=none):w.no a:=⟨s.freshS h,λz=>by
 obtain ⟨_,o,e⟩:=s.hid a z
 rw [h] at e; cases e⟩
theorem Ext.trans' {w1:Wd} {H1:Hp} {S1:Sto} (x:Ext w H w1 H1) (y:Ext w1 H1 w2 H2) (s:RS K w H S) (s1:RS K w1 H1 S1):Ext w H w2 H2:=
 x.trans y λa ha=>by
  obtain ⟨o,e⟩:=s.there ha
  obtain ⟨l,el,_⟩:=x.sub
  obtain ⟨o',e'⟩:=s1.there (a:=a) (by rw [el]; exact Q0 _ ha)
  exact ⟨o,e,o',e'⟩
theorem Ext.new (hp:H p=none):Ext w H w (upd H p o):=
 ⟨λa u e _=>by rw [aA (aK e hp)]; exact e,⟨[],by simp,λ_ z=>nomatch z⟩,λ_ h=>h,λ_ h=>.inl h,λa o u e=>by rw [aA (aK e hp)]; exact e⟩
theorem RO.ext (x:Ext w H w' H') {o:SO} (hk:∀ u,H a=some u->H' a=some u) (r:RO K w H a o):RO K w' H' a o:=by
 cases o with
 | lst ds=>obtain ⟨vs,e,q⟩:=r; exact ⟨vs,hk _ e,RDs.ext x _ _ q⟩
 | dic kvs=>obtain ⟨vs,e,q⟩:=r; exact ⟨vs,hk _ e,RDk.ext x _ _ q⟩
 | fdic kvs=>obtain ⟨o,vs,e,q⟩:=r; exact ⟨o,vs,hk _ e,RDk.ext x _ _ q⟩
 | ins c fs=>obtain ⟨C,dx,us,n,e,q1,q2⟩:=r; exact ⟨C,dx,us,n,hk _ e,q1,RDs.ext x _ _ q2⟩
 | flst ds=>obtain ⟨o,vs,e,q⟩:=r; exact ⟨o,vs,hk _ e,RDs.ext x _ _ q⟩
theorem RS.new (s:RS K w H S) (hp:H p=none):RS K w (upd H p o) S:=
  ⟨s.nd,s.len,λn so e=>by
    obtain ⟨a,ha,r⟩:=s.obj n so e
    exact ⟨a,ha,r.ext (Ext.new hp) λu q=>by rw [aA (aK q hp)]; exact q⟩,
   λa ha=>by
    obtain ⟨h1,u,e⟩:=s.hid a ha
    exact ⟨h1,u,by rw [aA (aK e hp)]; exact e⟩⟩
theorem Ext.alloc (hp:H p=none):Ext w H (w.add p) (upd H p o):=
 ⟨λa u e _=>by rw [aA (aK e hp)]; exact e,⟨[p],rfl,λa ha=>by
  have:a=p:=by simpa using ha
  subst this; exact hp⟩,λ_ h=>h,λ_ h=>.inl h,λa o u e=>by rw [aA (aK e hp)]; exact e⟩
theorem RS.alloc {so:SO} (s:RS K w H S) (hp:H p=none) (r:RO K (w.add p) (upd H p o) p so):RS K (w.add p) (upd H p o) (S ++ [so]):=by
 have np:=s.freshS hp
 refine ⟨?_,by simp [Wd.add,s.len],λn so' e=>?_,λa ha=>?_⟩
 ·show (w.st ++ [p]).Nodup
  rw [List.nodup_append]
  exact ⟨s.nd,by simp,λa ha b hb=>by
   have:b=p:=by simpa using hb
   subst this
   rintro rfl
   exact np ha⟩
 ·by_cases hn:n < S.length
  ·rw [Z3 hn] at e
   obtain ⟨a,ha,q⟩:=s.obj n so' e
   exact ⟨a,(Ext.alloc (o:=o) hp).get ha,q.ext (Ext.alloc hp) λu z=>by rw [aA (aK z hp)]; exact z⟩
  ·have hn':n=S.length:=by
    have:=(Yq.mp e).1
    simp at this; omega
   subst hn'
   simp at e; subst e
   exact ⟨p,by show (w.st ++ [p])[S.length]?=some p; rw [<- s.len]; simp,r⟩
 ·obtain ⟨h1,u,e⟩:=s.hid a ha
  refine ⟨?_,u,by rw [aA (aK e hp)]; exact e⟩
  show a ∉ w.st ++ [p]
  intro z
  rcases Z0.mp z with z | z
  ·exact h1 z
  ·have:a=p:=by simpa using z
   subst this
   rw [hp] at e; cases e
theorem Ext.mut {u0:HO} (hp:p ∈ w.st) (h0:H p=some u0) (hu:autoParam (∀ o u,u0 ≠ .frz o u) Au.h8._auto_1):Ext w H w (upd H p o):=
 ⟨λa u e n=>by rw [aA (λz:a=p=>n (z ▸ hp))]; exact e,⟨[],by simp,λ_ z=>nomatch z⟩,λ_ h=>h,λ_ h=>.inl h,λa o u e=>by
  rw [aA (λz:a=p=>by rw [z,h0] at e; exact hu o u (Z6 e))]; exact e⟩
theorem RS.mut {so:SO} (s:RS K w H S) (hp:w.st[n]?=some p) {u0:HO} (h0:H p=some u0) (r:RO K w (upd H p o) p so) (hu:autoParam (∀ o u,u0 ≠ .frz o u) Au.h8._auto_1):RS K w (upd H p o) (S.set n so):=by
 have hm:p ∈ w.st:=Zl hp
 refine ⟨s.nd,by simp [s.len],λm so' e=>?_,λa ha=>?_⟩
 ·by_cases hn:m=n
  ·subst hn
   have hl:m < S.length:=by rw [<- s.len]; exact (Yq.mp hp).1
   rw [Z4 hl] at e
   cases e
   exact ⟨p,hp,r⟩
  ·rw [Yy (Ne.symm hn)] at e
   obtain ⟨a,ha,q⟩:=s.obj m so' e
   refine ⟨a,ha,q.ext (Ext.mut hm h0 hu) λu z=>?_⟩
   have:a ≠ p:=λz=>by
    subst z
    obtain ⟨h1,e1⟩:=Yq.mp ha
    obtain ⟨h2,e2⟩:=Yq.mp hp
    exact hn ((List.getElem_inj s.nd).mp (e1.trans e2.symm))
   rw [aA this]; exact z
 ·obtain ⟨h1,u,e⟩:=s.hid a ha
  exact ⟨h1,u,by rw [aA (λz:a=p=>h1 (z ▸ hm))]; exact e⟩
end
def RSt (K:PySem.W.Frag) (w:Wd) (H:Hp) (r:Rho) (s:L2.St):Prop:=
 s.length=r.length/\∀ (i:Nat) (d:D),r[i]?=some (some d)->∃ v,s[i]?=some (some v)/\RD K w H d v
theorem RSt.ext {K:PySem.W.Frag} {s:L2.St} (h:RSt K w H r s) (x:Ext w H w' H'):RSt K w' H' r s:=
 ⟨h.1,λi d e=>let ⟨v,e1,q⟩:=h.2 i d e; ⟨v,e1,RD.ext x d v q⟩⟩
theorem RSt.set {K:PySem.W.Frag} {s:L2.St} (h:RSt K w H r s) (i:Nat) {d:D} {v:V} (q:RD K w H d v):RSt K w H (r.set i (some d)) (s.set i (some v)):=by
 refine ⟨by simp [h.1],λj d' e=>?_⟩
 by_cases hj:j=i
 ·subst hj
  have hl:j < r.length:=by
   have:=(Yq.mp e).1
   simpa using this
  rw [Z4 hl] at e
  cases e
  exact ⟨v,Z4 (by rw [h.1]; exact hl),q⟩
 ·rw [Yy (Ne.symm hj)] at e
  obtain ⟨v',e',q'⟩:=h.2 j d' e
  exact ⟨v',by rw [Yy (Ne.symm hj)]; exact e',q'⟩
section
variable {K:PySem.W.Frag} {w:Wd} {H:Hp}
theorem RDs.nil:RDs K w H [] []:=by unfold RDs; rfl
theorem RDs.cons {d:D} {v:V} {ds:List D} {vs:List V} (r:RD K w H d v) (q:RDs K w H ds vs):RDs K w H (d :: ds) (v :: vs):=by unfold RDs; exact ⟨v,vs,rfl,r,q⟩
theorem RDs.nil_inv {vs:List V} (h:RDs K w H [] vs):vs=[]:=by unfold RDs at h; exact h
theorem RDs.cons_inv {d:D} {ds:List D} {vs:List V} (h:RDs K w H (d :: ds) vs):∃ v r,vs=v :: r/\RD K w H d v/\RDs K w H ds r:=by unfold RDs at h; exact h
theorem RDs.one_inv {d:D} {vs:List V} (h:RDs K w H [d] vs):∃ v,vs=[v]/\RD K w H d v:=by
 obtain ⟨v,r,rfl,h1,h2⟩:=h.cons_inv
 rw [h2.nil_inv]
 exact ⟨v,rfl,h1⟩
theorem RDs.two_inv {d e:D} {vs:List V} (h:RDs K w H [d,e] vs):∃ v u,vs=[v,u]/\RD K w H d v/\RD K w H e u:=by
 obtain ⟨v,r,rfl,h1,h2⟩:=h.cons_inv
 obtain ⟨u,rfl,h3⟩:=h2.one_inv
 exact ⟨v,u,rfl,h1,h3⟩
theorem RDs.length:∀ {ds:List D} {vs:List V},RDs K w H ds vs->vs.length=ds.length
 | [],_,h=>by rw [h.nil_inv]; rfl
 | _ :: _,_,h=>by
  obtain ⟨v,r,rfl,_,q⟩:=h.cons_inv
  simp [q.length]
theorem RDs.get:∀ {ds:List D} {vs:List V} {i:Nat} {d:D},RDs K w H ds vs->ds[i]?=some d->∃ v,vs[i]?=some v/\RD K w H d v
 | [],_,_,_,_,e=>by simp at e
 | _ :: _,_,0,_,h,e=>by
  obtain ⟨v,r,rfl,p,_⟩:=h.cons_inv
  simp at e; subst e
  exact ⟨v,rfl,p⟩
 | _ :: ds,_,i + 1,d,h,e=>by
  obtain ⟨v,r,rfl,_,q⟩:=h.cons_inv
  obtain ⟨u,e1,q1⟩:=q.get (i:=i) (d:=d) (by simpa using e)
  exact ⟨u,by simpa using e1,q1⟩
theorem RDs.append:∀ {ds es:List D} {vs us:List V},RDs K w H ds vs->RDs K w H es us->RDs K w H (ds ++ es) (vs ++ us)
 | [],_,_,_,h,q=>by rw [h.nil_inv]; exact q
 | _ :: _,_,_,_,h,q=>by
  obtain ⟨v,r,rfl,p,t⟩:=h.cons_inv
  exact .cons p (t.append q)
theorem RDs.take:∀ {ds:List D} {vs:List V} (n:Nat),RDs K w H ds vs->RDs K w H (ds.take n) (vs.take n)
 | _,_,0,_=>by simp; exact .nil
 | [],_,_ + 1,h=>by rw [h.nil_inv]; simp; exact .nil
 | _ :: _,_,n + 1,h=>by
  obtain ⟨v,r,rfl,p,t⟩:=h.cons_inv
  exact .cons p (t.take n)
theorem RDs.drop:∀ {ds:List D} {vs:List V} (n:Nat),RDs K w H ds vs->RDs K w H (ds.drop n) (vs.drop n)
 | _,_,0,h=>h
 | [],_,_ + 1,h=>by rw [h.nil_inv]; simp; exact .nil
 | _ :: _,_,n + 1,h=>by
  obtain ⟨v,r,rfl,_,t⟩:=h.cons_inv
  exact t.drop n
theorem RDs.set {d:D} {v:V} (r:RD K w H d v):∀ {ds:List D} {vs:List V} (i:Nat),RDs K w H ds vs->RDs K w H (ds.set i d) (vs.set i v)
 | [],_,_,h=>by rw [h.nil_inv]; exact .nil
 | _ :: _,_,0,h=>by
  obtain ⟨_,_,rfl,_,t⟩:=h.cons_inv
  exact .cons r t
 | _ :: _,_,i + 1,h=>by
  obtain ⟨_,_,rfl,p,t⟩:=h.cons_inv
  exact .cons p (RDs.set r i t)
end
def RX (K:PySem.W.Frag) (w:Wd) (H:Hp) (x:XD) (c:Value) (da:Option Addr):Prop:=PySem.W.nsIn K mainGlobals x.cls=some (some c)
def ax {A B:Type} (K:PySem.W.Frag) (E:XK) (rel:Wd->Hp->A->B->Prop) (w:Wd) (H:Hp) (r:R A) (Q:B->Hp->Prop):Prop:=match r with
 | .ok a S'=>∀ w' H' b,Ext w H w' H'->rel w' H' a b->RS K w' H' S'->Q b H'
 | .err x S'=>∀ w' H' c da,Ext w H w' H'->RS K w' H' S'->RX K w' H' x c da->E c da H'
 | .bad=>False
section
variable {A B A2 B2:Type} {K:PySem.W.Frag} {E:XK} {rel:Wd->Hp->A->B->Prop} {rel2:Wd->Hp->A2->B2->Prop} {w w1:Wd} {H H1:Hp} {S S1:Sto}
theorem ax.ext {r:R A} {Q:B->Hp->Prop} (h:ax K E rel w H r Q) (x:Ext w H w1 H1) (s:RS K w H S) (s1:RS K w1 H1 S1):ax K E rel w1 H1 r Q:=by
 cases r with
 | ok a S'=>exact λw' H' b y q t=>h w' H' b (x.trans' y s s1) q t
 | err e S'=>exact λw' H' c da y t q=>h w' H' c da (x.trans' y s s1) t q
 | bad=>exact h
theorem ax.bind {r:R A} {f:A->Sto->R A2} {Q':B->Hp->Prop} {Q:B2->Hp->Prop} (h:ax K E rel2 w H (r.bind f) Q) (s:RS K w H S)
  (k:∀ a S1 w1 H1 b,Ext w H w1 H1->rel w1 H1 a b->RS K w1 H1 S1->ax K E rel2 w1 H1 (f a S1) Q->Q' b H1):ax K E rel w H r Q':=by
 cases r with
 | ok a S'=>exact λw1 H1 b x q s1=>k a S' w1 H1 b x q s1 (ax.ext (r:=f a S') h x s s1)
 | err e S'=>exact h
 | bad=>exact h
theorem ax.bindAt {w0:Wd} {H0:Hp} {S0:Sto} {r:R A} {f:A->Sto->R A2} {Q':B->Hp->Prop} {Q:B2->Hp->Prop} (h:ax K E rel2 w0 H0 (r.bind f) Q) (x:Ext w0 H0 w H) (s0:RS K w0 H0 S0) (s:RS K w H S)
  (k:∀ a S1 w1 H1 b,Ext w H w1 H1->rel w1 H1 a b->RS K w1 H1 S1->ax K E rel2 w0 H0 (f a S1) Q->Q' b H1):ax K E rel w H r Q':=by
 cases r with
 | ok a S'=>exact λw1 H1 b y q s1=>k a S' w1 H1 b y q s1 h
 | err e S'=>exact λw' H' c da y t q=>h w' H' c da (x.trans' y s0 s) t q
 | bad=>exact h
theorem ax.ret {a:A} {b:B} {Q:B->Hp->Prop} (h:ax K E rel w H (.ok a S) Q) (q:rel w H a b) (s:RS K w H S):Q b H:=h w H b (Ext.refl w H) q s
theorem ax.at {a:A} {b:B} {Q:B->Hp->Prop} (h:ax K E rel w H (.ok a S) Q) (x:Ext w H w1 H1) (q:rel w1 H1 a b) (s:RS K w1 H1 S):Q b H1:=h w1 H1 b x q s
theorem ax.of {o:Option A} {Q:B->Hp->Prop} (h:ax K E rel w H (R.of S o) Q):∃ a,o=some a/\ax K E rel w H (.ok a S) Q:=by
 cases o with
 | some a=>exact ⟨a,rfl,h⟩
 | none=>exact h.elim
end
set_option genInjectivity false in
inductive FV where
 | nx (s:L2.St) | rt (v:V) | bk (s:L2.St) | ct (s:L2.St)
noncomputable def FV.to (D:Ends):FV->Hp->Prop
 | .nx s,H=>D.nx s H
 | .rt v,H=>D.rt v H
 | .bk s,H=>D.bk s H
 | .ct s,H=>D.ct s H
noncomputable def RF (K:PySem.W.Frag) (w:Wd) (H:Hp):F->FV->Prop
 | .nx r,f=>∃ s,f=.nx s/\RSt K w H r s
 | .rt d,f=>∃ v,f=.rt v/\RD K w H d v
 | .bk r,f=>∃ s,f=.bk s/\RSt K w H r s
 | .ct r,f=>∃ s,f=.ct s/\RSt K w H r s
def RB (w:Wd) (H:Hp) (a b:Bool):Prop:=b=a
noncomputable def uE (K:PySem.W.Frag) (E:XK) (m:EM):TE:=λs H Q=>∃ w r S,RSt K w H r s/\RS K w H S/\ax K E (RD K) w H (m r S) Q
noncomputable def uT (K:PySem.W.Frag) (E:XK) (m:TM):TT:=λs H Q=>∃ w r S,RSt K w H r s/\RS K w H S/\ax K E RB w H (m r S) Q
noncomputable def uA (K:PySem.W.Frag) (E:XK) (m:AM):TA:=λs H Q=>∃ w r S,RSt K w H r s/\RS K w H S/\ax K E (RDs K) w H (m r S) Q
noncomputable def uS (K:PySem.W.Frag) (E:XK) (m:SM):TS:=λD s H=>∃ w r S,RSt K w H r s/\RS K w H S/\ax K E (RF K) w H (m r S) (FV.to D)
theorem ex6 {K:PySem.W.Frag} {s:L2.St} {c:Wd->Rho->Sto->Prop} {P:Prop} (z:∃ w r S,RSt K w H r s/\RS K w H S/\c w r S) (f:∀ w r S,RSt K w H r s->RS K w H S->c w r S->P):P:=by
 obtain ⟨w,r,S,x,y,z⟩:=z
 exact f w r S x y z
theorem ex8.{u} {α:Type u} {a:Wd->Rho->Prop} {b:Wd->Rho->α->Rho->Prop} {c:Wd->Rho->α->Rho->Prop} {d:Wd->Rho->α->Rho->Prop} {P:Prop} (z:∃ w r e r',a w r/\b w r e r'/\c w r e r'/\d w r e r') (f:∀ w r e r',a w r->b w r e r'->c w r e r'->d w r e r'->P):P:=by
 obtain ⟨w,r,e,r',x,y,z,t⟩:=z
 exact f w r e r' x y z t
structure Bx (p:Prop):Prop where
 out:p
abbrev SE (X:Cx) (E:XK) (e:Expr) (m:EM):Prop:=Bx (PE X e (uE X.K E m))
abbrev ST (X:Cx) (E:XK) (e:Expr) (m:TM):Prop:=Bx (PT X e (uT X.K E m))
abbrev SW (X:Cx) (E:XK) (e:Expr) (m:TM):Prop:=Bx (PW X e (uT X.K E m))
abbrev SA (X:Cx) (E:XK) (es:List Expr) (m:AM):Prop:=Bx (PA X es (uA X.K E m))
abbrev SS (X:Cx) (E:XK) (st:Stmt) (m:SM):Prop:=Bx (PS X st (uS X.K E m))
abbrev SSs (X:Cx) (E:XK) (st:List Stmt) (m:SM):Prop:=Bx (PSs X st (uS X.K E m))
theorem aH {t t':TE} (h:PE X e t) (k:∀ s H Q,t' s H Q->t s H Q):PE X e t':=λpins s σ H Q I q=>h pins s σ H Q I (k σ H Q q)
theorem iu {t':TT} (h:PT X e t) (k:∀ s H Q,t' s H Q->t s H Q):PT X e t':=λpins s σ H Q I q=>h pins s σ H Q I (k σ H Q q)
theorem pH {t':TT} (h:PW X e t) (k:∀ s H Q,t' s H Q->t s H Q):PW X e t':=λwh pins s σ H Q I q=>h wh pins s σ H Q I (k σ H Q q)
theorem pI {e:List Expr} {t t':TA} (h:PA X e t) (k:∀ s H Q,t' s H Q->t s H Q):PA X e t':=λp pins s σ H Q I q=>h p pins s σ H Q I (k σ H Q q)
theorem dw {e:Stmt} {t t':TS} (h:PS X e t) (k:∀ D s H,t' D s H->t D s H):PS X e t':=λpins s σ H Q I q=>h pins s σ H Q I (k Q σ H q)
theorem nD {e:List Stmt} {t t':TS} (h:PSs X e t) (k:∀ D s H,t' D s H->t D s H):PSs X e t':=λpins s σ H Q I q=>h pins s σ H Q I (k Q σ H q)
section
variable {X:Cx} {E:XK} {a b c:Expr} {ma mb mc:EM} {pos:Pos}
theorem sH (i:Nat) {pos:Pos} (hN:autoParam (X.N[i]?=some x) Au.h0._auto_1) (hv:Vis X.env.scope x) (hd:autoParam ((x == ("__debug__":Str))=false) Au.h3._auto_1)
  (hcd:autoParam ((x == ("__classdict__":Str))=false) Au.h3._auto_1):SE X E (.Name x pos) (af i):=⟨
 aH (pv i hN hv hd hcd) λs H Q zq=>ex6 zq λw r S hr hS hp=>by
  unfold af at hp
  split at hp
  ·rename_i d e
   obtain ⟨v,e',q⟩:=hr.2 i d e
   exact ⟨v,e',hp.ret q hS⟩
  ·exact hp.elim⟩
theorem mz {v:V} {d:D} (h:PE X e (tC v)) (q:∀ w H,RD X.K w H d v):SE X E e (eC d):=⟨
 aH h λs H Q zq=>ex6 zq λw r S hr hS hp=>hp.ret (q w H) hS⟩
theorem aq {i j pos}:SE X E (.Constant (.int i) j pos) (eC (.int i)):=mz Dd λ_ _=>by unfold RD; rfl
theorem gc {i j pos}:SE X E (.Constant (.bool i) j pos) (eC (.bl i)):=mz G1 λ_ _=>by unfold RD; rfl
theorem j5 {j pos}:SE X E (.Constant .none j pos) (eC .non):=mz De λ_ _=>by unfold RD; rfl
theorem aw {i j pos}:SE X E (.Constant (.str i) j pos) (eC (.str i)):=mz Df λ_ _=>by unfold RD; rfl
theorem yM {t:Tok} {pos:Pos} (hg:Gl X x) (hm:X.mg x=some (.int i t)) (hd:autoParam ((x == ("__debug__":Str))=false) Au.h3._auto_1):SE X E (.Name x pos) (eC (.int i)):=
 mz (gF hg hm (v:=.int i) ⟨t,rfl⟩ hd) λ_ _=>by unfold RD; rfl
theorem j6 {pos:Pos} (hg:Gl X x) (hm:X.mg x=none) (hv:bootBuiltins x=some (.type T)) (hn:autoParam (x ≠ "__name__") Au.h3._auto_1) (hd:autoParam ((x == ("__debug__":Str))=false) Au.h3._auto_1):SE X E (.Name x pos) (eC (.ty T)):=
 mz (yk hg hm hv (v:=.ty T) rfl hn hd) λ_ _=>by unfold RD; rfl
noncomputable def xO (K:PySem.W.Frag) (E:XK) (f:Sto->D->D->Option D):R2:=λx y H Q=>∃ w S d e,RS K w H S/\RD K w H d x/\RD K w H e y/\ax K E (RD K) w H (R.of S (f S d e)) Q
noncomputable def xU (K:PySem.W.Frag) (E:XK) (f:Sto->D->Option D):V->Hp->VK->Prop:=λx H Q=>∃ w S d,RS K w H S/\RD K w H d x/\ax K E (RD K) w H (R.of S (f S d)) Q
noncomputable def xC (K:PySem.W.Frag) (E:XK) (f:Sto->List D->Option D):List V->Hp->VK->Prop:=λxs H Q=>∃ w S ds,RS K w H S/\RDs K w H ds xs/\ax K E (RD K) w H (R.of S (f S ds)) Q
theorem aY {op:Operator} {f:Sto->D->D->Option D} (ho:OpR X (binaryOp op) (xO X.K E f)) (ha:SE X E a ma) (hb:SE X E b mb):SE X E (.BinOp a op b pos) (eOp f ma mb):=⟨
 aH (Hd ho ha.out hb.out) λs H Q zq=>ex6 zq λw r S hr hS hp=>⟨w,r,S,hr,hS,hp.bind hS λd S1 w1 H1 v x1 q1 s1 p1=>
  ⟨w1,r,S1,hr.ext x1,s1,p1.bind s1 λe S2 w2 H2 u x2 q2 s2 p2=>⟨w2,S2,d,e,s2,RD.ext x2 d v q1,q2,p2⟩⟩⟩⟩
theorem pJ {op:UnaryOp} {f:Sto->D->Option D} (ho:UnR X (unaryOp op) (xU X.K E f)) (ha:SE X E a ma):SE X E (.UnaryOp op a pos) (eUn f ma):=⟨
 aH (He ho ha.out) λs H Q zq=>ex6 zq λw r S hr hS hp=>⟨w,r,S,hr,hS,hp.bind hS λd S1 w1 H1 v x1 q1 s1 p1=>⟨w1,S1,d,s1,q1,p1⟩⟩⟩
theorem e7 {f:Sto->D->D->Option D} (ho:OpR X (compareOp op) (xO X.K E f)) (ha:SE X E a ma) (hb:SE X E b mb) (hm:autoParam (behindInMarks op b=false) Au.h9._auto_1):
  SE X E (.Compare a [op] [b] pos) (eOp f ma mb):=⟨
 aH (pB ho ha.out hb.out hm) λs H Q zq=>ex6 zq λw r S hr hS hp=>⟨w,r,S,hr,hS,hp.bind hS λd S1 w1 H1 v x1 q1 s1 p1=>
  ⟨w1,r,S1,hr.ext x1,s1,p1.bind s1 λe S2 w2 H2 u x2 q2 s2 p2=>⟨w2,S2,d,e,s2,RD.ext x2 d v q1,q2,p2⟩⟩⟩⟩
theorem sI {op':CmpOp} {f g:Sto->D->D->Option D} (ho:OpR X (compareOp op) (xO X.K E f)) (ho':OpR X (compareOp op') (xO X.K E g)) (ha:SE X E a ma) (hb:SE X E b mb) (hc:SE X E c mc)
  (hm:autoParam (lastMarks [op,op'] [b,c]=false) Au.h0._auto_1):SE X E (.Compare a [op,op'] [b,c] pos) (eI f g ma mb mc):=⟨
 aH (rX ho ho' ha.out hb.out hc.out hm) λs H Q zq=>ex6 zq λw r S hr hS hp=>⟨w,r,S,hr,hS,hp.bind hS λd S1 w1 H1 v x1 q1 s1 p1=>
  ⟨w1,r,S1,hr.ext x1,s1,p1.bind s1 λe S2 w2 H2 u x2 q2 s2 p2=>by
   refine ⟨w2,S2,d,e,s2,RD.ext x2 d v q1,q2,?_⟩
   cases hf:f S2 d e with
   | none=>rw [hf] at p2; exact p2.elim
   | some z=>
    rw [hf] at p2
    intro w3 H3 z' x3 q3 s3
    cases z with
    | bl k=>
     unfold RD at q3
     subst q3
     refine ⟨k,rfl,?_⟩
     cases k with
     | true=>
      refine kZ ⟨w3,r,S2,((hr.ext x1).ext x2).ext x3,s3,?_⟩
      have p3:=ax.ext p2 x3 s2 s3
      refine p3.bind s3 λt S4 w4 H4 u' x4 q4 s4 p4=>⟨w4,S4,e,t,s4,RD.ext x4 e u (RD.ext x3 e u q2),q4,p4⟩
     | false=>exact kY (ax.at p2 x3 (by unfold RD; rfl) s3)
    | _=>exact p2.elim⟩⟩⟩
theorem iU {op} (h:SE X E a ma):SE X E (.BoolOp op [a] pos) ma:=⟨rM h.out⟩
theorem mD (ha:SE X E a ma) (hb:SE X E (.BoolOp .And (b :: rest) pos) mb):SE X E (.BoolOp .And (a :: b :: rest) pos) (la ma mb):=⟨
 aH (Dk ha.out hb.out) λs H Q zq=>ex6 zq λw r S hr hS hp=>⟨w,r,S,hr,hS,hp.bind hS λd S1 w1 H1 v x1 q1 s1 p1=>by
  cases d with
  | bl k=>
   unfold RD at q1
   subst q1
   refine ⟨k,rfl,?_⟩
   cases k with
   | true=>exact kZ ⟨w1,r,S1,hr.ext x1,s1,p1⟩
   | false=>exact kY (ax.ret p1 (by unfold RD; rfl) s1)
  | _=>exact p1.elim⟩⟩
theorem z4 (ha:SE X E a ma) (hb:SE X E (.BoolOp .Or (b :: rest) pos) mb):SE X E (.BoolOp .Or (a :: b :: rest) pos) (eOr ma mb):=⟨
 aH (G5 ha.out hb.out) λs H Q zq=>ex6 zq λw r S hr hS hp=>⟨w,r,S,hr,hS,hp.bind hS λd S1 w1 H1 v x1 q1 s1 p1=>by
  cases d with
  | bl k=>
   unfold RD at q1
   subst q1
   refine ⟨k,rfl,?_⟩
   cases k with
   | false=>exact kY ⟨w1,r,S1,hr.ext x1,s1,p1⟩
   | true=>exact kZ (ax.ret p1 (by unfold RD; rfl) s1)
  | _=>exact p1.elim⟩⟩
theorem DW (ha:SE X E a ma):SE X E (.UnaryOp .Not a pos) (DT ma):=⟨
 aH (Dl ha.out) λs H Q zq=>ex6 zq λw r S hr hS hp=>⟨w,r,S,hr,hS,hp.bind hS λd S1 w1 H1 v x1 q1 s1 p1=>by
  cases d with
  | bl k=>
   unfold RD at q1
   subst q1
   exact ⟨k,rfl,ax.ret p1 (by unfold RD; rfl) s1⟩
  | _=>exact p1.elim⟩⟩
theorem sJ (hc:ST X E c mt) (ha:SE X E a ma) (hb:SE X E b mb):SE X E (.IfExp c a b pos) (eIf mt ma mb):=⟨
 aH (rN hc.out ha.out hb.out) λs H Q zq=>ex6 zq λw r S hr hS hp=>⟨w,r,S,hr,hS,hp.bind hS λk S1 w1 H1 v x1 q1 s1 p1=>by
  have e:v=k:=q1
  subst e
  cases v with
  | true=>exact kZ ⟨w1,r,S1,hr.ext x1,s1,p1⟩
  | false=>exact kY ⟨w1,r,S1,hr.ext x1,s1,p1⟩⟩⟩
theorem sL {s:L2.St} {Q:Bool->Hp->Prop} (h:uT X.K E (tV ma) s H Q):uE X.K E ma s H λx H1=>∃ k,x=.bl k/\Q k H1:=by
 obtain ⟨w,r,S,hr,hS,hp⟩:=h
 exact ⟨w,r,S,hr,hS,hp.bind hS λd S1 w1 H1 v x1 q1 s1 p1=>by
  cases d with
  | bl k=>
   unfold RD at q1
   exact ⟨k,q1,ax.ret p1 rfl s1⟩
  | _=>exact p1.elim⟩
theorem cT (h:SE X E a ma) (he:autoParam (∀ whole,isTrue a X.env whole=(do let v <- whole; standAt a.pos; holding [v] (truthy v))) Au.h4._auto_1):ST X E a (tV ma):=⟨
 iu (Dg h.out he) λs H Q q=>sL q⟩
theorem aN {f:Sto->D->D->Option D} (ho:OpR X (compareOp op) (xO X.K E f)) (ha:SE X E a ma) (hb:SE X E b mb) (hm:autoParam (behindInMarks op b=false) Au.h9._auto_1):
  ST X E (.Compare a [op] [b] pos) (tV (eOp f ma mb)):=⟨
 iu (yx ho ha.out hb.out hm) λs H Q q=>by
  obtain ⟨w,r,S,hr,hS,hp⟩:=sL q
  exact ⟨w,r,S,hr,hS,hp.bind hS λd S1 w1 H1 v x1 q1 s1 p1=>
   ⟨w1,r,S1,hr.ext x1,s1,p1.bind s1 λe S2 w2 H2 u x2 q2 s2 p2=>⟨w2,S2,d,e,s2,RD.ext x2 d v q1,q2,p2⟩⟩⟩⟩
theorem yN (ha:ST X E a mt):SW X E (.BoolOp .And [a] pos) mt:=⟨yl ha.out⟩
theorem iV (ha:ST X E a mt):SW X E (.BoolOp .Or [a] pos) mt:=⟨Dh ha.out⟩
theorem DX {mu:TM} (ha:ST X E a mt) (hb:SW X E (.BoolOp .And (b :: rest) pos) mu):SW X E (.BoolOp .And (a :: b :: rest) pos) (PD.nq mt mu):=⟨
 pH (Di ha.out hb.out) λs H Q zq=>ex6 zq λw r S hr hS hp=>⟨w,r,S,hr,hS,hp.bind hS λk S1 w1 H1 v x1 q1 s1 p1=>by
  have e:v=k:=q1
  subst e
  cases v with
  | true=>exact kZ ⟨w1,r,S1,hr.ext x1,s1,p1⟩
  | false=>exact kY (ax.ret p1 rfl s1)⟩⟩
theorem lJ {mu:TM} (ha:ST X E a mt) (hb:SW X E (.BoolOp .Or (b :: rest) pos) mu):SW X E (.BoolOp .Or (a :: b :: rest) pos) (PD.tOr mt mu):=⟨
 pH (G2 ha.out hb.out) λs H Q zq=>ex6 zq λw r S hr hS hp=>⟨w,r,S,hr,hS,hp.bind hS λk S1 w1 H1 v x1 q1 s1 p1=>by
  have e:v=k:=q1
  subst e
  cases v with
  | false=>exact kY ⟨w1,r,S1,hr.ext x1,s1,p1⟩
  | true=>exact kZ (ax.ret p1 rfl s1)⟩⟩
theorem j7 (h:SW X E a mt):ST X E a mt:=⟨PW.pt h.out⟩
theorem dy (ha:ST X E a mt):ST X E (.UnaryOp .Not a pos) (PD.eZ mt):=⟨
 iu (Dj ha.out) λs H Q zq=>ex6 zq λw r S hr hS hp=>⟨w,r,S,hr,hS,hp.bind hS λk S1 w1 H1 v x1 q1 s1 p1=>by
  have e:v=k:=q1
  subst e
  exact ax.ret p1 rfl s1⟩⟩
theorem ai:SA X E [] aj:=⟨pI DI λs H Q zq=>ex6 zq λw r S hr hS hp=>ax.ret hp RDs.nil hS⟩
theorem ae (ha:SE X E a ma) (hrr:SA X E es ms) (hs:autoParam (starEach (a :: es) X.env=(false,eval a X.env) :: starEach es X.env) Au.h0._auto_1):SA X E (a :: es) (aa ma ms):=⟨
 pI (yA ha.out hrr.out hs) λs H Q zq=>ex6 zq λw r S hr hS hp=>⟨w,r,S,hr,hS,hp.bind hS λd S1 w1 H1 v x1 q1 s1 p1=>
  ⟨w1,r,S1,hr.ext x1,s1,p1.bind s1 λe S2 w2 H2 u x2 q2 s2 p2=>ax.ret p2 (RDs.cons (RD.ext x2 d v q1) q2) s2⟩⟩⟩
theorem d9 {k} (h:SA X E es ms):SE X E (.Tuple es k pos) (eJ ms):=⟨
 aH (DJ h.out) λs H Q zq=>ex6 zq λw r S hr hS hp=>⟨w,r,S,hr,hS,hp.bind hS λds S1 w1 H1 vs x1 q1 s1 p1=>by
  by_cases hl:ds.length<=sizeLine
  ·rw [Y9 hl] at p1
   refine ⟨by rw [q1.length]; exact hl,λp hp=>?_⟩
   exact ax.at p1 (Ext.new hp) (by unfold RD; exact ⟨p,vs,rfl,.inl ⟨aL,s1.fresh hp⟩,RDs.ext (Ext.new hp) _ _ q1⟩) (s1.new hp)
  ·rw [Yg hl] at p1; exact p1.elim⟩⟩
theorem cU (h:SA X E es ms):SE X E (.List es pos) (cS ms):=⟨
 aH (se h.out) λs H Q zq=>ex6 zq λw r S hr hS hp=>⟨w,r,S,hr,hS,hp.bind hS λds S1 w1 H1 vs x1 q1 s1 p1=>by
  by_cases hl:ds.length<=sizeLine
  ·rw [Y9 hl] at p1
   refine ⟨by rw [q1.length]; exact hl,λp hp=>?_⟩
   exact ax.at p1 (Ext.new hp) (by unfold RD; exact ⟨p,vs,rfl,⟨aL,s1.fresh hp⟩,RDs.ext (Ext.new hp) _ _ q1⟩) (s1.new hp)
  ·rw [Yg hl] at p1; exact p1.elim⟩⟩
theorem RS.lastRef {K:PySem.W.Frag} (s:RS K w H S) :RD K (w.add p) H' (.ref S.length) (.ref p):=by
 unfold RD
 exact ⟨p,rfl,by show (w.st ++ [p])[S.length]?=some p; rw [<- s.len]; simp⟩
theorem oU (h:SA X E es ms):SE X E (.List es pos) (eNew ms):=⟨
 aH (se h.out) λs H Q zq=>ex6 zq λw r S hr hS hp=>⟨w,r,S,hr,hS,hp.bind hS λds S1 w1 H1 vs x1 q1 s1 p1=>by
  by_cases hl:ds.length<=sizeLine
  ·rw [Y9 hl] at p1
   refine ⟨by rw [q1.length]; exact hl,λp hp=>?_⟩
   exact ax.at p1 (Ext.alloc hp) s1.lastRef (s1.alloc hp ⟨vs,aL,RDs.ext (Ext.alloc hp) _ _ q1⟩)
  ·rw [Yg hl] at p1; exact p1.elim⟩⟩
noncomputable def spM (K:PySem.W.Frag) (n:Nat) (f:FM):Sp:=λvs H Q E=>vs.length=n/\∃ w S ds,RS K w H S/\RDs K w H ds vs/\ax K E (RD K) w H (f ds S) Q
variable {CX:CXT} {k n:Nat} {fa:Addr} {fd:FuncData} {ps:List Str} {f:FM} {x:Str} {p:Pos} {es:List Expr} {ms:AM}
theorem yO (F:FnOk X.prog X.w X.K X.mg X.base CX k fa fd ps (spM X.K n f)) (hr:Room k X.A) (hg:Gl X x) (hm:X.mg x=some (.ref fa)) (hk:PySem.W.keepIn X.K (.ref fa)=true) (hb:Binds X.K fd ps []) (hx:Passes CX X E)
  (ha:SA X E (a :: es) ms) (hn:∀ r S ds S',ms r S=.ok ds S'->ds.length=n) (hdb:autoParam ((x == ("__debug__":Str))=false) Au.h3._auto_1) (he:autoParam (starEach (a :: es) X.env=(false,eval a X.env) :: starEach es X.env) Au.h0._auto_1) (hpl:autoParam ((backTo pos (starEach es X.env)).any (·.1)=false) Au.h0._auto_1):
  SE X E (.Call (.Name x p) (a :: es) [] pos) (aJ f ms):=⟨
 aH (pC F hr hg hm hk hb (dvs:=[]) .nil hx ha.out hdb he hpl) λs H Q zq=>ex6 zq λw r S hr hS hp=>by
  refine ⟨w,r,S,hr,hS,?_⟩
  have hp':ax X.K E (RD X.K) w H ((ms r S).bind λxs S1=>f xs S1) Q:=hp
  cases e:ms r S with
  | bad=>rw [e] at hp'; exact hp'.elim
  | err y S'=>rw [e] at hp'; exact hp'
  | ok ds S'=>
   rw [e] at hp'
   intro w1 H1 vs x1 q1 s1
   rw [Z8]
   exact ⟨by rw [q1.length]; exact hn r S ds S' e,w1,S',ds,s1,q1,ax.ext (r:=f ds S') hp' x1 hS s1⟩⟩
theorem aB {id:String} {f:Sto->List D->Option D} (hc:cF X (.builtin id) (xC X.K E f)) (hg:Gl X x) (hm:X.mg x=none) (hv:bootBuiltins x=some (.builtin id)) (ha:SA X E (a :: es) ms) (hn:autoParam (x ≠ "__name__") Au.h3._auto_1) (hdb:autoParam ((x == ("__debug__":Str))=false) Au.h3._auto_1)
  (he:autoParam (starEach (a :: es) X.env=(false,eval a X.env) :: starEach es X.env) Au.h0._auto_1) (hpl:autoParam ((backTo pos (starEach es X.env)).any (·.1)=false) Au.h0._auto_1):SE X E (.Call (.Name x p) (a :: es) [] pos) (eB f ms):=⟨
 aH (sh hc hg hm hv ha.out hn hdb he hpl) λs H Q zq=>ex6 zq λw r S hr hS hp=>⟨w,r,S,hr,hS,hp.bind hS λds S1 w1 H1 vs x1 q1 s1 p1=>⟨w1,S1,ds,s1,q1,p1⟩⟩⟩
theorem bf {f:Sto->List D->Option D} (hc:cF X (.type T) (xC X.K E f)) (hg:Gl X x) (hm:X.mg x=none) (hv:bootBuiltins x=some (.type T)) (ha:SA X E (a :: es) ms) (hn:autoParam (x ≠ "__name__") Au.h3._auto_1) (hdb:autoParam ((x == ("__debug__":Str))=false) Au.h3._auto_1)
  (he:autoParam (starEach (a :: es) X.env=(false,eval a X.env) :: starEach es X.env) Au.h0._auto_1) (hpl:autoParam ((backTo pos (starEach es X.env)).any (·.1)=false) Au.h0._auto_1):SE X E (.Call (.Name x p) (a :: es) [] pos) (eB f ms):=⟨
 aH (qE hc hg hm hv ha.out hn hdb he hpl) λs H Q zq=>ex6 zq λw r S hr hS hp=>⟨w,r,S,hr,hS,hp.bind hS λds S1 w1 H1 vs x1 q1 s1 p1=>⟨w1,S1,ds,s1,q1,p1⟩⟩⟩
variable {st:Stmt} {rest:List Stmt} {m m':SM}
theorem aI:SSs X E [] aG:=⟨nD pw λD s H zq=>ex6 zq λw r S hr hS hp=>ax.ret (b:=FV.nx s) hp ⟨s,rfl,hr⟩ hS⟩
theorem ao (h1:SS X E st m) (h2:SSs X E rest m'):SSs X E (st :: rest) (aC m m'):=⟨
 nD (rO h1.out h2.out) λD s H zq=>ex6 zq λw r S hr hS hp=>⟨w,r,S,hr,hS,hp.bind hS λf S1 w1 H1 fv x1 q1 s1 p1=>by
  cases f with
  | nx r1=>obtain ⟨s',rfl,q⟩:=q1; exact ⟨w1,r1,S1,q,s1,p1⟩
  | rt d=>obtain ⟨v,rfl,q⟩:=q1; have z:=ax.ret (Q:=FV.to D) (rel:=RF X.K) (a:=F.rt d) (b:=FV.rt v) p1 ⟨v,rfl,q⟩ s1; exact z
  | bk r1=>obtain ⟨s',rfl,q⟩:=q1; have z:=ax.ret (Q:=FV.to D) (rel:=RF X.K) (a:=F.bk r1) (b:=FV.bk s') p1 ⟨s',rfl,q⟩ s1; exact z
  | ct r1=>obtain ⟨s',rfl,q⟩:=q1; have z:=ax.ret (Q:=FV.to D) (rel:=RF X.K) (a:=F.ct r1) (b:=FV.ct s') p1 ⟨s',rfl,q⟩ s1; exact z⟩⟩
theorem au (h1:SS X E st m):SSs X E [st] m:=⟨ym h1.out⟩
theorem eL:SS X E st nB:=⟨dw rP λD s H zq=>ex6 zq λw r S hr hS hp=>hp.elim⟩
theorem fC (ha:SE X E a ma) (hs:autoParam (swapsWith a none pos.line X.env=pure false) Au.h0._auto_1):SS X E (.Expr a pos) (fO ma):=⟨
 dw (yn ha.out hs) λD s H zq=>ex6 zq λw r S hr hS hp=>⟨w,r,S,hr,hS,hp.bind hS λd S1 w1 H1 v x1 q1 s1 p1=>ax.ret (b:=FV.nx s) p1 ⟨s,rfl,hr.ext x1⟩ s1⟩⟩
theorem aD (ha:SE X E a ma):SS X E (.Return (some a) pos) (aM ma):=⟨
 dw (Dm ha.out) λD s H zq=>ex6 zq λw r S hr hS hp=>⟨w,r,S,hr,hS,hp.bind hS λd S1 w1 H1 v x1 q1 s1 p1=>ax.ret (b:=FV.rt v) p1 ⟨v,rfl,q1⟩ s1⟩⟩
theorem aR {sa sb:List Stmt} (hc:ST X E c mt) (ha:SSs X E sa m) (hb:SSs X E sb m'):SS X E (.If c sa sb pos) (sIf mt m m'):=⟨
 dw (G8 hc.out ha.out hb.out) λD s H zq=>ex6 zq λw r S hr hS hp=>⟨w,r,S,hr,hS,hp.bind hS λk S1 w1 H1 v x1 q1 s1 p1=>by
  have e:v=k:=q1
  subst e
  cases v with
  | true=>exact kZ ⟨w1,r,S1,hr.ext x1,s1,p1⟩
  | false=>exact kY ⟨w1,r,S1,hr.ext x1,s1,p1⟩⟩⟩
theorem aZ {i:Nat} {x:Str} {pos':Pos} (hN:X.N.Nodup) (hi:X.N[i]?=some x) (hx:Loc X.env.scope x) (ha:SE X E a ma) (hs:autoParam (swapsWith a (some (.Name x pos')) pos.line X.env=pure false) Au.h0._auto_1) (hf:autoParam (X.fn x=true \/ X.env.scope.names.lookup x=some .local) Au.h7._auto_1):
  SS X E (.Assign [.Name x pos'] a pos) (bh i ma):=⟨
 dw (Dt hN hi hx ha.out hs hf) λD s H zq=>ex6 zq λw r S hr hS hp=>⟨w,r,S,hr,hS,hp.bind hS λd S1 w1 H1 v x1 q1 s1 p1=>
  ax.ret (b:=FV.nx (s.set i (some v))) p1 ⟨_,rfl,(hr.ext x1).set i q1⟩ s1⟩⟩
end
noncomputable def uG (K:PySem.W.Frag) (g:G):TG:=λv s H Q=>∃ w r d r',RSt K w H r s/\RD K w H d v/\g.put d r=some r'/\∀ s',RSt K w H r' s'->Q s' H
noncomputable def uGs (K:PySem.W.Frag) (gs:List G):TGs:=λvs s H Q=>∃ w r ds r',RSt K w H r s/\RDs K w H ds vs/\G.puts gs ds r=some r'/\∀ s',RSt K w H r' s'->Q s' H
abbrev SG (X:Cx) (e:Expr) (g:G):Prop:=Bx (PG X e (uG X.K g))
abbrev SGs (X:Cx) (es:List Expr) (gs:List G):Prop:=Bx (PGs X es (uGs X.K gs))
theorem pK {t t':TG} (h:PG X e t) (k:∀ v s H Q,t' v s H Q->t v s H Q):PG X e t':=λpins s σ H v u Q I r q=>h pins s σ H v u Q I r (k v σ H Q q)
theorem nE {e:List Expr} {t t':TGs} (h:PGs X e t) (k:∀ v s H Q,t' v s H Q->t v s H Q):PGs X e t':=λpins s σ H v u Q I r q=>h pins s σ H v u Q I r (k v σ H Q q)
theorem nF:∀ {gs:List G} {ds:List D} {r r':Rho},G.puts gs ds r=some r'->ds.length=gs.length
 | [],[],_,_,_=>rfl
 | [],_ :: _,_,_,h=>by simp [G.puts] at h
 | _ :: _,[],_,_,h=>by simp [G.puts] at h
 | g :: gs,d :: ds,r,r',h=>by
  unfold G.puts at h
  cases e:G.put g d r with
  | none=>rw [e] at h; cases h
  | some r1=>
   rw [e] at h
   have:=nF h
   simp [this]
section
variable {X:Cx} {E:XK} {a b c:Expr} {ma mb mc:EM} {pos:Pos}
theorem cB {i:Nat} (hN:X.N.Nodup) (hi:X.N[i]?=some x) (hx:Loc X.env.scope x) (hf:autoParam (X.fn x=true \/ X.env.scope.names.lookup x=some .local) Au.h7._auto_1):SG X (.Name x pos) (.nm i):=⟨
 pK (yq hN hi hx hf) λv s H Q zq=>ex8 zq λw r d r' hr q e k=>by
  unfold G.put at e
  cases e
  exact k _ (hr.set i q)⟩
theorem yP:SGs X [] []:=⟨
 nE yr λv s H Q zq=>ex8 zq λw r ds r' hr q e k=>by
  cases ds with
  | nil=>
   unfold G.puts at e
   cases e
   exact ⟨q.nil_inv,k s hr⟩
  | cons d ds=>simp [G.puts] at e⟩
theorem nG {g:G} {gs:List G} (h1:SG X e g) (h2:SGs X es gs)
  (hs:autoParam ((assignEach (e :: es) X.env).map (·.2)=assign e X.env :: (assignEach es X.env).map (·.2)) Au.h0._auto_1):SGs X (e :: es) (g :: gs):=⟨
 nE (rR h1.out h2.out hs) λv s H Q zq=>ex8 zq λw r ds r' hr q e k=>by
  cases ds with
  | nil=>simp [G.puts] at e
  | cons d ds=>
   obtain ⟨v1,vs,rfl,q1,q2⟩:=q.cons_inv
   unfold G.puts at e
   cases e1:G.put g d r with
   | none=>rw [e1] at e; cases e
   | some r1=>
    rw [e1] at e
    exact ⟨v1,vs,rfl,w,r,d,r1,hr,q1,e1,λs' hs'=>⟨w,r1,ds,r',hs',q2,e,k⟩⟩⟩
theorem df {K:PySem.W.Frag} {vs:List V} (h:At w H p (.tup vs) \/ nC K p vs):SqT K H p vs:=h.elim (λz=>SqT.of z.1) .inr
theorem DY {k:Nat} {gs:List G} (hc:X.calm=true) (h:SGs X es gs)
  (hn:autoParam ((assignEach es X.env).length=gs.length) Au.h0._auto_1) (hst:autoParam ((assignEach es X.env).findIdx? (·.1)=none) Au.h0._auto_1):SG X (.Tuple es k pos) (.tp gs):=⟨
 pK (Dp hc h.out hn hst) λv s H Q zq=>ex8 zq λw r d r' hr q e k=>by
  cases d with
  | tup ds=>
   unfold RD at q
   obtain ⟨p,vs,rfl,h1,q1⟩:=q
   unfold G.put at e
   exact ⟨p,vs,rfl,df h1,by rw [q1.length]; exact nF e,w,r,ds,r',hr,q1,e,k⟩
  | _=>simp [G.put] at e⟩
theorem DZ {tg:Expr} {g:G} (ha:SE X E a ma) (hg:SG X tg g) (hs:autoParam (swapsWithSole [tg] a pos.line X.env=pure false) Au.h0._auto_1) (hw:autoParam (swappedStores [tg] a X.env=pure none) Au.h0._auto_1)
  (h1:autoParam ((assignEach [tg] X.env).map (·.2)=[assign tg X.env]) Au.h0._auto_1):SS X E (.Assign [tg] a pos) (DU g ma):=⟨
 dw (rS ha.out hg.out hs hw h1) λD s H zq=>ex6 zq λw r S hr hS hp=>⟨w,r,S,hr,hS,hp.bind hS λd S1 w1 H1 v x1 q1 s1 p1=>by
  cases e:g.put d r with
  | none=>rw [e] at p1; exact p1.elim
  | some r'=>
   rw [e] at p1
   exact ⟨w1,r,d,r',hr.ext x1,q1,e,λs' hs'=>ax.ret (b:=FV.nx s') p1 ⟨s',rfl,hs'⟩ s1⟩⟩⟩
noncomputable def xS (K:PySem.W.Frag) (f:Sto->D->D->D->Option Sto):yo:=λo i v H Q=>∃ w S x y z S',RS K w H S/\RD K w H x o/\RD K w H y i/\RD K w H z v/\f S x y z=some S'/\∀ w' H',Ext w H w' H'->RS K w' H' S'->Q H'
theorem D0 {f:Sto->D->D->D->Option Sto} {tpos:Pos} (hf:yp X (xS X.K f)) (ha:SE X E a ma) (ho:SE X E b mb) (hi:SE X E c mc) (hs:autoParam (swapsWithSole [.Subscript b c tpos] a pos.line X.env=pure false) Au.h0._auto_1) (hw:autoParam (swappedStores [.Subscript b c tpos] a X.env=pure none) Au.h0._auto_1)
  (h1:autoParam ((assignEach [.Subscript b c tpos] X.env).map (·.2)=[assign (.Subscript b c tpos) X.env]) Au.h0._auto_1)
  (hz:autoParam (∀ v,assign (.Subscript b c tpos) X.env v=(do
   let ov <- holding [v] (eval b X.env)
   let iv <- holding [v,ov] (eval c X.env)
   standAt tpos
   holding [v,ov,iv] (setItem ov iv v)
   release [v,ov,iv] [])) Au.h4._auto_1):SS X E (.Assign [.Subscript b c tpos] a pos) (DV f ma mb mc):=⟨
 dw (rS ha.out (Dr ho.out hi.out hf hz) hs hw h1) λD s H zq=>ex6 zq λw r S hr hS hp=>⟨w,r,S,hr,hS,hp.bind hS λd S1 w1 H1 v x1 q1 s1 p1=>
  ⟨w1,r,S1,hr.ext x1,s1,p1.bind s1 λe S2 w2 H2 u x2 q2 s2 p2=>⟨w2,r,S2,(hr.ext x1).ext x2,s2,p2.bind s2 λt S3 w3 H3 y x3 q3 s3 p3=>by
   cases hf:f S3 e t d with
   | none=>rw [hf] at p3; exact p3.elim
   | some S4=>
    rw [hf] at p3
    exact ⟨w3,S3,e,t,d,S4,s3,RD.ext x3 _ _ q2,q3,RD.ext x3 _ _ (RD.ext x2 _ _ q1),hf,λw' H' x4 s4=>ax.at (b:=FV.nx s) p3 x4 ⟨s,rfl,(((hr.ext x1).ext x2).ext x3).ext x4⟩ s4⟩⟩⟩⟩⟩
def RI (K:PySem.W.Frag) (w:Wd) (H:Hp) (ds:List D) (J:It):Prop:=∀ (i:Nat) (w':Wd) (H':Hp),Ext w H w' H'->
 (i < ds.length->J.go i H'/\∀ x H'',J.yld i H' x H''->(H''=H' \/ ∃ p o,H' p=none/\H''=upd H' p o)/\∀ S,RS K w' H' S->∃ d,ds[i]?=some d/\RD K w' H'' d x)/\(ds.length<=i->J.stop i H')
noncomputable def uI (K:PySem.W.Frag) (E:XK) (m:AM):TI:=λs H Q=>∃ w r S,RSt K w H r s/\RS K w H S/\ax K E (RI K) w H (m r S) Q
abbrev SIb (qb:Bool) (X:Cx) (E:XK) (tg iter:Expr) (m:AM):Prop:=Bx (PIb qb X tg iter (uI X.K E m))
abbrev SI (X:Cx) (E:XK) (tg iter:Expr) (m:AM):Prop:=Bx (PI X tg iter (uI X.K E m))
theorem j8 {K:PySem.W.Frag} (h:H'=H \/ ∃ p o,H p=none/\H'=upd H p o) (s:RS K w H S):Ext w H w H'/\RS K w H' S:=by
 rcases h with rfl | ⟨p,o,hp,rfl⟩
 ·exact ⟨Ext.refl _ _,s⟩
 ·exact ⟨Ext.new hp,s.new hp⟩
theorem mE {tg iter:Expr} {body:List Stmt} {it:AM} {g:G} {m:SM} (hp:PassesOwn (model X.prog X.w) X.A X.env X.xe) (hc:X.calm=true) (hi:SI X E tg iter it) (hg:SG X tg g) (hb:SSs X E body m)
  (hs:autoParam (∀ x,foldedSetIterable iter X.env x=pure x) Au.h4._auto_1):SS X E (.For tg iter body [] pos) (jJ it g m):=⟨
 dw (Dv hp hc hi.out hg.out hb.out hs) λD s H zq=>ex6 zq λw r S hr hS hp=>⟨w,r,S,hr,hS,hp.bind hS λds S1 w1 H1 J x1 q1 s1 p1=>by
  refine ⟨λi n s' H'=>n=ds.length - i/\i<=ds.length/\∃ w' r' S',Ext w1 H1 w' H'/\RSt X.K w' H' r' s'/\RS X.K w' H' S'/\ax X.K E (RF X.K) w' H' (forL g m (ds.drop i) r' S') (FV.to D),
   ⟨ds.length,by simp,Zc _,w1,r,S1,Ext.refl _ _,hr.ext x1,s1,p1⟩,?_⟩
  rintro i n s2 H2 ⟨rfl,hi.out,w2,r2,S2,x2,hr2,hS2,hp2⟩
  by_cases hlt:i < ds.length
  ·obtain ⟨go,yld⟩:=(q1 i w2 H2 x2).1 hlt
   refine .inr ⟨go,λs' H'=>∃ w' r' S',Ext w1 H1 w' H'/\RSt X.K w' H' r' s'/\RS X.K w' H' S'/\ax X.K E (RF X.K) w' H' (forL g m (ds.drop (i + 1)) r' S') (FV.to D),
    λs' H' hN=>⟨ds.length - (i + 1),by omega,rfl,hlt,hN⟩,λx H3 hy=>?_⟩
   obtain ⟨gr,rd⟩:=yld x H3 hy
   obtain ⟨d,ed,qd⟩:=rd S2 hS2
   obtain ⟨x3,s3⟩:=j8 gr hS2
   have x13:Ext w1 H1 w2 H3:=x2.trans' x3 s1 hS2
   have hdrop:ds.drop i=d :: ds.drop (i + 1):=by
    rw [W1 hlt]
    rw [Yw hlt] at ed
    cases ed; rfl
   rw [hdrop] at hp2
   have hp3:=ax.ext hp2 x3 hS2 s3
   unfold forL at hp3
   cases e:g.put d r2 with
   | none=>rw [e] at hp3; exact hp3.elim
   | some r3=>
    rw [e] at hp3
    refine ⟨w2,r2,d,r3,hr2.ext x3,qd,e,λs4 hr4=>⟨w2,r3,S2,hr4,s3,?_⟩⟩
    refine ax.bind (rel:=RF X.K) hp3 s3 λf S5 w5 H5 fv x5 q5 s5 p5=>?_
    cases f with
    | nx r6=>obtain ⟨s6,rfl,q6⟩:=q5; exact ⟨w5,r6,S5,x13.trans' x5 s1 s3,q6,s5,p5⟩
    | ct r6=>obtain ⟨s6,rfl,q6⟩:=q5; exact ⟨w5,r6,S5,x13.trans' x5 s1 s3,q6,s5,p5⟩
    | bk r6=>obtain ⟨s6,rfl,q6⟩:=q5; have z:=ax.ret (Q:=FV.to D) (rel:=RF X.K) (a:=F.nx r6) (b:=FV.nx s6) p5 ⟨s6,rfl,q6⟩ s5; exact z
    | rt d6=>obtain ⟨v6,rfl,q6⟩:=q5; have z:=ax.ret (Q:=FV.to D) (rel:=RF X.K) (a:=F.rt d6) (b:=FV.rt v6) p5 ⟨v6,rfl,q6⟩ s5; exact z
  ·have e:i=ds.length:=by omega
   subst e
   rw [Vb] at hp2
   exact .inl ⟨(q1 _ w2 H2 x2).2 (Yd _),ax.ret (b:=FV.nx s2) hp2 ⟨s2,rfl,hr2⟩ hS2⟩⟩⟩
noncomputable def cV (m:EM) (f:Sto->D->Option (List D)):AM:=λr S=>(m r S).bind λd S1=>R.of S1 (f S1 d)
noncomputable def HA:Sto->D->Option (List D)
 | _,.tup ds=>some ds
 | _,_=>none
noncomputable def HB:Sto->D->Option (List D)
 | _,.lst ds=>some ds
 | _,.fz ds=>some ds
 | _,_=>none
noncomputable def bC (t:AM):AM:=λr S=>(t r S).bind λxs S1=>match xs with
 | [.int n]=>if n < 2 ^ 62/\-(2 ^ 62)<=n then .ok ((List.range n.toNat).map λ(i:Nat)=>D.int i) S1 else .bad
 | _=>.bad
theorem iw {X:Cx} {tg:Expr} {t t':TI} (h:PIb qb X tg e t) (k:∀ s H Q,t' s H Q->t s H Q):PIb qb X tg e t':=λpins s σ H Q I q=>h pins s σ H Q I (k σ H Q q)
theorem D1 {tg:Expr} (ha:SE X E a ma):SI X E tg a (cV ma HA):=⟨
 iw (Du ha.out) λs H Q zq=>ex6 zq λw r S hr hS hp=>⟨w,r,S,hr,hS,hp.bind hS λd S1 w1 H1 v x1 q1 s1 p1=>by
  cases d with
  | tup ds=>
   unfold RD at q1
   obtain ⟨p,vs,rfl,h1,q⟩:=q1
   refine ⟨p,rfl,⟨vs,df h1⟩,ax.ret p1 ?_ s1⟩
   intro i w' H' x'
   have h1':At w' H' p (.tup vs) \/ nC X.K p vs:=h1.imp x'.at id
   have q':=RDs.ext x' _ _ q
   refine ⟨λhi=>⟨⟨vs,vs[i]'(by rw [q.length]; exact hi),df h1',Yw _⟩,λx H'' y=>?_⟩,λhi=>⟨vs,df h1',by rw [q.length]; exact hi⟩⟩
   obtain ⟨rfl,y⟩:=y
   refine ⟨.inl rfl,λS _=>⟨ds[i],Yw hi,?_⟩⟩
   obtain ⟨v,e,rv⟩:=q'.get (Yw hi)
   rw [y vs (df h1')] at e
   cases e
   exact rv
  | _=>exact p1.elim⟩⟩
theorem D2 {tg:Expr} (ha:SE X E a ma):SI X E tg a (cV ma HB):=⟨
 iw (yt ha.out) λs H Q zq=>ex6 zq λw r S hr hS hp=>⟨w,r,S,hr,hS,hp.bind hS λd S1 w1 H1 v x1 q1 s1 p1=>by
  have main:∀ (ds:List D) (p:Addr) (vs:List V),RDs X.K w1 H1 ds vs->(∀ w' H',Ext w1 H1 w' H'->SqL X.K H' p vs)->RI X.K w1 H1 ds (Itl X.K p):=by
   intro ds p vs q sq i w' H' x'
   have q':=RDs.ext x' _ _ q
   refine ⟨λhi=>⟨⟨vs,vs[i]'(by rw [q.length]; exact hi),sq _ _ x',Yw _⟩,λx H'' y=>?_⟩,λhi=>⟨vs,sq _ _ x',by rw [q.length]; exact hi⟩⟩
   obtain ⟨rfl,y⟩:=y
   refine ⟨.inl rfl,λS _=>⟨ds[i],Yw hi,?_⟩⟩
   obtain ⟨v,e,rv⟩:=q'.get (Yw hi)
   rw [y vs (sq _ _ x')] at e
   cases e
   exact rv
  cases d with
  | lst ds=>
   unfold RD at q1
   obtain ⟨p,vs,rfl,h1,q⟩:=q1
   exact ⟨p,rfl,⟨vs,SqL.of h1.1⟩,ax.ret p1 (main ds p vs q λw' H' x'=>SqL.of (x'.at h1).1) s1⟩
  | fz ds=>
   unfold RD at q1
   obtain ⟨p,vs,rfl,h1,q⟩:=q1
   exact ⟨p,rfl,⟨vs,h1.sq⟩,ax.ret p1 (main ds p vs q λw' H' x'=>qI.sq (w:=w') (h1.imp (λ⟨o,z⟩=>⟨o,x'.at z⟩) id)) s1⟩
  | _=>exact p1.elim⟩⟩
noncomputable def eM:Sto->D->Option (List D)
 | _,.tup ds=>some ds
 | _,.lst ds=>some ds
 | _,.fz ds=>some ds
 | _,_=>none
theorem HC {tg:Expr} {t u:TI} (h1:PI X tg e t) (h2:PI X tg e u):PI X tg e (λs H Q=>t s H Q \/ u s H Q):=λpins s σ H Q I q=>q.elim (h1 pins s σ H Q I) (h2 pins s σ H Q I)
theorem mF {tg:Expr} (ha:SE X E a ma):SI X E tg a (cV ma eM):=⟨
 iw (HC (D1 ha).out (D2 ha).out) λs H Q zq=>ex6 zq λw r S hr hS hp=>by
  unfold cV at hp
  cases e:ma r S with
  | bad=>rw [e] at hp; exact hp.elim
  | err y S'=>rw [e] at hp; exact .inl ⟨w,r,S,hr,hS,by unfold cV; rw [e]; exact hp⟩
  | ok d S'=>
   rw [e] at hp
   cases d with
   | tup ds=>exact .inl ⟨w,r,S,hr,hS,by unfold cV; rw [e]; exact hp⟩
   | lst ds=>exact .inr ⟨w,r,S,hr,hS,by unfold cV; rw [e]; exact hp⟩
   | fz ds=>exact .inr ⟨w,r,S,hr,hS,by unfold cV; rw [e]; exact hp⟩
   | _=>exact hp.elim⟩
theorem eF {tg:Expr} {p:Pos} (hg:Gl X "range") (hm:X.mg "range" = none) (ha:SA X E [a] ms) (hs:autoParam (starEach [a] X.env=[(false,eval a X.env)]) Au.h0._auto_1):SIb qb X E tg (.Call (.Name "range" p) [a] [] pos) (bC ms):=⟨
 iw (qr hg hm ha.out hs) λs H Q zq=>ex6 zq λw r S hr hS hp=>⟨w,r,S,hr,hS,hp.bind hS λds S1 w1 H1 vs x1 q1 s1 p1=>by
  rcases ds with _ | ⟨d,_ | ⟨d',ds⟩⟩
  ·exact p1.elim
  ·cases d with
   | int n=>
    obtain ⟨v,rfl,q2⟩:=q1.one_inv
    unfold RD at q2
    subst q2
    by_cases hn:n < 2 ^ 62/\-(2 ^ 62)<=n
    ·have p2:ax X.K E (RI X.K) w1 H1 (if n < 2 ^ 62/\-(2 ^ 62)<=n then R.ok ((List.range n.toNat).map λ(i:Nat)=>D.int i) S1 else R.bad) Q:=p1
     rw [Y9 hn] at p2
     refine ⟨n,rfl,hn.2,hn.1,ax.ret p2 ?_ s1⟩
     intro i w' H' x'
     refine ⟨λhi=>⟨show i < n.toNat by simpa using hi,λx H'' y=>?_⟩,λhi=>show n.toNat<=i by simpa using hi⟩
     obtain ⟨rfl,rfl⟩:=y
     refine ⟨.inl rfl,λS _=>⟨.int i,?_,?_⟩⟩
     ·have:i < n.toNat:=by simpa using hi
      simp [this]
     ·unfold RD; simp
    ·have p2:ax X.K E (RI X.K) w1 H1 (if n < 2 ^ 62/\-(2 ^ 62)<=n then R.ok ((List.range n.toNat).map λ(i:Nat)=>D.int i) S1 else R.bad) Q:=p1
     rw [Yg hn] at p2
     exact p2.elim
   | _=>exact p1.elim
  ·cases d <;> exact p1.elim⟩⟩
end
section
variable {P:Program} {w:World} {K:PySem.W.Frag} {mg:Str->Option Value} {base:Heap}
theorem iW {K:PySem.W.Frag} {w:Wd} {ds:List D} {vs:List V} (q:RDs K w H ds vs):RSt K w H (ds.map some ++ List.replicate (N.length - ds.length) none) (L2.start N vs):=by
 unfold L2.start
 refine ⟨by simp [q.length],λi d e=>?_⟩
 by_cases hi:i < ds.length
 ·rw [Z3 (by simpa using hi),Q3] at e
  rw [Z3 (by rw [Ym,q.length]; exact hi),Q3]
  cases e1:ds[i]? with
  | none=>rw [e1] at e; cases e
  | some d'=>
   rw [e1] at e; cases e
   obtain ⟨v,ev,rv⟩:=q.get e1
   exact ⟨v,by rw [ev]; rfl,rv⟩
 ·rw [Zr (by simpa using hi),Zn] at e
  split at e <;> cases e
end
section
variable {prog:Program} {w:World} {A:Around} {R:Result->Shared->Prop} {s:Shared}
theorem ix {elt target iter:Expr} {ifs:List Expr} {scope:Scope} {pos:Pos} {it acc:Value} {env:Env} (I:Nat->Shared->Prop)
  (turn:∀ n s,I n s->wpAny (model prog w) A (pyNext it) (λr s1=>match r with
   | none=>R (.ok .next) s1
   | some v=>wpAny (model prog w) A (letOwnedTupleGo target it v) (λ_ s1'=>wpAny (model prog w) A (assign target env v) (λ_ s2=>
     wpAny (model prog w) A (forIn ifs true λc r=>if r=true then do let ok <- isTrue c env (eval c env); pure (ForInStep.yield ok) else pure (ForInStep.yield r)) (λok s3=>
      if ok=true then wpAny (model prog w) A (eval elt env) (λx s4=>
       wpAny (model prog w) A (call (.builtin "list.append") [acc,x]) (λ_ s5=>∃ m,m < n/\I m s5) (λ_ _=>False) s4) (λ_ _=>False) s3
      else ∃ m,m < n/\I m s3) (λ_ _=>False) s2) (λ_ _=>False) s1') (λ_ _=>False) s1) (λ_ _=>False) s)
  (n:Nat) (h:I n s):
  codeAny (model prog w) A (.compLoop (.ListComp elt [⟨target,iter,ifs,0⟩] scope pos) 0 it acc env) R s:=by
 refine codeAny_loop rfl I (λn s hI=>?_) n h
 show wpAny _ A ((compTurn (.ListComp elt [⟨target,iter,ifs,0⟩] scope pos) 0 it acc env).onRaise (λx=>do noteFrame x env; theTreesLotGoes x)) _ _ s
 refine wpAny_noted ?_
 rw [compTurn_list]
 refine Y6 (wpAny_standAt (Y6 (Za (turn n s hI) (λr s1 h1=>?_) λ_ _ h'=>h'.elim)))
 cases r with
 | none=>exact Ye h1
 | some v=>
  refine Y6 (Za h1 (λ_ s1' h1'=>?_) λ_ _ h'=>h'.elim)
  refine Y6 (Za h1' (λ_ s2 h2=>Y6 (Za h2 (λok s3 h3=>?_) λ_ _ h'=>h'.elim)) λ_ _ h'=>h'.elim)
  cases ok with
  | false=>exact Ye ⟨rfl,h3⟩
  | true=>
   exact Y6 (Y6 (Za h3 (λx s4 h4=>Y6 (Za h4 (λ_ s5 h5=>Ye (Ye ⟨rfl,h5⟩)) λ_ _ h'=>h'.elim)) λ_ _ h'=>h'.elim))
end
def sM (X:Cx) (ifs:List Expr) (t:TT):Prop:=
 ∀ (pins:List (Addr × Obj)) (s:Shared) (σ:L2.St) (H:Hp) (Q:Bool->Hp->Prop),Inv X pins σ H s->t σ H Q->
  wpAny (model X.prog X.w) X.A (forIn ifs true λc r=>if r=true then do let ok <- isTrue c X.env (eval c X.env); pure (ForInStep.yield ok) else pure (ForInStep.yield r)) (TP X pins σ Q) X.xe s
theorem sN:sM X [] (λ_ H Q=>Q true H):=λpins s σ H Q I h=>wpAny_tests_nil ⟨H,I,h⟩
theorem sO {c:Expr} (h:PT X c t):sM X [c] t:=λpins s σ H Q I q=>wpAny_tests_one (h pins s σ H Q I q)
noncomputable def cxC (X:Cx) (N:List Str) (scope:Scope) (cl:List (Str × Addr)) (s0:Shared) (H0:Hp) (ex:List Addr):Cx:=
 { X with N:=N,s₀:=s0,H₀:=H0,env:=compEnvC scope cl s0.heap.objs.size X.env,outer:=X.stack,ex:=ex,fn:=λ_=>false }
noncomputable def jt (k:Nat) (caps:List Nat) (s:L2.St):L2.St:=List.replicate k none ++ caps.map λi=>(s[i]?).join
structure CompScope (X:Cx) (N:List Str) (k:Nat) (caps:List Nat) (scope:Scope):Prop where
 kind:scope.kind=.function
 nocell:∀ x ∈ scope.names,x.2 ≠ .cell
 names:∀ x ∈ scope.names,x.2=.local->scope.names.lookup x.1=some .local
 free:∀ x ∈ scope.names,x.2=.free->X.env.kindOf x.1=some .cell \/ X.env.kindOf x.1=some .free
 len:N.length=k + caps.length
 cap:∀ t i,caps[t]?=some i->∃ x,X.N[i]?=some x/\N[k + t]?=some x/\scope.names.lookup x=some .free
theorem dz {A B:Type} [BEq A] [LawfulBEq A]:∀ {l:List (A × B)} {x:A} {b:B},l.lookup x=some b->(x,b) ∈ l
 | [],_,_,h=>by simp at h
 | (y,c) :: r,x,b,h=>by
  rw [Zj] at h
  cases e:x == y with
  | true=>
   rw [e] at h
   have:=Wu e
   subst this
   cases h
   exact Yz
  | false=>
   rw [e] at h
   exact Ys _ (dz h)
theorem g7:∀ (names:List (Str × NameKind)) (cs:List (Str × Addr)),(∀ x ∈ names,x.2=.free->∃ c,env.cells.lookup x.1=some c)->
  ∃ cl,(forIn names cs λ(x:Str × NameKind) (r:List (Str × Addr))=>(if x.2 == NameKind.free then do let a <- cellOf env x.1; pure (ForInStep.yield ((x.1,a) :: r)) else pure (ForInStep.yield r):Sem (ForInStep (List (Str × Addr)))))=pure cl/\
   (∀ p ∈ cl,p ∈ cs \/ env.cells.lookup p.1=some p.2)/\(∀ p ∈ cs,p ∈ cl)/\∀ x ∈ names,x.2=.free->∃ c,(x.1,c) ∈ cl
 | [],cs,_=>⟨cs,rfl,λp h=>.inl h,λp h=>h,λx h=>nomatch h⟩
 | (n,k) :: r,cs,h=>by
  by_cases hk:k=.free
  ·subst hk
   obtain ⟨c,hc⟩:=h (n,.free) Yz rfl
   obtain ⟨cl,e,h1,h2,h3⟩:=g7 r ((n,c) :: cs) λx hx=>h x (Ys _ hx)
   refine ⟨cl,?_,λp hp=>?_,λp hp=>h2 p (Ys _ hp),λx hx hf=>?_⟩
   ·rw [List.forIn_cons]
    have hco:cellOf env n=pure c:=by unfold cellOf; rw [hc]
    simp only [beq_self_eq_true,Zm,hco,pure_bind]
    exact e
   ·rcases h1 p hp with z | z
    ·rcases Yn.mp z with z | z
     ·subst z; exact .inr hc
     ·exact .inl z
    ·exact .inr z
   ·rcases Yn.mp hx with z | z
    ·subst z; exact ⟨c,h2 _ Yz⟩
    ·exact h3 x z hf
  ·obtain ⟨cl,e,h1,h2,h3⟩:=g7 r cs λx hx=>h x (Ys _ hx)
   have hb:(k == NameKind.free)=false:=by simpa using hk
   refine ⟨cl,?_,h1,h2,λx hx hf=>?_⟩
   ·rw [List.forIn_cons]
    simp only [hb,Zk,Qa,pure_bind]
    exact e
   ·rcases Yn.mp hx with z | z
    ·subst z; exact absurd hf hk
    ·exact h3 x z hf
theorem ju (h:∀ x ∈ scope.names,x.2=.free->∃ c,env.cells.lookup x.1=some c):
  ∃ cl,closureFor scope env=pure cl/\(∀ x c,cl.lookup x=some c->env.cells.lookup x=some c)/\∀ x ∈ scope.names,x.2=.free->∃ c,cl.lookup x.1=some c:=by
 obtain ⟨cl,e,h1,h2,h3⟩:=g7 (env:=env) scope.names [] h
 refine ⟨cl,?_,λx c hx=>?_,λx hx hf=>?_⟩
 ·unfold closureFor
  show ((forIn scope.names [] λ(x:Str × NameKind) (r:List (Str × Addr))=>(if x.2 == NameKind.free then do let a <- cellOf env x.1; pure (ForInStep.yield ((x.1,a) :: r)) else pure (ForInStep.yield r):Sem (ForInStep (List (Str × Addr))))) >>= λl=>pure l)=pure cl
  rw [e,pure_bind]
 ·rcases h1 _ (dz hx) with z | z
  ·exact nomatch z
  ·exact z
 ·obtain ⟨c,hc⟩:=h3 x hx hf
  cases e2:cl.lookup x.1 with
  | some c'=>exact ⟨c',rfl⟩
  | none=>
   rw [List.lookup_eq_none_iff] at e2
   have:=e2 _ hc
   simp at this
theorem nH {k:NameKind} (h:(relabel scope env).names.lookup x=some k):(x,k) ∈ scope.names \/ (k=.cell/\(x,NameKind.free) ∈ scope.names):=by
 have m:=dz h
 obtain ⟨⟨n,j⟩,hn,e⟩:=Qd.mp m
 dsimp only at e
 split at e
 ·rename_i hc
  cases e
  have:j=NameKind.free:=by
   have:=(Yt _ _ |>.mp (Yt _ _ |>.mp hc).1).1
   simpa using this
  subst this
  exact .inr ⟨rfl,hn⟩
 ·cases e
  exact .inl hn
theorem iy {scope:Scope} {env:Env} {x:Str}:∀ {names:List (Str × NameKind)},names.lookup x=some .free->
  ((names.map λ(n,k)=>if (k == NameKind.free && env.scope.kind == .function && env.kindOf n == some .cell) then (n,NameKind.cell) else (n,k)).lookup x=some .cell) \/
  ((names.map λ(n,k)=>if (k == NameKind.free && env.scope.kind == .function && env.kindOf n == some .cell) then (n,NameKind.cell) else (n,k)).lookup x=some .free)
 | [],h=>by simp at h
 | (n,k) :: r,h=>by
  have ih:=@iy scope env x r
  simp only [Yc]
  cases hx:x == n with
  | true=>
   simp only [Zj,hx] at h
   cases h
   by_cases hc:(NameKind.free == NameKind.free && env.scope.kind == .function && env.kindOf n == some .cell)=true
   ·left; rw [Y9 hc]; simp [Zj,hx]
   ·right; rw [Yg hc]; simp [Zj,hx]
  | false=>
   simp only [Zj,hx] at h
   by_cases hc:(k == NameKind.free && env.scope.kind == .function && env.kindOf n == some .cell)=true
   ·rw [Y9 hc]; simp only [Zj,hx]; exact ih h
   ·rw [Yg hc]; simp only [Zj,hx]; exact ih h
section
variable {X:Cx} {pins:List (Addr × Obj)} {σ:L2.St} {H:Hp} {s:Shared}
theorem j9 {cl:List (Str × Addr)} {fp:List Addr} {h':Heap} {m:Str->Option Value} {t:Nat} (I:Inv X pins σ H s) (C:CompScope X N k caps scope)
  (hcl:∀ x c,cl.lookup x=some c->X.env.cells.lookup x=some c) (hcf:∀ x ∈ scope.names,x.2=.free->∃ c,cl.lookup x.1=some c)
  (hfp:∀ b ∈ fp,FpOk X pins H b/\b < s.heap.objs.size) (hn:h'.Ns s.heap.objs.size m) (hk:∀ b o,s.heap.get? b=some o->h'.get? b=some o):
  Inv (cxC X N scope cl s H fp) pins (jt k caps σ) H { s with heap:=h',toks:=t }:=by
 have hfs:∀ b,b ∈ frs X.stack->b < s.heap.objs.size:=λb hb=>by
  obtain ⟨_,o,ho,_⟩:=I.stack.mem hb
  exact Yh ho
 refine ⟨⟨I.ok.mod,C.kind,I.ok.glob,I.ok.blt,Yd _,λx y c h1 h2=>I.ok.inj x y c (hcl x c h1) (hcl y c h2),λx hx=>?_,(λx c h=>nomatch h),I.ok.hd,I.ok.frames,.inl rfl,λb hb=>?_,λb o e=>?_,?_,λb o e hb=>?_,λb hb=>?_,I.stack,λb hb=>I.stkFree b hb⟩,
  rfl,I.bare,Un.kept hk,?_,λx c e=>?_,I.hok.fresh (Yd _),λx c e=>I.freeC x c (hcl x c e),λp hp=>?_,I.hok.kept hk,?_⟩
 ·-- has
  have key:∀ kk,(kk=NameKind.cell \/ kk=NameKind.free)->(relabel scope X.env).names.lookup x=some kk->∃ c,cl.lookup x=some c:=λkk hkk hl=>by
   rcases nH hl with z | ⟨_,z⟩
   ·rcases hkk with q | q
    ·subst q; exact absurd rfl (C.nocell _ z)
    ·subst q; exact hcf _ z rfl
   ·exact hcf _ z rfl
  rcases hx with z | z
  ·exact key _ (.inl rfl) z
  ·exact key _ (.inr rfl) z
 ·obtain ⟨f,lt⟩:=hfp b hb
  exact ⟨Yr lt,λx c e=>f.2.2.2.2.1 x c (hcl x c e)⟩
 ·exact I.bs b o e
 ·exact Z9 I.ok.bsz I.sz
 ·obtain ⟨f,lt⟩:=hfp b hb
  rcases f.2.2.2.1 with z | z
  ·exact I.ok.noex b o e z
  ·exact absurd (Yl (Yh e) (Z9 I.ok.bsz z)) (Qg _)
 ·obtain ⟨f,lt⟩:=hfp b hb
  intro z
  rcases Yn.mp (I.stkSub b z) with q | q
  ·exact f.2.1 q
  ·exact f.2.2.1 q
 ·obtain ⟨m0,hn0,hl0⟩:=I.loc
  refine ⟨m,hn,λi x v e1 e2 e3=>?_⟩
  unfold jt at e2
  by_cases hi:i < k
  ·rw [Z3 (by simpa using hi),Zn] at e2
   split at e2 <;> cases e2
  ·rw [Zr (by simpa using hi),Q3,Qs] at e2
   cases ec:caps[i - k]? with
   | none=>rw [ec] at e2; cases e2
   | some j=>
    rw [ec] at e2
    have e2':(σ[j]?).join=some v:=Z6 e2
    obtain ⟨y,hy1,hy2,hy3⟩:=C.cap _ _ ec
    have e1':N[i]?=some x:=e1
    rw [show k + (i - k)=i by omega] at hy2
    rw [hy2] at e1'
    have exy:y=x:=Z6 e1'
    subst exy
    have hfr:(y,NameKind.free) ∈ scope.names:=dz hy3
    have hsj:σ[j]?=some (some v):=by
     cases q:σ[j]? with
     | none=>rw [q] at e2'; cases e2'
     | some o=>rw [q] at e2'; rw [show o=some v from e2']
    have kinds:=C.free _ hfr rfl
    have hvis:Vis X.env.scope y:=by
     rcases kinds with z | z
     ·exact .inr (.inl z)
     ·exact .inr (.inr z)
    obtain ⟨u,ru,lk⟩:=hl0 j y v hy1 hsj hvis
    refine ⟨u,ru,?_⟩
    rcases lk with ⟨z,_⟩ | ⟨_,c,hc,hcell⟩
    ·rcases kinds with q | q <;> (rw [q] at z; cases z)
    ·obtain ⟨c',hc'⟩:=hcf _ hfr rfl
     have:=hcl _ _ hc'
     rw [hc] at this
     cases this
     refine .inr ⟨?_,c,hc',hcell.keeps hk⟩
     exact iy (scope:=scope) (env:=X.env) hy3
 ·obtain ⟨v,z⟩:=I.cell x c (hcl x c e)
  exact ⟨v,z.keeps hk⟩
 ·obtain ⟨e,n,ne,nf,d⟩:=I.pin p hp
  refine ⟨hk _ _ e,n,Yr (Yh e),λz=>?_,d⟩
  rcases Yn.mp (I.stkSub _ z) with q | q
  ·exact ne q
  ·exact nf q
 ·unfold jt
  show _=N.length
  rw [C.len]
  simp
end
noncomputable def pL (wi:TI) (k:Nat) (caps:List Nat) (g:TG) (tt:TT) (te:TE):TE:=λσ H Q=>wi σ H λJ H1=>∀ p,H1 p=none->∃ W:Nat->Nat->L2.St->Hp->Prop,(∃ m,W 0 m (jt k caps σ) (upd H1 p (.lst [])))/\∀ i m σ' H',W i m σ' H'->
 (J.stop i H'/\Q (.ref p) H') \/ (J.go i H'/\∃ N:L2.St->Hp->Prop,(∀ σ2 H2,N σ2 H2->∃ m',m' < m/\W (i + 1) m' σ2 H2)/\
  ∀ x H3,J.yld i H' x H3->g x σ' H3 λσ4 H4=>tt σ4 H4 λb H5=>if b=true then te σ4 H5 λy H6=>∃ ys,H6 p=some (.lst ys)/\ys.length < sizeLine/\N σ4 (upd H6 p (.lst (ys ++ [y]))) else N σ4 H5)
theorem sP {elt tg iter:Expr} {ifs:List Expr} {pos:Pos} {wi:TI} {g:TG} {tt:TT} {te:TE} (hX:Cd qb X) (hxe:∀ e s,¬ X.xe e s) (C:CompScope X N k caps scope)
  (hi:PIb qb X tg iter wi) (hg:∀ cl s0 H0 ex,Cd qb (cxC X N scope cl s0 H0 ex)->PG (cxC X N scope cl s0 H0 ex) tg g) (ht:∀ cl s0 H0 ex,Cd qb (cxC X N scope cl s0 H0 ex)->sM (cxC X N scope cl s0 H0 ex) ifs tt) (he:∀ cl s0 H0 ex,Cd qb (cxC X N scope cl s0 H0 ex)->PE (cxC X N scope cl s0 H0 ex) elt te)
  (hs:autoParam (∀ x,foldedSetIterable iter X.env x=pure x) Au.h4._auto_1):PE X (.ListComp elt [⟨tg,iter,ifs,0⟩] scope pos) (pL wi k caps g tt te):=by
 intro pins s σ H Q I h
 have noX:∀ {α:Type} {t:Sem α} {Q':α->Shared->Prop} {s':Shared},wpAny (model X.prog X.w) X.A t Q' X.xe s'->wpAny (model X.prog X.w) X.A t Q' (λ_ _=>False) s':=λh=>Za h (λ_ _ x=>x) λe s z=>hxe e s z
 obtain ⟨cl,hclos,hcl,hcf⟩:=ju (scope:=scope) (env:=X.env) λx hx hf=>I.ok.has _ (C.free x hx hf)
 rw [eval_ListComp]
 refine wpAny_comprehension_free (use:=none) (cl:=cl) rfl hs hclos C.kind C.names ?_
 refine thn (hi pins s σ H _ I h) λv s1 h1=>thn h1 λitv s2 h2=>?_
 obtain ⟨it,fp,tn,J,H2,e,I2,T,st2,f2,q⟩:=h2
 subst e
 refine wpAny_newList (items:=[]) ?_ (by show 0<=sizeLine; exact Zc _)
 have hp:H2 s2.heap.objs.size=none:=I2.hok.fresh (Yd _)
 obtain ⟨W,⟨m0,w0⟩,turn⟩:=q _ hp
 have I3:Inv X pins σ (upd H2 s2.heap.objs.size (.lst [])) { s2 with heap:=s2.heap.push { cls:=.type "list",data:=.seq ([]:List Value).toArray } }:=
  I2.laid (t':=s2.toks) (λb u e=>Y8 _ e) (Yd _) ⟨Zc _,[],0,.nil,Yp _ rfl⟩
 refine wpAny_newFunctionEnv C.nocell (λx hx=>nomatch hx) (λh4 hn4 hs4=>?_) C.kind
 have ltfp:∀ b ∈ fp,b < s2.heap.objs.size:=λb hb=>by
  obtain ⟨o,ho,_⟩:=T.obj _ _ st2 b hb
  exact Yh ho
 have hk4:∀ b o,(s2.heap.push { cls:=.type "list",data:=.seq ([]:List Value).toArray }).get? b=some o->h4.get? b=some o:=λb o e=>by
  have ne:b ≠ (s2.heap.push { cls:=.type "list",data:=.seq ([]:List Value).toArray }).objs.size:=Yr (Yh e)
  rw [hs4.2 b ne]
  exact Y8 _ e
 have f3:∀ b ∈ fp,FpOk X pins (upd H2 s2.heap.objs.size (.lst [])) b:=λb hb=>by
  obtain ⟨a1,a2⟩:=f2 b hb
  exact ⟨by rw [aA (Yr (ltfp b hb))]; exact a1,a2⟩
 have I4:=j9 (N:=N) (k:=k) (caps:=caps) (scope:=scope) (cl:=cl) (fp:=fp) (t:=s2.toks + 0) I3 C hcl hcf (λb hb=>⟨f3 b hb,by rw [show ({ s2 with heap:=s2.heap.push { cls:=.type "list",data:=.seq ([]:List Value).toArray } }:Shared).heap.objs.size=s2.heap.objs.size + 1 from Zt ..]; exact W9 (ltfp b hb)⟩) hn4 hk4
 have tn4:tn 0 h4:=T.keep _ _ _ st2 λb hb o e=>hk4 b o (Y8 _ e)
 have loop:codeAny (model X.prog X.w) X.A (.compLoop (.ListComp elt [⟨tg,iter,ifs,0⟩] scope pos) 0 (.ref it) (.ref s2.heap.objs.size) (compEnvC scope cl ({ s2 with heap:=s2.heap.push { cls:=.type "list",data:=.seq ([]:List Value).toArray } }:Shared).heap.objs.size X.env))
   (compPost (model X.prog X.w) X.A X.xe none (EP X pins σ Q) (.ref s2.heap.objs.size) ({ s2 with heap:=s2.heap.push { cls:=.type "list",data:=.seq ([]:List Value).toArray } }:Shared).heap.objs.size) { s2 with heap:=h4,toks:=s2.toks + 0 }:=by
  generalize hs3:({ s2 with heap:=s2.heap.push { cls:=.type "list",data:=.seq ([]:List Value).toArray } }:Shared)=s3 at *
  have sz3:s2.heap.objs.size<=s3.heap.objs.size:=by rw [<- hs3]; show _<=(s2.heap.push _).objs.size; rw [Zt]; exact Vh _
  have k23:∀ b o,s2.heap.get? b=some o->s3.heap.get? b=some o:=λb o e=>by rw [<- hs3]; exact Y8 _ e
  have hos:s3.os=s2.os:=by rw [<- hs3]
  have stat:∀ {H':Hp},(∀ b ∈ fp,H' b=none)->∀ b ∈ fp,FpOk (cxC X N scope cl s3 (upd H2 s2.heap.objs.size (.lst [])) fp) pins H' b:=λ{H'} hn b hb=>by
   obtain ⟨a1,a2,a3,a4,a5,a6⟩:=f3 b hb
   refine ⟨hn b hb,Yr (Yl (ltfp b hb) sz3),λz=>?_,.inl hb,λx c e=>a5 x c (hcl x c e),a6⟩
   rcases Yn.mp (I2.stkSub b z) with q | q
   ·exact a2 q
   ·exact a3 q
  have I4':Inv (cxC X N scope cl s3 (upd H2 s2.heap.objs.size (.lst [])) fp) pins (jt k caps σ) (upd H2 s2.heap.objs.size (.lst [])) { s2 with heap:=h4,toks:=s2.toks + 0 }:=by subst hs3; exact I4
  have hX2:Cd qb (cxC X N scope cl s3 (upd H2 s2.heap.objs.size (.lst [])) fp):=by
   rcases hX with z | ⟨z,y | ⟨a,o,u,e1,e2,e3⟩⟩
   ·exact .inl z
   ·exact .inr ⟨z,.inl y⟩
   ·refine .inr ⟨z,.inr ⟨a,o,u,e1,?_,e3⟩⟩
    have q0:=I2.base.frzs a o u e2
    show upd H2 s2.heap.objs.size (.lst []) a=_
    rw [aA (λy=>by rw [y,hp] at q0; cases q0)]
    exact q0
  refine ix (λn s'=>∃ i σ' H',Inv (cxC X N scope cl s3 (upd H2 s2.heap.objs.size (.lst [])) fp) pins σ' H' s'/\tn i s'.heap/\(∀ b ∈ fp,H' b=none)/\W i n σ' H') ?_ m0 ⟨0,_,_,I4',tn4,λb hb=>(f3 b hb).1,w0⟩
  rintro n s5 ⟨i,σ5,H5,I5,st5,fr5,w5⟩
  rcases turn i n σ5 H5 w5 with ⟨stop,qn⟩ | ⟨go,Nn,hN,step⟩
  ·refine thn (T.done (cxC X N scope cl s3 (upd H2 s2.heap.objs.size (.lst [])) fp) rfl rfl rfl hX2 i pins s5 σ5 H5 _ I5 (stat fr5) st5 stop) λr s6 zq=>?_
   obtain ⟨hr,I6⟩:=zq
   subst hr
   obtain ⟨m6,hn6,_⟩:=I6.loc
   refine ⟨m6,hn6,λh7 hs7=>⟨.ref s2.heap.objs.size,H5,?_,rfl,qn⟩⟩
   have u1:Un (frs X.stack) fp H2 (upd H2 s2.heap.objs.size (.lst [])) s2.heap s3.heap:=Un.laid k23 (Yd _) hp
   have u2:Un (frs X.stack) fp H2 H5 s2.heap s6.heap:=u1.trans I6.base
   have neC:∀ b o,s2.heap.get? b=some o->b ≠ s3.heap.objs.size:=λb o e=>Yr (Yl (Yh e) sz3)
   have hfree:H5 s3.heap.objs.size=none:=I6.free
   refine I2.call' (s':={ s6 with heap:=h7 }) (ch:=fp) (by rw [<- hos]; exact I6.os) ⟨λb o e n hb hx=>?_,λb o e n hb hx=>?_,u2.free,λb o e hx=>?_,u2.tups,u2.frzs,u2.tbls⟩ (λb ob e=>?_) I6.bare λb hb=>?_
   ·exact (hs7.2 b (neC b o e)).trans (u2.keep b o e n hb hx)
   ·obtain ⟨sl,e1⟩:=u2.slot b o e n hb hx
    exact ⟨sl,(hs7.2 b (neC b o e)).trans e1⟩
   ·obtain ⟨o',e1⟩:=u2.there b o e hx
    exact ⟨o',(hs7.2 b (neC b o e)).trans e1⟩
   ·refine (I6.hok b ob e).stay (λc v hc z=>(hs7.2 c ?_).trans z) (λ_ z=>z) λ_ _ z=>z
    intro y
    rcases hc with z | z
    ·rw [<- z,y,hfree] at e; cases e
    ·rw [y,hfree] at z; cases z
   ·obtain ⟨a1,a2,a3,a4,a5,a6⟩:=f2 b hb
    exact ⟨a4,a2,a5,a6⟩
  ·refine thn (T.item (cxC X N scope cl s3 (upd H2 s2.heap.objs.size (.lst [])) fp) rfl rfl rfl hX2 i pins s5 σ5 H5 _ I5 (stat fr5) st5 go) λr s6 zq=>?_
   obtain ⟨u,hr,h6⟩:=zq
   subst hr
   refine thn h6 λ_ s7 zq=>?_
   obtain ⟨x,H7,I7,r7,y7,st7,fr7⟩:=zq
   have I7':=I7.pinned (stat fr7) (T.obj _ _ st7)
   refine noX (thn (hg cl s3 _ fp hX2 _ s7 σ5 H7 x u _ I7' r7 (step x H7 y7)) λ_ s8 zq=>?_)
   obtain ⟨σ8,H8,I8,q8⟩:=zq
   refine noX (thn (ht cl s3 _ fp hX2 _ s8 σ8 H8 _ I8 q8) λok s9 zq=>?_)
   obtain ⟨H9,I9,q9⟩:=zq
   have again:∀ {s':Shared} {σ':L2.St} {H':Hp},Inv (cxC X N scope cl s3 (upd H2 s2.heap.objs.size (.lst [])) fp) (pins ++ iR fp s7.heap) σ' H' s'->Nn σ' H'->
     ∃ m,m < n/\∃ i σ' H',Inv (cxC X N scope cl s3 (upd H2 s2.heap.objs.size (.lst [])) fp) pins σ' H' s'/\tn i s'.heap/\(∀ b ∈ fp,H' b=none)/\W i m σ' H':=λ{s' σ' H'} I' n'=>by
    obtain ⟨m',hm,w'⟩:=hN σ' H' n'
    refine ⟨m',hm,i + 1,σ',H',I'.unpinned,T.keep _ _ _ st7 λb hb o e=>(I'.pin (b,o) (Yu _ (Yu _ (dH hb e)))).1,λb hb=>?_,w'⟩
    obtain ⟨o,e,d⟩:=T.obj _ _ st7 b hb
    exact (I'.pin (b,o) (Yu _ (Yu _ (dH hb e)))).2.1
   cases ok with
   | false=>exact again I9 q9
   | true=>
    refine noX (thn (he cl s3 _ fp hX2 _ s9 σ8 H9 _ I9 q9) λy s10 zq=>?_)
    obtain ⟨yv,H10,I10,r10,ys,hys,hlt,q10⟩:=zq
    refine noX (thn (iT (X:=cxC X N scope cl s3 (upd H2 s2.heap.objs.size (.lst [])) fp) _ s10 σ8 H10 (.ref s2.heap.objs.size) [yv] _ [y] (λ_ H'=>Nn σ8 H') I10 rfl (.cons r10 .nil) ⟨_,ys,yv,rfl,rfl,hys,hlt,q10⟩) λ_ s11 zq=>?_)
    obtain ⟨_,H11,I11,_,q11⟩:=zq
    exact again I11 q11
 exact codeAny_compStart_list loop (T.self X.A 0 _ _ _ tn4 loop)
def ee (i:Int):Prop:=-(2 ^ 64) < i/\i < 2 ^ 64
noncomputable instance (i:Int):Decidable (ee i):=by unfold ee; infer_instance
noncomputable def bg:Sto->D->D->Option D
 | _,.int i,.int j=>some (.int (i + j))
 | _,.str a,.str b=>if a.length + b.length<=sizeLine then some (.str (a ++ b)) else none
 | _,.tup a,.tup b=>if a.length + b.length<=sizeLine then some (.tup (a ++ b)) else none
 | _,.lst a,.lst b=>if a.length + b.length<=sizeLine then some (.lst (a ++ b)) else none
 | _,_,_=>none
noncomputable def g8:Sto->D->D->Option D
 | _,.int i,.int j=>if ee i \/ ee j then some (.int (i * j)) else none
 | _,.tup a,.int k=>if -(2 ^ 63)<=k/\k < 2 ^ 63/\a.length * k.toNat<=sizeLine then some (.tup (List.replicate k.toNat a).flatten) else none
 | _,.lst a,.int k=>if -(2 ^ 63)<=k/\k < 2 ^ 63/\a.length * k.toNat<=sizeLine then some (.lst (List.replicate k.toNat a).flatten) else none
 | _,_,_=>none
noncomputable def nI:Sto->D->D->Option D
 | _,.int i,.int j=>if 0 < j/\j < 1073741824 then some (.int (i / j)) else none
 | _,_,_=>none
noncomputable def oMod:Sto->D->D->Option D
 | _,.int i,.int j=>if 0 < j then some (.int (i % j)) else none
 | _,_,_=>none
noncomputable def qJ:Sto->D->D->Option D
 | _,.int i,.int j=>if 0<=j/\j<=1000000/\i.natAbs < 2 ^ 64 then some (.int (i ^ j.toNat)) else none
 | _,_,_=>none
noncomputable def nJ:Sto->D->Option D
 | _,.int i=>some (.int (-i))
 | _,_=>none
noncomputable def nK (p:Int->Int->Bool):Sto->D->D->Option D
 | _,.int i,.int j=>some (.bl (p i j))
 | _,_,_=>none
noncomputable abbrev oLt:=nK λi j=>decide (i < j)
noncomputable abbrev oLe:=nK λi j=>decide (i<=j)
noncomputable abbrev oGt:=nK λi j=>decide (j < i)
noncomputable abbrev oGe:=nK λi j=>decide (j<=i)
noncomputable def eqS:D->D->Option Bool
 | .int i,.int j=>some (decide (i=j))
 | .bl i,.bl j=>some (decide (i=j))
 | .str i,.str j=>some (decide (i=j))
 | .non,.non=>some true
 | .non,.int _=>some false
 | .int _,.non=>some false
 | .non,.bl _=>some false
 | .bl _,.non=>some false
 | .non,.str _=>some false
 | .str _,.non=>some false
 | .int _,.str _=>some false
 | .str _,.int _=>some false
 | .bl _,.str _=>some false
 | .str _,.bl _=>some false
 | _,_=>none
noncomputable def oEq:Sto->D->D->Option D:=λ_ a b=>(eqS a b).map .bl
noncomputable def oNe:Sto->D->D->Option D:=λ_ a b=>(eqS a b).map λc=>.bl (!c)
noncomputable def dU:D->Bool
 | .non=>true
 | .bl _=>true
 | .int _=>true
 | .str _=>true
 | _=>false
noncomputable def eqF:D->D->Bool
 | .non,.non=>true
 | .bl a,.bl b=>a == b
 | .bl a,.int b=>(if a then 1 else 0) == b
 | .int a,.bl b=>a == (if b then 1 else 0)
 | .int a,.int b=>a == b
 | .str a,.str b=>a == b
 | _,_=>false
noncomputable def gf (S:Sto):D->Option (List D)
 | .tup a=>some a
 | .lst a=>some a
 | .fz a=>some a
 | .ref n=>match S[n]? with
  | some (.lst a)=>some a
  | some (.flst a)=>some a
  | _=>none
 | _=>none
noncomputable def oIn (neg:Bool):Sto->D->D->Option D:=λS x y=>match gf S y with
 | some a=>if dU x=true/\a.all dU=true then some (.bl (if neg then !(a.any λz=>eqF z x) else a.any λz=>eqF z x)) else none
 | none=>none
noncomputable def oIx:Sto->D->D->Option D:=λS x y=>match gf S x,y with
 | some a,.int i=>atI a i
 | _,_=>none
noncomputable def cutD (xs:List D) (lo hi:Option Int):List D:=(xs.drop (HT.sIx xs.length 0 lo)).take (HT.sIx xs.length xs.length hi - HT.sIx xs.length 0 lo)
section
variable {X:Cx} {E:XK}
theorem RD.int {K:PySem.W.Frag} {v:V} (q:RD K w H (.int i) v):v=.int i:=by unfold RD at q; exact q
theorem RD.bl {K:PySem.W.Frag} {i:Bool} {v:V} (q:RD K w H (.bl i) v):v=.bl i:=by unfold RD at q; exact q
theorem RD.str {K:PySem.W.Frag} {i:Str} {v:V} (q:RD K w H (.str i) v):v=.str i:=by unfold RD at q; exact q
theorem RD.non {K:PySem.W.Frag} {v:V} (q:RD K w H .non v):v=.non:=by unfold RD at q; exact q
theorem RD.mkI {K:PySem.W.Frag} :RD K w H (.int i) (.int i):=by unfold RD; rfl
theorem RD.mkB {K:PySem.W.Frag} {i:Bool}:RD K w H (.bl i) (.bl i):=by unfold RD; rfl
theorem RD.mkS {K:PySem.W.Frag} {i:Str}:RD K w H (.str i) (.str i):=by unfold RD; rfl
theorem RD.tupI {K:PySem.W.Frag} {ds:List D} {v:V} (q:RD K w H (.tup ds) v):∃ a vs,v=.ref a/\(At w H a (.tup vs) \/ nC K a vs)/\RDs K w H ds vs:=by unfold RD at q; exact q
theorem RD.lstI {K:PySem.W.Frag} {ds:List D} {v:V} (q:RD K w H (.lst ds) v):∃ a vs,v=.ref a/\At w H a (.lst vs)/\RDs K w H ds vs:=by unfold RD at q; exact q
theorem RD.fzI {K:PySem.W.Frag} {ds:List D} {v:V} (q:RD K w H (.fz ds) v):∃ a vs,v=.ref a/\qI K w H a vs/\RDs K w H ds vs:=by unfold RD at q; exact q
theorem RD.refI {K:PySem.W.Frag} {v:V} (q:RD K w H (.ref n) v):∃ a,v=.ref a/\w.st[n]?=some a:=by unfold RD at q; exact q
theorem RD.newTup {K:PySem.W.Frag} {ds:List D} {vs:List V} (s:RS K w H S) (hp:H p=none) (q:RDs K w H ds vs):RD K w (upd H p (.tup vs)) (.tup ds) (.ref p):=by
 unfold RD
 exact ⟨p,vs,rfl,.inl ⟨aL,s.fresh hp⟩,RDs.ext (Ext.new hp) _ _ q⟩
theorem RD.newLst {K:PySem.W.Frag} {ds:List D} {vs:List V} (s:RS K w H S) (hp:H p=none) (q:RDs K w H ds vs):RD K w (upd H p (.lst vs)) (.lst ds) (.ref p):=by
 unfold RD
 exact ⟨p,vs,rfl,⟨aL,s.fresh hp⟩,RDs.ext (Ext.new hp) _ _ q⟩
theorem D3 {f:Value->Value->Sem Value} {C:Int->Int->Prop} {g:Int->Int->D} {gv:Int->Int->V} {o:Sto->D->D->Option D} (h:OpR X f (rI C gv)) (hg:∀ K w H i j,RD K w H (g i j) (gv i j))
  (ho:∀ S d e z,o S d e=some z->∃ i j,d=.int i/\e=.int j/\C i j/\z=g i j):OpR X f (xO X.K E o):=by
 rintro pins s σ H x y v u Q I rx ry ⟨w,S,d,e,hS,qd,qe,p⟩
 obtain ⟨z,hz,p⟩:=p.of
 obtain ⟨i,j,rfl,rfl,c,rfl⟩:=ho _ _ _ _ hz
 cases qd.int
 cases qe.int
 exact h pins s σ H _ _ v u Q I rx ry ⟨i,j,rfl,rfl,c,p.ret (hg _ _ _ _ _) hS⟩
theorem pN {f:Value->Value->Sem Value} {g:Int->Int->D} {gv:Int->Int->V} {o:Sto->D->D->Option D} (h:OpR X f (rI0 gv)) (hg:∀ K w H i j,RD K w H (g i j) (gv i j))
  (ho:∀ S d e z,o S d e=some z->∃ i j,d=.int i/\e=.int j/\z=g i j):OpR X f (xO X.K E o):=by
 rintro pins s σ H x y v u Q I rx ry ⟨w,S,d,e,hS,qd,qe,p⟩
 obtain ⟨z,hz,p⟩:=p.of
 obtain ⟨i,j,rfl,rfl,rfl⟩:=ho _ _ _ _ hz
 cases qd.int
 cases qe.int
 exact h pins s σ H _ _ v u Q I rx ry ⟨i,j,rfl,rfl,p.ret (hg _ _ _ _ _) hS⟩
theorem yQ:OpR X (binaryOp .FloorDiv) (xO X.K E nI):=D3 (g:=λi j=>.int (i / j)) yw (λ_ _ _ _ _=>RD.mkI) λS d e z h=>by
 unfold nI at h; split at h
 ·split at h
  ·cases h; exact ⟨_,_,rfl,rfl,by assumption,rfl⟩
  ·cases h
 ·cases h
theorem iX:OpR X (binaryOp .Mod) (xO X.K E oMod):=D3 (g:=λi j=>.int (i % j)) DA (λ_ _ _ _ _=>RD.mkI) λS d e z h=>by
 unfold oMod at h; split at h
 ·split at h
  ·cases h; exact ⟨_,_,rfl,rfl,by assumption,rfl⟩
  ·cases h
 ·cases h
theorem D4:OpR X (binaryOp .Pow) (xO X.K E qJ):=D3 (g:=λi j=>.int (i ^ j.toNat)) DB (λ_ _ _ _ _=>RD.mkI) λS d e z h=>by
 unfold qJ at h; split at h
 ·split at h
  ·cases h; exact ⟨_,_,rfl,rfl,by assumption,rfl⟩
  ·cases h
 ·cases h
theorem iz {p:Int->Int->Bool} {d e z:D} (h:nK p S d e=some z):∃ i j,d=.int i/\e=.int j/\z=.bl (p i j):=by
 unfold nK at h; split at h
 ·cases h; exact ⟨_,_,rfl,rfl,rfl⟩
 ·cases h
theorem sQ:OpR X (compareOp .Lt) (xO X.K E oLt):=pN (g:=λi j=>.bl (decide (i < j))) Hi (λ_ _ _ _ _=>RD.mkB) λS d e z h=>iz h
theorem pO:OpR X (compareOp .LtE) (xO X.K E oLe):=pN (g:=λi j=>.bl (decide (i<=j))) Hj (λ_ _ _ _ _=>RD.mkB) λS d e z h=>iz h
theorem z5:OpR X (compareOp .Gt) (xO X.K E oGt):=pN (g:=λi j=>.bl (decide (j < i))) Hk (λ_ _ _ _ _=>RD.mkB) λS d e z h=>iz h
theorem z6:OpR X (compareOp .GtE) (xO X.K E oGe):=pN (g:=λi j=>.bl (decide (j<=i))) Hl (λ_ _ _ _ _=>RD.mkB) λS d e z h=>iz h
theorem mG:UnR X (unaryOp .USub) (xU X.K E nJ):=by
 rintro pins s σ H x v Q I rx ⟨w,S,d,hS,qd,p⟩
 obtain ⟨z,hz,p⟩:=p.of
 unfold nJ at hz; split at hz
 ·cases hz
  cases qd.int
  exact DC pins s σ H _ v Q I rx ⟨_,rfl,p.ret RD.mkI hS⟩
 ·cases hz
theorem sR {K:PySem.W.Frag} {d e:D} {x y:V} {c:Bool} (qd:RD K w H d x) (qe:RD K w H e y) (h:eqS d e=some c):DD x y=true/\decide (x=y)=c:=by
 unfold eqS at h
 split at h <;> (try (cases h; done)) <;> (unfold RD at qd qe; subst qd; subst qe; cases h; refine ⟨rfl,?_⟩; simp)
theorem sS:OpR X (compareOp .Eq) (xO X.K E oEq):=by
 rintro pins s σ H x y v u Q I rx ry ⟨w,S,d,e,hS,qd,qe,p⟩
 obtain ⟨z,hz,p⟩:=p.of
 unfold oEq at hz
 cases h:eqS d e with
 | none=>rw [h] at hz; cases hz
 | some c=>
  rw [h] at hz; cases hz
  obtain ⟨h1,h2⟩:=sR qd qe h
  exact Hg pins s σ H _ _ v u Q I rx ry ⟨h1,by rw [h2]; exact p.ret RD.mkB hS⟩
theorem HD:OpR X (compareOp .NotEq) (xO X.K E oNe):=by
 rintro pins s σ H x y v u Q I rx ry ⟨w,S,d,e,hS,qd,qe,p⟩
 obtain ⟨z,hz,p⟩:=p.of
 unfold oNe at hz
 cases h:eqS d e with
 | none=>rw [h] at hz; cases hz
 | some c=>
  rw [h] at hz; cases hz
  obtain ⟨h1,h2⟩:=sR qd qe h
  exact Hh pins s σ H _ _ v u Q I rx ry ⟨h1,by rw [h2]; exact p.ret RD.mkB hS⟩
theorem ka {K:PySem.W.Frag} {d:D} {v:V} {a:List D} (s:RS K w H S) (q:RD K w H d v) (h:gf S d=some a):∃ p vs,v=.ref p/\(SqL K H p vs \/ SqT K H p vs)/\RDs K w H a vs:=by
 unfold gf at h
 split at h
 ·cases h; obtain ⟨p,vs,e,z,r⟩:=q.tupI; exact ⟨p,vs,e,.inr (df z),r⟩
 ·cases h; obtain ⟨p,vs,e,z,r⟩:=q.lstI; exact ⟨p,vs,e,.inl (SqL.of z.1),r⟩
 ·cases h; obtain ⟨p,vs,e,z,r⟩:=q.fzI; exact ⟨p,vs,e,.inl z.sq,r⟩
 ·split at h
  ·rename_i n b hn
   cases h
   obtain ⟨p,e,hp⟩:=q.refI
   obtain ⟨p',hp',vs,hv,r⟩:=s.obj _ _ hn
   rw [hp] at hp'; cases hp'
   exact ⟨p,vs,e,.inl (SqL.of hv),r⟩
  ·rename_i n b hn
   cases h
   obtain ⟨p,e,hp⟩:=q.refI
   obtain ⟨p',hp',o,vs,hv,r⟩:=s.obj _ _ hn
   rw [hp] at hp'; cases hp'
   exact ⟨p,vs,e,.inl (.inl (.inr ⟨o,hv⟩)),r⟩
  ·cases h
 ·cases h
theorem RDs.atI {K:PySem.W.Frag} {a:List D} {vs:List V} {d:D} (r:RDs K w H a vs) (h:atI a i=some d):∃ v,L2.atI vs i=some v/\RD K w H d v:=by
 unfold L2.atI at h ⊢
 rw [r.length]
 cases e:ixN a.length i with
 | none=>rw [e] at h; cases h
 | some j=>
  rw [e] at h
  obtain ⟨v,ev,rv⟩:=r.get (show a[j]?=some d from h)
  exact ⟨v,ev,rv⟩
theorem bR:IxR X (xO X.K E oIx):=by
 rintro va sl pins s σ H x y v u Q I rx ry ⟨w,S,d,e,hS,qd,qe,p⟩ hsub
 obtain ⟨z,hz,p'⟩:=p.of
 clear p
 unfold oIx at hz
 split at hz
 ·rename_i a i ha
  obtain ⟨q,vs,rfl,sq,r⟩:=ka hS qd ha
  cases qe.int
  obtain ⟨v',ev,rv⟩:=r.atI hz
  exact sk va sl pins s σ H _ _ v u Q I rx ry (sq.elim (λz=>.inl ⟨q,vs,i,v',rfl,rfl,z,ev,p'.ret rv hS⟩) λz=>.inr (.inl ⟨q,vs,i,v',rfl,rfl,z,ev,p'.ret rv hS⟩)) hsub
 ·cases hz
theorem mH {K:PySem.W.Frag} {d:D} {v:V} (q:RD K w H d v) (h:dU d=true):gQ v=true:=by
 unfold dU at h
 split at h
 ·cases q.non; rfl
 ·cases q.bl; rfl
 ·cases q.int; rfl
 ·cases q.str; rfl
 ·cases h
theorem kb {K:PySem.W.Frag} :∀ {ds:List D} {vs:List V},RDs K w H ds vs->ds.all dU=true->vs.all gQ=true
 | [],_,q,_=>by rw [q.nil_inv]; rfl
 | d :: ds,_,q,h=>by
  obtain ⟨v,r,rfl,p,t⟩:=q.cons_inv
  rw [V2,Yt] at h ⊢
  exact ⟨mH p h.1,kb t h.2⟩
theorem D5 {K:PySem.W.Frag} {d e:D} {x y:V} (qd:RD K w H d x) (qe:RD K w H e y) (h1:dU d=true) (h2:dU e=true):eqV x y=eqF d e:=by
 unfold dU at h1 h2
 split at h1 <;> (try (cases h1; done)) <;> split at h2 <;> (try (cases h2; done)) <;> (unfold RD at qd qe; subst qd; subst qe; rfl)
theorem mI {K:PySem.W.Frag} {d:D} {x:V} (qd:RD K w H d x) (hd:dU d=true):∀ {ds:List D} {vs:List V},RDs K w H ds vs->ds.all dU=true->(vs.any λy=>eqV y x)=ds.any λz=>eqF z d
 | [],_,q,_=>by rw [q.nil_inv]; rfl
 | e :: ds,_,q,h=>by
  obtain ⟨v,r,rfl,p,t⟩:=q.cons_inv
  rw [V2,Yt] at h
  rw [Q5,Q5,D5 p qd h.1 hd,mI qd hd t h.2]
theorem sU:OpR X (compareOp .In) (xO X.K E (oIn false)):=by
 rintro pins s σ H x y v u Q I rx ry ⟨w,S,d,e,hS,qd,qe,p⟩
 obtain ⟨z,hz,p⟩:=p.of
 unfold oIn at hz
 split at hz
 ·rename_i a ha
  split at hz
  ·rename_i hf
   obtain ⟨q,vs,rfl,sq,r⟩:=ka hS qe ha
   cases hz
   refine qF pins s σ H _ _ v u Q I rx ry ⟨q,vs,rfl,sq,mH qd hf.1,kb r hf.2,?_⟩
   have hi:inV x vs=a.any λz=>eqF z d:=mI qd hf.1 r hf.2
   simp only [Zk,Qa] at p ⊢
   rw [hi]
   exact p.ret RD.mkB hS
  ·cases hz
 ·cases hz
theorem nM:OpR X (compareOp .NotIn) (xO X.K E (oIn true)):=by
 rintro pins s σ H x y v u Q I rx ry ⟨w,S,d,e,hS,qd,qe,p⟩
 obtain ⟨z,hz,p⟩:=p.of
 unfold oIn at hz
 split at hz
 ·rename_i a ha
  split at hz
  ·rename_i hf
   obtain ⟨q,vs,rfl,sq,r⟩:=ka hS qe ha
   cases hz
   refine mq pins s σ H _ _ v u Q I rx ry ⟨q,vs,rfl,sq,mH qd hf.1,kb r hf.2,?_⟩
   have hi:inV x vs=a.any λz=>eqF z d:=mI qd hf.1 r hf.2
   simp only [Zm] at p ⊢
   rw [hi]
   exact p.ret RD.mkB hS
  ·cases hz
 ·cases hz
end
section
open PySem.SeqAt
open PySem.AutoSeq1 (wpAny_loadPart')
open PySem.MeetsSeq PySem.MeetsSeq2 PySem.MeetsSeq3
theorem mJ (a:Int) (t:Tok) (l:Addr) (items:Array Value) (n:Nat) (dd:Option Addr) (sl:Array (Option Value)):
  Meets (Builtin.«int.__rmul__» ⟨[.int a t,.ref l],[]⟩) (λ_ R s=>s.heap.get? l=some { cls:=.type "tuple",dict:=dd,data:=.seq items n,slots:=sl }/\R (.ok (.ret Value.notImplemented)) s):=
 .of_wp λprog w A R s h=>by obtain ⟨hp,g,d,tk,os⟩:=s; obtain ⟨hl,h⟩:=h; wp_walk using wpAny_loadPart' hl; exact ⟨_,rfl,h⟩
theorem mK (l:Addr) (items:Array Value) (n:Nat) (k:Int) (t:Tok) (dd:Option Addr) (sl:Array (Option Value)) (h1:¬ (decide (k < -(2 ^ 63)) || decide (k >= 2 ^ 63))=true) (h2:(items.isEmpty || k == 1)=true):
  Meets (Builtin.«tuple.__mul__» ⟨[.ref l,.int k t],[]⟩) (λ_ R s=>s.heap.get? l=some { cls:=.type "tuple",dict:=dd,data:=.seq items n,slots:=sl }/\R (.ok (.ret (.ref l))) s):=
 .of_wp λprog w A R s h=>by obtain ⟨hp,g,d,tk,os⟩:=s; obtain ⟨hl,h⟩:=h; have f1:=AutoSeq1.idx_int; wp_walk using wpAny_loadPart' hl; rw [Yg h1]; wp_walk using wpAny_loadPart' hl; exact ⟨_,rfl,h⟩
theorem mL (l:Addr) (items:Array Value) (n:Nat) (k:Int) (t:Tok) (dd:Option Addr) (sl:Array (Option Value)) (h1:¬ (decide (k < -(2 ^ 63)) || decide (k >= 2 ^ 63))=true) (h2:¬ (items.isEmpty || k == 1)=true) (h3:(decide (k<=0) || items.isEmpty)=true):
  Meets (Builtin.«tuple.__mul__» ⟨[.ref l,.int k t],[]⟩) (λ_ R s=>s.heap.get? l=some { cls:=.type "tuple",dict:=dd,data:=.seq items n,slots:=sl }/\R (.ok (.ret (Value.ref s.heap.objs.size))) { s with heap:=s.heap.push { cls:=Value.type "tuple",data:=Data.seq #[] },toks:=s.toks }):=
 .of_wp λprog w A R s h=>by obtain ⟨hp,g,d,tk,os⟩:=s; obtain ⟨hl,h⟩:=h; have f1:=AutoSeq1.idx_int; wp_walk using wpAny_loadPart' hl; rw [Yg h1]; wp_walk using wpAny_loadPart' hl; exact ⟨_,rfl,h⟩
theorem mM (l:Addr) (items:Array Value) (n:Nat) (k:Int) (t:Tok) (dd:Option Addr) (sl:Array (Option Value)) (h1:¬ (decide (k < -(2 ^ 63)) || decide (k >= 2 ^ 63))=true) (h2:¬ (items.isEmpty || k == 1)=true) (h3:¬ (decide (k<=0) || items.isEmpty)=true)
  (h4:¬ (items.size:Int) * k > (2 ^ 63 - 1) / 8) (h5:¬ Builtin.Tuple.tupleTooMany ((items.size:Int) * k)=true) (hsz:(List.foldl (λx1 x2=>x1 ++ x2) #[] (List.replicate k.toNat items)).size<=sizeLine):
  Meets (Builtin.«tuple.__mul__» ⟨[.ref l,.int k t],[]⟩) (λ_ R s=>s.heap.get? l=some { cls:=.type "tuple",dict:=dd,data:=.seq items n,slots:=sl }/\R (.ok (.ret (Value.ref s.heap.objs.size))) { s with heap:=s.heap.push { cls:=Value.type "tuple",data:=Data.seq (List.foldl (λx1 x2=>x1 ++ x2) #[] (List.replicate k.toNat items)) },toks:=s.toks }):=
 .of_wp λprog w A R s h=>by obtain ⟨hp,g,d,tk,os⟩:=s; obtain ⟨hl,h⟩:=h; have f1:=AutoSeq1.idx_int; wp_walk using wpAny_loadPart' hl; rw [Yg h1]; wp_walk using wpAny_loadPart' hl; rw [Yg h4]; wp_walk using wpAny_loadPart' hl; exact ⟨_,rfl,h⟩
end
section
variable {prog:Program} {w:World} {A:Around} {E:Value->Shared->Prop} {s:Shared}
theorem iY:fillsNumberSlot (.type "tuple") "mul" = pure false:=
 PySem.fillsNumberSlot_seq (id:="tuple.__mul__") (r:=some (.builtin "tuple.__rmul__")) F.slot_tuple_mul.lookup (by decide +kernel) F.slot_tuple_rmul.lookup (by decide +kernel)
theorem mO:seqRepeat? (.type "tuple")=pure (some (.builtin "tuple.__mul__")):=by
 unfold seqRepeat?
 rw [PySem.seqSlot_of (T:="tuple") (name:="__mul__") (id:="tuple.__mul__") F.slot_tuple_mul.lookup (by decide +kernel),PySem.seqSlot_of (T:="tuple") (name:="__rmul__") (id:="tuple.__rmul__") F.slot_tuple_rmul.lookup (by decide +kernel)]
 rfl
theorem yR {t:Addr} {vs:List Value} {k:Int} {tk:Tok} {Q:Value->Shared->Prop} (ht:IsTup s.heap t vs.toArray) (h1:-(2 ^ 63)<=k) (h2:k < 2 ^ 63) (hz:vs.length * k.toNat<=sizeLine)
  (q1:(vs=[] \/ k=1)->Q (.ref t) s) (q2:¬ (vs=[] \/ k=1)->Q (.ref s.heap.objs.size) { s with heap:=s.heap.push { cls:=.type "tuple",data:=.seq (List.replicate k.toNat vs).flatten.toArray } }):
  wpAny (model prog w) A (binaryOp .Mult (.ref t) (.int k tk)) Q E s:=by
 obtain ⟨⟨cls,dd,data,sl⟩,ho,hc,n,hd⟩:=id ht
 simp only at hc hd
 subst hc hd
 have hk:¬ (decide (k < -(2 ^ 63)) || decide (k >= 2 ^ 63))=true:=by simp; omega
 refine wpAny_binaryOp_repeat_ref (T:="tuple") (U:="int") (by decide) ⟨_,ho,rfl⟩ (λs'=>V9 s' k tk) iY F.fills_int_mul Wj mO F.slot_int_index.lookup
  (Qk Wj (V9 s k tk) F.entry_int_rmul (F.args_int_rmul_2 _ _) (mJ k tk t vs.toArray n dd sl) ⟨ho,rfl,⟨_,ho,rfl⟩,?_⟩)
 have hfold:∀ m:Nat,List.foldl (λx1 x2=>x1 ++ x2) #[] (List.replicate m vs.toArray)=(List.replicate m vs).flatten.toArray:=λm=>by
  have:=foldl_rep vs m []
  rw [Q6] at this
  exact this
 by_cases c1:vs=[] \/ k=1
 ·refine Qk F.slot_tuple_mul ⟨_,ho,rfl⟩ V5 (Wv _ _) (mK t vs.toArray n k tk dd sl hk ?_) ⟨ho,q1 c1⟩
  rcases c1 with rfl | rfl
  ·rfl
  ·simp
 ·have c2:¬ (vs.toArray.isEmpty || k == 1)=true:=by
   intro z
   rw [Ve] at z
   rcases z with z | z
   ·exact c1 (.inl (by simpa using z))
   ·exact c1 (.inr (by simpa using z))
  by_cases c3:k<=0
  ·refine Qk F.slot_tuple_mul ⟨_,ho,rfl⟩ V5 (Wv _ _) (mL t vs.toArray n k tk dd sl hk c2 (by simp [c3])) ⟨ho,?_⟩
   have:=q2 c1
   rw [show k.toNat=0 by omega] at this
   exact this
  ·have c4:¬ (decide (k<=0) || vs.toArray.isEmpty)=true:=by
    intro z
    rw [Ve] at z
    rcases z with z | z
    ·exact c3 (Zf z)
    ·exact c1 (.inl (by simpa using z))
   have hmul:((vs.toArray.size:Nat):Int) * k=((vs.length * k.toNat:Nat):Int):=by
    rw [Yk,Int.natCast_mul,Int.toNat_of_nonneg (by omega)]
   have hs0:(sizeLine:Nat)=2 ^ 24:=rfl
   refine Qk F.slot_tuple_mul ⟨_,ho,rfl⟩ V5 (Wv _ _) (mM t vs.toArray n k tk dd sl hk c2 c4 ?_ ?_ ?_) ⟨ho,?_⟩
   ·rw [hmul]
    intro z
    have:((2:Int) ^ 63 - 1) / 8 >= 2 ^ 24:=by decide
    omega
   ·rw [hmul]
    unfold Builtin.Tuple.tupleTooMany
    simp only [Z2]
    intro z
    have z':((sizeLine:Nat):Int) < ((vs.length * k.toNat:Nat):Int):=z
    omega
   ·rw [hfold,Yk,len_rep,Nat.mul_comm]; exact hz
   ·rw [hfold]; exact q2 c1
end
section
variable {prog:Program} {w:World} {A:Around} {E:Value->Shared->Prop} {s:Shared}
theorem sV {t b:Addr} {ws:List Value} {Q:Value->Shared->Prop} (ht:IsTup s.heap t ([]:List Value).toArray) (hb:IsTup s.heap b ws.toArray) (h:Q (.ref b) s):wpAny (model prog w) A (binaryOp .Add (.ref t) (.ref b)) Q E s:=by
 obtain ⟨⟨cls,dd,data,sl⟩,ho,hc,n,hd⟩:=id ht
 obtain ⟨⟨cls2,dd2,data2,sl2⟩,ho2,hc2,n2,hd2⟩:=id hb
 simp only at hc hd hc2 hd2
 subst hc hd hc2 hd2
 exact concat_meets ⟨_,ho,rfl⟩ ⟨_,ho2,rfl⟩ noFill_tuple_add seq_tuple_add Wb W6 (W3 _ _) (tuple_addW0 t b _ ws.toArray n n2 dd dd2 sl sl2 rfl) ⟨ho,ho2,h⟩
open HT in
theorem gM {t sl:Addr} {items:Array Value} {vl vu:Value} {lo hi:Option Int} {Q:Value->Shared->Prop} (ht:IsTup s.heap t items) (hs:s.heap.IsSliceOf sl vl vu .none) (pl:IsPart vl lo) (pu:IsPart vu hi)
  (hw:sIx items.size 0 lo=0/\sIx items.size items.size hi=items.size) (h:Q (.ref t) s):wpAny (model prog w) A (getItem (.ref t) (.ref sl)) Q E s:=by
 obtain ⟨os,hos,hcs,hds⟩:=id hs
 have hTs:s.TypeIs (.ref sl) "slice":=⟨os,hos,hcs⟩
 unfold getItem
 try with_reducible refine Q4 ?_
 first | refine Y6 (Ye ?_) | skip
 refine Y6 (wpAny_sequenceKey ht.typeIs (by decide) ?_)
 refine Y6 (W5 (name:=Str.ofString "__getitem__") ht.typeIs Zx
  (wpAny_call_entry Zx ht.typeIs entry_tuple_getitem ?_ (args_tuple_getitem _ _)))
 show wpAny _ _ (Builtin.Tuple.tupleItemsOf (.ref t) >>= _) _ _ s
 refine Y6 (tupleItemsOf_ ht ?_)
 refine Y6 (wpAny_typeOf hTs ?_)
 rw [Y9 (by decide)]
 refine Y6 (fm hs pl pu ?_)
 have hyes:(((sIx items.size 0 lo:Nat):Int) == 0 && (1:Int) == 1 && (sIx items.size items.size hi - sIx items.size 0 lo) == items.size)=true:=by
  rw [hw.1,hw.2]; simp
 show wpAny _ _ (if (((sIx items.size 0 lo:Nat):Int) == 0 && (1:Int) == 1 && (sIx items.size items.size hi - sIx items.size 0 lo) == items.size)=true then _ else _) _ _ s
 rw [Y9 hyes]
 obtain ⟨ob,hob,hcl,_⟩:=id ht
 have hex:∀ {Q':Bool->Shared->Prop},Q' true s->wpAny (model prog w) A.in1 (Builtin.Tuple.tupleIsExact (.ref t)) Q' E s:=λq=>by
  unfold Builtin.Tuple.tupleIsExact
  refine Y6 (wpAny_typeOf ht.typeIs (Ye ?_))
  exact q
 refine Y6 (hex ?_)
 rw [Y9 rfl]
 first
  | exact Y6 (V7 (Ye ⟨_,rfl,Ye h⟩))
  | exact Y6 (V7 (Y6 (Ye ⟨_,rfl,Ye h⟩)))
  | exact Y6 (V7 (Y6 (Ye (Ye ⟨_,rfl,Ye h⟩))))
  | exact Y6 (Y6 (V7 (Ye (Ye ⟨_,rfl,Ye h⟩))))
end
section
variable {X:Cx} {E:XK}
theorem jP {K:PySem.W.Frag} {vs:List V} {ds:List D} (z:At w H p (.tup vs) \/ nC K p vs) (r:RDs K w H ds vs):RD K w H (.tup ds) (.ref p):=by
 unfold RD; exact ⟨p,vs,rfl,z,r⟩
theorem bK:OpR X (binaryOp .Add) (xO X.K E bg):=by
 rintro pins s σ H x y v u Q I rx ry ⟨w,S,d,e,hS,qd,qe,p⟩
 obtain ⟨z,hz,p'⟩:=p.of
 clear p
 unfold bg at hz
 split at hz
 ·cases hz
  cases qd.int
  cases qe.int
  exact Dy pins s σ H _ _ v u Q I rx ry ⟨_,_,rfl,rfl,p'.ret RD.mkI hS⟩
 ·split at hz
  ·cases hz
   cases qd.str
   cases qe.str
   exact oJ pins s σ H _ _ v u Q I rx ry ⟨_,_,rfl,rfl,by assumption,p'.ret RD.mkS hS⟩
  ·cases hz
 ·split at hz
  ·rename_i S' a b hl
   cases hz
   obtain ⟨pa,xs,rfl,za,ra⟩:=qd.tupI
   obtain ⟨pb,ys,rfl,zb,rb⟩:=qe.tupI
   by_cases ha:a=[]
   ·subst ha
    have hxs:=ra.nil_inv
    subst hxs
    cases rx
    cases ry
    obtain ⟨its,r1,p1,_⟩:=I.tuple (df za)
    obtain ⟨its2,r2,p2,_⟩:=I.tuple (df zb)
    have:its=[]:=r1.nil_iff.mpr rfl
    subst this
    exact sV p1 p2 ⟨.ref pb,H,I,rfl,p'.ret (jP zb rb) hS⟩
   ·refine yE pins s σ H _ _ v u Q I rx ry ⟨pa,pb,xs,ys,rfl,rfl,df za,df zb,λz=>ha ?_,by rw [ra.length,rb.length]; exact hl,λz=>?_,λz q hq=>?_⟩
    ·have:=ra.length
     rw [z] at this
     exact W7.mp this.symm
    ·have hb:b=[]:=by
      have:=rb.length
      rw [z] at this
      exact W7.mp this.symm
     subst hb
     rw [Z8] at p'
     exact p'.ret (jP za ra) hS
    ·exact p'.at (Ext.new hq) (RD.newTup hS hq (ra.append rb)) (hS.new hq)
  ·cases hz
 ·split at hz
  ·rename_i S' a b hl
   cases hz
   obtain ⟨pa,xs,rfl,za,ra⟩:=qd.lstI
   obtain ⟨pb,ys,rfl,zb,rb⟩:=qe.lstI
   exact DQ pins s σ H _ _ v u Q I rx ry ⟨pa,pb,xs,ys,rfl,rfl,za.1,zb.1,by rw [ra.length,rb.length]; exact hl,λq hq=>p'.at (Ext.new hq) (RD.newLst hS hq (ra.append rb)) (hS.new hq)⟩
  ·cases hz
 ·cases hz
theorem RDs.rep {K:PySem.W.Frag} {ds:List D} {vs:List V} (r:RDs K w H ds vs):∀ k:Nat,RDs K w H (List.replicate k ds).flatten (List.replicate k vs).flatten
 | 0=>by simp; exact .nil
 | k + 1=>by
  rw [Zq,Zq,Qb,Qb]
  exact r.append (RDs.rep r k)
theorem g9:OpR X (binaryOp .Mult) (xO X.K E g8):=by
 rintro pins s σ H x y v u Q I rx ry ⟨w,S,d,e,hS,qd,qe,p⟩
 obtain ⟨z,hz,p'⟩:=p.of
 clear p
 unfold g8 at hz
 split at hz
 ·split at hz
  ·cases hz
   cases qd.int
   cases qe.int
   exact Dz pins s σ H _ _ v u Q I rx ry ⟨_,_,rfl,rfl,by assumption,p'.ret RD.mkI hS⟩
  ·cases hz
 ·split at hz
  ·rename_i S' a k hl
   cases hz
   obtain ⟨pa,xs,rfl,za,ra⟩:=qd.tupI
   cases qe.int
   cases rx
   obtain ⟨t,rfl⟩:=ry
   obtain ⟨its,r1,p1,_⟩:=I.tuple (df za)
   have e1:its.length=a.length:=by rw [<- r1.length,ra.length]
   refine yR p1 hl.1 hl.2.1 (by rw [e1]; exact hl.2.2) (λc=>?_) λc=>?_
   ·refine ⟨.ref pa,H,I,rfl,?_⟩
    have:(List.replicate k.toNat a).flatten=a:=by
     rcases c with c | c
     ·have:a=[]:=by rw [c] at e1; exact W7.mp e1.symm
      subst this; simp
     ·subst c; simp
    rw [this] at p'
    exact p'.ret (jP za ra) hS
   ·have hn:H s.heap.objs.size=none:=I.hok.fresh (Yd _)
    refine ⟨.ref s.heap.objs.size,_,I.laid (t':=s.toks) (o:=.tup (List.replicate k.toNat xs).flatten) (λb ob q=>Y8 _ q) (Yd _) ?_,rfl,p'.at (Ext.new hn) (RD.newTup hS hn (ra.rep _)) (hS.new hn)⟩
    exact ⟨by rw [len_rep,Nat.mul_comm,ra.length]; exact hl.2.2,_,r1.rep _,IsTup.new _ _⟩
  ·cases hz
 ·split at hz
  ·rename_i S' a k hl
   cases hz
   obtain ⟨pa,xs,rfl,za,ra⟩:=qd.lstI
   cases qe.int
   exact DR pins s σ H _ _ v u Q I rx ry ⟨pa,k,xs,rfl,rfl,za.1,hl.1,hl.2.1,by rw [ra.length]; exact hl.2.2,λq hq=>p'.at (Ext.new hq) (RD.newLst hS hq (ra.rep _)) (hS.new hq)⟩
  ·cases hz
 ·cases hz
theorem bS {a b:Expr} {mb:EM} {pos:Pos} {f:Sto->D->D->Option D} (hr:IxR X (xO X.K E f)) (ha:SE X E a ma) (hb:SE X E b mb) (hs:mm b:=by intro _ _; kernel_rfl):SE X E (.Subscript a b pos) (eOp f ma mb):=⟨
 aH (Hr hr ha.out hb.out hs) λs H Q zq=>ex6 zq λw r S hr hS hp=>⟨w,r,S,hr,hS,hp.bind hS λd S1 w1 H1 v x1 q1 s1 p1=>
  ⟨w1,r,S1,hr.ext x1,s1,p1.bind s1 λe S2 w2 H2 u x2 q2 s2 p2=>⟨w2,S2,d,e,s2,RD.ext x2 d v q1,q2,p2⟩⟩⟩⟩
noncomputable abbrev OM:=Rho->Sto->R (Option Int)
def ROp (w:Wd) (H:Hp) (a b:Option Int):Prop:=b=a
noncomputable def uO (K:PySem.W.Frag) (E:XK) (m:OM):TO:=λs H Q=>∃ w r S,RSt K w H r s/\RS K w H S/\ax K E ROp w H (m r S) Q
noncomputable def oNo:OM:=λ_ S=>.ok none S
noncomputable def bE (a:EM):OM:=λr S=>(a r S).bind λx S1=>match x with
 | .int i=>.ok (some i) S1
 | _=>.bad
abbrev SO' (X:Cx) (E:XK) (e:Option Expr) (m:OM):Prop:=Bx (PO X e (uO X.K E m))
theorem cI:SO' X E none oNo:=⟨λpins s σ H Q I zq=>ex6 zq λw r S hr hS hp=>yC pins s σ H Q I (hp.ret rfl hS)⟩
theorem cJ {a:Expr} (ha:SE X E a ma):SO' X E (some a) (bE ma):=⟨λpins s σ H Q I zq=>ex6 zq λw r S hr hS hp=>yD ha.out pins s σ H Q I
 ⟨w,r,S,hr,hS,hp.bind hS λd S1 w1 H1 v x1 q1 s1 p1=>by
  cases d with
  | int i=>cases q1.int; exact ⟨i,rfl,p1.ret rfl s1⟩
  | _=>exact p1.elim⟩⟩
noncomputable def xL (K:PySem.W.Frag) (E:XK) (f:Sto->D->Option Int->Option Int->Option D):V->Option Int->Option Int->Hp->VK->Prop:=λx lo hi H Q=>∃ w S d,RS K w H S/\RD K w H d x/\ax K E (RD K) w H (R.of S (f S d lo hi)) Q
noncomputable def eSl (f:Sto->D->Option Int->Option Int->Option D) (a:EM) (lo hi:OM):EM:=λr S=>(a r S).bind λx S1=>(lo r S1).bind λl S2=>(hi r S2).bind λu S3=>R.of S3 (f S3 x l u)
theorem fo {a:Expr} {lo hi:Option Expr} {ml mh:OM} {p2 pos:Pos} {f:Sto->D->Option Int->Option Int->Option D} (hf:SlR X (xL X.K E f)) (ha:SE X E a ma) (hl:SO' X E lo ml) (hh:SO' X E hi mh):
  SE X E (.Subscript a (.Slice lo hi none p2) pos) (eSl f ma ml mh):=⟨
 aH (sj hf ha.out hl.out hh.out) λs H Q zq=>ex6 zq λw r S hr hS hp=>⟨w,r,S,hr,hS,hp.bind hS λd S1 w1 H1 v x1 q1 s1 p1=>
  ⟨w1,r,S1,hr.ext x1,s1,p1.bind s1 λl S2 w2 H2 l' x2 q2 s2 p2=>⟨w2,r,S2,(hr.ext x1).ext x2,s2,p2.bind s2 λu S3 w3 H3 u' x3 q3 s3 p3=>by
   have e1:l'=l:=q2
   have e2:u'=u:=q3
   subst e1 e2
   exact ⟨w3,S3,d,s3,RD.ext x3 _ _ (RD.ext x2 _ _ q1),p3⟩⟩⟩⟩⟩
noncomputable def ez:Sto->D->Option Int->Option Int->Option D
 | _,.tup a,lo,hi=>some (.tup (cutD a lo hi))
 | _,.lst a,lo,hi=>some (.lst (cutD a lo hi))
 | _,_,_,_=>none
theorem RDs.cut {K:PySem.W.Frag} {ds:List D} {vs:List V} (r:RDs K w H ds vs) (lo hi:Option Int):RDs K w H (cutD ds lo hi) (nz vs lo hi):=by
 unfold cutD nz
 rw [r.length]
 exact (r.drop _).take _
theorem fD:SlR X (xL X.K E ez):=by
 rintro pins s σ H x v vl vu lo hi sl Q I rx hs pl pu ⟨w,S,d,hS,qd,p⟩
 obtain ⟨z,hz,p'⟩:=p.of
 clear p
 unfold ez at hz
 split at hz
 ·rename_i a
  cases hz
  obtain ⟨pa,xs,rfl,za,ra⟩:=qd.tupI
  by_cases hw:HT.sIx xs.length 0 lo=0/\HT.sIx xs.length xs.length hi=xs.length
  ·cases rx
   obtain ⟨its,r,ht,hz⟩:=I.tuple (df za)
   have hlen:its.toArray.size=xs.length:=by rw [Yk]; exact r.length.symm
   refine ⟨"tuple",_,PyProof.Rows.slot_tuple_getitem.lookup,ht.typeIs,?_⟩
   refine gM ht hs pl pu (by rw [hlen]; exact hw) ⟨.ref pa,H,I,rfl,?_⟩
   have e:cutD a lo hi=a:=by
    unfold cutD
    rw [<- ra.length,hw.1,hw.2]
    rw [List.drop_zero,Nat.sub_zero,ra.length,List.take_length]
   rw [e] at p'
   exact p'.ret (jP za ra) hS
  ·exact DL pins s σ H _ v vl vu lo hi sl Q I rx hs pl pu ⟨pa,xs,rfl,df za,hw,λq hq=>p'.at (Ext.new hq) (RD.newTup hS hq (ra.cut lo hi)) (hS.new hq)⟩
 ·rename_i a
  cases hz
  obtain ⟨pa,xs,rfl,za,ra⟩:=qd.lstI
  exact yG pins s σ H _ v vl vu lo hi sl Q I rx hs pl pu ⟨pa,xs,rfl,SqL.of za.1,λq hq=>p'.at (Ext.new hq) (RD.newLst hS hq (ra.cut lo hi)) (hS.new hq)⟩
 ·cases hz
noncomputable def cp:Sto->List D->Option D
 | _,[.str x]=>if x.length<=sizeLine then some (.int x.length) else none
 | _,[.dic x]=>some (.int x.length)
 | S,[d]=>match gf S d with
  | some a=>some (.int a.length)
  | none=>match d with
   | .ref n=>match S[n]? with
    | some (.dic kvs)=>some (.int kvs.length)
    | _=>none
   | _=>none
 | _,_=>none
theorem RDk.length {K:PySem.W.Frag} :∀ {ds:List (Sum Int Str × D)} {vs:List (Key × V)},RDk K w H ds vs->vs.length=ds.length
 | [],_,h=>by unfold RDk at h; rw [h]; rfl
 | (k,d) :: ds,_,h=>by
  unfold RDk at h
  obtain ⟨v,r,rfl,_,q⟩:=h
  simp [RDk.length q]
theorem cW:cF X (.builtin "len") (xC X.K E cp):=by
 rintro pins s σ H xs us Q I r ⟨w,S,ds,hS,qs,p⟩
 obtain ⟨z,hz,p'⟩:=p.of
 clear p
 unfold cp at hz
 split at hz
 ·split at hz
  ·cases hz
   obtain ⟨v,rfl,q⟩:=qs.one_inv
   cases q.str
   exact mx pins s σ H _ us Q I r ⟨_,rfl,by assumption,p'.ret RD.mkI hS⟩
  ·cases hz
 ·cases hz
  obtain ⟨v,rfl,q⟩:=qs.one_inv
  unfold RD at q
  obtain ⟨a,uu,rfl,z,rk⟩:=q
  exact lI pins s σ H _ us Q I r ⟨_,_,rfl,z.1,by rw [rk.length]; exact p'.ret RD.mkI hS⟩
 ·obtain ⟨v,rfl,q⟩:=qs.one_inv
  split at hz
  ·rename_i a ha
   cases hz
   obtain ⟨pp,vs,rfl,sq,ra⟩:=ka hS q ha
   exact mw pins s σ H _ us Q I r ⟨pp,vs,rfl,sq,by rw [ra.length]; exact p'.ret RD.mkI hS⟩
  ·split at hz
   ·split at hz
    ·rename_i n kvs hn
     cases hz
     obtain ⟨pp,rfl,hp⟩:=q.refI
     obtain ⟨p2,hp2,vs,hv,rk⟩:=hS.obj _ _ hn
     rw [hp] at hp2; cases hp2
     exact lI pins s σ H _ us Q I r ⟨_,_,rfl,hv,by rw [rk.length]; exact p'.ret RD.mkI hS⟩
    ·cases hz
   ·cases hz
 ·cases hz
noncomputable def sX:Sto->List D->Option D
 | _,[.int i,.int j]=>some (.int (if j > i then j else i))
 | _,_=>none
theorem D6 (hc:X.calm=true):cF X (.builtin "max") (xC X.K E sX):=by
 rintro pins s σ H xs us Q I r ⟨w,S,ds,hS,qs,p⟩
 obtain ⟨z,hz,p'⟩:=p.of
 clear p
 unfold sX at hz
 split at hz
 ·cases hz
  obtain ⟨v,u,rfl,q,q'⟩:=qs.two_inv
  cases q.int
  cases q'.int
  exact qw hc pins s σ H _ us Q I r ⟨_,_,rfl,p'.ret RD.mkI hS⟩
 ·cases hz
noncomputable def sY:Sto->List D->Option D
 | _,[.int i,.int j]=>some (.int (if j < i then j else i))
 | _,_=>none
theorem D7 (hc:X.calm=true):cF X (.builtin "min") (xC X.K E sY):=by
 rintro pins s σ H xs us Q I r ⟨w,S,ds,hS,qs,p⟩
 obtain ⟨z,hz,p'⟩:=p.of
 clear p
 unfold sY at hz
 split at hz
 ·cases hz
  obtain ⟨v,u,rfl,q,q'⟩:=qs.two_inv
  cases q.int
  cases q'.int
  exact qA hc pins s σ H _ us Q I r ⟨_,_,rfl,p'.ret RD.mkI hS⟩
 ·cases hz
noncomputable def jQ:Sto->List D->Option D
 | _,[.int i,.int j]=>if 0 < j/\j < 1073741824 then some (.tup [.int (i / j),.int (i % j)]) else none
 | _,_=>none
theorem qK:cF X (.builtin "divmod") (xC X.K E jQ):=by
 rintro pins s σ H xs us Q I r ⟨w,S,ds,hS,qs,p⟩
 obtain ⟨z,hz,p'⟩:=p.of
 clear p
 unfold jQ at hz
 split at hz
 ·split at hz
  ·cases hz
   obtain ⟨v,u,rfl,q,q'⟩:=qs.two_inv
   cases q.int
   cases q'.int
   exact nu pins s σ H _ us Q I r ⟨_,_,rfl,by assumption,λt ht=>p'.at (Ext.new ht) (RD.newTup hS ht (.cons RD.mkI (.cons RD.mkI .nil))) (hS.new ht)⟩
  ·cases hz
 ·cases hz
noncomputable def yS:Sto->List D->Option D
 | _,[.int i]=>some (.int i)
 | _,[.bl b]=>some (.int (if b then 1 else 0))
 | _,_=>none
theorem D8:cF X (.type "int") (xC X.K E yS):=by
 rintro pins s σ H xs us Q I r ⟨w,S,ds,hS,qs,p⟩
 obtain ⟨z,hz,p'⟩:=p.of
 clear p
 unfold yS at hz
 split at hz
 ·cases hz
  obtain ⟨v,rfl,q⟩:=qs.one_inv
  cases q.int
  exact ly pins s σ H _ us Q I r (.inl ⟨_,rfl,p'.ret RD.mkI hS⟩)
 ·cases hz
  obtain ⟨v,rfl,q⟩:=qs.one_inv
  cases q.bl
  exact ly pins s σ H _ us Q I r (.inr ⟨_,rfl,p'.ret RD.mkI hS⟩)
 ·cases hz
end
section
variable {X:Cx} {E:XK}
noncomputable def boolsOf:List D->Option (List Bool)
 | []=>some []
 | .bl b :: r=>(boolsOf r).map (b :: ·)
 | _ :: _=>none
noncomputable def qL:Sto->List D->Option D
 | _,[.lst a]=>(boolsOf a).map λbs=>.bl (bs.all id)
 | _,_=>none
theorem nO {K:PySem.W.Frag} :∀ {ds:List D} {vs:List V} {us:List Value} {bs:List Bool},RDs K w H ds vs->Vals vs us->boolsOf ds=some bs->LSm.BoolsAre us bs
 | [],_,_,_,q,r,h=>by
  rw [q.nil_inv] at r
  cases r
  unfold boolsOf at h
  cases h
  exact .nil
 | d :: ds,_,_,bs,q,r,h=>by
  obtain ⟨v,vs,rfl,p,t⟩:=q.cons_inv
  cases d with
  | bl b=>
   unfold boolsOf at h
   cases e:boolsOf ds with
   | none=>rw [e] at h; cases h
   | some cs=>
    rw [e] at h; cases h
    cases p.bl
    cases r with
    | cons r1 r2=>
     cases r1
     exact .cons b (nO t r2 e)
  | _=>unfold boolsOf at h; cases h
theorem sZ (hc:X.calm=true):cF X (.builtin "all") (xC X.K E qL):=by
 rintro pins s σ H xs us Q I r ⟨w,S,ds,hS,qs,p⟩
 obtain ⟨z,hz,p'⟩:=p.of
 clear p
 unfold qL at hz
 split at hz
 ·rename_i a
  cases e:boolsOf a with
  | none=>rw [e] at hz; cases hz
  | some bs=>
   rw [e] at hz; cases hz
   obtain ⟨v,rfl,q⟩:=qs.one_inv
   obtain ⟨pa,vs,rfl,za,ra⟩:=q.lstI
   obtain ⟨u,rfl,ru⟩:=vals1 r
   cases ru
   obtain ⟨its,r1,⟨o,n,ho,hcl,hdn,hd⟩,_⟩:=I.list (SqL.of za.1)
   have hb:=nO ra r1 e
   have hlt:pa < s.heap.objs.size:=Yh ho
   have hl:s.heap.IsList pa its.toArray:=⟨o,ho,hcl,n,hd⟩
   refine call_all_walk (V4 hl ?_)
   refine ⟨s.heap.objs.size,[s.heap.objs.size,pa],[s.heap.objs.size],its.toArray.size,_,_,λi=>(bs[i]?).getD true,rfl,Walks.list (A:=X.A.in1) (I.ok.hd hc) _ pa (Yr hlt) its.toArray,
    ⟨⟨_,Yp _ rfl,rfl,rfl⟩,hl.push _⟩,λi v s' Q' E' hP hQ=>?_,λh' tk hk=>?_⟩
   ·obtain ⟨b,e,rfl⟩:=hb.get i v (by simpa using hP)
    simp only [e,Option.getD_some] at hQ
    exact Zh hQ
   ·have e:((List.range its.toArray.size).all λi=>(bs[i]?).getD true)=bs.all id:=by
     rw [Yk,hb.length]; exact LSm.range_all bs
    rw [e]
    exact ⟨.bl _,H,I.kept (LSm.kept_iter hk),rfl,p'.ret RD.mkB hS⟩
 ·cases hz
noncomputable def tyD (S:Sto):D->Option String
 | .non=>some "NoneType"
 | .bl _=>some "bool"
 | .int _=>some "int"
 | .str _=>some "str"
 | .tup _=>some "tuple"
 | .lst _=>some "list"
 | .fz _=>none
 | .dic _=>some "dict"
 | .ref n=>match S[n]? with
  | some (.lst _)=>some "list"
  | some (.dic _)=>some "dict"
  | _=>none
 | .ty _=>none
 | .exc _=>none
 | .cls _=>none
noncomputable def gi:List String:=["int","bool","tuple","str","list","dict"]
noncomputable def gj:Sto->List D->Option D
 | S,[d,.ty T]=>match tyD S d with
  | some t=>if T ∈ gi then some (.bl (t == T || (t == "bool" && T == "int"))) else none
  | none=>none
 | _,_=>none
theorem D9 (K:PySem.W.Frag) {t:String} (ht:t ∈ ["NoneType","bool","int","str","tuple","list","dict"]) (hT:T ∈ gi):PySem.W.kitOne K (.type t) (.type T)=some (t == T || (t == "bool" && T == "int")):=by
 unfold gi at hT
 simp only [Yn,Zd,Ql] at ht hT
 rcases ht with rfl | rfl | rfl | rfl | rfl | rfl | rfl <;> rcases hT with rfl | rfl | rfl | rfl | rfl | rfl <;> first | rfl | (with_unfolding_all rfl) | (unfold PySem.W.kitOne PySem.W.kitCls; with_unfolding_all decide)
theorem yT {K:PySem.W.Frag} {d:D} {v:V} {t:String} (hS:RS K w H S) (q:RD K w H d v) (h:tyD S d=some t) (hk:∀ a vs,¬ nC K a vs \/ True):
  (L2.TyOf K H v (.type t) \/ ∃ a vs,v=.ref a/\t = "tuple"/\nC K a vs)/\t ∈ ["NoneType","bool","int","str","tuple","list","dict"]:=by
 cases d with
 | non=>cases q.non; cases h; exact ⟨.inl .non,by simp⟩
 | bl b=>cases q.bl; cases h; exact ⟨.inl (.bl b),by simp⟩
 | int i=>cases q.int; cases h; exact ⟨.inl (.int i),by simp⟩
 | str x=>cases q.str; cases h; exact ⟨.inl (.str x),by simp⟩
 | tup ds=>
  obtain ⟨p,vs,rfl,z,_⟩:=q.tupI
  cases h
  refine ⟨?_,by simp⟩
  rcases z with z | z
  ·exact .inl (.tup z.1)
  ·exact .inr ⟨p,vs,rfl,rfl,z⟩
 | lst ds=>obtain ⟨p,vs,rfl,z,_⟩:=q.lstI; cases h; exact ⟨.inl (.lst z.1),by simp⟩
 | fz ds=>cases h
 | dic kvs=>unfold RD at q; obtain ⟨p,us,rfl,z,_⟩:=q; cases h; exact ⟨.inl (.dK z.1),by simp⟩
 | ref n=>
  obtain ⟨p,rfl,hp⟩:=q.refI
  unfold tyD at h
  simp only at h
  cases e:S[n]? with
  | none=>rw [e] at h; cases h
  | some o=>
   rw [e] at h
   obtain ⟨p',hp',r⟩:=hS.obj n o e
   rw [hp] at hp'; cases hp'
   cases o with
   | lst a=>cases h; obtain ⟨vs,hv,_⟩:=r; exact ⟨.inl (.lst hv),by simp⟩
   | dic a=>cases h; obtain ⟨vs,hv,_⟩:=r; exact ⟨.inl (.dK hv),by simp⟩
   | fdic a=>cases h
   | ins c fs=>cases h
   | flst a=>cases h
 | ty n=>cases h
 | exc c=>cases h
 | cls c=>cases h
theorem hJ:cF X (.builtin "isinstance") (xC X.K E gj):=by
 rintro pins s σ H xs us Q I r ⟨w,S,ds,hS,qs,p⟩
 obtain ⟨z,hz,p'⟩:=p.of
 clear p
 unfold gj at hz
 split at hz
 ·rename_i d T
  split at hz
  ·rename_i t ht
   split at hz
   ·rename_i hT
    cases hz
    obtain ⟨v,u,rfl,q,q'⟩:=qs.two_inv
    unfold RD at q'
    subst q'
    obtain ⟨v1,v2,rfl,rv,rt⟩:=vals2 r
    cases (show v2=Value.type T from rt)
    obtain ⟨ty,hm⟩:=yT hS q ht λ_ _=>.inr trivial
    have kk:=D9 X.K hm hT
    rcases ty with ty | ⟨a,vs,rfl,rfl,kt⟩
    ·exact qD I rv ty kk λtk=>⟨.bl _,H,I.tok tk,rfl,p'.ret RD.mkB hS⟩
    ·cases (show v1=Value.ref a from rv)
     obtain ⟨o,its,n,e,hcl,_⟩:=kt
     exact Z7 PySem.W.kitx_tuple I.kIn ⟨o,I.kIn _ _ e,hcl⟩ kk (λz=>nomatch z) λtk=>⟨.bl _,H,I.tok tk,rfl,p'.ret RD.mkB hS⟩
   ·cases hz
  ·cases hz
 ·cases hz
noncomputable def yU:Sto->D->D->D->Option Sto
 | S,.ref n,.int i,v=>match S[n]? with
  | some (.lst a)=>(ixN a.length i).map λj=>S.set n (.lst (a.set j v))
  | _=>none
 | _,_,_,_=>none
theorem Ea:yp X (xS X.K yU):=by
 rintro pins s σ H o i v ov iv u Q I ro ri ru ⟨w,S,x,y,z,S',hS,qx,qy,qz,hf,k⟩
 unfold yU at hf
 split at hf
 ·rename_i n j
  split at hf
  ·rename_i a hn
   cases e:ixN a.length j with
   | none=>rw [e] at hf; cases hf
   | some m=>
    rw [e] at hf; cases hf
    obtain ⟨p,rfl,hp⟩:=qx.refI
    cases qy.int
    obtain ⟨p',hp',vs,hv,ra⟩:=hS.obj _ _ hn
    rw [hp] at hp'; cases hp'
    have hm:p ∈ w.st:=Zl hp
    refine set_list pins s σ H _ _ _ ov iv u Q I ro ri ru ⟨p,vs,j,m,rfl,rfl,hv,by rw [ra.length]; exact e,k w _ (Ext.mut hm hv) ?_⟩
    exact hS.mut hp hv ⟨_,aL,RDs.ext (Ext.mut hm hv) _ _ (RDs.set qz m ra)⟩
  ·cases hf
 ·cases hf
noncomputable def xM (K:PySem.W.Frag) (E:XK) (f:Sto->D->List D->R D):V->List V->Hp->VK->Prop:=λx xs H Q=>∃ w S d ds,RS K w H S/\RD K w H d x/\RDs K w H ds xs/\ax K E (RD K) w H (f S d ds) Q
noncomputable def isL (S:Sto):D->Bool
 | .lst _=>true
 | .fz _=>true
 | .ref n=>match S[n]? with
  | some (.lst _)=>true
  | _=>false
 | _=>false
theorem tf {K:PySem.W.Frag} {d:D} {v:V} (hS:RS K w H S) (q:RD K w H d v) (h:isL S d=true):tyV K "list" v H:=by
 cases d with
 | lst ds=>obtain ⟨p,vs,rfl,z,_⟩:=q.lstI; exact .inl ⟨rfl,vs,SqL.of z.1⟩
 | fz ds=>obtain ⟨p,vs,rfl,z,_⟩:=q.fzI; exact .inl ⟨rfl,vs,z.sq⟩
 | ref n=>
  obtain ⟨p,rfl,hp⟩:=q.refI
  unfold isL at h
  simp only at h
  cases e:S[n]? with
  | none=>rw [e] at h; cases h
  | some o=>
   rw [e] at h
   cases o with
   | lst a=>
    obtain ⟨p',hp',vs,hv,_⟩:=hS.obj n _ e
    rw [hp] at hp'; cases hp'
    exact .inl ⟨rfl,vs,SqL.of hv⟩
   | _=>cases h
 | _=>cases h
noncomputable def yV (f:Sto->D->List D->R D) (o:EM) (t:AM):EM:=λr S=>(o r S).bind λx S1=>if isL S1 x=true then (t r S1).bind λys S2=>f S2 x ys else .bad
theorem Eb {o e:Expr} {es:List Expr} {mo:EM} {ms:AM} {name:Str} {apos cpos:Pos} {id:String} {f:Sto->D->List D->R D} (pa:PlainAttrs "list") (slot:Slot "list" name id) (hty:typeOf (.builtin id)=pure (.type "method_descriptor")) (hm:MtR X id (xM X.K E f))
  (ho:SE X E o mo) (ha:SA X E (e :: es) ms) (hbase:autoParam (attributeBase o name X.env (eval o X.env)=eval o X.env) Au.h0._auto_1)
  (hfew:autoParam (((backTo cpos (starEach (e :: es) X.env)).all (λx=>!x.1) && (backToKw cpos (keywordEach [] X.env)).all (λx=>x.1.isSome)
   && decide ((e :: es).length + ([]:List Keyword).length + (if ([]:List Keyword).isEmpty then 0 else 1) < 30))=true) Au.h0._auto_1)
  (hline:autoParam ((apos.endLine == cpos.line)=true) Au.h0._auto_1) (hs:autoParam (starEach (e :: es) X.env=(false,eval e X.env) :: starEach es X.env) Au.h0._auto_1) (hplain:autoParam ((backTo cpos (starEach es X.env)).any (·.1)=false) Au.h0._auto_1):
  SE X E (.Call (.Attribute o name apos) (e :: es) [] cpos) (yV f mo ms):=⟨
 aH (zY pa slot hty hm ho.out ha.out hbase hfew hline hs hplain) λs H Q zq=>ex6 zq λw r S hr hS hp=>⟨w,r,S,hr,hS,hp.bind hS λd S1 w1 H1 v x1 q1 s1 p1=>by
  by_cases hl:isL S1 d=true
  ·rw [Y9 hl] at p1
   exact ⟨tf s1 q1 hl,w1,r,S1,hr.ext x1,s1,p1.bind s1 λds S2 w2 H2 us x2 q2 s2 p2=>⟨w2,S2,d,ds,s2,RD.ext x2 _ _ q1,q2,p2⟩⟩
  ·rw [Yg hl] at p1
   exact p1.elim⟩⟩
noncomputable def iA:Sto->D->List D->R D
 | S,.ref n,[v]=>match S[n]? with
  | some (.lst a)=>if a.length < sizeLine then .ok .non (S.set n (.lst (a ++ [v]))) else .bad
  | _=>.bad
 | _,_,_=>.bad
theorem qM:MtR X "list.append" (xM X.K E iA):=by
 rintro pins s σ H x xs v us Q I rx rs ⟨w,S,d,ds,hS,qd,qs,p⟩
 unfold iA at p
 split at p
 ·rename_i n y
  split at p
  ·rename_i a hn
   split at p
   ·rename_i hl
    obtain ⟨pp,rfl,hp⟩:=qd.refI
    obtain ⟨yv,rfl,qy⟩:=qs.one_inv
    obtain ⟨p',hp',vs,hv,ra⟩:=hS.obj _ _ hn
    rw [hp] at hp'; cases hp'
    have hm:pp ∈ w.st:=Zl hp
    refine iT pins s σ H _ _ v us Q I rx rs ⟨pp,vs,yv,rfl,rfl,hv,by rw [ra.length]; exact hl,p.at (Ext.mut hm hv) (by unfold RD; rfl) ?_⟩
    exact hS.mut hp hv ⟨_,aL,RDs.ext (Ext.mut hm hv) _ _ (ra.append (.cons qy .nil))⟩
   ·exact p.elim
  ·exact p.elim
 ·exact p.elim
end
noncomputable def tj:Sum Int Str->PyData
 | .inl i=>.int i
 | .inr x=>.str x
mutual
noncomputable def toPy:D->Option PyData
 | .non=>some .none
 | .bl b=>some (.bool b)
 | .int i=>some (.int i)
 | .str x=>some (.str x)
 | .tup ds=>(cX ds).map .tuple
 | .lst ds=>(cX ds).map .list
 | .dic kvs=>(fP kvs).map .dict
 | .fz _=>none
 | .ref _=>none
 | .ty _=>none
 | .exc _=>none
 | .cls _=>none
noncomputable def cX:List D->Option (List PyData)
 | []=>some []
 | d :: ds=>match toPy d,cX ds with
  | some p,some q=>some (p :: q)
  | _,_=>none
noncomputable def fP:List (Sum Int Str × D)->Option (List (PyData × PyData))
 | []=>some []
 | (k,d) :: r=>match toPy d,fP r with
  | some p,some q=>some ((tj k,p) :: q)
  | _,_=>none
end
mutual
noncomputable def noL:D->Bool
 | .tup ds=>yW ds
 | .lst _=>false
 | .dic kvs=>yX kvs
 | _=>true
noncomputable def yW:List D->Bool
 | []=>true
 | d :: ds=>noL d && yW ds
noncomputable def yX:List (Sum Int Str × D)->Bool
 | []=>true
 | (_,d) :: r=>noL d && yX r
end
section
variable {X:Cx} {E:XK}
mutual
theorem dA {σ:L2.St} (I:Inv X pins σ H s):∀ (d:D) (v:V) (u:Value) (p:PyData),RD X.K w H d v->RelV v u->toPy d=some p->∃ as,Reads s.heap u p as/\(noL d=true->sysModules ∉ as)
 | .non,v,u,p,q,r,h=>by cases q.non; cases (show u=Value.none from r); unfold toPy at h; cases h; exact ⟨_,.none,λ_ z=>nomatch z⟩
 | .bl b,v,u,p,q,r,h=>by cases q.bl; cases (show u=Value.bool b from r); unfold toPy at h; cases h; exact ⟨_,.bool b,λ_ z=>nomatch z⟩
 | .int i,v,u,p,q,r,h=>by cases q.int; obtain ⟨t,rfl⟩:=(show ∃ t,u=Value.int i t from r); unfold toPy at h; cases h; exact ⟨_,.int i t,λ_ z=>nomatch z⟩
 | .str x,v,u,p,q,r,h=>by cases q.str; obtain ⟨t,rfl⟩:=(show ∃ t,u=Value.str x t from r); unfold toPy at h; cases h; exact ⟨_,.str x t,λ_ z=>nomatch z⟩
 | .tup ds,v,u,p,q,r,h=>by
  obtain ⟨a,vs,rfl,z,rs⟩:=q.tupI
  cases (show u=Value.ref a from r)
  unfold toPy at h
  cases e:cX ds with
  | none=>rw [e] at h; cases h
  | some ps=>
   rw [e] at h; cases h
   obtain ⟨its,r1,⟨o,ho,hc,n,hd⟩,_⟩:=I.tuple (df z)
   obtain ⟨as,ra,hn⟩:=gG I ds vs its ps rs r1 e
   exact ⟨as,.tuple ho hc hd ra,λz=>hn (by unfold noL at z; exact z)⟩
 | .lst ds,v,u,p,q,r,h=>by
  obtain ⟨a,vs,rfl,z,rs⟩:=q.lstI
  cases (show u=Value.ref a from r)
  unfold toPy at h
  cases e:cX ds with
  | none=>rw [e] at h; cases h
  | some ps=>
   rw [e] at h; cases h
   obtain ⟨its,r1,⟨o,n,ho,hc,_,hd⟩,_⟩:=I.list (SqL.of z.1)
   obtain ⟨as,ra,hn⟩:=gG I ds vs its ps rs r1 e
   exact ⟨a :: as,.list ho hc hd ra,λz=>by unfold noL at z; cases z⟩
 | .dic kvs,v,u,p,q,r,h=>by
  unfold RD at q
  obtain ⟨a,us,rfl,z,rk⟩:=q
  cases (show u=Value.ref a from r)
  unfold toPy at h
  cases e:fP kvs with
  | none=>rw [e] at h; cases h
  | some ps=>
   rw [e] at h; cases h
   obtain ⟨_,hsys,vs,kv,o,es,ep,ho,hex,hd,_,hp,_⟩:=(show bY X.prog X.w H s.heap a (.dK us) from I.hok a _ z.1)
   obtain ⟨as,bs,ra,rb,hn⟩:=lK I kvs us vs es.toList ps rk kv hp e
   refine ⟨a :: as ++ bs,.dict ho hex.1 hd ra rb,λz=>?_⟩
   unfold noL at z
   intro hm
   rcases Z0.mp hm with hm | hm
   ·rcases Yn.mp hm with hm | hm
    ·rw [<- hm] at hsys; simp at hsys
    ·exact (hn z).1 hm
   ·exact (hn z).2 hm
 | .fz _,_,_,_,_,_,h=>by unfold toPy at h; cases h
 | .ref _,_,_,_,_,_,h=>by unfold toPy at h; cases h
 | .ty _,_,_,_,_,_,h=>by unfold toPy at h; cases h
 | .exc _,_,_,_,_,_,h=>by unfold toPy at h; cases h
 | .cls _,_,_,_,_,_,h=>by unfold toPy at h; cases h
theorem gG {σ:L2.St} (I:Inv X pins σ H s):∀ (ds:List D) (vs:List V) (us:List Value) (ps:List PyData),RDs X.K w H ds vs->Vals vs us->cX ds=some ps->∃ as,ReadsAll s.heap us ps as/\(yW ds=true->sysModules ∉ as)
 | [],vs,us,ps,q,r,h=>by
  rw [q.nil_inv] at r
  cases r
  unfold cX at h
  cases h
  exact ⟨_,.nil,λ_ z=>nomatch z⟩
 | d :: ds,_,us,ps,q,r,h=>by
  obtain ⟨v,vs,rfl,p,t⟩:=q.cons_inv
  unfold cX at h
  cases e1:toPy d with
  | none=>rw [e1] at h; cases h
  | some p1=>
   cases e2:cX ds with
   | none=>rw [e1,e2] at h; cases h
   | some p2=>
    rw [e1,e2] at h; cases h
    cases r with
    | cons r1 r2=>
     obtain ⟨as,ra,h1⟩:=dA I d v _ p1 p r1 e1
     obtain ⟨bs,rb,h2⟩:=gG I ds vs _ p2 t r2 e2
     refine ⟨as ++ bs,.cons ra rb,λz=>?_⟩
     unfold yW at z
     rw [Yt] at z
     intro hm
     rcases Z0.mp hm with hm | hm
     ·exact h1 z.1 hm
     ·exact h2 z.2 hm
theorem lK {σ:L2.St} (I:Inv X pins σ H s):∀ (ds:List (Sum Int Str × D)) (us:List (Key × V)) (vs:List (Key × Value)) (es:List DictEntry) (ps:List (PyData × PyData)),RDk X.K w H ds us->KV us vs->Pairs (cZ X.prog X.w) es vs->fP ds=some ps->
  ∃ as bs,ReadsAll s.heap (es.map (·.key)) (ps.map (·.1)) as/\ReadsAll s.heap (es.map (·.val)) (ps.map (·.2)) bs/\(yX ds=true->sysModules ∉ as/\sysModules ∉ bs)
 | [],us,vs,es,ps,q,r,hp,h=>by
  unfold RDk at q
  subst q
  cases r
  unfold fP at h
  cases h
  cases hp
  exact ⟨_,_,.nil,.nil,λ_=>⟨(λz=>nomatch z),(λz=>nomatch z)⟩⟩
 | (k,d) :: ds,us,vs,es,ps,q,r,hp,h=>by
  unfold RDk at q
  obtain ⟨v,ur,rfl,p,t⟩:=q
  unfold fP at h
  cases e1:toPy d with
  | none=>rw [e1] at h; cases h
  | some p1=>
   cases e2:fP ds with
   | none=>rw [e1,e2] at h; cases h
   | some p2=>
    rw [e1,e2] at h; cases h
    cases r with
    | cons r1 r2=>
     cases hp with
     | cons hk hv hr=>
      rename_i q0 vr e0 es0
      obtain ⟨k',v'⟩:=q0
      obtain ⟨ek,rv⟩:=r1
      have ek':k=k':=ek
      subst ek'
      obtain ⟨as,ra,h1⟩:=dA I d v _ p1 p rv e1
      obtain ⟨as2,bs2,ra2,rb2,h2⟩:=lK I ds ur vr es0 p2 t r2 hr e2
      have hkey:∃ cs,Reads s.heap e0.key (tj k) cs/\cs=[]:=by
       rcases bq hk with ⟨i,tk,z1,z2⟩ | ⟨x,tk,z1,z2⟩
       ·have z1':k=Sum.inl i:=z1
        subst z1'
        rw [z2]
        exact ⟨_,.int i tk,rfl⟩
       ·have z1':k=Sum.inr x:=z1
        subst z1'
        rw [z2]
        exact ⟨_,.str x tk,rfl⟩
      obtain ⟨cs,rc,ec⟩:=hkey
      subst ec
      have hv':e0.val=v':=hv
      refine ⟨[] ++ as2,as ++ bs2,.cons rc ra2,.cons (by show Reads s.heap e0.val p1 as; rw [hv']; exact ra) rb2,λz=>?_⟩
      unfold yX at z
      rw [Yt] at z
      refine ⟨by rw [Q6]; exact (h2 z.2).1,λhm=>?_⟩
      rcases Z0.mp hm with hm | hm
      ·exact h1 z.1 hm
      ·exact (h2 z.2).2 hm
end
end
section
variable {K:PySem.W.Frag} {w:Wd} {H:Hp}
structure Mv (w:Wd) (H:Hp) (w2:Wd) (H2:Hp):Prop where
 st:∀ (n:Nat) (a:Addr),w.st[n]?=some a->w2.st[n]?=some a
 at_:∀ a o,At w H a o->At w2 H2 a o
mutual
theorem RD.mv (x:Mv w H w2 H2):∀ (d:D) (v:V),RD K w H d v->RD K w2 H2 d v
 | .non,_,h=>h
 | .bl _,_,h=>h
 | .int _,_,h=>h
 | .str _,_,h=>h
 | .tup ds,v,h=>by
  unfold RD at h ⊢
  obtain ⟨a,vs,e,p,r⟩:=h
  exact ⟨a,vs,e,p.imp (x.at_ _ _) id,RDs.mv x ds vs r⟩
 | .lst ds,v,h=>by
  unfold RD at h ⊢
  obtain ⟨a,vs,e,p,r⟩:=h
  exact ⟨a,vs,e,x.at_ _ _ p,RDs.mv x ds vs r⟩
 | .fz ds,v,h=>by
  unfold RD at h ⊢
  obtain ⟨a,vs,e,p,r⟩:=h
  exact ⟨a,vs,e,p.imp (λ⟨o,z⟩=>⟨o,x.at_ _ _ z⟩) id,RDs.mv x ds vs r⟩
 | .dic kvs,v,h=>by
  unfold RD at h ⊢
  obtain ⟨a,us,e,p,r⟩:=h
  exact ⟨a,us,e,x.at_ _ _ p,RDk.mv x kvs us r⟩
 | .ref n,v,h=>by
  unfold RD at h ⊢
  obtain ⟨a,e,p⟩:=h
  exact ⟨a,e,x.st n a p⟩
 | .ty _,_,h=>h
 | .exc c,v,h=>by
  unfold RD at h ⊢
  obtain ⟨a,C,o,e,q,p⟩:=h
  exact ⟨a,C,o,e,q,x.at_ _ _ p⟩
 | .cls _,_,h=>h
theorem RDs.mv (x:Mv w H w2 H2):∀ (ds:List D) (vs:List V),RDs K w H ds vs->RDs K w2 H2 ds vs
 | [],_,h=>h
 | d :: ds,vs,h=>by
  unfold RDs at h ⊢
  obtain ⟨v,r,e,p,q⟩:=h
  exact ⟨v,r,e,RD.mv x d v p,RDs.mv x ds r q⟩
theorem RDk.mv (x:Mv w H w2 H2):∀ (ds:List (Sum Int Str × D)) (vs:List (Key × V)),RDk K w H ds vs->RDk K w2 H2 ds vs
 | [],_,h=>h
 | (k,d) :: ds,vs,h=>by
  unfold RDk at h ⊢
  obtain ⟨v,r,e,p,q⟩:=h
  exact ⟨v,r,e,RD.mv x d v p,RDk.mv x ds r q⟩
end
theorem RO.mv (x:Mv w H w2 H2) {o:SO} (hk:∀ u,H a=some u->H2 a=some u) (r:RO K w H a o):RO K w2 H2 a o:=by
 cases o with
 | lst ds=>obtain ⟨vs,e,q⟩:=r; exact ⟨vs,hk _ e,RDs.mv x _ _ q⟩
 | dic kvs=>obtain ⟨vs,e,q⟩:=r; exact ⟨vs,hk _ e,RDk.mv x _ _ q⟩
 | fdic kvs=>obtain ⟨o,vs,e,q⟩:=r; exact ⟨o,vs,hk _ e,RDk.mv x _ _ q⟩
 | ins c fs=>obtain ⟨C,dx,us,n,e,q1,q2⟩:=r; exact ⟨C,dx,us,n,hk _ e,q1,RDs.mv x _ _ q2⟩
 | flst ds=>obtain ⟨o,vs,e,q⟩:=r; exact ⟨o,vs,hk _ e,RDs.mv x _ _ q⟩
theorem RSt.mv {s:L2.St} (x:Mv w H w2 H2) (h:RSt K w H r s):RSt K w2 H2 r s:=
 ⟨h.1,λi d e=>let ⟨v,e1,q⟩:=h.2 i d e; ⟨v,e1,RD.mv x d v q⟩⟩
theorem Ext.hide (hp:H p=none):Ext w H (w.hide p) (upd H p o):=
 ⟨λa u e _=>by rw [aA (aK e hp)]; exact e,⟨[],by simp [Wd.hide],λ_ z=>nomatch z⟩,λa h=>Ys _ h,λa h=>(Yn.mp h).elim (λe=>.inr (e ▸ hp)) .inl,λa o u e=>by rw [aA (aK e hp)]; exact e⟩
noncomputable def Wd.unhide (w:Wd) (p:Addr):Wd:=⟨w.st,w.hid.filter λa=>decide (a ≠ p)⟩
theorem Wd.mem_unhide (h:a ∈ (w.unhide p).hid):a ∈ w.hid/\a ≠ p:=⟨(Zz.mp h).1,Zf (Zz.mp h).2⟩
theorem Mv.write (hp:p ∈ w.hid):Mv w H w (upd H p o):=
 ⟨λ_ _ z=>z,λa u h=>⟨by rw [aA (λz:a=p=>h.2.2 (z ▸ hp))]; exact h.1,h.2⟩⟩
theorem Mv.unhide:Mv w H (w.unhide p) H:=
 ⟨λ_ _ z=>z,λa u h=>⟨h.1,h.2.1,λz=>h.2.2 (Wd.mem_unhide z).1⟩⟩
theorem RS.hide (s:RS K w H S) (hp:H p=none):RS K (w.hide p) (upd H p o) S:=by
 refine ⟨s.nd,s.len,λn so e=>?_,λa ha=>?_⟩
 ·obtain ⟨a,ha,r⟩:=s.obj n so e
  exact ⟨a,ha,r.ext (Ext.hide hp) λu z=>by rw [aA (aK z hp)]; exact z⟩
 ·rcases Yn.mp ha with z | z
  ·subst z; exact ⟨s.freshS hp,o,aL⟩
  ·obtain ⟨h1,u,e⟩:=s.hid a z
   exact ⟨h1,u,by rw [aA (aK e hp)]; exact e⟩
theorem RS.write (s:RS K w H S) (hp:p ∈ w.hid):RS K w (upd H p o) S:=by
 have np:=(s.hid p hp).1
 refine ⟨s.nd,s.len,λn so e=>?_,λa ha=>?_⟩
 ·obtain ⟨a,ha,r⟩:=s.obj n so e
  have:a ≠ p:=λz=>np (z ▸ Zl ha)
  exact ⟨a,ha,r.mv (Mv.write hp) λu z=>by rw [aA this]; exact z⟩
 ·obtain ⟨h1,u,e⟩:=s.hid a ha
  by_cases z:a=p
  ·subst z; exact ⟨h1,o,aL⟩
  ·exact ⟨h1,u,by rw [aA z]; exact e⟩
theorem RS.unhide (s:RS K w H S):RS K (w.unhide p) H S:=
 ⟨s.nd,s.len,λn so e=>by
  obtain ⟨a,ha,r⟩:=s.obj n so e
  exact ⟨a,ha,r.mv Mv.unhide λu z=>z⟩,λa ha=>s.hid a (Wd.mem_unhide ha).1⟩
theorem pP {s:L2.St} (k:Nat) (caps:List Nat) (h:RSt K w H r s):RSt K w H (gS k caps r) (jt k caps s):=by
 unfold gS jt
 refine ⟨by simp,λi d e=>?_⟩
 by_cases hi:i < k
 ·rw [Z3 (by simpa using hi),Zn] at e
  split at e <;> cases e
 ·rw [Zr (by simpa using hi),Q3,Qs] at e
  rw [Zr (by simpa using hi),Q3,Qs]
  cases ec:caps[i - k]? with
  | none=>rw [ec] at e; cases e
  | some j=>
   rw [ec] at e
   have e':(r[j]?).join=some d:=Z6 e
   have hj:r[j]?=some (some d):=by
    cases q:r[j]? with
    | none=>rw [q] at e'; cases e'
    | some o=>rw [q] at e'; rw [show o=some d from e']
   obtain ⟨v,ev,rv⟩:=h.2 j d hj
   exact ⟨v,by show some ((s[j]?).join)=some (some v); rw [ev]; rfl,rv⟩
end
abbrev SIf (X:Cx) (E:XK) (ifs:List Expr) (m:TM):Prop:=Bx (sM X ifs (uT X.K E m))
theorem gH {E:XK}:SIf X E [] dS:=⟨λpins s σ H Q I zq=>ex6 zq λw r S hr hS hp=>sN pins s σ H Q I (hp.ret rfl hS)⟩
theorem pQ {E:XK} {c:Expr} {m:TM} (h:ST X E c m):SIf X E [c] m:=⟨sO h.out⟩
theorem kc {E:XK} {elt tg iter:Expr} {ifs:List Expr} {pos:Pos} {it:AM} {g:G} {mt:TM} {me:EM} (hX:Cd qb X) (hxe:∀ e s,¬ X.xe e s) (C:CompScope X N k caps scope)
  (hi:SIb qb X E tg iter it) (hg:∀ cl s0 H0 ex,Cd qb (cxC X N scope cl s0 H0 ex)->SG (cxC X N scope cl s0 H0 ex) tg g) (ht:∀ cl s0 H0 ex,Cd qb (cxC X N scope cl s0 H0 ex)->SIf (cxC X N scope cl s0 H0 ex) E ifs mt) (he:∀ cl s0 H0 ex,Cd qb (cxC X N scope cl s0 H0 ex)->SE (cxC X N scope cl s0 H0 ex) E elt me)
  (hs:autoParam (∀ x,foldedSetIterable iter X.env x=pure x) Au.h4._auto_1):SE X E (.ListComp elt [⟨tg,iter,ifs,0⟩] scope pos) (cn it k caps g mt me):=⟨
 aH (sP hX hxe C hi.out (g:=uG X.K g) (λcl s0 H0 ex z=>(hg cl s0 H0 ex z).out) (tt:=uT X.K E mt) (λcl s0 H0 ex z=>(ht cl s0 H0 ex z).out) (te:=uE X.K E me) (λcl s0 H0 ex z=>(he cl s0 H0 ex z).out) hs) λs H Q zq=>ex6 zq λw r S hr hS hp=>⟨w,r,S,hr,hS,hp.bind hS λds S1 w1 H1 J x1 q1 s1 p1=>by
  intro p hp
  have hr1:=hr.ext x1
  have pno:p ∉ w1.hid:=(s1.fresh hp).2
  have hz:ds.length<=sizeLine:=by
   rcases Nat.lt_or_ge sizeLine ds.length with z | z
   ·rw [Yg (by omega)] at p1; exact p1.elim
   ·exact z
  rw [Y9 hz] at p1
  -- the list is made at p,which is hidden
  refine ⟨λi n s' H'=>n=ds.length - i/\i<=ds.length/\∃ w' r' S' ys vs,Ext w1 H1 w' H'/\p ∈ w'.hid/\RSt X.K w' H' r' s'/\RS X.K w' H' S'/\H' p=some (.lst vs)/\RDs X.K w' H' ys vs/\ys.length<=i/\
    ax X.K E (RD X.K) w1 H1 ((dR g mt me (ds.drop i) r' S').bind λzs S2=>R.ok (.lst (ys ++ zs)) S2) Q,
   ⟨ds.length,by simp,Zc _,w1.hide p,gS k caps r,S1,[],[],Ext.hide hp,Yz,(pP k caps hr1).ext (Ext.hide hp),s1.hide hp,aL,.nil,Yd _,p1⟩,?_⟩
  rintro i n s2 H2 ⟨rfl,hi.out,w2,r2,S2,ys,vs,x2,hph,hr2,hS2,hpv,ry,hyl,hp2⟩
  have hpn:p ∉ w2.st:=(hS2.hid p hph).1
  by_cases hlt:i < ds.length
  ·obtain ⟨go,yld⟩:=(q1 i w2 H2 x2).1 hlt
   refine .inr ⟨go,λs' H'=>∃ w' r' S' ys vs,Ext w1 H1 w' H'/\p ∈ w'.hid/\RSt X.K w' H' r' s'/\RS X.K w' H' S'/\H' p=some (.lst vs)/\RDs X.K w' H' ys vs/\ys.length<=i + 1/\
     ax X.K E (RD X.K) w1 H1 ((dR g mt me (ds.drop (i + 1)) r' S').bind λzs S2=>R.ok (.lst (ys ++ zs)) S2) Q,
    λs' H' hN=>⟨ds.length - (i + 1),by omega,rfl,hlt,hN⟩,λx H3 hy=>?_⟩
   obtain ⟨gr,rd⟩:=yld x H3 hy
   obtain ⟨d,ed,qd⟩:=rd S2 hS2
   obtain ⟨x3,s3⟩:=j8 gr hS2
   have hdrop:ds.drop i=d :: ds.drop (i + 1):=by
    rw [W1 hlt]
    rw [Yw hlt] at ed
    cases ed; rfl
   rw [hdrop] at hp2
   have hpv3:H3 p=some (.lst vs):=x3.keep _ _ hpv hpn
   have ry3:=RDs.ext x3 _ _ ry
   have x13:Ext w1 H1 w2 H3:=x2.trans' x3 s1 hS2
   unfold dR at hp2
   cases e:g.put d r2 with
   | none=>rw [e] at hp2; exact hp2.elim
   | some r3=>
    rw [e] at hp2
    refine ⟨w2,r2,d,r3,hr2.ext x3,qd,e,λs4 hr4=>⟨w2,r3,S2,hr4,s3,?_⟩⟩
    -- hp2:(mt r3 S2).bind .. |>.bind ..
    have hass:∀ {A B C:Type} (r:R A) (f:A->Sto->R B) (h:B->Sto->R C),(r.bind f).bind h=r.bind λa S=>(f a S).bind h:=λr f h=>by cases r <;> rfl
    simp only [hass] at hp2
    refine ax.bindAt (rel:=RB) hp2 x13 s1 s3 λc S5 w5 H5 c' x5 q5 s5 p5=>?_
    have ec:c'=c:=q5
    subst ec
    have x15:Ext w1 H1 w5 H5:=x13.trans' x5 s1 s3
    have hph5:p ∈ w5.hid:=x5.hid p hph
    have hpv5:H5 p=some (.lst vs):=x5.keep _ _ hpv3 hpn
    cases c' with
    | false=>
     refine kY ⟨w5,r3,S5,ys,vs,x15,hph5,hr4.ext x5,s5,hpv5,RDs.ext x5 _ _ ry3,Nat.le_succ_of_le hyl,p5⟩
    | true=>
     refine kZ ⟨w5,r3,S5,hr4.ext x5,s5,?_⟩
     have p5':ax X.K E (RD X.K) w1 H1 (((me r3 S5).bind λy S2=>(dR g mt me (ds.drop (i + 1)) r3 S2).bind λys S3=>R.ok (y :: ys) S3).bind λzs S2=>R.ok (D.lst (ys ++ zs)) S2) Q:=p5
     simp only [hass] at p5'
     refine ax.bindAt (rel:=RD X.K) p5' x15 s1 s5 λy S6 w6 H6 yv x6 q6 s6 p6=>?_
     have x16:Ext w1 H1 w6 H6:=x15.trans' x6 s1 s5
     have hph6:p ∈ w6.hid:=x6.hid p hph5
     have hpn5:p ∉ w5.st:=(s5.hid p hph5).1
     have hpn6:p ∉ w6.st:=(s6.hid p hph6).1
     have hpv6:H6 p=some (.lst vs):=x6.keep _ _ hpv5 hpn5
     have ry6:=RDs.ext x6 _ _ (RDs.ext x5 _ _ ry3)
     refine ⟨vs,hpv6,by rw [ry6.length]; omega,w6,r3,S6,ys ++ [y],vs ++ [yv],⟨λa o h n=>?_,x16.sub,x16.hid,x16.hnew,λa o u h=>by have z:=x16.frz a o u h; rw [aA (λe:a=p=>by rw [e,hpv6] at z; cases z)]; exact z⟩,hph6,(hr4.ext x5).ext x6 |>.mv (Mv.write hph6),s6.write hph6,aL,(RDs.mv (Mv.write hph6) _ _ ry6).append (.cons (RD.mv (Mv.write hph6) _ _ q6) .nil),by simp; omega,?_⟩
     ·have:a ≠ p:=aK h hp
      rw [aA this]; exact x16.keep a o h n
     ·have he2:∀ zs:List D,(ys ++ [y]) ++ zs=ys ++ y :: zs:=λzs=>by simp
      simp only [he2]
      exact p6
  ·have e:i=ds.length:=by omega
   subst e
   rw [Vb] at hp2
   refine .inl ⟨(q1 _ w2 H2 x2).2 (Yd _),?_⟩
   have hp3:ax X.K E (RD X.K) w1 H1 (R.ok (D.lst (ys ++ [])) S2) Q:=hp2
   rw [Z8] at hp3
   refine ax.at hp3 (w1:=w2.unhide p) ⟨x2.keep,x2.sub,λa h=>Zz.mpr ⟨x2.hid a h,Yi λz=>pno (z ▸ h)⟩,λa h=>x2.hnew a (Wd.mem_unhide h).1,x2.frz⟩ ?_ hS2.unhide
   unfold RD
   exact ⟨p,vs,rfl,⟨hpv,hpn,λz=>(Wd.mem_unhide z).2 rfl⟩,RDs.mv Mv.unhide _ _ ry⟩⟩⟩
theorem iB {E:XK} {elt tg iter:Expr} {ifs:List Expr} {pos:Pos} {it:AM} {g:G} {mt:TM} {me:EM} (hX:X.calm=true) (hxe:∀ e s,¬ X.xe e s) (C:CompScope X N k caps scope)
  (hi:SI X E tg iter it) (hg:∀ cl s0 H0 ex,SG (cxC X N scope cl s0 H0 ex) tg g) (ht:∀ cl s0 H0 ex,SIf (cxC X N scope cl s0 H0 ex) E ifs mt) (he:∀ cl s0 H0 ex,SE (cxC X N scope cl s0 H0 ex) E elt me)
  (hs:autoParam (∀ x,foldedSetIterable iter X.env x=pure x) Au.h4._auto_1):SE X E (.ListComp elt [⟨tg,iter,ifs,0⟩] scope pos) (cn it k caps g mt me):=kc (qb:=false) (.inl hX) hxe C hi (λa b c d _=>hg a b c d) (λa b c d _=>ht a b c d) (λa b c d _=>he a b c d) hs
noncomputable abbrev KD:=Sum Int Str
noncomputable def Ec:D->Option KD
 | .int i=>some (.inl i)
 | .str x=>some (.inr x)
 | _=>none
noncomputable def putD (kvs:List (KD × D)) (k:KD) (d:D):List (KD × D):=
 if kvs.any (λkv=>decide (kv.1=k)) then kvs.map (λkv=>if kv.1=k then (kv.1,d) else kv) else kvs ++ [(k,d)]
noncomputable def kd (kvs more:List (KD × D)):List (KD × D):=more.foldl (λacc kv=>putD acc kv.1 kv.2) kvs
noncomputable def jv:List (D × D)->Option (List (KD × D))
 | []=>some []
 | (k,v) :: r=>match Ec k,jv r with
  | some k',some r'=>some ((k',v) :: r')
  | _,_=>none
noncomputable def pM:List (EM × EM)->Rho->Sto->R (List (D × D))
 | [],_,S=>.ok [] S
 | (a,b) :: t,r,S=>(a r S).bind λx S1=>(b r S1).bind λy S2=>(pM t r S2).bind λps S3=>.ok ((x,y) :: ps) S3
noncomputable def yY (ms:List (EM × EM)):EM:=λr S=>(pM ms r S).bind λps S1=>match jv ps with
 | some kvs=>if kvs.length<=15 then .ok (.dic (kd [] kvs)) S1 else .bad
 | none=>.bad
section
variable {K:PySem.W.Frag} {w:Wd} {H:Hp}
theorem RDk.nil:RDk K w H [] []:=by unfold RDk; rfl
theorem RDk.cons {k:KD} {d:D} {v:V} {ds:List (KD × D)} {vs:List (Key × V)} (r:RD K w H d v) (q:RDk K w H ds vs):RDk K w H ((k,d) :: ds) ((k,v) :: vs):=by unfold RDk; exact ⟨v,vs,rfl,r,q⟩
theorem RDk.nil_inv {vs:List (Key × V)} (h:RDk K w H [] vs):vs=[]:=by unfold RDk at h; exact h
theorem RDk.cons_inv {k:KD} {d:D} {ds:List (KD × D)} {vs:List (Key × V)} (h:RDk K w H ((k,d) :: ds) vs):∃ v r,vs=(k,v) :: r/\RD K w H d v/\RDk K w H ds r:=by unfold RDk at h; exact h
theorem RDk.append:∀ {ds es:List (KD × D)} {vs us:List (Key × V)},RDk K w H ds vs->RDk K w H es us->RDk K w H (ds ++ es) (vs ++ us)
 | [],_,_,_,h,q=>by rw [h.nil_inv]; exact q
 | (_,_) :: _,_,_,_,h,q=>by
  obtain ⟨v,r,rfl,p,t⟩:=h.cons_inv
  exact .cons p (RDk.append t q)
theorem RDk.any:∀ {ds:List (KD × D)} {vs:List (Key × V)} (k:KD),RDk K w H ds vs->(ds.any λkv=>decide (kv.1=k))=(vs.any λkv=>decide (kv.1=k))
 | [],_,_,h=>by rw [h.nil_inv]; rfl
 | (_,_) :: _,_,k,h=>by
  obtain ⟨v,r,rfl,p,t⟩:=h.cons_inv
  rw [Q5,Q5,RDk.any k t]
theorem RDk.repl {d:D} {v:V} (r:RD K w H d v):∀ {ds:List (KD × D)} {vs:List (Key × V)} (k:KD),RDk K w H ds vs->RDk K w H (ds.map λkv=>if kv.1=k then (kv.1,d) else kv) (vs.map λkv=>if kv.1=k then (kv.1,v) else kv)
 | [],_,_,h=>by rw [h.nil_inv]; exact .nil
 | (j,_) :: _,_,k,h=>by
  obtain ⟨v',r',rfl,p,t⟩:=h.cons_inv
  simp only [Yc]
  by_cases hj:j=k
  ·rw [Y9 hj,Y9 hj]; exact .cons r (RDk.repl r k t)
  ·rw [Yg hj,Yg hj]; exact .cons p (RDk.repl r k t)
theorem RDk.put {ds:List (KD × D)} {vs:List (Key × V)} {d:D} {v:V} (q:RDk K w H ds vs) (k:KD) (r:RD K w H d v):RDk K w H (putD ds k d) (putK vs k v):=by
 unfold putD putK
 rw [q.any k]
 split
 ·exact q.repl r k
 ·exact q.append (.cons r .nil)
theorem RDk.merge:∀ {more:List (KD × D)} {mvs:List (Key × V)} {ds:List (KD × D)} {vs:List (Key × V)},RDk K w H more mvs->RDk K w H ds vs->RDk K w H (kd ds more) (e6 vs mvs)
 | [],_,_,_,h,q=>by rw [h.nil_inv]; exact q
 | (k,d) :: r,_,ds,vs,h,q=>by
  obtain ⟨v',r',rfl,p,t⟩:=h.cons_inv
  show RDk K w H (kd (putD ds k d) r) (e6 (putK vs k v') r')
  exact RDk.merge t (q.put k p)
theorem yZ {d:D} {v:V} {k:KD} (q:RD K w H d v) (h:Ec d=some k):v=kV k:=by
 cases d with
 | int i=>cases q.int; cases h; rfl
 | str x=>cases q.str; cases h; rfl
 | _=>cases h
noncomputable def RPs (K:PySem.W.Frag) (w:Wd) (H:Hp):List (D × D)->List (V × V)->Prop
 | [],vs=>vs=[]
 | (a,b) :: r,vs=>∃ x y t,vs=(x,y) :: t/\RD K w H a x/\RD K w H b y/\RPs K w H r t
theorem nP:∀ {ps:List (D × D)} {vs:List (V × V)} {kvs:List (KD × D)},RPs K w H ps vs->jv ps=some kvs->∃ us:List (Key × V),vs=us.map (λkv=>(kV kv.1,kv.2))/\RDk K w H kvs us
 | [],_,_,h,e=>by
  have h':_=[]:=h
  subst h'
  unfold jv at e
  cases e
  exact ⟨[],rfl,.nil⟩
 | (a,b) :: r,_,kvs,h,e=>by
  obtain ⟨u,v,t,rfl,h1,h2,h3⟩:=h
  unfold jv at e
  cases e1:Ec a with
  | none=>rw [e1] at e; cases e
  | some k=>
   cases e2:jv r with
   | none=>rw [e1,e2] at e; cases e
   | some r'=>
    rw [e1,e2] at e; cases e
    obtain ⟨us,rfl,q⟩:=nP h3 e2
    exact ⟨(k,v) :: us,by rw [yZ h1 e1]; rfl,.cons h2 q⟩
end
section
variable {X:Cx} {E:XK} {pos:Pos}
noncomputable def uPs (K:PySem.W.Frag) (E:XK) (ms:List (EM × EM)):List (TE × TE):=ms.map λp=>(uE K E p.1,uE K E p.2)
theorem z7 {A2 B2:Type} {K:PySem.W.Frag} {rel2:Wd->Hp->A2->B2->Prop} {w0:Wd} {H0:Hp} {S0:Sto} {Q:B2->Hp->Prop} (s0:RS K w0 H0 S0):∀ (ms:List (EM × EM)) {w:Wd} {H:Hp} {S:Sto} {r:Rho} {s:L2.St} {f:List (D × D)->Sto->R A2} {Q':List (V × V)->Hp->Prop},RSt K w H r s->RS K w H S->Ext w0 H0 w H->
  ax K E rel2 w0 H0 ((pM ms r S).bind f) Q->(∀ ps S1 w1 H1 vs,Ext w H w1 H1->RPs K w1 H1 ps vs->RS K w1 H1 S1->ax K E rel2 w0 H0 (f ps S1) Q->Q' vs H1)->my (uPs K E ms) s H Q'
 | [],w,H,S,r,s,f,Q',hr,hS,x,hp,k=>k [] S w H [] (Ext.refl _ _) rfl hS hp
 | (a,b) :: t,w,H,S,r,s,f,Q',hr,hS,x,hp,k=>by
  have hass:∀ {A B C:Type} (r:R A) (f:A->Sto->R B) (h:B->Sto->R C),(r.bind f).bind h=r.bind λa S=>(f a S).bind h:=λr f h=>by cases r <;> rfl
  unfold pM at hp
  rw [hass] at hp
  refine ⟨w,r,S,hr,hS,ax.bindAt (rel:=RD K) hp x s0 hS λd S1 w1 H1 u x1 q1 s1 p1=>?_⟩
  rw [hass] at p1
  have x01:=x.trans' x1 s0 hS
  refine ⟨w1,r,S1,hr.ext x1,s1,ax.bindAt (rel:=RD K) p1 x01 s0 s1 λe S2 w2 H2 v x2 q2 s2 p2=>?_⟩
  rw [hass] at p2
  have x02:=x01.trans' x2 s0 s1
  exact z7 s0 t ((hr.ext x1).ext x2) s2 x02 p2 λps S3 w3 H3 vs x3 q3 s3 p3=>
   k ((d,e) :: ps) S3 w3 H3 ((u,v) :: vs) ((x1.trans' x2 hS s1).trans' x3 hS s2) ⟨u,v,vs,rfl,RD.ext x3 _ _ (RD.ext x2 _ _ q1),RD.ext x3 _ _ q2,q3⟩ s3 p3
abbrev SPs (X:Cx) (E:XK) (pos:Pos) (keys:List (Option Expr)) (values:List Expr) (ms:List (EM × EM)):Prop:=Bx (PPs X pos keys values (uPs X.K E ms))
theorem y6:SPs X E pos [] [] []:=⟨yJ⟩
theorem tq {k v:Expr} {ks:List (Option Expr)} {vs:List Expr} {mk mv:EM} {ms:List (EM × EM)} (hk:SE X E k mk) (hv:SE X E v mv) (hr:SPs X E pos ks vs ms):SPs X E pos (some k :: ks) (v :: vs) ((mk,mv) :: ms):=⟨sD hk.out hv.out hr.out⟩
theorem qN {keys:List (Option Expr)} {values:List Expr} {ms:List (EM × EM)} {m:EM} {s:L2.St} {H:Hp} {Q:VK} {fin:List (KD × D)->Sto->R D}
  (hm:∀ r S,m r S=(pM ms r S).bind λps S1=>match jv ps with | some kvs=>if kvs.length<=15 then fin kvs S1 else .bad | none=>.bad)
  (C5:∀ (kvs:List (KD × D)) (us:List (Key × V)) (w0 w:Wd) (H0 H:Hp) (S0 S:Sto) (p:Addr),H0 p=none->RS X.K w0 H0 S0->RS X.K w H S->Ext w0 H0 w H->p ∈ w.hid->RDk X.K w H (kd [] kvs) (e6 [] us)->ax X.K E (RD X.K) w0 H0 (fin kvs S) Q->Q (.ref p) (upd H p (.dK (e6 [] us))))
  (h:uE X.K E m s H Q):z3 (uPs X.K E ms) s H Q:=by
 obtain ⟨w,r,S,hr,hS,hp⟩:=h
 rw [hm] at hp
 intro p hpn
 refine z7 hS ms (hr.ext (Ext.hide hpn)) (hS.hide hpn) (Ext.hide hpn) hp λps S1 w1 H1 vs x1 q1 s1 p1=>?_
 have hh:p ∈ w1.hid:=x1.hid p Yz
 have hx:Ext w H w1 H1:=(Ext.hide hpn).trans' x1 hS (hS.hide hpn)
 refine ⟨x1.keep p _ aL ((hS.hide (o:=HO.dK []) hpn).hid p Yz).1,?_⟩
 cases e:jv ps with
 | none=>rw [e] at p1; exact p1.elim
 | some kvs=>
  rw [e] at p1
  obtain ⟨us,rfl,rk⟩:=nP q1 e
  have hl:=rk.length
  by_cases hz:kvs.length<=15
  ·have p2:ax X.K E (RD X.K) w H (if kvs.length<=15 then fin kvs S1 else R.bad) Q:=p1
   rw [Y9 hz] at p2
   exact ⟨us,rfl,by rw [hl]; exact hz,C5 kvs us w w1 H H1 S S1 p hpn hS s1 hx hh (rk.merge .nil) p2⟩
  ·have p2:ax X.K E (RD X.K) w H (if kvs.length<=15 then fin kvs S1 else R.bad) Q:=p1
   rw [Yg hz] at p2
   exact p2.elim
theorem Ed {keys:List (Option Expr)} {values:List Expr} {ms:List (EM × EM)} (h:SPs X E pos keys values ms) (hall:autoParam (keys.all (·.isSome)=true) Au.h0._auto_1) (hl:autoParam (keys.length=values.length) Au.h0._auto_1) (h0:keys ≠ []:=by intro z; cases z) (h15:autoParam (keys.length<=15) Au.h3._auto_1):
  SE X E (.Dict keys values pos) (yY ms):=⟨
 aH (yK h.out hall hl h0 h15) λs H Q q=>qN (keys:=keys) (values:=values) (fin:=λkvs S1=>R.ok (.dic (kd [] kvs)) S1) (λr S=>rfl) (λkvs us w0 w H0 H S0 S p hp s0 s x hh rk p1=>by
  have hpn:=(s.hid p hh).1
  have mv:Mv w H (w.unhide p) (upd H p (.dK (e6 [] us))):=⟨λ_ _ z=>z,λa o z=>⟨by rw [aA (λy:a=p=>z.2.2 (y ▸ hh))]; exact z.1,z.2.1,λy=>z.2.2 (Wd.mem_unhide y).1⟩⟩
  refine ax.at p1 (w1:=w.unhide p) ⟨λa o h n=>by rw [aA (aK h hp)]; exact x.keep a o h n,x.sub,λa h=>Zz.mpr ⟨x.hid a h,Yi λz=>(s0.fresh hp).2 (z ▸ h)⟩,λa h=>x.hnew a (Wd.mem_unhide h).1,λa o u h=>by rw [aA (aK h hp)]; exact x.frz a o u h⟩ ?_ (s.write hh).unhide
  unfold RD
  exact ⟨p,_,rfl,⟨aL,hpn,λz=>(Wd.mem_unhide z).2 rfl⟩,RDk.mv mv _ _ rk⟩) q⟩
end
def lb (m:AM) (n:Nat):Prop:=∀ r S ds S',m r S=.ok ds S'->ds.length=n
theorem ay:lb aj 0:=λr S ds S' h=>by unfold aj at h; cases h; rfl
theorem ak {a:EM} {t:AM} (h:lb t n):lb (aa a t) (n + 1):=λr S ds S' e=>by
 unfold aa at e
 cases e1:a r S with
 | bad=>rw [e1] at e; cases e
 | err x S1=>rw [e1] at e; cases e
 | ok d S1=>
  rw [e1] at e
  cases e2:t r S1 with
  | bad=>simp only [R.bind_ok,e2,R.bind_bad] at e; cases e
  | err x S2=>simp only [R.bind_ok,e2,R.bind_err] at e; cases e
  | ok es S2=>
   simp only [R.bind_ok,e2] at e
   cases e
   simp [h r S1 es _ e2]
section
variable {X:Cx} {E:XK}
theorem pR {pos:Pos} (hm:∃ t,X.mg x=some (.int i t)) (hg:Gl X x) (hd:autoParam ((x == ("__debug__":Str))=false) Au.h3._auto_1):SE X E (.Name x pos) (eC (.int i)):=by
 obtain ⟨t,e⟩:=hm
 exact yM hg e hd
end
noncomputable def mP (N0 N:List Str) (k:Nat) (scope:Scope):List Nat->Nat->Bool
 | [],_=>true
 | i :: r,t=>(match N0[i]?,N[k + t]? with
  | some x,some y=>x == y && scope.names.lookup x == some .free
  | _,_=>false) && mP N0 N k scope r (t + 1)
theorem ke {N0:List Str} :∀ {caps:List Nat} {t0:Nat},mP N0 N k scope caps t0=true->∀ (t i:Nat),caps[t]?=some i->∃ x,N0[i]?=some x/\N[k + (t0 + t)]?=some x/\scope.names.lookup x=some .free
 | [],_,_,_,_,h=>by simp at h
 | j :: r,t0,h,t,i,e=>by
  unfold mP at h
  rw [Yt] at h
  cases t with
  | zero=>
   simp at e
   subst e
   have h1:=h.1
   cases e1:N0[j]? with
   | none=>rw [e1] at h1; cases h1
   | some x=>
    cases e2:N[k + t0]? with
    | none=>rw [e1,e2] at h1; cases h1
    | some y=>
     rw [e1,e2] at h1
     simp only [Yt] at h1
     have hxy:x=y:=Wu h1.1
     subst hxy
     exact ⟨x,rfl,by simpa using e2,Wu h1.2⟩
  | succ t=>
   obtain ⟨x,a,b,c⟩:=ke h.2 t i (by simpa using e)
   exact ⟨x,a,by rw [show t0 + (t + 1)=t0 + 1 + t by omega]; exact b,c⟩
theorem jw {X:Cx} {N:List Str} {k:Nat} {caps:List Nat} (h1:scope.kind=.function) (h2:scope.names.all (λx=>x.2 != .cell)=true) (h3:scope.names.all (λx=>x.2 != .local || scope.names.lookup x.1 == some .local)=true)
  (h4:scope.names.all (λx=>x.2 != .free || X.env.kindOf x.1 == some .cell || X.env.kindOf x.1 == some .free)=true) (h5:N.length=k + caps.length) (h6:mP X.N N k scope caps 0=true):CompScope X N k caps scope:=by
 refine ⟨h1,λx hx z=>?_,λx hx z=>?_,λx hx z=>?_,h5,λt i e=>?_⟩
 ·have:=Ze.mp h2 x hx
  rw [z] at this; simp at this
 ·have:=Ze.mp h3 x hx
  rw [z] at this
  simpa using this
 ·have:=Ze.mp h4 x hx
  rw [z] at this
  simpa using this
 ·obtain ⟨x,a,b,c⟩:=ke h6 t i e
  exact ⟨x,a,by simpa using b,c⟩
theorem Ee {f:FM} (h:∀ ns:List Int,ns.length<=63->∃ S,f [.fz (ns.map .int)] []=.ok (.bl true) S) (K:PySem.W.Frag) (H:Hp) (a:Addr) (ns:List Int) (hn:ns.length<=63) (ho:sE H) (hs:SqL K H a (ns.map V.int)):
  spM K 1 f [.ref a] H (λv _=>v=.bl true) λ_ _ _=>False:=by
 obtain ⟨S,e⟩:=h ns hn
 have hfz:qI K ⟨[],[]⟩ H a (ns.map V.int):=by
  rcases hs with (hs | ⟨o,hs⟩) | hs
  ·rcases ho a with z | ⟨o,xs,z⟩
   ·rw [z] at hs; cases hs
   ·rw [z] at hs; cases hs
  ·exact .inl ⟨o,hs,(λz=>nomatch z),(λz=>nomatch z)⟩
  ·exact .inr hs
 have hints:∀ l:List Int,RDs K ⟨[],[]⟩ H (l.map D.int) (l.map V.int):=λl=>by
  induction l with
  | nil=>exact .nil
  | cons i l ih=>exact .cons RD.mkI ih
 refine ⟨rfl,⟨[],[]⟩,[],[.fz (ns.map .int)],⟨List.nodup_nil,rfl,λn o z=>?_,(λa z=>nomatch z)⟩,.cons (by unfold RD; exact ⟨a,_,rfl,hfz,hints ns⟩) .nil,?_⟩
 ·simp at z
 ·rw [e]
  intro w' H' b x q s
  unfold RD at q
  exact q
end PD
namespace PD
open PySem L2
variable {S:Sto} {i j:Int}
theorem hU (h:ee i \/ ee j):g8 S (.int i) (.int j)=some (.int (i * j)):=Y9 h
theorem Ef (h:0 < j):oMod S (.int i) (.int j)=some (.int (i % j)):=Y9 h
theorem Eg (h:0<=j/\j<=1000000/\i.natAbs < 2 ^ 64):qJ S (.int i) (.int j)=some (.int (i ^ j.toNat)):=Y9 h
theorem kf {A:Type} {xs:List A} {i:Nat} (h:i < xs.length):atI xs (i:Int)=some xs[i]:=pG (Yw h)
end PD
namespace L2
open PySem PySem.Spec PyProof.Rows
def Fly (l:List Env) (H':Hp) (h hs:Heap) (ea:Addr) (cls:Value):Prop:=
 ∃ (B:Heap) (a0:Value),Heap.FlyingW B l ea cls a0 hs/\(∀ b o,h.get? b=some o->b ∉ frs l->∃ o',B.get? b=some o')/\(∀ b u,H' b=some u->∃ o',B.get? b=some o')/\hs.Zat ea
noncomputable def CX1 (P:Program) (w:World):CXT:=λouter H s E e s'=>
 ∃ ea cls H',e=.ref ea/\s'.os=s.os/\AllBare s'.gens/\Un (frs outer) [] H H' s.heap s'.heap/\HOk P w H' s'.heap/\Fly outer H' s.heap s'.heap ea cls/\E cls none H'
section
variable {P:Program} {w:World} {fs:List Addr} {H H':Hp} {h h1 h2 B:Heap} {l:List Env}
theorem bY.thereO {a:Addr} {o:HO} (x:bY P w H h a o):∃ ob,h.get? a=some ob:=by
 cases o with
 | lst xs=>obtain ⟨_,_,_,_,e⟩:=x; exact ⟨_,e⟩
 | tup xs=>obtain ⟨_,_,_,ob,e,_⟩:=x; exact ⟨_,e⟩
 | dK kvs=>obtain ⟨_,_,_,_,ob,_,_,e,_⟩:=x; exact ⟨_,e⟩
 | dT kvs=>obtain ⟨_,_,_,_,ob,_,_,e,_⟩:=x; exact ⟨_,e⟩
 | set S n=>obtain ⟨ob,_,_,_,e,_⟩:=x; exact ⟨_,e⟩
 | ins C dx fs=>obtain ⟨_,_,_,e,_⟩:=x; exact ⟨_,e⟩
 | own y=>exact x
 | xd fs=>obtain ⟨_,⟨_,_,_,e,_⟩,_⟩:=x; exact ⟨_,e⟩
 | rng lo hi=>obtain ⟨_,_,_,e⟩:=x; exact ⟨_,e⟩
 | frz ob u=>obtain ⟨e,_⟩:=x; exact ⟨_,e⟩
 | tbl ps=>exact ⟨_,x⟩
 | met f y=>exact ⟨_,x⟩
 | ext φ=>exact x.2.1
theorem Un.fly (u:Un fs [] H H' h h1) (b1:B.StaysIn h1) (b2:B.StaysIn h2) (old:∀ b o,h.get? b=some o->b ∉ fs->∃ o',B.get? b=some o') (up:h1.UpToSlots h2)
  (fr:∀ b ∈ fs,∀ o,h1.get? b=some o->∀ vs,o.data ≠ .fields vs):Un fs [] H H' h h2 where
 keep:=λb o e n nf nx=>by
  obtain ⟨o',e'⟩:=old b o e nf
  have q:=b1 b o' e'
  rw [u.keep b o e n nf nx] at q
  cases q
  exact b2 b o e'
 slot:=λb o e n hb nx=>by
  obtain ⟨sl,q⟩:=u.slot b o e n hb nx
  obtain ⟨sl',q'⟩:=up b _ q (fr b hb _ q)
  exact ⟨sl',q'⟩
 free:=u.free
 there:=λb o e nx=>by
  by_cases hb:b ∈ fs
  ·obtain ⟨o1,q⟩:=u.there b o e nx
   obtain ⟨sl,q'⟩:=up b o1 q (fr b hb o1 q)
   exact ⟨_,q'⟩
  ·obtain ⟨o',e'⟩:=old b o e hb
   exact ⟨o',b2 b o' e'⟩
 tups:=u.tups
 frzs:=u.frzs
 tbls:=u.tbls
theorem HOk.fly (k:HOk P w H' h1) (b1:B.StaysIn h1) (b2:B.StaysIn h2) (tr:∀ b u,H' b=some u->∃ o',B.get? b=some o'):HOk P w H' h2:=λa o e=>
 (k a o e).stay (λb u hb q=>by
  have:∃ v,H' b=some v:=hb.elim (λz=>⟨o,z ▸ e⟩) λz=>⟨_,z⟩
  obtain ⟨v,hv⟩:=this
  obtain ⟨o',e'⟩:=tr b v hv
  have q':=b1 b o' e'
  rw [q] at q'
  cases q'
  exact b2 b u e') (λ_ z=>z) λ_ _ z=>z
theorem fE {ea:Addr} {cls a0:Value} (f:Heap.FlyingW B l ea cls a0 h1):∀ b ∈ frs l,∀ o,h1.get? b=some o->∀ vs,o.data ≠ .fields vs:=λb hb o e=>by
 obtain ⟨_,o',e',z⟩:=f.2.2.1.mem hb
 rw [e] at e'
 cases e'
 exact z
end
section
variable {X:Cx} {pins:List (Addr × Obj)} {σ:St} {H:Hp} {s s':Shared} {E:XK} {e:Value}
theorem Inv.old (I:Inv X pins σ H s) (hex:X.ex=[]) (hf:X.stack=X.env :: X.outer/\X.env.frame=some X.env.locals) {B:Heap} (hB:∀ b o,s.heap.get? b=some o->b ∉ frs X.stack->∃ o',B.get? b=some o'):
  ∀ b o,X.s₀.heap.get? b=some o->b ∉ X.fs->∃ o',B.get? b=some o':=λb o q n=>by
 obtain ⟨o1,q1⟩:=I.base.there b o q (by rw [hex]; exact λz=>nomatch z)
 refine hB b o1 q1 λz=>?_
 rcases Yn.mp (I.stkSub b z) with z | z
 ·exact absurd (Yl (Yh q) (z ▸ I.ok.above)) (Qg _)
 ·exact n z
theorem tu {E':Value->Shared->Prop} (I:Inv X pins σ H s) (hex:X.ex=[]) (hf:X.stack=X.env :: X.outer/\X.env.frame=some X.env.locals) (c:CX1 X.prog X.w X.stack H s E e s'):
  wpAny (model X.prog X.w) X.A («leaving» X.env e) (λ_ s''=>CX1 X.prog X.w X.outer X.H₀ X.s₀ E e s'') E' s':=by
 obtain ⟨ea,cls,H',rfl,os,bare,un,hok,⟨B,a0,fl,old,tr,zt⟩,hE⟩:=c
 have J:Inv X pins σ H' s':=I.call' os un hok bare (λb z=>nomatch z)
 rw [hf.1] at fl
 refine yi (by rw [I.ok.frames,hf.1]) hf.2 fl zt λh' x1 x2 x3=>?_
 have hb:=J.base
 rw [hex] at hb
 have ol:=I.old hex hf old
 exact ⟨ea,cls,H',rfl,J.os,bare,Un.fly hb fl.1 x1.1 ol x2 (λb hb=>fE fl b (Qh.mpr (by
   obtain ⟨en,he,hfr⟩:=Qh.mp hb
   exact ⟨en,Ys _ he,hfr⟩))),HOk.fly hok fl.1 x1.1 tr,⟨B,a0,x1,ol,tr,x3⟩,hE⟩
theorem leave_new {E':Value->Shared->Prop} {ea:Addr} {cls:Value} {args:List Value} {h':Heap} (I:Inv X pins σ H s) (hex:X.ex=[]) (hf:X.stack=X.env :: X.outer/\X.env.frame=some X.env.locals) (hx:Heap.MadeExcOf s.heap h' ea cls args)
  (hE:E cls none H):wpAny (model X.prog X.w) X.A («leaving» X.env (.ref ea)) (λ_ s''=>CX1 X.prog X.w X.outer X.H₀ X.s₀ E (.ref ea) s'') E' { s with heap:=h' }:=by
 have hin:∀ en ∈ X.stack,∀ a,en.frame=some a->a ∈ frs X.stack:=λen he a ha=>Qh.mpr ⟨en,he,ha⟩
 have st:(PySem.W.hideAll s.heap (frs X.stack)).StaysIn s.heap:=λb o q=>PySem.W.of_hideAll _ q
 have old:∀ b o,s.heap.get? b=some o->b ∉ frs X.stack->∃ o',(PySem.W.hideAll s.heap (frs X.stack)).get? b=some o':=λb o q n=>⟨o,PySem.W.hideAll_get _ q n⟩
 have ff:=PySem.W.funFrames_hide I.stack hin
 have tr:∀ b u,H b=some u->∃ o',(PySem.W.hideAll s.heap (frs X.stack)).get? b=some o':=λb u e=>by
  have hlt:=(I.hok b u e).lt
  obtain ⟨o,q⟩:∃ o,s.heap.get? b=some o:=(I.hok b u e).thereO
  exact old b o q λz=>by rw [I.stkFree b z] at e; cases e
 have hfr:X.A.frames=some (X.env :: X.outer):=by rw [I.ok.frames,hf.1]
 rw [hf.1] at ff
 have ff':s.heap.FunFrames (PySem.W.hideAll s.heap (frs X.stack)) (X.env :: X.outer):=by rw [hf.1]; exact ff
 refine nh (s:={ s with heap:=h' }) hfr hf.2 st ff' hx λh'' t x1 x4 zt=>?_
 have hb:=I.base
 rw [hex] at hb
 have ol:=I.old hex hf old
 have up:s.heap.UpToSlots h'':=(Heap.UpToSlots.of_keeps hx.keeps).trans x4
 refine ⟨ea,cls,H,rfl,I.os,I.bare,Un.fly hb st x1.1 ol up (λb hb o q=>?_),HOk.fly I.hok st x1.1 tr,⟨_,_,x1,ol,tr,zt⟩,hE⟩
 obtain ⟨_,o',e',z⟩:=I.funs.mem hb
 rw [q] at e'
 cases e'
 exact z
end
end L2
namespace PD
open PySem PySem.Spec PyProof.Rows L2
section
variable {X:Cx} {E:XK}
theorem ax.nx {A B:Type} {K:PySem.W.Frag} {rel:Wd->Hp->A->B->Prop} {w:Wd} {H:Hp} {r:R A} {Q:B->Hp->Prop} (h:ax K E rel w H r.nx Q):ax K E0 rel w H r Q:=by
 cases r with
 | ok a S=>exact h
 | err x S=>exact h.elim
 | bad=>exact h
theorem Eh {st:Stmt} {t:TS} (h:PS X.nox st t):PS X st t:=λpins s σ H D I hw=>Za (h pins s σ H D (I.wish _) hw) (λ_ _ q=>q.unwish) λ_ _ z=>False.elim z
theorem jx {e:Expr} {m:EM} (h:SE X.nox E0 e m):SE X E e (eNx m):=⟨aH h.out.nox λs H Q zq=>ex6 zq λw r S hr hS hp=>⟨w,r,S,hr,hS,hp.nx⟩⟩
theorem fQ {e:Expr} {m:TM} (h:ST X.nox E0 e m):ST X E e (tNx m):=⟨iu h.out.nox λs H Q zq=>ex6 zq λw r S hr hS hp=>⟨w,r,S,hr,hS,hp.nx⟩⟩
theorem iC {e:Stmt} {m:SM} (h:SS X.nox E0 e m):SS X E e (sNx m):=⟨dw (Eh h.out) λD s H zq=>ex6 zq λw r S hr hS hp=>⟨w,r,S,hr,hS,hp.nx⟩⟩
end
variable {st:Stmt} {x:Str} {f:Addr} {fd:FuncData}
abbrev veMro:List Value:=[.type "ValueError",.type "Exception",.type "BaseException",.type "object"]
structure XC (K:PySem.W.Frag) (mg:Str->Option Value) (x:Str):Prop where
 ex:∃ C,mg x=some (.ref C)/\PySem.W.nsIn K mainGlobals x=some (some (.ref C))/\PySem.W.excIn K C veMro "ValueError.__new__" = true
theorem y8 {K:PySem.W.Frag} {h:Heap} {C:Addr} {bmB:List Value} {newId:String} (X:K.In h) (q:PySem.W.excIn K C bmB newId=true):
  ∃ bm N nm qn bs hdct sn sub ab col dd k0 k1 k2 k3 k5 mN,h.get? C=some (excClassObj nm qn C N bs bm hdct sn sub ab col dd k0 k1 k2 k3 k5 newId)/\h.Ns N mN/\mN "__init__" = none/\OwnTail h bmB bm:=by
 unfold PySem.W.excIn at q
 split at q
 next dd cd sl ho=>
  split at q
  next C' bm k0 k1 k2 k3 n k5 hm hs=>
   simp only [Yt,Qi,Bool.not_eq_true'] at q
   have g1:C'=C:=q.1.1.1.1.1
   have g2:n=newId:=q.1.1.1.1.2
   have g3:cd.hasDel=false:=q.1.1.1.2
   have ho':=X _ _ ho
   have e2:sl = #[k0,k1,k2,k3,some (.builtin n),k5]:=Array.ext' hs
   refine ⟨bm,cd.ns,cd.name,cd.qualname,cd.bases,cd.hasDict,cd.slotNames,cd.subclasses,cd.abstract,cd.collection,dd,k0,k1,k2,k3,k5,h.nsMap cd.ns,?_,.of_isNs (PySem.W.isNs_of_in X q.1.2),PySem.W.nsMap_none_of_in X q.1.2 q.2,PySem.W.tail_of_in X q.1.1.2⟩
   rw [ho',e2,<- g2]
   have e3:cd={ name:=cd.name,bases:=cd.bases,mro:=.ref C :: bm,ns:=cd.ns,qualname:=cd.qualname,hasDict:=cd.hasDict,slotNames:=cd.slotNames,subclasses:=cd.subclasses,abstract:=cd.abstract,collection:=cd.collection,hasDel:=false }:=by
    rw [<- g1,<- hm,<- g3]
   exact Zs (λz=>some ({ cls:=.type "type",dict:=dd,data:=.cls z,slots:=#[k0,k1,k2,k3,some (.builtin n),k5] }:Obj)) e3
  next=>cases q
 next=>cases q
def Raises (X:Cx) (E:XK):Prop:=∀ (pins:List (Addr × Obj)) (σ:L2.St) (H:Hp) (s:Shared) (h':Heap) (ea:Addr) (cls:Value) (args:List Value),Inv X pins σ H s->Heap.MadeExcOf s.heap h' ea cls args->E cls none H->X.xe (.ref ea) { s with heap:=h' }
section
variable {X:Cx} {E:XK} {x:Str} {a:Expr} {es:List Expr} {ms:AM} {np cpos pos:Pos}
theorem dW (hX:XC X.K X.mg x) (hR:Raises X E) (hh:X.A.handled=none) (hg:Gl X x) (ha:SA X E (a :: es) ms) (hdb:autoParam ((x == ("__debug__":Str))=false) Au.h3._auto_1)
  (he:autoParam (starEach (a :: es) X.env=(false,eval a X.env) :: starEach es X.env) Au.h0._auto_1) (hpl:autoParam ((backTo cpos (starEach es X.env)).any (·.1)=false) Au.h0._auto_1):
  SS X E (.Raise (some (.Call (.Name x np) (a :: es) [] cpos)) none pos) (eK x ms):=⟨by
 intro pins s σ H D I ⟨w,r,S,hr,hS,hp⟩
 obtain ⟨C,hm,hns,hq⟩:=hX.ex
 obtain ⟨tl,N,nm,q,bs,hdct,sn,sub,ab,col,dd,k0,k1,k2,k3,k5,mN,hC,hN,hni,T⟩:=y8 I.ok.mod.kin hq
 refine wpAny_Raise_call_subT (bm:=tl) (C:=C) (N:=N) (nm:=nm) (q:=q) (bs:=bs) (hdct:=hdct) (sn:=sn) (sub:=sub) (ab:=ab) (col:=col) (dd:=dd) (k0:=k0) (k1:=k1) (k2:=k2) (k3:=k3) (k5:=k5)
  PySem.F.excBase_ValueError (mN:=mN) (T.hasType PySem.F.excBase_ValueError.hasBase) hh (by rw [he]; show (false || (backTo cpos (starEach es X.env)).any (·.1))=false; rw [hpl]; rfl) hni (gE I hg hm ⟨rfl,?_⟩ hdb)
 have h:=ha.out cpos pins s σ H (λvs H1=>vs.length<=sizeLine/\E (.ref C) none H1) I ⟨w,r,S,hr,hS,hp.bind hS λxs S1 w1 H1 vs x1 q1 s1 p1=>by
  by_cases hl:xs.length<=sizeLine
  ·rw [Y9 hl] at p1
   exact ⟨by rw [q1.length]; exact hl,p1 w1 H1 (.ref C) none (Ext.refl _ _) s1 hns⟩
  ·rw [Yg hl] at p1; exact p1.elim⟩
 rw [he] at h ⊢
 refine Calls.evalArgs_plain (Za h (λus s₂ h₂=>?_) λ_ _ y=>y)
 obtain ⟨vs,H1,I1,rv,hl,hE⟩:=h₂
 exact ⟨rfl,by rw [<- rv.length]; exact hl,I1.bk _ _ hC,hN.keeps I1.bk,T.keeps I1.bk,λh' e hm=>hR pins σ H1 s₂ h' e _ _ I1 hm hE⟩⟩
end
section
variable {P:Program} {w:World} {K:PySem.W.Frag} {mg:Str->Option Value} {base:Heap} {N:List Str} {qual:Str} {scope:Scope} {f:Addr} {cdv:Value} {A:Around} {outer:List Env} {s:Shared} {H:Hp} {E:XK}
theorem cx:Passes (CX1 P w) (gL (CX1 P w) P w K mg base N qual scope f cdv A outer s H E) E:=λpins σ H' s' e s'' I c=>tu I rfl ⟨rfl,rfl⟩ c
theorem dj:Raises (gL (CX1 P w) P w K mg base N qual scope f cdv A outer s H E) E:=λpins σ H' s' h' ea cls args I hx hE=>leave_new I rfl ⟨rfl,rfl⟩ hx hE
theorem eG {X:Cx}:Passes (CX1 X.prog X.w) X E0:=λ_ _ _ _ _ _ _ zq=>by obtain ⟨_,_,_,_,_,_,_,_,_,z⟩:=zq; exact z.elim
end
noncomputable def spN (K:PySem.W.Frag) (n:Nat) (f:FM):Sp:=λvs H Q _=>vs.length=n/\∃ w S ds,RS K w H S/\RDs K w H ds vs/\ax K E0 (RD K) w H (f ds S) Q
structure DefN (P:Program) (w:World) (K:PySem.W.Frag) (mg:Str->Option Value) (base:Heap) (x:Str) (k n:Nat) (f:FM):Prop where
 ex:∃ (fa:Addr) (fd:FuncData) (ps:List Str),mg x=some (.ref fa)/\PySem.W.keepIn K (.ref fa)=true/\Binds K fd ps []/\FnOk P w K mg base (CX1 P w) k fa fd ps (spN K n f)
structure DefR (P:Program) (w:World) (K:PySem.W.Frag) (mg:Str->Option Value) (base:Heap) (x:Str) (k n:Nat) (f:FM):Prop where
 ex:∃ (fa:Addr) (fd:FuncData) (ps:List Str),mg x=some (.ref fa)/\PySem.W.keepIn K (.ref fa)=true/\Binds K fd ps []/\FnOk P w K mg base (CX1 P w) k fa fd ps (spM K n f)
section
variable {X:Cx} {E:XK} {x:Str} {k n:Nat} {f:FM} {a:Expr} {es:List Expr} {ms:AM} {p pos:Pos}
theorem kg (D:DefR X.prog X.w X.K X.mg X.base x k n f) (hx:Passes (CX1 X.prog X.w) X E) (hr:Room k X.A) (hg:Gl X x) (ha:SA X E (a :: es) ms) (hn:lb ms n) (hdb:autoParam ((x == ("__debug__":Str))=false) Au.h3._auto_1)
  (he:autoParam (starEach (a :: es) X.env=(false,eval a X.env) :: starEach es X.env) Au.h0._auto_1) (hpl:autoParam ((backTo pos (starEach es X.env)).any (·.1)=false) Au.h0._auto_1):
  SE X E (.Call (.Name x p) (a :: es) [] pos) (aJ f ms):=by
 obtain ⟨fa,fd,ps,hm,hk,hb,F⟩:=D.ex
 exact yO F hr hg hm hk hb hx ha hn hdb he hpl
theorem bD (D:DefN X.prog X.w X.K X.mg X.base x k n f) (hr:Room k X.A) (hg:Gl X x) (ha:SA X E0 (a :: es) ms) (hn:lb ms n) (hdb:autoParam ((x == ("__debug__":Str))=false) Au.h3._auto_1)
  (he:autoParam (starEach (a :: es) X.env=(false,eval a X.env) :: starEach es X.env) Au.h0._auto_1) (hpl:autoParam ((backTo pos (starEach es X.env)).any (·.1)=false) Au.h0._auto_1):
  SE X E0 (.Call (.Name x p) (a :: es) [] pos) (aJ f ms):=by
 obtain ⟨fa,fd,ps,hm,hk,hb,F⟩:=D.ex
 refine ⟨aH (pC F hr hg hm hk hb (dvs:=[]) .nil eG ha.out hdb he hpl) λs H Q zq=>?_⟩
 obtain ⟨w,r,S,hr,hS,hp⟩:=zq
 refine ⟨w,r,S,hr,hS,?_⟩
 have hp':ax X.K E0 (RD X.K) w H ((ms r S).bind λxs S1=>f xs S1) Q:=hp
 cases e:ms r S with
 | bad=>rw [e] at hp'; exact hp'.elim
 | err y S'=>rw [e] at hp'; exact hp'
 | ok ds S'=>
  rw [e] at hp'
  intro w1 H1 vs x1 q1 s1
  rw [Z8]
  exact ⟨by rw [q1.length]; exact hn r S ds S' e,w1,S',ds,s1,q1,ax.ext (r:=f ds S') hp' x1 hS s1⟩
end
section
variable {P:Program} {w:World} {K:PySem.W.Frag} {mg:Str->Option Value} {base:Heap}
theorem tw {qual:Str} {N ps:List Str} {k:Nat} {m:SM} (F:Fun K x qual st f fd) (S:FnScope N ps (defScope st))
  (hbody:∀ (cdv:Value) (A:Around) (outer:List Env) (s:Shared) (H:Hp) (E:XK),Room k (A.deeper (envOfC qual (defScope st) s.heap.objs.size f cdv))->
   SSs (gL (CX1 P w) P w K mg base N qual (defScope st) f cdv A outer s H E) E (defBody st) m):FnOk P w K mg base (CX1 P w) (k + 1) f fd ps (spM K ps.length (fnM N.length m)):=by
 obtain ⟨oc,od,kV,doc,pm,an,cdv,ct,osl,rfl,lk,hcd⟩:=F.ex
 refine zX lk hcd S (λvs H Q E h=>h.1) λA outer s H vs Q E hr h=>?_
 obtain ⟨hl,u,T,ds,hT,q,p⟩:=h
 refine ⟨_,(hbody cdv A outer s H E hr).out,u,_,T,iW q,hT,?_⟩
 refine ax.bind (rel:=RF K) p hT λg S1 w1 H1 fv x1 q1 s1 p1=>?_
 cases g with
 | nx r=>obtain ⟨s',rfl,_⟩:=q1; have z:=ax.ret (Q:=Q) (rel:=RD K) (a:=D.non) (b:=V.non) p1 (by unfold RD; rfl) s1; exact z
 | rt d=>obtain ⟨v,rfl,q2⟩:=q1; have z:=ax.ret (Q:=Q) (rel:=RD K) (a:=d) (b:=v) p1 q2 s1; exact z
 | bk r=>exact p1.elim
 | ct r=>exact p1.elim
theorem mQ {qual:Str} {N ps:List Str} {k:Nat} {m:SM} (F:Fun K x qual st f fd) (S:FnScope N ps (defScope st))
  (hbody:∀ (cdv:Value) (A:Around) (outer:List Env) (s:Shared) (H:Hp) (E:XK),Room k (A.deeper (envOfC qual (defScope st) s.heap.objs.size f cdv))->
   SSs (gL (CX1 P w) P w K mg base N qual (defScope st) f cdv A outer s H E).nox E0 (defBody st) m):FnOk P w K mg base (CX1 P w) (k + 1) f fd ps (spN K ps.length (fnM N.length m)):=by
 obtain ⟨oc,od,kV,doc,pm,an,cdv,ct,osl,rfl,lk,hcd⟩:=F.ex
 refine zX lk hcd S (λvs H Q E h=>h.1) λA outer s H vs Q E hr h=>?_
 obtain ⟨hl,u,T,ds,hT,q,p⟩:=h
 refine ⟨_,(hbody cdv A outer s H E hr).out.nox,u,_,T,iW q,hT,?_⟩
 refine ax.bind (rel:=RF K) p hT λg S1 w1 H1 fv x1 q1 s1 p1=>?_
 cases g with
 | nx r=>obtain ⟨s',rfl,_⟩:=q1; have z:=ax.ret (Q:=Q) (rel:=RD K) (a:=D.non) (b:=V.non) p1 (by unfold RD; rfl) s1; exact z
 | rt d=>obtain ⟨v,rfl,q2⟩:=q1; have z:=ax.ret (Q:=Q) (rel:=RD K) (a:=d) (b:=v) p1 q2 s1; exact z
 | bk r=>exact p1.elim
 | ct r=>exact p1.elim
theorem fF {m:SM} (N ps:List Str) (k k1 n0 n1:Nat) (hk:k1=k + 1) (h0:n0=ps.length) (h1:n1=N.length) (F:Fun K x x st f fd) (hm:mg x=some (.ref f)) (hb:Binds K fd ps []) (S:FnScope N ps (defScope st))
  (hbody:∀ (cdv:Value) (A:Around) (outer:List Env) (s:Shared) (H:Hp) (E:XK),Room k (A.deeper (envOfC x (defScope st) s.heap.objs.size f cdv))->
   SSs (gL (CX1 P w) P w K mg base N x (defScope st) f cdv A outer s H E) E (defBody st) m):DefR P w K mg base x k1 n0 (fnM n1 m):=by
 subst hk h0 h1
 exact ⟨f,fd,ps,hm,F.kp,hb,tw F S hbody⟩
theorem cC {m:SM} (N ps:List Str) (k k1 n0 n1:Nat) (hk:k1=k + 1) (h0:n0=ps.length) (h1:n1=N.length) (F:Fun K x x st f fd) (hm:mg x=some (.ref f)) (hb:Binds K fd ps []) (S:FnScope N ps (defScope st))
  (hbody:∀ (cdv:Value) (A:Around) (outer:List Env) (s:Shared) (H:Hp) (E:XK),Room k (A.deeper (envOfC x (defScope st) s.heap.objs.size f cdv))->
   SSs (gL (CX1 P w) P w K mg base N x (defScope st) f cdv A outer s H E).nox E0 (defBody st) m):DefN P w K mg base x k1 n0 (fnM n1 m):=by
 subst hk h0 h1
 exact ⟨f,fd,ps,hm,F.kp,hb,mQ F S hbody⟩
theorem y9 {m:SM} (N ps:List Str) (k k1 n0 n1:Nat) (hk:k1=k + 1) (h0:n0=ps.length) (h1:n1=N.length) (F:Fun K x x st f fd) (S:FnScope N ps (defScope st))
  (hbody:∀ (cdv:Value) (A:Around) (outer:List Env) (s:Shared) (H:Hp) (E:XK),Room k (A.deeper (envOfC x (defScope st) s.heap.objs.size f cdv))->
   SSs (gL (CX1 P w) P w K mg base N x (defScope st) f cdv A outer s H E).nox E0 (defBody st) m):FnOk P w K mg base (CX1 P w) k1 f fd ps (spN K n0 (fnM n1 m)):=by
 subst hk h0 h1
 exact mQ F S hbody
end
end PD
namespace L2
open PySem PySem.Spec PyProof.Rows
section
variable {X:Cx} {pins:List (Addr × Obj)} {σ:St} {H:Hp} {s:Shared}
noncomputable abbrev Cx.with (X:Cx) (p:List (Addr × Obj)) (W:Value->Shared->Prop):Cx:={ X with pn:=p,xe:=W }
noncomputable abbrev Cx.suite (X:Cx) (ea:Addr) (ho:HO):Cx:={ X with A:=X.A.mark (some (.ref ea)),calm:=false,xe:=λ_ _=>False,H₀:=upd X.H₀ ea ho }
theorem Cx.Ok.with {p:List (Addr × Obj)} {W:Value->Shared->Prop} (ok:X.Ok):(X.with p W).Ok:=⟨ok.mod,ok.kind,ok.glob,ok.blt,ok.above,ok.inj,ok.has,ok.cab,ok.hd,ok.frames,ok.stk,ok.exf,ok.bs,ok.bsz,ok.noex,ok.exfs,ok.funs,ok.frf⟩
theorem Cx.Ok.suite {ea:Addr} {ho:HO} (ok:X.Ok) (n0:X.s₀.heap.get? ea=none):(X.suite ea ho).Ok:=⟨ok.mod,ok.kind,ok.glob,ok.blt,ok.above,ok.inj,ok.has,ok.cab,(λz=>by cases z),ok.frames,ok.stk,ok.exf,
 λb o e=>⟨(ok.bs b o e).1,by
  have q:=(ok.bs b o e).1
  show upd X.H₀ ea ho b=none
  rw [aA (λz=>by rw [z,n0] at q; cases q)]
  exact (ok.bs b o e).2⟩,ok.bsz,ok.noex,ok.exfs,ok.funs,λb hb=>by
  obtain ⟨_,o,q,_⟩:=ok.funs.mem hb
  show upd X.H₀ ea ho b=none
  rw [aA (λz=>by rw [z,n0] at q; cases q)]
  exact ok.frf b hb⟩
theorem Inv.with {W:Value->Shared->Prop} (I:Inv X pins σ H s):Inv (X.with (X.pn ++ pins) W) [] σ H s:=
 ⟨I.ok.with,I.os,I.bare,I.base,I.loc,I.cell,I.free,I.freeC,λp hp=>I.pin p (by simpa using hp),I.hok,I.len⟩
theorem Inv.unwith {W:Value->Shared->Prop} {pins':List (Addr × Obj)} (ok:X.Ok) (I:Inv (X.with (X.pn ++ pins) W) pins' σ H s):Inv X pins σ H s:=
 ⟨ok,I.os,I.bare,I.base,I.loc,I.cell,I.free,I.freeC,λp hp=>I.pin p (Q0 _ hp),I.hok,I.len⟩
theorem Inv.suite {ea:Addr} {o:Obj} {u:HO} (I:Inv X pins σ H s) (n0:X.s₀.heap.get? ea=none) (hH:H ea=some (.frz o u)):Inv (X.suite ea (.frz o u)) pins σ H s:=by
 have ne:∀ b q,X.s₀.heap.get? b=some q->b ≠ ea:=λb q e z=>by rw [z,n0] at e; cases e
 have old:∀ b q,X.s₀.heap.get? b=some q->upd X.H₀ ea (.frz o u) b=none->X.H₀ b=none:=λb q e n=>by rw [aA (ne b q e)] at n; exact n
 refine ⟨I.ok.suite n0,I.os,I.bare,⟨λb q e n=>I.base.keep b q e (old b q e n),λb q e n=>I.base.slot b q e (old b q e n),λb q e n=>I.base.free b q e (old b q e n),I.base.there,λb xs e=>?_,λb q v e=>?_,λb ps e=>?_⟩,I.loc,I.cell,I.free,I.freeC,I.pin,I.hok,I.len⟩
 ·by_cases z:b=ea
  ·rw [z] at e; have e:upd X.H₀ ea (.frz o u) ea=_:=e; rw [aL] at e; cases e
  ·have e:upd X.H₀ ea (.frz o u) b=_:=e; rw [aA z] at e; exact I.base.tups b xs e
 ·by_cases z:b=ea
  ·rw [z] at e ⊢; have e:upd X.H₀ ea (.frz o u) ea=_:=e; rw [aL] at e; rw [<- e]; exact hH
  ·have e:upd X.H₀ ea (.frz o u) b=_:=e; rw [aA z] at e; exact I.base.frzs b q v e
 ·by_cases z:b=ea
  ·rw [z] at e; have e:upd X.H₀ ea (.frz o u) ea=_:=e; rw [aL] at e; cases e
  ·have e:upd X.H₀ ea (.frz o u) b=_:=e; rw [aA z] at e; exact I.base.tbls b ps e
theorem Inv.unsuite {ea:Addr} {ho:HO} (ok:X.Ok) (n0:X.s₀.heap.get? ea=none) (n1:∀ v,X.H₀ ea=some v->(∀ xs,v ≠ .tup xs)/\(∀ q w,v ≠ .frz q w)/\∀ ps,v ≠ .tbl ps) (I:Inv (X.suite ea ho) pins σ H s):Inv X pins σ H s:=by
 have ne:∀ b q,X.s₀.heap.get? b=some q->b ≠ ea:=λb q e z=>by rw [z,n0] at e; cases e
 have new:∀ b q,X.s₀.heap.get? b=some q->X.H₀ b=none->upd X.H₀ ea ho b=none:=λb q e n=>by rw [aA (ne b q e)]; exact n
 refine ⟨ok,I.os,I.bare,⟨λb q e n=>I.base.keep b q e (new b q e n),λb q e n=>I.base.slot b q e (new b q e n),λb q e n=>I.base.free b q e (new b q e n),I.base.there,λb xs e=>I.base.tups b xs ?_,λb q v e=>I.base.frzs b q v ?_,λb ps e=>I.base.tbls b ps ?_⟩,I.loc,I.cell,I.free,I.freeC,I.pin,I.hok,I.len⟩
 ·show upd X.H₀ ea ho b=_
  rw [aA (λz=>by rw [z] at e; exact (n1 _ e).1 _ rfl)]; exact e
 ·show upd X.H₀ ea ho b=_
  rw [aA (λz=>by rw [z] at e; exact (n1 _ e).2.1 _ _ rfl)]; exact e
 ·show upd X.H₀ ea ho b=_
  rw [aA (λz=>by rw [z] at e; exact (n1 _ e).2.2 _ rfl)]; exact e
end
section
variable {X:Cx} {pins:List (Addr × Obj)} {σ:St} {H H':Hp} {s s':Shared} {B:Heap} {ea:Addr} {cls a0:Value} {h2:Heap}
theorem zc {l:List Env} {h:Heap} (fl:Heap.FlyingW B l ea cls a0 s'.heap) (old:∀ b o,h.get? b=some o->b ∉ frs l->∃ o',B.get? b=some o') (tr:∀ b u,H' b=some u->∃ o',B.get? b=some o'):h.get? ea=none/\H' ea=none:=by
 have hB:=fl.2.1
 constructor
 ·cases e:h.get? ea with
  | none=>rfl
  | some o=>
   exfalso
   by_cases hb:ea ∈ frs l
   ·obtain ⟨oe,vs,e1,_,d1,_⟩:=fl.first
    exact fE fl ea hb oe e1 vs d1
   ·obtain ⟨o',e'⟩:=old ea o e hb
    rw [hB] at e'; cases e'
 ·cases e:H' ea with
  | none=>rfl
  | some u=>
   obtain ⟨o',e'⟩:=tr ea u e
   rw [hB] at e'; cases e'
theorem qO {l:List Env} {P:Program} {w:World} {h h1:Heap} (fl:Heap.FlyingW B l ea cls a0 h1) (old:∀ b o,h.get? b=some o->b ∉ frs l->∃ o',B.get? b=some o') (tr:∀ b u,H' b=some u->∃ o',B.get? b=some o')
  (hn:h.get? ea=none) (hn':H' ea=none) (u:Un (frs l) [] H H' h h1) (k:HOk P w H' h1) {ob:Obj} (hob:h1.get? ea=some ob):
  Un (frs l) [] H (upd H' ea (.frz ob (.ext (PD.ExcAt ea cls)))) h h1/\HOk P w (upd H' ea (.frz ob (.ext (PD.ExcAt ea cls)))) h1:=by
 have ne:∀ b o,h.get? b=some o->b ≠ ea:=λb o e z=>by rw [z,hn] at e; cases e
 have ne':∀ b v,H' b=some v->b ≠ ea:=λb o e z=>by rw [z,hn'] at e; cases e
 refine ⟨⟨u.keep,u.slot,λb o e n x=>by rw [aA (ne b o e)]; exact u.free b o e n x,u.there,λb xs e=>?_,λb o v e=>?_,λb ps e=>?_⟩,λb v e=>?_⟩
 ·have:=u.tups b xs e; rw [aA (ne' _ _ this)]; exact this
 ·have:=u.frzs b o v e; rw [aA (ne' _ _ this)]; exact this
 ·obtain ⟨m,this⟩:=u.tbls b ps e; exact ⟨m,by rw [aA (ne' _ _ this)]; exact this⟩
 ·by_cases hb:b=ea
  ·subst hb
   rw [aL] at e
   cases e
   obtain ⟨o,e1,c1⟩:=fl.there
   exact ⟨hob,⟨o,e1,c1⟩,⟨o,e1⟩,λg1 g2 ⟨o1,z1,z2⟩ kk=>⟨o1,kk o1 z1,z2⟩⟩
  ·rw [aA hb] at e
   exact (k b v e).stay (λ_ _ _ q=>q) (λc q=>by rw [aA (ne' c _ q)]; exact q) λc xs q=>by rw [aA (ne' c _ q)]; exact q
end
variable {k:Nat} {A:Around}
structure RoomM (k:Nat) (A:Around):Prop where
 dp:A.depth + 3 * k + 5 < recursionLimit
 un:A.units + 16 * k + 200 < cLine
 gd:A.guards=some []
theorem Room.m (r:Room k A):RoomM k A:=⟨r.dp,r.un,r.gd⟩
theorem RoomM.mono {j:Nat} (r:RoomM k A) (h:j<=k):RoomM j A:=⟨by have:=r.dp; omega,by have:=r.un; omega,r.gd⟩
theorem RoomM.mark (r:RoomM k A) (e:Option Value):RoomM k (A.mark e):=⟨r.dp,r.un,r.gd⟩
theorem RoomM.deeper (r:RoomM (k + 1) A) (env:Env):RoomM k (A.deeper env):=
 ⟨by have:=r.dp; show A.depth + 1 + 3 * k + 5 < _; omega,by have:=r.un; show A.units + 3 + 16 * k + 200 < _; omega,r.gd⟩
def QA (A:Around) (H:Hp):Prop:=A.handled=none \/ ∃ a o u,A.handled=some (.ref a)/\H a=some (.frz o u)/\ZO o
theorem Inv.qa {X:Cx} {pins:List (Addr × Obj)} {σ:List (Option V)} {H:Hp} {s:Shared} (I:Inv X pins σ H s) (h:QtH X):QA X.A H:=h.imp id λ⟨a,o,u,e,q,z⟩=>⟨a,o,u,e,I.base.frzs a o u q,z⟩
theorem Cd.qt {X:Cx} {qb:Bool} (h:Cd qb X) (n:X.calm=false):QtH X:=h.elim (λz=>by rw [n] at z; cases z) λz=>z.2
structure FnOkM (P:Program) (w:World) (K:PySem.W.Frag) (mg:Str->Option Value) (base:Heap) (k:Nat) (f:Addr) (fd:FuncData) (ps:List Str) (sp:Sp):Prop where
 len:∀ vs H Q E,sp vs H Q E->vs.length=ps.length
 run:∀ (A:Around) (outer:List Env) (s:Shared) (H:Hp) (args:Args) (us:List Value) (vs:List V) (Q:VK),RoomM k A->QA A H->Env0 P w K mg base A outer s H->BindsTo s fd args (ps.zip us)->Vals vs us->sp vs H Q E0->
  codeAny (model P w) A (.call (.ref f) args) (CR CX0 outer P w H s Q E0) s
noncomputable abbrev cxM (P:Program) (w:World) (K:PySem.W.Frag) (mg:Str->Option Value) (base:Heap) (N:List Str) (qual:Str) (scope:Scope) (f:Addr) (cd:Value) (A:Around) (outer:List Env) (s:Shared) (H:Hp):Cx:=
 { gL CX0 P w K mg base N qual scope f cd A outer s H E0 with calm:=false,xe:=λ_ _=>False }
section
variable {P:Program} {w:World} {K:PySem.W.Frag} {mg:Str->Option Value} {base:Heap}
theorem oV {N ps:List Str} {qual:Str} {scope:Scope} {f:Addr} {cd:Value} {outer:List Env} {s s1:Shared} {H:Hp} {us:List Value} {vs:List V} (S:FnScope N ps scope) (e0:Env0 P w K mg base A outer s H) (hl:vs.length=ps.length) (r:Vals vs us)
  (x:InCallC s s.heap.objs.size (bindL (envOfC qual scope s.heap.objs.size f cd).kindOf (ps.zip us) λ_=>none) (cellsFrom (s.heap.objs.size + 1) scope.names []) (bindC (envOfC qual scope s.heap.objs.size f cd).kindOf (ps.zip us) λ_=>none) s1):
  Inv (cxM P w K mg base N qual scope f cd A outer s H) [] (start N vs) H s1:=by
 have e1:Env0 P w K mg base { A with handled:=none } outer s H:=⟨e0.frames,e0.mod,e0.bs,e0.bsz,e0.funs,e0.frf,e0.hok,e0.bare⟩
 have I:=lG (CX:=CX0) (E:=E0) (A:={ A with handled:=none }) S rfl e1 hl r x
 exact ⟨⟨I.ok.mod,I.ok.kind,I.ok.glob,I.ok.blt,I.ok.above,I.ok.inj,I.ok.has,I.ok.cab,(λz=>by cases z),I.ok.frames,I.ok.stk,I.ok.exf,I.ok.bs,I.ok.bsz,I.ok.noex,I.ok.exfs,I.ok.funs,I.ok.frf⟩,I.os,I.bare,I.base,I.loc,I.cell,I.free,I.freeC,I.pin,I.hok,I.len⟩
theorem Ei {k:Nat} {f:Addr} {name qual:Str} {params:Arguments} {body:List Stmt} {scope:Scope} {dV kV doc pm cdv ct oc:Value} {an od:Option Addr}
  {osl:Array (Option Value)} {N ps:List Str} {sp:Sp} (lk:K.lookup f=some ⟨oc,od,.func (PySem.W.fnOf name qual params body scope dV kV doc pm an cdv ct),osl⟩) (hcd:PySem.W.codeIn K cdv qual=true) (S:FnScope N ps scope)
  (len:∀ vs H Q E,sp vs H Q E->vs.length=ps.length)
  (hbody:∀ (A:Around) (outer:List Env) (s:Shared) (H:Hp) (vs:List V) (Q:VK),RoomM k (A.deeper (envOfC qual scope s.heap.objs.size f cdv))->QtH (cxM P w K mg base N qual scope f cdv A outer s H)->sp vs H Q E0->
   ∃ t,PSs (cxM P w K mg base N qual scope f cdv A outer s H) body t/\t { nx:=λ_ H'=>Q .non H',rt:=Q } (start N vs) H):
  FnOkM P w K mg base (k + 1) f (PySem.W.fnOf name qual params body scope dV kV doc pm an cdv ct) ps sp:=by
 refine ⟨len,λA outer s H args us vs Q hr hqa e0 hb r hsp=>?_⟩
 have hl:=len _ _ _ _ hsp
 have KX:K.In s.heap:=e0.mod.kin.keeps λb o e=>(e0.bs b o e).1
 have lim:s.heap.NoLimit:=e0.mod.nolimit.keeps λb o e=>(e0.bs b o e).1
 have hkind:∀ y ∈ ps.zip us,scope.names.lookup y.1=some .local \/ (scope.names.lookup y.1=some .cell/\((cellsFrom (s.heap.objs.size + 1) scope.names []).lookup y.1).isSome=true):=λ⟨n,v⟩ hy=>by
  rcases S.par n (Wi hy).1 with q | q
  ·exact .inl q
  ·exact .inr ⟨q,Wa _ _ _ (.inl q)⟩
 refine codeAny_call_function (by have:=hr.dp; omega) (KX _ _ lk) rfl S.co S.gen rfl (PySem.W.codeRec_of KX hcd) (hb _ _ _ _ ?_)
 refine wpAny_newFunctionEnv_cells S.kind hkind λenv he s1 x=>?_
 subst he
 refine ⟨lim.keeps x.toInCall.keep,codeAny_func ?_⟩
 obtain ⟨t,ht,hq⟩:=hbody A outer s H vs Q (hr.deeper _) hqa hsp
 have I:Inv (cxM P w K mg base N qual scope f cdv A outer s H) [] (start N vs) H s1:=oV S e0 hl r x
 refine Za (ht [] s1 (start N vs) H _ I hq) (λfl s' hs=>?_) λe s' hs=>False.elim hs
 have fin:∀ {σ':St} {H':Hp} {v:V} {u:Value},Inv (cxM P w K mg base N qual scope f cdv A outer s H) [] σ' H' s'->RelV v u->Q v H'->CE outer P w H s Q u s':=
  λ{σ' H' v u} J rv q=>⟨v,H',J.os,J.bare,J.base,J.hok,rv,q⟩
 cases fl with
 | ret u=>
  obtain ⟨v,σ',H',J,rv,q⟩:=hs
  exact fin J rv q
 | next=>
  obtain ⟨σ',H',J,q⟩:=hs
  exact fin (v:=V.non) (u:=Value.none) J rfl q
 | brk=>
  obtain ⟨_,_,_,q⟩:=hs
  exact False.elim q
 | cont=>
  obtain ⟨_,_,_,q⟩:=hs
  exact False.elim q
end
section
variable {X:Cx} {k:Nat} {f:Addr} {fd:FuncData} {ps:List Str} {sp:Sp} {x:Str} {p pos:Pos} {e:Expr} {es:List Expr} {t:TA}
theorem tD (F:FnOkM X.prog X.w X.K X.mg X.base k f fd ps sp) (hr:RoomM k X.A) (hqt:QtH X) (hg:Gl X x) (hm:X.mg x=some (.ref f)) (hk:PySem.W.keepIn X.K (.ref f)=true) (hb:Binds X.K fd ps [])
  (ha:PA X (e :: es) t) (hdb:autoParam ((x == ("__debug__":Str))=false) Au.h2._auto_1) (he:autoParam (starEach (e :: es) X.env=(false,eval e X.env) :: starEach es X.env) Au.h1._auto_1) (hpl:autoParam ((backTo pos (starEach es X.env)).any (·.1)=false) Au.h1._auto_1):
  PE X (.Call (.Name x p) (e :: es) [] pos) (zV sp [] E0 t):=by
 intro pins s σ H Q I h
 refine Qj (gE I hg hm ?_ hdb)
 refine W2 (h₀:=X.base) I.ok.mod.kin hk (thn (ha pos pins s σ H _ I h) λus s1 zq=>ex5 zq λvs H1 I1 r q=>⟨I1.kIn,?_⟩) he hpl
 have q:sp vs H1 Q E0:=by
  have z:sp (vs ++ []) H1 Q E0:=q
  rwa [Z8] at z
 show wpAny _ _ (call (Value.ref f) us) _ _ _
 have hl:us.length=ps.length:=by rw [<- r.length]; exact F.len _ _ _ _ q
 have hb':=hb s1 us I1.kIn (by rw [Z8]; exact hl)
 rw [Z8] at hb'
 refine V8 (Wg (F.run X.A X.stack s1 H1 ⟨us,[]⟩ us vs Q hr (I1.qa hqt) I1.env0 hb' r q) λrr s' hq=>?_)
 cases rr with
 | error e=>exact False.elim hq
 | ok fl=>
  cases fl with
  | ret u=>exact I1.after hq
  | next=>exact False.elim hq
  | brk=>exact False.elim hq
  | cont=>exact False.elim hq
end
end L2
namespace PD
open PySem PySem.Spec PyProof.Rows L2
structure DefM (P:Program) (w:World) (K:PySem.W.Frag) (mg:Str->Option Value) (base:Heap) (x:Str) (k n:Nat) (f:FM):Prop where
 ex:∃ (fa:Addr) (fd:FuncData) (ps:List Str),mg x=some (.ref fa)/\PySem.W.keepIn K (.ref fa)=true/\Binds K fd ps []/\FnOkM P w K mg base k fa fd ps (spN K n f)
section
variable {X:Cx} {x:Str} {k n:Nat} {f:FM} {a:Expr} {es:List Expr} {ms:AM} {p pos:Pos}
theorem tE (D:DefM X.prog X.w X.K X.mg X.base x k n f) (hr:RoomM k X.A) (hqt:QtH X) (hg:Gl X x) (ha:SA X E0 (a :: es) ms) (hn:lb ms n) (hdb:autoParam ((x == ("__debug__":Str))=false) Au.h3._auto_1)
  (he:autoParam (starEach (a :: es) X.env=(false,eval a X.env) :: starEach es X.env) Au.h0._auto_1) (hpl:autoParam ((backTo pos (starEach es X.env)).any (·.1)=false) Au.h0._auto_1):
  SE X E0 (.Call (.Name x p) (a :: es) [] pos) (aJ f ms):=by
 obtain ⟨fa,fd,ps,hm,hk,hb,F⟩:=D.ex
 refine ⟨aH (tD F hr hqt hg hm hk hb ha.out hdb he hpl) λs H Q zq=>?_⟩
 obtain ⟨w,r,S,hr,hS,hp⟩:=zq
 refine ⟨w,r,S,hr,hS,?_⟩
 have hp':ax X.K E0 (RD X.K) w H ((ms r S).bind λxs S1=>f xs S1) Q:=hp
 cases e:ms r S with
 | bad=>rw [e] at hp'; exact hp'.elim
 | err y S'=>rw [e] at hp'; exact hp'
 | ok ds S'=>
  rw [e] at hp'
  intro w1 H1 vs x1 q1 s1
  rw [Z8]
  exact ⟨by rw [q1.length]; exact hn r S ds S' e,w1,S',ds,s1,q1,ax.ext (r:=f ds S') hp' x1 hS s1⟩
end
section
variable {P:Program} {w:World} {K:PySem.W.Frag} {mg:Str->Option Value} {base:Heap}
theorem pS {x:Str} {st:Stmt} {f:Addr} {fd:FuncData} {m:SM} (N ps:List Str) (k k1 n0 n1:Nat) (hk:k1=k + 1) (h0:n0=ps.length) (h1:n1=N.length) (F:Fun K x x st f fd) (hm:mg x=some (.ref f)) (hb:Binds K fd ps []) (S:FnScope N ps (defScope st))
  (hbody:∀ (cdv:Value) (A:Around) (outer:List Env) (s:Shared) (H:Hp),RoomM k (A.deeper (envOfC x (defScope st) s.heap.objs.size f cdv))->QtH (cxM P w K mg base N x (defScope st) f cdv A outer s H)->
   SSs (cxM P w K mg base N x (defScope st) f cdv A outer s H) E0 (defBody st) m):DefM P w K mg base x k1 n0 (fnM n1 m):=by
 subst hk h0 h1
 refine ⟨f,fd,ps,hm,F.kp,hb,?_⟩
 obtain ⟨oc,od,kV,doc,pm,an,cdv,ct,osl,rfl,lk,hcd⟩:=F.ex
 refine Ei lk hcd S (λvs H Q E h=>h.1) λA outer s H vs Q hr hqt h=>?_
 obtain ⟨hl,u,T,ds,hT,q,p⟩:=h
 refine ⟨_,(hbody cdv A outer s H hr hqt).out,u,_,T,iW q,hT,?_⟩
 refine ax.bind (rel:=RF K) p hT λg S1 w1 H1 fv x1 q1 s1 p1=>?_
 cases g with
 | nx r=>obtain ⟨s',rfl,_⟩:=q1; have z:=ax.ret (Q:=Q) (rel:=RD K) (a:=D.non) (b:=V.non) p1 (by unfold RD; rfl) s1; exact z
 | rt d=>obtain ⟨v,rfl,q2⟩:=q1; have z:=ax.ret (Q:=Q) (rel:=RD K) (a:=d) (b:=v) p1 q2 s1; exact z
 | bk r=>exact p1.elim
 | ct r=>exact p1.elim
end
end PD
namespace L2
open PySem PySem.Spec PyProof.Rows
theorem qP:builtinKind "BaseException.__getattribute__" = some .slot:=by decide +kernel
theorem oW:splitId "BaseException.__getattribute__" = some ("BaseException","__getattribute__"):=by decide +kernel
section
variable {prog:Program} {w:World} {A:Around} {E:Value->Shared->Prop} {s:Shared} {K:PySem.W.Frag} {ea C:Addr} {ox:Obj} {od:Option Obj}
theorem qQ {M:Model} {v:Value} {Q:Unit->Shared->Prop} (LI:PySem.W.Looks M s.heap (isInstance (.ref ea) (.type "BaseException")) true) (h:Q () s):wpAny M A (checkBuiltinCall "BaseException.__getattribute__" ⟨[.ref ea,v],[]⟩) Q E s:=by
 obtain ⟨hh,g,d,t,os⟩:=s
 have ha:=PySem.F.args_bexc_ga (.ref ea) v
 simp only [checkBuiltinCall,qP,oW]
 refine Y6 (LI.at ?_)
 simp only [Bool.not_true,Zk,Qa]
 cases hsig:Manifest.signature? "BaseException.__getattribute__" with
 | none=>exact Ye h
 | some sig=>
  simp only [argsOk,hsig] at ha
  have h2:Bind.checkArgs "BaseException.__getattribute__" sig ⟨[.ref ea,v],[]⟩=pure ():=ha
  show wpAny M A (Bind.checkArgs "BaseException.__getattribute__" sig ⟨[.ref ea,v],[]⟩) Q E _
  rw [h2]; exact Ye h
theorem zd {tp:Value} {R:Result->Shared->Prop} (LT:PySem.W.Looks (model prog w) s.heap (typeOf (.ref ea)) (.ref C)) (LO:PySem.W.Looks (model prog w) s.heap (isSubtype (.ref C) (.type "object")) true) (hR:R (.ok (.ret (.ref C))) s):
  codeAny (model prog w) A (.call (.builtin "getset_descriptor.__get__") ⟨[.builtin "object.__class__",.ref ea,tp],[]⟩) R s:=by
 obtain ⟨hh,g,dr,t,os⟩:=s
 have LI:PySem.W.Looks (model prog w) hh (isInstance (.ref ea) (.type "object")) true:=LT.andThen LO
 have ty:(⟨hh,g,dr,t,os⟩:Shared).TypeIs (.builtin "object.__class__") "getset_descriptor":=PySem.F.typeOf_object_class
 refine codeAny_call_builtin PySem.F.slot_gs_get.plain PySem.F.entry_gs_get (PySem.F.slot_gs_get.check _ _ _ _ _ _ _ _ ty (PySem.F.args_gs_get _ _ _) ?_)
 repeat (any_goals (first | assumption | (with_reducible refine PySem.W.Looks.at (by assumption) ?_) | wp_step))
 have own:(".".intercalate ("object.__class__".cutAt '.').dropLast) = "object":=by
  have e0:"object.__class__".cutAt '.'=["object","__class__"]:=by first | rfl | decide +kernel
  rw [e0]; decide +kernel
 rw [own]
 refine LO.at ?_
 refine Ye ?_
 refine Ye ⟨Code.quiet_builtin _ (by decide +kernel),codeAny_builtin PySem.F.entry_object_class ?_⟩
 repeat (any_goals (first | assumption | (with_reducible refine PySem.W.Looks.at (by assumption) ?_) | wp_step))
theorem qR {Q:Option Value->Shared->Prop} (X:K.In s.heap) (hx:s.heap.get? ea=some ox) (hc:ox.cls=.ref C) (hga:PySem.W.findIn K (.ref C) "__getattribute__" = some (some (.builtin "BaseException.__getattribute__")))
  (hgh:PySem.W.findIn K (.ref C) "__getattr__" = some none) (hf:PySem.W.findIn K (.ref C) "__class__" = some (some (.builtin "object.__class__")))
  (hn:PySem.W.specialIn K (.builtin "object.__class__") "__get__" = some (some (.builtin "getset_descriptor.__get__"))) (htk:PySem.W.takesIn K (.builtin "object.__class__")=some true)
  (hb:PySem.W.mroIn K C (.type "BaseException")=some true) (hm:PySem.W.mroIn K C (.type "object")=some true) (h:Q (some (.ref C)) { s with toks:=s.toks + 1 }):wpAny (model prog w) A (getAttr? (.ref ea) "__class__") Q E s:=by
 obtain ⟨hh,g,d,t,os⟩:=s
 have L0:PySem.W.Looks (model prog w) hh (typeOf (.ref ea)) (.ref C):=hc ▸ (Vc hx).andThen .now
 have L1:=Qu (M:=model prog w) X hga
 have L2:=Qu (M:=model prog w) X hgh
 have LF:PySem.W.Looks (model prog w) hh (Builtin.ObjectAttr.find (.ref ea) (.ref C) "__class__") (.bind (.builtin "getset_descriptor.__get__") (.builtin "object.__class__")):=by
  refine (Qu X hf).andThen ((PySem.W.looks_specialIn X hn).andThen (PySem.W.Looks.andThen (a:=some (.builtin "getset_descriptor.__get__",.builtin "object.__class__")) ?_ ?_))
  ·exact (PySem.W.looks_takesIn X htk).andThen .now
  ·exact PySem.W.Looks.tag .now
 have LB:=PySem.W.looks_mroIn (M:=model prog w) X hb
 have LO:=PySem.W.looks_mroIn (M:=model prog w) X hm
 have LI:PySem.W.Looks (model prog w) hh (isInstance (.ref ea) (.type "BaseException")) true:=L0.andThen LB
 have f3:=PySem.F.excAttr_ValueError.ga.bind (.ref ea)
 unfold getAttr? getAttrBy? getAttrBy
 refine Y6 (wpAny_mkText (Y6 ?_))
 refine wpAny_attempt (Q4 (Y6 (L0.at (Y6 (L1.at ?_)))))
 show wpAny _ _ (getAttrByItsOwn _ _ _ _ _ _) _ _ _
 unfold getAttrByItsOwn hookBefore
 refine Y6 ?_
 show wpAny _ _ (typeLookup (.ref C) "__getattr__") _ _ _
 refine L2.at ?_
 refine Y6 (wpAny_attempt (Q4 ?_))
 show wpAny _ _ (boundAndCalled _ _ _) _ _ _
 unfold boundAndCalled
 rw [f3]
 refine Y6 (Ye ?_)
 show wpAny _ _ (call (.builtin "BaseException.__getattribute__") [.ref ea,.str "__class__" t]) _ _ _
 refine V8 (codeAny_call_builtin PySem.F.excAttr_ValueError.ga.plain PySem.F.entry_bexc_ga (qQ LI ?_))
 unfold Builtin.«object.__getattribute__»
 refine Y6 (Ye (Y6 (Ye (Y6 (L0.at (Y6 (LF.at ?_)))))))
 show wpAny _ _ (holding [.builtin "object.__class__"] (call (.builtin "getset_descriptor.__get__") [.builtin "object.__class__",.ref ea,.ref C]) >>= ret) _ _ _
 refine Y6 (Q4 (V8 (zd L0 LO ?_)))
 exact Ye (Ye (Ye h))
structure ExK (K:PySem.W.Frag) (C:Addr):Prop where
 ga:PySem.W.findIn K (.ref C) "__getattribute__" = some (some (.builtin "BaseException.__getattribute__"))
 gh:PySem.W.findIn K (.ref C) "__getattr__" = some none
 cl:PySem.W.findIn K (.ref C) "__class__" = some (some (.builtin "object.__class__"))
 bs:PySem.W.mroIn K C (.type "BaseException")=some true
 ob:PySem.W.mroIn K C (.type "object")=some true
 is:(PySem.W.clsIn K C).isSome=true
theorem ExK.lk (e:ExK K C):∃ a b cd d,K.lookup C=some ⟨a,b,.cls cd,d⟩:=by
 have h:=e.is
 unfold PySem.W.clsIn at h
 split at h
 next a b cd d q=>exact ⟨_,_,_,_,q⟩
 next=>cases h
theorem tF (e:ExK K C) (hn:PySem.W.specialIn K (.builtin "object.__class__") "__get__" = some (some (.builtin "getset_descriptor.__get__"))) (htk:PySem.W.takesIn K (.builtin "object.__class__")=some true):
  PySem.W.KitX K (.ref ea) (.ref C) (PD.ExcAt ea (.ref C)) where
 ty:=λM h X ⟨o,e1,e2⟩=>e2 ▸ (Vc e1).andThen .now
 it:=λM h X _=>by
  obtain ⟨_,_,_,_,q⟩:=e.lk
  intro A' Q' E' s' k z
  unfold isType loadHead
  exact Y6 (wpAny_loadPart (k _ _ (X _ _ q)) (Ye z))
 ne:=λh tp dd its n sl X ht=>by
  obtain ⟨_,_,_,_,q⟩:=e.lk
  cases hb:(Value.ref C == Value.ref tp) with
  | false=>rfl
  | true=>
   have:C=tp:=Value.ref.inj (Qi.mp hb)
   subst this
   have z:=(X _ _ q).symm.trans ht
   cases z
 ca:=λX ⟨o,e1,e2⟩ k=>qR X e1 e2 e.ga e.gh e.cl hn htk e.bs e.ob k
end
end L2
namespace PD
open PySem PySem.Spec PyProof.Rows L2
variable {H:Hp}
structure Cls (K:PySem.W.Frag) (cs ks:List Str) (isa:Str->Str->Bool):Prop where
 gt:PySem.W.specialIn K (.builtin "object.__class__") "__get__" = some (some (.builtin "getset_descriptor.__get__"))
 tk:PySem.W.takesIn K (.builtin "object.__class__")=some true
 ex:∀ c ∈ cs,∃ C,PySem.W.nsIn K mainGlobals c=some (some (.ref C))/\ExK K C/\PySem.W.kitOne K (.ref C) (.type "ValueError")=some true
 isa:∀ c ∈ cs,∀ k ∈ ks,∃ C D,PySem.W.nsIn K mainGlobals c=some (some C)/\PySem.W.nsIn K mainGlobals k=some (some D)/\PySem.W.kitOne K C D=some (isa c k)
noncomputable def iZ (cs ks:List Str) (isa:Str->Str->Bool):Sto->List D->Option D
 | S,[.exc c,.cls k]=>if c ∈ cs/\k ∈ ks then some (.bl (isa c k)) else none
 | S,[.exc c,.ty T]=>if c ∈ cs/\T = "ValueError" then some (.bl true) else none
 | S,xs=>gj S xs
section
variable {X:Cx} {E:XK} {cs ks:List Str} {isa:Str->Str->Bool}
theorem pT {pins:List (Addr × Obj)} {σ:L2.St} {s:Shared} {w:Wd} {S:Sto} {c:Str} {v:V} {u c2:Value} {b:Bool} {Q:VK} (T:Cls X.K cs ks isa) (I:Inv X pins σ H s) (hc:c ∈ cs) (q:RD X.K w H (.exc c) v) (rv:RelV v u) (hS:RS X.K w H S)
  (hk:∀ C,PySem.W.nsIn X.K mainGlobals c=some (some C)->PySem.W.kitOne X.K C c2=some b) (p:ax X.K E (RD X.K) w H (.ok (.bl b) S) Q):wpAny (model X.prog X.w) X.A (call (.builtin "isinstance") [u,c2]) (EP X pins σ Q) X.xe s:=by
 unfold RD at q
 obtain ⟨a,C,o,rfl,hns,hat⟩:=q
 obtain ⟨Ca,hns',hE,_⟩:=T.ex c hc
 rw [hns] at hns'
 cases hns'
 cases (show u=Value.ref a from rv)
 have hx:=(I.hok a _ hat.1).2.1
 exact Z7 (tF hE T.gt T.tk) I.kIn hx (hk _ hns) (λz=>nomatch z) λtk=>⟨.bl b,H,I.tok tk,rfl,p.ret RD.mkB hS⟩
theorem eN (T:Cls X.K cs ks isa):cF X (.builtin "isinstance") (xC X.K E (iZ cs ks isa)):=by
 rintro pins s σ H xs us Q I r ⟨w,S,ds,hS,qs,p⟩
 obtain ⟨z,hz,p'⟩:=p.of
 unfold iZ at hz
 split at hz
 ·rename_i c k
  split at hz
  ·rename_i h
   cases hz
   obtain ⟨v,u,rfl,q,q'⟩:=qs.two_inv
   obtain ⟨v1,v2,rfl,rv,rt⟩:=vals2 r
   unfold RD at q'
   obtain ⟨C2,hn2,rfl⟩:=q'
   cases (show v2=Value.ref C2 from rt)
   refine pT T I h.1 q rv hS (λC hC=>?_) p'
   obtain ⟨C',D',e1,e2,e3⟩:=T.isa c h.1 k h.2
   rw [hC] at e1
   rw [hn2] at e2
   cases e1
   cases e2
   exact e3
  ·cases hz
 ·rename_i c t
  split at hz
  ·rename_i h
   cases hz
   obtain ⟨v,u,rfl,q,q'⟩:=qs.two_inv
   obtain ⟨v1,v2,rfl,rv,rt⟩:=vals2 r
   unfold RD at q'
   subst q'
   cases (show v2=Value.type t from rt)
   refine pT T I h.1 q rv hS (λC hC=>?_) p'
   obtain ⟨Ca,hn,_,hv⟩:=T.ex c h.1
   rw [hn] at hC
   cases hC
   rw [h.2]
   exact hv
  ·cases hz
 ·exact hJ pins s σ H xs us Q I r ⟨w,S,ds,hS,qs,by rw [hz]; exact p'⟩
def ClsAt (K:PySem.W.Frag) (mg:Str->Option Value) (x:Str):Prop:=∃ C,mg x=some (.ref C)/\PySem.W.nsIn K mainGlobals x=some (some (.ref C))
theorem fb {x:Str} {pos:Pos} (h:ClsAt X.K X.mg x) (hg:Gl X x) (hd:autoParam ((x == ("__debug__":Str))=false) Au.h3._auto_1):SE X E (.Name x pos) (eC (.cls x)):=by
 obtain ⟨C,hm,hn⟩:=h
 exact mz (gF hg hm (v:=.ref C) rfl hd) λ_ _=>by unfold RD; exact ⟨C,hn,rfl⟩
def TryAt (K:PySem.W.Frag) (mg:Str->Option Value) (x:Str) (cs:List Str):Prop:=∃ Cp,mg x=some Cp/\∀ y ∈ cs,∃ c,PySem.W.nsIn K mainGlobals y=some (some c)/\PySem.W.exmOne K c Cp=some true
end
section
variable {X:Cx} {E:XK}
noncomputable def intsOf:List D->Option (List Int)
 | []=>some []
 | .int b :: r=>(intsOf r).map (b :: ·)
 | _ :: _=>none
noncomputable def Ej:Sto->List D->Option D
 | S,[d]=>match gf S d with
  | some a=>(intsOf a).map λns=>.int ns.sum
  | none=>none
 | _,_=>none
theorem nQ:∀ {ds:List D} {ns:List Int},intsOf ds=some ns->ns.length=ds.length
 | [],_,h=>by unfold intsOf at h; cases h; rfl
 | d :: ds,ns,h=>by
  cases d with
  | int i=>
   unfold intsOf at h
   cases e:intsOf ds with
   | none=>rw [e] at h; cases h
   | some cs=>rw [e] at h; cases h; simp [nQ e]
  | _=>unfold intsOf at h; cases h
theorem mR {K:PySem.W.Frag} {w:Wd} :∀ {ds:List D} {vs:List V} {us:List Value} {ns:List Int},RDs K w H ds vs->Vals vs us->intsOf ds=some ns->∀ (i:Nat) (v:Value),us[i]?=some v->∃ t,v=.int ((ns[i]?).getD 0) t
 | [],_,_,_,q,r,h,i,v,e=>by
  rw [q.nil_inv] at r
  cases r
  simp at e
 | d :: ds,_,_,ns,q,r,h,i,v,e=>by
  obtain ⟨y,vs,rfl,p,t⟩:=q.cons_inv
  cases d with
  | int b=>
   unfold intsOf at h
   cases e':intsOf ds with
   | none=>rw [e'] at h; cases h
   | some cs=>
    rw [e'] at h; cases h
    cases p.int
    cases r with
    | cons r1 r2=>
     cases i with
     | zero=>
      obtain ⟨t,rfl⟩:=r1
      simp at e
      exact ⟨t,by simp [e]⟩
     | succ i=>
      have z:=mR t r2 e' i v (by simpa using e)
      simpa using z
  | _=>unfold intsOf at h; cases h
theorem jy (ns:List Int):∀ k,k<=ns.length->preSum (λi=>(ns[i]?).getD 0) k=(ns.take k).sum
 | 0,_=>by simp [preSum]
 | k + 1,h=>by
  have hk:k < ns.length:=h
  show preSum _ k + (ns[k]?).getD 0=_
  rw [jy ns k (Va hk),List.take_succ,List.sum_append,Yw hk]
  simp
theorem Ek (hc:X.calm=true):cF X (.builtin "sum") (xC X.K E Ej):=by
 rintro pins s σ H xs us Q I r ⟨w,S,ds,hS,qs,p⟩
 obtain ⟨z,hz,p'⟩:=p.of
 clear p
 unfold Ej at hz
 split at hz
 ·rename_i d
  cases ea:gf S d with
  | none=>rw [ea] at hz; cases hz
  | some a=>
   rw [ea] at hz
   simp only at hz
   cases e:intsOf a with
   | none=>rw [e] at hz; cases hz
   | some ns=>
    rw [e] at hz; cases hz
    obtain ⟨v,rfl,q⟩:=qs.one_inv
    obtain ⟨pa,vs,rfl,sq,ra⟩:=ka hS q ea
    obtain ⟨u,rfl,ru⟩:=vals1 r
    cases ru
    have hlen:=nQ e
    have fin:∀ n,n=ns.length->preSum (λi=>(ns[i]?).getD 0) n=ns.sum:=λn hn=>by rw [hn,jy ns _ (Yd _),List.take_length]
    rcases sq with sq | sq
    ·obtain ⟨its,r1,⟨o,n,ho,hcl,hdn,hd⟩,_⟩:=I.list sq
     have hlt:pa < s.heap.objs.size:=Yh ho
     have hl:s.heap.IsList pa its.toArray:=⟨o,ho,hcl,n,hd⟩
     refine call_sum_walkG (V4 hl ?_)
     refine ⟨s.heap.objs.size,[s.heap.objs.size,pa],[s.heap.objs.size],its.toArray.size,_,_,λi=>(ns[i]?).getD 0,rfl,Walks.list (A:=X.A.in1) (I.ok.hd hc) _ pa (Yr hlt) its.toArray,
      ⟨⟨_,Yp _ rfl,rfl,rfl⟩,hl.push _⟩,λb hb=>?_,λi v hP=>mR ra r1 e i v (by simpa using hP),λh' tk t' hk=>?_⟩
     ·simp only [Yn,Zd,Ql] at hb
      rw [Zt]
      rcases hb with rfl | rfl
      ·exact Wc _
      ·exact W9 hlt
     ·rw [fin _ (by rw [hlen,<- ra.length,r1.length]; simp)]
      exact ⟨.int _,H,I.kept (LSm.kept_iter hk),⟨t',rfl⟩,p'.ret RD.mkI hS⟩
    ·obtain ⟨its,r1,⟨o,ho,hcl,n,hd⟩,_⟩:=I.tuple sq
     have hlt:pa < s.heap.objs.size:=Yh ho
     have hl:s.heap.IsTuple pa its.toArray:=⟨o,ho,hcl,n,hd⟩
     refine call_sum_walkG (wpAny_pyIter_tuple hl ?_)
     refine ⟨s.heap.objs.size,[s.heap.objs.size,pa],[s.heap.objs.size],its.toArray.size,_,_,λi=>(ns[i]?).getD 0,rfl,Walks.tuple (A:=X.A.in1) (I.ok.hd hc) _ pa (Yr hlt) its.toArray,
      ⟨⟨_,Yp _ rfl,rfl,rfl⟩,hl.push _⟩,λb hb=>?_,λi v hP=>mR ra r1 e i v (by simpa using hP),λh' tk t' hk=>?_⟩
     ·simp only [Yn,Zd,Ql] at hb
      rw [Zt]
      rcases hb with rfl | rfl
      ·exact Wc _
      ·exact W9 hlt
     ·rw [fin _ (by rw [hlen,<- ra.length,r1.length]; simp)]
      exact ⟨.int _,H,I.kept (LSm.kept_iter hk),⟨t',rfl⟩,p'.ret RD.mkI hS⟩
 ·cases hz
end
open Classical in
section
variable {X:Cx} {E:XK}
noncomputable def eqP (a b:D):Option Bool:=match eqS a b with
 | some c=>some c
 | none=>match toPy a,toPy b with
  | some p,some q=>if SeqAt.shaped p=true/\SeqAt.shaped q=true then some (PyData.eqv p q) else none
  | _,_=>none
noncomputable def bw:Sto->D->D->Option D:=λ_ a b=>(eqP a b).map .bl
noncomputable def dX:Sto->D->D->Option D:=λ_ a b=>(eqP a b).map λc=>.bl (!c)
theorem i4 {a b:D} {c:Bool} (h:eqP a b=some c):eqS a b=some c \/ ∃ p q,toPy a=some p/\toPy b=some q/\SeqAt.shaped p=true/\SeqAt.shaped q=true/\c=PyData.eqv p q:=by
 unfold eqP at h
 split at h
 ·rename_i c' e; cases h; exact .inl e
 ·split at h
  ·rename_i p q e1 e2
   split at h
   ·rename_i hs; cases h; exact .inr ⟨p,q,e1,e2,hs.1,hs.2,rfl⟩
   ·cases h
  ·cases h
theorem bA {k:Nat} (hr:Room k X.A):OpR X (compareOp .Eq) (xO X.K E bw):=by
 rintro pins s σ H x y v u Q I rx ry ⟨w,S,d,e,hS,qd,qe,p⟩
 obtain ⟨z,hz,p⟩:=p.of
 unfold bw at hz
 cases h:eqP d e with
 | none=>rw [h] at hz; cases hz
 | some c=>
  rw [h] at hz; cases hz
  rcases i4 h with h | ⟨a,b,e1,e2,s1,s2,rfl⟩
  ·exact sS pins s σ H x y v u Q I rx ry ⟨w,S,d,e,hS,qd,qe,by unfold oEq; rw [h]; exact p⟩
  ·obtain ⟨as,r1,_⟩:=dA I d x v a qd rx e1
   obtain ⟨bs,r2,_⟩:=dA I e y u b qe ry e2
   exact eq_dataH r1 r2 s1 s2 hr.units ⟨.bl _,H,I,rfl,p.ret RD.mkB hS⟩
theorem gk {k:Nat} (hr:Room k X.A):OpR X (compareOp .NotEq) (xO X.K E dX):=by
 rintro pins s σ H x y v u Q I rx ry ⟨w,S,d,e,hS,qd,qe,p⟩
 obtain ⟨z,hz,p⟩:=p.of
 unfold dX at hz
 cases h:eqP d e with
 | none=>rw [h] at hz; cases hz
 | some c=>
  rw [h] at hz; cases hz
  rcases i4 h with h | ⟨a,b,e1,e2,s1,s2,rfl⟩
  ·exact HD pins s σ H x y v u Q I rx ry ⟨w,S,d,e,hS,qd,qe,by unfold oNe; rw [h]; exact p⟩
  ·obtain ⟨as,r1,_⟩:=dA I d x v a qd rx e1
   obtain ⟨bs,r2,_⟩:=dA I e y u b qe ry e2
   exact ne_dataH r1 r2 s1 s2 hr.units ⟨.bl _,H,I,rfl,p.ret RD.mkB hS⟩
end
theorem ze {f:FM} (h:∀ ns:List Int,ns.length<=63->∃ S,f [.fz (ns.map .int)] []=.ok (.bl true) S) (K:PySem.W.Frag) (H:Hp) (a:Addr) (ns:List Int) (hn:ns.length<=63) (ho:sE H) (hs:SqL K H a (ns.map V.int)):
  spN K 1 f [.ref a] H (λv _=>v=.bl true) λ_ _ _=>False:=Ee h K H a ns hn ho hs
theorem El {P:Program} {w:World} {l:List Env} {s s':Shared} {e:Value} (h:CX1 P w l H s (λ_ _ _=>False) e s'):False:=by
 obtain ⟨_,_,_,_,_,_,_,_,_,z⟩:=h
 exact z
theorem kh {K:PySem.W.Frag} {C:Addr} {cd:ClassData} (g1:PySem.W.findIn K (.ref C) "__getattribute__" = some (some (.builtin "BaseException.__getattribute__"))) (g2:PySem.W.findIn K (.ref C) "__getattr__" = some none)
  (g3:PySem.W.findIn K (.ref C) "__class__" = some (some (.builtin "object.__class__"))) (m1:PySem.W.mroIn K C (.type "BaseException")=some true) (m2:PySem.W.mroIn K C (.type "object")=some true) (c:PySem.W.clsIn K C=some cd):ExK K C:=
 ⟨g1,g2,g3,m1,m2,by rw [c]; rfl⟩
end PD
namespace SQ
open PySem PySem.Spec PyProof.Rows
open Sem (wp)
noncomputable def nm:Bool->String
 | true=>"tuple_iterator"
 | false=>"list_iterator"
def It (k:Bool) (h:Heap) (it a:Addr) (i:Nat):Prop:=∃ o,h.get? it=some o/\o.cls=.type (nm k)/\o.data=.fields #[.ref a,.int i 0]
noncomputable abbrev z1 (k:Bool) (h:Heap) (l1:Addr):Heap:=h.push { cls:=.type (nm k),data:=.fields #[.ref l1,.int 0 0] }
noncomputable abbrev z2 (k m:Bool) (h:Heap) (l1 l2:Addr):Heap:=(z1 k h l1).push { cls:=.type (nm m),data:=.fields #[.ref l2,.int 0 0] }
end SQ
namespace PD
open PySem PySem.Spec PyProof.Rows L2
section
variable {X:Cx} {E:XK}
noncomputable def zf (neg:Bool):Sto->D->D->Option D:=λ_ a b=>match b with
 | .non=>match a with
  | .non=>some (.bl (!neg))
  | .int _=>some (.bl neg)
  | .bl _=>some (.bl neg)
  | .str _=>some (.bl neg)
  | .tup _=>some (.bl neg)
  | .lst _=>some (.bl neg)
  | .ref _=>some (.bl neg)
  | .dic _=>some (.bl neg)
  | _=>none
 | _=>none
theorem oX {neg:Bool} {S:Sto} {a b z:D} (h:zf neg S a b=some z):b=.non/\((a=.non/\z=.bl (!neg)) \/ (z=.bl neg/\∀ (K:PySem.W.Frag) (w:Wd) (H:Hp) (v:V),RD K w H a v->v ≠ .non)):=by
 cases b <;> first | (cases h; done) | skip
 refine ⟨rfl,?_⟩
 cases a with
 | non=>cases h; exact .inl ⟨rfl,rfl⟩
 | int i=>cases h; exact .inr ⟨rfl,λK w H v q z=>by cases q.int; cases z⟩
 | bl i=>cases h; exact .inr ⟨rfl,λK w H v q z=>by cases q.bl; cases z⟩
 | str i=>cases h; exact .inr ⟨rfl,λK w H v q z=>by cases q.str; cases z⟩
 | tup i=>cases h; exact .inr ⟨rfl,λK w H v q z=>by obtain ⟨p,vs,e,_⟩:=q.tupI; rw [e] at z; cases z⟩
 | lst i=>cases h; exact .inr ⟨rfl,λK w H v q z=>by obtain ⟨p,vs,e,_⟩:=q.lstI; rw [e] at z; cases z⟩
 | ref i=>cases h; exact .inr ⟨rfl,λK w H v q z=>by obtain ⟨p,e,_⟩:=q.refI; rw [e] at z; cases z⟩
 | dic i=>cases h; exact .inr ⟨rfl,λK w H v q z=>by unfold RD at q; obtain ⟨p,vs,e,_⟩:=q; rw [e] at z; cases z⟩
 | _=>cases h
theorem qS {v:Value} (hb:∀ id,v ≠ .builtin id):plainIs v .none=true:=by
 cases v <;> first | rfl | (exact absurd rfl (hb _))
theorem zg {x:V} {v:Value} (r:RelV x v):∀ id,v ≠ .builtin id:=by
 intro id e
 subst e
 cases x <;> first | (cases r; done) | (obtain ⟨_,e⟩:=r; cases e; done) | skip
theorem qT {x:V} {v:Value} (r:RelV x v) (h:x ≠ .non):v ≠ .none:=by
 intro e
 subst e
 cases x <;> first | (exact h rfl) | (cases r; done) | (obtain ⟨_,e⟩:=r; cases e; done) | skip
theorem tG:OpR X (compareOp .IsNot) (xO X.K E (zf true)):=by
 rintro pins s σ H x y v u Q I rx ry ⟨w,S,d,e,hS,qd,qe,p⟩
 obtain ⟨z,hz,p⟩:=p.of
 obtain ⟨rfl,h⟩:=oX hz
 have ey:y=.non:=by unfold RD at qe; exact qe
 subst ey
 cases ry
 rcases h with ⟨rfl,rfl⟩ | ⟨rfl,h⟩
 ·have ex:x=.non:=by unfold RD at qd; exact qd
  subst ex
  cases rx
  exact wpAny_isNot_self rfl ⟨.bl false,H,I,rfl,p.ret RD.mkB hS⟩
 ·have hx:=h _ _ _ _ qd
  exact wpAny_isNot_other (qS (zg rx)) (qT rx hx) ⟨.bl true,H,I,rfl,p.ret RD.mkB hS⟩
end
section
variable {X:Cx} {E:XK} {a b:Expr} {es:List Expr} {ms:AM} {x:Str} {p pos:Pos}
noncomputable def lL (S:Sto) (d:D):Option PyData:=match d with
 | .ref n=>match S[n]? with
  | some (.lst xs)=>(cX xs).map .list
  | _=>none
 | d=>toPy d
theorem lM {pins:List (Addr × Obj)} {σ:L2.St} {H:Hp} {s:Shared} {w:Wd} {S:Sto} (I:Inv X pins σ H s) (hS:RS X.K w H S) {d:D} {v:V} {u:Value} {p:PyData} (q:RD X.K w H d v) (r:RelV v u) (h:lL S d=some p):∃ as,Reads s.heap u p as:=by
 unfold lL at h
 split at h
 ·rename_i n
  split at h
  ·rename_i xs hn
   obtain ⟨pp,rfl,hp⟩:=q.refI
   obtain ⟨p',hp',vs,hv,ra⟩:=hS.obj _ _ hn
   rw [hp] at hp'; cases hp'
   cases (show u=Value.ref pp from r)
   cases e:cX xs with
   | none=>rw [e] at h; cases h
   | some ps=>
    rw [e] at h; cases h
    obtain ⟨its,r1,⟨o,n,ho,hc,_,hd⟩,_⟩:=I.list (SqL.of hv)
    obtain ⟨as,ra,hn⟩:=gG I xs vs its ps ra r1 e
    exact ⟨pp :: as,.list ho hc hd ra⟩
  ·cases h
 ·obtain ⟨as,ra,_⟩:=dA I _ _ _ _ q r h
  exact ⟨as,ra⟩
noncomputable def zh (S:Sto) (a b:D):Option Bool:=match eqP a b with
 | some c=>some c
 | none=>match lL S a,lL S b with
  | some p,some q=>if SeqAt.shaped p=true/\SeqAt.shaped q=true then some (PyData.eqv p q) else none
  | _,_=>none
noncomputable def zi:Sto->D->D->Option D:=λS a b=>(zh S a b).map .bl
theorem oY {S:Sto} {a b:D} {c:Bool} (h:zh S a b=some c):eqP a b=some c \/ ∃ p q,lL S a=some p/\lL S b=some q/\SeqAt.shaped p=true/\SeqAt.shaped q=true/\c=PyData.eqv p q:=by
 unfold zh at h
 split at h
 ·rename_i c' e; cases h; exact .inl e
 ·split at h
  ·rename_i p q e1 e2
   split at h
   ·rename_i hs; cases h; exact .inr ⟨p,q,e1,e2,hs.1,hs.2,rfl⟩
   ·cases h
  ·cases h
theorem tH {k:Nat} (hr:Room k X.A):OpR X (compareOp .Eq) (xO X.K E zi):=by
 rintro pins s σ H x y v u Q I rx ry ⟨w,S,d,e,hS,qd,qe,p⟩
 obtain ⟨z,hz,p⟩:=p.of
 unfold zi at hz
 cases h:zh S d e with
 | none=>rw [h] at hz; cases hz
 | some c=>
  rw [h] at hz; cases hz
  rcases oY h with h | ⟨a,b,e1,e2,s1,s2,rfl⟩
  ·exact bA hr pins s σ H x y v u Q I rx ry ⟨w,S,d,e,hS,qd,qe,by unfold bw; rw [h]; exact p⟩
  ·obtain ⟨as,r1⟩:=lM I hS qd rx e1
   obtain ⟨bs,r2⟩:=lM I hS qe ry e2
   exact eq_dataH r1 r2 s1 s2 hr.units ⟨.bl _,H,I,rfl,p.ret RD.mkB hS⟩
end
variable {k:Nat} {X:Cx} {caps:List Nat}
theorem qU {E:XK} {it:AM} {g:G} {mt:TM} {me:EM}:∀ s H Q,uE X.K E (cn it k caps g mt me) s H Q->pL (uI X.K E it) k caps (uG X.K g) (uT X.K E mt) (uE X.K E me) s H Q:=
 λs H Q zq=>ex6 zq λw r S hr hS hp=>⟨w,r,S,hr,hS,hp.bind hS λds S1 w1 H1 J x1 q1 s1 p1=>by
  intro p hp
  have hr1:=hr.ext x1
  have pno:p ∉ w1.hid:=(s1.fresh hp).2
  have hz:ds.length<=sizeLine:=by
   rcases Nat.lt_or_ge sizeLine ds.length with z | z
   ·rw [Yg (by omega)] at p1; exact p1.elim
   ·exact z
  rw [Y9 hz] at p1
  -- the list is made at p,which is hidden
  refine ⟨λi n s' H'=>n=ds.length - i/\i<=ds.length/\∃ w' r' S' ys vs,Ext w1 H1 w' H'/\p ∈ w'.hid/\RSt X.K w' H' r' s'/\RS X.K w' H' S'/\H' p=some (.lst vs)/\RDs X.K w' H' ys vs/\ys.length<=i/\
    ax X.K E (RD X.K) w1 H1 ((dR g mt me (ds.drop i) r' S').bind λzs S2=>R.ok (.lst (ys ++ zs)) S2) Q,
   ⟨ds.length,by simp,Zc _,w1.hide p,gS k caps r,S1,[],[],Ext.hide hp,Yz,(pP k caps hr1).ext (Ext.hide hp),s1.hide hp,aL,.nil,Yd _,p1⟩,?_⟩
  rintro i n s2 H2 ⟨rfl,hi.out,w2,r2,S2,ys,vs,x2,hph,hr2,hS2,hpv,ry,hyl,hp2⟩
  have hpn:p ∉ w2.st:=(hS2.hid p hph).1
  by_cases hlt:i < ds.length
  ·obtain ⟨go,yld⟩:=(q1 i w2 H2 x2).1 hlt
   refine .inr ⟨go,λs' H'=>∃ w' r' S' ys vs,Ext w1 H1 w' H'/\p ∈ w'.hid/\RSt X.K w' H' r' s'/\RS X.K w' H' S'/\H' p=some (.lst vs)/\RDs X.K w' H' ys vs/\ys.length<=i + 1/\
     ax X.K E (RD X.K) w1 H1 ((dR g mt me (ds.drop (i + 1)) r' S').bind λzs S2=>R.ok (.lst (ys ++ zs)) S2) Q,
    λs' H' hN=>⟨ds.length - (i + 1),by omega,rfl,hlt,hN⟩,λx H3 hy=>?_⟩
   obtain ⟨gr,rd⟩:=yld x H3 hy
   obtain ⟨d,ed,qd⟩:=rd S2 hS2
   obtain ⟨x3,s3⟩:=j8 gr hS2
   have hdrop:ds.drop i=d :: ds.drop (i + 1):=by
    rw [W1 hlt]
    rw [Yw hlt] at ed
    cases ed; rfl
   rw [hdrop] at hp2
   have hpv3:H3 p=some (.lst vs):=x3.keep _ _ hpv hpn
   have ry3:=RDs.ext x3 _ _ ry
   have x13:Ext w1 H1 w2 H3:=x2.trans' x3 s1 hS2
   unfold dR at hp2
   cases e:g.put d r2 with
   | none=>rw [e] at hp2; exact hp2.elim
   | some r3=>
    rw [e] at hp2
    refine ⟨w2,r2,d,r3,hr2.ext x3,qd,e,λs4 hr4=>⟨w2,r3,S2,hr4,s3,?_⟩⟩
    -- hp2:(mt r3 S2).bind .. |>.bind ..
    have hass:∀ {A B C:Type} (r:R A) (f:A->Sto->R B) (h:B->Sto->R C),(r.bind f).bind h=r.bind λa S=>(f a S).bind h:=λr f h=>by cases r <;> rfl
    simp only [hass] at hp2
    refine ax.bindAt (rel:=RB) hp2 x13 s1 s3 λc S5 w5 H5 c' x5 q5 s5 p5=>?_
    have ec:c'=c:=q5
    subst ec
    have x15:Ext w1 H1 w5 H5:=x13.trans' x5 s1 s3
    have hph5:p ∈ w5.hid:=x5.hid p hph
    have hpv5:H5 p=some (.lst vs):=x5.keep _ _ hpv3 hpn
    cases c' with
    | false=>
     refine kY ⟨w5,r3,S5,ys,vs,x15,hph5,hr4.ext x5,s5,hpv5,RDs.ext x5 _ _ ry3,Nat.le_succ_of_le hyl,p5⟩
    | true=>
     refine kZ ⟨w5,r3,S5,hr4.ext x5,s5,?_⟩
     have p5':ax X.K E (RD X.K) w1 H1 (((me r3 S5).bind λy S2=>(dR g mt me (ds.drop (i + 1)) r3 S2).bind λys S3=>R.ok (y :: ys) S3).bind λzs S2=>R.ok (D.lst (ys ++ zs)) S2) Q:=p5
     simp only [hass] at p5'
     refine ax.bindAt (rel:=RD X.K) p5' x15 s1 s5 λy S6 w6 H6 yv x6 q6 s6 p6=>?_
     have x16:Ext w1 H1 w6 H6:=x15.trans' x6 s1 s5
     have hph6:p ∈ w6.hid:=x6.hid p hph5
     have hpn5:p ∉ w5.st:=(s5.hid p hph5).1
     have hpn6:p ∉ w6.st:=(s6.hid p hph6).1
     have hpv6:H6 p=some (.lst vs):=x6.keep _ _ hpv5 hpn5
     have ry6:=RDs.ext x6 _ _ (RDs.ext x5 _ _ ry3)
     refine ⟨vs,hpv6,by rw [ry6.length]; omega,w6,r3,S6,ys ++ [y],vs ++ [yv],⟨λa o h n=>?_,x16.sub,x16.hid,x16.hnew,λa o u h=>by have z:=x16.frz a o u h; rw [aA (λe:a=p=>by rw [e,hpv6] at z; cases z)]; exact z⟩,hph6,(hr4.ext x5).ext x6 |>.mv (Mv.write hph6),s6.write hph6,aL,(RDs.mv (Mv.write hph6) _ _ ry6).append (.cons (RD.mv (Mv.write hph6) _ _ q6) .nil),by simp; omega,?_⟩
     ·have:a ≠ p:=aK h hp
      rw [aA this]; exact x16.keep a o h n
     ·have he2:∀ zs:List D,(ys ++ [y]) ++ zs=ys ++ y :: zs:=λzs=>by simp
      simp only [he2]
      exact p6
  ·have e:i=ds.length:=by omega
   subst e
   rw [Vb] at hp2
   refine .inl ⟨(q1 _ w2 H2 x2).2 (Yd _),?_⟩
   have hp3:ax X.K E (RD X.K) w1 H1 (R.ok (D.lst (ys ++ [])) S2) Q:=hp2
   rw [Z8] at hp3
   refine ax.at hp3 (w1:=w2.unhide p) ⟨x2.keep,x2.sub,λa h=>Zz.mpr ⟨x2.hid a h,Yi λz=>pno (z ▸ h)⟩,λa h=>x2.hnew a (Wd.mem_unhide h).1,x2.frz⟩ ?_ hS2.unhide
   unfold RD
   exact ⟨p,vs,rfl,⟨hpv,hpn,λz=>(Wd.mem_unhide z).2 rfl⟩,RDs.mv Mv.unhide _ _ ry⟩⟩
theorem zj {elt tg iter:Expr} {ifs:List Expr} {scope:Scope} {pos pos' spos:Pos} {N:List Str} {i0:Nat} {x0:Str} {wi:TI} {g:TG} {tt:TT} {te:TE} (hN:X.N.Nodup) (hi0:X.N[i0]?=some x0) (hx0:Loc X.env.scope x0) (hX:X.calm=true) (hxe:∀ e s,¬ X.xe e s) (C:CompScope X N k caps scope)
  (hi:PI X tg iter wi) (hg:∀ cl s0 H0 ex,PG (cxC X N scope cl s0 H0 ex) tg g) (ht:∀ cl s0 H0 ex,sM (cxC X N scope cl s0 H0 ex) ifs tt) (he:∀ cl s0 H0 ex,PE (cxC X N scope cl s0 H0 ex) elt te)
  (hs:autoParam (∀ x,foldedSetIterable iter X.env x=pure x) Au.h4._auto_1) (hsw:autoParam (swapsWith (.ListComp elt [⟨tg,iter,ifs,0⟩] scope pos) (some (.Name x0 pos')) spos.line X.env=pure true) Au.h0._auto_1) (hf0:autoParam (X.fn x0=true \/ X.env.scope.names.lookup x0=some .local) Au.h7._auto_1):PS X (.Assign [.Name x0 pos'] (.ListComp elt [⟨tg,iter,ifs,0⟩] scope pos) spos) (Ds (pL wi k caps g tt te) (rQ i0)):=by
 intro pins s σ H D I h
 have h:pL wi k caps g tt te σ H (λv H1=>D.nx (σ.set i0 (some v)) H1):=h
 have noX:∀ {α:Type} {t:Sem α} {Q':α->Shared->Prop} {s':Shared},wpAny (model X.prog X.w) X.A t Q' X.xe s'->wpAny (model X.prog X.w) X.A t Q' (λ_ _=>False) s':=λh=>Za h (λ_ _ x=>x) λe s z=>hxe e s z
 obtain ⟨cl,hclos,hcl,hcf⟩:=ju (scope:=scope) (env:=X.env) λx hx hf=>I.ok.has _ (C.free x hx hf)
 rw [exec_Assign_Name_used _ _ _ _ hsw]; refine Y6 (wpAny_standAt (Y6 ?_))
 show wpAny _ X.A (do let _ <- comprehension (.ListComp elt [⟨tg,iter,ifs,0⟩] scope pos) scope X.env _ (newList []) false (eval iter X.env) (some (assign (.Name x0 pos') X.env))) _ _ s
 refine Y6 (Za (wpAny_comprehension_free (use:=some (assign (.Name x0 pos') X.env)) (Q:=λ_ s'=>∃ σ' H',Inv X pins σ' H' s'/\D.nx σ' H') (cl:=cl) rfl hs hclos C.kind C.names ?_) (λ_ s' hq=>Ye (Ye hq)) λ_ _ e=>e)
 refine thn (hi pins s σ H _ I h) λv s1 h1=>thn h1 λitv s2 h2=>?_
 obtain ⟨it,fp,tn,J,H2,e,I2,T,st2,f2,q⟩:=h2
 subst e
 refine wpAny_newList (items:=[]) ?_ (by show 0<=sizeLine; exact Zc _)
 have hp:H2 s2.heap.objs.size=none:=I2.hok.fresh (Yd _)
 obtain ⟨W,⟨m0,w0⟩,turn⟩:=q _ hp
 have I3:Inv X pins σ (upd H2 s2.heap.objs.size (.lst [])) { s2 with heap:=s2.heap.push { cls:=.type "list",data:=.seq ([]:List Value).toArray } }:=
  I2.laid (t':=s2.toks) (λb u e=>Y8 _ e) (Yd _) ⟨Zc _,[],0,.nil,Yp _ rfl⟩
 refine wpAny_newFunctionEnv C.nocell (λx hx=>nomatch hx) (λh4 hn4 hs4=>?_) C.kind
 have ltfp:∀ b ∈ fp,b < s2.heap.objs.size:=λb hb=>by
  obtain ⟨o,ho,_⟩:=T.obj _ _ st2 b hb
  exact Yh ho
 have hk4:∀ b o,(s2.heap.push { cls:=.type "list",data:=.seq ([]:List Value).toArray }).get? b=some o->h4.get? b=some o:=λb o e=>by
  have ne:b ≠ (s2.heap.push { cls:=.type "list",data:=.seq ([]:List Value).toArray }).objs.size:=Yr (Yh e)
  rw [hs4.2 b ne]
  exact Y8 _ e
 have f3:∀ b ∈ fp,FpOk X pins (upd H2 s2.heap.objs.size (.lst [])) b:=λb hb=>by
  obtain ⟨a1,a2⟩:=f2 b hb
  exact ⟨by rw [aA (Yr (ltfp b hb))]; exact a1,a2⟩
 have I4:=j9 (N:=N) (k:=k) (caps:=caps) (scope:=scope) (cl:=cl) (fp:=fp) (t:=s2.toks + 0) I3 C hcl hcf (λb hb=>⟨f3 b hb,by rw [show ({ s2 with heap:=s2.heap.push { cls:=.type "list",data:=.seq ([]:List Value).toArray } }:Shared).heap.objs.size=s2.heap.objs.size + 1 from Zt ..]; exact W9 (ltfp b hb)⟩) hn4 hk4
 have tn4:tn 0 h4:=T.keep _ _ _ st2 λb hb o e=>hk4 b o (Y8 _ e)
 have loop:codeAny (model X.prog X.w) X.A (.compLoop (.ListComp elt [⟨tg,iter,ifs,0⟩] scope pos) 0 (.ref it) (.ref s2.heap.objs.size) (compEnvC scope cl ({ s2 with heap:=s2.heap.push { cls:=.type "list",data:=.seq ([]:List Value).toArray } }:Shared).heap.objs.size X.env))
   (compPost (model X.prog X.w) X.A X.xe (some (assign (.Name x0 pos') X.env)) (λ_ s'=>∃ σ' H',Inv X pins σ' H' s'/\D.nx σ' H') (.ref s2.heap.objs.size) ({ s2 with heap:=s2.heap.push { cls:=.type "list",data:=.seq ([]:List Value).toArray } }:Shared).heap.objs.size) { s2 with heap:=h4,toks:=s2.toks + 0 }:=by
  generalize hs3:({ s2 with heap:=s2.heap.push { cls:=.type "list",data:=.seq ([]:List Value).toArray } }:Shared)=s3 at *
  have sz3:s2.heap.objs.size<=s3.heap.objs.size:=by rw [<- hs3]; show _<=(s2.heap.push _).objs.size; rw [Zt]; exact Vh _
  have k23:∀ b o,s2.heap.get? b=some o->s3.heap.get? b=some o:=λb o e=>by rw [<- hs3]; exact Y8 _ e
  have hos:s3.os=s2.os:=by rw [<- hs3]
  have stat:∀ {H':Hp},(∀ b ∈ fp,H' b=none)->∀ b ∈ fp,FpOk (cxC X N scope cl s3 (upd H2 s2.heap.objs.size (.lst [])) fp) pins H' b:=λ{H'} hn b hb=>by
   obtain ⟨a1,a2,a3,a4,a5,a6⟩:=f3 b hb
   refine ⟨hn b hb,Yr (Yl (ltfp b hb) sz3),λz=>?_,.inl hb,λx c e=>a5 x c (hcl x c e),a6⟩
   rcases Yn.mp (I2.stkSub b z) with q | q
   ·exact a2 q
   ·exact a3 q
  have I4':Inv (cxC X N scope cl s3 (upd H2 s2.heap.objs.size (.lst [])) fp) pins (jt k caps σ) (upd H2 s2.heap.objs.size (.lst [])) { s2 with heap:=h4,toks:=s2.toks + 0 }:=by subst hs3; exact I4
  refine ix (λn s'=>∃ i σ' H',Inv (cxC X N scope cl s3 (upd H2 s2.heap.objs.size (.lst [])) fp) pins σ' H' s'/\tn i s'.heap/\(∀ b ∈ fp,H' b=none)/\W i n σ' H') ?_ m0 ⟨0,_,_,I4',tn4,λb hb=>(f3 b hb).1,w0⟩
  rintro n s5 ⟨i,σ5,H5,I5,st5,fr5,w5⟩
  rcases turn i n σ5 H5 w5 with ⟨stop,qn⟩ | ⟨go,Nn,hN,step⟩
  ·refine thn (T.done (cxC X N scope cl s3 (upd H2 s2.heap.objs.size (.lst [])) fp) rfl rfl rfl (.inl hX) i pins s5 σ5 H5 _ I5 (stat fr5) st5 stop) λr s6 zq=>?_
   obtain ⟨hr,I6⟩:=zq
   subst hr
   obtain ⟨m6,hn6,_⟩:=I6.loc
   have u1:Un (frs X.stack) fp H2 (upd H2 s2.heap.objs.size (.lst [])) s2.heap s3.heap:=Un.laid k23 (Yd _) hp
   have u2:Un (frs X.stack) fp H2 H5 s2.heap s6.heap:=u1.trans I6.base
   have neC:∀ b o,s2.heap.get? b=some o->b ≠ s3.heap.objs.size:=λb o e=>Yr (Yl (Yh e) sz3)
   have hfree:H5 s3.heap.objs.size=none:=I6.free
   have IX:Inv X pins σ H5 s6:=by
    refine I2.call' (s':=s6) (ch:=fp) (by rw [<- hos]; exact I6.os) ⟨λb o e n hb hx=>?_,λb o e n hb hx=>?_,u2.free,λb o e hx=>?_,u2.tups,u2.frzs,u2.tbls⟩ (λb ob e=>?_) I6.bare λb hb=>?_
    ·exact u2.keep b o e n hb hx
    ·obtain ⟨sl,e1⟩:=u2.slot b o e n hb hx
     exact ⟨sl,e1⟩
    ·obtain ⟨o',e1⟩:=u2.there b o e hx
     exact ⟨o',e1⟩
    ·exact I6.hok b ob e
    ·obtain ⟨a1,a2,a3,a4,a5,a6⟩:=f2 b hb
     exact ⟨a4,a2,a5,a6⟩
   have lC:∀ b o,s2.heap.get? b=some o->b ≠ s3.heap.objs.size:=neC
   have nL:X.env.locals ≠ s3.heap.objs.size:=Yr (Yl I2.lt sz3)
   have nc:∀ x c,X.env.cells.lookup x=some c->c ≠ s3.heap.objs.size:=λx c e=>by
    obtain ⟨v,o,ho,_⟩:=I2.cell x c e
    exact neC c o ho
   show wpAny _ X.A (assign (.Name x0 pos') X.env (.ref s2.heap.objs.size)) _ _ _
   refine wpAny_assign_Name (lx IX hN hi0 hx0 (v:=.ref s2.heap.objs.size) rfl (λs8 I8 ⟨a,sa,ha⟩=>⟨m6,hn6.sameBut sa ?_,λh9 hs9=>⟨_,H5,?_,qn⟩⟩) hf0)
   ·rcases ha with ha | ha
    ·rw [ha]; exact Ne.symm nL
    ·exact Ne.symm (nc _ _ ha)
   ·exact I8.turned (t':=s8.toks) (it:=s3.heap.objs.size) (λb o n e=>(hs9.2 b n).trans e) hfree (Ne.symm nL) (.inr (Z9 I2.sz sz3)) nc λp hp=>neC p.1 p.2 (I2.pin p hp).1
  ·refine thn (T.item (cxC X N scope cl s3 (upd H2 s2.heap.objs.size (.lst [])) fp) rfl rfl rfl (.inl hX) i pins s5 σ5 H5 _ I5 (stat fr5) st5 go) λr s6 zq=>?_
   obtain ⟨u,hr,h6⟩:=zq
   subst hr
   refine thn h6 λ_ s7 zq=>?_
   obtain ⟨x,H7,I7,r7,y7,st7,fr7⟩:=zq
   have I7':=I7.pinned (stat fr7) (T.obj _ _ st7)
   refine noX (thn (hg cl s3 _ fp _ s7 σ5 H7 x u _ I7' r7 (step x H7 y7)) λ_ s8 zq=>?_)
   obtain ⟨σ8,H8,I8,q8⟩:=zq
   refine noX (thn (ht cl s3 _ fp _ s8 σ8 H8 _ I8 q8) λok s9 zq=>?_)
   obtain ⟨H9,I9,q9⟩:=zq
   have again:∀ {s':Shared} {σ':L2.St} {H':Hp},Inv (cxC X N scope cl s3 (upd H2 s2.heap.objs.size (.lst [])) fp) (pins ++ iR fp s7.heap) σ' H' s'->Nn σ' H'->
     ∃ m,m < n/\∃ i σ' H',Inv (cxC X N scope cl s3 (upd H2 s2.heap.objs.size (.lst [])) fp) pins σ' H' s'/\tn i s'.heap/\(∀ b ∈ fp,H' b=none)/\W i m σ' H':=λ{s' σ' H'} I' n'=>by
    obtain ⟨m',hm,w'⟩:=hN σ' H' n'
    refine ⟨m',hm,i + 1,σ',H',I'.unpinned,T.keep _ _ _ st7 λb hb o e=>(I'.pin (b,o) (Yu _ (Yu _ (dH hb e)))).1,λb hb=>?_,w'⟩
    obtain ⟨o,e,d⟩:=T.obj _ _ st7 b hb
    exact (I'.pin (b,o) (Yu _ (Yu _ (dH hb e)))).2.1
   cases ok with
   | false=>exact again I9 q9
   | true=>
    refine noX (thn (he cl s3 _ fp _ s9 σ8 H9 _ I9 q9) λy s10 zq=>?_)
    obtain ⟨yv,H10,I10,r10,ys,hys,hlt,q10⟩:=zq
    refine noX (thn (iT (X:=cxC X N scope cl s3 (upd H2 s2.heap.objs.size (.lst [])) fp) _ s10 σ8 H10 (.ref s2.heap.objs.size) [yv] _ [y] (λ_ H'=>Nn σ8 H') I10 rfl (.cons r10 .nil) ⟨_,ys,yv,rfl,rfl,hys,hlt,q10⟩) λ_ s11 zq=>?_)
    obtain ⟨_,H11,I11,_,q11⟩:=zq
    exact again I11 q11
 exact codeAny_compStart_list loop (T.self X.A 0 _ _ _ tn4 loop)
theorem zk {E:XK} {elt tg iter:Expr} {ifs:List Expr} {scope:Scope} {pos pos' spos:Pos} {N:List Str} {i0:Nat} {x0:Str} {it:AM} {g:G} {mt:TM} {me:EM} (hN:X.N.Nodup) (hi0:X.N[i0]?=some x0) (hx0:Loc X.env.scope x0) (hX:X.calm=true) (hxe:∀ e s,¬ X.xe e s) (C:CompScope X N k caps scope)
  (hi:SI X E tg iter it) (hg:∀ cl s0 H0 ex,SG (cxC X N scope cl s0 H0 ex) tg g) (ht:∀ cl s0 H0 ex,SIf (cxC X N scope cl s0 H0 ex) E ifs mt) (he:∀ cl s0 H0 ex,SE (cxC X N scope cl s0 H0 ex) E elt me)
  (hs:autoParam (∀ x,foldedSetIterable iter X.env x=pure x) Au.h4._auto_1) (hsw:autoParam (swapsWith (.ListComp elt [⟨tg,iter,ifs,0⟩] scope pos) (some (.Name x0 pos')) spos.line X.env=pure true) Au.h0._auto_1) (hf0:autoParam (X.fn x0=true \/ X.env.scope.names.lookup x0=some .local) Au.h7._auto_1):
  SS X E (.Assign [.Name x0 pos'] (.ListComp elt [⟨tg,iter,ifs,0⟩] scope pos) spos) (bh i0 (cn it k caps g mt me)):=⟨
 dw (zj hN hi0 hx0 hX hxe C hi.out (g:=uG X.K g) (λcl s0 H0 ex=>(hg cl s0 H0 ex).out) (tt:=uT X.K E mt) (λcl s0 H0 ex=>(ht cl s0 H0 ex).out) (te:=uE X.K E me) (λcl s0 H0 ex=>(he cl s0 H0 ex).out) hs hsw hf0) λD s H zq=>ex6 zq λw r S hr hS hp=>
  qU s H _ ⟨w,r,S,hr,hS,hp.bind hS λd S1 w1 H1 v x1 q1 s1 p1=>ax.ret (b:=FV.nx (s.set i0 (some v))) p1 ⟨_,rfl,(hr.ext x1).set i0 q1⟩ s1⟩⟩
end PD
namespace SR
open PySem PyProof.Rows
noncomputable abbrev SM (α:Type):=StateT SortSt Sem α
end SR
namespace PD
open PySem PySem.Spec PyProof.Rows L2
variable {t:Str}
noncomputable def nR (t:Str) (i:Int):Str:=Str.empty ++ t ++ (toString i:Str)
noncomputable def fOk (t:Str) (i:Int) (u:Str):Bool:=decide (i.natAbs.log2 < 1920) && decide ((nR t i).length<=sizeLine) && decide ((nR t i ++ u).length<=sizeLine)
noncomputable def zl (t u:Str) (b:Bool):Sto->D->Option D
 | _,.int i=>if fOk t i u then some (.str (if b then nR t i ++ u else nR t i)) else none
 | _,_=>none
section
variable {X:Cx} {E:XK} {a:Expr} {ma:EM}
theorem Em {k:Nat} {p0 p1 pos:Pos} {ta:TE} (ha:PE X a ta) (hz:(Str.empty ++ t).length<=sizeLine):
  PE X (.JoinedStr [.Constant (.str t) k p0,.FormattedValue a (-1) none p1] pos) (tUn (λx H Q=>∃ i,x=.int i/\fOk t i Str.empty=true/\Q (.str (nR t i)) H) ta):=by
 intro pins s σ H Q I h
 refine JoinedStr_many (joinParts_cons (Calls.Constant_str ⟨hz,joinParts_cons (FormattedValue_plain (thn (ha pins _ σ H _ (I.tok _) h) λv s1 hv=>?_))⟩))
 obtain ⟨x,H1,I1,r1,i,rfl,c,q⟩:=hv
 obtain ⟨tk,rfl⟩:=r1
 simp only [fOk,Yt,Z2] at c
 exact formatField_int_small c.1.1 ⟨c.1.2,joinParts_nil ⟨.str (nR t i),H1,(I1.tok _).tok _,⟨_,rfl⟩,q⟩ c.1.2⟩
theorem tJ {u:Str} {b:Bool} {S:Sto} {d z:D} (h:zl t u b S d=some z):∃ i,d=.int i/\fOk t i u=true/\z=.str (if b then nR t i ++ u else nR t i):=by
 unfold zl at h
 split at h
 ·rename_i i
  by_cases c:fOk t i u=true
  ·rw [Y9 c] at h; cases h; exact ⟨i,rfl,c,rfl⟩
  ·rw [Yg c] at h; cases h
 ·cases h
theorem En {k:Nat} {p0 p1 pos:Pos} (ha:SE X E a ma) (hz:autoParam ((Str.empty ++ t).length<=sizeLine) Au.h3._auto_1):SE X E (.JoinedStr [.Constant (.str t) k p0,.FormattedValue a (-1) none p1] pos) (eUn (zl t Str.empty false) ma):=⟨
 aH (Em ha.out hz) λs H Q zq=>ex6 zq λw r S hr hS hp=>⟨w,r,S,hr,hS,hp.bind hS λd S1 w1 H1 v x1 q1 s1 p1=>by
  obtain ⟨z,hz,p⟩:=p1.of
  obtain ⟨i,rfl,c,rfl⟩:=tJ hz
  exact ⟨i,q1.int,c,p.ret (by unfold RD; rfl) s1⟩⟩⟩
end
end PD
namespace PySem
section
variable {M:Model} {A:Around} {E:Value->Shared->Prop} {s:Shared} {env:Env}
theorem qV {n:Str} {pos:Pos} {c:Addr} {v:Option Value} {Q:Unit->Shared->Prop} (hk:env.scope.kind=.function) (hl:env.kindOf n=some .cell) (hc:env.cells.lookup n=some c) (hv:s.heap.IsCell c v)
  (k:∀ h' t',h'.IsCell c none->Heap.SameBut c s.heap h'->Q () { s with heap:=h',toks:=t' }):wpAny M A (do bindName env n .none; unbindBehindTheSuite env n pos) Q E s:=by
 refine Y6 (wpAny_bindName (wpAny_storeName_cell hk hl hc hv λg1 i1 s1=>?_))
 unfold unbindBehindTheSuite
 refine wpAny_onRaise ?_
 unfold unbindName
 refine Y6 (wpAny_point (Y6 ?_))
 unfold deleteName
 simp only [hl]
 refine Y6 (wpAny_cellOf hc ?_)
 refine Y6 (wpAny_cellGet i1 ?_)
 rw [Y9 (by rfl)]
 exact wpAny_cellSet i1 λg2 i2 s2=>wpAny_point (k g2 _ i2 (s1.trans s2))
end
end PySem
namespace L2
open PySem PySem.Spec PyProof.Rows
section
variable {X:Cx} {pins:List (Addr × Obj)} {σ:St} {H:Hp} {s:Shared}
theorem Inv.forgetC {h':Heap} {t':Nat} {n:Str} {c:Addr} (I:Inv X pins σ H s) (hfn:X.fn n=true) (hc:X.env.cells.lookup n=some c) (hi:h'.IsCell c none) (hs:Heap.SameBut c s.heap h'):Inv X pins (List.replicate X.N.length none) H { s with heap:=h',toks:=t' }:=by
 have hca:X.s₀.heap.objs.size<=c:=I.ok.cab n c hfn hc
 have ne:∀ b o,X.s₀.heap.get? b=some o->b ≠ c:=λb o e=>Yr (Yl (Yh e) hca)
 have hcL:c ≠ X.env.locals:=I.cne n c hc
 obtain ⟨m,hn,_⟩:=id I.loc
 refine ⟨I.ok,I.os,I.bare,⟨λb o e k hb hx=>(hs.2 b (ne b o e)).trans (I.base.keep b o e k hb hx),λb o e k hb hx=>?_,I.base.free,λb o e hx=>?_,I.base.tups,I.base.frzs,I.base.tbls⟩,⟨m,?_,λi x v e1 e2 e3=>?_⟩,λy d e=>?_,I.free,I.freeC,λp hp=>?_,λb ob e=>?_,by simp⟩
 ·obtain ⟨sl,e1⟩:=I.base.slot b o e k hb hx
  exact ⟨sl,(hs.2 b (ne b o e)).trans e1⟩
 ·obtain ⟨o',e1⟩:=I.base.there b o e hx
  exact ⟨o',(hs.2 b (ne b o e)).trans e1⟩
 ·obtain ⟨o,es,ep,ho,r⟩:=hn
  exact ⟨o,es,ep,(hs.2 _ (Ne.symm hcL)).trans ho,r⟩
 ·rw [Zn] at e2
  split at e2 <;> cases e2
 ·by_cases z:d=c
  ·exact ⟨none,z ▸ hi⟩
  ·obtain ⟨w',q⟩:=I.cell y d e
   exact ⟨w',q.sameBut hs z⟩
 ·obtain ⟨e,k,n1,nf,d⟩:=I.pin p hp
  obtain ⟨v,o,ho,hd⟩:=I.cell n c hc
  exact ⟨(hs.2 p.1 (λz=>by rw [z,ho] at e; cases e; exact d _ hd)).trans e,k,n1,nf,d⟩
 ·refine (I.hok b ob e).stay (λd w' hd q=>(hs.2 d ?_).trans q) (λ_ q=>q) λ_ _ q=>q
  rintro rfl
  have f:=I.freeC n d hc
  rcases hd with rfl | hd
  ·rw [f] at e; cases e
  ·rw [f] at hd; cases hd
end
end L2
namespace PD
open PySem PySem.Spec PyProof.Rows L2
section
variable {X:Cx} {E:XK}
theorem zm {body:List Stmt} {b₀:Stmt} {suite:List Stmt} {x n:Str} {np hpos pos:Pos} {cs:List Str} {i nN:Nat} {mb mh:SM} {Cp:Value} (hex:X.ex=[]) (hf:X.stack=X.env :: X.outer/\X.env.frame=some X.env.locals)
  (hg:Gl X x) (hm:X.mg x=some Cp) (hcs:∀ y,cs.contains y=true->∀ c,PySem.W.nsIn X.K mainGlobals y=some (some c)->PySem.W.exmOne X.K c Cp=some true)
  (hN:X.N.Nodup) (hi:X.N[i]?=some n) (hn:nN=X.N.length) (hl:X.env.scope.names.lookup n=some .cell) (hfn:X.fn n=true)
  (hb:∀ (p:List (Addr × Obj)) (W:Value->Shared->Prop) (E1:XK),Passes (CX1 X.prog X.w) (X.with p W) E1->SSs (X.with p W) E1 body mb)
  (hh:∀ (ea:Addr) (o:Obj) (u:HO),ZO o->SSs (X.suite ea (.frz o u)) E0 (b₀ :: suite) mh) (hd:autoParam ((x == ("__debug__":Str))=false) Au.h3._auto_1):
  SS X E (.Try body [.ExceptHandler (some (.Name x np)) (some n) (b₀ :: suite) hpos] [] [] pos) (j4 cs i nN mb mh):=⟨by
 intro pins s σ H D I ⟨w,r,S,hr,hS,hp⟩
 have hfr:X.A.frames=some (X.env :: X.outer):=by rw [I.ok.frames,hf.1]
 refine wpAny_Try_except ?_
 let E1:XK:=λc _ H1=>∃ w1 y S1,Ext w H w1 H1/\RS X.K w1 H1 S1/\PySem.W.nsIn X.K mainGlobals y.cls=some (some c)/\mb r S=.err y S1
 let W:Value->Shared->Prop:=λe s'=>∃ σ1 H1 s1,Inv X pins σ1 H1 s1/\CX1 X.prog X.w X.stack H1 s1 E1 e s'
 have hW:Passes (CX1 X.prog X.w) (X.with (X.pn ++ pins) W) E1:=λpins' σ1 H1 s1 e s' I1 c=>⟨σ1,H1,s1,I1.unwith I.ok,c⟩
 have hpb:ax X.K E1 (RF X.K) w H (mb r S) (FV.to D):=by
  have hp':ax X.K E (RF X.K) w H (j4 cs i nN mb mh r S) (FV.to D):=hp
  unfold j4 at hp'
  cases e:mb r S with
  | ok f S1=>rw [e] at hp'; exact hp'
  | err y S1=>exact λw' H' c da y1 t q=>⟨w',y,S1,y1,t,q,e⟩
  | bad=>rw [e] at hp'; exact hp'.elim
 refine Za ((hb (X.pn ++ pins) W E1 hW).out [] s σ H D I.with ⟨w,r,S,hr,hS,hpb⟩) (λf s' q=>?_) λe s' q=>?_
 ·cases f with
  | next=>obtain ⟨σ',H',J,q⟩:=q; exact pw (X:=X) pins s' σ' H' D (J.unwith I.ok) q
  | brk=>obtain ⟨σ',H',J,q⟩:=q; exact ⟨σ',H',J.unwith I.ok,q⟩
  | cont=>obtain ⟨σ',H',J,q⟩:=q; exact ⟨σ',H',J.unwith I.ok,q⟩
  | ret u=>obtain ⟨v,σ',H',J,rr,q⟩:=q; exact ⟨v,σ',H',J.unwith I.ok,rr,q⟩
 ·obtain ⟨σ1,H1,s1,I1,ea,cls,H2,rfl,os,bare,un,hok,⟨B,a0,fl,old,tr,zt⟩,w1,y,S1,xe,hS1,hns,hmb⟩:=q
  obtain ⟨hnew,hnew'⟩:=zc (s':=s') fl old tr
  have fl':=fl
  rw [hf.1] at fl'
  refine rH hfr hf.2 fl' zt λh4 held4 up4 zt4=>?_
  refine rJ (s:={ s' with heap:=h4 }) held4 zt4 λh5 fl5 up5 zt5=>?_
  rw [<- hf.1] at fl5
  have up15:s'.heap.UpToSlots h5:=up4.trans up5
  have un5:=un.fly fl.1 fl5.1 old up15 (fE fl)
  have hok5:=hok.fly fl.1 fl5.1 tr
  have J5:Inv X pins σ1 H2 { s' with heap:=h5 }:=I1.call' os un5 hok5 bare (λb z=>nomatch z)
  -- what the plain program says
  have hp':ax X.K E (RF X.K) w H (j4 cs i nN mb mh r S) (FV.to D):=hp
  unfold j4 at hp'
  rw [hmb] at hp'
  simp only at hp'
  by_cases hc:cs.contains y.cls=true
  ·rw [Y9 hc] at hp'
   have hx:=hcs y.cls hc cls hns
   refine wpAny_handleBy_cons (codeAny_handlers_test (gE (X:={ X with A:=X.A.mark (some (.ref ea)),calm:=false }) (pins:=pins) (σ:=σ1) (H:=H2) ⟨⟨J5.ok.mod,J5.ok.kind,J5.ok.glob,J5.ok.blt,J5.ok.above,J5.ok.inj,J5.ok.has,J5.ok.cab,(λz=>by cases z),J5.ok.frames,J5.ok.stk,J5.ok.exf,J5.ok.bs,J5.ok.bsz,J5.ok.noex,J5.ok.exfs,J5.ok.funs,J5.ok.frf⟩,J5.os,J5.bare,J5.base,J5.loc,J5.cell,J5.free,J5.freeC,J5.pin,J5.hok,J5.len⟩ hg hm ?_ hd)) (by intro q; cases q)
   obtain ⟨ob,hob,hobc⟩:=fl5.there
   have LT:PySem.W.Looks (model X.prog X.w) h5 (typeOf (.ref ea)) cls:=by subst hobc; exact (Vc hob).andThen .now
   refine (PySem.W.exm_one J5.kIn LT hx).here ?_
   refine codeAny_handlers_suite_as ?_
   refine ng (s:={ s' with heap:=h5 }) fl5 zt5 λh6 fl6 up6 zt6=>?_
   obtain ⟨oe,hoe,zo⟩:=zt6
   have up16:s'.heap.UpToSlots h6:=up15.trans up6
   have un6:=un.fly fl.1 fl6.1 old up16 (fE fl)
   have hok6:=hok.fly fl.1 fl6.1 tr
   obtain ⟨un7,hok7⟩:=qO fl6 old tr hnew hnew' un6 hok6 hoe
   have J7:Inv X pins σ1 (upd H2 ea (.frz oe (.ext (ExcAt ea cls)))) { s' with heap:=h6 }:=I1.call' os un7 hok7 bare (λb z=>nomatch z)
   refine j0 J7 hN hi (.inr hl) (v:=.ref ea) rfl (λs8 J8=>?_) (.inl hfn)
   have x7:Ext w1 H2 w1 (upd H2 ea (.frz oe (.ext (ExcAt ea cls)))):=Ext.new hnew'
   have hS7:RS X.K w1 (upd H2 ea (.frz oe (.ext (ExcAt ea cls)))) S1:=hS1.new hnew'
   have x17:=xe.trans' x7 hS hS1
   have p7:=ax.ext hp' x17 hS hS7
   have hat:At w1 (upd H2 ea (.frz oe (.ext (ExcAt ea cls)))) ea (.frz oe (.ext (ExcAt ea cls))):=⟨aL,hS1.fresh hnew'⟩
   have hiN:i < nN:=by rw [hn]; exact (Yq.mp hi).1
   have hrh:RSt X.K w1 (upd H2 ea (.frz oe (.ext (ExcAt ea cls)))) ((List.replicate nN none).set i (some (.exc y.cls))) (σ1.set i (some (.ref ea))):=by
    refine ⟨by simp [J7.len,hn],λj d e=>?_⟩
    by_cases hj:j=i
    ·subst hj
     rw [Z4 (by simpa using hiN)] at e
     cases e
     exact ⟨.ref ea,Z4 (by rw [J7.len,<- hn]; exact hiN),by unfold RD; exact ⟨ea,cls,oe,rfl,hns,hat⟩⟩
    ·rw [Yy (Ne.symm hj),Zn] at e
     split at e <;> cases e
   have n0:X.s₀.heap.get? ea=none:=by
    cases e9:X.s₀.heap.get? ea with
    | none=>rfl
    | some o9=>
     obtain ⟨o8,e8⟩:=I1.base.there ea o9 e9 (by rw [hex]; exact λz=>nomatch z)
     rw [hnew] at e8; cases e8
   have n1:∀ v,X.H₀ ea=some v->(∀ xs,v ≠ .tup xs)/\(∀ q w,v ≠ .frz q w)/\∀ ps,v ≠ .tbl ps:=λv e9=>⟨λxs z=>(by rw [z] at e9; have:=J5.base.tups ea xs e9; rw [hnew'] at this; cases this),λq w z=>(by rw [z] at e9; have:=J5.base.frzs ea q w e9; rw [hnew'] at this; cases this),λps z=>(by rw [z] at e9; obtain ⟨m,this⟩:=J5.base.tbls ea ps e9; rw [hnew'] at this; cases this)⟩
   have hsuite:=(hh ea oe _ zo).out pins s8 _ _ { nx:=λ_ _=>False,rt:=λv H'=>D.rt v H' } (J8.suite n0 aL) ⟨w1,_,S1,hrh,hS7,ax.nx (E:=E) ?_⟩
   ·refine wpAny_noRaise (Za hsuite (λf s9 q=>?_) λ_ _ z=>z)
    show wpAny _ _ _ _ _ _
    cases f with
    | next=>obtain ⟨_,_,_,q⟩:=q; exact q.elim
    | brk=>obtain ⟨_,_,_,q⟩:=q; exact q.elim
    | cont=>obtain ⟨_,_,_,q⟩:=q; exact q.elim
    | ret u=>
     obtain ⟨v,σ',H',J,rr,q⟩:=q
     have J':=J.unsuite I.ok n0 n1
     obtain ⟨c9,hc9⟩:=J'.ok.has n (.inl hl)
     obtain ⟨v9,hv9⟩:=J'.cell n c9 hc9
     refine qV J'.ok.kind hl hc9 hv9 λh10 t10 hi10 hs10=>?_
     exact ⟨v,_,H',J'.forgetC hfn hc9 hi10 hs10,rr,q⟩
   ·refine ax.bind (rel:=RF X.K) p7 hS7 λf S2 w2 H3 fv x2 q2 s2 p2=>?_
    cases f with
    | nx r=>exact p2.elim
    | bk r=>exact p2.elim
    | ct r=>exact p2.elim
    | rt d=>obtain ⟨v,rfl,q⟩:=q2; have z:=ax.ret (Q:=FV.to D) (rel:=RF X.K) (a:=F.rt d) (b:=FV.rt v) p2 ⟨v,rfl,q⟩ s2; exact z
  ·rw [Yg hc] at hp'; exact hp'.elim⟩
theorem tK {cs:List Str} {body:List Stmt} {b₀:Stmt} {suite:List Stmt} {x n:Str} {np hpos pos:Pos} {i nN:Nat} {mb mh:SM} (h:TryAt X.K X.mg x cs) (hex:X.ex=[]) (hf:X.stack=X.env :: X.outer/\X.env.frame=some X.env.locals)
  (hg:Gl X x) (hN:X.N.Nodup) (hi:X.N[i]?=some n) (hn:nN=X.N.length) (hl:X.env.scope.names.lookup n=some .cell) (hfn:X.fn n=true)
  (hb:∀ (p:List (Addr × Obj)) (W:Value->Shared->Prop) (E1:XK),Passes (CX1 X.prog X.w) (X.with p W) E1->SSs (X.with p W) E1 body mb)
  (hh:∀ (ea:Addr) (o:Obj) (u:HO),ZO o->SSs (X.suite ea (.frz o u)) E0 (b₀ :: suite) mh) (hd:autoParam ((x == ("__debug__":Str))=false) Au.h3._auto_1):
  SS X E (.Try body [.ExceptHandler (some (.Name x np)) (some n) (b₀ :: suite) hpos] [] [] pos) (j4 cs i nN mb mh):=by
 obtain ⟨Cp,hm,hc⟩:=h
 refine zm hex hf hg hm (λy hy c hcn=>?_) hN hi hn hl hfn hb hh hd
 obtain ⟨c',e1,e2⟩:=hc y (List.contains_iff_mem.mp hy)
 rw [hcn] at e1
 cases e1
 exact e2
end
section
variable {X:Cx} {E:XK}
theorem zp {k:Nat} (hr:RoomM k X.A):OpR X (compareOp .Eq) (xO X.K E bw):=by
 rintro pins s σ H x y v u Q I rx ry ⟨w,S,d,e,hS,qd,qe,p⟩
 obtain ⟨z,hz,p⟩:=p.of
 unfold bw at hz
 cases h:eqP d e with
 | none=>rw [h] at hz; cases hz
 | some c=>
  rw [h] at hz; cases hz
  rcases i4 h with h | ⟨a,b,e1,e2,s1,s2,rfl⟩
  ·exact sS pins s σ H x y v u Q I rx ry ⟨w,S,d,e,hS,qd,qe,by unfold oEq; rw [h]; exact p⟩
  ·obtain ⟨as,r1,_⟩:=dA I d x v a qd rx e1
   obtain ⟨bs,r2,_⟩:=dA I e y u b qe ry e2
   exact eq_dataH r1 r2 s1 s2 (by have:=hr.un; omega) ⟨.bl _,H,I,rfl,p.ret RD.mkB hS⟩
end
variable {w:Wd} {H:Hp} {c q:Str} {C f:Addr} {st:Stmt} {fd:FuncData} {pins:List (Addr × Obj)} {s:Shared}
noncomputable def gT (f:Str) (v:D):List (Str × D)->List (Str × D)
 | []=>[(f,v)]
 | (g,x) :: r=>if g=f then (g,v) :: r else (g,x) :: gT f v r
section
variable {K:PySem.W.Frag} {w w':Wd} {H H':Hp}
theorem RDf.nil:RDf K w H [] []:=⟨rfl,.nil⟩
theorem RDf.ext {fs:List (Str × D)} {us:List (Str × V)} (x:Ext w H w' H') (q:RDf K w H fs us):RDf K w' H' fs us:=⟨q.1,RDs.ext x _ _ q.2⟩
theorem RDf.get (f:Str):∀ {fs:List (Str × D)} {us:List (Str × V)},RDf K w H fs us->(∀ d,fs.lookup f=some d->∃ v,us.lookup f=some v/\RD K w H d v)/\(fs.lookup f=none->us.lookup f=none)
 | [],us,q=>by
  have:us=[]:=by have:=Zs List.length q.1; simpa using this.symm
  rw [this]
  exact ⟨λd h=>(by cases h),λ_=>rfl⟩
 | (g,d) :: fs,us,q=>by
  obtain ⟨q1,q2⟩:=q
  cases us with
  | nil=>cases q1
  | cons u us=>
   rw [Yc,Yc] at q1 q2
   injection q1 with e1 e2
   obtain ⟨v,r,e,p,t⟩:=q2.cons_inv
   injection e with e3 e4
   subst e4
   obtain ⟨h1,h2⟩:=RDf.get f (fs:=fs) (us:=us) ⟨e2,t⟩
   have eg:u.1=g:=e1.symm
   rw [<- e3] at p
   obtain ⟨ug,uv⟩:=u
   cases (show ug=g from eg)
   rw [Zj,Zj]
   cases hg:f == g with
   | true=>exact ⟨λd' h=>by cases h; exact ⟨uv,rfl,p⟩,λh=>by cases h⟩
   | false=>exact ⟨h1,h2⟩
theorem RDf.put (f:Str) {d:D} {v:V} (hd:RD K w H d v):∀ {fs:List (Str × D)} {us:List (Str × V)},RDf K w H fs us->RDf K w H (gT f d fs) (fk f v us)
 | [],us,q=>by
  have:us=[]:=by have:=Zs List.length q.1; simpa using this.symm
  rw [this]
  exact ⟨rfl,.cons hd .nil⟩
 | (g,e) :: fs,us,q=>by
  obtain ⟨q1,q2⟩:=q
  cases us with
  | nil=>cases q1
  | cons u us=>
   rw [Yc,Yc] at q1 q2
   injection q1 with e1 e2
   obtain ⟨v',r,e',p,t⟩:=q2.cons_inv
   injection e' with e3 e4
   subst e4
   rw [<- e3] at p
   obtain ⟨ug,uv⟩:=u
   cases (show ug=g from e1.symm)
   unfold gT fk
   by_cases hg:g=f
   ·rw [Y9 hg,Y9 hg]
    exact ⟨by rw [Yc,Yc,e2],.cons hd t⟩
   ·rw [Yg hg,Yg hg]
    obtain ⟨a,b⟩:=RDf.put f hd (fs:=fs) (us:=us) ⟨e2,t⟩
    exact ⟨by rw [Yc,Yc,a],.cons p b⟩
theorem RDf.len {fs:List (Str × D)} {us:List (Str × V)} (q:RDf K w H fs us):us.length=fs.length:=by
 have:=Zs List.length q.1
 simpa using this.symm
end
def ClsI (K:PySem.W.Frag) (c:Str):Prop:=∃ C,PySem.W.nsIn K mainGlobals c=some (some (.ref C))/\L2.Cls K C
def NoA (K:PySem.W.Frag) (c f:Str):Prop:=∃ C,PySem.W.nsIn K mainGlobals c=some (some (.ref C))/\g6 K C f
structure MetR (P:Program) (w:World) (K:PySem.W.Frag) (mg:Str->Option Value) (base:Heap) (c m:Str) (k n:Nat) (f:FM):Prop where
 ex:∃ (C fa:Addr) (fd:FuncData) (ps:List Str),PySem.W.nsIn K mainGlobals c=some (some (.ref C))/\L2.Cls K C/\Meth K C m fa/\Binds K fd ps []/\FnOk P w K mg base (CX1 P w) k fa fd ps (spM K n f)
structure MetN (P:Program) (w:World) (K:PySem.W.Frag) (mg:Str->Option Value) (base:Heap) (c m:Str) (k n:Nat) (f:FM):Prop where
 ex:∃ (C fa:Addr) (fd:FuncData) (ps:List Str),PySem.W.nsIn K mainGlobals c=some (some (.ref C))/\L2.Cls K C/\Meth K C m fa/\Binds K fd ps []/\FnOk P w K mg base (CX1 P w) k fa fd ps (spN K n f)
structure MakN (P:Program) (w:World) (K:PySem.W.Frag) (mg:Str->Option Value) (base:Heap) (c:Str) (k:Nat) (f:FM):Prop where
 ex:∃ (C fa:Addr) (fd:FuncData) (ps:List Str),PySem.W.nsIn K mainGlobals c=some (some (.ref C))/\mg c=some (.ref C)/\Mk K C fa/\Binds K fd ps []/\FnOk P w K mg base (CX1 P w) k fa fd ps (spN K 1 f)
noncomputable def fq (c:Str) (S:Sto):D->Option (Nat × List (Str × D))
 | .ref n=>match S[n]? with
  | some (.ins c' fs)=>if c'=c then some (n,fs) else none
  | _=>none
 | _=>none
noncomputable def dg (c f:Str) (a:EM):EM:=λr S=>(a r S).bind λx S1=>match fq c S1 x with
 | some (_,fs)=>R.of S1 (fs.lookup f)
 | none=>.bad
noncomputable def gm (c f:Str) (o v:EM):SM:=λr S=>(v r S).bind λy S1=>(o r S1).bind λx S2=>match fq c S2 x with
 | some (n,fs)=>if fs.length < 1000 then .ok (.nx r) (S2.set n (.ins c (gT f y fs))) else .bad
 | none=>.bad
noncomputable def ef (c m:Str) (f:FM) (o:EM) (t:AM):EM:=λr S=>(o r S).bind λx S1=>match fq c S1 x with
 | some (_,fs)=>if fs.lookup m=none then (t r S1).bind λds S2=>f (x :: ds) S2 else .bad
 | none=>.bad
noncomputable def qW (c:Str) (f:FM):EM:=λ_ S=>(f [.ref S.length] (S ++ [.ins c []])).bind λd S1=>match d with
 | .non=>.ok (.ref S.length) S1
 | _=>.bad
theorem oZ {K:PySem.W.Frag} {S:Sto} {d:D} {v:V} {n:Nat} {fs:List (Str × D)} (hS:RS K w H S) (q:RD K w H d v) (h:fq c S d=some (n,fs)):∃ p C dx us,v=.ref p/\w.st[n]?=some p/\d=.ref n/\S[n]?=some (.ins c fs)/\PySem.W.nsIn K mainGlobals c=some (some (.ref C))/\H p=some (.ins C dx us)/\RDf K w H fs us:=by
 unfold fq at h
 split at h
 ·rename_i m
  split at h
  ·rename_i c' fs' e
   split at h
   ·rename_i hc
    subst hc
    cases h
    obtain ⟨p,rfl,hp⟩:=q.refI
    obtain ⟨p',hp',C,dx,us,ns,hv,r⟩:=hS.obj _ _ e
    rw [hp] at hp'; cases hp'
    exact ⟨p,C,dx,us,rfl,hp,rfl,e,ns,hv,r⟩
   ·cases h
  ·cases h
 ·cases h
section
variable {X:Cx} {E:XK} {c f m x:Str} {a b o v:Expr} {ma mo mv:EM} {es:List Expr} {ms:AM} {k n:Nat} {F:FM} {p pos apos tpos:Pos}
theorem bB (hc:ClsI X.K c) (hn:NoA X.K c f) (ha:SE X E a ma) (hb:autoParam (attributeBase a f X.env (eval a X.env)=eval a X.env) Au.h0._auto_1):SE X E (.Attribute a f pos) (dg c f ma):=⟨
 aH (DF ha.out hb) λs H Q zq=>ex6 zq λw r S hr hS hp=>⟨w,r,S,hr,hS,hp.bind hS λd S1 w1 H1 u x1 q1 s1 p1=>by
  cases e:fq c S1 d with
  | none=>simp only [e] at p1; exact p1.elim
  | some z=>
   obtain ⟨n,fs⟩:=z
   simp only [e] at p1
   obtain ⟨y,hy,p⟩:=p1.of
   obtain ⟨pp,C,dx,us,rfl,hpp,rfl,hs,ns,hv,rf⟩:=oZ s1 q1 e
   obtain ⟨C1,n1,c1⟩:=hc
   obtain ⟨C2,n2,c2⟩:=hn
   rw [ns] at n1 n2
   cases n1; cases n2
   obtain ⟨vv,h1,h2⟩:=(rf.get f).1 y hy
   exact ⟨pp,C,dx,us,vv,rfl,hv,c1,c2,h1,p.ret h2 s1⟩⟩⟩
theorem i5 (hc:ClsI X.K c) (hn:NoA X.K c f) (ho:SE X E o mo) (hv:SE X E v mv) (hs:autoParam (swapsWith v (some (.Attribute o f tpos)) pos.line X.env=pure false) Au.h0._auto_1):SS X E (.Assign [.Attribute o f tpos] v pos) (gm c f mo mv):=⟨
 dw (DG ho.out hv.out hs) λD s H zq=>ex6 zq λw r S hr hS hp=>⟨w,r,S,hr,hS,hp.bind hS λy S1 w1 H1 vy x1 q1 s1 p1=>⟨w1,r,S1,hr.ext x1,s1,p1.bind s1 λd S2 w2 H2 u x2 q2 s2 p2=>by
  cases e:fq c S2 d with
  | none=>simp only [e] at p2; exact p2.elim
  | some z=>
   obtain ⟨n,fs⟩:=z
   simp only [e] at p2
   by_cases hl:fs.length < 1000
   ·rw [Y9 hl] at p2
    obtain ⟨pp,C,dx,us,rfl,hpp,rfl,hs,ns,hv,rf⟩:=oZ s2 q2 e
    obtain ⟨C1,n1,c1⟩:=hc
    obtain ⟨C2,n2,c2⟩:=hn
    have n1':=n1
    rw [ns] at n1 n2
    cases n1; cases n2
    have hm:pp ∈ w2.st:=Zl hpp
    refine ⟨pp,C,dx,us,rfl,hv,c1,c2,by rw [rf.len]; exact hl,?_⟩
    have rf':RDf X.K w2 (upd H2 pp (.ins C dx (fk f vy us))) (gT f y fs) (fk f vy us):=RDf.ext (Ext.mut hm hv) (rf.put f (RD.ext x2 _ _ q1))
    exact ax.at (b:=FV.nx s) p2 (Ext.mut hm hv) ⟨s,rfl,((hr.ext x1).ext x2).ext (Ext.mut hm hv)⟩ (s2.mut hpp hv ⟨C,dx,_,n1',aL,rf'⟩)
   ·rw [Yg hl] at p2; exact p2.elim⟩⟩⟩
theorem iD {sp:Sp} {r:Rho} {S:Sto} {Q:VK} {s:L2.St} (ns:PySem.W.nsIn X.K mainGlobals c=some (some (.ref C))) (hn:lb ms n) (hr:RSt X.K w H r s) (hS:RS X.K w H S) (hp:ax X.K E (RD X.K) w H (ef c m F mo ms r S) Q)
  (hsp:∀ (vs:List V) (H2:Hp),vs.length=n + 1->(∃ w2 S2 ds,RS X.K w2 H2 S2/\RDs X.K w2 H2 ds vs/\ax X.K E (RD X.K) w2 H2 (F ds S2) Q)->sp vs H2 Q E):
  ax X.K E (RD X.K) w H (mo r S) λx H1=>∃ a dx fs,x=.ref a/\H1 a=some (.ins C dx fs)/\fs.lookup m=none/\uA X.K E ms s H1 λvs H2=>sp (x :: (vs ++ [])) H2 Q E:=by
 refine ax.bind (r:=mo r S) hp hS λd S1 w1 H1 u x1 q1 s1 p1=>?_
 cases e:fq c S1 d with
 | none=>simp only [e] at p1; exact p1.elim
 | some z=>
  obtain ⟨i,fs⟩:=z
  simp only [e] at p1
  by_cases hl:fs.lookup m=none
  ·rw [Y9 hl] at p1
   obtain ⟨pp,C',dx,us,rfl,hpp,rfl,hs,ns',hv,rf⟩:=oZ s1 q1 e
   rw [ns] at ns'
   cases ns'
   refine ⟨pp,dx,us,rfl,hv,(rf.get m).2 hl,w1,r,S1,hr.ext x1,s1,?_⟩
   cases ea:ms r S1 with
   | bad=>rw [ea] at p1; exact p1.elim
   | err y S'=>rw [ea] at p1; exact p1
   | ok ds S'=>
    rw [ea] at p1
    intro w2 H2 vs x2 q2 s2
    rw [Z8]
    exact hsp _ _ (by rw [Yv,q2.length,hn r S1 ds S' ea]) ⟨w2,S',.ref i :: ds,s2,.cons (RD.ext x2 _ _ q1) q2,ax.ext (r:=F (.ref i :: ds) S') p1 x2 s1 s2⟩
  ·rw [Yg hl] at p1; exact p1.elim
theorem pU {pl:Sem Bool} (M:MetR X.prog X.w X.K X.mg X.base c m k (n + 1) F) (hx:Passes (CX1 X.prog X.w) X E) (hr:Room k X.A) (ho:SE X E o mo) (ha:SA X E (a :: es) ms) (hn:lb ms n)
  (hst:autoParam (starEach (a :: es) X.env=(false,eval a X.env) :: starEach es X.env) Au.h0._auto_1) (hpl:autoParam ((backTo pos (starEach es X.env)).any (·.1)=false) Au.h0._auto_1)
  (ht:autoParam (eval (.Call (.Attribute o m apos) (a :: es) [] pos) X.env=(do
   let ov <- eval o X.env
   standAt apos.atName
   let (g,first) <- holding [ov] (getMethod ov m pl)
   callWith pos g first (backTo pos (starEach (a :: es) X.env)) (backToKw pos (keywordEach [] X.env)))) Au.h1._auto_1):SE X E (.Call (.Attribute o m apos) (a :: es) [] pos) (ef c m F mo ms):=by
 obtain ⟨C,fa,fd,ps,ns,hc,hm,hb,Fo⟩:=M.ex
 exact ⟨aH (pD ho.out hc hm Fo hr hb (dvs:=[]) .nil hx ha.out hst hpl ht) λs H Q zq=>ex6 zq λw r S hr hS hp=>⟨w,r,S,hr,hS,iD ns hn hr hS hp λvs H2 hl h=>⟨hl,h⟩⟩⟩
theorem nS {pl:Sem Bool} (M:MetR X.prog X.w X.K X.mg X.base c m k 1 F) (hx:Passes (CX1 X.prog X.w) X E) (hr:Room k X.A) (ho:SE X E o mo)
  (ht:autoParam (eval (.Call (.Attribute o m apos) [] [] pos) X.env=(do
   let ov <- eval o X.env
   standAt apos.atName
   let (g,first) <- holding [ov] (getMethod ov m pl)
   callWith pos g first (backTo pos (starEach [] X.env)) (backToKw pos (keywordEach [] X.env)))) Au.h1._auto_1):SE X E (.Call (.Attribute o m apos) [] [] pos) (ef c m F mo aj):=by
 obtain ⟨C,fa,fd,ps,ns,hc,hm,hb,Fo⟩:=M.ex
 refine ⟨aH (nv ho.out hc hm Fo hr hb (dvs:=[]) .nil hx ht) λs H Q zq=>ex6 zq λw r S hr hS hp=>⟨w,r,S,hr,hS,?_⟩⟩
 have z:=iD (n:=0) (sp:=spM X.K 1 F) (E:=E) ns ay hr hS hp λvs H2 hl h=>⟨hl,h⟩
 cases e:mo r S with
 | bad=>rw [e] at z; exact z
 | err y S'=>rw [e] at z; exact z
 | ok d S'=>
  rw [e] at z
  intro w1 H1 u x1 q1 s1
  obtain ⟨a,dx,fs,e1,e2,e3,w2,r2,S2,_,s2,pp⟩:=z w1 H1 u x1 q1 s1
  exact ⟨a,dx,fs,e1,e2,e3,ax.ret (a:=([]:List D)) (b:=([]:List V)) pp .nil s2⟩
theorem gI {pl:Sem Bool} (M:MetN X.prog X.w X.K X.mg X.base c m k (n + 1) F) (hr:Room k X.A) (ho:SE X E0 o mo) (ha:SA X E0 (a :: es) ms) (hn:lb ms n)
  (hst:autoParam (starEach (a :: es) X.env=(false,eval a X.env) :: starEach es X.env) Au.h0._auto_1) (hpl:autoParam ((backTo pos (starEach es X.env)).any (·.1)=false) Au.h0._auto_1)
  (ht:autoParam (eval (.Call (.Attribute o m apos) (a :: es) [] pos) X.env=(do
   let ov <- eval o X.env
   standAt apos.atName
   let (g,first) <- holding [ov] (getMethod ov m pl)
   callWith pos g first (backTo pos (starEach (a :: es) X.env)) (backToKw pos (keywordEach [] X.env)))) Au.h1._auto_1):SE X E0 (.Call (.Attribute o m apos) (a :: es) [] pos) (ef c m F mo ms):=by
 obtain ⟨C,fa,fd,ps,ns,hc,hm,hb,Fo⟩:=M.ex
 exact ⟨aH (pD ho.out hc hm Fo hr hb (dvs:=[]) .nil eG ha.out hst hpl ht) λs H Q zq=>ex6 zq λw r S hr hS hp=>⟨w,r,S,hr,hS,iD ns hn hr hS hp λvs H2 hl h=>⟨hl,h⟩⟩⟩
theorem iE {pl:Sem Bool} (M:MetN X.prog X.w X.K X.mg X.base c m k 1 F) (hr:Room k X.A) (ho:SE X E0 o mo)
  (ht:autoParam (eval (.Call (.Attribute o m apos) [] [] pos) X.env=(do
   let ov <- eval o X.env
   standAt apos.atName
   let (g,first) <- holding [ov] (getMethod ov m pl)
   callWith pos g first (backTo pos (starEach [] X.env)) (backToKw pos (keywordEach [] X.env)))) Au.h1._auto_1):SE X E0 (.Call (.Attribute o m apos) [] [] pos) (ef c m F mo aj):=by
 obtain ⟨C,fa,fd,ps,ns,hc,hm,hb,Fo⟩:=M.ex
 refine ⟨aH (nv ho.out hc hm Fo hr hb (dvs:=[]) .nil eG ht) λs H Q zq=>ex6 zq λw r S hr hS hp=>⟨w,r,S,hr,hS,?_⟩⟩
 have z:=iD (n:=0) (sp:=spN X.K 1 F) (E:=E0) ns ay hr hS hp λvs H2 hl h=>⟨hl,h⟩
 cases e:mo r S with
 | bad=>rw [e] at z; exact z
 | err y S'=>rw [e] at z; exact z
 | ok d S'=>
  rw [e] at z
  intro w1 H1 u x1 q1 s1
  obtain ⟨a,dx,fs,e1,e2,e3,w2,r2,S2,_,s2,pp⟩:=z w1 H1 u x1 q1 s1
  exact ⟨a,dx,fs,e1,e2,e3,ax.ret (a:=([]:List D)) (b:=([]:List V)) pp .nil s2⟩
theorem tL (M:MakN X.prog X.w X.K X.mg X.base c k F) (hr:Room (k + 1) X.A) (hg:Gl X c) (hdb:autoParam ((c == ("__debug__":Str))=false) Au.h3._auto_1):SE X E0 (.Call (.Name c p) [] [] pos) (qW c F):=by
 obtain ⟨C,fa,fd,ps,ns,hmg,hm,hb,Fo⟩:=M.ex
 refine ⟨aH (sg hm Fo hr hg hmg hb (dvs:=[]) .nil eG hdb) λs H Q zq=>?_⟩
 obtain ⟨w,r,S,hr,hS,hp⟩:=zq
 intro y dx hy hdx hne
 have hy':(upd H dx (.own y)) y=none:=by rw [aA (Ne.symm hne)]; exact hy
 have s0:RS X.K w (upd H dx (.own y)) S:=hS.new hdx
 have s1:RS X.K (w.add y) (upd (upd H dx (.own y)) y (.ins C dx [])) (S ++ [.ins c []]):=s0.alloc hy' ⟨C,dx,[],ns,aL,.nil⟩
 have x1:Ext w H (w.add y) (upd (upd H dx (.own y)) y (.ins C dx [])):=(Ext.new hdx).trans' (Ext.alloc hy') hS s0
 have hp1:ax X.K E0 (RD X.K) (w.add y) (upd (upd H dx (.own y)) y (.ins C dx [])) ((F [.ref S.length] (S ++ [.ins c []])).bind λd S1=>match d with
  | .non=>.ok (.ref S.length) S1
  | _=>.bad) Q:=ax.ext hp x1 hS s1
 refine ⟨rfl,w.add y,S ++ [.ins c []],[.ref S.length],s1,.cons s0.lastRef .nil,?_⟩
 refine ax.bind (r:=F [.ref S.length] (S ++ [.ins c []])) hp1 s1 λd S2 w2 H2 u x2 q2 s2 p2=>?_
 cases d with
 | non=>
  refine ⟨?_,ax.ret p2 (RD.ext x2 _ _ s0.lastRef) s2⟩
  unfold RD at q2
  exact q2
 | _=>exact p2.elim
end
section
variable {P:Program} {w:World} {K:PySem.W.Frag} {mg:Str->Option Value} {base:Heap}
theorem jR {x:Str} {m:SM} (N ps:List Str) (k k1 n0 n1:Nat) (hk:k1=k + 1) (h0:n0=ps.length) (h1:n1=N.length) (F:Fun K x q st f fd) (ns:PySem.W.nsIn K mainGlobals c=some (some (.ref C))) (hc:L2.Cls K C) (hm:Meth K C x f) (hb:Binds K fd ps []) (S:FnScope N ps (defScope st))
  (hbody:∀ (cdv:Value) (A:Around) (outer:List Env) (s:Shared) (H:Hp) (E:XK),Room k (A.deeper (envOfC q (defScope st) s.heap.objs.size f cdv))->
   SSs (gL (CX1 P w) P w K mg base N q (defScope st) f cdv A outer s H E) E (defBody st) m):MetR P w K mg base c x k1 n0 (fnM n1 m):=by
 subst hk h0 h1
 exact ⟨C,f,fd,ps,ns,hc,hm,hb,tw F S hbody⟩
theorem gJ {x:Str} {m:SM} (N ps:List Str) (k k1 n0 n1:Nat) (hk:k1=k + 1) (h0:n0=ps.length) (h1:n1=N.length) (F:Fun K x q st f fd) (ns:PySem.W.nsIn K mainGlobals c=some (some (.ref C))) (hc:L2.Cls K C) (hm:Meth K C x f) (hb:Binds K fd ps []) (S:FnScope N ps (defScope st))
  (hbody:∀ (cdv:Value) (A:Around) (outer:List Env) (s:Shared) (H:Hp) (E:XK),Room k (A.deeper (envOfC q (defScope st) s.heap.objs.size f cdv))->
   SSs (gL (CX1 P w) P w K mg base N q (defScope st) f cdv A outer s H E).nox E0 (defBody st) m):MetN P w K mg base c x k1 n0 (fnM n1 m):=by
 subst hk h0 h1
 exact ⟨C,f,fd,ps,ns,hc,hm,hb,mQ F S hbody⟩
theorem tM {m:SM} (N ps:List Str) (k k1 n1:Nat) (hk:k1=k + 1) (h0:1=ps.length) (h1:n1=N.length) (F:Fun K "__init__" q st f fd) (ns:PySem.W.nsIn K mainGlobals c=some (some (.ref C))) (hmg:mg c=some (.ref C)) (hm:Mk K C f) (hb:Binds K fd ps []) (S:FnScope N ps (defScope st))
  (hbody:∀ (cdv:Value) (A:Around) (outer:List Env) (s:Shared) (H:Hp) (E:XK),Room k (A.deeper (envOfC q (defScope st) s.heap.objs.size f cdv))->
   SSs (gL (CX1 P w) P w K mg base N q (defScope st) f cdv A outer s H E).nox E0 (defBody st) m):MakN P w K mg base c k1 (fnM n1 m):=by
 subst hk h1
 have z:=mQ F S hbody
 rw [<- h0] at z
 exact ⟨C,f,fd,ps,ns,hmg,hm,hb,z⟩
end
noncomputable def z8:Sto->D->R D
 | S,.ref n=>match S[n]? with
  | some (.lst a)=>match a[a.length - 1]? with
   | some y=>.ok y (S.set n (.lst a.dropLast))
   | none=>.bad
  | _=>.bad
 | _,_=>.bad
noncomputable def tN (o:EM):EM:=λr S=>(o r S).bind λx S1=>z8 S1 x
section
variable {X:Cx} {E:XK} {o:Expr} {mo:EM} {apos cpos:Pos}
theorem tO {K:PySem.W.Frag} {ds:List D} {vs:List V} (q:RDs K w H ds vs):RDs K w H ds.dropLast vs.dropLast:=by
 rw [List.dropLast_eq_take,List.dropLast_eq_take,q.length]
 exact q.take _
theorem pV (ho:SE X E o mo) (hbase:autoParam (attributeBase o "pop" X.env (eval o X.env)=eval o X.env) Au.h0._auto_1) (hline:autoParam ((apos.endLine == cpos.line)=true) Au.h0._auto_1):SE X E (.Call (.Attribute o "pop" apos) [] [] cpos) (tN mo):=⟨
 aH (sv PySem.F.plainAttrs_list PySem.F.slot_list_pop PySem.F.type_list_pop DP ho.out hbase hline) λs H Q zq=>ex6 zq λw r S hr hS hp=>⟨w,r,S,hr,hS,hp.bind hS λd S1 w1 H1 v x1 q1 s1 p1=>by
  unfold z8 at p1
  split at p1
  ·rename_i n
   split at p1
   ·rename_i a hn
    split at p1
    ·rename_i y hy
     obtain ⟨pp,rfl,hpp⟩:=q1.refI
     obtain ⟨p',hp',vs,hv,ra⟩:=s1.obj _ _ hn
     rw [hpp] at hp'; cases hp'
     have hm:pp ∈ w1.st:=Zl hpp
     obtain ⟨yv,hyv,ry⟩:=ra.get hy
     refine ⟨?_,pp,vs,yv,rfl,rfl,hv,by rw [ra.length]; exact hyv,ax.at p1 (Ext.mut hm hv) (RD.ext (Ext.mut hm hv) _ _ ry) ?_⟩
     ·exact tf s1 (d:=.ref n) (by unfold RD; exact ⟨pp,rfl,hpp⟩) (by simp only [isL,hn])
     ·exact s1.mut hpp hv ⟨_,aL,RDs.ext (Ext.mut hm hv) _ _ (tO ra)⟩
    ·exact p1.elim
   ·exact p1.elim
  ·exact p1.elim⟩⟩
end
section
variable {X:Cx} {E:XK} {a b c:Expr} {ma mb mc:EM} {pos:Pos}
theorem tP {op op':CmpOp} {f g:Sto->D->D->Option D} (ho:OpR X (compareOp op) (xO X.K E f)) (ho':OpR X (compareOp op') (xO X.K E g)) (ha:SE X E a ma) (hb:SE X E b mb) (hc:SE X E c mc)
  (hm:autoParam (lastMarks [op,op'] [b,c]=false) Au.h0._auto_1):ST X E (.Compare a [op,op'] [b,c] pos) (tV (eI f g ma mb mc)):=⟨
 iu (rY ho ho' ha.out hb.out hc.out hm) λs H Q q=>by
  obtain ⟨w,r,S,hr,hS,hp⟩:=sL q
  refine ⟨w,r,S,hr,hS,hp.bind hS λd S1 w1 H1 v x1 q1 s1 p1=>⟨w1,r,S1,hr.ext x1,s1,p1.bind s1 λe S2 w2 H2 u x2 q2 s2 p2=>?_⟩⟩
  refine ⟨w2,S2,d,e,s2,RD.ext x2 d v q1,q2,?_⟩
  cases hf:f S2 d e with
  | none=>rw [hf] at p2; exact p2.elim
  | some z=>
   rw [hf] at p2
   intro w3 H3 z' x3 q3 s3
   cases z with
   | bl k=>
    unfold RD at q3
    subst q3
    refine ⟨k,rfl,?_⟩
    cases k with
    | true=>
     refine kZ ⟨w3,r,S2,((hr.ext x1).ext x2).ext x3,s3,?_⟩
     have p3:=ax.ext p2 x3 s2 s3
     refine p3.bind s3 λt S4 w4 H4 u' x4 q4 s4 p4=>⟨w4,S4,e,t,s4,RD.ext x4 e u (RD.ext x3 e u q2),q4,p4⟩
    | false=>exact kY (ax.at p2 x3 (by unfold RD; rfl) s3)
   | _=>exact p2.elim⟩
end
section
variable {X:Cx} {E:XK} {a b:Expr} {es:List Expr} {ms:AM} {x:Str} {p pos:Pos}
omit X E a b es ms x p pos in
end
section
variable {X:Cx} {E:XK}
mutual
theorem z9 {σ:L2.St} (I:Inv X pins σ H s) (hz:H sysModules=none):∀ (d:D) (v:V) (u:Value) (p:PyData),RD X.K w H d v->RelV v u->toPy d=some p->∃ as,Reads s.heap u p as/\sysModules ∉ as
 | .non,v,u,p,q,r,h=>by cases q.non; cases (show u=Value.none from r); unfold toPy at h; cases h; exact ⟨_,.none,λz=>nomatch z⟩
 | .bl b,v,u,p,q,r,h=>by cases q.bl; cases (show u=Value.bool b from r); unfold toPy at h; cases h; exact ⟨_,.bool b,λz=>nomatch z⟩
 | .int i,v,u,p,q,r,h=>by cases q.int; obtain ⟨t,rfl⟩:=(show ∃ t,u=Value.int i t from r); unfold toPy at h; cases h; exact ⟨_,.int i t,λz=>nomatch z⟩
 | .str x,v,u,p,q,r,h=>by cases q.str; obtain ⟨t,rfl⟩:=(show ∃ t,u=Value.str x t from r); unfold toPy at h; cases h; exact ⟨_,.str x t,λz=>nomatch z⟩
 | .tup ds,v,u,p,q,r,h=>by
  obtain ⟨a,vs,rfl,z,rs⟩:=q.tupI
  cases (show u=Value.ref a from r)
  unfold toPy at h
  cases e:cX ds with
  | none=>rw [e] at h; cases h
  | some ps=>
   rw [e] at h; cases h
   obtain ⟨its,r1,⟨o,ho,hc,n,hd⟩,_⟩:=I.tuple (df z)
   obtain ⟨as,ra,hn⟩:=o2 I hz ds vs its ps rs r1 e
   exact ⟨as,.tuple ho hc hd ra,hn⟩
 | .lst ds,v,u,p,q,r,h=>by
  obtain ⟨a,vs,rfl,z,rs⟩:=q.lstI
  cases (show u=Value.ref a from r)
  unfold toPy at h
  cases e:cX ds with
  | none=>rw [e] at h; cases h
  | some ps=>
   rw [e] at h; cases h
   obtain ⟨its,r1,⟨o,n,ho,hc,_,hd⟩,_⟩:=I.list (SqL.of z.1)
   obtain ⟨as,ra,hn⟩:=o2 I hz ds vs its ps rs r1 e
   refine ⟨a :: as,.list ho hc hd ra,λhm=>?_⟩
   rcases Yn.mp hm with hm | hm
   ·have z1:=z.1
    rw [<- hm,hz] at z1; cases z1
   ·exact hn hm
 | .dic kvs,v,u,p,q,r,h=>by
  unfold RD at q
  obtain ⟨a,us,rfl,z,rk⟩:=q
  cases (show u=Value.ref a from r)
  unfold toPy at h
  cases e:fP kvs with
  | none=>rw [e] at h; cases h
  | some ps=>
   rw [e] at h; cases h
   obtain ⟨_,hsys,vs,kv,o,es,ep,ho,hex,hd,_,hp,_⟩:=(show bY X.prog X.w H s.heap a (.dK us) from I.hok a _ z.1)
   obtain ⟨as,bs,ra,rb,hn⟩:=tQ I hz kvs us vs es.toList ps rk kv hp e
   refine ⟨a :: as ++ bs,.dict ho hex.1 hd ra rb,λhm=>?_⟩
   rcases Z0.mp hm with hm | hm
   ·rcases Yn.mp hm with hm | hm
    ·rw [<- hm] at hsys; simp at hsys
    ·exact hn.1 hm
   ·exact hn.2 hm
 | .fz _,_,_,_,_,_,h=>by unfold toPy at h; cases h
 | .ref _,_,_,_,_,_,h=>by unfold toPy at h; cases h
 | .ty _,_,_,_,_,_,h=>by unfold toPy at h; cases h
 | .exc _,_,_,_,_,_,h=>by unfold toPy at h; cases h
 | .cls _,_,_,_,_,_,h=>by unfold toPy at h; cases h
theorem o2 {σ:L2.St} (I:Inv X pins σ H s) (hz:H sysModules=none):∀ (ds:List D) (vs:List V) (us:List Value) (ps:List PyData),RDs X.K w H ds vs->Vals vs us->cX ds=some ps->∃ as,ReadsAll s.heap us ps as/\sysModules ∉ as
 | [],vs,us,ps,q,r,h=>by
  rw [q.nil_inv] at r
  cases r
  unfold cX at h
  cases h
  exact ⟨_,.nil,λz=>nomatch z⟩
 | d :: ds,_,us,ps,q,r,h=>by
  obtain ⟨v,vs,rfl,p,t⟩:=q.cons_inv
  unfold cX at h
  cases e1:toPy d with
  | none=>rw [e1] at h; cases h
  | some p1=>
   cases e2:cX ds with
   | none=>rw [e1,e2] at h; cases h
   | some p2=>
    rw [e1,e2] at h; cases h
    cases r with
    | cons r1 r2=>
     obtain ⟨as,ra,h1⟩:=z9 I hz d v _ p1 p r1 e1
     obtain ⟨bs,rb,h2⟩:=o2 I hz ds vs _ p2 t r2 e2
     exact ⟨as ++ bs,.cons ra rb,λhm=>(Z0.mp hm).elim h1 h2⟩
theorem tQ {σ:L2.St} (I:Inv X pins σ H s) (hz:H sysModules=none):∀ (ds:List (Sum Int Str × D)) (us:List (Key × V)) (vs:List (Key × Value)) (es:List DictEntry) (ps:List (PyData × PyData)),RDk X.K w H ds us->KV us vs->Pairs (cZ X.prog X.w) es vs->fP ds=some ps->
  ∃ as bs,ReadsAll s.heap (es.map (·.key)) (ps.map (·.1)) as/\ReadsAll s.heap (es.map (·.val)) (ps.map (·.2)) bs/\sysModules ∉ as/\sysModules ∉ bs
 | [],us,vs,es,ps,q,r,hp,h=>by
  unfold RDk at q
  subst q
  cases r
  unfold fP at h
  cases h
  cases hp
  exact ⟨_,_,.nil,.nil,(λz=>nomatch z),(λz=>nomatch z)⟩
 | (k,d) :: ds,us,vs,es,ps,q,r,hp,h=>by
  unfold RDk at q
  obtain ⟨v,ur,rfl,p,t⟩:=q
  unfold fP at h
  cases e1:toPy d with
  | none=>rw [e1] at h; cases h
  | some p1=>
   cases e2:fP ds with
   | none=>rw [e1,e2] at h; cases h
   | some p2=>
    rw [e1,e2] at h; cases h
    cases r with
    | cons r1 r2=>
     cases hp with
     | cons hk hv hr=>
      rename_i q0 vr e0 es0
      obtain ⟨k',v'⟩:=q0
      obtain ⟨ek,rv⟩:=r1
      have ek':k=k':=ek
      subst ek'
      obtain ⟨as,ra,h1⟩:=z9 I hz d v _ p1 p rv e1
      obtain ⟨as2,bs2,ra2,rb2,h2⟩:=tQ I hz ds ur vr es0 p2 t r2 hr e2
      have hkey:∃ cs,Reads s.heap e0.key (tj k) cs/\cs=[]:=by
       rcases bq hk with ⟨i,tk,z1,z2⟩ | ⟨x,tk,z1,z2⟩
       ·have z1':k=Sum.inl i:=z1
        subst z1'
        rw [z2]
        exact ⟨_,.int i tk,rfl⟩
       ·have z1':k=Sum.inr x:=z1
        subst z1'
        rw [z2]
        exact ⟨_,.str x tk,rfl⟩
      obtain ⟨cs,rc,ec⟩:=hkey
      subst ec
      have hv':e0.val=v':=hv
      exact ⟨[] ++ as2,as ++ bs2,.cons rc ra2,.cons (by show Reads s.heap e0.val p1 as; rw [hv']; exact ra) rb2,by rw [Q6]; exact h2.1,λhm=>(Z0.mp hm).elim h1 h2.2⟩
end
variable {a:Expr} {ms:AM} {x1 x2:Str} {p1 p2 q1 q2:Pos}
end
noncomputable def fc:Sto->List D->Option D
 | _,[.int i]=>if i.natAbs.log2 < 1920 then some (.str (toString i)) else none
 | _,_=>none
noncomputable def qX:Sto->D->D->Option D
 | _,.str z,.int i=>if z.length<=sizeLine then (atI z.cps.toList i).map λc=>.str ⟨#[c]⟩ else none
 | S,x,y=>oIx S x y
noncomputable def iF (neg:Bool):Sto->D->D->Option D
 | _,.str i,.str j=>some (.bl (if neg then !(!(Builtin.Str.occurrences j i 0 j.length 1).isEmpty) else !(Builtin.Str.occurrences j i 0 j.length 1).isEmpty))
 | S,x,y=>oIn neg S x y
noncomputable def strsOf:List D->Option (List Str)
 | []=>some []
 | .str x :: r=>(strsOf r).map (x :: ·)
 | _=>none
noncomputable def ej:Sto->D->List D->R D
 | S,.str x,[.lst a]=>match strsOf a with
  | some ys=>if (ys.map (·.length)).sum + ys.length * x.length<=16777216 then .ok (.str (Txt.join x ys)) S else .bad
  | none=>.bad
 | _,_,_=>.bad
noncomputable def cD:Sto->D->List D->R D
 | S,.str x,[.str y]=>.ok (.bl (Txt.startswith x y)) S
 | _,_,_=>.bad
section
variable {X:Cx} {E:XK}
theorem fe:cF X (.type "str") (xC X.K E fc):=by
 rintro pins s σ H xs us Q I r ⟨w,S,ds,hS,qs,p⟩
 obtain ⟨z,hz,p'⟩:=p.of
 clear p
 unfold fc at hz
 split at hz
 ·split at hz
  ·rename_i hl
   cases hz
   obtain ⟨v,rfl,q⟩:=qs.one_inv
   cases q.int
   exact mf pins s σ H _ us Q I r ⟨_,rfl,hl,p'.ret RD.mkS hS⟩
  ·cases hz
 ·cases hz
theorem Eo:IxR X (xO X.K E qX):=by
 rintro va sl pins s σ H x y v u Q I rx ry ⟨w,S,d,e,hS,qd,qe,p⟩ hsub
 unfold qX at p
 split at p
 ·rename_i z i
  split at p
  ·rename_i hl
   obtain ⟨c0,hc,p'⟩:=p.of
   cases ha:atI z.cps.toList i with
   | none=>rw [ha] at hc; cases hc
   | some c=>
    rw [ha] at hc; cases hc
    cases qd.str
    cases qe.int
    exact sk va sl pins s σ H _ _ v u Q I rx ry (.inr (.inr ⟨z,i,c,rfl,rfl,hl,ha,p'.ret RD.mkS hS⟩)) hsub
  ·obtain ⟨_,hc,_⟩:=p.of
   cases hc
 ·exact bR va sl pins s σ H x y v u Q I rx ry ⟨w,S,_,_,hS,qd,qe,p⟩ hsub
theorem Ep:OpR X (compareOp .In) (xO X.K E (iF false)):=by
 rintro pins s σ H x y v u Q I rx ry ⟨w,S,d,e,hS,qd,qe,p⟩
 unfold iF at p
 split at p
 ·rename_i i j
  cases qd.str
  cases qe.str
  exact qv pins s σ H _ _ v u Q I rx ry ⟨i,j,rfl,rfl,p.ret RD.mkB hS⟩
 ·exact sU pins s σ H x y v u Q I rx ry ⟨w,S,_,_,hS,qd,qe,p⟩
theorem qY:OpR X (compareOp .NotIn) (xO X.K E (iF true)):=by
 rintro pins s σ H x y v u Q I rx ry ⟨w,S,d,e,hS,qd,qe,p⟩
 unfold iF at p
 split at p
 ·rename_i i j
  cases qd.str
  cases qe.str
  exact mr pins s σ H _ _ v u Q I rx ry ⟨i,j,rfl,rfl,p.ret RD.mkB hS⟩
 ·exact nM pins s σ H x y v u Q I rx ry ⟨w,S,_,_,hS,qd,qe,p⟩
theorem pW {K:PySem.W.Frag} :∀ {ds:List D} {vs:List V} {its:List Value} {ys:List Str},RDs K w H ds vs->Vals vs its->strsOf ds=some ys->StrsAre its ys
 | [],vs,its,ys,q,r,e=>by
  cases q.nil_inv
  cases r
  cases e
  exact .nil
 | d :: ds,vs,its,ys,q,r,e=>by
  obtain ⟨v,vs',rfl,q1,q2⟩:=q.cons_inv
  cases r with
  | cons r1 r2=>
   cases d with
   | str x=>
    cases e2:strsOf ds with
    | none=>unfold strsOf at e; rw [e2] at e; cases e
    | some zs=>
     unfold strsOf at e; rw [e2] at e; cases e
     cases q1.str
     obtain ⟨t,rfl⟩:=r1
     exact .cons _ _ (pW q2 r2 e2)
   | _=>unfold strsOf at e; cases e
theorem iG:MtR X "str.join" (xM X.K E ej):=by
 rintro pins s σ H x xs v us Q I rx rs ⟨w,S,d,ds,hS,qd,qs,p⟩
 unfold ej at p
 split at p
 ·rename_i x0 a
  split at p
  ·rename_i ys hy
   split at p
   ·rename_i hl
    cases qd.str
    obtain ⟨yv,rfl,qy⟩:=qs.one_inv
    obtain ⟨pa,vs,rfl,za,ra⟩:=qy.lstI
    obtain ⟨t,rfl⟩:=rx
    obtain ⟨u,rfl,ru⟩:=vals1 rs
    cases ru
    obtain ⟨its,r1,⟨o,n,ho,hcl,hdn,hd⟩,_⟩:=I.list (SqL.of za.1)
    have hli:s.heap.IsList pa its.toArray:=⟨o,ho,hcl,n,hd⟩
    exact join_list hli (pW ra r1 hy) hl λt' k=>⟨.str _,H,I.tok _,⟨_,rfl⟩,p.ret RD.mkS hS⟩
   ·exact p.elim
  ·exact p.elim
 ·exact p.elim
theorem lN:MtR X "str.startswith" (xM X.K E cD):=by
 rintro pins s σ H x xs v us Q I rx rs ⟨w,S,d,ds,hS,qd,qs,p⟩
 unfold cD at p
 split at p
 ·rename_i x0 y0
  cases qd.str
  obtain ⟨yv,rfl,qy⟩:=qs.one_inv
  cases qy.str
  obtain ⟨t,rfl⟩:=rx
  obtain ⟨u,rfl,ru⟩:=vals1 rs
  obtain ⟨t2,rfl⟩:=ru
  exact SC.startswith ⟨.bl _,H,I,rfl,p.ret RD.mkB hS⟩
 ·exact p.elim
noncomputable def dB (f:Sto->D->List D->R D) (o:EM) (t:AM):EM:=λr S=>(o r S).bind λx S1=>match x with
 | .str _=>(t r S1).bind λys S2=>f S2 x ys
 | _=>.bad
theorem eO {o e:Expr} {es:List Expr} {mo:EM} {ms:AM} {name:Str} {apos cpos:Pos} {id:String} {f:Sto->D->List D->R D} (pa:PlainAttrs "str") (slot:Slot "str" name id) (hty:typeOf (.builtin id)=pure (.type "method_descriptor")) (hm:MtR X id (xM X.K E f))
  (ho:SE X E o mo) (ha:SA X E (e :: es) ms) (hbase:autoParam (attributeBase o name X.env (eval o X.env)=eval o X.env) Au.h0._auto_1)
  (hfew:autoParam (((backTo cpos (starEach (e :: es) X.env)).all (λx=>!x.1) && (backToKw cpos (keywordEach [] X.env)).all (λx=>x.1.isSome)
   && decide ((e :: es).length + ([]:List Keyword).length + (if ([]:List Keyword).isEmpty then 0 else 1) < 30))=true) Au.h0._auto_1)
  (hline:autoParam ((apos.endLine == cpos.line)=true) Au.h0._auto_1) (hs:autoParam (starEach (e :: es) X.env=(false,eval e X.env) :: starEach es X.env) Au.h0._auto_1) (hplain:autoParam ((backTo cpos (starEach es X.env)).any (·.1)=false) Au.h0._auto_1):
  SE X E (.Call (.Attribute o name apos) (e :: es) [] cpos) (dB f mo ms):=⟨
 aH (zY pa slot hty hm ho.out ha.out hbase hfew hline hs hplain) λs H Q zq=>ex6 zq λw r S hr hS hp=>⟨w,r,S,hr,hS,hp.bind hS λd S1 w1 H1 v x1 q1 s1 p1=>by
  cases d with
  | str z=>
   cases q1.str
   exact ⟨rfl,w1,r,S1,hr.ext x1,s1,ax.bind (f:=λys S2=>f S2 (.str z) ys) p1 s1 λds S2 w2 H2 us x2 q2 s2 p2=>⟨w2,S2,.str z,ds,s2,RD.mkS,q2,p2⟩⟩
  | _=>exact p1.elim⟩⟩
end
end PD
namespace L2
open PySem PySem.Spec PyProof.Rows
section
open Builtin Builtin.Str
theorem tR {prog:Program} {w:World} {A:Around} {E:Value->Shared->Prop} {s:Shared} {x y:Str} {t u:Tok} {Q:Value->Shared->Prop} (hy:(y.length == 0)=false) (hsz:x.length<=sizeLine) (hsz2:(partsBetween x (occurrences x y 0 x.length (x.length + 1)) y.length).length<=sizeLine)
  (hq:∀ (l:List (Str × Tok)) (k:Nat),l.map (·.1)=Txt.split x y->Q (.ref s.heap.objs.size) { s with heap:=s.heap.push { cls:=.type "list",data:=.seq (strValues l).toArray },toks:=k }):
  wpAny (model prog w) A (call (.builtin "str.split") [.str x t,.str y u]) Q E s:=by
 have go {C:PySem.Spec} (m:Meets («str.split» ⟨[.str x t,.str y u],[]⟩) C):=Qk (prog:=prog) (w:=w) (A:=A) (E:=E) (s:=s) (Q:=Q) (rest:=[.str y u]) F.slot_str_split (typeIs_str s x t) F.entry_str_split (F.args_str_split_2 _ _) m
 cases c1:(decide (x.length < y.length) || decide (strKind x < strKind y)) with
 | true=>exact go (meets_str_split_cannot_occur x y t u c1) (hq [(x,t)] s.toks (Y9 c1).symm)
 | false=>
  cases c2:(occurrences x y 0 x.length (x.length + 1)).isEmpty with
  | true=>exact go (meets_str_split_not_found x y t u c1 hy c2) (hq [(x,t)] s.toks ((Yg (Wp c1)).trans (Y9 c2)).symm)
  | false=>
   refine go (meets_str_split_sep x y t u c1 hy c2 hsz hsz2) ?_
   have e:=strsFrom_eq s.toks (partsBetween x (occurrences x y 0 x.length (x.length + 1)) y.length)
   have k:=hq (numbered s.toks (partsBetween x (occurrences x y 0 x.length (x.length + 1)) y.length)) (s.toks + (partsBetween x (occurrences x y 0 x.length (x.length + 1)) y.length).length) ((numbered_texts _ _).trans ((Yg (Wp c1)).trans (Yg (Wp c2))).symm)
   rw [<- e] at k
   exact k
end
noncomputable def Its (x:Str):It:=⟨λi _=>i < x.cps.size,λi H v H'=>H'=H/\∃ c,x.cps[i]?=some c/\v=.str ⟨#[c]⟩,λi _=>x.cps.size<=i⟩
theorem o3 {P:Program} {w:World} {K:PySem.W.Frag} {tg:Expr} (it:Addr) (x:Str) (t:Tok):Turn false P w K tg (Its x) [it] it (λi h=>h.IsStrIter it "str_ascii_iterator" x t i) where
 mem:=by simp
 obj:=λi h st b hb=>by
  have e:b=it:=by simpa using hb
  subst e
  obtain ⟨o,ho,_,hd⟩:=st
  exact ⟨o,ho,λv z=>by rw [hd] at z; cases z⟩
 keep:=λi h h' ⟨o,ho,r⟩ k=>⟨o,k it (by simp) _ ho,r⟩
 item:=by
  intro X hP hw hK hc i pins s σ H E I hf st hg
  subst hP hw hK
  obtain ⟨f0,f1,f2,f3,f4,f5⟩:=hf it (by simp)
  have hg':i < x.cps.size:=hg
  refine wpAny_pyNext_ascii_item st (Qc hg') λh' st' kk=>?_
  have I1:Inv X pins σ H { s with heap:=h',toks:=s.toks + 1 }:=I.turned (λb o hb e=>(kk.2 b hb).trans e) f0 f1 f3 f4 f5
  obtain ⟨o,ho,hcl,hd⟩:=id st'
  exact ⟨_,rfl,nt (s:={ s with heap:=h',toks:=s.toks + 1 }) (n:="str_ascii_iterator") ho hcl hd (by decide) ⟨.str ⟨#[x.cps[i]]⟩,H,I1,⟨s.toks,rfl⟩,⟨rfl,_,Qc hg',rfl⟩,st',λb hb=>(hf b hb).1⟩⟩
 done:=by
  intro X hP hw hK hc i pins s σ H E I hf st hg
  subst hP hw hK
  obtain ⟨f0,f1,f2,f3,f4,f5⟩:=hf it (by simp)
  have hg':x.cps.size<=i:=hg
  exact wpAny_pyNext_ascii_end (I.ok.hd hc.cm) st (Array.getElem?_eq_none hg') λh' eb=>⟨rfl,I.turned (t':=s.toks) (λb o hb e=>eb b o hb e) f0 f1 f3 f4 f5⟩
 self:=λ_ _ _ _ _ st h=>wpAny_pyIter_striter_ascii st h
theorem qZ {P:Program} {w:World} {K:PySem.W.Frag} {tg:Expr} (it:Addr) (x:Str) (t:Tok):Turn false P w K tg (Its x) [it] it (λi h=>h.IsStrIter it "str_iterator" x t i) where
 mem:=by simp
 obj:=λi h st b hb=>by
  have e:b=it:=by simpa using hb
  subst e
  obtain ⟨o,ho,_,hd⟩:=st
  exact ⟨o,ho,λv z=>by rw [hd] at z; cases z⟩
 keep:=λi h h' ⟨o,ho,r⟩ k=>⟨o,k it (by simp) _ ho,r⟩
 item:=by
  intro X hP hw hK hc i pins s σ H E I hf st hg
  subst hP hw hK
  obtain ⟨f0,f1,f2,f3,f4,f5⟩:=hf it (by simp)
  have hg':i < x.cps.size:=hg
  refine wpAny_pyNext_wide_item st (Qc hg') λh' st' kk=>?_
  have I1:Inv X pins σ H { s with heap:=h',toks:=s.toks + 1 }:=I.turned (λb o hb e=>(kk.2 b hb).trans e) f0 f1 f3 f4 f5
  obtain ⟨o,ho,hcl,hd⟩:=id st'
  exact ⟨_,rfl,nt (s:={ s with heap:=h',toks:=s.toks + 1 }) (n:="str_iterator") ho hcl hd (by decide) ⟨.str ⟨#[x.cps[i]]⟩,H,I1,⟨s.toks,rfl⟩,⟨rfl,_,Qc hg',rfl⟩,st',λb hb=>(hf b hb).1⟩⟩
 done:=by
  intro X hP hw hK hc i pins s σ H E I hf st hg
  subst hP hw hK
  obtain ⟨f0,f1,f2,f3,f4,f5⟩:=hf it (by simp)
  have hg':x.cps.size<=i:=hg
  exact wpAny_pyNext_wide_end (I.ok.hd hc.cm) st (Array.getElem?_eq_none hg') λh' eb=>⟨rfl,I.turned (t':=s.toks) (λb o hb e=>eb b o hb e) f0 f1 f3 f4 f5⟩
 self:=λ_ _ _ _ _ st h=>wpAny_pyIter_striter_wide st h
section
variable {X:Cx} {tg:Expr}
noncomputable def Ko (tl:TE):TI:=λσ H R=>tl σ H λv H1=>∃ x,v=.str x/\R (Its x) H1
theorem Er {l:Expr} {tl:TE} (hl:PE X l tl):PI X tg l (Ko tl):=by
 intro pins s σ H R I h
 refine thn (hl pins s σ H _ I h) λv s1 zq=>?_
 obtain ⟨y,H1,I1,r1,q1⟩:=zq
 obtain ⟨x,e,q⟩:=q1
 subst e
 obtain ⟨t,rfl⟩:=r1
 cases ha:x.cps.all (· < 128) with
 | true=>
  refine wpAny_pyIter_ascii ha ?_
  refine ⟨s1.heap.objs.size,[s1.heap.objs.size],_,_,H1,rfl,I1.kept (t':=s1.toks) λb o e=>Y8 _ e,o3 _ x t,⟨_,Yp _ rfl,rfl,rfl⟩,λb hb=>?_,q⟩
  have e:b=s1.heap.objs.size:=by simpa using hb
  subst e
  exact I1.fpOk (Yd _) (I1.hok.fresh (Yd _))
 | false=>
  refine wpAny_pyIter_wide ha ?_
  refine ⟨s1.heap.objs.size,[s1.heap.objs.size],_,_,H1,rfl,I1.kept (t':=s1.toks) λb o e=>Y8 _ e,qZ _ x t,⟨_,Yp _ rfl,rfl,rfl⟩,λb hb=>?_,q⟩
  have e:b=s1.heap.objs.size:=by simpa using hb
  subst e
  exact I1.fpOk (Yd _) (I1.hok.fresh (Yd _))
end
end L2
namespace PD
open PySem PySem.Spec PyProof.Rows L2
variable {a:Expr} {ma:EM} {x:Str} {pos:Pos} {mg:Str→Option Value} {P:Program} {w:World} {base:Heap} {k n:Nat}
noncomputable def eU:Sto->List D->Option D
 | _,[.str x]=>if x.length<=640 then (intText? x).map .int else none
 | S,ds=>yS S ds
noncomputable def fh:Sto->D->List D->R D
 | S,.str x,[.str y]=>if (y.length == 0)=false/\x.length<=sizeLine/\(Builtin.Str.partsBetween x (Builtin.Str.occurrences x y 0 x.length (x.length + 1)) y.length).length<=sizeLine/\(Txt.split x y).length<=sizeLine then .ok (.lst ((Txt.split x y).map .str)) S else .bad
 | _,_,_=>.bad
noncomputable def fX:Sto->D->Option Int->Option Int->Option D
 | _,.str x,lo,hi=>if x.length<=sizeLine then some (.str (Txt.slice x lo hi)) else none
 | S,d,lo,hi=>ez S d lo hi
noncomputable def chs (x:Str):List D:=x.cps.toList.map λc=>.str ⟨#[c]⟩
noncomputable def jz:Sto->D->Option (List D)
 | _,.str x=>some (chs x)
 | _,_=>none
section
variable {X:Cx} {E:XK}
theorem gK:cF X (.type "int") (xC X.K E eU):=by
 rintro pins s σ H xs us Q I r ⟨w,S,ds,hS,qs,p⟩
 by_cases hd:∃ x,ds=[.str x]
 ·obtain ⟨x,rfl⟩:=hd
  obtain ⟨z,hz,p'⟩:=p.of
  clear p
  unfold eU at hz
  simp only at hz
  split at hz
  ·rename_i hl
   cases hn:intText? x with
   | none=>rw [hn] at hz; cases hz
   | some n=>
    rw [hn] at hz
    cases hz
    obtain ⟨v,rfl,q⟩:=qs.one_inv
    cases q.str
    obtain ⟨u,rfl,ru⟩:=vals1 r
    obtain ⟨t,rfl⟩:=ru
    exact PySem.W.KIN.call_text hn hl ⟨.int n,H,I.tok _,⟨_,rfl⟩,p'.ret RD.mkI hS⟩
  ·cases hz
 ·have e:eU S ds=yS S ds:=by
   unfold eU
   split
   ·exact (hd ⟨_,rfl⟩).elim
   ·rfl
  rw [e] at p
  exact D8 pins s σ H xs us Q I r ⟨w,S,ds,hS,qs,p⟩
theorem ki {K:PySem.W.Frag} {w:Wd} {H:Hp}:∀ ys:List Str,RDs K w H (ys.map .str) (ys.map V.str)
 | []=>by unfold RDs; trivial
 | y :: ys=>RDs.cons RD.mkS (ki ys)
theorem lO:∀ l:List (Str × Tok),Vals ((l.map (·.1)).map V.str) (strValues l)
 | []=>.nil
 | p :: l=>.cons ⟨p.2,rfl⟩ (lO l)
theorem iH:MtR X "str.split" (xM X.K E fh):=by
 rintro pins s σ H x xs v us Q I rx rs ⟨w,S,d,ds,hS,qd,qs,p⟩
 unfold fh at p
 split at p
 ·rename_i x0 y0
  split at p
  ·rename_i hl
   cases qd.str
   obtain ⟨yv,rfl,qy⟩:=qs.one_inv
   cases qy.str
   obtain ⟨t,rfl⟩:=rx
   obtain ⟨u,rfl,ru⟩:=vals1 rs
   obtain ⟨t2,rfl⟩:=ru
   refine tR hl.1 hl.2.1 hl.2.2.1 λl k e=>?_
   have hf:H s.heap.objs.size=none:=I.hok.fresh (Yd _)
   refine ⟨.ref s.heap.objs.size,_,I.laid (t':=k) (o:=.lst ((Txt.split x0 y0).map V.str)) (λb ob q=>Y8 _ q) (Yd _) ?_,rfl,p.at (Ext.new hf) (RD.newLst hS hf (ki _)) (hS.new hf)⟩
   exact ⟨by rw [Ym]; exact hl.2.2.2,_,0,by rw [<- e]; exact lO l,Yp _ rfl⟩
  ·exact p.elim
 ·exact p.elim
theorem kj:SlR X (xL X.K E fX):=by
 rintro pins s σ H x v vl vu lo hi sl Q I rx hs pl pu ⟨w,S,d,hS,qd,p⟩
 by_cases hd:∃ z,d=.str z
 ·obtain ⟨z,rfl⟩:=hd
  obtain ⟨y,hy,p'⟩:=p.of
  clear p
  unfold fX at hy
  simp only at hy
  split at hy
  ·rename_i hl
   cases hy
   cases qd.str
   obtain ⟨t,rfl⟩:=rx
   refine ⟨"str",_,F.slot_str_getitem.lookup,typeIs_str _ _ _,?_⟩
   have done:∀ {l u:Option (Int × Tok)},s.heap.IsSlice sl l u none->l.map (·.1)=lo->u.map (·.1)=hi->wpAny (model X.prog X.w) X.A (getItem (.str z t) (.ref sl)) (EP X pins σ Q) X.xe s:=λ{l u} h1 h2 h3=>by
    subst h2
    subst h3
    exact wpAny_getItem_str_slice (l:=l) (u:=u) (st:=none) h1 rfl (post_val_or_str ⟨Z9 (Txt.slice_le z _ _) hl,λt' k=>⟨.str _,H,I.tok _,⟨_,rfl⟩,p'.ret RD.mkS hS⟩⟩)
   obtain ⟨o,h1,h2,h3⟩:=hs
   cases pl with
   | none=>
    cases pu with
    | none=>exact done (l:=none) (u:=none) ⟨o,h1,h2,h3⟩ rfl rfl
    | int j uj=>exact done (l:=none) (u:=some (j,uj)) ⟨o,h1,h2,h3⟩ rfl rfl
   | int i ui=>
    cases pu with
    | none=>exact done (l:=some (i,ui)) (u:=none) ⟨o,h1,h2,h3⟩ rfl rfl
    | int j uj=>exact done (l:=some (i,ui)) (u:=some (j,uj)) ⟨o,h1,h2,h3⟩ rfl rfl
  ·cases hy
 ·have e:fX S d lo hi=ez S d lo hi:=by
   unfold fX
   split
   ·exact (hd ⟨_,rfl⟩).elim
   ·rfl
  rw [e] at p
  exact fD pins s σ H x v vl vu lo hi sl Q I rx hs pl pu ⟨w,S,d,hS,qd,p⟩
theorem tS {tg:Expr} (ha:SE X E a ma):SI X E tg a (cV ma jz):=⟨
 iw (Er ha.out) λs H Q zq=>ex6 zq λw r S hr hS hp=>⟨w,r,S,hr,hS,hp.bind hS λd S1 w1 H1 v x1 q1 s1 p1=>by
  cases d with
  | str x=>
   cases q1.str
   refine ⟨x,rfl,ax.ret p1 ?_ s1⟩
   intro i w' H' x'
   refine ⟨λhi=>⟨by unfold chs at hi; rw [Ym] at hi; exact hi,λy H'' h=>?_⟩,λhi=>by unfold chs at hi; rw [Ym] at hi; exact hi⟩
   obtain ⟨rfl,c,hc,rfl⟩:=h
   refine ⟨.inl rfl,λS _=>⟨.str ⟨#[c]⟩,?_,RD.mkS⟩⟩
   unfold chs
   rw [Q3,Array.getElem?_toList,hc]; rfl
  | _=>exact p1.elim⟩⟩
end
section
variable {X:Cx} {E:XK}
theorem HE {y:Str} (hm:∃ t,X.mg x=some (.str y t)) (hg:Gl X x) (hd:autoParam ((x == ("__debug__":Str))=false) Au.h3._auto_1):SE X E (.Name x pos) (eC (.str y)):=by
 obtain ⟨t,hm⟩:=hm
 exact mz (gF hg hm (v:=.str y) ⟨t,rfl⟩ hd) λ_ _=>RD.mkS
end
noncomputable def lkF:Option Addr->Value->Bool
 | none,_=>true
 | some a,.ref b=>b == a
 | some _,_=>false
theorem Es {d:Option Addr} {v:Value} (h:lkF d v=true):∀ a,d=some a->v=.ref a:=by
 intro a e
 subst e
 cases v with
 | ref b=>rw [Wu (show (b == a)=true from h)]
 | _=>cases h
theorem tT (prog:Program) (w:World) {δ:Type} {R:δ->Value->Prop} {es:List DictEntry} {D:List (Str × δ)} (h:KTD.Rows R es D):es.map (·.hash)=D.map (λp=>hashStr w p.1)->
  (∀ e ∈ es,∃ k,(PySem.strKind prog w).is k e.key=true/\e.hash=(PySem.strKind prog w).hash k)/\∃ kvs:List (Str × Value),Pairs (PySem.strKind prog w) es kvs/\kvs.map (·.1)=D.map (·.1)/\∀ k,(∀ d,KTD.datumAt k D=some d->∃ v,valueAt kvs k=some v/\R d v)/\(KTD.datumAt k D=none->valueAt kvs k=none):=by
 induction h with
 | nil=>exact λ_=>⟨(λ_ h=>(nomatch h)),[],.nil,rfl,λk=>⟨λd h=>(by cases h),λ_=>rfl⟩⟩
 | @cons e x t d es D hkey hv _ ih=>
  intro hh
  rw [Yc,Yc] at hh
  injection hh with h1 h2
  obtain ⟨hk,kvs,hp,hm,hf⟩:=ih h2
  have hi:(PySem.strKind prog w).is x e.key=true:=by rw [hkey]; exact strKind_is prog w x t
  refine ⟨λe' he'=>?_,(x,e.val) :: kvs,.cons hi rfl hp,by rw [Yc,Yc,hm],λk=>?_⟩
  ·cases he' with
   | head=>exact ⟨x,hi,h1⟩
   | tail _ he'=>exact hk e' he'
  ·by_cases hx:k=x
   ·subst hx
    have e1:KTD.datumAt k ((k,d) :: D)=some d:=by show (if decide (k=k)=true then some d else _)=_; rw [Y9 (by simp)]
    have e2:valueAt ((k,e.val) :: kvs) k=some e.val:=by simp [valueAt]
    rw [e1,e2]
    exact ⟨λd' h'=>by cases h'; exact ⟨_,rfl,hv⟩,λh'=>by cases h'⟩
   ·have e1:KTD.datumAt k ((x,d) :: D)=KTD.datumAt k D:=by show (if decide (k=x)=true then some d else _)=_; rw [Yg (by simp [hx])]
    have e2:valueAt ((x,e.val) :: kvs) k=valueAt kvs k:=by
     have:¬ x=k:=λz=>hx z.symm
     simp [valueAt,this]
    rw [e1,e2]
    exact hf k
structure TabF (K:PySem.W.Frag) (mg:Str->Option Value) (w:World) (x:Str) (L:List (Str × Option Str)):Prop where
 ex:∃ (a:Addr) (D:List (Str × Option Addr)),mg x=some (.ref a)/\KTD.tabLook lkF (λb=>K.lookup b) a D=true/\KTD.hashesOf (λb=>K.lookup b) a=D.map (λp=>hashStr w p.1)/\(D.map (·.1)).Nodup/\
  D.map (λp=>(p.1,p.2.map λq=>some (Value.ref q)))=L.map λp=>(p.1,p.2.map mg)
theorem pX {K:PySem.W.Frag} {h:Heap} (X:K.In h) (G:h.Ns mainGlobals mg) {w:World} {a:Addr} {D:List (Str × Option Addr)} {L:List (Str × Option Str)} (hn:PySem.W.nsIn K mainGlobals x=some (some (.ref a)))
  (hl:KTD.tabLook lkF (λb=>K.lookup b) a D=true) (hh:KTD.hashesOf (λb=>K.lookup b) a=D.map (λp=>hashStr w p.1)) (hd:(D.map (·.1)).Nodup) (hL:D.map (λp=>(p.1,p.2.map λq=>some (Value.ref q)))=L.map λp=>(p.1,p.2.map mg)):TabF K mg w x L:=
 ⟨a,D,Yb X G hn,hl,hh,hd,hL⟩
theorem kl:∀ {D:List (Str × Option Addr)} {L:List (Str × Option Str)},D.map (λp=>(p.1,p.2.map λq=>some (Value.ref q)))=L.map (λp=>(p.1,p.2.map mg))->∀ k:Str,
  (KTD.inKeys k D=KTD.inKeys k L)/\∀ n,KTD.datumAt k L=some (some n)->∃ a,KTD.datumAt k D=some (some a)/\mg n=some (.ref a)
 | [],[],_,k=>⟨rfl,λn h=>by cases h⟩
 | [],_ :: _,h,_=>by cases h
 | _ :: _,[],h,_=>by cases h
 | (x,d) :: D,(y,o) :: L,h,k=>by
  rw [Yc,Yc] at h
  injection h with h1 h2
  injection h1 with h3 h4
  obtain rfl:x=y:=h3
  obtain ⟨i1,i2⟩:=kl h2 k
  by_cases hx:k=x
  ·subst hx
   have e1:KTD.datumAt k ((k,d) :: D)=some d:=by show (if decide (k=k)=true then some d else _)=_; rw [Y9 (by simp)]
   have e2:KTD.datumAt k ((k,o) :: L)=some o:=by show (if decide (k=k)=true then some o else _)=_; rw [Y9 (by simp)]
   rw [<- Zu,<- Zu,e1,e2]
   refine ⟨rfl,λn hn=>?_⟩
   cases hn
   cases d with
   | none=>cases h4
   | some q=>
    have h5:some (some (Value.ref q))=some (mg n):=h4
    injection h5 with h6
    exact ⟨q,rfl,h6.symm⟩
  ·have e1:KTD.datumAt k ((x,d) :: D)=KTD.datumAt k D:=by show (if decide (k=x)=true then some d else _)=_; rw [Yg (by simp [hx])]
   have e2:KTD.datumAt k ((x,o) :: L)=KTD.datumAt k L:=by show (if decide (k=x)=true then some o else _)=_; rw [Yg (by simp [hx])]
   rw [<- Zu,<- Zu,e1,e2,Zu,Zu]
   exact ⟨i1,i2⟩
section
variable {X:Cx} {E:XK} {pos p1:Pos} {x:Str}
theorem pY {pins:List (Addr × Obj)} {s:Shared} {σ:L2.St} {H:Hp} {a:Addr} {D:List (Str × Option Addr)} (I:Inv X pins σ H s) (hl:KTD.tabLook lkF (λb=>X.K.lookup b) a D=true) (hh:KTD.hashesOf (λb=>X.K.lookup b) a=D.map (λp=>hashStr X.w p.1)) (hn:(D.map (·.1)).Nodup):
  (a == sysModules)=false/\∃ kvs:List (Str × Value),s.heap.DictOf (PySem.strKind X.prog X.w) a kvs/\∀ k,(∀ q,KTD.datumAt k D=some (some q)->valueAt kvs k=some (.ref q))/\(valueAt kvs k).isSome=KTD.inKeys k D:=by
 obtain ⟨h0,o,es,ep,ho,hc,hd,hr⟩:=KTD.tab_of_look (R:=λ(d:Option Addr) (v:Value)=>∀ q,d=some q->v=.ref q) (λd v q=>Es q) (h:=s.heap) (λb o e=>I.kIn b o e) hl
 have hh':es.toList.map (·.hash)=D.map (λp=>hashStr X.w p.1):=by
  rw [<- hh]
  unfold KTD.hashesOf
  unfold KTD.tabLook at hl
  split at hl
  ·rename_i o' ho'
   have:o'=o:=by
    have h1:=I.kIn a o' ho'
    rw [h1] at ho
    cases ho; rfl
   subst this
   simp only [ho',hd]
  ·simp at hl
 obtain ⟨hk,kvs,hp,hm,hf⟩:=tT X.prog X.w hr hh'
 refine ⟨h0,kvs,⟨o,es,ep,ho,hc,hd,λe he=>hk e (by simpa using he),hp,by rw [hm]; exact hn⟩,λk=>⟨λq hq=>?_,?_⟩⟩
 ·obtain ⟨v,hv,hr⟩:=(hf k).1 _ hq
  rw [hv,hr q rfl]
 ·rw [<- Zu]
  cases hd:KTD.datumAt k D with
  | none=>rw [(hf k).2 hd]; rfl
  | some d=>
   obtain ⟨v,hv,_⟩:=(hf k).1 d hd
   rw [hv]; rfl
noncomputable def rg (L:List (Str × Option Str)) (ma:EM):EM:=λr S=>(ma r S).bind λy S1=>match y with
 | .str k=>.ok (.bl (KTD.inKeys k L)) S1
 | _=>.bad
noncomputable def Kp (a:Addr) (L:List (Str × Option Str)):R2:=λx y H Q=>y=.ref a/\∃ k,x=.str k/\Q (.bl (KTD.inKeys k L)) H
theorem tU {L:List (Str × Option Str)} (h:TabF X.K X.mg X.w x L) (hg:Gl X x) (ha:SE X E a ma) (hm:autoParam (behindInMarks .In (.Name x p1)=false) Au.h0._auto_1) (hd:autoParam ((x == ("__debug__":Str))=false) Au.h3._auto_1):SE X E (.Compare a [.In] [.Name x p1] pos) (rg L ma):=by
 obtain ⟨q,D,hmg,hl,hh,hn,hL⟩:=h.ex
 have ho:OpR X (compareOp .In) (Kp q L):=by
  rintro pins s σ H x y v u Q I rx ry ⟨rfl,k,rfl,z⟩
  cases ry
  obtain ⟨t,rfl⟩:=rx
  obtain ⟨h0,kvs,hD,hk⟩:=pY I hl hh hn
  exact wpAny_in_of (strKind_is X.prog X.w k t) h0 hD.mapOf (by rw [(hk k).2,(kl hL k).1]; exact ⟨.bl _,H,I.tok _,rfl,z⟩)
 refine ⟨aH (pB ho ha.out (gF hg hmg (v:=.ref q) rfl hd) hm) λs H Q zq=>?_⟩
 obtain ⟨w,r,S,hr,hS,hp⟩:=zq
 exact ⟨w,r,S,hr,hS,hp.bind hS λd S1 w1 H1 v x1 q1 s1 p1=>⟨rfl,by
  cases d with
  | str k=>cases q1.str; exact ⟨k,rfl,ax.ret p1 RD.mkB s1⟩
  | _=>exact p1.elim⟩⟩
noncomputable abbrev Dsp:=List (Str × Option (Str × FM))
noncomputable def Dsp.nm (T:Dsp):List (Str × Option Str):=T.map λp=>(p.1,p.2.map (·.1))
noncomputable def km (T:Dsp) (mb:EM) (ms:AM):EM:=λr S=>(mb r S).bind λy S1=>match y with
 | .str key=>match KTD.datumAt key T with
  | some (some nf)=>(ms r S1).bind λxs S2=>nf.2 xs S2
  | _=>.bad
 | _=>.bad
structure DspR (P:Program) (w:World) (K:PySem.W.Frag) (mg:Str->Option Value) (base:Heap) (k n:Nat) (T:Dsp):Prop where
 all:∀ key nf,KTD.datumAt key T=some (some nf)->DefR P w K mg base nf.1 k n nf.2
theorem jS {K:PySem.W.Frag} :DspR P w K mg base k n []:=⟨λ_ _ h=>by cases h⟩
theorem dC {K:PySem.W.Frag} {T:Dsp} {x:Str} (h:DspR P w K mg base k n T):DspR P w K mg base k n ((x,none) :: T):=⟨λkey nf e=>by
 have e':(if decide (key=x)=true then some none else KTD.datumAt key T)=some (some nf):=e
 split at e'
 ·cases e'
 ·exact h.all key nf e'⟩
theorem jT {K:PySem.W.Frag} {T:Dsp} {x nm:Str} {f:FM} (d:DefR P w K mg base nm k n f) (h:DspR P w K mg base k n T):DspR P w K mg base k n ((x,some (nm,f)) :: T):=⟨λkey nf e=>by
 have e':(if decide (key=x)=true then some (some (nm,f)) else KTD.datumAt key T)=some (some nf):=e
 split at e'
 ·cases e'; exact d
 ·exact h.all key nf e'⟩
theorem DefR.up {K:PySem.W.Frag} {nm:Str} {k':Nat} {f:FM} (d:DefR P w K mg base nm k n f) (h:k<=k'):DefR P w K mg base nm k' n f:=by
 obtain ⟨fa,fd,ps,hm,hk,hb,F⟩:=d.ex
 exact ⟨fa,fd,ps,hm,hk,hb,F.mono h⟩
theorem Aa {key:Str} {nf:Str × FM}:∀ {T:Dsp},KTD.datumAt key T=some (some nf)->KTD.datumAt key T.nm=some (some nf.1)
 | [],h=>by cases h
 | (x,o) :: T,h=>by
  have h':(if decide (key=x)=true then some o else KTD.datumAt key T)=some (some nf):=h
  show (if decide (key=x)=true then some (o.map (·.1)) else KTD.datumAt key (Dsp.nm T))=_
  split at h'
  ·rename_i c; cases h'; rw [Y9 c]; rfl
  ·rename_i c; rw [Yg c]; exact Aa h'
theorem jU {b:Expr} {es:List Expr} {mb:EM} {ms:AM} {T:Dsp} {p2:Pos} (D:DspR X.prog X.w X.K X.mg X.base k n T) (h:TabF X.K X.mg X.w x T.nm) (hx:Passes (CX1 X.prog X.w) X E) (hr:Room k X.A) (hg:Gl X x) (hb:SE X E b mb) (ha:SA X E (a :: es) ms) (hn:lb ms n)
  (hs:mm b:=by intro _ _; kernel_rfl) (hdb:autoParam ((x == ("__debug__":Str))=false) Au.h3._auto_1)
  (hc:autoParam (eval (.Call (.Subscript (.Name x p1) b p2) (a :: es) [] pos) X.env=(do callWith pos (<- eval (.Subscript (.Name x p1) b p2) X.env) [] (backTo pos (starEach (a :: es) X.env)) (backToKw pos (keywordEach [] X.env)))) Au.h0._auto_1)
  (he:autoParam (starEach (a :: es) X.env=(false,eval a X.env) :: starEach es X.env) Au.h0._auto_1) (hpl:autoParam ((backTo pos (starEach es X.env)).any (·.1)=false) Au.h0._auto_1):
  SE X E (.Call (.Subscript (.Name x p1) b p2) (a :: es) [] pos) (km T mb ms):=by
 obtain ⟨q0,L,hmg,hl,hh,hnd,hL⟩:=h.ex
 refine ⟨λpins s σ H Q I ⟨w,r,S,hrr,hS,hp⟩=>Call_ (Subscript_ (thn (gF (pos:=p1) hg hmg (v:=.ref q0) rfl hdb pins s σ H (λv H1=>v=.ref q0/\H1=H) I ⟨rfl,rfl⟩) λv s1 zq=>?_)) hc⟩
 obtain ⟨v',H1,I1,r1,e1,e2⟩:=zq
 subst e1 e2
 cases r1
 refine thn (hb.out pins s1 σ H1 (λy H2=>∃ w S d,RSt X.K w H2 r σ/\RS X.K w H2 S/\RD X.K w H2 d y/\ax X.K E (RD X.K) w H2 (match d with
  | .str key=>match KTD.datumAt key T with
   | some (some nf)=>(ms r S).bind λxs S2=>nf.2 xs S2
   | _=>.bad
  | _=>.bad) Q) I1 ⟨w,r,S,hrr,hS,hp.bind hS λd S1 w1 H2 v x1 q1 s1 p1=>⟨w1,S1,d,hrr.ext x1,s1,q1,p1⟩⟩) λu s2 ⟨y,H2,I2,r2,w2,S2,d,hr2,hS2,qd,p⟩=>?_
 cases d with
 | str key=>
  simp only at p
  cases hdat:KTD.datumAt key T with
  | none=>rw [hdat] at p; exact p.elim
  | some o=>
   cases o with
   | none=>rw [hdat] at p; exact p.elim
   | some nf=>
    rw [hdat] at p
    simp only at p
    obtain ⟨fa,fd,ps,hm,hk,hbd,F⟩:=(D.all key nf hdat).ex
    obtain ⟨q,hq,hmq⟩:=(kl hL key).2 _ (Aa hdat)
    rw [hm] at hmq
    cases hmq
    obtain ⟨h0,kvs,hD,hkv⟩:=pY I2 hl hh hnd
    cases qd.str
    obtain ⟨t,rfl⟩:=r2
    refine subscriptTail_builtin hD.typeIs slot_dict_getitem.lookup (wpAny_getItem_of (strKind_is X.prog X.w key t) hD.mapOf ((hkv key).1 _ hq) ?_) (hs _ _) (by intro _; with_unfolding_all rfl)
    have I3:Inv X pins σ H2 { s2 with toks:=s2.toks + 1 }:=I2.tok _
    refine W2 (first:=[]) (h₀:=X.base) I.ok.mod.kin hk (thn (ha.out pos pins _ σ H2 _ I3 (show uA X.K E ms σ H2 (λvs H1=>spM X.K n nf.2 (vs ++ []) H1 Q E) from ⟨w2,r,S2,hr2,hS2,?_⟩)) λus s4 zq=>ex5 zq λvs H4 I4 r4 q4=>⟨I4.kIn,mi F hr hbd .nil hx I4 r4 q4⟩) he hpl
    cases e:ms r S2 with
    | bad=>rw [e] at p; exact p.elim
    | err y S'=>rw [e] at p; exact p
    | ok ds S'=>
     rw [e] at p
     intro w1 H1 vs x1 q1 s1
     rw [Z8]
     exact ⟨by rw [q1.length]; exact hn r S2 ds S' e,w1,S',ds,s1,q1,ax.ext (r:=nf.2 ds S') p x1 hS2 s1⟩
 | _=>exact p.elim
noncomputable def rh (a b:EM):EM:=λr S=>(a r S).bind λx S1=>match x with
 | .str z=>if z.length<=sizeLine then (if z.length=0 then b r S1 else .ok (.str z) S1) else .bad
 | _=>.bad
theorem Et {b:Expr} {mb:EM} (ha:SE X E a ma) (hb:SE X E b mb):SE X E (.BoolOp .Or [a,b] pos) (rh ma mb):=by
 refine ⟨λpins s σ H Q I zq=>ex6 zq λw r S hr hS hp=>BoolOp_or (thn (ha.out pins s σ H (λy H2=>∃ w S d,RSt X.K w H2 r σ/\RS X.K w H2 S/\RD X.K w H2 d y/\ax X.K E (RD X.K) w H2 (match d with
  | .str z=>if z.length<=sizeLine then (if z.length=0 then mb r S else .ok (.str z) S) else .bad
  | _=>.bad) Q) I ⟨w,r,S,hr,hS,hp.bind hS λd S1 w1 H2 v x1 q1 s1 p1=>⟨w1,S1,d,hr.ext x1,s1,q1,p1⟩⟩) λu s2 ⟨y,H2,I2,r2,w2,S2,d,hr2,hS2,qd,p⟩=>?_)⟩
 cases d with
 | str z=>
  simp only at p
  cases qd.str
  obtain ⟨t,rfl⟩:=r2
  by_cases hl:z.length<=sizeLine
  ·rw [Y9 hl] at p
   have h63:=g5
   refine PySem.P.truthy_str (by omega) ?_
   have I3:Inv X pins σ H2 { s2 with toks:=s2.toks + 1 + 1 }:=I2.tok _
   by_cases h0:z.length=0
   ·rw [Y9 h0] at p
    rw [h0]
    exact (rM hb.out) pins _ σ H2 Q I3 ⟨w2,r,S2,hr2,hS2,p⟩
   ·rw [Yg h0] at p
    have e:((z.length:Int) != 0)=true:=by
     rw [bne_iff_ne]; omega
    rw [e]
    exact ⟨.str z,H2,I3,⟨t,rfl⟩,p.ret RD.mkS hS2⟩
  ·rw [Yg hl] at p; exact p.elim
 | _=>exact p.elim
def TupS (K:PySem.W.Frag) (mg:Str->Option Value) (x:Str) (ss:List Str):Prop:=∃ a,mg x=some (.ref a)/\nC K a (ss.map .str)
theorem Eu {ss:List Str} (h:TupS X.K X.mg x ss) (hg:Gl X x) (hd:autoParam ((x == ("__debug__":Str))=false) Au.h3._auto_1):SE X E (.Name x pos) (eC (.tup (ss.map .str))):=by
 obtain ⟨a,hm,k⟩:=h
 exact mz (gF hg hm (v:=.ref a) rfl hd) λ_ _=>by unfold RD; exact ⟨a,_,rfl,.inr k,ki ss⟩
theorem tW {K:PySem.W.Frag} {h:Heap} (X:K.In h) (G:h.Ns mainGlobals mg) {x:Str} {a:Addr} {od:Option Addr} {sl:Array (Option Value)} {i j:Str} {t1 t2:Tok} (hn:PySem.W.nsIn K mainGlobals x=some (some (.ref a))) (hl:K.lookup a=some ⟨.type "tuple",od,.seq #[.str i t1,.str j t2] n,sl⟩):TupS K mg x [i,j]:=
 ⟨a,Yb X G hn,_,_,n,hl,rfl,rfl,by show 2<=sizeLine; decide,.cons ⟨t1,rfl⟩ (.cons ⟨t2,rfl⟩ .nil)⟩
end
noncomputable def kn:Sto->D->List D->R D
 | S,.str x,[]=>if Builtin.Str.tooLong (Txt.upper x).length=false then .ok (.str (Txt.upper x)) S else .bad
 | _,_,_=>.bad
noncomputable instance (x:Str) (n:Int):Decidable (MulOk x n):=by unfold MulOk; infer_instance
noncomputable def ko:Sto->D->D->Option D
 | _,.str x,.int n=>if MulOk x n then some (.str (Txt.mul x n)) else none
 | S,x,y=>g8 S x y
section
variable {X:Cx} {E:XK}
theorem tX:MtR X "str.upper" (xM X.K E kn):=by
 rintro pins s σ H x xs v us Q I rx rs ⟨w,S,d,ds,hS,qd,qs,p⟩
 unfold kn at p
 split at p
 ·rename_i x0
  split at p
  ·rename_i hl
   cases qd.str
   cases qs.nil_inv
   cases rs
   obtain ⟨t,rfl⟩:=rx
   exact SC.upper hl ⟨.str _,H,I.tok _,⟨_,rfl⟩,p.ret RD.mkS hS⟩
  ·exact p.elim
 ·exact p.elim
theorem pZ:OpR X (binaryOp .Mult) (xO X.K E ko):=by
 rintro pins s σ H x y v u Q I rx ry ⟨w,S,d,e,hS,qd,qe,p⟩
 unfold ko at p
 split at p
 ·rename_i x0 n
  by_cases hk:MulOk x0 n
  ·rw [Y9 hk] at p
   cases qd.str
   cases qe.int
   obtain ⟨t,rfl⟩:=rx
   obtain ⟨t2,rfl⟩:=ry
   exact SB.mul hk λt' k=>⟨.str _,H,I.tok _,⟨_,rfl⟩,p.ret RD.mkS hS⟩
  ·rw [Yg hk] at p
   exact p.elim
 ·exact g9 pins s σ H x y v u Q I rx ry ⟨w,S,_,_,hS,qd,qe,p⟩
noncomputable def nU (f:Sto->D->List D->R D) (o:EM):EM:=λr S=>(o r S).bind λx S1=>match x with
 | .str _=>f S1 x []
 | _=>.bad
theorem zr {o:Expr} {mo:EM} {name:Str} {apos cpos:Pos} {id:String} {f:Sto->D->List D->R D} (pa:PlainAttrs "str") (slot:Slot "str" name id) (hty:typeOf (.builtin id)=pure (.type "method_descriptor")) (hm:MtR X id (xM X.K E f))
  (ho:SE X E o mo) (hbase:autoParam (attributeBase o name X.env (eval o X.env)=eval o X.env) Au.h0._auto_1) (hline:autoParam ((apos.endLine == cpos.line)=true) Au.h0._auto_1):
  SE X E (.Call (.Attribute o name apos) [] [] cpos) (nU f mo):=⟨
 aH (sv pa slot hty hm ho.out hbase hline) λs H Q zq=>ex6 zq λw r S hr hS hp=>⟨w,r,S,hr,hS,hp.bind hS λd S1 w1 H1 v x1 q1 s1 p1=>by
  cases d with
  | str z=>
   cases q1.str
   exact ⟨rfl,w1,S1,.str z,[],s1,RD.mkS,.nil,p1⟩
  | _=>exact p1.elim⟩⟩
end
theorem vL {X:Cx} {E:XK} (i:Nat) (hN:X.N[i]?=some x:=by kernel_rfl) (hv:X.env.scope.names.lookup x=some .local:=by kernel_rfl) (hd:(x == ("__debug__":Str))=false:=by decide +kernel) (hcd:(x == ("__classdict__":Str))=false:=by decide +kernel):SE X E (.Name x pos) (af i):=sH i hN (Or.inl hv) hd hcd
theorem vC {X:Cx} {E:XK} (i:Nat) (hN:X.N[i]?=some x:=by kernel_rfl) (hv:X.env.scope.names.lookup x=some .cell:=by kernel_rfl) (hd:(x == ("__debug__":Str))=false:=by decide +kernel) (hcd:(x == ("__classdict__":Str))=false:=by decide +kernel):SE X E (.Name x pos) (af i):=sH i hN (Or.inr (Or.inl hv)) hd hcd
theorem fsk {N P:List Str} {sc:Scope} (a:sc.kind=.function:=by kernel_rfl) (b:sc.isCoroutine=false:=by kernel_rfl) (c:sc.isGenerator=false:=by kernel_rfl) (d:N.Nodup:=by decide +kernel) (e:N.take P.length=P:=by rfl) (f:∀ x∈P,sc.names.lookup x=some .local \/ sc.names.lookup x=some .cell:=by decide +kernel) (g:∀ y∈sc.names,y.2≠.free:=by decide +kernel):FnScope N P sc:=⟨a,b,c,d,e,f,g⟩
end PD
theorem Y0 {α:Sort _} {a b:α} (h:a=b:=by kernel_rfl):a=b:=h
theorem Y2 {α:Sort _} {a b:α} {p:Prop} (h:a=b:=by kernel_rfl):a=b \/ p:=Or.inl h
theorem Y3 {α:Sort _} {a b:α} {p q:Prop} (h:a=b:=by kernel_rfl):p \/ a=b \/ q:=Or.inr (Or.inl h)
theorem Y5 {p:Prop} [Decidable p] (h:p:=by decide +kernel):p:=h
open L2 in
theorem Y1 {X:Cx} {x:PySem.Str} (h:Gl X x:=by unfold Gl; kernel_rfl):Gl X x:=h
namespace Lw
open PySem PySem.Spec PyProof.Rows L2 PD
variable {b n i e κ δ:Nat} {S S1 S2:Sto} {it t:AM} {r ρ tl:Rho} {a o:EM} {x c y l w:Str} {f C:Addr} {row:List Int} {hs:List (List Int)} {fd:FuncData} {p:List Value → Prop}
noncomputable def nml_ASKED_OF_A_NUMBER:List (Str × Option Str):=[("comes",none),("ways",none),("signs",none),("near",none)]
noncomputable def nml_ASKED_ALONE:List (Str × Option Str):=[("row",some "row_text"),("total",some "total_text"),("even",none),("swing",none),("every",none)]
noncomputable def raisedX:List Str:=["Bare","NoLine","NoNumber","NoRow","TooMany"]
noncomputable def askedX:List Str:=["Bare","Lacking","NoLine","NoNumber","NoRow","NoSigns","NoTable","NoText","PlusError","TooMany"]
noncomputable def isaX (c k:Str):Bool:=c == k || k == "PlusError"
noncomputable abbrev bj:Stmt:=inClass (top 50) 0
noncomputable def eV:SM:=(aC (gm "Keeper" "numbers" (af 0) (eJ aj)) (gm "Keeper" "earlier" (af 0) (eNew aj)))
noncomputable def bT:FM:=fnM 1 eV
noncomputable abbrev bF:Stmt:=inClass (top 75) 0
noncomputable def fR:SM:=(gm "Desk" "keeper" (af 0) (qW "Keeper" bT))
noncomputable def cu:FM:=fnM 1 fR
noncomputable abbrev bG:Stmt:=inClass (top 50) 4
noncomputable def fS:SM:=(aC (sIf (tV (eOp zi (dg "Keeper" "earlier" (af 0)) (cS aj))) nB aG) (aC (gm "Keeper" "numbers" (af 0) (tN (dg "Keeper" "earlier" (af 0)))) (aM (eB cp (aa (dg "Keeper" "numbers" (af 0)) aj)))))
noncomputable def dc:FM:=fnM 1 fS
noncomputable abbrev bH:Stmt:=inClass (top 50) 1
noncomputable def fT:SM:=(aC (fO (yV iA (dg "Keeper" "earlier" (af 0)) (aa (dg "Keeper" "numbers" (af 0)) aj))) (aC (gm "Keeper" "numbers" (af 0) (af 1)) (aM (eB cp (aa (af 1) aj)))))
noncomputable def aO:FM:=fnM 2 fT
noncomputable abbrev dm:Stmt:=top 14
noncomputable def hZ:SM:=(aM (la (eB gj (aa (af 0) (aa (eC (.ty "int")) aj))) (DT (eB gj (aa (af 0) (aa (eC (.ty "bool")) aj))))))
noncomputable def bW:FM:=fnM 1 hZ
noncomputable abbrev bI:Stmt:=top 18
noncomputable def fU:SM:=(sIf (PD.eZ (tV (aJ bW (aa (af 0) aj)))) nB aG)
noncomputable def cv:FM:=fnM 1 fU
noncomputable abbrev aT:Stmt:=top 19
noncomputable def dY:SM:=(aC (fO (aJ cv (aa (af 1) aj))) (sIf (tV (eOp oLt (af 1) (af 0))) nB aG))
noncomputable def br:FM:=fnM 2 dY
noncomputable abbrev bO:Stmt:=inClass (top 50) 2
noncomputable def gn:SM:=(aC (fO (aJ br (aa (eC (.int 1)) (aa (af 1) aj)))) (aC (sIf (tV (eOp bw (eB cp (aa (dg "Keeper" "numbers" (af 0)) aj)) (eC (.int (16))))) nB aG) (aM (ef "Keeper" "change" aO (af 0) (aa (eOp bg (dg "Keeper" "numbers" (af 0)) (eJ (aa (af 1) aj))) aj)))))
noncomputable def bZ:FM:=fnM 2 gn
noncomputable abbrev cy:Stmt:=inClass (top 50) 5
noncomputable def iI:SM:=(aM (dg "Keeper" "numbers" (af 0)))
noncomputable def bU:FM:=fnM 1 iI
noncomputable abbrev bJ:Stmt:=inClass (top 50) 3
noncomputable def fV:SM:=(aC (sIf (tV (eOp bw (dg "Keeper" "numbers" (af 0)) (eJ aj))) nB aG) (aM (ef "Keeper" "change" aO (af 0) (aa (eSl ez (dg "Keeper" "numbers" (af 0)) oNo (bE (eUn nJ (eC (.int 1))))) aj))))
noncomputable def de:FM:=fnM 1 fV
noncomputable abbrev dn:Stmt:=top 59
noncomputable def kq:SM:=(sNx (aM (eIf (tV (eOp dX (af 0) (eJ aj))) (dB ej (eC (.str " ")) (aa (cn (cV (af 0) eM) 1 [] (.nm 0) dS (eB fc (aa (af 0) aj))) aj)) (eC (.str "none")))))
noncomputable def dh:FM:=fnM 1 kq
noncomputable abbrev eH:Stmt:=top 16
noncomputable def nV:SM:=(aC (sIf (PD.tOr (PD.eZ (tV (eB gj (aa (af 0) (aa (eC (.ty "tuple")) aj))))) (tV (eOp oGt (eB cp (aa (af 0) aj)) (eC (.int (16)))))) (aM (eC (.bl false))) aG) (aM (eB qL (aa (cn (cV (af 0) eM) 1 [] (.nm 0) dS (la (aJ bW (aa (af 0) aj)) (eOp oGe (af 0) (eC (.int 1))))) aj))))
noncomputable def iJ:FM:=fnM 1 nV
noncomputable abbrev dq:Stmt:=top 17
noncomputable def kr:SM:=(sIf (tNx (PD.eZ (tV (aJ iJ (aa (af 0) aj))))) (eK "NoRow" (aa (eC (.str "a row is a tuple of 0 to 16 whole numbers from 1 on")) aj)) aG)
noncomputable def fG:FM:=fnM 1 kr
noncomputable abbrev ft:Stmt:=top 23
noncomputable def p8:SM:=(aC (fO (aJ fG (aa (af 0) aj))) (sNx (aM (eB Ej (aa (af 0) aj)))))
noncomputable def jV:FM:=fnM 1 p8
noncomputable abbrev cz:Stmt:=top 60
noncomputable def iK:SM:=(aM (eB fc (aa (aJ jV (aa (af 0) aj)) aj)))
noncomputable def dD:FM:=fnM 1 iK
noncomputable abbrev bz:Stmt:=top 72
noncomputable def fu:SM:=(aC (bh 1 (eIf (tV (dB cD (af 0) (aa (eC (.str "-")) aj))) (eSl fX (af 0) (bE (eC (.int 1))) oNo) (af 0))) (aC (sIf (tV (dB cD (af 1) (aa (eC (.str "0")) aj))) (aM (eOp bw (af 0) (eC (.str "0")))) aG) (aM (la (eI oLe oLe (eC (.int 1)) (eB cp (aa (af 1) aj)) (eC (.int (30)))) (eB qL (aa (cn (cV (af 1) jz) 1 [] (.nm 0) dS (eOp (iF false) (af 0) (eC (.str "0123456789")))) aj))))))
noncomputable def bo:FM:=fnM 2 fu
noncomputable abbrev dI:Stmt:=top 73
noncomputable def lP:SM:=(aC (sIf (tV (eOp bw (eB cp (aa (af 0) aj)) (eC (.int 1)))) (aM (eOr (eOp (oIn false) (eOp oIx (af 0) (eC (.int 0))) (eC (.tup ((["take","back"]:List Str).map .str)))) (rg nml_ASKED_ALONE (eOp oIx (af 0) (eC (.int 0)))))) aG) (aC (sIf (PD.tOr (tV (eOp dX (eB cp (aa (af 0) aj)) (eC (.int 2)))) (PD.eZ (tV (aJ bo (aa (eOp oIx (af 0) (eC (.int 1))) aj))))) (aM (eC (.bl false))) aG) (aC (sIf (tV (eOp bw (eOp oIx (af 0) (eC (.int 0))) (eC (.str "put")))) (aM (eOp oGe (eB eU (aa (eOp oIx (af 0) (eC (.int 1))) aj)) (eC (.int 1)))) aG) (aM (rg nml_ASKED_OF_A_NUMBER (eOp oIx (af 0) (eC (.int 0))))))))
noncomputable def dt:FM:=fnM 1 lP
noncomputable abbrev bp:Stmt:=top 74
noncomputable def eW:SM:=(aC (sIf (PD.eZ (tV (eB gj (aa (af 0) (aa (eC (.ty "str")) aj))))) nB aG) (aC (bh 1 (dB fh (af 0) (aa (eC (.str " ")) aj))) (aC (sIf (PD.eZ (tV (aJ dt (aa (af 1) aj)))) nB aG) (aM (af 1)))))
noncomputable def bV:FM:=fnM 2 eW
noncomputable abbrev cA:Stmt:=inClass (top 75) 1
noncomputable def cw:Dsp:=[("row",some ("row_text",dh)),("total",some ("total_text",dD)),("even",none),("swing",none),("every",none)]
noncomputable def bM:Dsp:=[("comes",none),("ways",none),("signs",none),("near",none)]
noncomputable def iL:SM:=(aC (bh 2 (aJ bV (aa (af 1) aj))) (aC (sIf (tV (eOp bw (eOp oIx (af 2) (eC (.int 0))) (eC (.str "put")))) (aM (eB fc (aa (ef "Keeper" "put" bZ (dg "Desk" "keeper" (af 0)) (aa (eB eU (aa (eOp oIx (af 2) (eC (.int 1))) aj)) aj)) aj))) aG) (aC (sIf (tV (eOp bw (eOp oIx (af 2) (eC (.int 0))) (eC (.str "take")))) (aM (eB fc (aa (ef "Keeper" "take" de (dg "Desk" "keeper" (af 0)) aj) aj))) aG) (aC (sIf (tV (eOp bw (eOp oIx (af 2) (eC (.int 0))) (eC (.str "back")))) (aM (eB fc (aa (ef "Keeper" "back" dc (dg "Desk" "keeper" (af 0)) aj) aj))) aG) (aC (bh 3 (ef "Keeper" "row" bU (dg "Desk" "keeper" (af 0)) aj)) (aC (sIf (tV (eOp bw (eB cp (aa (af 2) aj)) (eC (.int 1)))) (aM (km cw (eOp oIx (af 2) (eC (.int 0))) (aa (af 3) aj))) aG) (aM (km bM (eOp oIx (af 2) (eC (.int 0))) (aa (af 3) (aa (eB eU (aa (eOp oIx (af 2) (eC (.int 1))) aj)) aj))))))))))
noncomputable def cK:FM:=fnM 4 iL
noncomputable abbrev cL:Stmt:=top 78
noncomputable def gp:SM:=(aC (DU (.tp [(.nm 2),(.nm 3)]) (eB jQ (aa (eOp oIx (af 0) (eC (.int 0))) (aa (af 1) aj)))) (aC (DV yU (af 2) (af 0) (eC (.int 0))) (aM (af 3))))
noncomputable def aF:FM:=fnM 4 gp
noncomputable abbrev cM:Stmt:=top 83
noncomputable def jA:SM:=(aC (bh 2 (dB fh (af 1) (aa (eC (.str " ")) aj))) (aC (bh 3 (aJ aF (aa (af 0) (aa (eB cp (aa (af 2) aj)) aj)))) (aC (bh 4 (eOp oIx (cS (aa (eC (.str "")) (aa (eC (.str "0")) (aa (eC (.str "-0")) (aa (eC (.str "01")) (aa (eC (.str "-1")) (aa (eC (.str "x")) (aa (eC (.str "row")) (aa (eC (.str "+1")) (aa (eC (.str "1.0")) (aa (eOp ko (eC (.str "1")) (eC (.int 31))) (aa (eOp bg (eC (.str "-")) (eOp ko (eC (.str "1")) (eC (.int 31)))) (aa (eC (.str "Even")) aj))))))))))))) (aJ aF (aa (af 0) (aa (eC (.int 12)) aj))))) (aC (bh 5 (aJ aF (aa (af 0) (aa (eC (.int 6)) aj)))) (aC (sIf (tV (eOp bw (af 5) (eC (.int 0)))) (aM (dB ej (eC (.str " ")) (aa (eOp bg (eSl ez (af 2) oNo (bE (af 3))) (eSl ez (af 2) (bE (eOp bg (af 3) (eC (.int 1)))) oNo)) aj))) aG) (aC (sIf (tV (eOp bw (af 5) (eC (.int 1)))) (aM (dB ej (eC (.str " ")) (aa (eOp bg (eOp bg (eSl ez (af 2) oNo (bE (af 3))) (cS (aa (af 4) aj))) (eSl ez (af 2) (bE (af 3)) oNo)) aj))) aG) (aC (sIf (tV (eOp bw (af 5) (eC (.int 2)))) (aM (dB ej (eC (.str " ")) (aa (eOp bg (eOp bg (eSl ez (af 2) oNo (bE (af 3))) (cS (aa (af 4) aj))) (eSl ez (af 2) (bE (eOp bg (af 3) (eC (.int 1)))) oNo)) aj))) aG) (aC (sIf (tV (eOp bw (af 5) (eC (.int 3)))) (aM (eOp bg (eOp bg (af 1) (eC (.str " "))) (af 4))) aG) (aC (sIf (tV (eOp bw (af 5) (eC (.int 4)))) (aM (eOp bg (af 1) (eC (.str "\n")))) aG) (aM (eOp bg (nU kn (eSl fX (af 1) oNo (bE (eC (.int 1))))) (eSl fX (af 1) (bE (eC (.int 1))) oNo))))))))))))
noncomputable def cG:FM:=fnM 6 jA
noncomputable abbrev du:Stmt:=top 77
noncomputable def fH:SM:=(aC (bh 2 (eOp bg (eOp g8 (eC (.int 7919)) (af 1)) (eC (.int 13)))) (aC (sIf (tV (eOp oLt (af 1) (eB cp (aa (af 0) aj)))) (bh 2 (eOp oIx (af 0) (af 1))) aG) (aC (sIf (tV (eOp bw (eOp oMod (af 2) (eC (.int 2))) (eC (.int 0)))) (aM (eNew (aa (eOp nI (af 2) (eC (.int 2))) aj))) aG) (aC (bh 3 (eC (.int 0))) (aC (jJ (bC (aa (eC (.int 16)) aj)) (.nm 4) (aC (bh 5 (eOp oMod (eOp bg (eOp bg (eOp g8 (eOp oMod (af 2) (eC (.int 2147483647))) (eC (.int 48271))) (eOp g8 (eC (.int 7919)) (af 4))) (eC (.int 1))) (eC (.int 2147483647)))) (aC (bh 5 (eOp oMod (eOp g8 (af 5) (af 5)) (eC (.int 2147483629)))) (bh 3 (eOp bg (eOp g8 (af 3) (eC (.int 2147483647))) (eOp oMod (eOp g8 (af 5) (eOp bg (af 5) (eC (.int 13)))) (eC (.int 2147483647)))))))) (aM (eNew (aa (af 3) aj))))))))
noncomputable def di:FM:=fnM 6 fH
noncomputable abbrev cb:Stmt:=top 84
noncomputable def gU:SM:=(aC (bh 1 (eIf (tV (eOp bw (eSl fX (af 0) oNo (bE (eC (.int 1)))) (eC (.str "-")))) (eSl fX (af 0) (bE (eC (.int 1))) oNo) (af 0))) (aC (sIf (PD.tOr (PD.eZ (tV (eI oLe oLe (eC (.int 1)) (eB cp (aa (af 1) aj)) (eC (.int 30))))) (PD.nq (tV (eOp bw (eOp qX (af 1) (eC (.int 0))) (eC (.str "0")))) (tV (eOp dX (af 0) (eC (.str "0")))))) (aM (eC .non)) aG) (aC (sIf (tV (eOp dX (cn (cV (af 1) jz) 1 [] (.nm 0) (tV (eOp (iF true) (af 0) (eC (.str "0123456789")))) (af 0)) (cS aj))) (aM (eC .non)) aG) (aM (eB eU (aa (af 0) aj))))))
noncomputable def cY:FM:=fnM 2 gU
noncomputable abbrev bP:Stmt:=top 85
noncomputable def gq:SM:=(aC (sIf (PD.eZ (tV (eB gj (aa (af 0) (aa (eC (.ty "str")) aj))))) (aM (eC (.bl false))) aG) (aC (sIf (tV (eOp (oIn false) (af 0) (cS (aa (eC (.str "take")) (aa (eC (.str "back")) (aa (eC (.str "row")) (aa (eC (.str "total")) (aa (eC (.str "even")) (aa (eC (.str "swing")) (aa (eC (.str "every")) aj)))))))))) (aM (eC (.bl true))) aG) (aC (bh 1 (dB fh (af 0) (aa (eC (.str " ")) aj))) (aC (sIf (PD.tOr (tV (eOp dX (eB cp (aa (af 1) aj)) (eC (.int 2)))) (tV (eOp (oIn true) (eOp oIx (af 1) (eC (.int 0))) (cS (aa (eC (.str "put")) (aa (eC (.str "comes")) (aa (eC (.str "ways")) (aa (eC (.str "signs")) (aa (eC (.str "near")) aj))))))))) (aM (eC (.bl false))) aG) (aC (bh 2 (aJ cY (aa (eOp oIx (af 1) (eC (.int 1))) aj))) (aM (la (eOp (zf true) (af 2) (eC .non)) (eOr (eOp dX (eOp oIx (af 1) (eC (.int 0))) (eC (.str "put"))) (eOp oGt (af 2) (eC (.int 0)))))))))))
noncomputable def bL:FM:=fnM 3 gq
noncomputable abbrev dv:Stmt:=top 79
noncomputable def ku:SM:=(aC (bh 1 (cS (aa (eC .non) (aa (eC (.bl true)) (aa (eC (.bl false)) (aa (eUn nJ (eC (.int 1))) (aa (eC (.int 2)) (aa (eC (.str "")) (aa (eC (.str "1")) (aa (eJ (aa (eC (.int 0)) aj)) (aa (cS (aa (eC (.int 1)) aj)) (aa (yY [((eC (.str "a")),(eC (.int 1)))]) (aa (eJ (aa (eUn nJ (eC (.int 1))) aj)) (aa (eJ (aa (eC (.bl true)) aj)) (aa (eJ (aa (eJ (aa (eC (.int 1)) aj)) aj)) (aa (eJ (aa (eC .non) aj)) (aa (eOp qJ (eC (.int 10)) (eC (.int 29))) (aa (cS aj) aj)))))))))))))))))) (aM (eOp oIx (af 1) (aJ aF (aa (af 0) (aa (eC (.int 16)) aj))))))
noncomputable def dJ:FM:=fnM 2 ku
noncomputable abbrev gu:Stmt:=inClass (top 50) 4
noncomputable def gW:SM:=(aC (sIf (tNx (tV (eOp zi (dg "Keeper" "earlier" (af 0)) (cS aj)))) (eK "Bare" (aa (eC (.str "no put or take stands")) aj)) aG) (aC (sNx (gm "Keeper" "numbers" (af 0) (tN (dg "Keeper" "earlier" (af 0))))) (sNx (aM (eB cp (aa (dg "Keeper" "numbers" (af 0)) aj))))))
noncomputable def dN:FM:=fnM 1 gW
noncomputable abbrev gw:Stmt:=top 18
noncomputable def gX:SM:=(sIf (tNx (PD.eZ (tV (aJ bW (aa (af 0) aj))))) (eK "NoNumber" (aa (eC (.str "this is no whole number")) aj)) aG)
noncomputable def dO:FM:=fnM 1 gX
noncomputable abbrev eo:Stmt:=top 19
noncomputable def eP:SM:=(aC (fO (aJ dO (aa (af 1) aj))) (sIf (tNx (tV (eOp oLt (af 1) (af 0)))) (eK "NoNumber" (aa (eNx (eUn (zl "this number is below " Str.empty false) (af 0))) aj)) aG))
noncomputable def cj:FM:=fnM 2 eP
noncomputable abbrev gY:Stmt:=inClass (top 50) 2
noncomputable def iM:SM:=(aC (fO (aJ cj (aa (eC (.int 1)) (aa (af 1) aj)))) (aC (sIf (tNx (tV (eOp bw (eB cp (aa (dg "Keeper" "numbers" (af 0)) aj)) (eC (.int (16)))))) (eK "TooMany" (aa (eC (.str "a row has at most sixteen numbers")) aj)) aG) (sNx (aM (ef "Keeper" "change" aO (af 0) (aa (eOp bg (dg "Keeper" "numbers" (af 0)) (eJ (aa (af 1) aj))) aj))))))
noncomputable def eD:FM:=fnM 2 iM
noncomputable abbrev gx:Stmt:=inClass (top 50) 3
noncomputable def gZ:SM:=(aC (sIf (tNx (tV (eOp bw (dg "Keeper" "numbers" (af 0)) (eJ aj)))) (eK "Bare" (aa (eC (.str "there is no number to take")) aj)) aG) (sNx (aM (ef "Keeper" "change" aO (af 0) (aa (eSl ez (dg "Keeper" "numbers" (af 0)) oNo (bE (eUn nJ (eC (.int 1))))) aj)))))
noncomputable def dP:FM:=fnM 1 gZ
noncomputable abbrev fw:Stmt:=top 74
noncomputable def fW:SM:=(aC (sIf (tNx (PD.eZ (tV (eB gj (aa (af 0) (aa (eC (.ty "str")) aj)))))) (eK "NoLine" (aa (eC (.str "a line is a text")) aj)) aG) (aC (sNx (bh 1 (dB fh (af 0) (aa (eC (.str " ")) aj)))) (aC (sIf (tNx (PD.eZ (tV (aJ dt (aa (af 1) aj))))) (eK "NoLine" (aa (eC (.str "this is no line that a desk is told")) aj)) aG) (sNx (aM (af 1))))))
noncomputable def aV:FM:=fnM 2 fW
noncomputable abbrev jB:Stmt:=inClass (top 75) 1
noncomputable def kx:SM:=(aC (bh 2 (aJ aV (aa (af 1) aj))) (aC (sIf (tNx (tV (eOp bw (eOp oIx (af 2) (eC (.int 0))) (eC (.str "put"))))) (aM (eB fc (aa (ef "Keeper" "put" eD (eNx (dg "Desk" "keeper" (af 0))) (aa (eNx (eB eU (aa (eOp oIx (af 2) (eC (.int 1))) aj))) aj)) aj))) aG) (aC (sIf (tNx (tV (eOp bw (eOp oIx (af 2) (eC (.int 0))) (eC (.str "take"))))) (aM (eB fc (aa (ef "Keeper" "take" dP (eNx (dg "Desk" "keeper" (af 0))) aj) aj))) aG) (aC (sIf (tNx (tV (eOp bw (eOp oIx (af 2) (eC (.int 0))) (eC (.str "back"))))) (aM (eB fc (aa (ef "Keeper" "back" dN (eNx (dg "Desk" "keeper" (af 0))) aj) aj))) aG) (aC (sNx (bh 3 (ef "Keeper" "row" bU (dg "Desk" "keeper" (af 0)) aj))) (aC (sIf (tNx (tV (eOp bw (eB cp (aa (af 2) aj)) (eC (.int 1))))) (aM (km cw (eNx (eOp oIx (af 2) (eC (.int 0)))) (aa (af 3) aj))) aG) (aM (km bM (eNx (eOp oIx (af 2) (eC (.int 0)))) (aa (af 3) (aa (eNx (eB eU (aa (eOp oIx (af 2) (eC (.int 1))) aj))) aj))))))))))
noncomputable def cH:FM:=fnM 4 kx
noncomputable abbrev bQ:Stmt:=top 80
noncomputable def gy:SM:=(aC (bh 1 (cS (aa (eB (iZ raisedX askedX isaX) (aa (af 0) (aa (eC (.cls "NoRow")) aj))) (aa (eB (iZ raisedX askedX isaX) (aa (af 0) (aa (eC (.cls "NoNumber")) aj))) (aa (eB (iZ raisedX askedX isaX) (aa (af 0) (aa (eC (.cls "NoSigns")) aj))) (aa (eB (iZ raisedX askedX isaX) (aa (af 0) (aa (eC (.cls "TooMany")) aj))) aj)))))) (aC (bh 1 (eOp bg (af 1) (cS (aa (eB (iZ raisedX askedX isaX) (aa (af 0) (aa (eC (.cls "Lacking")) aj))) (aa (eB (iZ raisedX askedX isaX) (aa (af 0) (aa (eC (.cls "Bare")) aj))) (aa (eB (iZ raisedX askedX isaX) (aa (af 0) (aa (eC (.cls "NoTable")) aj))) (aa (eB (iZ raisedX askedX isaX) (aa (af 0) (aa (eC (.cls "NoLine")) aj))) aj))))))) (aM (eOp bg (af 1) (cS (aa (eB (iZ raisedX askedX isaX) (aa (af 0) (aa (eC (.cls "NoText")) aj))) aj))))))
noncomputable def dE:FM:=fnM 2 gy
noncomputable abbrev cN:Stmt:=top 81
noncomputable def jC:SM:=(aC (sIf (PD.tOr (PD.eZ (tV (eB (iZ raisedX askedX isaX) (aa (af 0) (aa (eC (.cls "PlusError")) aj))))) (PD.eZ (tV (eB (iZ raisedX askedX isaX) (aa (af 0) (aa (eC (.ty "ValueError")) aj)))))) (aM (eC (.bl false))) aG) (aM (eOp bw (aJ dE (aa (af 0) aj)) (cn (bC (aa (eC (.int 9)) aj)) 1 [1] (.nm 0) dS (eOp oEq (af 0) (af 1))))))
noncomputable def dZ:FM:=fnM 2 jC
noncomputable abbrev cO:Stmt:=top 82
noncomputable def jD:SM:=(j4 raisedX 2 3 (aM (ef "Desk" "say" cH (af 0) (aa (af 1) aj))) (aM (cn (bC (aa (eC (.int 9)) aj)) 1 [2] (.nm 0) (tV (aJ dZ (aa (af 1) (aa (af 0) aj)))) (af 0))))
noncomputable def cf:FM:=fnM 3 jD
noncomputable abbrev gz:Stmt:=top 86
noncomputable def Ab:SM:=(aC (jJ (bC (aa (eB sX (aa (eC (.int 1)) (aa (eB sY (aa (eB cp (aa (af 0) aj)) (aa (eC (.int 3)) aj))) aj))) aj)) (.nm 1) (aC (bh 2 (aJ di (aa (af 0) (aa (af 1) aj)))) (aC (bh 3 (cn (bC (aa (aJ aF (aa (af 2) (aa (eC (.int 5)) aj))) aj)) 1 [2] (.nm 0) dS (eOp bg (eC (.int 1)) (aJ aF (aa (af 1) (aa (eC (.int 9)) aj)))))) (aC (bh 4 (qW "Desk" cu)) (aC (jJ (cV (af 3) eM) (.nm 5) (fO (ef "Desk" "say" cK (af 4) (aa (eOp bg (eC (.str "put ")) (eB fc (aa (af 5) aj))) aj)))) (aC (bh 6 (rh (dB ej (eC (.str " ")) (aa (cn (cV (af 3) eM) 1 [] (.nm 0) dS (eB fc (aa (af 0) aj))) aj)) (eC (.str "none")))) (aC (bh 7 (cS (aa (eC (.str "put 3")) (aa (eC (.str "take")) (aa (eC (.str "back")) (aa (eC (.str "comes -2")) (aa (eC (.str "ways 4")) (aa (eC (.str "signs 0")) (aa (eC (.str "near 7")) (aa (eC (.str "even")) (aa (eC (.str "every")) (aa (eC (.str "put 12")) aj)))))))))))) (jJ (bC (aa (eC (.int 9)) aj)) (.nm 8) (aC (bh 9 (aJ cG (aa (af 2) (aa (eOp oIx (af 7) (aJ aF (aa (af 2) (aa (eC (.int 10)) aj)))) aj)))) (aC (sIf (tV (eOp bw (eOp oMod (af 8) (eC (.int 4))) (eC (.int 3)))) (bh 9 (aJ dJ (aa (af 2) aj))) aG) (sIf (PD.eZ (tV (aJ bL (aa (af 9) aj)))) (sIf (PD.tOr (tV (eOp dX (aJ cf (aa (af 4) (aa (af 9) aj))) (cS (aa (eC (.int 7)) aj)))) (tV (eOp dX (aJ cf (aa (af 4) (aa (eC (.str "row")) aj))) (af 6)))) (aM (eC (.bl false))) aG) aG))))))))))) (aM (eC (.bl true))))
noncomputable def p9:FM:=fnM 10 Ab
structure Gr (b:Nat) (S S':Sto):Prop where
 bx:∃ n,S'[b]?=some (.lst [.int n])
 oth:∀ i,i ≠ b->i < S.length->S'[i]?=S[i]?
 len:S.length<=S'.length
theorem Gr.trans (x:Gr b S S1) (y:Gr b S1 S2):Gr b S S2:=
 ⟨y.bx,λi h l=>(y.oth i h (Yl l x.len)).trans (x.oth i h l),Z9 x.len y.len⟩
theorem Gr.self (x:Gr b S S1):Gr b S1 S1:=⟨x.bx,λ_ _ _=>rfl,Yd _⟩
theorem zu {n many:Int} (h:S[b]?=some (.lst [.int n])) (h0:0 < many) (h1:many < 1073741824):aF [.ref b,.int many] S=.ok (.int (n % many)) (S.set b (.lst [.int (n / many)])):=by
 simp [aF,fnM,gp,aC,DU,DV,aM,eB,eOp,af,eC,aa,aj,R.bind,R.of,oIx,gf,h,atI,ixN,jQ,h0,h1,G.put,G.puts,yU]
theorem fI (h:Gr b S S) {many:Int} (h0:0 < many) (h1:many < 1073741824):∃ q S',aF [.ref b,.int many] S=.ok (.int q) S'/\0<=q/\q < many/\Gr b S S':=by
 obtain ⟨n,hn⟩:=h.bx
 have hb:b < S.length:=(Yq.mp hn).1
 refine ⟨_,_,zu hn h0 h1,Vf _ (by omega),Ww _ h0,⟨n / many,by simp [hb]⟩,λi hi _=>?_,by simp⟩
 rw [Yy (Ne.symm hi)]
noncomputable abbrev jW:SM:=(aC (bh 5 (eOp oMod (eOp bg (eOp bg (eOp g8 (eOp oMod (af 2) (eC (.int 2147483647))) (eC (.int 48271))) (eOp g8 (eC (.int 7919)) (af 4))) (eC (.int 1))) (eC (.int 2147483647)))) (aC (bh 5 (eOp oMod (eOp g8 (af 5) (af 5)) (eC (.int 2147483629)))) (bh 3 (eOp bg (eOp g8 (af 3) (eC (.int 2147483647))) (eOp oMod (eOp g8 (af 5) (eOp bg (af 5) (eC (.int 13)))) (eC (.int 2147483647)))))))
theorem tY (S:Sto) (a b:Option D) (h n j:Int) (r5:Option D):∃ (n':Int) (x:Int),jW [a,b,some (.int h),some (.int n),some (.int j),r5] S=.ok (.nx [a,b,some (.int h),some (.int n'),some (.int j),some (.int x)]) S:=by
 have s1:ee 48271:=by decide
 have s2:ee 7919:=by decide
 have s3:ee 2147483647:=by decide
 have h1:∀ y:Int,ee (y % 2147483647):=λy=>by
  have:=Vf y (show (2147483647:Int) ≠ 0 by decide)
  have:=Ww y (show (0:Int) < 2147483647 by decide)
  exact ⟨by omega,by omega⟩
 have h2:∀ y:Int,ee (y % 2147483629):=λy=>by
  have:=Vf y (show (2147483629:Int) ≠ 0 by decide)
  have:=Ww y (show (0:Int) < 2147483629 by decide)
  exact ⟨by omega,by omega⟩
 refine ⟨n * 2147483647 + ((h % 2147483647 * 48271 + 7919 * j + 1) % 2147483647 * ((h % 2147483647 * 48271 + 7919 * j + 1) % 2147483647) % 2147483629) * ((h % 2147483647 * 48271 + 7919 * j + 1) % 2147483647 * ((h % 2147483647 * 48271 + 7919 * j + 1) % 2147483647) % 2147483629 + 13) % 2147483647,(h % 2147483647 * 48271 + 7919 * j + 1) % 2147483647 * ((h % 2147483647 * 48271 + 7919 * j + 1) % 2147483647) % 2147483629,?_⟩
 simp only [jW,aC,bh,eOp,af,eC,R.bind,R.of,oMod,bg,Zo,Zp,Z5,Zv,hU (.inr s1),hU (.inl s2),hU (.inr s3),hU (.inl (h1 _)),hU (.inl (h2 _)),Int.reduceLT,Zm]
theorem nW (h:Int):∀ (l:List Nat) (S:Sto) (a b:Option D) (n:Int) (j r5:Option D),∃ (n':Int) (j' r5':Option D),
  forL (.nm 4) jW (l.map λ(i:Nat)=>D.int i) [a,b,some (.int h),some (.int n),j,r5] S=.ok (.nx [a,b,some (.int h),some (.int n'),j',r5']) S
 | [],S,a,b,n,j,r5=>⟨n,j,r5,rfl⟩
 | i :: l,S,a,b,n,j,r5=>by
  obtain ⟨n1,x,e1⟩:=tY S a b h n i r5
  obtain ⟨n',j',r5',e⟩:=nW h l S a b n1 (some (.int i)) (some (.int x))
  refine ⟨n',j',r5',?_⟩
  rw [Yc,forL]
  simp only [G.put,Z5,Zv,e1,R.bind_ok]
  exact e
theorem Ew (ns:List Int) (k:Nat) (S:Sto):∃ v:Int,di [.fz (ns.map .int),.int k] S=.ok (.ref S.length) (S ++ [.lst [.int v]]):=by
 have hz:(1:Nat)<=sizeLine:=by decide
 have s2:ee 7919:=by decide
 have rest:∀ c:Int,∃ v:Int,(aC (sIf (tV (eOp bw (eOp oMod (af 2) (eC (.int 2))) (eC (.int 0)))) (aM (eNew (aa (eOp nI (af 2) (eC (.int 2))) aj))) aG) (aC (bh 3 (eC (.int 0))) (aC (jJ (bC (aa (eC (.int 16)) aj)) (.nm 4) jW) (aM (eNew (aa (af 3) aj)))))) [some (.fz (ns.map .int)),some (.int k),some (.int c),none,none,none] S=.ok (.rt (.ref S.length)) (S ++ [.lst [.int v]]):=λc=>by
  by_cases hc:c % 2=0
  ·refine ⟨c / 2,?_⟩
   simp [aC,bh,sIf,aM,aG,tV,eNew,eB,aJ,eOp,af,eC,aa,aj,R.bind,R.of,oMod,bw,eqP,eqS,hc,nI,hz]
  ·obtain ⟨n',j',r5',e⟩:=nW c (List.range 16) S (some (.fz (ns.map .int))) (some (.int k)) 0 none none
   refine ⟨n',?_⟩
   have hr:(16:Int).toNat=16:=rfl
   simp only [aC,bh,sIf,aM,aG,tV,eNew,eB,aJ,eOp,af,eC,aa,aj,R.bind,R.of,oMod,bw,eqP,eqS,hc,jJ,bC,hz,Zo,Zp,Z5,Zv,Int.reduceLT,Zm,decide_false,Q7,Zk,Qa,Int.reduceLE,and_self,Int.reducePow,Int.reduceNeg,hr,e,Yv,Q1,Nat.reduceAdd]
 by_cases hk:k < ns.length
 ·obtain ⟨v,e⟩:=rest (ns.getD k 0)
  refine ⟨v,?_⟩
  have hi:atI (ns.map D.int) (k:Int)=some (.int (ns.getD k 0)):=by simp [atI,ixN,hk]
  have hk':(k:Int) < (ns.length:Int):=by omega
  unfold di fnM fH
  simp only [Yc,Qt,Yv,Q1,Nat.reduceAdd,Nat.reduceSub,List.replicate,List.cons_append,Q6]
  rw [aC]
  simp only [bh,eOp,af,eC,R.bind,R.of,bg,hU (.inl s2),Zo,Zp,Z5,Zv]
  rw [aC]
  simp only [sIf,bh,aG,tV,eB,eOp,af,eC,aa,aj,R.bind,R.of,oIx,gf,nK,cp,Ym,hk',decide_true,Zm,hi,Zo,Zp,Z5,Zv,Q7]
  rw [e]
 ·obtain ⟨v,e⟩:=rest (7919 * (k:Int) + 13)
  refine ⟨v,?_⟩
  have hk':¬ (k:Int) < (ns.length:Int):=by omega
  unfold di fnM fH
  simp only [Yc,Qt,Yv,Q1,Nat.reduceAdd,Nat.reduceSub,List.replicate,List.cons_append,Q6]
  rw [aC]
  simp only [bh,eOp,af,eC,R.bind,R.of,bg,hU (.inl s2),Zo,Zp,Z5,Zv]
  rw [aC]
  simp only [sIf,bh,aG,tV,eB,eOp,af,eC,aa,aj,R.bind,R.of,oIx,gf,nK,cp,Ym,hk',decide_false,Zk,Qa,Zo,Zp,Z5,Zv,Q7]
  rw [e]
theorem mS {g:PD.G} {b:SM} {xs:List D} (h:it r S=.ok xs S1):jJ it g b r S=forL g b xs r S1:=by unfold jJ; rw [h,R.bind_ok]
theorem ck {b:SM} {ds:List D} {d:D} (hρ:ds.map some ++ List.replicate (n - ds.length) none = ρ) (h:b ρ S=.ok (.rt d) S1):fnM n b ds S=.ok d S1:=by unfold fnM; rw [hρ,h,R.bind_ok]
theorem mT {b:SM} {ds:List D} {ρ':Rho} (hρ:ds.map some ++ List.replicate (n - ds.length) none = ρ) (h:b ρ S=.ok (.nx ρ') S1):fnM n b ds S=.ok .non S1:=by unfold fnM; rw [hρ,h,R.bind_ok]
theorem ba {a b:SM} {d:D} (h:a r S=.ok (.rt d) S1):aC a b r S=.ok (.rt d) S1:=by unfold aC; rw [h,R.bind_ok]
theorem bb {d:D} (h:a r S=.ok d S1):bh i a r S=.ok (.nx (r.set i (some d))) S1:=by unfold bh; rw [h,R.bind_ok]
theorem aS {d:D} (h:a r S=.ok d S1):aM a r S=.ok (.rt d) S1:=by unfold aM; rw [h,R.bind_ok]
theorem cc {t:TM} {a b:SM} (h:t r S=.ok true S1):sIf t a b r S=a r S1:=by unfold sIf; rw [h,R.bind_ok]; exact Y9 rfl
theorem aU {t:TM} {a b:SM} (h:t r S=.ok false S1):sIf t a b r S=b r S1:=by unfold sIf; rw [h,R.bind_ok]; exact Yg Yj
theorem iN {d:D} (h:a r S=.ok d S1):fO a r S=.ok (.nx r) S1:=by unfold fO; rw [h,R.bind_ok]
theorem i6 {g:PD.G} {b:SM} {x:D} {xs:List D} {r1 r2:Rho} (hp:g.put x r=some r1) (h:b r1 S=.ok (.nx r2) S1):forL g b (x :: xs) r S=forL g b xs r2 S1:=by rw [forL]; simp only [hp,h,R.bind_ok]
theorem aQ {f:FM} {xs:List D} (h:t r S=.ok xs S1):aJ f t r S=f xs S1:=by unfold aJ; rw [h,R.bind_ok]
theorem tZ {g:PD.G} {b:SM} {d:D} {xs:List D} (h:a r S=.ok d S1) (hi:eM S1 d=some xs):jJ (cV a eM) g b r S=forL g b xs r S1:=mS (by unfold cV; rw [h,R.bind_ok,hi]; rfl)
theorem az {f:Sto->D->D->Option D} {b:EM} {x y z:D} (h1:a r S=.ok x S1) (h2:b r S1=.ok y S2) (h3:f S2 x y=some z):eOp f a b r S=.ok z S2:=by unfold eOp; rw [h1,R.bind_ok,h2,R.bind_ok,h3]; rfl
theorem cR {f:Sto->List D->Option D} {xs:List D} {z:D} (h1:t r S=.ok xs S1) (h3:f S1 xs=some z):eB f t r S=.ok z S1:=by unfold eB; rw [h1,R.bind_ok,h3]; rfl
theorem ag {x:D} {xs:List D} (h1:a r S=.ok x S1) (h2:t r S1=.ok xs S2):aa a t r S=.ok (x :: xs) S2:=by unfold aa; rw [h1,R.bind_ok,h2,R.bind_ok]
theorem bc {b:Bool} (h:a r S=.ok (.bl b) S1):tV a r S=.ok b S1:=by unfold tV; rw [h,R.bind_ok]
theorem bN {a:TM} {b:Bool} (h:a r S=.ok b S1):PD.eZ a r S=.ok (!b) S1:=by unfold PD.eZ; rw [h,R.bind_ok]
theorem zv {f:Sto->D->List D->R D} {x:D} {ys:List D} (h1:o r S=.ok x S1) (hl:isL S1 x=true) (h2:t r S1=.ok ys S2):yV f o t r S=f S2 x ys:=by unfold yV; rw [h1,R.bind_ok,Y9 hl,h2,R.bind_ok]
theorem t5 {t:TM} {b:EM} (h:t r S=.ok true S1):eIf t a b r S=a r S1:=by unfold eIf; rw [h,R.bind_ok]; exact Y9 rfl
theorem lQ {t:TM} {b:EM} (h:t r S=.ok false S1):eIf t a b r S=b r S1:=by unfold eIf; rw [h,R.bind_ok]; exact Yg Yj
theorem HF {n:Int} (h0:0<=n) (h:n<=100000):n < 2 ^ 62/\-(2 ^ 62)<=n:=⟨by omega,by omega⟩
theorem gA {m:Int} (h:t r S=.ok [.int m] S1) (h0:0<=m) (h1:m<=100000):bC t r S=.ok ((List.range m.toNat).map λ(i:Nat)=>D.int i) S1:=by
 have hr:=HF h0 h1
 simp only [bC,h,R.bind,Y9 hr]
theorem o4 (h:t r S=.ok [.int (n:Int)] S1) (hn:n<=100000):bC t r S=.ok ((List.range n).map λ(i:Nat)=>D.int i) S1:=
 gA h (Int.natCast_nonneg n) (Int.ofNat_le.mpr hn)
theorem av {a b:SM} {r1:Rho} (h:a r S=.ok (.nx r1) S1):aC a b r S=b r1 S1:=by unfold aC; rw [h,R.bind_ok]
theorem comp_map {A:Type} {enc out:A->D} {e:EM} :∀ (xs:List A) (r0:Option D),(∀ x ∈ xs,e (some (enc x) :: tl) S=.ok (out x) S)->dR (.nm 0) dS e (xs.map enc) (r0 :: tl) S=.ok (xs.map out) S
 | [],_,_=>rfl
 | x :: xs,r0,h=>by
  have h1:=h x Yz
  have h2:=comp_map (out:=out) xs (some (enc x)) λy hy=>h y (Ys _ hy)
  rw [Yc,dR]
  simp only [G.put,Z5,dS,R.bind_ok,Zm,h1,h2,Yc]
theorem i7 {A:Type} {enc out:A->D} {e:EM} {caps:List Nat} (xs:List A) (hi:it r S=.ok (xs.map enc) S) (hl:xs.length<=sizeLine) (hc:caps.map (λi=>(r[i]?).join)=tl) (h:∀ x ∈ xs,e (some (enc x) :: tl) S=.ok (out x) S):cn it 1 caps (.nm 0) dS e r S=.ok (.lst (xs.map out)) S:=by
 unfold cn
 rw [hi,R.bind_ok,Y9 (by rw [Ym]; exact hl)]
 have:gS 1 caps r=none :: tl:=by unfold gS; rw [hc]; rfl
 rw [this,comp_map (out:=out) xs none h,R.bind_ok]
theorem nX {A:Type} {enc out:A->D} {p:A->Bool} {t:TM} {e:EM} :∀ (xs:List A) (r0:Option D),(∀ x ∈ xs,t (some (enc x) :: tl) S=.ok (p x) S)->(∀ x ∈ xs,p x=true->e (some (enc x) :: tl) S=.ok (out x) S)->dR (.nm 0) t e (xs.map enc) (r0 :: tl) S=.ok ((xs.filter p).map out) S
 | [],_,_,_=>rfl
 | x :: xs,r0,ht,h=>by
  have h0:=ht x Yz
  have h2:=nX (out:=out) xs (some (enc x)) (λy hy=>ht y (Ys _ hy)) λy hy=>h y (Ys _ hy)
  rw [Yc,dR]
  cases hp:p x with
  | true=>
   have h1:=h x Yz hp
   rw [hp] at h0
   simp only [G.put,Z5,R.bind_ok,Zm,h0,h1,h2,Yc,List.filter_cons,hp]
  | false=>
   rw [hp] at h0
   simp only [G.put,Z5,R.bind_ok,h0,h2,List.filter_cons,hp,Zk,Qa]
theorem rj {A:Type} {enc out:A->D} {p:A->Bool} {t:TM} {e:EM} {caps:List Nat} (xs:List A) (hi:it r S=.ok (xs.map enc) S) (hl:xs.length<=sizeLine) (hc:caps.map (λi=>(r[i]?).join)=tl) (ht:∀ x ∈ xs,t (some (enc x) :: tl) S=.ok (p x) S) (h:∀ x ∈ xs,p x=true->e (some (enc x) :: tl) S=.ok (out x) S):cn it 1 caps (.nm 0) t e r S=.ok (.lst ((xs.filter p).map out)) S:=by
 unfold cn
 rw [hi,R.bind_ok,Y9 (by rw [Ym]; exact hl)]
 have:gS 1 caps r=none :: tl:=by unfold gS; rw [hc]; rfl
 rw [this,nX (out:=out) xs none ht h,R.bind_ok]
theorem t6 {d:D} {xs:List D} (h:r[i]?=some (some d)) (hx:eM S d=some xs):cV (af i) eM r S=.ok xs S:=by
 unfold cV af
 rw [h]
 show R.bind (.ok d S) _=_
 rw [R.bind_ok,hx]; rfl
theorem ah {d:D} (h:r[i]?=some (some d)):af i r S=.ok d S:=by
 unfold af; rw [h]
theorem eE {xs:List D} (h:t r S=.ok xs S1) (hl:xs.length<=sizeLine):eJ t r S=.ok (.tup xs) S1:=by unfold eJ; rw [h,R.bind_ok,Y9 hl]
theorem dQ {xs:List D} (h:t r S=.ok xs S1) (hl:xs.length<=sizeLine):cS t r S=.ok (.lst xs) S1:=by unfold cS; rw [h,R.bind_ok,Y9 hl]
theorem o5 {b:EM} (h:a r S=.ok (.bl true) S1):la a b r S=b r S1:=by unfold la; rw [h,R.bind_ok]
theorem o6 {b:EM} (h:a r S=.ok (.bl false) S1):la a b r S=.ok (.bl false) S1:=by unfold la; rw [h,R.bind_ok]
theorem Ac {b:EM} (h:a r S=.ok (.bl true) S1):eOr a b r S=.ok (.bl true) S1:=by unfold eOr; rw [h,R.bind_ok]
theorem Ad {b:EM} (h:a r S=.ok (.bl false) S1):eOr a b r S=b r S1:=by unfold eOr; rw [h,R.bind_ok]
theorem ky {a b:TM} (h:a r S=.ok true S1):PD.tOr a b r S=.ok true S1:=by unfold PD.tOr; rw [h,R.bind_ok]; exact Y9 rfl
theorem jE {a b:TM} (h:a r S=.ok false S1):PD.tOr a b r S=b r S1:=by unfold PD.tOr; rw [h,R.bind_ok]; exact Yg Yj
theorem jF {A:Type} (f:A->Bool):∀ xs:List A,boolsOf (xs.map λx=>D.bl (f x))=some (xs.map f)
 | []=>rfl
 | x :: xs=>by rw [Yc,boolsOf,jF f xs]; rfl
theorem nY {A:Type} {f:A->Bool} {xs:List A}:qL S [.lst (xs.map λx=>D.bl (f x))]=some (.bl (xs.all f)):=by
 show Option.map (λbs=>D.bl (bs.all id)) (boolsOf (xs.map λx=>D.bl (f x)))=_
 rw [jF,Q7,List.all_map]
 rfl
theorem ia {a:TM} {b:Bool} (h:a r S=.ok b S1):tNx a r S=.ok b S1:=by unfold tNx; rw [h]; rfl
theorem Ey {b:D} (h:a r S=.ok b S1):eNx a r S=.ok b S1:=by unfold eNx; rw [h]; rfl
theorem kz {a:SM} {b:PD.F} (h:a r S=.ok b S1):sNx a r S=.ok b S1:=by unfold sNx; rw [h]; rfl
theorem kA {a b:SM} {x:XD} (h:a r S=.err x S1):aC a b r S=.err x S1:=by unfold aC; rw [h]; rfl
theorem t7 {x:XD} (h:a r S=.err x S1):aM a r S=.err x S1:=by unfold aM; rw [h]; rfl
theorem mU {b:SM} {ds:List D} {x:XD} (hρ:ds.map some ++ List.replicate (n - ds.length) none = ρ) (h:b ρ S=.err x S1):fnM n b ds S=.err x S1:=by unfold fnM; rw [hρ,h]; rfl
theorem lR {xs:List D} (h:t r S=.ok xs S1) (hl:xs.length<=sizeLine):eK c t r S=.err ⟨c,.tup xs⟩ S1:=by unfold eK; rw [h,R.bind_ok,Y9 hl]
theorem z1:(1:Nat)<=sizeLine:=by decide
noncomputable def Kq:D->Bool
 | .fz _=>false
 | .ref _=>false
 | .ty _=>false
 | .exc _=>false
 | .cls _=>false
 | _=>true
noncomputable def isI:D->Bool
 | .int _=>true
 | _=>false
theorem t8 {d:D} (h:Kq d=true):bW [d] S=.ok (.bl (isI d)) S:=by
 cases d <;> first | (cases h; done) | (simp [bW,fnM,hZ,aM,la,DT,eB,af,eC,aa,aj,R.bind,R.of,gj,tyD,gi,isI])
theorem t9 {i j:Int}:dX S (.int i) (.int j)=some (.bl (!decide (i=j))):=rfl
theorem mV {i j:Int}:bw S (.int i) (.int j)=some (.bl (decide (i=j))):=rfl
structure Sim (d:D) (p:PyData):Prop where
 py:toPy d=some p
 lay:p.canLay0=true
 dep:p.depth<=3
theorem Ez:∀ {ds:List D} {f:D->PyData},(∀ d ∈ ds,Sim d (f d))->cX ds=some (ds.map f)/\PyData.canLayAll0 (ds.map f)=true/\PyData.depthAll (ds.map f)<=3
 | [],f,_=>⟨rfl,rfl,by show 0<=3; omega⟩
 | d :: ds,f,h=>by
  have h1:=h d Yz
  obtain ⟨a,b,c⟩:=Ez (ds:=ds) (f:=f) λx hx=>h x (Ys _ hx)
  refine ⟨by unfold cX; rw [h1.py,a]; rfl,by unfold List.map PyData.canLayAll0; rw [h1.lay,b]; rfl,?_⟩
  have:=h1.dep
  unfold List.map PyData.depthAll
  omega
theorem i8 {p:PyData} (h:p.canLay0=true) (hd:p.depth<=64):SeqAt.shaped p=true:=by
 unfold SeqAt.shaped; rw [h,Yi hd]; rfl
theorem zw {xs ys:List D} {f:D->PyData} (hx:∀ d ∈ xs,Sim d (f d)) (hy:∀ d ∈ ys,Sim d (f d)):eqP (.tup xs) (.tup ys)=some (PyData.eqvAll (xs.map f) (ys.map f)):=by
 obtain ⟨a,b,c⟩:=Ez hx
 obtain ⟨a',b',c'⟩:=Ez hy
 have e1:toPy (.tup xs)=some (.tuple (xs.map f)):=by unfold toPy; rw [a]; rfl
 have e2:toPy (.tup ys)=some (.tuple (ys.map f)):=by unfold toPy; rw [a']; rfl
 have s1:SeqAt.shaped (.tuple (xs.map f))=true:=i8 (by unfold PyData.canLay0; exact b) (by unfold PyData.depth; omega)
 have s2:SeqAt.shaped (.tuple (ys.map f))=true:=i8 (by unfold PyData.canLay0; exact b') (by unfold PyData.depth; omega)
 unfold eqP
 have e0:eqS (.tup xs) (.tup ys)=none:=rfl
 rw [e0,e1,e2]
 simp only [s1,s2,and_self,Zm]
 rw [PyData.eqv]
noncomputable def pyI:D->PyData
 | .int i=>.int i
 | .tup [.int i,.int j]=>.tuple [.int i,.int j]
 | _=>.none
theorem HG (i:Int):pyI (.int i)=PyData.int i:=rfl
theorem zx (i:Int):Sim (.int i) (pyI (.int i)):=⟨rfl,rfl,by show 0<=3; omega⟩
theorem nZ {is:List Int}:∀ d ∈ is.map D.int,Sim d (pyI d):=λd hd=>by
 obtain ⟨i,_,rfl⟩:=Qd.mp hd
 exact zx i
theorem n8:∀ (xs ys:List Int),PyData.eqvAll ((xs.map D.int).map pyI) ((ys.map D.int).map pyI)=decide (xs=ys)
 | [],[]=>by simp [PyData.eqvAll]
 | [],y :: ys=>by simp [PyData.eqvAll]
 | x :: xs,[]=>by simp [PyData.eqvAll]
 | x :: xs,y :: ys=>by
  simp only [Yc,PyData.eqvAll,n8 xs ys,HG,PyData.eqv]
  rw [Zi]
  simp
theorem rl (xs ys:List Int):eqP (.tup (xs.map .int)) (.tup (ys.map .int))=some (decide (xs=ys)):=by
 rw [zw nZ nZ,n8]
section
open PySem.NumText
noncomputable def nm (n:Nat):Str:=Str.ofString (toString (n:Int))
theorem n9 {m:Nat} (h:¬ m < 10):Nat.toDigits 10 m=Nat.toDigits 10 (m / 10) ++ [Nat.digitChar (m % 10)]:=by
 have hm:m % 10 < 10:=Nat.mod_lt m (by decide)
 have t:Nat.toDigits 10 (m / 10) ++ Nat.toDigits 10 (m % 10)=Nat.toDigits 10 (10 * (m / 10) + m % 10):=Nat.toDigits_append_toDigits (by decide) (by omega) hm
 rw [W8 hm] at t
 rw [t,show 10 * (m / 10) + m % 10=m by omega]
theorem dch:∀ d:Nat,d < 10->48<=(Nat.digitChar d).toNat/\(Nat.digitChar d).toNat<=57/\(1<=d->49<=(Nat.digitChar d).toNat):=by decide
theorem mW (m:Nat):(∀ c ∈ Nat.toDigits 10 m,48<=c.toNat/\c.toNat<=57)/\(∃ c r,Nat.toDigits 10 m=c :: r/\(1<=m->49<=c.toNat)):=by
 induction m using Nat.strongRecOn with
 | _ m ih=>
  by_cases h:m < 10
  ·rw [W8 h]
   have:=dch m h
   exact ⟨λc hc=>by rw [Zw.mp hc]; exact ⟨this.1,this.2.1⟩,_,_,rfl,this.2.2⟩
  ·rw [n9 h]
   obtain ⟨h1,c,r,e,h2⟩:=ih (m / 10) (by omega)
   have:=dch (m % 10) (Nat.mod_lt m (by decide))
   refine ⟨λd hd=>?_,c,r ++ [Nat.digitChar (m % 10)],by rw [e]; rfl,λ_=>h2 (by omega)⟩
   rcases Z0.mp hd with z | z
   ·exact h1 d z
   ·rw [Zw.mp z]; exact ⟨this.1,this.2.1⟩
theorem qc:∀ (k m:Nat),m < 10 ^ (k + 1)->(Nat.toDigits 10 m).length<=k + 1
 | k,m,hm=>by
  by_cases h:m < 10
  ·rw [W8 h]; simp
  ·cases k with
   | zero=>exact absurd hm (by simpa using h)
   | succ k=>
    rw [n9 h,Yo,Zb]
    have:=qc k (m / 10) (by rw [Nat.pow_succ] at hm; omega)
    omega
theorem kB (n:Nat):(nm n).cps.toList=(Nat.toDigits 10 n).map Char.toNat:=PySem.W.KIN.signs_num n
theorem o7 (n:Nat):AllDigits (nm n).cps.toList:=λc hc=>by
 rw [kB] at hc
 obtain ⟨d,hd,rfl⟩:=Qd.mp hc
 exact (mW n).1 d hd
theorem zy (h:1<=n):∃ c r,(nm n).cps.toList=c :: r/\49<=c/\c<=57:=by
 obtain ⟨h1,c,r,e,h2⟩:=mW n
 exact ⟨c.toNat,r.map Char.toNat,by rw [kB,e]; rfl,h2 h,(h1 c (by rw [e]; exact .head _)).2⟩
theorem EA (n:Nat):digitsVal (nm n).cps.toList=n:=by rw [kB]; exact PySem.W.KIN.val_back n
theorem ib {k:Nat} (h:n < 10 ^ (k + 1)):(nm n).length<=k + 1:=by
 have e:(nm n).length=(nm n).cps.toList.length:=by simp [Str.length]
 rw [e,kB,Ym]
 exact qc k n h
theorem pd (n:Nat):1<=(nm n).length:=by
 have e:(nm n).length=(nm n).cps.toList.length:=by simp [Str.length]
 obtain ⟨_,c,r,h,_⟩:=mW n
 rw [e,kB,h]; simp
noncomputable def jl:List (List Nat)->List Nat
 | []=>[]
 | [x]=>x
 | x :: y :: r=>x ++ 32 :: jl (y :: r)
theorem lS:∀ (x x' a b:List Nat),32 ∉ x->32 ∉ x'->x ++ 32 :: a=x' ++ 32 :: b->x=x'/\a=b
 | [],[],a,b,_,_,e=>⟨rfl,by injection e⟩
 | [],c :: q,a,b,_,h,e=>by
  injection e with e1 e2
  exact absurd (show 32 ∈ c :: q by rw [<- e1]; exact .head _) h
 | c :: p,[],a,b,h,_,e=>by
  injection e with e1 e2
  exact absurd (show 32 ∈ c :: p by rw [e1]; exact .head _) h
 | c :: p,d :: q,a,b,h,h',e=>by
  injection e with e1 e2
  obtain ⟨h1,h2⟩:=lS p q a b (λz=>h (.tail _ z)) (λz=>h' (.tail _ z)) e2
  exact ⟨by rw [e1,h1],h2⟩
theorem qf:∀ (A B:List (List Nat)),A ≠ []->B ≠ []->(∀ x ∈ A,32 ∉ x)->(∀ x ∈ B,32 ∉ x)->jl A=jl B->A=B
 | [],_,h,_,_,_,_=>absurd rfl h
 | _ :: _,[],_,h,_,_,_=>absurd rfl h
 | [x],[y],_,_,_,_,e=>by have e':x=y:=e; rw [e']
 | [x],y :: z :: r,_,_,hA,hB,e=>by
  have e':x=y ++ 32 :: jl (z :: r):=e
  exact absurd (show 32 ∈ x by rw [e']; simp) (hA x (.head _))
 | x :: y :: r,[z],_,_,hA,hB,e=>by
  have e':x ++ 32 :: jl (y :: r)=z:=e
  exact absurd (show 32 ∈ z by rw [<- e']; simp) (hB z (.head _))
 | x :: y :: r,x' :: y' :: r',_,_,hA,hB,e=>by
  have e':x ++ 32 :: jl (y :: r)=x' ++ 32 :: jl (y' :: r'):=e
  have hx:=hA x (.head _)
  have hx':=hB x' (.head _)
  have hd:=lS x x' _ _ hx hx' e'
  rw [hd.1,qf (y :: r) (y' :: r') (by simp) (by simp) (λz hz=>hA z (.tail _ hz)) (λz hz=>hB z (.tail _ hz)) hd.2]
theorem kC:(" ":Str)=⟨#[32]⟩:=by decide
theorem d5:∀ ws:List Str,(Str.join (" ":Str) ws).cps.toList=jl (ws.map λw=>w.cps.toList)
 | []=>rfl
 | [x]=>rfl
 | x :: y :: r=>by
  have ih:=d5 (y :: r)
  show ((x.cps ++ (" ":Str).cps) ++ (Str.join (" ":Str) (y :: r)).cps).toList=_
  rw [kC]
  simp only [Qz,Yc,jl]
  rw [<- kC,ih]
  simp
theorem jG (ws:List Str):Txt.join (" ":Str) ws=Str.join (" ":Str) ws:=StrLaws.glued_eq_join _ _
theorem eX (h:x.cps.toList=y.cps.toList):x=y:=by
 obtain ⟨⟨a⟩⟩:=x; obtain ⟨⟨b⟩⟩:=y
 cases h; rfl
theorem ic {ws:List Str} (h0:ws ≠ []) (hf:∀ w ∈ ws,32 ∉ w.cps.toList):Txt.split (Txt.join (" ":Str) ws) (" ":Str)=ws:=by
 have e1:=Wx (Txt.join (" ":Str) ws) (" ":Str)
 have e2:∀ p ∈ Txt.split (Txt.join (" ":Str) ws) (" ":Str),32 ∉ p.cps.toList:=by
  rw [kC]; exact StrLaws.split_free _ 32
 have e3:=split_pos (Txt.join (" ":Str) ws) (" ":Str)
 generalize Txt.split (Txt.join (" ":Str) ws) (" ":Str)=vs at e1 e2 e3
 rw [jG] at e1
 have e4:=Zs (λz:Str=>z.cps.toList) e1
 simp only [d5] at e4
 have e5:=qf _ _ (by intro z; rw [List.map_eq_nil_iff] at z; rw [z] at e3; cases e3) (by intro z; rw [List.map_eq_nil_iff] at z; exact h0 z) (λx hx=>by
  obtain ⟨p,hp,rfl⟩:=Qd.mp hx; exact e2 p hp) (λx hx=>by
  obtain ⟨p,hp,rfl⟩:=Qd.mp hx; exact hf p hp) e4
 clear e1 e2 e3 e4 h0 hf
 induction vs generalizing ws with
 | nil=>cases ws with
  | nil=>rfl
  | cons _ _=>cases e5
 | cons v vs ih=>cases ws with
  | nil=>cases e5
  | cons w ws=>
   rw [Yc,Yc] at e5
   injection e5 with h1 h2
   rw [eX h1,ih h2]
theorem mX:∀ A:List (List Nat),(jl A).length=(A.map List.length).sum + (A.length - 1)
 | []=>rfl
 | [x]=>by simp [jl]
 | x :: y :: r=>by
  have:=mX (y :: r)
  simp only [jl,Yo,Yv,this,Yc,V3]
  omega
end
theorem cP {f:Sto->D->List D->R D} {ys:List D} (h1:o r S=.ok (.str x) S1) (h2:t r S1=.ok ys S2):dB f o t r S=f S2 (.str x) ys:=by
 unfold dB; rw [h1,R.bind_ok]; show (t r S1).bind _=_; rw [h2,R.bind_ok]
theorem kD {f:Sto->D->Option Int->Option Int->Option D} {lo hi:OM} {S3:Sto} {x z:D} {l u:Option Int} (h1:a r S=.ok x S1) (h2:lo r S1=.ok l S2) (h3:hi r S2=.ok u S3) (h4:f S3 x l u=some z):eSl f a lo hi r S=.ok z S3:=by
 unfold eSl; rw [h1,R.bind_ok,h2,R.bind_ok,h3,R.bind_ok,h4]; rfl
theorem pe (h:n < 1000000000000000000000000000000000000000000000000000000000000):fc S [.int (n:Int)]=some (.str (nm n)):=by
 have hl:(n:Int).natAbs.log2 < 1920:=by
  rw [Int.natAbs_natCast]
  by_cases h0:n=0
  ·subst h0; decide
  ·rw [Nat.log2_lt h0]
   exact Nat.lt_trans h Y5
 exact Y9 hl
theorem ua (h:x.length<=sizeLine):cp S [.str x]=some (.int (x.length:Int)):=Y9 h
theorem kE {lo hi:Option Int} (h:x.length<=sizeLine):fX S (.str x) lo hi=some (.str (Txt.slice x lo hi)):=Y9 h
theorem jX {n:Int} (h:x.length<=640) (hn:intText? x=some n):eU S [.str x]=some (.int n):=by
 show (if x.length<=640 then (intText? x).map D.int else none)=_
 rw [Y9 h,hn]; rfl
theorem zA {c:Nat} (h:x.length<=sizeLine) (hc:x.cps.toList[i]?=some c):qX S (.str x) (.int (i:Int))=some (.str ⟨#[c]⟩):=by
 show (if x.length<=sizeLine then (atI x.cps.toList (i:Int)).map (λc=>D.str ⟨#[c]⟩) else none)=_
 rw [Y9 h,pG hc]; rfl
theorem EB {c:Nat} (h:48<=c/\c<=57) (S:Sto):iF false S (.str ⟨#[c]⟩) (.str "0123456789")=some (.bl true):=by
 show some (D.bl (!(Builtin.Str.occurrences ("0123456789":Str) ⟨#[c]⟩ 0 ("0123456789":Str).length 1).isEmpty))=_
 rw [V6]
 have:c=48 \/ c=49 \/ c=50 \/ c=51 \/ c=52 \/ c=53 \/ c=54 \/ c=55 \/ c=56 \/ c=57:=by omega
 rcases this with rfl | rfl | rfl | rfl | rfl | rfl | rfl | rfl | rfl | rfl <;> kernel_rfl
theorem ie {A:Type} (f:A->Str):∀ ws:List A,strsOf (ws.map λa=>D.str (f a))=some (ws.map f)
 | []=>rfl
 | w :: ws=>by rw [Yc,strsOf,ie f ws]; rfl
theorem EC {a b:List D} (h:a.length + b.length<=sizeLine):bg S (.tup a) (.tup b)=some (.tup (a ++ b)):=Y9 h
theorem ED {a b:List D} (h:a.length + b.length<=sizeLine):bg S (.lst a) (.lst b)=some (.lst (a ++ b)):=Y9 h
theorem ub {lo hi:OM} {S3:Sto} {x d:D} {l u:Option Int} (h1:a r S=.ok x S1) (h2:lo r S1=.ok l S2) (h3:hi r S2=.ok u S3) (h4:ez S3 x l u=some d):eSl ez a lo hi r S=.ok d S3:=by
 unfold eSl
 rw [h1,R.bind_ok,h2,R.bind_ok,h3,R.bind_ok,h4]; rfl
theorem d7 {i:Int} (h:a r S=.ok (.int i) S1):bE a r S=.ok (some i) S1:=by unfold bE; rw [h,R.bind_ok]
theorem rm {f:Nat} {xs:List D} {v:D} (h:S[f]?=some (.lst xs)) (hl:xs.length < sizeLine):iA S (.ref f) [v]=.ok .non (S.set f (.lst (xs ++ [v]))):=by
 unfold iA
 simp only [h,Y9 hl]
theorem zB {f:Nat} {xs:List D} (h:S[f]?=some (.lst xs)):isL S (.ref f)=true:=by
 unfold isL
 simp only [h]
theorem bu {fs:List (Str × D)} (h:S[n]?=some (.ins c fs)):fq c S (.ref n)=some (n,fs):=by
 unfold fq
 simp only [h,Zm]
theorem ig {f:Str} {x d:D} {fs:List (Str × D)} (h:a r S=.ok x S1) (hi:fq c S1 x=some (n,fs)) (hl:fs.lookup f=some d):dg c f a r S=.ok d S1:=by
 unfold dg
 rw [h,R.bind_ok]
 simp only [hi,hl]
 rfl
theorem jY {f:Str} {v:EM} {x y:D} {fs:List (Str × D)} (hv:v r S=.ok y S1) (ho:o r S1=.ok x S2) (hi:fq c S2 x=some (n,fs)) (hl:fs.length < 1000):gm c f o v r S=.ok (.nx r) (S2.set n (.ins c (gT f y fs))):=by
 unfold gm
 rw [hv,R.bind_ok,ho,R.bind_ok]
 simp only [hi,Y9 hl]
theorem i9 {m:Str} {F:FM} {x:D} {ds:List D} {fs:List (Str × D)} (h:o r S=.ok x S1) (hi:fq c S1 x=some (n,fs)) (hl:fs.lookup m=none) (ht:t r S1=.ok ds S2):ef c m F o t r S=F (x :: ds) S2:=by
 unfold ef
 rw [h,R.bind_ok]
 simp only [hi,hl,ht,R.bind_ok,Zm]
theorem uc {F:FM} (h:F [.ref S.length] (S ++ [.ins c []])=.ok .non S1):qW c F r S=.ok (.ref S.length) S1:=by
 unfold qW
 rw [h,R.bind_ok]
noncomputable abbrev tI (xs:List Int):D:=.tup (xs.map .int)
noncomputable abbrev kF (a b:D):List (Str × D):=[("numbers",a),("earlier",b)]
theorem zC (a b:D):(kF a b).lookup ("numbers":Str)=some a:=by kernel_rfl
theorem Kr (a b:D):(kF a b).lookup ("earlier":Str)=some b:=by kernel_rfl
theorem Ks (a b:D):(kF a b).lookup ("change":Str)=none:=by kernel_rfl
theorem Kt (a b:D):(kF a b).lookup ("put":Str)=none:=by kernel_rfl
theorem Ku (a b:D):(kF a b).lookup ("row":Str)=none:=by kernel_rfl
theorem Kv (a b v:D):gT "numbers" v (kF a b)=kF v b:=by kernel_rfl
theorem Kw (v:D):gT "numbers" v []=([("numbers",v)]:List (Str × D)):=by kernel_rfl
theorem Kx (a v:D):gT "earlier" v [("numbers",a)]=kF a v:=by kernel_rfl
theorem dM {A:Type} {l:List A} {x:A} (h:l[i]?=some x):i < l.length:=(Yq.mp h).1
theorem zD (S:Sto):bT [.ref S.length] (S ++ [.ins "Keeper" []])=.ok .non (S ++ [.ins "Keeper" (kF (tI []) (.ref (S.length + 1))),.lst []]):=by
 have z0:(0:Nat)<=sizeLine:=Zc _
 have h1:gm "Keeper" "numbers" (af 0) (eJ aj) [some (.ref S.length)] (S ++ [.ins "Keeper" []])=.ok (.nx [some (.ref S.length)]) (S ++ [.ins "Keeper" [("numbers",tI [])]]):=by
  refine (jY (eE (xs:=[]) rfl z0) (ah rfl) (bu (n:=S.length) (fs:=[]) (by simp)) (by decide)).trans ?_
  rw [Kw]
  simp
 have hN:eNew aj [some (.ref S.length)] (S ++ [.ins "Keeper" [("numbers",tI [])]])=.ok (.ref (S.length + 1)) (S ++ [.ins "Keeper" [("numbers",tI [])]] ++ [.lst []]):=by
  unfold eNew
  show (if 0<=sizeLine then R.ok (D.ref (S ++ [SO.ins "Keeper" [("numbers",tI [])]]).length) _ else R.bad)=_
  rw [Y9 z0,Yo]
  rfl
 have h2:gm "Keeper" "earlier" (af 0) (eNew aj) [some (.ref S.length)] (S ++ [.ins "Keeper" [("numbers",tI [])]])=.ok (.nx [some (.ref S.length)]) (S ++ [.ins "Keeper" (kF (tI []) (.ref (S.length + 1))),.lst []]):=by
  refine (jY hN (ah rfl) (bu (n:=S.length) (fs:=[("numbers",tI [])]) (by simp)) (by decide)).trans ?_
  rw [Kx]
  simp
 exact mT (ρ:=[some (.ref S.length)]) rfl ((av h1).trans h2)
theorem Ae (xs:List Int):cp S [tI xs]=some (.int xs.length):=by
 show some (D.int ((xs.map D.int).length:Int))=_
 rw [Ym]
theorem ud {a b:TM} (h:a r S=.ok true S1):PD.nq a b r S=b r S1:=by unfold PD.nq; rw [h,R.bind_ok]; exact Y9 rfl
theorem EE {a b:TM} (h:a r S=.ok false S1):PD.nq a b r S=.ok false S1:=by unfold PD.nq; rw [h,R.bind_ok]; exact Yg Yj
theorem HH (a:D):([("keeper",a)]:List (Str × D)).lookup ("keeper":Str)=some a:=by kernel_rfl
theorem EF (a:D):([("keeper",a)]:List (Str × D)).lookup ("say":Str)=none:=by kernel_rfl
theorem Ky (v:D):gT "keeper" v []=([("keeper",v)]:List (Str × D)):=by kernel_rfl
theorem zE (S:Sto):cu [.ref S.length] (S ++ [.ins "Desk" []])=.ok .non (S ++ [.ins "Desk" [("keeper",.ref (S.length + 1))],.ins "Keeper" (kF (tI []) (.ref (S.length + 2))),.lst []]):=by
 have e:=zD (S ++ [.ins "Desk" []])
 rw [Yo,Zb] at e
 have h:=uc (c:="Keeper") (r:=[some (.ref S.length)]) (S:=S ++ [.ins "Desk" []]) (by rw [Yo,Zb]; exact e)
 rw [Yo,Zb] at h
 have h2:=jY (c:="Desk") (f:="keeper") (o:=af 0) h (ah rfl) (bu (n:=S.length) (fs:=[]) (by simp)) (by decide)
 rw [Ky] at h2
 refine mT (ρ:=[some (.ref S.length)]) (ρ':=[some (.ref S.length)]) rfl (h2.trans ?_)
 simp
theorem rn {ws:List Str} (h0:ws ≠ []) (hf:∀ w ∈ ws,32 ∉ w.cps.toList) (hl:(Txt.join (" ":Str) ws).length<=1000) (hn:ws.length<=1000) (S:Sto):fh S (.str (Txt.join " " ws)) [.str " "]=.ok (.lst (ws.map .str)) S:=by
 have z:(2000:Nat)<=sizeLine:=by decide
 have e:=ic h0 hf
 have c1:(Builtin.Str.partsBetween (Txt.join " " ws) (Builtin.Str.occurrences (Txt.join " " ws) " " 0 (Txt.join (" ":Str) ws).length ((Txt.join (" ":Str) ws).length + 1)) (" ":Str).length).length<=sizeLine:=by
  rw [length_partsBetween]
  have:=StrLaws.occ_length_le (Txt.join (" ":Str) ws) " " 0 (Txt.join (" ":Str) ws).length ((Txt.join (" ":Str) ws).length + 1)
  omega
 unfold fh
 simp only
 rw [Y9 ⟨by decide,by omega,c1,by rw [e]; omega⟩,e]
theorem ij {c m:Nat} {r:List Nat} (h:x.cps.toList=c :: r):Txt.startswith x ⟨#[m]⟩=decide (c=m):=by
 obtain ⟨⟨l⟩⟩:=x
 obtain rfl:l=c :: r:=h
 unfold Txt.startswith Builtin.Str.subAt
 have e:(⟨⟨c :: r⟩⟩:Str).cps.extract 0 (0 + (⟨#[m]⟩:Str).length) = #[c]:=by
  show (⟨c :: r⟩:Array Nat).extract 0 1 = #[c]
  apply Array.ext'
  simp
 rw [e]
 have e2:decide (0 + (⟨#[m]⟩:Str).length<=(⟨⟨c :: r⟩⟩:Str).length)=true:=by
  rw [Z2]
  show 1<=(c :: r).length
  simp
 rw [e2,Qy]
 rw [Zi]
 simp
theorem aP (x:Str):x.length=x.cps.toList.length:=by simp [Str.length]
theorem fJ:cD S (.str x) [.str y]=.ok (.bl (Txt.startswith x y)) S:=rfl
theorem kG:("-":Str)=⟨#[45]⟩:=by decide
theorem fA:("0":Str)=⟨#[48]⟩:=by decide
theorem uf (h0:1<=n) (h:n < 1000000000000000000000000000000) (S:Sto):bo [.str (nm n)] S=.ok (.bl true) S:=by
 have z:(100:Nat)<=sizeLine:=by decide
 have hl:(nm n).length<=30:=ib (k:=29) (by omega)
 have h1:=pd n
 obtain ⟨c,r,e,c1,c2⟩:=zy h0
 have s1:tV (dB cD (af 0) (aa (eC (.str "-")) aj)) [some (.str (nm n)),none] S=.ok false S:=by
  refine bc ((cP (ah rfl) (ag rfl rfl)).trans (fJ.trans ?_))
  rw [kG,ij e,Y7 (by omega)]
 have s2:tV (dB cD (af 1) (aa (eC (.str "0")) aj)) [some (.str (nm n)),some (.str (nm n))] S=.ok false S:=by
  refine bc ((cP (ah rfl) (ag rfl rfl)).trans (fJ.trans ?_))
  rw [fA,ij e,Y7 (by omega)]
 have s3:eI oLe oLe (eC (.int 1)) (eB cp (aa (af 1) aj)) (eC (.int (30))) [some (.str (nm n)),some (.str (nm n))] S=.ok (.bl true) S:=by
  have e1:eB cp (aa (af 1) aj) [some (.str (nm n)),some (.str (nm n))] S=.ok (.int ((nm n).length:Int)) S:=cR (ag (ah rfl) rfl) (ua (by omega))
  have e2:oLe S (.int 1) (.int ((nm n).length:Int))=some (.bl true):=by show some (D.bl (decide ((1:Int)<=_)))=_; rw [Yi (by omega)]
  have e3:oLe S (.int ((nm n).length:Int)) (.int 30)=some (.bl true):=by show some (D.bl (decide (_<=(30:Int))))=_; rw [Yi (by omega)]
  unfold eI
  show (R.ok (D.int 1) S).bind _=_
  rw [R.bind_ok,e1,R.bind_ok]
  simp only [e2]
  show (R.ok (D.int 30) S).bind _=_
  rw [R.bind_ok,e3]
  rfl
 have s4:=i7 (enc:=λc:Nat=>D.str ⟨#[c]⟩) (out:=λ_=>D.bl true) (e:=eOp (iF false) (af 0) (eC (.str "0123456789"))) (it:=cV (af 1) jz) (caps:=[]) (tl:=[]) (r:=[some (.str (nm n)),some (.str (nm n))]) (S:=S) (nm n).cps.toList (by
   unfold cV
   rw [ah (d:=.str (nm n)) rfl,R.bind_ok]; rfl) (by rw [<- aP]; omega) rfl (λc hc=>az (ah rfl) rfl (EB (o7 n c hc) S))
 refine ck (ρ:=[some (.str (nm n)),none]) rfl ((av (bb ((lQ s1).trans (ah rfl)))).trans ((av ((aU s2).trans rfl)).trans (aS ((o5 s3).trans (cR (ag s4 rfl) ?_)))))
 rw [nY (f:=λ_=>true)]
 congr 2
 rw [Ze]; intros; rfl
theorem oa (h:n < 1000000000000000000000000000000) (S:Sto):eU S [.str (nm n)]=some (.int (n:Int)):=by
 have hl:(nm n).length<=30:=ib (k:=29) (by omega)
 have h1:=pd n
 refine jX (by omega) ?_
 rw [intText_digits (o7 n) (by intro z; rw [aP,z] at h1; cases h1) (by omega),EA]
theorem uh (n:Nat):("put ":Str) ++ nm n=Txt.join (" ":Str) ["put",nm n]:=by
 refine eX ?_
 rw [jG,d5]
 have e:("put ":Str).cps.toList=[112,117,116,32]:=by decide
 have e2:("put":Str).cps.toList=[112,117,116]:=by decide
 show (("put ":Str).cps ++ (nm n).cps).toList=_
 rw [Qz,e]
 simp only [Yc,Qt,jl,e2]
 rfl
theorem rp (hf:32 ∉ l.cps.toList) (hl:l.length<=10) (S:Sto) (hi:dt [.lst [.str l]] S=.ok (.bl true) S):aV [.str l] S=.ok (.lst [.str l]) S:=by
 have hj:Txt.join (" ":Str) [l]=l:=by rw [jG]; rfl
 have hm:=rn (ws:=[l]) (by simp) (λw hw=>by rw [Zw.mp hw]; exact hf) (by rw [hj]; omega) (by show 1<=1000; decide) S
 rw [hj] at hm
 exact ck (ρ:=[some (.str l),none]) rfl ((av ((aU (ia (bN (b:=true) (bc (cR (ag (ah rfl) (ag rfl rfl)) (by simp [gj,tyD,gi])))))).trans rfl)).trans ((av (kz (bb ((cP (ah rfl) (ag rfl rfl)).trans hm)))).trans ((av ((aU (ia (bN (b:=true) (bc ((aQ (ag (ah rfl) rfl)).trans hi))))).trans rfl)).trans (kz (aS (ah rfl))))))
theorem HI (S:Sto):aV [.str "row"] S=.ok (.lst [.str "row"]) S:=rp (by decide) (by decide) S Y0
theorem uk {T:Dsp} {mb:EM} {ms:AM} {key:Str} {nf:Str × FM} {xs:List D} (h1:mb r S=.ok (.str key) S1) (hd:KTD.datumAt key T=some (some nf)) (h2:ms r S1=.ok xs S2):km T mb ms r S=nf.2 xs S2:=by
 unfold km
 rw [h1,R.bind_ok]
 simp only [hd,h2,R.bind_ok]
structure RowB (row:List Int):Prop where
 bd:∀ x ∈ row,1<=x/\x < 1000000000000000000000000000000
 len:row.length<=16
noncomputable def fi (row:List Int):Str:=if row=[] then "none" else Txt.join (" ":Str) (row.map λx=>nm x.toNat)
theorem EG {x:Int} (h0:0<=x) (h:x < 1000000000000000000000000000000000000000000000000000000000000) (S:Sto):fc S [.int x]=some (.str (nm x.toNat)):=by
 have:=pe (S:=S) (n:=x.toNat) (by omega)
 rw [Int.toNat_of_nonneg h0] at this
 exact this
theorem mY:∀ row:List Int,(∀ x ∈ row,1<=x/\x < 1000000000000000000000000000000)->((row.map λx=>nm x.toNat).map (·.length)).sum<=30 * row.length
 | [],_=>Zc _
 | x :: row,h=>by
  have h1:=h x (.head _)
  have h2:=mY row λy hy=>h y (.tail _ hy)
  have h3:(nm x.toNat).length<=30:=ib (k:=29) (by have:=h1.2; omega)
  simp only [Yc,V3,Yv] at h2 ⊢
  omega
theorem um (h:row ≠ []):(Txt.join (" ":Str) (row.map λx=>nm x.toNat)).length ≠ 0:=by
 rw [aP,jG,d5,mX]
 obtain ⟨x,r,rfl⟩:=List.exists_cons_of_ne_nil h
 have:=pd x.toNat
 rw [aP] at this
 simp only [Yc,V3]
 omega
theorem pf (h:RowB row):(Txt.join (" ":Str) (row.map λx=>nm x.toNat)).length<=1000:=by
 have h1:=mY row h.bd
 have hl:=h.len
 rw [aP,jG,d5,mX,Ym,Ym,List.map_map]
 have e2:((row.map λx=>nm x.toNat).map (List.length ∘ λw:Str=>w.cps.toList))=(row.map λx=>nm x.toNat).map (·.length):=List.map_congr_left λp _=>by simp [Str.length]
 rw [e2]
 omega
theorem uo {k:Str} {ws:List D} {c:Bool} (hr:r[2]?=some (some (.lst (.str w :: ws)))) (hc:decide (w=k)=c):tNx (tV (eOp bw (eOp oIx (af 2) (eC (.int 0))) (eC (.str k)))) r S=.ok c S:=by
 refine ia (bc (az (az (ah hr) rfl (z:=.str w) ?_) rfl ?_))
 ·show atI (.str w :: ws) ((0:Nat):Int)=_
  rw [kf (by simp)]; rfl
 ·show some (D.bl (decide (w=k)))=_
  rw [hc]
theorem zF {c:EM} (h:a r S=.ok (.str x) S1) (hl:x.length<=sizeLine):rh a c r S=if x.length=0 then c r S1 else .ok (.str x) S1:=by
 unfold rh
 rw [h,R.bind_ok]
 simp only [Y9 hl]
theorem kH (x:Str) (m:Nat):Txt.startswith x ⟨#[m]⟩=(match x.cps.toList with | []=>false | c :: _=>decide (c=m)):=by
 cases h:x.cps.toList with
 | nil=>
  have h0:x.length=0:=by rw [aP,h]; rfl
  unfold Txt.startswith
  have e:decide (0 + (⟨#[m]⟩:Str).length<=x.length)=false:=Y7 (by rw [h0]; show ¬ (0 + 1<=0); omega)
  rw [e]; rfl
 | cons c r=>exact ij h
theorem kI (h:1<=x.length):Txt.slice x (some 1) none=⟨(x.cps.toList.drop 1).toArray⟩:=by
 rw [slice_from_eq (x:=x) (i:=1) (b:=(x.length:Int)) (by omega) (by omega) rfl]
 have e:((x.cps.toList.drop (1:Int).toNat).take ((x.length:Int) - 1).toNat)=x.cps.toList.drop 1:=by
  rw [show ((1:Int).toNat)=1 from rfl]
  refine List.take_of_length_le ?_
  rw [Qv,<- aP]
  omega
 rw [e]
theorem kJ (h:1<=x.length):Txt.slice x none (some 1)=⟨(x.cps.toList.take 1).toArray⟩:=by
 have e:=Qi.mp (slice_closes_to (x:=x) (j:=1) ⟨by omega,by rw [<- aP]; omega⟩)
 rw [e]; rfl
noncomputable def eQ:List Nat->List Nat
 | []=>[]
 | c :: r=>if c=45 then r else c :: r
noncomputable def fg (w:Str):Str:=⟨(eQ w.cps.toList).toArray⟩
theorem eR (w:Str):(fg w).cps.toList=eQ w.cps.toList:=by simp [fg]
theorem uq (l:List Nat):(eQ l).length<=l.length:=by
 cases l with
 | nil=>exact Yd _
 | cons c r=>
  show (if c=45 then r else c :: r).length<=_
  split <;> simp
theorem uw (w:Str):(fg w).length<=w.length:=by rw [aP,eR,aP w]; exact uq _
theorem qg {c:Nat} {r:List Nat} (h:w.cps.toList=c :: r):if c=45 then Txt.slice w (some 1) none=fg w else fg w=w:=by
 have h1:1<=w.length:=by rw [aP,h]; simp
 split
 ·rename_i hc
  rw [kI h1]
  refine eX ?_
  rw [eR,h]
  simp [eQ,hc]
 ·rename_i hc
  refine eX ?_
  rw [eR,h]
  simp [eQ,hc]
theorem ux (h:w.cps.toList=[]):fg w=w:=eX (by rw [eR,h]; rfl)
section
variable {w:Str} (hl:w.length<=1000) (S:Sto) (r1:Option D)
include hl
theorem Kz:eIf (tV (dB cD (af 0) (aa (eC (.str "-")) aj))) (eSl fX (af 0) (bE (eC (.int 1))) oNo) (af 0) [some (.str w),r1] S=.ok (.str (fg w)) S:=by
 have z:(1000:Nat)<=sizeLine:=by decide
 have s1:tV (dB cD (af 0) (aa (eC (.str "-")) aj)) [some (.str w),r1] S=.ok (match w.cps.toList with | []=>false | c :: _=>decide (c=45)) S:=by
  refine bc ((cP (ah rfl) (ag rfl rfl)).trans (fJ.trans ?_))
  rw [kG,kH]
 cases h:w.cps.toList with
 | nil=>
  rw [h] at s1
  rw [ux h]
  exact (lQ s1).trans (ah rfl)
 | cons c r=>
  rw [h] at s1
  have hf:=qg h
  by_cases hc:c=45
  ·rw [Y9 hc] at hf
   have s1':tV (dB cD (af 0) (aa (eC (.str "-")) aj)) [some (.str w),r1] S=.ok true S:=by
    rw [s1]
    show R.ok (decide (c=45)) S=_
    rw [Yi hc]
   exact (t5 s1').trans (kD (ah rfl) (d7 rfl) rfl (by rw [kE (by omega),hf]))
  ·rw [Yg hc] at hf
   have s1':tV (dB cD (af 0) (aa (eC (.str "-")) aj)) [some (.str w),r1] S=.ok false S:=by
    rw [s1]
    show R.ok (decide (c=45)) S=_
    rw [Y7 hc]
   rw [hf]
   exact (lQ s1').trans (ah rfl)
theorem KA:eIf (tV (eOp bw (eSl fX (af 0) oNo (bE (eC (.int 1)))) (eC (.str "-")))) (eSl fX (af 0) (bE (eC (.int 1))) oNo) (af 0) [some (.str w),r1] S=.ok (.str (fg w)) S:=by
 have z:(1000:Nat)<=sizeLine:=by decide
 have s1:tV (eOp bw (eSl fX (af 0) oNo (bE (eC (.int 1)))) (eC (.str "-"))) [some (.str w),r1] S=.ok (decide (Txt.slice w none (some 1)=("-":Str))) S:=bc (az (kD (ah rfl) rfl (d7 rfl) (kE (by omega))) rfl rfl)
 cases h:w.cps.toList with
 | nil=>
  have hw:w=⟨#[]⟩:=eX (by rw [h])
  have e:decide (Txt.slice w none (some 1)=("-":Str))=false:=by rw [hw]; kernel_rfl
  rw [e] at s1
  rw [ux h]
  exact (lQ s1).trans (ah rfl)
 | cons c r=>
  have hf:=qg h
  have h1:1<=w.length:=by rw [aP,h]; simp
  have e:(Txt.slice w none (some 1)=("-":Str))↔c=45:=by
   rw [kJ h1,h,kG]
   constructor
   ·intro q
    injection q with q
    have:=Zs Array.toList q
    simpa using this
   ·intro q; subst q; rfl
  by_cases hc:c=45
  ·rw [Y9 hc] at hf
   rw [Yi (e.mpr hc)] at s1
   exact (t5 s1).trans (kD (ah rfl) (d7 rfl) rfl (by rw [kE (by omega),hf]))
  ·rw [Yg hc] at hf
   rw [Y7 (λq=>hc (e.mp q))] at s1
   rw [hf]
   exact (lQ s1).trans (ah rfl)
end
noncomputable def d8 (c:Nat):Bool:=decide (48<=c/\c<=57)
theorem uy:("0123456789":Str).cps.toList=[48,49,50,51,52,53,54,55,56,57]:=by decide
theorem uz (c:Nat):decide (c ∈ ("0123456789":Str).cps.toList)=d8 c:=by
 unfold d8
 rw [uy,Qw]
 simp only [Yn,Zd,Ql]
 omega
theorem zG (c:Nat) (S:Sto):iF false S (.str ⟨#[c]⟩) (.str "0123456789")=some (.bl (d8 c)):=by
 show some (D.bl (!(Builtin.Str.occurrences ("0123456789":Str) ⟨#[c]⟩ 0 ("0123456789":Str).length 1).isEmpty))=_
 rw [V6,uz]
theorem zH (c:Nat) (S:Sto):iF true S (.str ⟨#[c]⟩) (.str "0123456789")=some (.bl (!d8 c)):=by
 show some (D.bl (!(!(Builtin.Str.occurrences ("0123456789":Str) ⟨#[c]⟩ 0 ("0123456789":Str).length 1).isEmpty)))=_
 rw [V6,uz]
theorem lT {f:Str} (hl:f.length<=1000) (a:Option D) (S:Sto):eI oLe oLe (eC (.int 1)) (eB cp (aa (af 1) aj)) (eC (.int 30)) [a,some (.str f)] S=.ok (.bl (decide (1<=f.length/\f.length<=30))) S:=by
 have z:(1000:Nat)<=sizeLine:=by decide
 have e1:eB cp (aa (af 1) aj) [a,some (.str f)] S=.ok (.int (f.length:Int)) S:=cR (ag (ah rfl) rfl) (ua (by omega))
 have e2:oLe S (.int 1) (.int (f.length:Int))=some (.bl (decide ((1:Int)<=f.length))):=rfl
 have e3:oLe S (.int (f.length:Int)) (.int 30)=some (.bl (decide ((f.length:Int)<=30))):=rfl
 unfold eI
 show (R.ok (D.int 1) S).bind _=_
 rw [R.bind_ok,e1,R.bind_ok]
 simp only [e2]
 by_cases h1:1<=f.length
 ·rw [Yi (show (1:Int)<=f.length by omega)]
  show (R.ok (D.int 30) S).bind _=_
  rw [R.bind_ok,e3]
  by_cases h2:f.length<=30
  ·rw [Yi (by omega),Yi (by omega)]; rfl
  ·rw [Y7 (by omega),Y7 (by omega)]; rfl
 ·rw [Y7 (show ¬ (1:Int)<=f.length by omega),Y7 (by omega)]
noncomputable def et (l:List Nat):Bool:=match eQ l with
 | []=>false
 | c :: r=>if c=48 then decide (l=[48]) else decide ((c :: r).length<=30) && (c :: r).all d8
theorem og (hl:w.length<=1000) (S:Sto):bo [.str w] S=.ok (.bl (et w.cps.toList)) S:=by
 have z:(1000:Nat)<=sizeLine:=by decide
 have hf:=uw w
 have s1:=Kz hl S none
 have s2:tV (dB cD (af 1) (aa (eC (.str "0")) aj)) [some (.str w),some (.str (fg w))] S=.ok (match eQ w.cps.toList with | []=>false | c :: _=>decide (c=48)) S:=by
  refine bc ((cP (ah rfl) (ag rfl rfl)).trans (fJ.trans ?_))
  rw [fA,kH,eR]
 have s3:=lT (f:=fg w) (by omega) (some (.str w)) S
 have s4:=i7 (enc:=λc:Nat=>D.str ⟨#[c]⟩) (out:=λc=>D.bl (d8 c)) (e:=eOp (iF false) (af 0) (eC (.str "0123456789"))) (it:=cV (af 1) jz) (caps:=[]) (tl:=[]) (r:=[some (.str w),some (.str (fg w))]) (S:=S) (fg w).cps.toList (by
   unfold cV
   rw [ah (d:=.str (fg w)) rfl,R.bind_ok]; rfl) (by rw [<- aP]; omega) rfl (λc hc=>az (ah rfl) rfl (zG c S))
 have s5:qL S [.lst ((fg w).cps.toList.map λc=>D.bl (d8 c))]=some (.bl ((eQ w.cps.toList).all d8)):=by rw [nY,eR]
 have hlen:(fg w).length=(eQ w.cps.toList).length:=by rw [aP,eR]
 rw [hlen] at s3
 refine ck (ρ:=[some (.str w),none]) rfl ((av (bb s1)).trans ?_)
 unfold et
 cases h:eQ w.cps.toList with
 | nil=>
  rw [h] at s2 s3
  exact (av ((aU s2).trans rfl)).trans (aS (o6 s3))
 | cons c r=>
  rw [h] at s2 s3 s5
  by_cases hc:c=48
  ·simp only [hc,Zm]
   have s2':tV (dB cD (af 1) (aa (eC (.str "0")) aj)) [some (.str w),some (.str (fg w))] S=.ok true S:=by
    rw [s2]
    show R.ok (decide (c=48)) S=_
    rw [Yi hc]
   refine ba ((cc s2').trans (aS (az (ah rfl) rfl ?_)))
   show some (D.bl (decide (w=("0":Str))))=_
   congr 2
   rw [Qw,fA]
   constructor
   ·intro q; rw [q]
   ·intro q; exact eX q
  ·simp only [hc,Qa]
   have s2':tV (dB cD (af 1) (aa (eC (.str "0")) aj)) [some (.str w),some (.str (fg w))] S=.ok false S:=by
    rw [s2]
    show R.ok (decide (c=48)) S=_
    rw [Y7 hc]
   refine (av ((aU s2').trans rfl)).trans (aS ?_)
   by_cases h30:(c :: r).length<=30
   ·rw [Yi ⟨by simp,h30⟩] at s3
    rw [Yi h30,Qy]
    exact (o5 s3).trans (cR (ag s4 rfl) s5)
   ·rw [Y7 (λq=>h30 q.2)] at s3
    rw [Y7 h30,W4]
    exact o6 s3
noncomputable def fK (w:Str):Int:=(intText? w).getD 0
theorem ik (h:et w.cps.toList=true):intText? w=some (fK w)/\w.length<=31:=by
 have hs:∃ n,intText? w=some n:=by
  unfold et at h
  cases hl:w.cps.toList with
  | nil=>rw [hl] at h; cases h
  | cons c r=>
   rw [hl] at h
   by_cases hc:c=45
   ·have hf:eQ (c :: r)=r:=by simp [eQ,hc]
    rw [hf] at h
    cases r with
    | nil=>cases h
    | cons c2 r2=>
     simp only at h
     by_cases h48:c2=48
     ·rw [Y9 h48] at h
      have:=Zf h
      injection this with q1 q2
      omega
     ·rw [Yg h48,Yt,Z2,Ze] at h
      refine ⟨_,intText_neg (cs:=c2 :: r2) (by rw [hl,hc]) (λd hd=>Zf (h.2 d hd)) (by simp) (by rw [aP,hl]; have:=h.1; simp at this ⊢; omega)⟩
   ·have hf:eQ (c :: r)=c :: r:=by simp [eQ,hc]
    rw [hf] at h
    simp only at h
    by_cases h48:c=48
    ·rw [Y9 h48] at h
     have e:=Zf h
     refine ⟨_,intText_digits (λd hd=>by rw [hl,e] at hd; rw [Zw.mp hd]; decide) (by rw [hl]; simp) (by rw [aP,hl,e]; decide)⟩
    ·rw [Yg h48,Yt,Z2,Ze] at h
     refine ⟨_,intText_digits (λd hd=>by rw [hl] at hd; exact Zf (h.2 d hd)) (by rw [hl]; simp) (by rw [aP,hl]; have:=h.1; omega)⟩
 obtain ⟨n,hn⟩:=hs
 refine ⟨by unfold fK; rw [hn]; rfl,?_⟩
 rw [aP]
 unfold et at h
 cases hl:w.cps.toList with
 | nil=>simp
 | cons c r=>
  rw [hl] at h
  have hle:(c :: r).length<=(eQ (c :: r)).length + 1:=by
   show _<=(if c=45 then r else c :: r).length + 1
   split <;> simp
  cases hf:eQ (c :: r) with
  | nil=>rw [hf] at hle; exact Z9 hle (by decide)
  | cons c2 r2=>
   rw [hf] at h hle
   simp only at h
   by_cases h48:c2=48
   ·rw [Y9 h48] at h
    rw [Zf h]; decide
   ·rw [Yg h48,Yt,Z2] at h
    have:=h.1
    omega
theorem zI (l:List Nat) (hk:∀ c ∈ l,c < 1114112):dX S (.lst (l.map λc=>D.str ⟨#[c]⟩)) (.lst [])=some (.bl (!decide (l=[]))):=by
 have e1:cX (l.map λc=>D.str ⟨#[c]⟩)=some (l.map λc=>PyData.str ⟨#[c]⟩)/\PyData.canLayAll0 (l.map λc=>PyData.str ⟨#[c]⟩)=true/\PyData.depthAll (l.map λc=>PyData.str ⟨#[c]⟩)=0:=by
  induction l with
  | nil=>exact ⟨rfl,rfl,rfl⟩
  | cons c l ih=>
   obtain ⟨i1,i2,i3⟩:=ih λd hd=>hk d (.tail _ hd)
   have hc:PyData.strOk (⟨#[c]⟩:Str)=true:=by
    have:=hk c (.head _)
    simp [PyData.strOk,this]
   refine ⟨?_,?_,?_⟩
   ·rw [Yc,Yc]; unfold cX; rw [i1]; rfl
   ·rw [Yc]; unfold PyData.canLayAll0; rw [i2]; simp [PyData.canLay0,hc]
   ·rw [Yc]; unfold PyData.depthAll; rw [i3]; rfl
 obtain ⟨h1,h2,h3⟩:=e1
 have t1:toPy (.lst (l.map λc=>D.str ⟨#[c]⟩))=some (.list (l.map λc=>PyData.str ⟨#[c]⟩)):=by unfold toPy; rw [h1]; rfl
 have t2:toPy (.lst [])=some (.list []):=rfl
 have s1:SeqAt.shaped (.list (l.map λc=>PyData.str ⟨#[c]⟩))=true:=i8 (by unfold PyData.canLay0; exact h2) (by unfold PyData.depth; omega)
 have s2:SeqAt.shaped (.list [])=true:=by decide
 have e0:eqS (.lst (l.map λc=>D.str ⟨#[c]⟩)) (.lst [])=none:=rfl
 unfold dX eqP
 rw [e0,t1,t2]
 simp only [s1,s2,and_self,Zm,Q7]
 rw [PyData.eqv]
 cases l with
 | nil=>simp [PyData.eqvAll]
 | cons c l=>simp [PyData.eqvAll]
theorem zJ (hl:w.length<=1000) (hk:∀ c ∈ w.cps.toList,c < 1114112) (S:Sto):cY [.str w] S=.ok (if et w.cps.toList=true then .int (fK w) else .non) S:=by
 have z:(1000:Nat)<=sizeLine:=by decide
 have hf:=uw w
 have s1:=KA hl S none
 have s3:=lT (f:=fg w) (by omega) (some (.str w)) S
 have hlen:(fg w).length=(eQ w.cps.toList).length:=by rw [aP,eR]
 have hsub:∀ c ∈ eQ w.cps.toList,c ∈ w.cps.toList:=by
  intro c hc
  cases h:w.cps.toList with
  | nil=>rw [h] at hc; cases hc
  | cons a r=>
   rw [h] at hc
   have hc':c ∈ (if a=45 then r else a :: r):=hc
   split at hc'
   ·exact .tail _ hc'
   ·exact hc'
 have s4:=rj (enc:=λc:Nat=>D.str ⟨#[c]⟩) (out:=λc:Nat=>D.str ⟨#[c]⟩) (p:=λc=>!d8 c) (t:=tV (eOp (iF true) (af 0) (eC (.str "0123456789")))) (e:=af 0) (it:=cV (af 1) jz) (caps:=[]) (tl:=[]) (r:=[some (.str w),some (.str (fg w))]) (S:=S) (fg w).cps.toList (by
   unfold cV
   rw [ah (d:=.str (fg w)) rfl,R.bind_ok]; rfl) (by rw [<- aP]; omega) rfl (λc _=>bc (az (ah rfl) rfl (zH c S))) (λc _ _=>ah rfl)
 have s5:=zI (S:=S) ((fg w).cps.toList.filter λc=>!d8 c) (λc hc=>hk c (hsub c (by rw [<- eR]; exact (Zz.mp hc).1)))
 have s6:tV (eOp dX (cn (cV (af 1) jz) 1 [] (.nm 0) (tV (eOp (iF true) (af 0) (eC (.str "0123456789")))) (af 0)) (cS aj)) [some (.str w),some (.str (fg w))] S=.ok (!(eQ w.cps.toList).all d8) S:=by
  have e:(!decide ((fg w).cps.toList.filter (λc=>!d8 c)=[]))=(!(eQ w.cps.toList).all d8):=by
   rw [eR]
   congr 1
   rw [Zi,Z2,List.filter_eq_nil_iff,Ze]
   simp
  rw [<- e]
  exact bc (az s4 (dQ (xs:=[]) rfl (Zc _)) s5)
 rw [hlen] at s3
 refine ck (ρ:=[some (.str w),none]) rfl ((av (bb s1)).trans ?_)
 have nr:=ik (w:=w)
 unfold et at nr ⊢
 cases h:eQ w.cps.toList with
 | nil=>
  rw [h] at s3
  have c0:tV (eI oLe oLe (eC (.int 1)) (eB cp (aa (af 1) aj)) (eC (.int 30))) [some (.str w),some (.str (fg w))] S=.ok false S:=bc s3
  exact ba ((cc (ky (bN c0))).trans rfl)
 | cons c r=>
  rw [h] at s3 s6 nr
  have hx:qX S (.str (fg w)) (.int ((0:Nat):Int))=some (.str ⟨#[c]⟩):=zA (by omega) (by rw [eR,h]; rfl)
  have t1:tV (eOp bw (eOp qX (af 1) (eC (.int 0))) (eC (.str "0"))) [some (.str w),some (.str (fg w))] S=.ok (decide (c=48)) S:=by
   refine bc (az (az (ah rfl) rfl hx) rfl ?_)
   show some (D.bl (decide ((⟨#[c]⟩:Str)=("0":Str))))=_
   congr 2
   rw [Qw,fA]
   simp
  have t2:tV (eOp dX (af 0) (eC (.str "0"))) [some (.str w),some (.str (fg w))] S=.ok (!decide (w.cps.toList=[48])) S:=by
   refine bc (az (ah rfl) rfl ?_)
   show some (D.bl (!decide (w=("0":Str))))=_
   congr 3
   rw [Qw,fA]
   constructor
   ·intro q; rw [q]
   ·intro q; exact eX q
  have last:∀ n,intText? w=some n/\w.length<=31->(c :: r).all d8=true->aC (sIf (tV (eOp dX (cn (cV (af 1) jz) 1 [] (.nm 0) (tV (eOp (iF true) (af 0) (eC (.str "0123456789")))) (af 0)) (cS aj))) (aM (eC .non)) aG) (aM (eB eU (aa (af 0) aj))) [some (.str w),some (.str (fg w))] S=.ok (.rt (.int n)) S:=λn hn ha=>by
   rw [ha] at s6
   exact (av ((aU s6).trans rfl)).trans (aS (cR (ag (ah rfl) rfl) (jX (by omega) hn.1)))
  by_cases h30:(c :: r).length<=30
  ·have c1:tV (eI oLe oLe (eC (.int 1)) (eB cp (aa (af 1) aj)) (eC (.int 30))) [some (.str w),some (.str (fg w))] S=.ok true S:=by
    rw [bc s3,Yi ⟨by simp,h30⟩]
   by_cases hc:c=48
   ·simp only [hc,Zm] at nr ⊢
    rw [Yi hc] at t1
    by_cases h0:w.cps.toList=[48]
    ·have ha:(c :: r).all d8=true:=by
      rw [h0] at h
      have:eQ [48]=[48]:=rfl
      rw [this] at h
      rw [<- h]; decide
     rw [Yi h0] at t2
     simp only [h0,decide_true,Zm] at nr ⊢
     exact (av ((aU ((jE (bN c1)).trans ((ud t1).trans t2))).trans rfl)).trans (last _ (nr trivial) ha)
    ·rw [Y7 h0] at t2
     simp only [h0,decide_false,Zk,Qa]
     exact ba ((cc ((jE (bN c1)).trans ((ud t1).trans t2))).trans rfl)
   ·simp only [hc,Qa] at nr ⊢
    rw [Y7 hc] at t1
    rw [Yi h30,Qy] at nr ⊢
    refine (av ((aU ((jE (bN c1)).trans (EE t1))).trans rfl)).trans ?_
    by_cases ha:(c :: r).all d8=true
    ·rw [Y9 ha]
     exact last _ (nr ha) ha
    ·rw [Yg ha]
     rw [Bool.eq_false_iff.mpr ha] at s6
     exact ba ((cc s6).trans rfl)
  ·have c1:tV (eI oLe oLe (eC (.int 1)) (eB cp (aa (af 1) aj)) (eC (.int 30))) [some (.str w),some (.str (fg w))] S=.ok false S:=by
    rw [bc s3,Y7 (λq=>h30 q.2)]
   have hn:(if c=48 then decide (w.cps.toList=[48]) else decide ((c :: r).length<=30) && (c :: r).all d8)=false:=by
    by_cases hc:c=48
    ·rw [Y9 hc]
     refine Y7 λh0=>h30 ?_
     rw [h0] at h
     have:eQ [48]=[48]:=rfl
     rw [this] at h
     rw [<- h]; decide
    ·rw [Yg hc,Y7 h30,W4]
   simp only [hn,Zk,Qa]
   exact ba ((cc (ky (bN c1))).trans rfl)
noncomputable def ones:List Str:=["take","back","row","total","even","swing","every"]
noncomputable def zK:List Str:=["comes","ways","signs","near"]
noncomputable def gN:List Str->Bool
 | [w]=>decide (w ∈ ones)
 | [a,n]=>et n.cps.toList && (if a=("put":Str) then decide (1<=fK n) else decide (a ∈ zK))
 | _=>false
theorem mZ (w:Str):∀ l:List Str,(l.map D.str).any (λz=>eqF z (.str w))=decide (w ∈ l)
 | []=>by simp
 | a :: l=>by
  rw [Yc,Q5,mZ w l]
  have e:eqF (.str a) (.str w)=(a == w):=rfl
  rw [e,Zi]
  simp only [Ve,Qi,Z2,Yn]
  constructor
  ·rintro (h | h)
   ·exact .inl h.symm
   ·exact .inr h
  ·rintro (h | h)
   ·exact .inl h.symm
   ·exact .inr h
theorem ja (l:List Str):(l.map D.str).all dU=true:=by
 rw [Ze]
 intro d hd
 obtain ⟨x,_,rfl⟩:=Qd.mp hd
 rfl
theorem EH (w:Str) (l:List Str):oIn false S (.str w) (.tup (l.map .str))=some (.bl (decide (w ∈ l))):=by
 show (if dU (.str w)=true/\(l.map D.str).all dU=true then some (D.bl ((l.map D.str).any λz=>eqF z (.str w))) else none)=_
 rw [Y9 ⟨rfl,ja l⟩,mZ]
theorem EI (w:Str) (l:List Str):oIn false S (.str w) (.lst (l.map .str))=some (.bl (decide (w ∈ l))):=by
 show (if dU (.str w)=true/\(l.map D.str).all dU=true then some (D.bl ((l.map D.str).any λz=>eqF z (.str w))) else none)=_
 rw [Y9 ⟨rfl,ja l⟩,mZ]
theorem zL (w:Str) (l:List Str):oIn true S (.str w) (.lst (l.map .str))=some (.bl (!decide (w ∈ l))):=by
 show (if dU (.str w)=true/\(l.map D.str).all dU=true then some (D.bl (!((l.map D.str).any λz=>eqF z (.str w)))) else none)=_
 rw [Y9 ⟨rfl,ja l⟩,mZ]
theorem uB {L:List (Str × Option Str)} {k:Str} (h:a r S=.ok (.str k) S1):rg L a r S=.ok (.bl (KTD.inKeys k L)) S1:=by unfold rg; rw [h,R.bind_ok]
theorem EJ (w:Str):KTD.inKeys w nml_ASKED_ALONE=decide (w ∈ (["row","total","even","swing","every"]:List Str)):=by
 rw [Zi,Z2]
 simp [nml_ASKED_ALONE,KTD.inKeys]
theorem EK (w:Str):KTD.inKeys w nml_ASKED_OF_A_NUMBER=decide (w ∈ zK):=by
 rw [Zi,Z2]
 simp [nml_ASKED_OF_A_NUMBER,KTD.inKeys,zK]
theorem jZ (l:List D):cp S [.lst l]=some (.int (l.length:Int)):=rfl
theorem lU (ws:List Str) (hl:∀ w ∈ ws,w.length<=1000) (S:Sto):dt [.lst (ws.map .str)] S=.ok (.bl (gN ws)) S:=by
 have t1:tV (eOp bw (eB cp (aa (af 0) aj)) (eC (.int 1))) [some (.lst (ws.map .str))] S=.ok (decide (((ws.map D.str).length:Int)=1)) S:=bc (az (cR (ag (ah rfl) rfl) (jZ _)) rfl mV)
 have t2:tV (eOp dX (eB cp (aa (af 0) aj)) (eC (.int 2))) [some (.lst (ws.map .str))] S=.ok (!decide (((ws.map D.str).length:Int)=2)) S:=bc (az (cR (ag (ah rfl) rfl) (jZ _)) rfl t9)
 rw [Ym] at t1 t2
 refine ck (ρ:=[some (.lst (ws.map .str))]) rfl ?_
 match ws,hl,t1,t2 with
 | [],_,t1,t2=>exact (av ((aU t1).trans rfl)).trans (ba ((cc (ky t2)).trans rfl))
 | [w],_,t1,t2=>
  refine ba ((cc t1).trans (aS ?_))
  have e1:eOp (oIn false) (eOp oIx (af 0) (eC (.int 0))) (eC (.tup ((["take","back"]:List Str).map .str))) [some (.lst ([w].map .str))] S=.ok (.bl (decide (w ∈ (["take","back"]:List Str)))) S:=az (az (ah rfl) rfl rfl) rfl (EH w _)
  have e2:rg nml_ASKED_ALONE (eOp oIx (af 0) (eC (.int 0))) [some (.lst ([w].map .str))] S=.ok (.bl (decide (w ∈ (["row","total","even","swing","every"]:List Str)))) S:=by
   rw [<- EJ]
   exact uB (az (ah rfl) rfl rfl)
  by_cases h:w ∈ (["take","back"]:List Str)
  ·rw [Yi h] at e1
   have ho:w ∈ ones:=(show w ∈ (["take","back"]:List Str) ++ (["row","total","even","swing","every"]:List Str) from Q0 _ h)
   rw [gN,Yi ho]
   exact Ac e1
  ·rw [Y7 h] at e1
   have e3:decide (w ∈ ones)=decide (w ∈ (["row","total","even","swing","every"]:List Str)):=by
    rw [Qw]
    show w ∈ (["take","back"]:List Str) ++ (["row","total","even","swing","every"]:List Str)↔_
    rw [Z0]
    exact ⟨λq=>q.resolve_left h,.inr⟩
   rw [gN,e3]
   exact (Ad e1).trans e2
 | [a,n],hl,t1,t2=>
  have hn:=og (w:=n) (hl n (by simp)) S
  have t3:PD.eZ (tV (aJ bo (aa (eOp oIx (af 0) (eC (.int 1))) aj))) [some (.lst ([a,n].map .str))] S=.ok (!et n.cps.toList) S:=bN (bc ((aQ (ag (az (ah rfl) rfl rfl) rfl)).trans hn))
  refine (av ((aU t1).trans rfl)).trans ?_
  by_cases hk:et n.cps.toList=true
  ·rw [hk] at t3
   rw [gN,hk,Qy]
   refine (av ((aU ((jE t2).trans t3)).trans rfl)).trans ?_
   have t4:tV (eOp bw (eOp oIx (af 0) (eC (.int 0))) (eC (.str "put"))) [some (.lst ([a,n].map .str))] S=.ok (decide (a=("put":Str))) S:=bc (az (az (ah rfl) rfl rfl) rfl rfl)
   obtain ⟨r1,r2⟩:=ik hk
   by_cases hp:a=("put":Str)
   ·rw [Yi hp] at t4
    rw [Y9 hp]
    exact ba ((cc t4).trans (aS (az (cR (ag (az (ah rfl) rfl rfl) rfl) (jX (by omega) r1)) rfl rfl)))
   ·rw [Y7 hp] at t4
    rw [Yg hp,<- EK]
    exact (av ((aU t4).trans rfl)).trans (aS (uB (az (ah rfl) rfl rfl)))
  ·have hk':et n.cps.toList=false:=by cases q:et n.cps.toList; rfl; exact absurd q hk
   rw [hk'] at t3
   rw [gN,hk',W4]
   exact ba ((cc ((jE t2).trans t3)).trans rfl)
 | a :: b :: c :: r,_,t1,t2=>
  rw [Y7 (by simp only [Yv]; omega)] at t1 t2
  exact (av ((aU t1).trans rfl)).trans (ba ((cc (ky t2)).trans rfl))
theorem fL (hl:x.length<=900) (S:Sto):fh S (.str x) [.str " "]=.ok (.lst ((Txt.split x " ").map .str)) S:=by
 have z:(2000:Nat)<=sizeLine:=by decide
 have h1:=split_le x (" ":Str)
 have c1:(Builtin.Str.partsBetween x (Builtin.Str.occurrences x " " 0 x.length (x.length + 1)) (" ":Str).length).length<=sizeLine:=by
  rw [length_partsBetween]
  have:=StrLaws.occ_length_le x " " 0 x.length (x.length + 1)
  omega
 unfold fh
 simp only
 rw [Y9 ⟨by decide,by omega,c1,by omega⟩]
theorem uC:∀ (A:List (List Nat)) (w:List Nat),w ∈ A->∀ c ∈ w,c ∈ jl A
 | [],_,h,_,_=>by cases h
 | [x],w,h,c,hc=>by rw [Zw.mp h] at hc; exact hc
 | x :: y :: r,w,h,c,hc=>by
  show c ∈ x ++ 32 :: jl (y :: r)
  rcases Yn.mp h with rfl | h
  ·exact Q0 _ hc
  ·exact Yu _ (.tail _ (uC (y :: r) w h c hc))
theorem lV (h:w ∈ Txt.split x " "):∀ c ∈ w.cps.toList,c ∈ x.cps.toList:=λc hc=>by
 have e:=Wx x (" ":Str)
 have e2:=Zs (λz:Str=>z.cps.toList) e
 simp only [d5] at e2
 rw [<- e2]
 exact uC _ _ (Qd.mpr ⟨w,h,rfl⟩) c hc
theorem zM (h:32 ∉ x.cps.toList):Txt.split x " " = [x]:=by
 have hj:Txt.join (" ":Str) [x]=x:=by rw [jG]; rfl
 have:=ic (ws:=[x]) (by simp) (λw hw=>by rw [Zw.mp hw]; exact h)
 rw [hj] at this
 exact this
theorem rq:∀ w ∈ ones,32 ∉ w.cps.toList:=by decide
theorem uD (hl:x.length<=900) (hk:∀ c ∈ x.cps.toList,c < 1114112) (S:Sto):bL [.str x] S=.ok (.bl (gN (Txt.split x " "))) S:=by
 have z:(1000:Nat)<=sizeLine:=by decide
 have hi:tV (eB gj (aa (af 0) (aa (eC (.ty "str")) aj))) [some (.str x),none,none] S=.ok true S:=bc (cR (ag (ah rfl) (ag rfl rfl)) (by simp [gj,tyD,gi]))
 refine ck (ρ:=[some (.str x),none,none]) rfl ((av ((aU (bN hi)).trans rfl)).trans ?_)
 have t1:tV (eOp (oIn false) (af 0) (cS (aa (eC (.str "take")) (aa (eC (.str "back")) (aa (eC (.str "row")) (aa (eC (.str "total")) (aa (eC (.str "even")) (aa (eC (.str "swing")) (aa (eC (.str "every")) aj))))))))) [some (.str x),none,none] S=.ok (decide (x ∈ ones)) S:=bc (az (ah rfl) (dQ (xs:=ones.map .str) rfl (by show 7<=sizeLine; omega)) (EI x ones))
 by_cases h1:x ∈ ones
 ·rw [Yi h1] at t1
  rw [zM (rq x h1),gN,Yi h1]
  exact ba ((cc t1).trans rfl)
 ·rw [Y7 h1] at t1
  refine (av ((aU t1).trans rfl)).trans ((av (bb ((cP (ah rfl) (ag rfl rfl)).trans (fL hl S)))).trans ?_)
  have hsub:=λw (h:w ∈ Txt.split x " ")=>lV h
  have hsh:∀ w ∈ Txt.split x " ",w.length<=x.length:=λw h=>part_short h
  have hjn:=Wx x (" ":Str)
  generalize Txt.split x " " = ws at hsub hsh hjn
  have t2:tV (eOp dX (eB cp (aa (af 1) aj)) (eC (.int 2))) [some (.str x),some (.lst (ws.map .str)),none] S=.ok (!decide (((ws.map D.str).length:Int)=2)) S:=bc (az (cR (ag (ah rfl) rfl) (jZ _)) rfl t9)
  rw [Ym] at t2
  match ws,hsub,hsh,hjn,t2 with
  | [],_,_,_,t2=>exact ba ((cc (ky t2)).trans rfl)
  | [w],_,_,hjn,t2=>
   have hw:w=x:=hjn
   have hf:gN [w]=false:=by rw [gN,hw,Y7 h1]
   rw [hf]
   exact ba ((cc (ky t2)).trans rfl)
  | a :: b :: c :: r,_,_,_,t2=>
   rw [Y7 (by simp only [Yv]; omega)] at t2
   exact ba ((cc (ky t2)).trans rfl)
  | [a,n],hsub,hsh,_,t2=>
   have t3:tV (eOp (oIn true) (eOp oIx (af 1) (eC (.int 0))) (cS (aa (eC (.str "put")) (aa (eC (.str "comes")) (aa (eC (.str "ways")) (aa (eC (.str "signs")) (aa (eC (.str "near")) aj))))))) [some (.str x),some (.lst ([a,n].map .str)),none] S=.ok (!decide (a ∈ (["put","comes","ways","signs","near"]:List Str))) S:=bc (az (az (ah rfl) rfl rfl) (dQ (xs:=(["put","comes","ways","signs","near"]:List Str).map .str) rfl (by show 5<=sizeLine; omega)) (zL a _))
   have hm:a ∈ (["put","comes","ways","signs","near"]:List Str)↔a=("put":Str) \/ a ∈ zK:=Yn
   by_cases ha:a ∈ (["put","comes","ways","signs","near"]:List Str)
   ·rw [Yi ha] at t3
    have hn:=zJ (w:=n) (by have:=hsh n (by simp); omega) (λc hc=>hk c (hsub n (by simp) c hc)) S
    refine (av ((aU ((jE t2).trans t3)).trans rfl)).trans ((av (bb ((aQ (ag (az (ah rfl) rfl rfl) rfl)).trans hn))).trans (aS ?_))
    by_cases hq:et n.cps.toList=true
    ·rw [Y9 hq,gN,hq,Qy]
     have p1:eOp (zf true) (af 2) (eC .non) [some (.str x),some (.lst ([a,n].map .str)),some (.int (fK n))] S=.ok (.bl true) S:=az (ah rfl) rfl rfl
     have p2:eOp dX (eOp oIx (af 1) (eC (.int 0))) (eC (.str "put")) [some (.str x),some (.lst ([a,n].map .str)),some (.int (fK n))] S=.ok (.bl (!decide (a=("put":Str)))) S:=az (az (ah rfl) rfl rfl) rfl rfl
     have p3:eOp oGt (af 2) (eC (.int 0)) [some (.str x),some (.lst ([a,n].map .str)),some (.int (fK n))] S=.ok (.bl (decide (fK n > 0))) S:=az (ah rfl) rfl rfl
     refine (o5 p1).trans ?_
     by_cases hp:a=("put":Str)
     ·rw [Yi hp] at p2
      rw [Y9 hp]
      refine (Ad p2).trans (p3.trans ?_)
      congr 2
     ·rw [Y7 hp] at p2
      rw [Yg hp,Yi ((hm.mp ha).resolve_left hp)]
      exact Ac p2
    ·rw [Yg hq,gN]
     have hq':et n.cps.toList=false:=by cases q:et n.cps.toList; rfl; exact absurd q hq
     rw [hq',W4]
     exact o6 (az (ah rfl) rfl rfl)
   ·rw [Y7 ha] at t3
    have hw:gN [a,n]=false:=by
     rw [gN,Yg (λq=>ha (hm.mpr (.inl q))),Y7 (λq=>ha (hm.mpr (.inr q))),Bool.and_false]
    rw [hw]
    exact ba ((cc ((jE t2).trans t3)).trans rfl)
theorem uF (hl:x.length<=900) (hw:gN (Txt.split x " ")=false) (S:Sto):∃ a,aV [.str x] S=.err ⟨"NoLine",a⟩ S:=by
 have hi:=lU (Txt.split x " ") (λw h=>by have:=part_short h; omega) S
 rw [hw] at hi
 exact ⟨_,mU (ρ:=[some (.str x),none]) rfl ((av ((aU (ia (bN (b:=true) (bc (cR (ag (ah rfl) (ag rfl rfl)) (by simp [gj,tyD,gi])))))).trans rfl)).trans ((av (kz (bb ((cP (ah rfl) (ag rfl rfl)).trans (fL hl S))))).trans (kA ((cc (ia (bN (bc ((aQ (ag (ah rfl) rfl)).trans hi))))).trans (lR (xs:=[.str "this is no line that a desk is told"]) rfl z1)))))⟩
structure Dq (S:Sto) (b κ e δ:Nat) (hs:List (List Int)) (row:List Int):Prop where
 bx:∃ n,S[b]?=some (.lst [.int n])
 kp:S[κ]?=some (.ins "Keeper" (kF (tI row) (.ref e)))
 er:S[e]?=some (.lst (hs.map tI))
 dk:S[δ]?=some (.ins "Desk" [("keeper",.ref κ)])
 n1:b ≠ κ
 n2:b ≠ e
 n3:κ ≠ e
 n4:δ ≠ b
 n5:δ ≠ κ
 n6:δ ≠ e
theorem Dq.gr (d:Dq S b κ e δ hs row) (g:Gr b S S1):Dq S1 b κ e δ hs row:=
 ⟨g.bx,by rw [g.oth κ (Ne.symm d.n1) (dM d.kp)]; exact d.kp,by rw [g.oth e (Ne.symm d.n2) (dM d.er)]; exact d.er,by rw [g.oth δ d.n4 (dM d.dk)]; exact d.dk,d.n1,d.n2,d.n3,d.n4,d.n5,d.n6⟩
theorem Dq.self (d:Dq S b κ e δ hs row):Gr b S S:=⟨d.bx,λ_ _ _=>rfl,Yd _⟩
theorem rz {row':List Int} (d:Dq S b κ e δ hs row) (hl:hs.length < 1000):∃ S1,aO [.ref κ,tI row'] S=.ok (.int row'.length) S1/\Dq S1 b κ e δ (hs ++ [row]) row':=by
 have z:(1000:Nat) < sizeLine:=by decide
 have ek:(hs.map tI ++ [tI row])=(hs ++ [row]).map tI:=by rw [Vg]; rfl
 have ha:=rm (v:=tI row) d.er (by rw [Ym]; omega)
 rw [ek] at ha
 have hk1:(S.set e (.lst ((hs ++ [row]).map tI)))[κ]?=some (.ins "Keeper" (kF (tI row) (.ref e))):=by rw [Yy (Ne.symm d.n3)]; exact d.kp
 have h2:=jY (f:="numbers") (o:=af 0) (v:=af 1) (r:=[some (.ref κ),some (tI row')]) (S:=S.set e (.lst ((hs ++ [row]).map tI))) (y:=tI row') (ah rfl) (ah rfl) (bu hk1) (by show 2 < 1000; decide)
 rw [Kv] at h2
 refine ⟨_,ck (ρ:=[some (.ref κ),some (tI row')]) rfl ((av (iN ((zv (ig (ah rfl) (bu d.kp) (Kr _ _)) (zB d.er) (ag (ig (ah rfl) (bu d.kp) (zC _ _)) rfl)).trans ha))).trans ((av h2).trans (aS (cR (ag (ah rfl) rfl) (Ae row'))))),?_⟩
 obtain ⟨n,hn⟩:=d.bx
 refine ⟨⟨n,?_⟩,?_,?_,?_,d.n1,d.n2,d.n3,d.n4,d.n5,d.n6⟩
 ·rw [Yy (Ne.symm d.n1),Yy (Ne.symm d.n2)]; exact hn
 ·exact Z4 (by rw [List.length_set]; exact dM d.kp)
 ·rw [Yy d.n3]; exact Z4 (dM d.er)
 ·rw [Yy (Ne.symm d.n5),Yy (Ne.symm d.n6)]; exact d.dk
theorem HJ (d:Dq S b κ e δ hs row) {n:Int} (hn:1<=n) (hl:hs.length < 1000) (h16:row.length < 16):∃ S1,bZ [.ref κ,.int n] S=.ok (.int ((row.length + 1:Nat):Int)) S1/\Dq S1 b κ e δ (hs ++ [row]) (row ++ [n]):=by
 have z:(1000:Nat)<=sizeLine:=by decide
 have hc:tV (eOp bw (eB cp (aa (dg "Keeper" "numbers" (af 0)) aj)) (eC (.int (16)))) [some (.ref κ),some (.int n)] S=.ok (decide ((row.length:Int)=16)) S:=bc (az (cR (ag (ig (ah rfl) (bu d.kp) (zC _ _)) rfl) (Ae row)) rfl mV)
 rw [Y7 (by omega)] at hc
 have hw:=t8 (d:=.int n) (S:=S) rfl
 have hnn:cv [.int n] S=.ok .non S:=mT (ρ:=[some (.int n)]) rfl ((aU (bN (bc ((aQ (ag (ah rfl) rfl)).trans hw)))).trans rfl)
 have hlt:tV (eOp oLt (af 1) (af 0)) [some (.int 1),some (.int n)] S=.ok (decide (n < 1)) S:=bc (az (ah rfl) (ah rfl) rfl)
 rw [Y7 (by omega)] at hlt
 have hnf:br [.int 1,.int n] S=.ok .non S:=mT (ρ:=[some (.int 1),some (.int n)]) rfl ((av (iN ((aQ (ag (ah rfl) rfl)).trans hnn))).trans ((aU hlt).trans rfl))
 obtain ⟨S1,e1,d1⟩:=rz (row':=row ++ [n]) d hl
 have hadd:bg S (tI row) (.tup [.int n])=some (tI (row ++ [n])):=by
  show _=some (D.tup ((row ++ [n]).map D.int))
  rw [Vg]
  exact EC (by rw [Ym]; show row.length + 1<=sizeLine; omega)
 have el:((row ++ [n]).length:Int)=((row.length + 1:Nat):Int):=by rw [Yo]; rfl
 rw [el] at e1
 exact ⟨S1,ck (ρ:=[some (.ref κ),some (.int n)]) rfl ((av (iN ((aQ (ag rfl (ag (ah rfl) rfl))).trans hnf))).trans ((av ((aU hc).trans rfl)).trans (aS ((i9 (ah rfl) (bu d.kp) (Ks _ _) (ag (az (ig (ah rfl) (bu d.kp) (zC _ _)) (eE (xs:=[.int n]) (ag (ah rfl) rfl) z1) hadd) rfl)).trans e1)))),d1⟩
theorem rA (n:Nat):Txt.split (("put ":Str) ++ nm n) " " = ([("put":Str),nm n]:List Str):=by
 rw [uh]
 refine ic (by simp) λw hw=>?_
 simp only [Yn,Zd,Ql] at hw
 rcases hw with rfl | rfl
 ·decide
 ·intro z
  have:=o7 n 32 z
  omega
theorem rB (h:n < 1000000000000000000000000000000):(("put ":Str) ++ nm n).length<=34:=by
 have hl:(nm n).length<=30:=ib (k:=29) (by omega)
 rw [aP]
 show ((("put ":Str).cps ++ (nm n).cps).toList).length<=34
 have e:("put ":Str).cps.toList.length=4:=by decide
 rw [Qz,Yo,e,<- aP]
 omega
theorem uH (h0:1<=n) (h:n < 1000000000000000000000000000000):et (nm n).cps.toList=true:=by
 have h1:=uf h0 h []
 have h2:=og (w:=nm n) (by have:=ib (n:=n) (k:=29) (by omega); omega) []
 rw [h1] at h2
 injection h2 with q
 injection q with q
 exact q.symm
theorem EL (h0:1<=n) (h:n < 1000000000000000000000000000000):fK (nm n)=n:=by
 have h1:=oa h []
 obtain ⟨r1,r2⟩:=ik (uH h0 h)
 rw [jX (by omega) r1] at h1
 injection h1 with q
 injection q
theorem oh (h0:1<=n) (h:n < 1000000000000000000000000000000) (S:Sto):bV [.str (("put ":Str) ++ nm n)] S=.ok (.lst [.str "put",.str (nm n)]) S:=by
 have hs:=rB h
 have hm:=fL (x:=("put ":Str) ++ nm n) (by omega) S
 rw [rA] at hm
 have hi:=lU ["put",nm n] (λw hw=>by
  have:=ib (n:=n) (k:=29) (by omega)
  simp only [Yn,Zd,Ql] at hw
  rcases hw with rfl | rfl
  ·decide
  ·omega) S
 have hk:gN ["put",nm n]=true:=by
  rw [gN,uH h0 h,Qy,Y9 rfl,EL h0 h]
  exact Yi (by omega)
 rw [hk] at hi
 exact ck (ρ:=[some (.str (("put ":Str) ++ nm n)),none]) rfl ((av ((aU (bN (b:=true) (bc (cR (ag (ah rfl) (ag rfl rfl)) (by simp [gj,tyD,gi]))))).trans rfl)).trans ((av (bb ((cP (ah rfl) (ag rfl rfl)).trans hm))).trans ((av ((aU (bN (b:=true) (bc ((aQ (ag (ah rfl) rfl)).trans hi)))).trans rfl)).trans (aS (ah rfl)))))
theorem rC (d:Dq S b κ e δ hs row) (h0:1<=n) (h:n < 1000000000000000000000000000000) (hl:hs.length < 1000) (h16:row.length < 16):∃ v S1,cK [.ref δ,.str (("put ":Str) ++ nm n)] S=.ok v S1/\Dq S1 b κ e δ (hs ++ [row]) (row ++ [(n:Int)]):=by
 obtain ⟨S1,hp,d1⟩:=HJ d (n:=(n:Int)) (by omega) hl h16
 have t:tV (eOp bw (eOp oIx (af 2) (eC (.int 0))) (eC (.str "put"))) [some (.ref δ),some (.str (("put ":Str) ++ nm n)),some (.lst [.str "put",.str (nm n)]),none] S=.ok true S:=bc (az (az (ah rfl) rfl rfl) rfl rfl)
 have ar:aa (eB eU (aa (eOp oIx (af 2) (eC (.int 1))) aj)) aj [some (.ref δ),some (.str (("put ":Str) ++ nm n)),some (.lst [.str "put",.str (nm n)]),none] S=.ok [.int (n:Int)] S:=ag (cR (ag (az (ah rfl) rfl rfl) rfl) (oa h S)) rfl
 have hm:=i9 (c:="Keeper") (m:="put") (F:=bZ) (o:=dg "Desk" "keeper" (af 0)) (ig (a:=af 0) (r:=[some (.ref δ),some (.str (("put ":Str) ++ nm n)),some (.lst [.str "put",.str (nm n)]),none]) (ah rfl) (bu d.dk) (HH _)) (bu d.kp) (Kt _ _) ar
 exact ⟨_,S1,ck (ρ:=[some (.ref δ),some (.str (("put ":Str) ++ nm n)),none,none]) rfl ((av (bb ((aQ (ag (ah rfl) rfl)).trans (oh h0 h S)))).trans (ba ((cc t).trans (aS (cR (ag (hm.trans hp) rfl) (pe (by omega))))))),d1⟩
theorem oi (h:RowB row) (hi:cV a eM r S=.ok (row.map D.int) S):dB ej (eC (.str " ")) (aa (cn (cV a eM) 1 [] (.nm 0) dS (eB fc (aa (af 0) aj))) aj) r S=.ok (.str (Txt.join " " (row.map λx=>nm x.toNat))) S:=by
 have z:(100:Nat)<=sizeLine:=by decide
 have hl:=h.len
 have hc:=i7 (enc:=D.int) (out:=λx:Int=>D.str (nm x.toNat)) (e:=eB fc (aa (af 0) aj)) (it:=cV a eM) (caps:=[]) (tl:=[]) (r:=r) (S:=S) row hi (by omega) rfl λx hx=>cR (ag (ah rfl) rfl) (EG (by have:=(h.bd x hx).1; omega) (by have:=(h.bd x hx).2; omega) S)
 have h1:=mY row h.bd
 have h3:(" ":Str).length=1:=by decide
 refine (cP rfl (ag hc rfl)).trans ?_
 unfold ej
 simp only [ie]
 rw [Y9 (by rw [Ym,h3]; omega)]
theorem oj (h:RowB row) (S:Sto):dh [tI row] S=.ok (.str (fi row)) S:=by
 have ht:tV (eOp dX (af 0) (eJ aj)) [some (tI row)] S=.ok (!decide (row=[])) S:=by
  refine bc (az (ah rfl) (eE (xs:=[]) rfl (Zc _)) ?_)
  have:=rl row []
  unfold dX
  rw [show (D.tup []:D)=.tup (([]:List Int).map .int) from rfl,this]; rfl
 refine ck (ρ:=[some (tI row)]) rfl (kz (aS ?_))
 by_cases h0:row=[]
 ·rw [Yi h0] at ht
  rw [fi,Y9 h0]
  exact (lQ ht).trans rfl
 ·rw [Y7 h0] at ht
  rw [fi,Yg h0]
  exact (t5 ht).trans (oi h (t6 rfl rfl))
noncomputable abbrev hdl:SM:=(aM (cn (bC (aa (eC (.int 9)) aj)) 1 [2] (.nm 0) (tV (aJ dZ (aa (af 1) (aa (af 0) aj)))) (af 0)))
theorem HK (S:Sto):hdl [none,none,some (.exc "NoLine")] S=.ok (.rt (.lst [.int 7])) S:=by kernel_rfl
theorem HL:raisedX.contains "NoLine" = true:=by decide +kernel
section
variable {S:Sto} {b κ e δ:Nat} {hs:List (List Int)} {row:List Int} (d:Dq S b κ e δ hs row)
include d
theorem zN {l a:D} (h:aV [l] S=.err ⟨"NoLine",a⟩ S):cf [.ref δ,l] S=.ok (.lst [.int 7]) S:=by
 refine ck (ρ:=[some (.ref δ),some l,none]) rfl ?_
 show j4 raisedX 2 3 (aM (ef "Desk" "say" cH (af 0) (aa (af 1) aj))) hdl _ _=_
 unfold j4
 have hs:cH [.ref δ,l] S=.err ⟨"NoLine",a⟩ S:=mU (ρ:=[some (.ref δ),some l,none,none]) rfl (kA (by
  unfold bh
  rw [(aQ (ag (ah rfl) rfl)).trans h]; rfl))
 rw [t7 ((i9 (c:="Desk") (m:="say") (ah rfl) (bu d.dk) (EF _) (ag (ah rfl) rfl)).trans hs)]
 show (if raisedX.contains "NoLine" = true then _ else _)=_
 rw [Y9 HL]
 show ((hdl [none,none,some (.exc "NoLine")] S).nx.bind _)=_
 rw [HK]; rfl
theorem uJ (hR:RowB row):cf [.ref δ,.str "row"] S=.ok (.str (fi row)) S:=by
 have t1:=uo (w:="row") (k:="put") (ws:=[]) (r:=[some (.ref δ),some (.str "row"),some (.lst [.str "row"]),none]) (S:=S) rfl (Y7 (by decide))
 have t2:=uo (w:="row") (k:="take") (ws:=[]) (r:=[some (.ref δ),some (.str "row"),some (.lst [.str "row"]),none]) (S:=S) rfl (Y7 (by decide))
 have t3:=uo (w:="row") (k:="back") (ws:=[]) (r:=[some (.ref δ),some (.str "row"),some (.lst [.str "row"]),none]) (S:=S) rfl (Y7 (by decide))
 have hrw:bU [.ref κ] S=.ok (tI row) S:=ck (ρ:=[some (.ref κ)]) rfl (aS (ig (ah rfl) (bu d.kp) (zC _ _)))
 have hm:=(i9 (c:="Keeper") (m:="row") (F:=bU) (o:=dg "Desk" "keeper" (af 0)) (t:=aj) (ds:=[]) (ig (a:=af 0) (r:=[some (.ref δ),some (.str "row"),some (.lst [.str "row"]),none]) (ah rfl) (bu d.dk) (HH _)) (bu d.kp) (Ku _ _) rfl).trans hrw
 have t4:tNx (tV (eOp bw (eB cp (aa (af 2) aj)) (eC (.int 1)))) [some (.ref δ),some (.str "row"),some (.lst [.str "row"]),some (tI row)] S=.ok true S:=ia (bc (az (cR (ag (ah rfl) rfl) rfl) rfl rfl))
 have hx:eNx (eOp oIx (af 2) (eC (.int 0))) [some (.ref δ),some (.str "row"),some (.lst [.str "row"]),some (tI row)] S=.ok (.str "row") S:=Ey (az (ah rfl) rfl rfl)
 have hd:KTD.datumAt ("row":Str) cw=some (some ((("row_text":Str),dh):Str × FM)):=by kernel_rfl
 have hs:cH [.ref δ,.str "row"] S=.ok (.str (fi row)) S:=ck (ρ:=[some (.ref δ),some (.str "row"),none,none]) rfl ((av (bb ((aQ (ag (ah rfl) rfl)).trans (HI S)))).trans ((av ((aU t1).trans rfl)).trans ((av ((aU t2).trans rfl)).trans ((av ((aU t3).trans rfl)).trans ((av (kz (bb hm))).trans (ba ((cc t4).trans (aS ((uk hx hd (ag (ah rfl) rfl)).trans (oj hR S))))))))))
 refine ck (ρ:=[some (.ref δ),some (.str "row"),none]) rfl ?_
 show j4 raisedX 2 3 (aM (ef "Desk" "say" cH (af 0) (aa (af 1) aj))) hdl _ _=_
 unfold j4
 rw [aS ((i9 (c:="Desk") (m:="say") (ah rfl) (bu d.dk) (EF _) (ag (ah rfl) rfl)).trans hs)]
end
structure Sm (k:Nat) (x:Str):Prop where
 len:x.length<=k
 low:∀ c ∈ x.cps.toList,c < 128
theorem qh (x y:Str):(x ++ y).cps.toList=x.cps.toList ++ y.cps.toList:=by
 show (x.cps ++ y.cps).toList=_
 rw [Qz]
theorem Sm.app {a:Nat} (h1:Sm a x) (h2:Sm b y):Sm (a + b) (x ++ y):=⟨by
 have:=h1.len
 have:=h2.len
 rw [aP,qh,Yo,<- aP,<- aP]; omega,λc hc=>by
 rw [qh] at hc
 rcases Z0.mp hc with q | q
 ·exact h1.low c q
 ·exact h2.low c q⟩
theorem Sm.mono {a:Nat} (h:Sm a x) (hb:a<=b):Sm b x:=⟨Z9 h.len hb,h.low⟩
theorem kK {a:Nat} (h1:Sm a x) (h2:Sm b y) (h:a + b<=2000):bg S (.str x) (.str y)=some (.str (x ++ y)):=by
 have z:(2000:Nat)<=sizeLine:=by decide
 have:=h1.len
 have:=h2.len
 exact Y9 (by omega)
theorem Af:∀ (A:List (List Nat)) (c:Nat),c ∈ jl A->c=32 \/ ∃ w ∈ A,c ∈ w
 | [],_,h=>by cases h
 | [x],c,h=>.inr ⟨x,.head _,h⟩
 | x :: y :: r,c,h=>by
  have h':c ∈ x ++ 32 :: jl (y :: r):=h
  rcases Z0.mp h' with q | q
  ·exact .inr ⟨x,.head _,q⟩
  ·rcases Yn.mp q with q | q
   ·exact .inl q
   ·rcases Af (y :: r) c q with q | ⟨w,hw,hc⟩
    ·exact .inl q
    ·exact .inr ⟨w,.tail _ hw,hc⟩
theorem ph:∀ vs:List Str,(∀ v ∈ vs,Sm 32 v)->((vs.map λw=>w.cps.toList).map List.length).sum<=32 * vs.length/\(vs.map (·.length)).sum<=32 * vs.length
 | [],_=>⟨Zc _,Zc _⟩
 | v :: vs,h=>by
  have h1:=(h v (.head _)).len
  have h2:=ph vs λw hw=>h w (.tail _ hw)
  have h3:=aP v
  simp only [Yc,V3,Yv] at h2 ⊢
  omega
theorem Sm.join {vs:List Str} (h:∀ v ∈ vs,Sm 32 v) (hl:vs.length<=21):Sm 900 (Txt.join " " vs):=by
 have h1:=ph vs h
 refine ⟨?_,λc hc=>?_⟩
 ·rw [aP,jG,d5,mX,Ym]
  omega
 ·rw [jG,d5] at hc
  rcases Af _ c hc with q | ⟨w,hw,q⟩
  ·omega
  ·obtain ⟨v,hv,rfl⟩:=Qd.mp hw
   exact (h v hv).low c q
theorem jb {vs:List Str} (h:∀ v ∈ vs,Sm 32 v) (hl:vs.length<=21) (S:Sto):ej S (.str " ") [.lst (vs.map .str)]=.ok (.str (Txt.join " " vs)) S:=by
 have h1:=(ph vs h).2
 have h3:(" ":Str).length=1:=by decide
 have e:=ie (λx:Str=>x) vs
 rw [List.map_id'] at e
 unfold ej
 simp only
 rw [show (vs.map D.str)=(vs.map λa=>D.str a) from rfl,e]
 simp only
 rw [Y9 (by rw [h3]; omega)]
theorem uK (S:Sto) (ws:List Str) (lo hi:Option Int):∃ ys:List Str,ez S (.lst (ws.map .str)) lo hi=some (.lst (ys.map .str))/\ys.length<=ws.length/\∀ y ∈ ys,y ∈ ws:=by
 refine ⟨(ws.drop (HT.sIx ws.length 0 lo)).take (HT.sIx ws.length ws.length hi - HT.sIx ws.length 0 lo),?_,?_,λy hy=>List.mem_of_mem_drop (List.mem_of_mem_take hy)⟩
 ·show some (D.lst (PD.cutD (ws.map .str) lo hi))=_
  unfold PD.cutD
  rw [Ym,List.map_take,List.map_drop]
 ·rw [We,Qv]; omega
structure Ln (l:Str):Prop where
 sm:Sm 8 l
 up:∃ c r u,l.cps.toList=c :: r/\Txt.upper (⟨#[c]⟩:Str)=⟨#[u]⟩/\u < 128
noncomputable def wl:List Str:=["","0","-0","01","-1","x","row","+1","1.0",Txt.mul "1" 31,("-":Str) ++ Txt.mul "1" 31,"Even"]
theorem HM:∀ w ∈ wl,Sm 32 w:=by
 have h:∀ w ∈ wl,(decide (w.length<=32) && w.cps.toList.all (λc=>decide (c < 128)))=true:=by decide +kernel
 intro w hw
 have:=h w hw
 rw [Yt,Z2,Ze] at this
 exact ⟨this.1,λc hc=>Zf (this.2 c hc)⟩
theorem uL (S:Sto):ko S (.str "1") (.int 31)=some (.str (Txt.mul "1" 31)):=by
 show (if MulOk "1" 31 then some (D.str (Txt.mul "1" 31)) else none)=_
 exact Y9 (by unfold MulOk; decide +kernel)
theorem KC:Sm 31 (Txt.mul "1" 31):=by
 have h:(decide ((Txt.mul "1" 31).length<=31) && (Txt.mul "1" 31).cps.toList.all (λc=>decide (c < 128)))=true:=by decide +kernel
 rw [Yt,Z2,Ze] at h
 exact ⟨h.1,λc hc=>Zf (h.2 c hc)⟩
theorem jc {k:Nat} (h:(decide (x.length<=k) && x.cps.toList.all (λc=>decide (c < 128)))=true):Sm k x:=by
 rw [Yt,Z2,Ze] at h
 exact ⟨h.1,λc hc=>Zf (h.2 c hc)⟩
theorem qi (ws:List Str) (h:i < ws.length):oIx S (.lst (ws.map .str)) (.int (i:Int))=some (.str ws[i]):=by
 show atI (ws.map D.str) (i:Int)=_
 rw [kf (by rw [Ym]; exact h),List.getElem_map]
theorem zO (g:Gr b S S) (h:Ln l):∃ x S1,cG [.ref b,.str l] S=.ok (.str x) S1/\Gr b S S1/\Sm 900 x:=by
 have z:(1000:Nat)<=sizeLine:=by decide
 have hl8:=h.sm.len
 have hsp:=fL (x:=l) (by omega) S
 have hpos:=split_pos l (" ":Str)
 have hle:=split_le l (" ":Str)
 have hsm:∀ v ∈ Txt.split l " ",Sm 32 v:=λv hv=>⟨by have:=part_short hv; omega,λc hc=>h.sm.low c (lV hv c hc)⟩
 generalize Txt.split l " " = ws at hsp hpos hle hsm
 obtain ⟨q1,S1,e1,a1,b1,g1⟩:=fI g (many:=(ws.length:Int)) (by omega) (by omega)
 obtain ⟨q2,S2,e2,a2,b2,g2⟩:=fI g1.self (many:=12) (by decide) (by decide)
 obtain ⟨q3,S3,e3,a3,b3,g3⟩:=fI g2.self (many:=6) (by decide) (by decide)
 obtain ⟨i2,rfl⟩:∃ n:Nat,q2=n:=⟨q2.toNat,by omega⟩
 have hi2:i2 < wl.length:=by show i2 < 12; omega
 have hw:=HM wl[i2] (Vd hi2)
 have hx:=qi (S:=S2) wl hi2
 generalize wl[i2]=wd at hw hx
 have hlen:eB cp (aa (af 2) aj) [some (.ref b),some (.str l),some (.lst (ws.map .str)),none,none,none] S=.ok (.int (ws.length:Int)) S:=cR (ag (ah rfl) rfl) (by rw [jZ,Ym])
 have hL:cS (aa (eC (.str "")) (aa (eC (.str "0")) (aa (eC (.str "-0")) (aa (eC (.str "01")) (aa (eC (.str "-1")) (aa (eC (.str "x")) (aa (eC (.str "row")) (aa (eC (.str "+1")) (aa (eC (.str "1.0")) (aa (eOp ko (eC (.str "1")) (eC (.int 31))) (aa (eOp bg (eC (.str "-")) (eOp ko (eC (.str "1")) (eC (.int 31)))) (aa (eC (.str "Even")) aj)))))))))))) [some (.ref b),some (.str l),some (.lst (ws.map .str)),some (.int q1),none,none] S1=.ok (.lst (wl.map .str)) S1:=
  dQ (xs:=wl.map .str) (ag rfl (ag rfl (ag rfl (ag rfl (ag rfl (ag rfl (ag rfl (ag rfl (ag rfl (ag (az rfl rfl (uL S1)) (ag (az rfl (az rfl rfl (uL S1)) (kK (a:=1) (jc (by decide)) KC (by decide))) (ag rfl rfl)))))))))))) (by show 12<=sizeLine; omega)
 let r:Rho:=[some (.ref b),some (.str l),some (.lst (ws.map .str)),some (.int q1),some (.str wd),some (.int q3)]
 have pre:∀ {x:Str},(aC (sIf (tV (eOp bw (af 5) (eC (.int 0)))) (aM (dB ej (eC (.str " ")) (aa (eOp bg (eSl ez (af 2) oNo (bE (af 3))) (eSl ez (af 2) (bE (eOp bg (af 3) (eC (.int 1)))) oNo)) aj))) aG) (aC (sIf (tV (eOp bw (af 5) (eC (.int 1)))) (aM (dB ej (eC (.str " ")) (aa (eOp bg (eOp bg (eSl ez (af 2) oNo (bE (af 3))) (cS (aa (af 4) aj))) (eSl ez (af 2) (bE (af 3)) oNo)) aj))) aG) (aC (sIf (tV (eOp bw (af 5) (eC (.int 2)))) (aM (dB ej (eC (.str " ")) (aa (eOp bg (eOp bg (eSl ez (af 2) oNo (bE (af 3))) (cS (aa (af 4) aj))) (eSl ez (af 2) (bE (eOp bg (af 3) (eC (.int 1)))) oNo)) aj))) aG) (aC (sIf (tV (eOp bw (af 5) (eC (.int 3)))) (aM (eOp bg (eOp bg (af 1) (eC (.str " "))) (af 4))) aG) (aC (sIf (tV (eOp bw (af 5) (eC (.int 4)))) (aM (eOp bg (af 1) (eC (.str "\n")))) aG) (aM (eOp bg (nU kn (eSl fX (af 1) oNo (bE (eC (.int 1))))) (eSl fX (af 1) (bE (eC (.int 1))) oNo)))))))) r S3=.ok (.rt (.str x)) S3->cG [.ref b,.str l] S=.ok (.str x) S3:=λ{x} hr=>
  ck (ρ:=[some (.ref b),some (.str l),none,none,none,none]) rfl ((av (bb ((cP (ah rfl) (ag rfl rfl)).trans hsp))).trans ((av (bb ((aQ (ag (ah rfl) (ag hlen rfl))).trans e1))).trans ((av (bb (az hL ((aQ (ag (ah rfl) (ag rfl rfl))).trans e2) hx))).trans ((av (bb ((aQ (ag (ah rfl) (ag rfl rfl))).trans e3))).trans hr))))
 have gg:=(g1.trans g2).trans g3
 have tk:∀ (j:Int) (c:Bool),decide (q3=j)=c->tV (eOp bw (af 5) (eC (.int j))) r S3=.ok c S3:=λj c hc=>by
  rw [<- hc]
  exact bc (az (ah rfl) rfl mV)
 obtain ⟨A,eA,lA,mA⟩:=uK S3 ws none (some q1)
 obtain ⟨B,eB',lB,mB⟩:=uK S3 ws (some (q1 + 1)) none
 obtain ⟨C,eC',lC,mC⟩:=uK S3 ws (some q1) none
 have sA:eSl ez (af 2) oNo (bE (af 3)) r S3=.ok (.lst (A.map .str)) S3:=ub (ah rfl) rfl (d7 (ah rfl)) eA
 have sB:eSl ez (af 2) (bE (eOp bg (af 3) (eC (.int 1)))) oNo r S3=.ok (.lst (B.map .str)) S3:=ub (ah rfl) (d7 (az (ah rfl) rfl rfl)) rfl eB'
 have sC:eSl ez (af 2) (bE (af 3)) oNo r S3=.ok (.lst (C.map .str)) S3:=ub (ah rfl) (d7 (ah rfl)) rfl eC'
 have sW:cS (aa (af 4) aj) r S3=.ok (.lst ([wd].map .str)) S3:=dQ (ag (ah rfl) rfl) (by show 1<=sizeLine; omega)
 have add:∀ P Q:List Str,P.length + Q.length<=100->bg S3 (.lst (P.map .str)) (.lst (Q.map .str))=some (.lst ((P ++ Q).map .str)):=λP Q hq=>by
  rw [Vg]
  exact ED (by rw [Ym,Ym]; omega)
 have hmem:∀ P Q:List Str,(∀ v ∈ P,Sm 32 v)->(∀ v ∈ Q,Sm 32 v)->∀ v ∈ P ++ Q,Sm 32 v:=λP Q hp hq v hv=>by
  rcases Z0.mp hv with q | q
  ·exact hp v q
  ·exact hq v q
 have hA:∀ v ∈ A,Sm 32 v:=λv hv=>hsm v (mA v hv)
 have hB:∀ v ∈ B,Sm 32 v:=λv hv=>hsm v (mB v hv)
 have hC:∀ v ∈ C,Sm 32 v:=λv hv=>hsm v (mC v hv)
 have hW:∀ v ∈ [wd],Sm 32 v:=λv hv=>by rw [Zw.mp hv]; exact hw
 have hk:q3=0 \/ q3=1 \/ q3=2 \/ q3=3 \/ q3=4 \/ q3=5:=by omega
 rcases hk with hk | hk | hk | hk | hk | hk
 ·have hj:=jb (vs:=A ++ B) (hmem A B hA hB) (by rw [Yo]; omega) S3
  exact ⟨_,S3,pre (ba ((cc (tk 0 true (Yi hk))).trans (aS ((cP rfl (ag (az sA sB (add A B (by omega))) rfl)).trans hj)))),gg,Sm.join (hmem A B hA hB) (by rw [Yo]; omega)⟩
 ·have hm:=hmem (A ++ [wd]) C (hmem A [wd] hA hW) hC
  have hln:((A ++ [wd]) ++ C).length<=21:=by rw [Yo,Yo,Zb]; omega
  exact ⟨_,S3,pre ((av ((aU (tk 0 false (Y7 (by omega)))).trans rfl)).trans (ba ((cc (tk 1 true (Yi hk))).trans (aS ((cP rfl (ag (az (az sA sW (add A [wd] (by simp; omega))) sC (add (A ++ [wd]) C (by simp; omega))) rfl)).trans (jb hm hln S3)))))),gg,Sm.join hm hln⟩
 ·have hm:=hmem (A ++ [wd]) B (hmem A [wd] hA hW) hB
  have hln:((A ++ [wd]) ++ B).length<=21:=by rw [Yo,Yo,Zb]; omega
  exact ⟨_,S3,pre ((av ((aU (tk 0 false (Y7 (by omega)))).trans rfl)).trans ((av ((aU (tk 1 false (Y7 (by omega)))).trans rfl)).trans (ba ((cc (tk 2 true (Yi hk))).trans (aS ((cP rfl (ag (az (az sA sW (add A [wd] (by simp; omega))) sB (add (A ++ [wd]) B (by simp; omega))) rfl)).trans (jb hm hln S3))))))),gg,Sm.join hm hln⟩
 ·have hb:Sm 1 (" ":Str):=jc (by decide)
  exact ⟨_,S3,pre ((av ((aU (tk 0 false (Y7 (by omega)))).trans rfl)).trans ((av ((aU (tk 1 false (Y7 (by omega)))).trans rfl)).trans ((av ((aU (tk 2 false (Y7 (by omega)))).trans rfl)).trans (ba ((cc (tk 3 true (Yi hk))).trans (aS (az (az (ah rfl) rfl (kK h.sm hb (by decide))) (ah rfl) (kK (h.sm.app hb) hw (by decide))))))))),gg,((h.sm.app hb).app hw).mono (by decide)⟩
 ·have hb:Sm 1 ("\n":Str):=jc (by decide)
  exact ⟨_,S3,pre ((av ((aU (tk 0 false (Y7 (by omega)))).trans rfl)).trans ((av ((aU (tk 1 false (Y7 (by omega)))).trans rfl)).trans ((av ((aU (tk 2 false (Y7 (by omega)))).trans rfl)).trans ((av ((aU (tk 3 false (Y7 (by omega)))).trans rfl)).trans (ba ((cc (tk 4 true (Yi hk))).trans (aS (az (ah rfl) rfl (kK h.sm hb (by decide)))))))))),gg,(h.sm.app hb).mono (by decide)⟩
 ·obtain ⟨c,rr,u,hc,hu,hu8⟩:=h.up
  have h1:1<=l.length:=by rw [aP,hc]; simp
  have ht:Txt.slice l none (some 1)=⟨#[c]⟩:=by rw [kJ h1,hc]; rfl
  have hd:=kI h1
  have hsu:Sm 1 (⟨#[u]⟩:Str):=⟨Yd _,λd hd'=>by
   have:d=u:=by simpa using hd'
   omega⟩
  have hsd:Sm 8 (Txt.slice l (some 1) none):=by
   rw [hd]
   refine ⟨?_,λd hd'=>?_⟩
   ·rw [aP]
    show ((l.cps.toList.drop 1)).length<=8
    rw [Qv,<- aP]; omega
   ·exact h.sm.low d (List.mem_of_mem_drop (show d ∈ l.cps.toList.drop 1 from hd'))
  have hup:nU kn (eSl fX (af 1) oNo (bE (eC (.int 1)))) r S3=.ok (.str ⟨#[u]⟩) S3:=by
   unfold nU
   rw [kD (f:=fX) (z:=.str ⟨#[c]⟩) (ah (d:=.str l) rfl) rfl (d7 rfl) (by rw [kE (by omega),ht]),R.bind_ok]
   show (if Builtin.Str.tooLong (Txt.upper ⟨#[c]⟩).length=false then R.ok (D.str (Txt.upper ⟨#[c]⟩)) S3 else .bad)=_
   rw [hu,Y9 (by show Builtin.Str.tooLong 1=false; decide)]
  exact ⟨_,S3,pre ((av ((aU (tk 0 false (Y7 (by omega)))).trans rfl)).trans ((av ((aU (tk 1 false (Y7 (by omega)))).trans rfl)).trans ((av ((aU (tk 2 false (Y7 (by omega)))).trans rfl)).trans ((av ((aU (tk 3 false (Y7 (by omega)))).trans rfl)).trans ((av ((aU (tk 4 false (Y7 (by omega)))).trans rfl)).trans (aS (az hup (kD (ah rfl) (d7 rfl) rfl (kE (by omega))) (kK hsu hsd (by decide))))))))),gg,(hsu.app hsd).mono (by decide)⟩
noncomputable abbrev om:List D:=[.non,.bl true,.bl false,.int (-1),.int 2,.str "",.str "1",.tup [.int 0],.lst [.int 1],.dic [(.inr "a",.int 1)],.tup [.int (-1)],.tup [.bl true],.tup [.tup [.int 1]],.tup [.non],.int 100000000000000000000000000000,.lst []]
theorem zP:qJ S (.int 10) (.int 29)=some (.int 100000000000000000000000000000):=by
 rw [Eg ⟨by decide,by decide,by decide⟩]
 have e:(10:Int) ^ (29:Int).toNat=100000000000000000000000000000:=by decide
 rw [e]
theorem EN (g:Gr b S S):∃ d S1,dJ [.ref b] S=.ok d S1/\d ∈ om/\Gr b S S1:=by
 obtain ⟨q,S',e,q0,q1,g'⟩:=fI g (many:=16) (by decide) (by decide)
 obtain ⟨n,rfl⟩:∃ n:Nat,q=n:=⟨q.toNat,by omega⟩
 have hn:n < om.length:=by show n < 16; omega
 refine ⟨om[n],S',?_,Vd hn,g'⟩
 have hix:oIx S' (D.lst om) (D.int (n:Int))=some om[n]:=kf hn
 have z1':(1:Nat)<=sizeLine:=by decide
 have hD:yY [((eC (.str "a")),(eC (.int 1)))] [some (.ref b),none] S=.ok (.dic [(.inr "a",.int 1)]) S:=by kernel_rfl
 have hL:cS (aa (eC .non) (aa (eC (.bl true)) (aa (eC (.bl false)) (aa (eUn nJ (eC (.int 1))) (aa (eC (.int 2)) (aa (eC (.str "")) (aa (eC (.str "1")) (aa (eJ (aa (eC (.int 0)) aj)) (aa (cS (aa (eC (.int 1)) aj)) (aa (yY [((eC (.str "a")),(eC (.int 1)))]) (aa (eJ (aa (eUn nJ (eC (.int 1))) aj)) (aa (eJ (aa (eC (.bl true)) aj)) (aa (eJ (aa (eJ (aa (eC (.int 1)) aj)) aj)) (aa (eJ (aa (eC .non) aj)) (aa (eOp qJ (eC (.int 10)) (eC (.int 29))) (aa (cS aj) aj)))))))))))))))) [some (.ref b),none] S=.ok (.lst om) S:=
  dQ (ag rfl (ag rfl (ag rfl (ag rfl (ag rfl (ag rfl (ag rfl (ag (eE (ag rfl rfl) z1') (ag (dQ (ag rfl rfl) z1') (ag hD (ag (eE (ag rfl rfl) z1') (ag (eE (ag rfl rfl) z1') (ag (eE (ag (eE (ag rfl rfl) z1') rfl) z1') (ag (eE (ag rfl rfl) z1') (ag (az rfl rfl zP) (ag (dQ (xs:=[]) rfl (Zc _)) rfl)))))))))))))))) (by show 16<=sizeLine; decide)
 exact ck (ρ:=[some (.ref b),none]) rfl ((av (bb hL)).trans (aS (az (ah rfl) ((aQ (ag (ah rfl) (ag rfl rfl))).trans e) hix)))
def NoW (d:D):Prop:=∀ S:Sto,∃ c:Bool,bL [d] S=.ok (.bl c) S/\(c=false->∃ a,aV [d] S=.err ⟨"NoLine",a⟩ S)
theorem m3 (h:Sm 900 x):NoW (.str x):=λS=>⟨_,uD h.len (λc hc=>by have:=h.low c hc; omega) S,λhc=>uF h.len hc S⟩
theorem cE {d:D} (h:∀ S,gj S [d,.ty "str"]=some (.bl false)):NoW d:=λS=>by
 have hi:∀ r:Rho,r[0]?=some (some d)->tV (eB gj (aa (af 0) (aa (eC (.ty "str")) aj))) r S=.ok false S:=λr hr=>bc (cR (ag (ah hr) (ag rfl rfl)) (h S))
 refine ⟨false,ck (ρ:=[some d,none,none]) rfl (ba ((cc (bN (hi _ rfl))).trans rfl)),λ_=>⟨_,mU (ρ:=[some d,none]) rfl (kA ((cc (ia (bN (hi _ rfl)))).trans (lR (xs:=[.str "a line is a text"]) rfl z1)))⟩⟩
theorem uM {d:D} (h:d ∈ om):NoW d:=by
 simp only [om,Yn,Zd,Ql] at h
 rcases h with rfl | rfl | rfl | rfl | rfl | rfl | rfl | rfl | rfl | rfl | rfl | rfl | rfl | rfl | rfl | rfl
 ·exact cE λS=>by kernel_rfl
 ·exact cE λS=>by kernel_rfl
 ·exact cE λS=>by kernel_rfl
 ·exact cE λS=>by kernel_rfl
 ·exact cE λS=>by kernel_rfl
 ·exact m3 (jc (by decide))
 ·exact m3 (jc (by decide))
 ·exact cE λS=>by kernel_rfl
 ·exact cE λS=>by kernel_rfl
 ·exact cE λS=>by kernel_rfl
 ·exact cE λS=>by kernel_rfl
 ·exact cE λS=>by kernel_rfl
 ·exact cE λS=>by kernel_rfl
 ·exact cE λS=>by kernel_rfl
 ·exact cE λS=>by kernel_rfl
 ·exact cE λS=>by kernel_rfl
theorem lW {e:EM} {P:Int->Prop} (he:∀ (S:Sto) (x:Option D),Gr b S S->∃ (y:Int) (S':Sto),e [x,some (.ref b)] S=.ok (.int y) S'/\P y/\Gr b S S'):∀ (xs:List D) (r0:Option D) (S:Sto),Gr b S S->
  ∃ (ys:List Int) (S':Sto),dR (.nm 0) dS e xs [r0,some (.ref b)] S=.ok (ys.map .int) S'/\ys.length=xs.length/\(∀ y ∈ ys,P y)/\Gr b S S'
 | [],_,S,g=>⟨[],S,rfl,rfl,(λy h=>nomatch h),g⟩
 | x :: xs,r0,S,g=>by
  obtain ⟨y,S1,e1,p1,g1⟩:=he S (some x) g
  obtain ⟨ys,S2,e2,l2,p2,g2⟩:=lW he xs (some x) S1 g1.self
  refine ⟨y :: ys,S2,?_,by simp [l2],λz hz=>?_,g1.trans g2⟩
  ·rw [dR]
   simp only [G.put,Z5,dS,R.bind_ok,Zm,e1,e2,Yc]
  ·rcases Yn.mp hz with h | h
   ·rw [h]; exact p1
   ·exact p2 z h
theorem zQ (ns:List Int) (c:Nat) (hn:ns.length<=63) (hc:1<=c/\c<=63) (r:Rho) (hr:r[0]?=some (some (.fz (ns.map .int)))) (S:Sto):∃ n:Nat,bC (aa (eB sX (aa (eC (.int 1)) (aa (eB sY (aa (eB cp (aa (af 0) aj)) (aa (eC (.int c)) aj))) aj))) aj) r S=.ok ((List.range n).map (λ(i:Nat)=>D.int i)) S/\n<=c:=by
 refine ⟨max 1 (min ns.length c),o4 ?_ (by omega),by omega⟩
 have e:(if (1:Int) < (if (c:Int) < (ns.length:Int) then (c:Int) else (ns.length:Int)) then (if (c:Int) < (ns.length:Int) then (c:Int) else (ns.length:Int)) else 1)=((max 1 (min ns.length c):Nat):Int):=by
  split <;> split <;> omega
 rw [<- e]
 simp [aa,aj,eB,eC,af,R.bind,R.of,hr,cp,gf,sY,sX]
noncomputable def eu:List Str:=["put 3","take","back","comes -2","ways 4","signs 0","near 7","even","every","put 12"]
theorem g4 {c u:Nat} (h1:(decide (l.length<=8) && l.cps.toList.all (λc=>decide (c < 128)))=true) (h2:l.cps.toList=c :: l.cps.toList.tail) (h3:Txt.upper (⟨#[c]⟩:Str)=⟨#[u]⟩) (h4:u < 128):Ln l:=⟨jc h1,c,_,u,h2,h3,h4⟩
theorem HN (h:l ∈ eu):Ln l:=by
 simp only [eu,Yn,Zd,Ql] at h
 rcases h with rfl | rfl | rfl | rfl | rfl | rfl | rfl | rfl | rfl | rfl
 ·exact g4 (c:=112) (u:=80) (by decide) Y0 Y0 (by decide)
 ·exact g4 (c:=116) (u:=84) (by decide) Y0 Y0 (by decide)
 ·exact g4 (c:=98) (u:=66) (by decide) Y0 Y0 (by decide)
 ·exact g4 (c:=99) (u:=67) (by decide) Y0 Y0 (by decide)
 ·exact g4 (c:=119) (u:=87) (by decide) Y0 Y0 (by decide)
 ·exact g4 (c:=115) (u:=83) (by decide) Y0 Y0 (by decide)
 ·exact g4 (c:=110) (u:=78) (by decide) Y0 Y0 (by decide)
 ·exact g4 (c:=101) (u:=69) (by decide) Y0 Y0 (by decide)
 ·exact g4 (c:=101) (u:=69) (by decide) Y0 Y0 (by decide)
 ·exact g4 (c:=112) (u:=80) (by decide) Y0 Y0 (by decide)
noncomputable abbrev EO:SM:=(aC (bh 9 (aJ cG (aa (af 2) (aa (eOp oIx (af 7) (aJ aF (aa (af 2) (aa (eC (.int 10)) aj)))) aj)))) (aC (sIf (tV (eOp bw (eOp oMod (af 8) (eC (.int 4))) (eC (.int 3)))) (bh 9 (aJ dJ (aa (af 2) aj))) aG) (sIf (PD.eZ (tV (aJ bL (aa (af 9) aj)))) (sIf (PD.tOr (tV (eOp dX (aJ cf (aa (af 4) (aa (af 9) aj))) (cS (aa (eC (.int 7)) aj)))) (tV (eOp dX (aJ cf (aa (af 4) (aa (eC (.str "row")) aj))) (af 6)))) (aM (eC (.bl false))) aG) aG)))
noncomputable abbrev HP:SM:=(aC (bh 2 (aJ di (aa (af 0) (aa (af 1) aj)))) (aC (bh 3 (cn (bC (aa (aJ aF (aa (af 2) (aa (eC (.int 5)) aj))) aj)) 1 [2] (.nm 0) dS (eOp bg (eC (.int 1)) (aJ aF (aa (af 1) (aa (eC (.int 9)) aj)))))) (aC (bh 4 (qW "Desk" cu)) (aC (jJ (cV (af 3) eM) (.nm 5) (fO (ef "Desk" "say" cK (af 4) (aa (eOp bg (eC (.str "put ")) (eB fc (aa (af 5) aj))) aj)))) (aC (bh 6 (rh (dB ej (eC (.str " ")) (aa (cn (cV (af 3) eM) 1 [] (.nm 0) dS (eB fc (aa (af 0) aj))) aj)) (eC (.str "none")))) (aC (bh 7 (cS (aa (eC (.str "put 3")) (aa (eC (.str "take")) (aa (eC (.str "back")) (aa (eC (.str "comes -2")) (aa (eC (.str "ways 4")) (aa (eC (.str "signs 0")) (aa (eC (.str "near 7")) (aa (eC (.str "even")) (aa (eC (.str "every")) (aa (eC (.str "put 12")) aj)))))))))))) (jJ (bC (aa (eC (.int 9)) aj)) (.nm 8) EO)))))))
theorem uN (d:Dq S b κ e δ hs row) (hR:RowB row) (i:Nat) (r0 r1 r3 r5 r9:Option D):∃ S' a9,EO [r0,r1,some (.ref b),r3,some (.ref δ),r5,some (.str (fi row)),some (.lst (eu.map .str)),some (.int (i:Int)),r9] S=.ok (.nx [r0,r1,some (.ref b),r3,some (.ref δ),r5,some (.str (fi row)),some (.lst (eu.map .str)),some (.int (i:Int)),a9]) S'/\Dq S' b κ e δ hs row:=by
 obtain ⟨q,S1,e1,a1,b1,g1⟩:=fI d.self (many:=10) (by decide) (by decide)
 obtain ⟨n,rfl⟩:∃ n:Nat,q=n:=⟨q.toNat,by omega⟩
 have hn:n < eu.length:=by show n < 10; omega
 obtain ⟨x,S2,e2,g2,hx⟩:=zO g1.self (HN (Vd hn))
 have s0:(bh 9 (aJ cG (aa (af 2) (aa (eOp oIx (af 7) (aJ aF (aa (af 2) (aa (eC (.int 10)) aj)))) aj)))) [r0,r1,some (.ref b),r3,some (.ref δ),r5,some (.str (fi row)),some (.lst (eu.map .str)),some (.int (i:Int)),r9] S=.ok (.nx [r0,r1,some (.ref b),r3,some (.ref δ),r5,some (.str (fi row)),some (.lst (eu.map .str)),some (.int (i:Int)),some (.str x)]) S2:=
  bb ((aQ (ag (ah rfl) (ag (az (ah rfl) ((aQ (ag (ah rfl) (ag rfl rfl))).trans e1) (qi eu hn)) rfl))).trans e2)
 have g:=g1.trans g2
 have tm:∀ (T:Sto) (y:Option D),tV (eOp bw (eOp oMod (af 8) (eC (.int 4))) (eC (.int 3))) [r0,r1,some (.ref b),r3,some (.ref δ),r5,some (.str (fi row)),some (.lst (eu.map .str)),some (.int (i:Int)),y] T=.ok (decide ((i:Int) % 4=3)) T:=λT y=>bc (az (az (ah rfl) rfl (Ef (by decide))) rfl mV)
 have s1:∃ (l:D) (S3:Sto),(sIf (tV (eOp bw (eOp oMod (af 8) (eC (.int 4))) (eC (.int 3)))) (bh 9 (aJ dJ (aa (af 2) aj))) aG) [r0,r1,some (.ref b),r3,some (.ref δ),r5,some (.str (fi row)),some (.lst (eu.map .str)),some (.int (i:Int)),some (.str x)] S2=.ok (.nx [r0,r1,some (.ref b),r3,some (.ref δ),r5,some (.str (fi row)),some (.lst (eu.map .str)),some (.int (i:Int)),some l]) S3/\Gr b S S3/\NoW l:=by
  have t:=tm S2 (some (.str x))
  by_cases h3:(i:Int) % 4=3
  ·rw [Yi h3] at t
   obtain ⟨o,S3,e3,ho,g3⟩:=EN g.self
   exact ⟨o,S3,(cc t).trans (bb ((aQ (ag (ah rfl) rfl)).trans e3)),g.trans g3,uM ho⟩
  ·rw [Y7 h3] at t
   exact ⟨.str x,S2,(aU t).trans rfl,g,m3 hx⟩
 obtain ⟨l,S3,e3,g3,hN⟩:=s1
 have d3:=d.gr g3
 refine ⟨S3,some l,(av s0).trans ((av e3).trans ?_),d3⟩
 obtain ⟨c,hc,hf⟩:=hN S3
 have tl:tV (aJ bL (aa (af 9) aj)) [r0,r1,some (.ref b),r3,some (.ref δ),r5,some (.str (fi row)),some (.lst (eu.map .str)),some (.int (i:Int)),some l] S3=.ok c S3:=bc ((aQ (ag (ah rfl) rfl)).trans hc)
 cases c with
 | true=>exact (aU (bN tl)).trans rfl
 | false=>
  obtain ⟨a,hw⟩:=hf rfl
  have hn7:dX S3 (.lst [.int 7]) (.lst [.int 7])=some (.bl false):=by kernel_rfl
  have hnr:dX S3 (.str (fi row)) (.str (fi row))=some (.bl false):=by simp [dX,eqP,eqS]
  exact (cc (bN tl)).trans ((aU ((jE (bc (az ((aQ (ag (ah rfl) (ag (ah rfl) rfl))).trans (zN d3 hw)) (dQ (ag rfl rfl) (by show 1<=sizeLine; decide)) hn7))).trans (bc (az ((aQ (ag (ah rfl) (ag rfl rfl))).trans (uJ d3 hR)) (ah rfl) hnr)))).trans rfl)
theorem oo (hR:RowB row) (r0 r1 r3 r5:Option D):∀ (l:List Nat) (S:Sto) (r8 r9:Option D),Dq S b κ e δ hs row->∃ S' a8 a9,forL (.nm 8) EO (l.map λ(i:Nat)=>D.int i) [r0,r1,some (.ref b),r3,some (.ref δ),r5,some (.str (fi row)),some (.lst (eu.map .str)),r8,r9] S=.ok (.nx [r0,r1,some (.ref b),r3,some (.ref δ),r5,some (.str (fi row)),some (.lst (eu.map .str)),a8,a9]) S'
 | [],S,r8,r9,_=>⟨S,r8,r9,rfl⟩
 | k :: l,S,r8,r9,d=>by
  obtain ⟨S1,a9,e1,d1⟩:=uN d hR k r0 r1 r3 r5 r9
  obtain ⟨S2,b8,b9,e2⟩:=oo hR r0 r1 r3 r5 l S1 (some (.int (k:Int))) a9 d1
  exact ⟨S2,b8,b9,(i6 rfl e1).trans e2⟩
noncomputable abbrev HQ:SM:=(fO (ef "Desk" "say" cK (af 4) (aa (eOp bg (eC (.str "put ")) (eB fc (aa (af 5) aj))) aj)))
theorem oq (r0 r1 r3 r6 r7 r8 r9:Option D):∀ (ys:List Int) (S:Sto) (hs:List (List Int)) (row:List Int) (r5:Option D),Dq S b κ e δ hs row->(∀ y ∈ ys,1<=y/\y < 1000000000000000000000000000000)->row.length + ys.length < 16->hs.length + ys.length < 100->∃ S' a5 hs',forL (.nm 5) HQ (ys.map .int) [r0,r1,some (.ref b),r3,some (.ref δ),r5,r6,r7,r8,r9] S=.ok (.nx [r0,r1,some (.ref b),r3,some (.ref δ),a5,r6,r7,r8,r9]) S'/\Dq S' b κ e δ hs' (row ++ ys)
 | [],S,hs,row,r5,d,_,_,_=>⟨S,r5,hs,rfl,by rw [Z8]; exact d⟩
 | y :: ys,S,hs,row,r5,d,hy,hl,hh=>by
  simp only [Yv] at hl hh
  have h1:=hy y (.head _)
  obtain ⟨n,rfl⟩:∃ n:Nat,y=n:=⟨y.toNat,by omega⟩
  obtain ⟨v,S1,e1,d1⟩:=rC d (n:=n) (by omega) (by omega) (by omega) (by omega)
  have z:(100:Nat)<=sizeLine:=by decide
  have hn30:(nm n).length<=30:=ib (k:=29) (by omega)
  have hstr:eOp bg (eC (.str "put ")) (eB fc (aa (af 5) aj)) [r0,r1,some (.ref b),r3,some (.ref δ),some (.int (n:Int)),r6,r7,r8,r9] S=.ok (.str (("put ":Str) ++ nm n)) S:=by
   refine az rfl (cR (ag (ah rfl) rfl) (pe (by omega))) ?_
   show (if _ then _ else _)=_
   rw [Y9 (by show 4 + (nm n).length<=sizeLine; omega)]
  have st:HQ [r0,r1,some (.ref b),r3,some (.ref δ),some (.int (n:Int)),r6,r7,r8,r9] S=.ok (.nx [r0,r1,some (.ref b),r3,some (.ref δ),some (.int (n:Int)),r6,r7,r8,r9]) S1:=iN ((i9 (ah rfl) (bu d.dk) (EF _) (ag hstr rfl)).trans e1)
  obtain ⟨S2,a5,hs',e2,d2⟩:=oq r0 r1 r3 r6 r7 r8 r9 ys S1 (hs ++ [row]) (row ++ [(n:Int)]) (some (.int (n:Int))) d1 (λz hz=>hy z (.tail _ hz)) (by rw [Yo,Zb]; omega) (by rw [Yo,Zb]; omega)
  refine ⟨S2,a5,hs',(i6 rfl st).trans e2,?_⟩
  rw [List.append_assoc] at d2
  exact d2
theorem uP (ns:List Int) (k:Nat) (S:Sto) (r2 r3 r4 r5 r6 r7 r8 r9:Option D):∃ (S':Sto) (a2 a3 a4 a5 a6 a7 a8 a9:Option D),HP [some (.fz (ns.map .int)),some (.int k),r2,r3,r4,r5,r6,r7,r8,r9] S=.ok (.nx [some (.fz (ns.map .int)),some (.int k),a2,a3,a4,a5,a6,a7,a8,a9]) S':=by
 have z:(1000:Nat)<=sizeLine:=by decide
 obtain ⟨v,e0⟩:=Ew ns k S
 have g0:Gr S.length (S ++ [.lst [.int v]]) (S ++ [.lst [.int v]]):=⟨⟨v,by simp⟩,λ_ _ _=>rfl,Yd _⟩
 obtain ⟨q,S1,e1,q0,q1,g1⟩:=fI g0 (many:=5) (by decide) (by decide)
 have hrg:bC (aa (aJ aF (aa (af 2) (aa (eC (.int 5)) aj))) aj) [some (.fz (ns.map .int)),some (.int k),some (.ref S.length),r3,r4,r5,r6,r7,r8,r9] (S ++ [.lst [.int v]])=.ok ((List.range q.toNat).map λ(i:Nat)=>D.int i) S1:=
  gA (ag ((aQ (ag (ah rfl) (ag rfl rfl))).trans e1) rfl) q0 (by omega)
 obtain ⟨ys,S2,e2,l2,p2,g2⟩:=lW (e:=eOp bg (eC (.int 1)) (aJ aF (aa (af 1) (aa (eC (.int 9)) aj)))) (P:=λy=>1<=y/\y < 1000000000000000000000000000000) (λT x g=>by
  obtain ⟨w,T',ew,w0,w1,g'⟩:=fI g (many:=9) (by decide) (by decide)
  exact ⟨1 + w,T',az rfl ((aQ (ag (ah rfl) (ag rfl rfl))).trans ew) rfl,⟨by omega,by omega⟩,g'⟩) ((List.range q.toNat).map λ(i:Nat)=>D.int i) none S1 g1.self
 rw [Ym,List.length_range] at l2
 have s3:cn (bC (aa (aJ aF (aa (af 2) (aa (eC (.int 5)) aj))) aj)) 1 [2] (.nm 0) dS (eOp bg (eC (.int 1)) (aJ aF (aa (af 1) (aa (eC (.int 9)) aj)))) [some (.fz (ns.map .int)),some (.int k),some (.ref S.length),r3,r4,r5,r6,r7,r8,r9] (S ++ [.lst [.int v]])=.ok (.lst (ys.map .int)) S2:=by
  unfold cn
  rw [hrg,R.bind_ok,Y9 (by rw [Ym,List.length_range]; omega)]
  rw [show gS 1 [2] [some (.fz (ns.map .int)),some (.int k),some (.ref S.length),r3,r4,r5,r6,r7,r8,r9]=[none,some (.ref S.length)] from rfl,e2,R.bind_ok]
 have gB:=g1.trans g2
 obtain ⟨nb,hnb⟩:=gB.bx
 have hlt:S.length < S2.length:=dM hnb
 have hmk:=uc (c:="Desk") (r:=[some (.fz (ns.map .int)),some (.int k),some (.ref S.length),some (.lst (ys.map .int)),r4,r5,r6,r7,r8,r9]) (zE S2)
 let S3:Sto:=S2 ++ [.ins "Desk" [("keeper",.ref (S2.length + 1))],.ins "Keeper" (kF (tI []) (.ref (S2.length + 2))),.lst []]
 have dk:Dq S3 S.length (S2.length + 1) (S2.length + 2) S2.length [] []:=by
  refine ⟨⟨nb,?_⟩,?_,?_,?_,by omega,by omega,by omega,by omega,by omega,by omega⟩
  ·show (S2 ++ _)[S.length]?=_
   rw [Z3 hlt]; exact hnb
  ·simp [S3,Wk]
  ·simp [S3,Wk]
  ·simp [S3,Wk]
 obtain ⟨S4,a5,hs',e4,d4⟩:=oq (some (.fz (ns.map .int))) (some (.int k)) (some (.lst (ys.map .int))) r6 r7 r8 r9 ys S3 [] [] r5 dk p2 (by simp only [Q1]; omega) (by simp only [Q1]; omega)
 rw [Q6] at d4
 have hR:RowB ys:=⟨p2,by omega⟩
 have hj:=oi hR (r:=[some (.fz (ns.map .int)),some (.int k),some (.ref S.length),some (.lst (ys.map .int)),some (.ref S2.length),a5,r6,r7,r8,r9]) (a:=af 3) (S:=S4) (t6 rfl rfl)
 have hsh:=pf hR
 have ht:rh (dB ej (eC (.str " ")) (aa (cn (cV (af 3) eM) 1 [] (.nm 0) dS (eB fc (aa (af 0) aj))) aj)) (eC (.str "none")) [some (.fz (ns.map .int)),some (.int k),some (.ref S.length),some (.lst (ys.map .int)),some (.ref S2.length),a5,r6,r7,r8,r9] S4=.ok (.str (fi ys)) S4:=by
  rw [zF hj (by omega)]
  by_cases h0:ys=[]
  ·rw [fi,Y9 h0,Y9 (by rw [h0]; rfl)]; rfl
  ·rw [fi,Yg h0,Yg (um h0)]
 have hsome:cS (aa (eC (.str "put 3")) (aa (eC (.str "take")) (aa (eC (.str "back")) (aa (eC (.str "comes -2")) (aa (eC (.str "ways 4")) (aa (eC (.str "signs 0")) (aa (eC (.str "near 7")) (aa (eC (.str "even")) (aa (eC (.str "every")) (aa (eC (.str "put 12")) aj)))))))))) [some (.fz (ns.map .int)),some (.int k),some (.ref S.length),some (.lst (ys.map .int)),some (.ref S2.length),a5,some (.str (fi ys)),r7,r8,r9] S4=.ok (.lst (eu.map .str)) S4:=dQ (xs:=eu.map .str) rfl (by show 10<=sizeLine; omega)
 obtain ⟨S5,a8,a9,e5⟩:=oo (hs:=hs') hR (some (.fz (ns.map .int))) (some (.int k)) (some (.lst (ys.map .int))) a5 (List.range 9) S4 r8 r9 d4
 have hr9:∀ r:Rho,bC (aa (eC (.int 9)) aj) r S4=.ok ((List.range 9).map λ(i:Nat)=>D.int i) S4:=λr=>gA (m:=9) rfl (by decide) (by decide)
 exact ⟨S5,_,_,_,_,_,_,a8,a9,(av (bb ((aQ rfl).trans e0))).trans ((av (bb s3)).trans ((av (bb hmk)).trans ((av ((tZ (ah rfl) rfl).trans e4)).trans ((av (bb ht)).trans ((av (bb hsome)).trans ((mS (hr9 _)).trans e5))))))⟩
theorem ot (ns:List Int):∀ (l:List Nat) (S:Sto) (r1 r2 r3 r4 r5 r6 r7 r8 r9:Option D),∃ (S':Sto) (ρ:Rho),forL (.nm 1) HP (l.map λ(i:Nat)=>D.int i) [some (.fz (ns.map .int)),r1,r2,r3,r4,r5,r6,r7,r8,r9] S=.ok (.nx ρ) S'
 | [],S,r1,r2,r3,r4,r5,r6,r7,r8,r9=>⟨S,_,rfl⟩
 | k :: l,S,r1,r2,r3,r4,r5,r6,r7,r8,r9=>by
  obtain ⟨S1,a2,a3,a4,a5,a6,a7,a8,a9,e1⟩:=uP ns k S r2 r3 r4 r5 r6 r7 r8 r9
  obtain ⟨S2,ρ,e2⟩:=ot ns l S1 (some (.int k)) a2 a3 a4 a5 a6 a7 a8 a9
  exact ⟨S2,ρ,(i6 (r1:=[some (.fz (ns.map .int)),some (.int k),r2,r3,r4,r5,r6,r7,r8,r9]) rfl e1).trans e2⟩
theorem uQ (ns:List Int) (hn:ns.length<=63):∃ S,p9 [.fz (ns.map .int)] []=.ok (.bl true) S:=by
 obtain ⟨n,hg,_⟩:=zQ ns 3 hn (by decide) [some (.fz (ns.map .int)),none,none,none,none,none,none,none,none,none] rfl []
 obtain ⟨S,ρ,e⟩:=ot ns (List.range n) [] none none none none none none none none none
 exact ⟨S,ck rfl ((av ((mS hg).trans e)).trans (aS rfl))⟩
set_option maxHeartbeats 4000000
theorem kL:bootBuiltins "ValueError" = some (.type "ValueError"):=by decide +kernel
theorem qj:bootBuiltins "all" = some (.builtin "all"):=by decide +kernel
theorem uR:bootBuiltins "bool" = some (.type "bool"):=by decide +kernel
theorem pj:bootBuiltins "divmod" = some (.builtin "divmod"):=by decide +kernel
theorem fM:bootBuiltins "int" = some (.type "int"):=by decide +kernel
theorem aE:bootBuiltins "isinstance" = some (.builtin "isinstance"):=by decide +kernel
theorem bX:bootBuiltins "len" = some (.builtin "len"):=by decide +kernel
theorem zR:bootBuiltins "max" = some (.builtin "max"):=by decide +kernel
theorem zS:bootBuiltins "min" = some (.builtin "min"):=by decide +kernel
theorem cQ:bootBuiltins "str" = some (.type "str"):=by decide +kernel
theorem zT:bootBuiltins "sum" = some (.builtin "sum"):=by decide +kernel
theorem rD:bootBuiltins "tuple" = some (.type "tuple"):=by decide +kernel
structure Txt (K:PySem.W.Frag) (mg:Str->Option Value) (w:World):Prop where
 cl:Cls K raisedX askedX isaX
 x_Bare:XC K mg "Bare"
 x_NoLine:XC K mg "NoLine"
 x_NoNumber:XC K mg "NoNumber"
 x_NoRow:XC K mg "NoRow"
 x_TooMany:XC K mg "TooMany"
 v_Bare:ClsAt K mg "Bare"
 v_Lacking:ClsAt K mg "Lacking"
 v_NoLine:ClsAt K mg "NoLine"
 v_NoNumber:ClsAt K mg "NoNumber"
 v_NoRow:ClsAt K mg "NoRow"
 v_NoSigns:ClsAt K mg "NoSigns"
 v_NoTable:ClsAt K mg "NoTable"
 v_NoText:ClsAt K mg "NoText"
 v_PlusError:ClsAt K mg "PlusError"
 v_TooMany:ClsAt K mg "TooMany"
 tr:TryAt K mg "PlusError" raisedX
 kc_Desk:ClsI K "Desk"
 kc_Keeper:ClsI K "Keeper"
 na_Desk_keeper:NoA K "Desk" "keeper"
 na_Keeper_earlier:NoA K "Keeper" "earlier"
 na_Keeper_numbers:NoA K "Keeper" "numbers"
 b_ValueError:mg "ValueError" = none
 b_all:mg "all" = none
 b_bool:mg "bool" = none
 b_divmod:mg "divmod" = none
 b_int:mg "int" = none
 b_isinstance:mg "isinstance" = none
 b_len:mg "len" = none
 b_max:mg "max" = none
 b_min:mg "min" = none
 b_range:mg "range" = none
 b_str:mg "str" = none
 b_sum:mg "sum" = none
 b_tuple:mg "tuple" = none
 c_LONGEST_ROW:∃ t,mg "LONGEST_ROW" = some (.int 16 t)
 c_MOST_FIGURES:∃ t,mg "MOST_FIGURES" = some (.int 30 t)
 ts_CHANGED_ALONE:TupS K mg "CHANGED_ALONE" ["take","back"]
 s_FIGURES:∃ t,mg "FIGURES" = some (.str "0123456789" t)
 f_ASKED_ALONE:TabF K mg w "ASKED_ALONE" nml_ASKED_ALONE
 f_ASKED_OF_A_NUMBER:TabF K mg w "ASKED_OF_A_NUMBER" nml_ASKED_OF_A_NUMBER
section
variable {P:Program} {w:World} {K:PySem.W.Frag} {mg:Str->Option Value} {base:Heap}
theorem il:FnScope ["self"] ["self"] (defScope bj):=fsk
theorem ip (F:Fun K "__init__" "Keeper.__init__" bj f fd) (ns:PySem.W.nsIn K mainGlobals "Keeper" = some (some (.ref C))) (hmg:mg "Keeper" = some (.ref C)) (hm:Mk K C f) (hb:Binds K fd ["self"] []) (T:Txt K mg w) :MakN P w K mg base "Keeper" 1 bT:=
 tM ["self"] ["self"] 0 1 1 rfl rfl rfl F ns hmg hm hb il (m:=eV) λcdv A outer s H E hr=>(ao (i5 T.kc_Keeper T.na_Keeper_numbers (vL 0) (d9 ai)) (au (i5 T.kc_Keeper T.na_Keeper_earlier (vL 0) (oU ai))))
theorem jd:FnScope ["self"] ["self"] (defScope bF):=fsk
theorem je (F:Fun K "__init__" "Desk.__init__" bF f fd) (ns:PySem.W.nsIn K mainGlobals "Desk" = some (some (.ref C))) (hmg:mg "Desk" = some (.ref C)) (hm:Mk K C f) (hb:Binds K fd ["self"] []) (T:Txt K mg w) (d_Keeper___init__:MakN P w K mg base "Keeper" 1 bT):MakN P w K mg base "Desk" 3 cu:=
 tM ["self"] ["self"] 2 3 1 rfl rfl rfl F ns hmg hm hb jd (m:=fR) λcdv A outer s H E hr=>(au (i5 T.kc_Desk T.na_Desk_keeper (vL 0) (tL d_Keeper___init__ (hr.mono (by decide)) Y1)))
theorem jf:FnScope ["self"] ["self"] (defScope bG):=fsk
theorem jg (F:Fun K "back" "Keeper.back" bG f fd) (ns:PySem.W.nsIn K mainGlobals "Keeper" = some (some (.ref C))) (hc:L2.Cls K C) (hm:Meth K C "back" f) (hb:Binds K fd ["self"] []) (T:Txt K mg w) :MetN P w K mg base "Keeper" "back" 1 1 dc:=
 gJ ["self"] ["self"] 0 1 1 1 rfl rfl rfl F ns hc hm hb jf (m:=fS) λcdv A outer s H E hr=>(ao (aR (aN (tH hr) (bB T.kc_Keeper T.na_Keeper_earlier (vL 0)) (cU ai)) (au eL) aI) (ao (i5 T.kc_Keeper T.na_Keeper_numbers (vL 0) (pV (bB T.kc_Keeper T.na_Keeper_earlier (vL 0)))) (au (aD (aB cW Y1 T.b_len bX (ae (bB T.kc_Keeper T.na_Keeper_numbers (vL 0)) ai))))))
theorem jh:FnScope ["self","numbers"] ["self","numbers"] (defScope bH):=fsk
theorem ji (F:Fun K "change" "Keeper.change" bH f fd) (ns:PySem.W.nsIn K mainGlobals "Keeper" = some (some (.ref C))) (hc:L2.Cls K C) (hm:Meth K C "change" f) (hb:Binds K fd ["self","numbers"] []) (T:Txt K mg w) :MetN P w K mg base "Keeper" "change" 1 2 aO:=
 gJ ["self","numbers"] ["self","numbers"] 0 1 2 2 rfl rfl rfl F ns hc hm hb jh (m:=fT) λcdv A outer s H E hr=>(ao (fC (Eb PySem.F.plainAttrs_list PySem.F.slot_list_append PySem.F.type_list_append qM (bB T.kc_Keeper T.na_Keeper_earlier (vL 0)) (ae (bB T.kc_Keeper T.na_Keeper_numbers (vL 0)) ai))) (ao (i5 T.kc_Keeper T.na_Keeper_numbers (vL 0) (vL 1)) (au (aD (aB cW Y1 T.b_len bX (ae (vL 1) ai))))))
theorem ou:FnScope ["thing"] ["thing"] (defScope dm):=fsk
theorem ow (F:Fun K "is_whole" "is_whole" dm f fd) (hm:mg "is_whole" = some (.ref f)) (hb:Binds K fd ["thing"] []) (T:Txt K mg w) :DefN P w K mg base "is_whole" 1 1 bW:=
 cC ["thing"] ["thing"] 0 1 1 1 rfl rfl rfl F hm hb ou (m:=hZ) λcdv A outer s H E hr=>(au (aD (mD (aB hJ Y1 T.b_isinstance aE (ae (vL 0) (ae (j6 Y1 T.b_int fM) ai))) (iU (DW (aB hJ Y1 T.b_isinstance aE (ae (vL 0) (ae (j6 Y1 T.b_bool uR) ai))))))))
theorem jj:FnScope ["thing"] ["thing"] (defScope bI):=fsk
theorem jk (F:Fun K "need_number" "need_number" bI f fd) (hm:mg "need_number" = some (.ref f)) (hb:Binds K fd ["thing"] []) (T:Txt K mg w) (d_is_whole:DefN P w K mg base "is_whole" 1 1 bW):DefN P w K mg base "need_number" 2 1 cv:=
 cC ["thing"] ["thing"] 1 2 1 1 rfl rfl rfl F hm hb jj (m:=fU) λcdv A outer s H E hr=>(au (aR (dy (cT (bD d_is_whole (hr.mono (by decide)) Y1 (ae (vL 0) ai) (ak ay)))) (au eL) aI))
theorem fY:FnScope ["least","thing"] ["least","thing"] (defScope aT):=fsk
theorem fZ (F:Fun K "need_number_from" "need_number_from" aT f fd) (hm:mg "need_number_from" = some (.ref f)) (hb:Binds K fd ["least","thing"] []) (T:Txt K mg w) (d_need_number_n:DefN P w K mg base "need_number" 2 1 cv):DefN P w K mg base "need_number_from" 3 2 br:=
 cC ["least","thing"] ["least","thing"] 2 3 2 2 rfl rfl rfl F hm hb fY (m:=dY) λcdv A outer s H E hr=>(ao (fC (bD d_need_number_n (hr.mono (by decide)) Y1 (ae (vL 1) ai) (ak ay))) (au (aR (aN sQ (vL 1) (vL 0)) (au eL) aI)))
theorem jK:FnScope ["self","number"] ["self","number"] (defScope bO):=fsk
theorem jL (F:Fun K "put" "Keeper.put" bO f fd) (ns:PySem.W.nsIn K mainGlobals "Keeper" = some (some (.ref C))) (hc:L2.Cls K C) (hm:Meth K C "put" f) (hb:Binds K fd ["self","number"] []) (T:Txt K mg w) (d_Keeper_change:MetN P w K mg base "Keeper" "change" 1 2 aO) (d_need_number_from_n:DefN P w K mg base "need_number_from" 3 2 br):MetN P w K mg base "Keeper" "put" 4 2 bZ:=
 gJ ["self","number"] ["self","number"] 3 4 2 2 rfl rfl rfl F ns hc hm hb jK (m:=gn) λcdv A outer s H E hr=>(ao (fC (bD d_need_number_from_n (hr.mono (by decide)) Y1 (ae aq (ae (vL 1) ai)) (ak (ak ay)))) (ao (aR (aN (bA hr) (aB cW Y1 T.b_len bX (ae (bB T.kc_Keeper T.na_Keeper_numbers (vL 0)) ai)) (pR T.c_LONGEST_ROW Y1)) (au eL) aI) (au (aD (gI d_Keeper_change (hr.mono (by decide)) (vL 0) (ae (aY bK (bB T.kc_Keeper T.na_Keeper_numbers (vL 0)) (d9 (ae (vL 1) ai))) ai) (ak ay))))))
theorem lg:FnScope ["self"] ["self"] (defScope cy):=fsk
theorem lh (F:Fun K "row" "Keeper.row" cy f fd) (ns:PySem.W.nsIn K mainGlobals "Keeper" = some (some (.ref C))) (hc:L2.Cls K C) (hm:Meth K C "row" f) (hb:Binds K fd ["self"] []) (T:Txt K mg w) :MetN P w K mg base "Keeper" "row" 1 1 bU:=
 gJ ["self"] ["self"] 0 1 1 1 rfl rfl rfl F ns hc hm hb lg (m:=iI) λcdv A outer s H E hr=>(au (aD (bB T.kc_Keeper T.na_Keeper_numbers (vL 0))))
theorem jm:FnScope ["self"] ["self"] (defScope bJ):=fsk
theorem jn (F:Fun K "take" "Keeper.take" bJ f fd) (ns:PySem.W.nsIn K mainGlobals "Keeper" = some (some (.ref C))) (hc:L2.Cls K C) (hm:Meth K C "take" f) (hb:Binds K fd ["self"] []) (T:Txt K mg w) (d_Keeper_change:MetN P w K mg base "Keeper" "change" 1 2 aO):MetN P w K mg base "Keeper" "take" 2 1 de:=
 gJ ["self"] ["self"] 1 2 1 1 rfl rfl rfl F ns hc hm hb jm (m:=fV) λcdv A outer s H E hr=>(ao (aR (aN (bA hr) (bB T.kc_Keeper T.na_Keeper_numbers (vL 0)) (d9 ai)) (au eL) aI) (au (aD (gI d_Keeper_change (hr.mono (by decide)) (vL 0) (ae (fo fD (bB T.kc_Keeper T.na_Keeper_numbers (vL 0)) cI (cJ (pJ mG aq))) ai) (ak ay)))))
theorem oy:FnScope ["row"] ["row"] (defScope dn):=fsk
theorem oz (F:Fun K "row_text" "row_text" dn f fd) (hm:mg "row_text" = some (.ref f)) (hb:Binds K fd ["row"] []) (T:Txt K mg w) :DefR P w K mg base "row_text" 1 1 dh:=
 fF ["row"] ["row"] 0 1 1 1 rfl rfl rfl F hm hb oy (m:=kq) λcdv A outer s H E hr=>(au (iC (aD (sJ (aN (gk hr) (vL 0) (d9 ai)) (eO Yx Q8 Q9 iG aw (ae (iB (N:=["number"]) (k:=1) (caps:=[]) rfl (λ_ _ z=>z) (jw Y0 Y0 Y0 Y0 rfl Y0) (mF (vL 0)) (λ_ _ _ _=>(cB (show (["number"]:List Str).Nodup by decide +kernel) Y0 Y2)) (λ_ _ _ _=>gH) (λ_ _ _ _=>(bf fe Y1 T.b_str cQ (ae (vL 0) ai)))) ai)) aw))))
theorem rE:FnScope ["thing"] ["thing"] (defScope eH):=fsk
theorem rF (F:Fun K "is_row" "is_row" eH f fd) (hm:mg "is_row" = some (.ref f)) (hb:Binds K fd ["thing"] []) (T:Txt K mg w) (d_is_whole:DefN P w K mg base "is_whole" 1 1 bW):DefN P w K mg base "is_row" 2 1 iJ:=
 cC ["thing"] ["thing"] 1 2 1 1 rfl rfl rfl F hm hb rE (m:=nV) λcdv A outer s H E hr=>(ao (aR (j7 (lJ (dy (cT (aB hJ Y1 T.b_isinstance aE (ae (vL 0) (ae (j6 Y1 T.b_tuple rD) ai))))) (iV (aN z5 (aB cW Y1 T.b_len bX (ae (vL 0) ai)) (pR T.c_LONGEST_ROW Y1))))) (au (aD gc)) aI) (au (aD (aB (sZ rfl) Y1 T.b_all qj (ae (iB (N:=["number"]) (k:=1) (caps:=[]) rfl (λ_ _ z=>z) (jw Y0 Y0 Y0 Y0 rfl Y0) (mF (vL 0)) (λ_ _ _ _=>(cB (show (["number"]:List Str).Nodup by decide +kernel) Y0 Y2)) (λ_ _ _ _=>gH) (λ_ _ _ _=>(mD (bD d_is_whole (hr.mono (by decide)) Y1 (ae (vL 0) ai) (ak ay)) (iU (e7 z6 (vL 0) aq))))) ai)))))
theorem oA:FnScope ["thing"] ["thing"] (defScope dq):=fsk
theorem oB (F:Fun K "need_row" "need_row" dq f fd) (hm:mg "need_row" = some (.ref f)) (hb:Binds K fd ["thing"] []) (T:Txt K mg w) (d_is_row:DefN P w K mg base "is_row" 2 1 iJ):DefR P w K mg base "need_row" 3 1 fG:=
 fF ["thing"] ["thing"] 2 3 1 1 rfl rfl rfl F hm hb oA (m:=kr) λcdv A outer s H E hr=>(au (aR (fQ (dy (cT (bD d_is_row (hr.mono (by decide)) Y1 (ae (vL 0) ai) (ak ay))))) (au (dW T.x_NoRow dj hr.hd Y1 (ae aw ai))) aI))
theorem uU:FnScope ["row"] ["row"] (defScope ft):=fsk
theorem uV (F:Fun K "total" "total" ft f fd) (hm:mg "total" = some (.ref f)) (hb:Binds K fd ["row"] []) (T:Txt K mg w) (d_need_row:DefR P w K mg base "need_row" 3 1 fG):DefR P w K mg base "total" 4 1 jV:=
 fF ["row"] ["row"] 3 4 1 1 rfl rfl rfl F hm hb uU (m:=p8) λcdv A outer s H E hr=>(ao (fC (kg d_need_row cx (hr.mono (by decide)) Y1 (ae (vL 0) ai) (ak ay))) (au (iC (aD (aB (Ek rfl) Y1 T.b_sum zT (ae (vL 0) ai))))))
theorem lj:FnScope ["row"] ["row"] (defScope cz):=fsk
theorem ll (F:Fun K "total_text" "total_text" cz f fd) (hm:mg "total_text" = some (.ref f)) (hb:Binds K fd ["row"] []) (T:Txt K mg w) (d_total:DefR P w K mg base "total" 4 1 jV):DefR P w K mg base "total_text" 5 1 dD:=
 fF ["row"] ["row"] 4 5 1 1 rfl rfl rfl F hm hb lj (m:=iK) λcdv A outer s H E hr=>(au (aD (bf fe Y1 T.b_str cQ (ae (kg d_total cx (hr.mono (by decide)) Y1 (ae (vL 0) ai) (ak ay)) ai))))
theorem eY:FnScope ["word","figures"] ["word"] (defScope bz):=fsk
theorem iO (F:Fun K "is_number_word" "is_number_word" bz f fd) (hm:mg "is_number_word" = some (.ref f)) (hb:Binds K fd ["word"] []) (T:Txt K mg w) :DefN P w K mg base "is_number_word" 1 1 bo:=
 cC ["word","figures"] ["word"] 0 1 1 2 rfl rfl rfl F hm hb eY (m:=fu) λcdv A outer s H E hr=>(ao (aZ eY.nd Y0 Y2 (sJ (cT (eO Yx Wy Wz lN (vL 0) (ae aw ai))) (fo kj (vL 0) (cJ aq) cI) (vL 0))) (ao (aR (cT (eO Yx Wy Wz lN (vL 1) (ae aw ai))) (au (aD (e7 (bA hr) (vL 0) aw))) aI) (au (aD (mD (sI pO pO aq (aB cW Y1 T.b_len bX (ae (vL 1) ai)) (pR T.c_MOST_FIGURES Y1)) (iU (aB (sZ rfl) Y1 T.b_all qj (ae (iB (N:=["figure"]) (k:=1) (caps:=[]) rfl (λ_ _ z=>z) (jw Y0 Y0 Y0 Y0 rfl Y0) (tS (vL 1)) (λ_ _ _ _=>(cB (show (["figure"]:List Str).Nodup by decide +kernel) Y0 Y2)) (λ_ _ _ _=>gH) (λ_ _ _ _=>(e7 Ep (vL 0) (HE T.s_FIGURES Y1)))) ai))))))))
theorem pk:FnScope ["words"] ["words"] (defScope dI):=fsk
theorem pq (F:Fun K "is_line" "is_line" dI f fd) (hm:mg "is_line" = some (.ref f)) (hb:Binds K fd ["words"] []) (T:Txt K mg w) (d_is_number_word:DefN P w K mg base "is_number_word" 1 1 bo):DefN P w K mg base "is_line" 2 1 dt:=
 cC ["words"] ["words"] 1 2 1 1 rfl rfl rfl F hm hb pk (m:=lP) λcdv A outer s H E hr=>(ao (aR (aN (bA hr) (aB cW Y1 T.b_len bX (ae (vL 0) ai)) aq) (au (aD (z4 (e7 sU (bS bR (vL 0) aq) (Eu T.ts_CHANGED_ALONE Y1)) (iU (tU T.f_ASKED_ALONE Y1 (bS bR (vL 0) aq)))))) aI) (ao (aR (j7 (lJ (aN (gk hr) (aB cW Y1 T.b_len bX (ae (vL 0) ai)) aq) (iV (dy (cT (bD d_is_number_word (hr.mono (by decide)) Y1 (ae (bS bR (vL 0) aq) ai) (ak ay))))))) (au (aD gc)) aI) (ao (aR (aN (bA hr) (bS bR (vL 0) aq) aw) (au (aD (e7 z6 (bf gK Y1 T.b_int fM (ae (bS bR (vL 0) aq) ai)) aq))) aI) (au (aD (tU T.f_ASKED_OF_A_NUMBER Y1 (bS bR (vL 0) aq)))))))
theorem eS:FnScope ["line","words"] ["line"] (defScope bp):=fsk
theorem iq (F:Fun K "words_of_line" "words_of_line" bp f fd) (hm:mg "words_of_line" = some (.ref f)) (hb:Binds K fd ["line"] []) (T:Txt K mg w) (d_is_line:DefN P w K mg base "is_line" 2 1 dt):DefN P w K mg base "words_of_line" 3 1 bV:=
 cC ["line","words"] ["line"] 2 3 1 2 rfl rfl rfl F hm hb eS (m:=eW) λcdv A outer s H E hr=>(ao (aR (dy (cT (aB hJ Y1 T.b_isinstance aE (ae (vL 0) (ae (j6 Y1 T.b_str cQ) ai))))) (au eL) aI) (ao (aZ eS.nd Y0 Y2 (eO Yx Qm Qn iH (vL 0) (ae aw ai))) (ao (aR (dy (cT (bD d_is_line (hr.mono (by decide)) Y1 (ae (vL 1) ai) (ak ay)))) (au eL) aI) (au (aD (vL 1))))))
theorem fj:FnScope ["self","line","words","row"] ["self","line"] (defScope cA):=fsk
theorem lp (F:Fun K "say" "Desk.say" cA f fd) (ns:PySem.W.nsIn K mainGlobals "Desk" = some (some (.ref C))) (hc:L2.Cls K C) (hm:Meth K C "say" f) (hb:Binds K fd ["self","line"] []) (T:Txt K mg w) (d_Keeper_back_n:MetN P w K mg base "Keeper" "back" 1 1 dc) (d_Keeper_put_n:MetN P w K mg base "Keeper" "put" 4 2 bZ) (d_Keeper_row:MetN P w K mg base "Keeper" "row" 1 1 bU) (d_Keeper_take_n:MetN P w K mg base "Keeper" "take" 2 1 de) (d_row_text:DefR P w K mg base "row_text" 1 1 dh) (d_total_text:DefR P w K mg base "total_text" 5 1 dD) (d_words_of_line_n:DefN P w K mg base "words_of_line" 3 1 bV):MetN P w K mg base "Desk" "say" 6 2 cK:=
 gJ ["self","line","words","row"] ["self","line"] 5 6 2 4 rfl rfl rfl F ns hc hm hb fj (m:=iL) λcdv A outer s H E hr=>(ao (aZ fj.nd Y0 Y2 (bD d_words_of_line_n (hr.mono (by decide)) Y1 (ae (vL 1) ai) (ak ay))) (ao (aR (aN (bA hr) (bS bR (vL 2) aq) aw) (au (aD (bf fe Y1 T.b_str cQ (ae (gI d_Keeper_put_n (hr.mono (by decide)) (bB T.kc_Desk T.na_Desk_keeper (vL 0)) (ae (bf gK Y1 T.b_int fM (ae (bS bR (vL 2) aq) ai)) ai) (ak ay)) ai)))) aI) (ao (aR (aN (bA hr) (bS bR (vL 2) aq) aw) (au (aD (bf fe Y1 T.b_str cQ (ae (iE d_Keeper_take_n (hr.mono (by decide)) (bB T.kc_Desk T.na_Desk_keeper (vL 0))) ai)))) aI) (ao (aR (aN (bA hr) (bS bR (vL 2) aq) aw) (au (aD (bf fe Y1 T.b_str cQ (ae (iE d_Keeper_back_n (hr.mono (by decide)) (bB T.kc_Desk T.na_Desk_keeper (vL 0))) ai)))) aI) (ao (aZ fj.nd Y0 Y2 (iE d_Keeper_row (hr.mono (by decide)) (bB T.kc_Desk T.na_Desk_keeper (vL 0)))) (ao (aR (aN (bA hr) (aB cW Y1 T.b_len bX (ae (vL 2) ai)) aq) (au (aD (jU (k:=5) (T:=cw) (jT (d_row_text.up (by decide)) (jT (d_total_text.up (by decide)) (dC (dC (dC jS))))) T.f_ASKED_ALONE eG (hr.mono (by decide)) Y1 (bS bR (vL 2) aq) (ae (vL 3) ai) (ak ay)))) aI) (au (aD (jU (k:=5) (T:=bM) (dC (dC (dC (dC jS)))) T.f_ASKED_OF_A_NUMBER eG (hr.mono (by decide)) Y1 (bS bR (vL 2) aq) (ae (vL 3) (ae (bf gK Y1 T.b_int fM (ae (bS bR (vL 2) aq) ai)) ai)) (ak (ak ay)))))))))))
theorem fN:FnScope ["box","many","left","digit"] ["box","many"] (defScope cL):=fsk
theorem m4 (F:Fun K "_law_take" "_law_take" cL f fd) (hm:mg "_law_take" = some (.ref f)) (hb:Binds K fd ["box","many"] []) (T:Txt K mg w) :DefN P w K mg base "_law_take" 1 2 aF:=
 cC ["box","many","left","digit"] ["box","many"] 0 1 2 4 rfl rfl rfl F hm hb fN (m:=gp) λcdv A outer s H E hr=>(ao (DZ (aB qK Y1 T.b_divmod pj (ae (bS bR (vL 0) aq) (ae (vL 1) ai))) (DY rfl (nG (cB fN.nd Y0 Y2) (nG (cB fN.nd Y0 Y2) yP)))) (ao (D0 Ea (vL 2) (vL 0) aq) (au (aD (vL 3)))))
theorem dG:FnScope ["box","line","words","at","word","kind"] ["box","line"] (defScope cM):=fsk
theorem m5 (F:Fun K "_law_bent" "_law_bent" cM f fd) (hm:mg "_law_bent" = some (.ref f)) (hb:Binds K fd ["box","line"] []) (T:Txt K mg w) (d__law_take:DefN P w K mg base "_law_take" 1 2 aF):DefN P w K mg base "_law_bent" 2 2 cG:=
 cC ["box","line","words","at","word","kind"] ["box","line"] 1 2 2 6 rfl rfl rfl F hm hb dG (m:=jA) λcdv A outer s H E hr=>(ao (aZ dG.nd Y0 Y2 (eO Yx Qm Qn iH (vL 1) (ae aw ai))) (ao (aZ dG.nd Y0 Y2 (bD d__law_take (hr.mono (by decide)) Y1 (ae (vL 0) (ae (aB cW Y1 T.b_len bX (ae (vL 2) ai)) ai)) (ak (ak ay)))) (ao (aZ dG.nd Y0 Y2 (bS bR (cU (ae aw (ae aw (ae aw (ae aw (ae aw (ae aw (ae aw (ae aw (ae aw (ae (aY pZ aw aq) (ae (aY bK aw (aY pZ aw aq)) (ae aw ai))))))))))))) (bD d__law_take (hr.mono (by decide)) Y1 (ae (vL 0) (ae aq ai)) (ak (ak ay))))) (ao (aZ dG.nd Y0 Y2 (bD d__law_take (hr.mono (by decide)) Y1 (ae (vL 0) (ae aq ai)) (ak (ak ay)))) (ao (aR (aN (bA hr) (vL 5) aq) (au (aD (eO Yx Q8 Q9 iG aw (ae (aY bK (fo fD (vL 2) cI (cJ (vL 3))) (fo fD (vL 2) (cJ (aY bK (vL 3) aq)) cI)) ai)))) aI) (ao (aR (aN (bA hr) (vL 5) aq) (au (aD (eO Yx Q8 Q9 iG aw (ae (aY bK (aY bK (fo fD (vL 2) cI (cJ (vL 3))) (cU (ae (vL 4) ai))) (fo fD (vL 2) (cJ (vL 3)) cI)) ai)))) aI) (ao (aR (aN (bA hr) (vL 5) aq) (au (aD (eO Yx Q8 Q9 iG aw (ae (aY bK (aY bK (fo fD (vL 2) cI (cJ (vL 3))) (cU (ae (vL 4) ai))) (fo fD (vL 2) (cJ (aY bK (vL 3) aq)) cI)) ai)))) aI) (ao (aR (aN (bA hr) (vL 5) aq) (au (aD (aY bK (aY bK (vL 1) aw) (vL 4)))) aI) (ao (aR (aN (bA hr) (vL 5) aq) (au (aD (aY bK (vL 1) aw))) aI) (au (aD (aY bK (zr Yx PySem.F.slot_str_upper PySem.F.type_str_upper tX (fo kj (vL 1) cI (cJ aq))) (fo kj (vL 1) (cJ aq) cI)))))))))))))
theorem cg:FnScope ["script","k","here","number","j","part"] ["script","k"] (defScope du):=fsk
theorem oC (F:Fun K "_law_box" "_law_box" du f fd) (hm:mg "_law_box" = some (.ref f)) (hb:Binds K fd ["script","k"] []) (T:Txt K mg w) :DefN P w K mg base "_law_box" 1 2 di:=
 cC ["script","k","here","number","j","part"] ["script","k"] 0 1 2 6 rfl rfl rfl F hm hb cg (m:=fH) λcdv A outer s H E hr=>(ao (aZ cg.nd Y0 Y2 (aY bK (aY g9 aq (vL 1)) aq)) (ao (aR (aN sQ (vL 1) (aB cW Y1 T.b_len bX (ae (vL 0) ai))) (au (aZ cg.nd Y0 Y2 (bS bR (vL 0) (vL 1)))) aI) (ao (aR (aN (bA hr) (aY iX (vL 2) aq) aq) (au (aD (oU (ae (aY yQ (vL 2) aq) ai)))) aI) (ao (aZ cg.nd Y0 Y2 aq) (ao (mE Wl rfl (eF Y1 T.b_range (ae aq ai)) (cB cg.nd Y0 Y2) (ao (aZ cg.nd Y0 Y2 (aY iX (aY bK (aY bK (aY g9 (aY iX (vL 2) aq) aq) (aY g9 aq (vL 4))) aq) aq)) (ao (aZ cg.nd Y0 Y2 (aY iX (aY g9 (vL 5) (vL 5)) aq)) (au (aZ cg.nd Y0 Y2 (aY bK (aY g9 (vL 3) aq) (aY iX (aY g9 (vL 5) (aY bK (vL 5) aq)) aq))))))) (au (aD (oU (ae (vL 3) ai)))))))))
theorem gC:FnScope ["word","figures"] ["word"] (defScope cb):=fsk
theorem kM (F:Fun K "_law_number" "_law_number" cb f fd) (hm:mg "_law_number" = some (.ref f)) (hb:Binds K fd ["word"] []) (T:Txt K mg w) :DefN P w K mg base "_law_number" 1 1 cY:=
 cC ["word","figures"] ["word"] 0 1 1 2 rfl rfl rfl F hm hb gC (m:=gU) λcdv A outer s H E hr=>(ao (aZ gC.nd Y0 Y2 (sJ (aN (bA hr) (fo kj (vL 0) cI (cJ aq)) aw) (fo kj (vL 0) (cJ aq) cI) (vL 0))) (ao (aR (j7 (lJ (dy (tP pO pO aq (aB cW Y1 T.b_len bX (ae (vL 1) ai)) aq)) (iV (j7 (DX (aN (bA hr) (bS Eo (vL 1) aq) aw) (yN (aN (gk hr) (vL 0) aw))))))) (au (aD j5)) aI) (ao (aR (aN (gk hr) (iB (N:=["sign"]) (k:=1) (caps:=[]) rfl (λ_ _ z=>z) (jw Y0 Y0 Y0 Y0 rfl Y0) (tS (vL 1)) (λ_ _ _ _=>(cB (show (["sign"]:List Str).Nodup by decide +kernel) Y0 Y2)) (λ_ _ _ _=>(pQ (aN qY (vL 0) aw))) (λ_ _ _ _=>(vL 0))) (cU ai)) (au (aD j5)) aI) (au (aD (bf gK Y1 T.b_int fM (ae (vL 0) ai)))))))
theorem eh:FnScope ["line","words","number"] ["line"] (defScope bP):=fsk
theorem jM (F:Fun K "_law_is_line" "_law_is_line" bP f fd) (hm:mg "_law_is_line" = some (.ref f)) (hb:Binds K fd ["line"] []) (T:Txt K mg w) (d__law_number:DefN P w K mg base "_law_number" 1 1 cY):DefN P w K mg base "_law_is_line" 2 1 bL:=
 cC ["line","words","number"] ["line"] 1 2 1 3 rfl rfl rfl F hm hb eh (m:=gq) λcdv A outer s H E hr=>(ao (aR (dy (cT (aB hJ Y1 T.b_isinstance aE (ae (vL 0) (ae (j6 Y1 T.b_str cQ) ai))))) (au (aD gc)) aI) (ao (aR (aN sU (vL 0) (cU (ae aw (ae aw (ae aw (ae aw (ae aw (ae aw (ae aw ai))))))))) (au (aD gc)) aI) (ao (aZ eh.nd Y0 Y2 (eO Yx Qm Qn iH (vL 0) (ae aw ai))) (ao (aR (j7 (lJ (aN (gk hr) (aB cW Y1 T.b_len bX (ae (vL 1) ai)) aq) (iV (aN nM (bS bR (vL 1) aq) (cU (ae aw (ae aw (ae aw (ae aw (ae aw ai)))))))))) (au (aD gc)) aI) (ao (aZ eh.nd Y0 Y2 (bD d__law_number (hr.mono (by decide)) Y1 (ae (bS bR (vL 1) aq) ai) (ak ay))) (au (aD (mD (e7 tG (vL 2) j5) (iU (z4 (e7 (gk hr) (bS bR (vL 1) aq) aw) (iU (e7 z5 (vL 2) aq))))))))))))
theorem jH:FnScope ["box","some"] ["box"] (defScope dv):=fsk
theorem oE (F:Fun K "_law_odd" "_law_odd" dv f fd) (hm:mg "_law_odd" = some (.ref f)) (hb:Binds K fd ["box"] []) (T:Txt K mg w) (d__law_take:DefN P w K mg base "_law_take" 1 2 aF):DefN P w K mg base "_law_odd" 2 1 dJ:=
 cC ["box","some"] ["box"] 1 2 1 2 rfl rfl rfl F hm hb jH (m:=ku) λcdv A outer s H E hr=>(ao (aZ jH.nd Y0 Y2 (cU (ae j5 (ae gc (ae gc (ae (pJ mG aq) (ae aq (ae aw (ae aw (ae (d9 (ae aq ai)) (ae (cU (ae aq ai)) (ae (Ed (tq aw aq y6)) (ae (d9 (ae (pJ mG aq) ai)) (ae (d9 (ae gc ai)) (ae (d9 (ae (d9 (ae aq ai)) ai)) (ae (d9 (ae j5 ai)) (ae (aY D4 aq aq) (ae (cU ai) ai)))))))))))))))))) (au (aD (bS bR (vL 1) (bD d__law_take (hr.mono (by decide)) Y1 (ae (vL 0) (ae aq ai)) (ak (ak ay)))))))
theorem kN:FnScope ["self"] ["self"] (defScope gu):=fsk
theorem kO (F:Fun K "back" "Keeper.back" gu f fd) (ns:PySem.W.nsIn K mainGlobals "Keeper" = some (some (.ref C))) (hc:L2.Cls K C) (hm:Meth K C "back" f) (hb:Binds K fd ["self"] []) (T:Txt K mg w) :MetR P w K mg base "Keeper" "back" 1 1 dN:=
 jR ["self"] ["self"] 0 1 1 1 rfl rfl rfl F ns hc hm hb kN (m:=gW) λcdv A outer s H E hr=>(ao (aR (fQ (aN (tH hr) (bB T.kc_Keeper T.na_Keeper_earlier (vL 0)) (cU ai))) (au (dW T.x_Bare dj hr.hd Y1 (ae aw ai))) aI) (ao (iC (i5 T.kc_Keeper T.na_Keeper_numbers (vL 0) (pV (bB T.kc_Keeper T.na_Keeper_earlier (vL 0))))) (au (iC (aD (aB cW Y1 T.b_len bX (ae (bB T.kc_Keeper T.na_Keeper_numbers (vL 0)) ai)))))))
theorem kP:FnScope ["thing"] ["thing"] (defScope gw):=fsk
theorem kQ (F:Fun K "need_number" "need_number" gw f fd) (hm:mg "need_number" = some (.ref f)) (hb:Binds K fd ["thing"] []) (T:Txt K mg w) (d_is_whole:DefN P w K mg base "is_whole" 1 1 bW):DefR P w K mg base "need_number" 2 1 dO:=
 fF ["thing"] ["thing"] 1 2 1 1 rfl rfl rfl F hm hb kP (m:=gX) λcdv A outer s H E hr=>(au (aR (fQ (dy (cT (bD d_is_whole (hr.mono (by decide)) Y1 (ae (vL 0) ai) (ak ay))))) (au (dW T.x_NoNumber dj hr.hd Y1 (ae aw ai))) aI))
theorem gO:FnScope ["least","thing"] ["least","thing"] (defScope eo):=fsk
theorem gP (F:Fun K "need_number_from" "need_number_from" eo f fd) (hm:mg "need_number_from" = some (.ref f)) (hb:Binds K fd ["least","thing"] []) (T:Txt K mg w) (d_need_number:DefR P w K mg base "need_number" 2 1 dO):DefR P w K mg base "need_number_from" 3 2 cj:=
 fF ["least","thing"] ["least","thing"] 2 3 2 2 rfl rfl rfl F hm hb gO (m:=eP) λcdv A outer s H E hr=>(ao (fC (kg d_need_number cx (hr.mono (by decide)) Y1 (ae (vL 1) ai) (ak ay))) (au (aR (fQ (aN sQ (vL 1) (vL 0))) (au (dW T.x_NoNumber dj hr.hd Y1 (ae (jx (En (vL 0))) ai))) aI)))
theorem lq:FnScope ["self","number"] ["self","number"] (defScope gY):=fsk
theorem lr (F:Fun K "put" "Keeper.put" gY f fd) (ns:PySem.W.nsIn K mainGlobals "Keeper" = some (some (.ref C))) (hc:L2.Cls K C) (hm:Meth K C "put" f) (hb:Binds K fd ["self","number"] []) (T:Txt K mg w) (d_Keeper_change:MetN P w K mg base "Keeper" "change" 1 2 aO) (d_need_number_from:DefR P w K mg base "need_number_from" 3 2 cj):MetR P w K mg base "Keeper" "put" 4 2 eD:=
 jR ["self","number"] ["self","number"] 3 4 2 2 rfl rfl rfl F ns hc hm hb lq (m:=iM) λcdv A outer s H E hr=>(ao (fC (kg d_need_number_from cx (hr.mono (by decide)) Y1 (ae aq (ae (vL 1) ai)) (ak (ak ay)))) (ao (aR (fQ (aN (bA hr) (aB cW Y1 T.b_len bX (ae (bB T.kc_Keeper T.na_Keeper_numbers (vL 0)) ai)) (pR T.c_LONGEST_ROW Y1))) (au (dW T.x_TooMany dj hr.hd Y1 (ae aw ai))) aI) (au (iC (aD (gI d_Keeper_change (hr.mono (by decide)) (vL 0) (ae (aY bK (bB T.kc_Keeper T.na_Keeper_numbers (vL 0)) (d9 (ae (vL 1) ai))) ai) (ak ay)))))))
theorem kR:FnScope ["self"] ["self"] (defScope gx):=fsk
theorem kS (F:Fun K "take" "Keeper.take" gx f fd) (ns:PySem.W.nsIn K mainGlobals "Keeper" = some (some (.ref C))) (hc:L2.Cls K C) (hm:Meth K C "take" f) (hb:Binds K fd ["self"] []) (T:Txt K mg w) (d_Keeper_change:MetN P w K mg base "Keeper" "change" 1 2 aO):MetR P w K mg base "Keeper" "take" 2 1 dP:=
 jR ["self"] ["self"] 1 2 1 1 rfl rfl rfl F ns hc hm hb kR (m:=gZ) λcdv A outer s H E hr=>(ao (aR (fQ (aN (bA hr) (bB T.kc_Keeper T.na_Keeper_numbers (vL 0)) (d9 ai))) (au (dW T.x_Bare dj hr.hd Y1 (ae aw ai))) aI) (au (iC (aD (gI d_Keeper_change (hr.mono (by decide)) (vL 0) (ae (fo fD (bB T.kc_Keeper T.na_Keeper_numbers (vL 0)) cI (cJ (pJ mG aq))) ai) (ak ay))))))
theorem fB:FnScope ["line","words"] ["line"] (defScope fw):=fsk
theorem jo (F:Fun K "words_of_line" "words_of_line" fw f fd) (hm:mg "words_of_line" = some (.ref f)) (hb:Binds K fd ["line"] []) (T:Txt K mg w) (d_is_line:DefN P w K mg base "is_line" 2 1 dt):DefR P w K mg base "words_of_line" 3 1 aV:=
 fF ["line","words"] ["line"] 2 3 1 2 rfl rfl rfl F hm hb fB (m:=fW) λcdv A outer s H E hr=>(ao (aR (fQ (dy (cT (aB hJ Y1 T.b_isinstance aE (ae (vL 0) (ae (j6 Y1 T.b_str cQ) ai)))))) (au (dW T.x_NoLine dj hr.hd Y1 (ae aw ai))) aI) (ao (iC (aZ fB.nd Y0 Y2 (eO Yx Qm Qn iH (vL 0) (ae aw ai)))) (ao (aR (fQ (dy (cT (bD d_is_line (hr.mono (by decide)) Y1 (ae (vL 1) ai) (ak ay))))) (au (dW T.x_NoLine dj hr.hd Y1 (ae aw ai))) aI) (au (iC (aD (vL 1)))))))
theorem gD:FnScope ["self","line","words","row"] ["self","line"] (defScope jB):=fsk
theorem oF (F:Fun K "say" "Desk.say" jB f fd) (ns:PySem.W.nsIn K mainGlobals "Desk" = some (some (.ref C))) (hc:L2.Cls K C) (hm:Meth K C "say" f) (hb:Binds K fd ["self","line"] []) (T:Txt K mg w) (d_Keeper_back:MetR P w K mg base "Keeper" "back" 1 1 dN) (d_Keeper_put:MetR P w K mg base "Keeper" "put" 4 2 eD) (d_Keeper_row:MetN P w K mg base "Keeper" "row" 1 1 bU) (d_Keeper_take:MetR P w K mg base "Keeper" "take" 2 1 dP) (d_row_text:DefR P w K mg base "row_text" 1 1 dh) (d_total_text:DefR P w K mg base "total_text" 5 1 dD) (d_words_of_line:DefR P w K mg base "words_of_line" 3 1 aV):MetR P w K mg base "Desk" "say" 6 2 cH:=
 jR ["self","line","words","row"] ["self","line"] 5 6 2 4 rfl rfl rfl F ns hc hm hb gD (m:=kx) λcdv A outer s H E hr=>(ao (aZ gD.nd Y0 Y2 (kg d_words_of_line cx (hr.mono (by decide)) Y1 (ae (vL 1) ai) (ak ay))) (ao (aR (fQ (aN (bA hr) (bS bR (vL 2) aq) aw)) (au (aD (bf fe Y1 T.b_str cQ (ae (pU d_Keeper_put cx (hr.mono (by decide)) (jx (bB T.kc_Desk T.na_Desk_keeper (vL 0))) (ae (jx (bf gK Y1 T.b_int fM (ae (bS bR (vL 2) aq) ai))) ai) (ak ay)) ai)))) aI) (ao (aR (fQ (aN (bA hr) (bS bR (vL 2) aq) aw)) (au (aD (bf fe Y1 T.b_str cQ (ae (nS d_Keeper_take cx (hr.mono (by decide)) (jx (bB T.kc_Desk T.na_Desk_keeper (vL 0)))) ai)))) aI) (ao (aR (fQ (aN (bA hr) (bS bR (vL 2) aq) aw)) (au (aD (bf fe Y1 T.b_str cQ (ae (nS d_Keeper_back cx (hr.mono (by decide)) (jx (bB T.kc_Desk T.na_Desk_keeper (vL 0)))) ai)))) aI) (ao (iC (aZ gD.nd Y0 Y2 (iE d_Keeper_row (hr.mono (by decide)) (bB T.kc_Desk T.na_Desk_keeper (vL 0))))) (ao (aR (fQ (aN (bA hr) (aB cW Y1 T.b_len bX (ae (vL 2) ai)) aq)) (au (aD (jU (k:=5) (T:=cw) (jT (d_row_text.up (by decide)) (jT (d_total_text.up (by decide)) (dC (dC (dC jS))))) T.f_ASKED_ALONE cx (hr.mono (by decide)) Y1 (jx (bS bR (vL 2) aq)) (ae (vL 3) ai) (ak ay)))) aI) (au (aD (jU (k:=5) (T:=bM) (dC (dC (dC (dC jS)))) T.f_ASKED_OF_A_NUMBER cx (hr.mono (by decide)) Y1 (jx (bS bR (vL 2) aq)) (ae (vL 3) (ae (jx (bf gK Y1 T.b_int fM (ae (bS bR (vL 2) aq) ai))) ai)) (ak (ak ay)))))))))))
theorem ei:FnScope ["e","found"] ["e"] (defScope bQ):=fsk
theorem jN (F:Fun K "_law_classes" "_law_classes" bQ f fd) (hm:mg "_law_classes" = some (.ref f)) (hb:Binds K fd ["e"] []) (T:Txt K mg w) :DefM P w K mg base "_law_classes" 1 1 dE:=
 pS ["e","found"] ["e"] 0 1 1 2 rfl rfl rfl F hm hb ei (m:=gy) λcdv A outer s H hr hq=>(ao (aZ ei.nd Y0 Y2 (cU (ae (aB (eN T.cl) Y1 T.b_isinstance aE (ae (vL 0) (ae (fb T.v_NoRow Y1) ai))) (ae (aB (eN T.cl) Y1 T.b_isinstance aE (ae (vL 0) (ae (fb T.v_NoNumber Y1) ai))) (ae (aB (eN T.cl) Y1 T.b_isinstance aE (ae (vL 0) (ae (fb T.v_NoSigns Y1) ai))) (ae (aB (eN T.cl) Y1 T.b_isinstance aE (ae (vL 0) (ae (fb T.v_TooMany Y1) ai))) ai)))))) (ao (aZ ei.nd Y0 Y2 (aY bK (vL 1) (cU (ae (aB (eN T.cl) Y1 T.b_isinstance aE (ae (vL 0) (ae (fb T.v_Lacking Y1) ai))) (ae (aB (eN T.cl) Y1 T.b_isinstance aE (ae (vL 0) (ae (fb T.v_Bare Y1) ai))) (ae (aB (eN T.cl) Y1 T.b_isinstance aE (ae (vL 0) (ae (fb T.v_NoTable Y1) ai))) (ae (aB (eN T.cl) Y1 T.b_isinstance aE (ae (vL 0) (ae (fb T.v_NoLine Y1) ai))) ai))))))) (au (aD (aY bK (vL 1) (cU (ae (aB (eN T.cl) Y1 T.b_isinstance aE (ae (vL 0) (ae (fb T.v_NoText Y1) ai))) ai)))))))
theorem m7:FnScope ["e","place"] ["e","place"] (defScope cN):=fsk
theorem m8 (F:Fun K "_law_only" "_law_only" cN f fd) (hm:mg "_law_only" = some (.ref f)) (hb:Binds K fd ["e","place"] []) (T:Txt K mg w) (d__law_classes:DefM P w K mg base "_law_classes" 1 1 dE):DefM P w K mg base "_law_only" 2 2 dZ:=
 pS ["e","place"] ["e","place"] 1 2 2 2 rfl rfl rfl F hm hb m7 (m:=jC) λcdv A outer s H hr hq=>(ao (aR (j7 (lJ (dy (cT (aB (eN T.cl) Y1 T.b_isinstance aE (ae (vL 0) (ae (fb T.v_PlusError Y1) ai))))) (iV (dy (cT (aB (eN T.cl) Y1 T.b_isinstance aE (ae (vL 0) (ae (j6 Y1 T.b_ValueError kL) ai)))))))) (au (aD gc)) aI) (au (aD (e7 (zp hr) (tE d__law_classes (hr.mono (by decide)) hq Y1 (ae (vL 0) ai) (ak ay)) (kc (qb:=true) (N:=["k","place"]) (k:=1) (caps:=[1]) (.inr ⟨rfl,hq⟩) (λ_ _ z=>z) (jw Y0 Y0 Y0 Y0 rfl Y0) (eF Y1 T.b_range (ae aq ai)) (λ_ _ _ _ cq=>(cB (show (["k","place"]:List Str).Nodup by decide +kernel) Y0 Y2)) (λ_ _ _ _ cq=>gH) (λ_ _ _ _ cq=>(e7 sS (vL 0) (vC 1))))))))
theorem iP:FnScope ["desk","line","e"] ["desk","line"] (defScope cO):=fsk
theorem m9 (F:Fun K "_law_said" "_law_said" cO f fd) (hm:mg "_law_said" = some (.ref f)) (hb:Binds K fd ["desk","line"] []) (T:Txt K mg w) (d_Desk_say:MetR P w K mg base "Desk" "say" 6 2 cH) (d__law_only:DefM P w K mg base "_law_only" 2 2 dZ):DefN P w K mg base "_law_said" 7 2 cf:=
 cC ["desk","line","e"] ["desk","line"] 6 7 2 3 rfl rfl rfl F hm hb iP (m:=jD) λcdv A outer s H E hr=>(au (tK T.tr rfl ⟨rfl,rfl⟩ Y1 iP.nd Y0 rfl Y0 rfl (λp W E1 hP=>(au (aD (pU d_Desk_say hP (hr.mono (by decide)) (vL 0) (ae (vL 1) ai) (ak ay))))) (λea oe ue zo=>(au (aD (kc (qb:=true) (N:=["place","e"]) (k:=1) (caps:=[2]) (.inr ⟨rfl,(Or.inr ⟨ea,oe,ue,rfl,aL,zo⟩)⟩) (λ_ _ z=>z) (jw Y0 Y0 Y0 Y0 rfl Y0) (eF Y1 T.b_range (ae aq ai)) (λ_ _ _ _ cq=>(cB (show (["place","e"]:List Str).Nodup by decide +kernel) Y0 Y2)) (λ_ _ _ _ cq=>(pQ (cT (tE d__law_only ((hr.mono (by decide)).m.mark _) (cq.qt rfl) Y1 (ae (vC 1) (ae (vL 0) ai)) (ak (ak ay)))))) (λ_ _ _ _ cq=>(vL 0))))))))
theorem eT:FnScope ["script","k","box","row","desk","number","text","some","lap","line"] ["script"] (defScope gz):=fsk
end
/-! what the top has written -/
theorem ER {K:PySem.W.Frag} {C_Bare:Addr} {C_Lacking:Addr} {C_NoLine:Addr} {C_NoNumber:Addr} {C_NoRow:Addr} {C_NoSigns:Addr} {C_NoTable:Addr} {C_NoText:Addr} {C_PlusError:Addr} {C_TooMany:Addr} {cd_Bare:ClassData} {cd_NoLine:ClassData} {cd_NoNumber:ClassData} {cd_NoRow:ClassData} {cd_TooMany:ClassData}
  (gt:PySem.W.specialIn K (.builtin "object.__class__") "__get__" = some (some (.builtin "getset_descriptor.__get__")))
  (tk:PySem.W.takesIn K (.builtin "object.__class__")=some true)
  (n_Bare:PySem.W.nsIn K mainGlobals "Bare" = some (some (.ref C_Bare)))
  (n_Lacking:PySem.W.nsIn K mainGlobals "Lacking" = some (some (.ref C_Lacking)))
  (n_NoLine:PySem.W.nsIn K mainGlobals "NoLine" = some (some (.ref C_NoLine)))
  (n_NoNumber:PySem.W.nsIn K mainGlobals "NoNumber" = some (some (.ref C_NoNumber)))
  (n_NoRow:PySem.W.nsIn K mainGlobals "NoRow" = some (some (.ref C_NoRow)))
  (n_NoSigns:PySem.W.nsIn K mainGlobals "NoSigns" = some (some (.ref C_NoSigns)))
  (n_NoTable:PySem.W.nsIn K mainGlobals "NoTable" = some (some (.ref C_NoTable)))
  (n_NoText:PySem.W.nsIn K mainGlobals "NoText" = some (some (.ref C_NoText)))
  (n_PlusError:PySem.W.nsIn K mainGlobals "PlusError" = some (some (.ref C_PlusError)))
  (n_TooMany:PySem.W.nsIn K mainGlobals "TooMany" = some (some (.ref C_TooMany)))
  (q_Bare:PySem.W.excIn K C_Bare veMro "ValueError.__new__" = true)
  (g1_Bare:PySem.W.findIn K (.ref C_Bare) "__getattribute__" = some (some (.builtin "BaseException.__getattribute__")))
  (g2_Bare:PySem.W.findIn K (.ref C_Bare) "__getattr__" = some none)
  (g3_Bare:PySem.W.findIn K (.ref C_Bare) "__class__" = some (some (.builtin "object.__class__")))
  (m1_Bare:PySem.W.mroIn K C_Bare (.type "BaseException")=some true)
  (m2_Bare:PySem.W.mroIn K C_Bare (.type "object")=some true)
  (cc_Bare:PySem.W.clsIn K C_Bare=some cd_Bare)
  (kv_Bare:PySem.W.kitOne K (.ref C_Bare) (.type "ValueError")=some true)
  (ex_Bare:PySem.W.exmOne K (.ref C_Bare) (.ref C_PlusError)=some true)
  (is_Bare_Bare:PySem.W.kitOne K (.ref C_Bare) (.ref C_Bare)=some true)
  (is_Bare_Lacking:PySem.W.kitOne K (.ref C_Bare) (.ref C_Lacking)=some false)
  (is_Bare_NoLine:PySem.W.kitOne K (.ref C_Bare) (.ref C_NoLine)=some false)
  (is_Bare_NoNumber:PySem.W.kitOne K (.ref C_Bare) (.ref C_NoNumber)=some false)
  (is_Bare_NoRow:PySem.W.kitOne K (.ref C_Bare) (.ref C_NoRow)=some false)
  (is_Bare_NoSigns:PySem.W.kitOne K (.ref C_Bare) (.ref C_NoSigns)=some false)
  (is_Bare_NoTable:PySem.W.kitOne K (.ref C_Bare) (.ref C_NoTable)=some false)
  (is_Bare_NoText:PySem.W.kitOne K (.ref C_Bare) (.ref C_NoText)=some false)
  (is_Bare_PlusError:PySem.W.kitOne K (.ref C_Bare) (.ref C_PlusError)=some true)
  (is_Bare_TooMany:PySem.W.kitOne K (.ref C_Bare) (.ref C_TooMany)=some false)
  (q_NoLine:PySem.W.excIn K C_NoLine veMro "ValueError.__new__" = true)
  (g1_NoLine:PySem.W.findIn K (.ref C_NoLine) "__getattribute__" = some (some (.builtin "BaseException.__getattribute__")))
  (g2_NoLine:PySem.W.findIn K (.ref C_NoLine) "__getattr__" = some none)
  (g3_NoLine:PySem.W.findIn K (.ref C_NoLine) "__class__" = some (some (.builtin "object.__class__")))
  (m1_NoLine:PySem.W.mroIn K C_NoLine (.type "BaseException")=some true)
  (m2_NoLine:PySem.W.mroIn K C_NoLine (.type "object")=some true)
  (cc_NoLine:PySem.W.clsIn K C_NoLine=some cd_NoLine)
  (kv_NoLine:PySem.W.kitOne K (.ref C_NoLine) (.type "ValueError")=some true)
  (ex_NoLine:PySem.W.exmOne K (.ref C_NoLine) (.ref C_PlusError)=some true)
  (is_NoLine_Bare:PySem.W.kitOne K (.ref C_NoLine) (.ref C_Bare)=some false)
  (is_NoLine_Lacking:PySem.W.kitOne K (.ref C_NoLine) (.ref C_Lacking)=some false)
  (is_NoLine_NoLine:PySem.W.kitOne K (.ref C_NoLine) (.ref C_NoLine)=some true)
  (is_NoLine_NoNumber:PySem.W.kitOne K (.ref C_NoLine) (.ref C_NoNumber)=some false)
  (is_NoLine_NoRow:PySem.W.kitOne K (.ref C_NoLine) (.ref C_NoRow)=some false)
  (is_NoLine_NoSigns:PySem.W.kitOne K (.ref C_NoLine) (.ref C_NoSigns)=some false)
  (is_NoLine_NoTable:PySem.W.kitOne K (.ref C_NoLine) (.ref C_NoTable)=some false)
  (is_NoLine_NoText:PySem.W.kitOne K (.ref C_NoLine) (.ref C_NoText)=some false)
  (is_NoLine_PlusError:PySem.W.kitOne K (.ref C_NoLine) (.ref C_PlusError)=some true)
  (is_NoLine_TooMany:PySem.W.kitOne K (.ref C_NoLine) (.ref C_TooMany)=some false)
  (q_NoNumber:PySem.W.excIn K C_NoNumber veMro "ValueError.__new__" = true)
  (g1_NoNumber:PySem.W.findIn K (.ref C_NoNumber) "__getattribute__" = some (some (.builtin "BaseException.__getattribute__")))
  (g2_NoNumber:PySem.W.findIn K (.ref C_NoNumber) "__getattr__" = some none)
  (g3_NoNumber:PySem.W.findIn K (.ref C_NoNumber) "__class__" = some (some (.builtin "object.__class__")))
  (m1_NoNumber:PySem.W.mroIn K C_NoNumber (.type "BaseException")=some true)
  (m2_NoNumber:PySem.W.mroIn K C_NoNumber (.type "object")=some true)
  (cc_NoNumber:PySem.W.clsIn K C_NoNumber=some cd_NoNumber)
  (kv_NoNumber:PySem.W.kitOne K (.ref C_NoNumber) (.type "ValueError")=some true)
  (ex_NoNumber:PySem.W.exmOne K (.ref C_NoNumber) (.ref C_PlusError)=some true)
  (is_NoNumber_Bare:PySem.W.kitOne K (.ref C_NoNumber) (.ref C_Bare)=some false)
  (is_NoNumber_Lacking:PySem.W.kitOne K (.ref C_NoNumber) (.ref C_Lacking)=some false)
  (is_NoNumber_NoLine:PySem.W.kitOne K (.ref C_NoNumber) (.ref C_NoLine)=some false)
  (is_NoNumber_NoNumber:PySem.W.kitOne K (.ref C_NoNumber) (.ref C_NoNumber)=some true)
  (is_NoNumber_NoRow:PySem.W.kitOne K (.ref C_NoNumber) (.ref C_NoRow)=some false)
  (is_NoNumber_NoSigns:PySem.W.kitOne K (.ref C_NoNumber) (.ref C_NoSigns)=some false)
  (is_NoNumber_NoTable:PySem.W.kitOne K (.ref C_NoNumber) (.ref C_NoTable)=some false)
  (is_NoNumber_NoText:PySem.W.kitOne K (.ref C_NoNumber) (.ref C_NoText)=some false)
  (is_NoNumber_PlusError:PySem.W.kitOne K (.ref C_NoNumber) (.ref C_PlusError)=some true)
  (is_NoNumber_TooMany:PySem.W.kitOne K (.ref C_NoNumber) (.ref C_TooMany)=some false)
  (q_NoRow:PySem.W.excIn K C_NoRow veMro "ValueError.__new__" = true)
  (g1_NoRow:PySem.W.findIn K (.ref C_NoRow) "__getattribute__" = some (some (.builtin "BaseException.__getattribute__")))
  (g2_NoRow:PySem.W.findIn K (.ref C_NoRow) "__getattr__" = some none)
  (g3_NoRow:PySem.W.findIn K (.ref C_NoRow) "__class__" = some (some (.builtin "object.__class__")))
  (m1_NoRow:PySem.W.mroIn K C_NoRow (.type "BaseException")=some true)
  (m2_NoRow:PySem.W.mroIn K C_NoRow (.type "object")=some true)
  (cc_NoRow:PySem.W.clsIn K C_NoRow=some cd_NoRow)
  (kv_NoRow:PySem.W.kitOne K (.ref C_NoRow) (.type "ValueError")=some true)
  (ex_NoRow:PySem.W.exmOne K (.ref C_NoRow) (.ref C_PlusError)=some true)
  (is_NoRow_Bare:PySem.W.kitOne K (.ref C_NoRow) (.ref C_Bare)=some false)
  (is_NoRow_Lacking:PySem.W.kitOne K (.ref C_NoRow) (.ref C_Lacking)=some false)
  (is_NoRow_NoLine:PySem.W.kitOne K (.ref C_NoRow) (.ref C_NoLine)=some false)
  (is_NoRow_NoNumber:PySem.W.kitOne K (.ref C_NoRow) (.ref C_NoNumber)=some false)
  (is_NoRow_NoRow:PySem.W.kitOne K (.ref C_NoRow) (.ref C_NoRow)=some true)
  (is_NoRow_NoSigns:PySem.W.kitOne K (.ref C_NoRow) (.ref C_NoSigns)=some false)
  (is_NoRow_NoTable:PySem.W.kitOne K (.ref C_NoRow) (.ref C_NoTable)=some false)
  (is_NoRow_NoText:PySem.W.kitOne K (.ref C_NoRow) (.ref C_NoText)=some false)
  (is_NoRow_PlusError:PySem.W.kitOne K (.ref C_NoRow) (.ref C_PlusError)=some true)
  (is_NoRow_TooMany:PySem.W.kitOne K (.ref C_NoRow) (.ref C_TooMany)=some false)
  (q_TooMany:PySem.W.excIn K C_TooMany veMro "ValueError.__new__" = true)
  (g1_TooMany:PySem.W.findIn K (.ref C_TooMany) "__getattribute__" = some (some (.builtin "BaseException.__getattribute__")))
  (g2_TooMany:PySem.W.findIn K (.ref C_TooMany) "__getattr__" = some none)
  (g3_TooMany:PySem.W.findIn K (.ref C_TooMany) "__class__" = some (some (.builtin "object.__class__")))
  (m1_TooMany:PySem.W.mroIn K C_TooMany (.type "BaseException")=some true)
  (m2_TooMany:PySem.W.mroIn K C_TooMany (.type "object")=some true)
  (cc_TooMany:PySem.W.clsIn K C_TooMany=some cd_TooMany)
  (kv_TooMany:PySem.W.kitOne K (.ref C_TooMany) (.type "ValueError")=some true)
  (ex_TooMany:PySem.W.exmOne K (.ref C_TooMany) (.ref C_PlusError)=some true)
  (is_TooMany_Bare:PySem.W.kitOne K (.ref C_TooMany) (.ref C_Bare)=some false)
  (is_TooMany_Lacking:PySem.W.kitOne K (.ref C_TooMany) (.ref C_Lacking)=some false)
  (is_TooMany_NoLine:PySem.W.kitOne K (.ref C_TooMany) (.ref C_NoLine)=some false)
  (is_TooMany_NoNumber:PySem.W.kitOne K (.ref C_TooMany) (.ref C_NoNumber)=some false)
  (is_TooMany_NoRow:PySem.W.kitOne K (.ref C_TooMany) (.ref C_NoRow)=some false)
  (is_TooMany_NoSigns:PySem.W.kitOne K (.ref C_TooMany) (.ref C_NoSigns)=some false)
  (is_TooMany_NoTable:PySem.W.kitOne K (.ref C_TooMany) (.ref C_NoTable)=some false)
  (is_TooMany_NoText:PySem.W.kitOne K (.ref C_TooMany) (.ref C_NoText)=some false)
  (is_TooMany_PlusError:PySem.W.kitOne K (.ref C_TooMany) (.ref C_PlusError)=some true)
  (is_TooMany_TooMany:PySem.W.kitOne K (.ref C_TooMany) (.ref C_TooMany)=some true):Cls K raisedX askedX isaX:=
 ⟨gt,tk,λc hc=>by
   simp only [raisedX,Yn,Zd,Ql] at hc
   rcases hc with rfl | rfl | rfl | rfl | rfl
   ·exact ⟨C_Bare,n_Bare,kh g1_Bare g2_Bare g3_Bare m1_Bare m2_Bare cc_Bare,kv_Bare⟩
   ·exact ⟨C_NoLine,n_NoLine,kh g1_NoLine g2_NoLine g3_NoLine m1_NoLine m2_NoLine cc_NoLine,kv_NoLine⟩
   ·exact ⟨C_NoNumber,n_NoNumber,kh g1_NoNumber g2_NoNumber g3_NoNumber m1_NoNumber m2_NoNumber cc_NoNumber,kv_NoNumber⟩
   ·exact ⟨C_NoRow,n_NoRow,kh g1_NoRow g2_NoRow g3_NoRow m1_NoRow m2_NoRow cc_NoRow,kv_NoRow⟩
   ·exact ⟨C_TooMany,n_TooMany,kh g1_TooMany g2_TooMany g3_TooMany m1_TooMany m2_TooMany cc_TooMany,kv_TooMany⟩,
  λc hc k hk=>by
   simp only [raisedX,askedX,Yn,Zd,Ql] at hc hk
   rcases hc with rfl | rfl | rfl | rfl | rfl <;> rcases hk with rfl | rfl | rfl | rfl | rfl | rfl | rfl | rfl | rfl | rfl
   ·exact ⟨_,_,n_Bare,n_Bare,is_Bare_Bare.trans Y5⟩
   ·exact ⟨_,_,n_Bare,n_Lacking,is_Bare_Lacking.trans Y5⟩
   ·exact ⟨_,_,n_Bare,n_NoLine,is_Bare_NoLine.trans Y5⟩
   ·exact ⟨_,_,n_Bare,n_NoNumber,is_Bare_NoNumber.trans Y5⟩
   ·exact ⟨_,_,n_Bare,n_NoRow,is_Bare_NoRow.trans Y5⟩
   ·exact ⟨_,_,n_Bare,n_NoSigns,is_Bare_NoSigns.trans Y5⟩
   ·exact ⟨_,_,n_Bare,n_NoTable,is_Bare_NoTable.trans Y5⟩
   ·exact ⟨_,_,n_Bare,n_NoText,is_Bare_NoText.trans Y5⟩
   ·exact ⟨_,_,n_Bare,n_PlusError,is_Bare_PlusError.trans Y5⟩
   ·exact ⟨_,_,n_Bare,n_TooMany,is_Bare_TooMany.trans Y5⟩
   ·exact ⟨_,_,n_NoLine,n_Bare,is_NoLine_Bare.trans Y5⟩
   ·exact ⟨_,_,n_NoLine,n_Lacking,is_NoLine_Lacking.trans Y5⟩
   ·exact ⟨_,_,n_NoLine,n_NoLine,is_NoLine_NoLine.trans Y5⟩
   ·exact ⟨_,_,n_NoLine,n_NoNumber,is_NoLine_NoNumber.trans Y5⟩
   ·exact ⟨_,_,n_NoLine,n_NoRow,is_NoLine_NoRow.trans Y5⟩
   ·exact ⟨_,_,n_NoLine,n_NoSigns,is_NoLine_NoSigns.trans Y5⟩
   ·exact ⟨_,_,n_NoLine,n_NoTable,is_NoLine_NoTable.trans Y5⟩
   ·exact ⟨_,_,n_NoLine,n_NoText,is_NoLine_NoText.trans Y5⟩
   ·exact ⟨_,_,n_NoLine,n_PlusError,is_NoLine_PlusError.trans Y5⟩
   ·exact ⟨_,_,n_NoLine,n_TooMany,is_NoLine_TooMany.trans Y5⟩
   ·exact ⟨_,_,n_NoNumber,n_Bare,is_NoNumber_Bare.trans Y5⟩
   ·exact ⟨_,_,n_NoNumber,n_Lacking,is_NoNumber_Lacking.trans Y5⟩
   ·exact ⟨_,_,n_NoNumber,n_NoLine,is_NoNumber_NoLine.trans Y5⟩
   ·exact ⟨_,_,n_NoNumber,n_NoNumber,is_NoNumber_NoNumber.trans Y5⟩
   ·exact ⟨_,_,n_NoNumber,n_NoRow,is_NoNumber_NoRow.trans Y5⟩
   ·exact ⟨_,_,n_NoNumber,n_NoSigns,is_NoNumber_NoSigns.trans Y5⟩
   ·exact ⟨_,_,n_NoNumber,n_NoTable,is_NoNumber_NoTable.trans Y5⟩
   ·exact ⟨_,_,n_NoNumber,n_NoText,is_NoNumber_NoText.trans Y5⟩
   ·exact ⟨_,_,n_NoNumber,n_PlusError,is_NoNumber_PlusError.trans Y5⟩
   ·exact ⟨_,_,n_NoNumber,n_TooMany,is_NoNumber_TooMany.trans Y5⟩
   ·exact ⟨_,_,n_NoRow,n_Bare,is_NoRow_Bare.trans Y5⟩
   ·exact ⟨_,_,n_NoRow,n_Lacking,is_NoRow_Lacking.trans Y5⟩
   ·exact ⟨_,_,n_NoRow,n_NoLine,is_NoRow_NoLine.trans Y5⟩
   ·exact ⟨_,_,n_NoRow,n_NoNumber,is_NoRow_NoNumber.trans Y5⟩
   ·exact ⟨_,_,n_NoRow,n_NoRow,is_NoRow_NoRow.trans Y5⟩
   ·exact ⟨_,_,n_NoRow,n_NoSigns,is_NoRow_NoSigns.trans Y5⟩
   ·exact ⟨_,_,n_NoRow,n_NoTable,is_NoRow_NoTable.trans Y5⟩
   ·exact ⟨_,_,n_NoRow,n_NoText,is_NoRow_NoText.trans Y5⟩
   ·exact ⟨_,_,n_NoRow,n_PlusError,is_NoRow_PlusError.trans Y5⟩
   ·exact ⟨_,_,n_NoRow,n_TooMany,is_NoRow_TooMany.trans Y5⟩
   ·exact ⟨_,_,n_TooMany,n_Bare,is_TooMany_Bare.trans Y5⟩
   ·exact ⟨_,_,n_TooMany,n_Lacking,is_TooMany_Lacking.trans Y5⟩
   ·exact ⟨_,_,n_TooMany,n_NoLine,is_TooMany_NoLine.trans Y5⟩
   ·exact ⟨_,_,n_TooMany,n_NoNumber,is_TooMany_NoNumber.trans Y5⟩
   ·exact ⟨_,_,n_TooMany,n_NoRow,is_TooMany_NoRow.trans Y5⟩
   ·exact ⟨_,_,n_TooMany,n_NoSigns,is_TooMany_NoSigns.trans Y5⟩
   ·exact ⟨_,_,n_TooMany,n_NoTable,is_TooMany_NoTable.trans Y5⟩
   ·exact ⟨_,_,n_TooMany,n_NoText,is_TooMany_NoText.trans Y5⟩
   ·exact ⟨_,_,n_TooMany,n_PlusError,is_TooMany_PlusError.trans Y5⟩
   ·exact ⟨_,_,n_TooMany,n_TooMany,is_TooMany_TooMany.trans Y5⟩⟩
theorem ES {K:PySem.W.Frag} {h:Heap} {mg:Str->Option Value} (X:K.In h) (G:h.Ns mainGlobals mg) {C_Bare:Addr} {C_Lacking:Addr} {C_NoLine:Addr} {C_NoNumber:Addr} {C_NoRow:Addr} {C_NoSigns:Addr} {C_NoTable:Addr} {C_NoText:Addr} {C_PlusError:Addr} {C_TooMany:Addr} {cd_Bare:ClassData} {cd_NoLine:ClassData} {cd_NoNumber:ClassData} {cd_NoRow:ClassData} {cd_TooMany:ClassData}
  (gt:PySem.W.specialIn K (.builtin "object.__class__") "__get__" = some (some (.builtin "getset_descriptor.__get__")))
  (tk:PySem.W.takesIn K (.builtin "object.__class__")=some true)
  (n_Bare:PySem.W.nsIn K mainGlobals "Bare" = some (some (.ref C_Bare)))
  (n_Lacking:PySem.W.nsIn K mainGlobals "Lacking" = some (some (.ref C_Lacking)))
  (n_NoLine:PySem.W.nsIn K mainGlobals "NoLine" = some (some (.ref C_NoLine)))
  (n_NoNumber:PySem.W.nsIn K mainGlobals "NoNumber" = some (some (.ref C_NoNumber)))
  (n_NoRow:PySem.W.nsIn K mainGlobals "NoRow" = some (some (.ref C_NoRow)))
  (n_NoSigns:PySem.W.nsIn K mainGlobals "NoSigns" = some (some (.ref C_NoSigns)))
  (n_NoTable:PySem.W.nsIn K mainGlobals "NoTable" = some (some (.ref C_NoTable)))
  (n_NoText:PySem.W.nsIn K mainGlobals "NoText" = some (some (.ref C_NoText)))
  (n_PlusError:PySem.W.nsIn K mainGlobals "PlusError" = some (some (.ref C_PlusError)))
  (n_TooMany:PySem.W.nsIn K mainGlobals "TooMany" = some (some (.ref C_TooMany)))
  (q_Bare:PySem.W.excIn K C_Bare veMro "ValueError.__new__" = true)
  (g1_Bare:PySem.W.findIn K (.ref C_Bare) "__getattribute__" = some (some (.builtin "BaseException.__getattribute__")))
  (g2_Bare:PySem.W.findIn K (.ref C_Bare) "__getattr__" = some none)
  (g3_Bare:PySem.W.findIn K (.ref C_Bare) "__class__" = some (some (.builtin "object.__class__")))
  (m1_Bare:PySem.W.mroIn K C_Bare (.type "BaseException")=some true)
  (m2_Bare:PySem.W.mroIn K C_Bare (.type "object")=some true)
  (cc_Bare:PySem.W.clsIn K C_Bare=some cd_Bare)
  (kv_Bare:PySem.W.kitOne K (.ref C_Bare) (.type "ValueError")=some true)
  (ex_Bare:PySem.W.exmOne K (.ref C_Bare) (.ref C_PlusError)=some true)
  (is_Bare_Bare:PySem.W.kitOne K (.ref C_Bare) (.ref C_Bare)=some true)
  (is_Bare_Lacking:PySem.W.kitOne K (.ref C_Bare) (.ref C_Lacking)=some false)
  (is_Bare_NoLine:PySem.W.kitOne K (.ref C_Bare) (.ref C_NoLine)=some false)
  (is_Bare_NoNumber:PySem.W.kitOne K (.ref C_Bare) (.ref C_NoNumber)=some false)
  (is_Bare_NoRow:PySem.W.kitOne K (.ref C_Bare) (.ref C_NoRow)=some false)
  (is_Bare_NoSigns:PySem.W.kitOne K (.ref C_Bare) (.ref C_NoSigns)=some false)
  (is_Bare_NoTable:PySem.W.kitOne K (.ref C_Bare) (.ref C_NoTable)=some false)
  (is_Bare_NoText:PySem.W.kitOne K (.ref C_Bare) (.ref C_NoText)=some false)
  (is_Bare_PlusError:PySem.W.kitOne K (.ref C_Bare) (.ref C_PlusError)=some true)
  (is_Bare_TooMany:PySem.W.kitOne K (.ref C_Bare) (.ref C_TooMany)=some false)
  (q_NoLine:PySem.W.excIn K C_NoLine veMro "ValueError.__new__" = true)
  (g1_NoLine:PySem.W.findIn K (.ref C_NoLine) "__getattribute__" = some (some (.builtin "BaseException.__getattribute__")))
  (g2_NoLine:PySem.W.findIn K (.ref C_NoLine) "__getattr__" = some none)
  (g3_NoLine:PySem.W.findIn K (.ref C_NoLine) "__class__" = some (some (.builtin "object.__class__")))
  (m1_NoLine:PySem.W.mroIn K C_NoLine (.type "BaseException")=some true)
  (m2_NoLine:PySem.W.mroIn K C_NoLine (.type "object")=some true)
  (cc_NoLine:PySem.W.clsIn K C_NoLine=some cd_NoLine)
  (kv_NoLine:PySem.W.kitOne K (.ref C_NoLine) (.type "ValueError")=some true)
  (ex_NoLine:PySem.W.exmOne K (.ref C_NoLine) (.ref C_PlusError)=some true)
  (is_NoLine_Bare:PySem.W.kitOne K (.ref C_NoLine) (.ref C_Bare)=some false)
  (is_NoLine_Lacking:PySem.W.kitOne K (.ref C_NoLine) (.ref C_Lacking)=some false)
  (is_NoLine_NoLine:PySem.W.kitOne K (.ref C_NoLine) (.ref C_NoLine)=some true)
  (is_NoLine_NoNumber:PySem.W.kitOne K (.ref C_NoLine) (.ref C_NoNumber)=some false)
  (is_NoLine_NoRow:PySem.W.kitOne K (.ref C_NoLine) (.ref C_NoRow)=some false)
  (is_NoLine_NoSigns:PySem.W.kitOne K (.ref C_NoLine) (.ref C_NoSigns)=some false)
  (is_NoLine_NoTable:PySem.W.kitOne K (.ref C_NoLine) (.ref C_NoTable)=some false)
  (is_NoLine_NoText:PySem.W.kitOne K (.ref C_NoLine) (.ref C_NoText)=some false)
  (is_NoLine_PlusError:PySem.W.kitOne K (.ref C_NoLine) (.ref C_PlusError)=some true)
  (is_NoLine_TooMany:PySem.W.kitOne K (.ref C_NoLine) (.ref C_TooMany)=some false)
  (q_NoNumber:PySem.W.excIn K C_NoNumber veMro "ValueError.__new__" = true)
  (g1_NoNumber:PySem.W.findIn K (.ref C_NoNumber) "__getattribute__" = some (some (.builtin "BaseException.__getattribute__")))
  (g2_NoNumber:PySem.W.findIn K (.ref C_NoNumber) "__getattr__" = some none)
  (g3_NoNumber:PySem.W.findIn K (.ref C_NoNumber) "__class__" = some (some (.builtin "object.__class__")))
  (m1_NoNumber:PySem.W.mroIn K C_NoNumber (.type "BaseException")=some true)
  (m2_NoNumber:PySem.W.mroIn K C_NoNumber (.type "object")=some true)
  (cc_NoNumber:PySem.W.clsIn K C_NoNumber=some cd_NoNumber)
  (kv_NoNumber:PySem.W.kitOne K (.ref C_NoNumber) (.type "ValueError")=some true)
  (ex_NoNumber:PySem.W.exmOne K (.ref C_NoNumber) (.ref C_PlusError)=some true)
  (is_NoNumber_Bare:PySem.W.kitOne K (.ref C_NoNumber) (.ref C_Bare)=some false)
  (is_NoNumber_Lacking:PySem.W.kitOne K (.ref C_NoNumber) (.ref C_Lacking)=some false)
  (is_NoNumber_NoLine:PySem.W.kitOne K (.ref C_NoNumber) (.ref C_NoLine)=some false)
  (is_NoNumber_NoNumber:PySem.W.kitOne K (.ref C_NoNumber) (.ref C_NoNumber)=some true)
  (is_NoNumber_NoRow:PySem.W.kitOne K (.ref C_NoNumber) (.ref C_NoRow)=some false)
  (is_NoNumber_NoSigns:PySem.W.kitOne K (.ref C_NoNumber) (.ref C_NoSigns)=some false)
  (is_NoNumber_NoTable:PySem.W.kitOne K (.ref C_NoNumber) (.ref C_NoTable)=some false)
  (is_NoNumber_NoText:PySem.W.kitOne K (.ref C_NoNumber) (.ref C_NoText)=some false)
  (is_NoNumber_PlusError:PySem.W.kitOne K (.ref C_NoNumber) (.ref C_PlusError)=some true)
  (is_NoNumber_TooMany:PySem.W.kitOne K (.ref C_NoNumber) (.ref C_TooMany)=some false)
  (q_NoRow:PySem.W.excIn K C_NoRow veMro "ValueError.__new__" = true)
  (g1_NoRow:PySem.W.findIn K (.ref C_NoRow) "__getattribute__" = some (some (.builtin "BaseException.__getattribute__")))
  (g2_NoRow:PySem.W.findIn K (.ref C_NoRow) "__getattr__" = some none)
  (g3_NoRow:PySem.W.findIn K (.ref C_NoRow) "__class__" = some (some (.builtin "object.__class__")))
  (m1_NoRow:PySem.W.mroIn K C_NoRow (.type "BaseException")=some true)
  (m2_NoRow:PySem.W.mroIn K C_NoRow (.type "object")=some true)
  (cc_NoRow:PySem.W.clsIn K C_NoRow=some cd_NoRow)
  (kv_NoRow:PySem.W.kitOne K (.ref C_NoRow) (.type "ValueError")=some true)
  (ex_NoRow:PySem.W.exmOne K (.ref C_NoRow) (.ref C_PlusError)=some true)
  (is_NoRow_Bare:PySem.W.kitOne K (.ref C_NoRow) (.ref C_Bare)=some false)
  (is_NoRow_Lacking:PySem.W.kitOne K (.ref C_NoRow) (.ref C_Lacking)=some false)
  (is_NoRow_NoLine:PySem.W.kitOne K (.ref C_NoRow) (.ref C_NoLine)=some false)
  (is_NoRow_NoNumber:PySem.W.kitOne K (.ref C_NoRow) (.ref C_NoNumber)=some false)
  (is_NoRow_NoRow:PySem.W.kitOne K (.ref C_NoRow) (.ref C_NoRow)=some true)
  (is_NoRow_NoSigns:PySem.W.kitOne K (.ref C_NoRow) (.ref C_NoSigns)=some false)
  (is_NoRow_NoTable:PySem.W.kitOne K (.ref C_NoRow) (.ref C_NoTable)=some false)
  (is_NoRow_NoText:PySem.W.kitOne K (.ref C_NoRow) (.ref C_NoText)=some false)
  (is_NoRow_PlusError:PySem.W.kitOne K (.ref C_NoRow) (.ref C_PlusError)=some true)
  (is_NoRow_TooMany:PySem.W.kitOne K (.ref C_NoRow) (.ref C_TooMany)=some false)
  (q_TooMany:PySem.W.excIn K C_TooMany veMro "ValueError.__new__" = true)
  (g1_TooMany:PySem.W.findIn K (.ref C_TooMany) "__getattribute__" = some (some (.builtin "BaseException.__getattribute__")))
  (g2_TooMany:PySem.W.findIn K (.ref C_TooMany) "__getattr__" = some none)
  (g3_TooMany:PySem.W.findIn K (.ref C_TooMany) "__class__" = some (some (.builtin "object.__class__")))
  (m1_TooMany:PySem.W.mroIn K C_TooMany (.type "BaseException")=some true)
  (m2_TooMany:PySem.W.mroIn K C_TooMany (.type "object")=some true)
  (cc_TooMany:PySem.W.clsIn K C_TooMany=some cd_TooMany)
  (kv_TooMany:PySem.W.kitOne K (.ref C_TooMany) (.type "ValueError")=some true)
  (ex_TooMany:PySem.W.exmOne K (.ref C_TooMany) (.ref C_PlusError)=some true)
  (is_TooMany_Bare:PySem.W.kitOne K (.ref C_TooMany) (.ref C_Bare)=some false)
  (is_TooMany_Lacking:PySem.W.kitOne K (.ref C_TooMany) (.ref C_Lacking)=some false)
  (is_TooMany_NoLine:PySem.W.kitOne K (.ref C_TooMany) (.ref C_NoLine)=some false)
  (is_TooMany_NoNumber:PySem.W.kitOne K (.ref C_TooMany) (.ref C_NoNumber)=some false)
  (is_TooMany_NoRow:PySem.W.kitOne K (.ref C_TooMany) (.ref C_NoRow)=some false)
  (is_TooMany_NoSigns:PySem.W.kitOne K (.ref C_TooMany) (.ref C_NoSigns)=some false)
  (is_TooMany_NoTable:PySem.W.kitOne K (.ref C_TooMany) (.ref C_NoTable)=some false)
  (is_TooMany_NoText:PySem.W.kitOne K (.ref C_TooMany) (.ref C_NoText)=some false)
  (is_TooMany_PlusError:PySem.W.kitOne K (.ref C_TooMany) (.ref C_PlusError)=some true)
  (is_TooMany_TooMany:PySem.W.kitOne K (.ref C_TooMany) (.ref C_TooMany)=some true):TryAt K mg "PlusError" raisedX:=
 ⟨_,Yb X G n_PlusError,λc hc=>by
   simp only [raisedX,Yn,Zd,Ql] at hc
   rcases hc with rfl | rfl | rfl | rfl | rfl
   ·exact ⟨_,n_Bare,ex_Bare⟩
   ·exact ⟨_,n_NoLine,ex_NoLine⟩
   ·exact ⟨_,n_NoNumber,ex_NoNumber⟩
   ·exact ⟨_,n_NoRow,ex_NoRow⟩
   ·exact ⟨_,n_TooMany,ex_TooMany⟩⟩
theorem us1 (h:∀ a,p [a]) (us:List Value) (e:us.length=1):p us:=by
 rcases us with _ | ⟨a,_ | ⟨b,r⟩⟩
 · simp at e
 · exact h a
 · simp at e
theorem us2 (h:∀ a b,p [a,b]) (us:List Value) (e:us.length=2):p us:=by
 rcases us with _ | ⟨a,_ | ⟨b,_ | ⟨c,r⟩⟩⟩
 · simp at e
 · simp at e
 · exact h a b
 · simp at e
theorem us3 (h:∀ a b c,p [a,b,c]) (us:List Value) (e:us.length=3):p us:=by
 rcases us with _ | ⟨a,_ | ⟨b,_ | ⟨c,_ | ⟨d,r⟩⟩⟩⟩
 · simp at e
 · simp at e
 · simp at e
 · exact h a b c
 · simp at e
theorem all_mk {P:Program} {w:World} {K:PySem.W.Frag} {h:Heap} {mg:Str->Option Value} {fa:Addr} (X:K.In h) (G:h.Ns mainGlobals mg) (hfa:mg "law" = some (.ref fa)) {K_Desk:Addr} {K_Keeper:Addr} {f0:Addr} {od0 an0:Option Addr} {sl0:Array (Option Value)} {oc0 kV0 dc0 pm0 cd0 ct0:Value} {f1:Addr} {od1 an1:Option Addr} {sl1:Array (Option Value)} {oc1 kV1 dc1 pm1 cd1 ct1:Value} {f2:Addr} {od2 an2:Option Addr} {sl2:Array (Option Value)} {oc2 kV2 dc2 pm2 cd2 ct2:Value} {f3:Addr} {od3 an3:Option Addr} {sl3:Array (Option Value)} {oc3 kV3 dc3 pm3 cd3 ct3:Value} {f4:Addr} {od4 an4:Option Addr} {sl4:Array (Option Value)} {oc4 kV4 dc4 pm4 cd4 ct4:Value} {f5:Addr} {od5 an5:Option Addr} {sl5:Array (Option Value)} {oc5 kV5 dc5 pm5 cd5 ct5:Value} {f6:Addr} {od6 an6:Option Addr} {sl6:Array (Option Value)} {oc6 kV6 dc6 pm6 cd6 ct6:Value} {f7:Addr} {od7 an7:Option Addr} {sl7:Array (Option Value)} {oc7 kV7 dc7 pm7 cd7 ct7:Value} {f8:Addr} {od8 an8:Option Addr} {sl8:Array (Option Value)} {oc8 kV8 dc8 pm8 cd8 ct8:Value} {f9:Addr} {od9 an9:Option Addr} {sl9:Array (Option Value)} {oc9 kV9 dc9 pm9 cd9 ct9:Value} {f10:Addr} {od10 an10:Option Addr} {sl10:Array (Option Value)} {oc10 kV10 dc10 pm10 cd10 ct10:Value} {f11:Addr} {od11 an11:Option Addr} {sl11:Array (Option Value)} {oc11 kV11 dc11 pm11 cd11 ct11:Value} {f12:Addr} {od12 an12:Option Addr} {sl12:Array (Option Value)} {oc12 kV12 dc12 pm12 cd12 ct12:Value} {f13:Addr} {od13 an13:Option Addr} {sl13:Array (Option Value)} {oc13 kV13 dc13 pm13 cd13 ct13:Value} {f14:Addr} {od14 an14:Option Addr} {sl14:Array (Option Value)} {oc14 kV14 dc14 pm14 cd14 ct14:Value} {f15:Addr} {od15 an15:Option Addr} {sl15:Array (Option Value)} {oc15 kV15 dc15 pm15 cd15 ct15:Value} {f16:Addr} {od16 an16:Option Addr} {sl16:Array (Option Value)} {oc16 kV16 dc16 pm16 cd16 ct16:Value} {f17:Addr} {od17 an17:Option Addr} {sl17:Array (Option Value)} {oc17 kV17 dc17 pm17 cd17 ct17:Value} {f18:Addr} {od18 an18:Option Addr} {sl18:Array (Option Value)} {oc18 kV18 dc18 pm18 cd18 ct18:Value} {f19:Addr} {od19 an19:Option Addr} {sl19:Array (Option Value)} {oc19 kV19 dc19 pm19 cd19 ct19:Value} {f20:Addr} {od20 an20:Option Addr} {sl20:Array (Option Value)} {oc20 kV20 dc20 pm20 cd20 ct20:Value} {f21:Addr} {od21 an21:Option Addr} {sl21:Array (Option Value)} {oc21 kV21 dc21 pm21 cd21 ct21:Value} {f22:Addr} {od22 an22:Option Addr} {sl22:Array (Option Value)} {oc22 kV22 dc22 pm22 cd22 ct22:Value} {f23:Addr} {od23 an23:Option Addr} {sl23:Array (Option Value)} {oc23 kV23 dc23 pm23 cd23 ct23:Value} {f24:Addr} {od24 an24:Option Addr} {sl24:Array (Option Value)} {oc24 kV24 dc24 pm24 cd24 ct24:Value} {f25:Addr} {od25 an25:Option Addr} {sl25:Array (Option Value)} {oc25 kV25 dc25 pm25 cd25 ct25:Value} {f26:Addr} {od26 an26:Option Addr} {sl26:Array (Option Value)} {oc26 kV26 dc26 pm26 cd26 ct26:Value} {f27:Addr} {od27 an27:Option Addr} {sl27:Array (Option Value)} {oc27 kV27 dc27 pm27 cd27 ct27:Value} {f28:Addr} {od28 an28:Option Addr} {sl28:Array (Option Value)} {oc28 kV28 dc28 pm28 cd28 ct28:Value} {t_LONGEST_ROW:Tok} {t_MOST_FIGURES:Tok} {A_CHANGED_ALONE:Addr} {od_CHANGED_ALONE:Option Addr} {n_CHANGED_ALONE:Nat} {sl_CHANGED_ALONE:Array (Option Value)} {u0_CHANGED_ALONE u1_CHANGED_ALONE:Tok} {A_ASKED_ALONE:Addr} {A_ASKED_OF_A_NUMBER:Addr} {t_FIGURES:Tok} {C_Bare:Addr} {C_Lacking:Addr} {C_NoLine:Addr} {C_NoNumber:Addr} {C_NoRow:Addr} {C_NoSigns:Addr} {C_NoTable:Addr} {C_NoText:Addr} {C_PlusError:Addr} {C_TooMany:Addr} {cd_Bare:ClassData} {cd_NoLine:ClassData} {cd_NoNumber:ClassData} {cd_NoRow:ClassData} {cd_TooMany:ClassData}
  (kn_Desk:PySem.W.nsIn K mainGlobals "Desk" = some (some (.ref K_Desk)))
  (kg_Desk:PySem.W.plainGet K K_Desk Str.empty=true)
  (kd_Desk:PySem.W.hasDictIn K K_Desk=true)
  (ko_Desk:PySem.W.plainOver K K_Desk=true)
  (ks_Desk:PySem.W.findIn K (.ref K_Desk) "__setattr__" = some (some (.builtin "object.__setattr__")))
  (kk_Desk:PySem.W.keepIn K (.ref K_Desk)=true)
  (kn_Keeper:PySem.W.nsIn K mainGlobals "Keeper" = some (some (.ref K_Keeper)))
  (kg_Keeper:PySem.W.plainGet K K_Keeper Str.empty=true)
  (kd_Keeper:PySem.W.hasDictIn K K_Keeper=true)
  (ko_Keeper:PySem.W.plainOver K K_Keeper=true)
  (ks_Keeper:PySem.W.findIn K (.ref K_Keeper) "__setattr__" = some (some (.builtin "object.__setattr__")))
  (kk_Keeper:PySem.W.keepIn K (.ref K_Keeper)=true)
  (kf_Desk_keeper:PySem.W.findIn K (.ref K_Desk) "keeper" = some none)
  (kf_Keeper_earlier:PySem.W.findIn K (.ref K_Keeper) "earlier" = some none)
  (kf_Keeper_numbers:PySem.W.findIn K (.ref K_Keeper) "numbers" = some none)
  (a0:PySem.W.findIn K (.ref K_Keeper) "__init__" = some (some (.ref f0))) (gfn0:PySem.W.isFn K (.ref f0)=true) (mk0:PySem.W.makesIn K K_Keeper=true) (l0:K.lookup f0=some ⟨oc0,od0,.func (PySem.W.fnOf "__init__" "Keeper.__init__" (defArgs bj) (defBody bj) (defScope bj) .none kV0 dc0 pm0 an0 cd0 ct0),sl0⟩) (c0:PySem.W.codeIn K cd0 "Keeper.__init__" = true) (k0:PySem.W.keepIn K (.ref f0)=true)
  (a1:PySem.W.findIn K (.ref K_Desk) "__init__" = some (some (.ref f1))) (gfn1:PySem.W.isFn K (.ref f1)=true) (mk1:PySem.W.makesIn K K_Desk=true) (l1:K.lookup f1=some ⟨oc1,od1,.func (PySem.W.fnOf "__init__" "Desk.__init__" (defArgs bF) (defBody bF) (defScope bF) .none kV1 dc1 pm1 an1 cd1 ct1),sl1⟩) (c1:PySem.W.codeIn K cd1 "Desk.__init__" = true) (k1:PySem.W.keepIn K (.ref f1)=true)
  (a2:PySem.W.findIn K (.ref K_Keeper) "back" = some (some (.ref f2))) (gfn2:PySem.W.isFn K (.ref f2)=true) (l2:K.lookup f2=some ⟨oc2,od2,.func (PySem.W.fnOf "back" "Keeper.back" (defArgs bG) (defBody bG) (defScope bG) .none kV2 dc2 pm2 an2 cd2 ct2),sl2⟩) (c2:PySem.W.codeIn K cd2 "Keeper.back" = true) (k2:PySem.W.keepIn K (.ref f2)=true)
  (a3:PySem.W.findIn K (.ref K_Keeper) "change" = some (some (.ref f3))) (gfn3:PySem.W.isFn K (.ref f3)=true) (l3:K.lookup f3=some ⟨oc3,od3,.func (PySem.W.fnOf "change" "Keeper.change" (defArgs bH) (defBody bH) (defScope bH) .none kV3 dc3 pm3 an3 cd3 ct3),sl3⟩) (c3:PySem.W.codeIn K cd3 "Keeper.change" = true) (k3:PySem.W.keepIn K (.ref f3)=true)
  (a4:PySem.W.nsIn K mainGlobals "is_whole" = some (some (.ref f4))) (l4:K.lookup f4=some ⟨oc4,od4,.func (PySem.W.fnOf "is_whole" "is_whole" (defArgs dm) (defBody dm) (defScope dm) .none kV4 dc4 pm4 an4 cd4 ct4),sl4⟩) (c4:PySem.W.codeIn K cd4 "is_whole" = true) (k4:PySem.W.keepIn K (.ref f4)=true)
  (a5:PySem.W.nsIn K mainGlobals "need_number" = some (some (.ref f5))) (l5:K.lookup f5=some ⟨oc5,od5,.func (PySem.W.fnOf "need_number" "need_number" (defArgs bI) (defBody bI) (defScope bI) .none kV5 dc5 pm5 an5 cd5 ct5),sl5⟩) (c5:PySem.W.codeIn K cd5 "need_number" = true) (k5:PySem.W.keepIn K (.ref f5)=true)
  (a6:PySem.W.nsIn K mainGlobals "need_number_from" = some (some (.ref f6))) (l6:K.lookup f6=some ⟨oc6,od6,.func (PySem.W.fnOf "need_number_from" "need_number_from" (defArgs aT) (defBody aT) (defScope aT) .none kV6 dc6 pm6 an6 cd6 ct6),sl6⟩) (c6:PySem.W.codeIn K cd6 "need_number_from" = true) (k6:PySem.W.keepIn K (.ref f6)=true)
  (a7:PySem.W.findIn K (.ref K_Keeper) "put" = some (some (.ref f7))) (gfn7:PySem.W.isFn K (.ref f7)=true) (l7:K.lookup f7=some ⟨oc7,od7,.func (PySem.W.fnOf "put" "Keeper.put" (defArgs bO) (defBody bO) (defScope bO) .none kV7 dc7 pm7 an7 cd7 ct7),sl7⟩) (c7:PySem.W.codeIn K cd7 "Keeper.put" = true) (k7:PySem.W.keepIn K (.ref f7)=true)
  (a8:PySem.W.findIn K (.ref K_Keeper) "row" = some (some (.ref f8))) (gfn8:PySem.W.isFn K (.ref f8)=true) (l8:K.lookup f8=some ⟨oc8,od8,.func (PySem.W.fnOf "row" "Keeper.row" (defArgs cy) (defBody cy) (defScope cy) .none kV8 dc8 pm8 an8 cd8 ct8),sl8⟩) (c8:PySem.W.codeIn K cd8 "Keeper.row" = true) (k8:PySem.W.keepIn K (.ref f8)=true)
  (a9:PySem.W.findIn K (.ref K_Keeper) "take" = some (some (.ref f9))) (gfn9:PySem.W.isFn K (.ref f9)=true) (l9:K.lookup f9=some ⟨oc9,od9,.func (PySem.W.fnOf "take" "Keeper.take" (defArgs bJ) (defBody bJ) (defScope bJ) .none kV9 dc9 pm9 an9 cd9 ct9),sl9⟩) (c9:PySem.W.codeIn K cd9 "Keeper.take" = true) (k9:PySem.W.keepIn K (.ref f9)=true)
  (a10:PySem.W.nsIn K mainGlobals "row_text" = some (some (.ref f10))) (l10:K.lookup f10=some ⟨oc10,od10,.func (PySem.W.fnOf "row_text" "row_text" (defArgs dn) (defBody dn) (defScope dn) .none kV10 dc10 pm10 an10 cd10 ct10),sl10⟩) (c10:PySem.W.codeIn K cd10 "row_text" = true) (k10:PySem.W.keepIn K (.ref f10)=true)
  (a11:PySem.W.nsIn K mainGlobals "is_row" = some (some (.ref f11))) (l11:K.lookup f11=some ⟨oc11,od11,.func (PySem.W.fnOf "is_row" "is_row" (defArgs eH) (defBody eH) (defScope eH) .none kV11 dc11 pm11 an11 cd11 ct11),sl11⟩) (c11:PySem.W.codeIn K cd11 "is_row" = true) (k11:PySem.W.keepIn K (.ref f11)=true)
  (a12:PySem.W.nsIn K mainGlobals "need_row" = some (some (.ref f12))) (l12:K.lookup f12=some ⟨oc12,od12,.func (PySem.W.fnOf "need_row" "need_row" (defArgs dq) (defBody dq) (defScope dq) .none kV12 dc12 pm12 an12 cd12 ct12),sl12⟩) (c12:PySem.W.codeIn K cd12 "need_row" = true) (k12:PySem.W.keepIn K (.ref f12)=true)
  (a13:PySem.W.nsIn K mainGlobals "total" = some (some (.ref f13))) (l13:K.lookup f13=some ⟨oc13,od13,.func (PySem.W.fnOf "total" "total" (defArgs ft) (defBody ft) (defScope ft) .none kV13 dc13 pm13 an13 cd13 ct13),sl13⟩) (c13:PySem.W.codeIn K cd13 "total" = true) (k13:PySem.W.keepIn K (.ref f13)=true)
  (a14:PySem.W.nsIn K mainGlobals "total_text" = some (some (.ref f14))) (l14:K.lookup f14=some ⟨oc14,od14,.func (PySem.W.fnOf "total_text" "total_text" (defArgs cz) (defBody cz) (defScope cz) .none kV14 dc14 pm14 an14 cd14 ct14),sl14⟩) (c14:PySem.W.codeIn K cd14 "total_text" = true) (k14:PySem.W.keepIn K (.ref f14)=true)
  (a15:PySem.W.nsIn K mainGlobals "is_number_word" = some (some (.ref f15))) (l15:K.lookup f15=some ⟨oc15,od15,.func (PySem.W.fnOf "is_number_word" "is_number_word" (defArgs bz) (defBody bz) (defScope bz) .none kV15 dc15 pm15 an15 cd15 ct15),sl15⟩) (c15:PySem.W.codeIn K cd15 "is_number_word" = true) (k15:PySem.W.keepIn K (.ref f15)=true)
  (a16:PySem.W.nsIn K mainGlobals "is_line" = some (some (.ref f16))) (l16:K.lookup f16=some ⟨oc16,od16,.func (PySem.W.fnOf "is_line" "is_line" (defArgs dI) (defBody dI) (defScope dI) .none kV16 dc16 pm16 an16 cd16 ct16),sl16⟩) (c16:PySem.W.codeIn K cd16 "is_line" = true) (k16:PySem.W.keepIn K (.ref f16)=true)
  (a17:PySem.W.nsIn K mainGlobals "words_of_line" = some (some (.ref f17))) (l17:K.lookup f17=some ⟨oc17,od17,.func (PySem.W.fnOf "words_of_line" "words_of_line" (defArgs bp) (defBody bp) (defScope bp) .none kV17 dc17 pm17 an17 cd17 ct17),sl17⟩) (c17:PySem.W.codeIn K cd17 "words_of_line" = true) (k17:PySem.W.keepIn K (.ref f17)=true)
  (a18:PySem.W.findIn K (.ref K_Desk) "say" = some (some (.ref f18))) (gfn18:PySem.W.isFn K (.ref f18)=true) (l18:K.lookup f18=some ⟨oc18,od18,.func (PySem.W.fnOf "say" "Desk.say" (defArgs cA) (defBody cA) (defScope cA) .none kV18 dc18 pm18 an18 cd18 ct18),sl18⟩) (c18:PySem.W.codeIn K cd18 "Desk.say" = true) (k18:PySem.W.keepIn K (.ref f18)=true)
  (a19:PySem.W.nsIn K mainGlobals "_law_take" = some (some (.ref f19))) (l19:K.lookup f19=some ⟨oc19,od19,.func (PySem.W.fnOf "_law_take" "_law_take" (defArgs cL) (defBody cL) (defScope cL) .none kV19 dc19 pm19 an19 cd19 ct19),sl19⟩) (c19:PySem.W.codeIn K cd19 "_law_take" = true) (k19:PySem.W.keepIn K (.ref f19)=true)
  (a20:PySem.W.nsIn K mainGlobals "_law_bent" = some (some (.ref f20))) (l20:K.lookup f20=some ⟨oc20,od20,.func (PySem.W.fnOf "_law_bent" "_law_bent" (defArgs cM) (defBody cM) (defScope cM) .none kV20 dc20 pm20 an20 cd20 ct20),sl20⟩) (c20:PySem.W.codeIn K cd20 "_law_bent" = true) (k20:PySem.W.keepIn K (.ref f20)=true)
  (a21:PySem.W.nsIn K mainGlobals "_law_box" = some (some (.ref f21))) (l21:K.lookup f21=some ⟨oc21,od21,.func (PySem.W.fnOf "_law_box" "_law_box" (defArgs du) (defBody du) (defScope du) .none kV21 dc21 pm21 an21 cd21 ct21),sl21⟩) (c21:PySem.W.codeIn K cd21 "_law_box" = true) (k21:PySem.W.keepIn K (.ref f21)=true)
  (a22:PySem.W.nsIn K mainGlobals "_law_number" = some (some (.ref f22))) (l22:K.lookup f22=some ⟨oc22,od22,.func (PySem.W.fnOf "_law_number" "_law_number" (defArgs cb) (defBody cb) (defScope cb) .none kV22 dc22 pm22 an22 cd22 ct22),sl22⟩) (c22:PySem.W.codeIn K cd22 "_law_number" = true) (k22:PySem.W.keepIn K (.ref f22)=true)
  (a23:PySem.W.nsIn K mainGlobals "_law_is_line" = some (some (.ref f23))) (l23:K.lookup f23=some ⟨oc23,od23,.func (PySem.W.fnOf "_law_is_line" "_law_is_line" (defArgs bP) (defBody bP) (defScope bP) .none kV23 dc23 pm23 an23 cd23 ct23),sl23⟩) (c23:PySem.W.codeIn K cd23 "_law_is_line" = true) (k23:PySem.W.keepIn K (.ref f23)=true)
  (a24:PySem.W.nsIn K mainGlobals "_law_odd" = some (some (.ref f24))) (l24:K.lookup f24=some ⟨oc24,od24,.func (PySem.W.fnOf "_law_odd" "_law_odd" (defArgs dv) (defBody dv) (defScope dv) .none kV24 dc24 pm24 an24 cd24 ct24),sl24⟩) (c24:PySem.W.codeIn K cd24 "_law_odd" = true) (k24:PySem.W.keepIn K (.ref f24)=true)
  (a25:PySem.W.nsIn K mainGlobals "_law_classes" = some (some (.ref f25))) (l25:K.lookup f25=some ⟨oc25,od25,.func (PySem.W.fnOf "_law_classes" "_law_classes" (defArgs bQ) (defBody bQ) (defScope bQ) .none kV25 dc25 pm25 an25 cd25 ct25),sl25⟩) (c25:PySem.W.codeIn K cd25 "_law_classes" = true) (k25:PySem.W.keepIn K (.ref f25)=true)
  (a26:PySem.W.nsIn K mainGlobals "_law_only" = some (some (.ref f26))) (l26:K.lookup f26=some ⟨oc26,od26,.func (PySem.W.fnOf "_law_only" "_law_only" (defArgs cN) (defBody cN) (defScope cN) .none kV26 dc26 pm26 an26 cd26 ct26),sl26⟩) (c26:PySem.W.codeIn K cd26 "_law_only" = true) (k26:PySem.W.keepIn K (.ref f26)=true)
  (a27:PySem.W.nsIn K mainGlobals "_law_said" = some (some (.ref f27))) (l27:K.lookup f27=some ⟨oc27,od27,.func (PySem.W.fnOf "_law_said" "_law_said" (defArgs cO) (defBody cO) (defScope cO) .none kV27 dc27 pm27 an27 cd27 ct27),sl27⟩) (c27:PySem.W.codeIn K cd27 "_law_said" = true) (k27:PySem.W.keepIn K (.ref f27)=true)
  (a28:PySem.W.nsIn K mainGlobals "law" = some (some (.ref f28))) (l28:K.lookup f28=some ⟨oc28,od28,.func (PySem.W.fnOf "law" "law" (defArgs gz) (defBody gz) (defScope gz) .none kV28 dc28 pm28 an28 cd28 ct28),sl28⟩) (c28:PySem.W.codeIn K cd28 "law" = true) (k28:PySem.W.keepIn K (.ref f28)=true)
  (z_ValueError:PySem.W.nsIn K mainGlobals "ValueError" = some none)
  (z_all:PySem.W.nsIn K mainGlobals "all" = some none)
  (z_bool:PySem.W.nsIn K mainGlobals "bool" = some none)
  (z_divmod:PySem.W.nsIn K mainGlobals "divmod" = some none)
  (z_int:PySem.W.nsIn K mainGlobals "int" = some none)
  (z_isinstance:PySem.W.nsIn K mainGlobals "isinstance" = some none)
  (z_len:PySem.W.nsIn K mainGlobals "len" = some none)
  (z_max:PySem.W.nsIn K mainGlobals "max" = some none)
  (z_min:PySem.W.nsIn K mainGlobals "min" = some none)
  (z_range:PySem.W.nsIn K mainGlobals "range" = some none)
  (z_str:PySem.W.nsIn K mainGlobals "str" = some none)
  (z_sum:PySem.W.nsIn K mainGlobals "sum" = some none)
  (z_tuple:PySem.W.nsIn K mainGlobals "tuple" = some none)
  (z_LONGEST_ROW:PySem.W.nsIn K mainGlobals "LONGEST_ROW" = some (some (.int 16 t_LONGEST_ROW)))
  (z_MOST_FIGURES:PySem.W.nsIn K mainGlobals "MOST_FIGURES" = some (some (.int 30 t_MOST_FIGURES)))
  (zt_CHANGED_ALONE:PySem.W.nsIn K mainGlobals "CHANGED_ALONE" = some (some (.ref A_CHANGED_ALONE))) (yt_CHANGED_ALONE:K.lookup A_CHANGED_ALONE=some ⟨.type "tuple",od_CHANGED_ALONE,.seq #[.str "take" u0_CHANGED_ALONE,.str "back" u1_CHANGED_ALONE] n_CHANGED_ALONE,sl_CHANGED_ALONE⟩)
  (zf_ASKED_ALONE:PySem.W.nsIn K mainGlobals "ASKED_ALONE" = some (some (.ref A_ASKED_ALONE))) (yf_ASKED_ALONE:KTD.tabLook lkF (λb=>K.lookup b) A_ASKED_ALONE [("row",some f10),("total",some f14),("even",none),("swing",none),("every",none)]=true) (hf_ASKED_ALONE:KTD.hashesOf (λb=>K.lookup b) A_ASKED_ALONE=([("row",some f10),("total",some f14),("even",none),("swing",none),("every",none)]:List (Str × Option Addr)).map (λp=>hashStr w p.1))
  (zf_ASKED_OF_A_NUMBER:PySem.W.nsIn K mainGlobals "ASKED_OF_A_NUMBER" = some (some (.ref A_ASKED_OF_A_NUMBER))) (yf_ASKED_OF_A_NUMBER:KTD.tabLook lkF (λb=>K.lookup b) A_ASKED_OF_A_NUMBER [("comes",none),("ways",none),("signs",none),("near",none)]=true) (hf_ASKED_OF_A_NUMBER:KTD.hashesOf (λb=>K.lookup b) A_ASKED_OF_A_NUMBER=([("comes",none),("ways",none),("signs",none),("near",none)]:List (Str × Option Addr)).map (λp=>hashStr w p.1))
  (zs_FIGURES:PySem.W.nsIn K mainGlobals "FIGURES" = some (some (.str "0123456789" t_FIGURES)))
  (gt:PySem.W.specialIn K (.builtin "object.__class__") "__get__" = some (some (.builtin "getset_descriptor.__get__")))
  (tk:PySem.W.takesIn K (.builtin "object.__class__")=some true)
  (n_Bare:PySem.W.nsIn K mainGlobals "Bare" = some (some (.ref C_Bare)))
  (n_Lacking:PySem.W.nsIn K mainGlobals "Lacking" = some (some (.ref C_Lacking)))
  (n_NoLine:PySem.W.nsIn K mainGlobals "NoLine" = some (some (.ref C_NoLine)))
  (n_NoNumber:PySem.W.nsIn K mainGlobals "NoNumber" = some (some (.ref C_NoNumber)))
  (n_NoRow:PySem.W.nsIn K mainGlobals "NoRow" = some (some (.ref C_NoRow)))
  (n_NoSigns:PySem.W.nsIn K mainGlobals "NoSigns" = some (some (.ref C_NoSigns)))
  (n_NoTable:PySem.W.nsIn K mainGlobals "NoTable" = some (some (.ref C_NoTable)))
  (n_NoText:PySem.W.nsIn K mainGlobals "NoText" = some (some (.ref C_NoText)))
  (n_PlusError:PySem.W.nsIn K mainGlobals "PlusError" = some (some (.ref C_PlusError)))
  (n_TooMany:PySem.W.nsIn K mainGlobals "TooMany" = some (some (.ref C_TooMany)))
  (q_Bare:PySem.W.excIn K C_Bare veMro "ValueError.__new__" = true)
  (g1_Bare:PySem.W.findIn K (.ref C_Bare) "__getattribute__" = some (some (.builtin "BaseException.__getattribute__")))
  (g2_Bare:PySem.W.findIn K (.ref C_Bare) "__getattr__" = some none)
  (g3_Bare:PySem.W.findIn K (.ref C_Bare) "__class__" = some (some (.builtin "object.__class__")))
  (m1_Bare:PySem.W.mroIn K C_Bare (.type "BaseException")=some true)
  (m2_Bare:PySem.W.mroIn K C_Bare (.type "object")=some true)
  (cc_Bare:PySem.W.clsIn K C_Bare=some cd_Bare)
  (kv_Bare:PySem.W.kitOne K (.ref C_Bare) (.type "ValueError")=some true)
  (ex_Bare:PySem.W.exmOne K (.ref C_Bare) (.ref C_PlusError)=some true)
  (is_Bare_Bare:PySem.W.kitOne K (.ref C_Bare) (.ref C_Bare)=some true)
  (is_Bare_Lacking:PySem.W.kitOne K (.ref C_Bare) (.ref C_Lacking)=some false)
  (is_Bare_NoLine:PySem.W.kitOne K (.ref C_Bare) (.ref C_NoLine)=some false)
  (is_Bare_NoNumber:PySem.W.kitOne K (.ref C_Bare) (.ref C_NoNumber)=some false)
  (is_Bare_NoRow:PySem.W.kitOne K (.ref C_Bare) (.ref C_NoRow)=some false)
  (is_Bare_NoSigns:PySem.W.kitOne K (.ref C_Bare) (.ref C_NoSigns)=some false)
  (is_Bare_NoTable:PySem.W.kitOne K (.ref C_Bare) (.ref C_NoTable)=some false)
  (is_Bare_NoText:PySem.W.kitOne K (.ref C_Bare) (.ref C_NoText)=some false)
  (is_Bare_PlusError:PySem.W.kitOne K (.ref C_Bare) (.ref C_PlusError)=some true)
  (is_Bare_TooMany:PySem.W.kitOne K (.ref C_Bare) (.ref C_TooMany)=some false)
  (q_NoLine:PySem.W.excIn K C_NoLine veMro "ValueError.__new__" = true)
  (g1_NoLine:PySem.W.findIn K (.ref C_NoLine) "__getattribute__" = some (some (.builtin "BaseException.__getattribute__")))
  (g2_NoLine:PySem.W.findIn K (.ref C_NoLine) "__getattr__" = some none)
  (g3_NoLine:PySem.W.findIn K (.ref C_NoLine) "__class__" = some (some (.builtin "object.__class__")))
  (m1_NoLine:PySem.W.mroIn K C_NoLine (.type "BaseException")=some true)
  (m2_NoLine:PySem.W.mroIn K C_NoLine (.type "object")=some true)
  (cc_NoLine:PySem.W.clsIn K C_NoLine=some cd_NoLine)
  (kv_NoLine:PySem.W.kitOne K (.ref C_NoLine) (.type "ValueError")=some true)
  (ex_NoLine:PySem.W.exmOne K (.ref C_NoLine) (.ref C_PlusError)=some true)
  (is_NoLine_Bare:PySem.W.kitOne K (.ref C_NoLine) (.ref C_Bare)=some false)
  (is_NoLine_Lacking:PySem.W.kitOne K (.ref C_NoLine) (.ref C_Lacking)=some false)
  (is_NoLine_NoLine:PySem.W.kitOne K (.ref C_NoLine) (.ref C_NoLine)=some true)
  (is_NoLine_NoNumber:PySem.W.kitOne K (.ref C_NoLine) (.ref C_NoNumber)=some false)
  (is_NoLine_NoRow:PySem.W.kitOne K (.ref C_NoLine) (.ref C_NoRow)=some false)
  (is_NoLine_NoSigns:PySem.W.kitOne K (.ref C_NoLine) (.ref C_NoSigns)=some false)
  (is_NoLine_NoTable:PySem.W.kitOne K (.ref C_NoLine) (.ref C_NoTable)=some false)
  (is_NoLine_NoText:PySem.W.kitOne K (.ref C_NoLine) (.ref C_NoText)=some false)
  (is_NoLine_PlusError:PySem.W.kitOne K (.ref C_NoLine) (.ref C_PlusError)=some true)
  (is_NoLine_TooMany:PySem.W.kitOne K (.ref C_NoLine) (.ref C_TooMany)=some false)
  (q_NoNumber:PySem.W.excIn K C_NoNumber veMro "ValueError.__new__" = true)
  (g1_NoNumber:PySem.W.findIn K (.ref C_NoNumber) "__getattribute__" = some (some (.builtin "BaseException.__getattribute__")))
  (g2_NoNumber:PySem.W.findIn K (.ref C_NoNumber) "__getattr__" = some none)
  (g3_NoNumber:PySem.W.findIn K (.ref C_NoNumber) "__class__" = some (some (.builtin "object.__class__")))
  (m1_NoNumber:PySem.W.mroIn K C_NoNumber (.type "BaseException")=some true)
  (m2_NoNumber:PySem.W.mroIn K C_NoNumber (.type "object")=some true)
  (cc_NoNumber:PySem.W.clsIn K C_NoNumber=some cd_NoNumber)
  (kv_NoNumber:PySem.W.kitOne K (.ref C_NoNumber) (.type "ValueError")=some true)
  (ex_NoNumber:PySem.W.exmOne K (.ref C_NoNumber) (.ref C_PlusError)=some true)
  (is_NoNumber_Bare:PySem.W.kitOne K (.ref C_NoNumber) (.ref C_Bare)=some false)
  (is_NoNumber_Lacking:PySem.W.kitOne K (.ref C_NoNumber) (.ref C_Lacking)=some false)
  (is_NoNumber_NoLine:PySem.W.kitOne K (.ref C_NoNumber) (.ref C_NoLine)=some false)
  (is_NoNumber_NoNumber:PySem.W.kitOne K (.ref C_NoNumber) (.ref C_NoNumber)=some true)
  (is_NoNumber_NoRow:PySem.W.kitOne K (.ref C_NoNumber) (.ref C_NoRow)=some false)
  (is_NoNumber_NoSigns:PySem.W.kitOne K (.ref C_NoNumber) (.ref C_NoSigns)=some false)
  (is_NoNumber_NoTable:PySem.W.kitOne K (.ref C_NoNumber) (.ref C_NoTable)=some false)
  (is_NoNumber_NoText:PySem.W.kitOne K (.ref C_NoNumber) (.ref C_NoText)=some false)
  (is_NoNumber_PlusError:PySem.W.kitOne K (.ref C_NoNumber) (.ref C_PlusError)=some true)
  (is_NoNumber_TooMany:PySem.W.kitOne K (.ref C_NoNumber) (.ref C_TooMany)=some false)
  (q_NoRow:PySem.W.excIn K C_NoRow veMro "ValueError.__new__" = true)
  (g1_NoRow:PySem.W.findIn K (.ref C_NoRow) "__getattribute__" = some (some (.builtin "BaseException.__getattribute__")))
  (g2_NoRow:PySem.W.findIn K (.ref C_NoRow) "__getattr__" = some none)
  (g3_NoRow:PySem.W.findIn K (.ref C_NoRow) "__class__" = some (some (.builtin "object.__class__")))
  (m1_NoRow:PySem.W.mroIn K C_NoRow (.type "BaseException")=some true)
  (m2_NoRow:PySem.W.mroIn K C_NoRow (.type "object")=some true)
  (cc_NoRow:PySem.W.clsIn K C_NoRow=some cd_NoRow)
  (kv_NoRow:PySem.W.kitOne K (.ref C_NoRow) (.type "ValueError")=some true)
  (ex_NoRow:PySem.W.exmOne K (.ref C_NoRow) (.ref C_PlusError)=some true)
  (is_NoRow_Bare:PySem.W.kitOne K (.ref C_NoRow) (.ref C_Bare)=some false)
  (is_NoRow_Lacking:PySem.W.kitOne K (.ref C_NoRow) (.ref C_Lacking)=some false)
  (is_NoRow_NoLine:PySem.W.kitOne K (.ref C_NoRow) (.ref C_NoLine)=some false)
  (is_NoRow_NoNumber:PySem.W.kitOne K (.ref C_NoRow) (.ref C_NoNumber)=some false)
  (is_NoRow_NoRow:PySem.W.kitOne K (.ref C_NoRow) (.ref C_NoRow)=some true)
  (is_NoRow_NoSigns:PySem.W.kitOne K (.ref C_NoRow) (.ref C_NoSigns)=some false)
  (is_NoRow_NoTable:PySem.W.kitOne K (.ref C_NoRow) (.ref C_NoTable)=some false)
  (is_NoRow_NoText:PySem.W.kitOne K (.ref C_NoRow) (.ref C_NoText)=some false)
  (is_NoRow_PlusError:PySem.W.kitOne K (.ref C_NoRow) (.ref C_PlusError)=some true)
  (is_NoRow_TooMany:PySem.W.kitOne K (.ref C_NoRow) (.ref C_TooMany)=some false)
  (q_TooMany:PySem.W.excIn K C_TooMany veMro "ValueError.__new__" = true)
  (g1_TooMany:PySem.W.findIn K (.ref C_TooMany) "__getattribute__" = some (some (.builtin "BaseException.__getattribute__")))
  (g2_TooMany:PySem.W.findIn K (.ref C_TooMany) "__getattr__" = some none)
  (g3_TooMany:PySem.W.findIn K (.ref C_TooMany) "__class__" = some (some (.builtin "object.__class__")))
  (m1_TooMany:PySem.W.mroIn K C_TooMany (.type "BaseException")=some true)
  (m2_TooMany:PySem.W.mroIn K C_TooMany (.type "object")=some true)
  (cc_TooMany:PySem.W.clsIn K C_TooMany=some cd_TooMany)
  (kv_TooMany:PySem.W.kitOne K (.ref C_TooMany) (.type "ValueError")=some true)
  (ex_TooMany:PySem.W.exmOne K (.ref C_TooMany) (.ref C_PlusError)=some true)
  (is_TooMany_Bare:PySem.W.kitOne K (.ref C_TooMany) (.ref C_Bare)=some false)
  (is_TooMany_Lacking:PySem.W.kitOne K (.ref C_TooMany) (.ref C_Lacking)=some false)
  (is_TooMany_NoLine:PySem.W.kitOne K (.ref C_TooMany) (.ref C_NoLine)=some false)
  (is_TooMany_NoNumber:PySem.W.kitOne K (.ref C_TooMany) (.ref C_NoNumber)=some false)
  (is_TooMany_NoRow:PySem.W.kitOne K (.ref C_TooMany) (.ref C_NoRow)=some false)
  (is_TooMany_NoSigns:PySem.W.kitOne K (.ref C_TooMany) (.ref C_NoSigns)=some false)
  (is_TooMany_NoTable:PySem.W.kitOne K (.ref C_TooMany) (.ref C_NoTable)=some false)
  (is_TooMany_NoText:PySem.W.kitOne K (.ref C_TooMany) (.ref C_NoText)=some false)
  (is_TooMany_PlusError:PySem.W.kitOne K (.ref C_TooMany) (.ref C_PlusError)=some true)
  (is_TooMany_TooMany:PySem.W.kitOne K (.ref C_TooMany) (.ref C_TooMany)=some true):
  ∃ fd:FuncData,(∀ (s:Shared) (v:Value),BindsTo s fd ⟨[v],[]⟩ [("script",v)])/\∀ base:Heap,K.In base->base.Ns mainGlobals mg->FnOk P w K mg base (CX1 P w) 8 fa fd ["script"] (spN K 1 p9):=by
 have e:=hfa.symm.trans (Yb X G a28)
 cases e
 have T:Txt K mg w:=⟨ER gt tk n_Bare n_Lacking n_NoLine n_NoNumber n_NoRow n_NoSigns n_NoTable n_NoText n_PlusError n_TooMany q_Bare g1_Bare g2_Bare g3_Bare m1_Bare m2_Bare cc_Bare kv_Bare ex_Bare is_Bare_Bare is_Bare_Lacking is_Bare_NoLine is_Bare_NoNumber is_Bare_NoRow is_Bare_NoSigns is_Bare_NoTable is_Bare_NoText is_Bare_PlusError is_Bare_TooMany q_NoLine g1_NoLine g2_NoLine g3_NoLine m1_NoLine m2_NoLine cc_NoLine kv_NoLine ex_NoLine is_NoLine_Bare is_NoLine_Lacking is_NoLine_NoLine is_NoLine_NoNumber is_NoLine_NoRow is_NoLine_NoSigns is_NoLine_NoTable is_NoLine_NoText is_NoLine_PlusError is_NoLine_TooMany q_NoNumber g1_NoNumber g2_NoNumber g3_NoNumber m1_NoNumber m2_NoNumber cc_NoNumber kv_NoNumber ex_NoNumber is_NoNumber_Bare is_NoNumber_Lacking is_NoNumber_NoLine is_NoNumber_NoNumber is_NoNumber_NoRow is_NoNumber_NoSigns is_NoNumber_NoTable is_NoNumber_NoText is_NoNumber_PlusError is_NoNumber_TooMany q_NoRow g1_NoRow g2_NoRow g3_NoRow m1_NoRow m2_NoRow cc_NoRow kv_NoRow ex_NoRow is_NoRow_Bare is_NoRow_Lacking is_NoRow_NoLine is_NoRow_NoNumber is_NoRow_NoRow is_NoRow_NoSigns is_NoRow_NoTable is_NoRow_NoText is_NoRow_PlusError is_NoRow_TooMany q_TooMany g1_TooMany g2_TooMany g3_TooMany m1_TooMany m2_TooMany cc_TooMany kv_TooMany ex_TooMany is_TooMany_Bare is_TooMany_Lacking is_TooMany_NoLine is_TooMany_NoNumber is_TooMany_NoRow is_TooMany_NoSigns is_TooMany_NoTable is_TooMany_NoText is_TooMany_PlusError is_TooMany_TooMany,⟨_,Yb X G n_Bare,n_Bare,q_Bare⟩,⟨_,Yb X G n_NoLine,n_NoLine,q_NoLine⟩,⟨_,Yb X G n_NoNumber,n_NoNumber,q_NoNumber⟩,⟨_,Yb X G n_NoRow,n_NoRow,q_NoRow⟩,⟨_,Yb X G n_TooMany,n_TooMany,q_TooMany⟩,⟨_,Yb X G n_Bare,n_Bare⟩,⟨_,Yb X G n_Lacking,n_Lacking⟩,⟨_,Yb X G n_NoLine,n_NoLine⟩,⟨_,Yb X G n_NoNumber,n_NoNumber⟩,⟨_,Yb X G n_NoRow,n_NoRow⟩,⟨_,Yb X G n_NoSigns,n_NoSigns⟩,⟨_,Yb X G n_NoTable,n_NoTable⟩,⟨_,Yb X G n_NoText,n_NoText⟩,⟨_,Yb X G n_PlusError,n_PlusError⟩,⟨_,Yb X G n_TooMany,n_TooMany⟩,ES X G gt tk n_Bare n_Lacking n_NoLine n_NoNumber n_NoRow n_NoSigns n_NoTable n_NoText n_PlusError n_TooMany q_Bare g1_Bare g2_Bare g3_Bare m1_Bare m2_Bare cc_Bare kv_Bare ex_Bare is_Bare_Bare is_Bare_Lacking is_Bare_NoLine is_Bare_NoNumber is_Bare_NoRow is_Bare_NoSigns is_Bare_NoTable is_Bare_NoText is_Bare_PlusError is_Bare_TooMany q_NoLine g1_NoLine g2_NoLine g3_NoLine m1_NoLine m2_NoLine cc_NoLine kv_NoLine ex_NoLine is_NoLine_Bare is_NoLine_Lacking is_NoLine_NoLine is_NoLine_NoNumber is_NoLine_NoRow is_NoLine_NoSigns is_NoLine_NoTable is_NoLine_NoText is_NoLine_PlusError is_NoLine_TooMany q_NoNumber g1_NoNumber g2_NoNumber g3_NoNumber m1_NoNumber m2_NoNumber cc_NoNumber kv_NoNumber ex_NoNumber is_NoNumber_Bare is_NoNumber_Lacking is_NoNumber_NoLine is_NoNumber_NoNumber is_NoNumber_NoRow is_NoNumber_NoSigns is_NoNumber_NoTable is_NoNumber_NoText is_NoNumber_PlusError is_NoNumber_TooMany q_NoRow g1_NoRow g2_NoRow g3_NoRow m1_NoRow m2_NoRow cc_NoRow kv_NoRow ex_NoRow is_NoRow_Bare is_NoRow_Lacking is_NoRow_NoLine is_NoRow_NoNumber is_NoRow_NoRow is_NoRow_NoSigns is_NoRow_NoTable is_NoRow_NoText is_NoRow_PlusError is_NoRow_TooMany q_TooMany g1_TooMany g2_TooMany g3_TooMany m1_TooMany m2_TooMany cc_TooMany kv_TooMany ex_TooMany is_TooMany_Bare is_TooMany_Lacking is_TooMany_NoLine is_TooMany_NoNumber is_TooMany_NoRow is_TooMany_NoSigns is_TooMany_NoTable is_TooMany_NoText is_TooMany_PlusError is_TooMany_TooMany,⟨_,kn_Desk,⟨kg_Desk,kd_Desk,ko_Desk,ks_Desk⟩⟩,⟨_,kn_Keeper,⟨kg_Keeper,kd_Keeper,ko_Keeper,ks_Keeper⟩⟩,⟨_,kn_Desk,kf_Desk_keeper⟩,⟨_,kn_Keeper,kf_Keeper_earlier⟩,⟨_,kn_Keeper,kf_Keeper_numbers⟩,Z1 X G z_ValueError,Z1 X G z_all,Z1 X G z_bool,Z1 X G z_divmod,Z1 X G z_int,Z1 X G z_isinstance,Z1 X G z_len,Z1 X G z_max,Z1 X G z_min,Z1 X G z_range,Z1 X G z_str,Z1 X G z_sum,Z1 X G z_tuple,⟨_,Yb X G z_LONGEST_ROW⟩,⟨_,Yb X G z_MOST_FIGURES⟩,tW X G zt_CHANGED_ALONE yt_CHANGED_ALONE,⟨_,Yb X G zs_FIGURES⟩,pX X G zf_ASKED_ALONE yf_ASKED_ALONE hf_ASKED_ALONE (show (["row","total","even","swing","every"]:List Str).Nodup by decide +kernel) (by simp only [nml_ASKED_ALONE,Yc,Qt,Q7,Option.map_none,Yb X G a10,Yb X G a14]),pX X G zf_ASKED_OF_A_NUMBER yf_ASKED_OF_A_NUMBER hf_ASKED_OF_A_NUMBER (show (["comes","ways","signs","near"]:List Str).Nodup by decide +kernel) (by simp only [nml_ASKED_OF_A_NUMBER,Yc,Qt,Q7,Option.map_none])⟩
 have F0:=aX (st:=bj) l0 c0 k0
 have b0:=F0.binds (ps:=["self"]) λ_ _ _ _ _ _=>us1 λ_=>rfl
 have F1:=aX (st:=bF) l1 c1 k1
 have b1:=F1.binds (ps:=["self"]) λ_ _ _ _ _ _=>us1 λ_=>rfl
 have F2:=aX (st:=bG) l2 c2 k2
 have b2:=F2.binds (ps:=["self"]) λ_ _ _ _ _ _=>us1 λ_=>rfl
 have F3:=aX (st:=bH) l3 c3 k3
 have b3:=F3.binds (ps:=["self","numbers"]) λ_ _ _ _ _ _=>us2 λ_ _=>rfl
 have F4:=aX (st:=dm) l4 c4 k4
 have b4:=F4.binds (ps:=["thing"]) λ_ _ _ _ _ _=>us1 λ_=>rfl
 have F5:=aX (st:=bI) l5 c5 k5
 have b5:=F5.binds (ps:=["thing"]) λ_ _ _ _ _ _=>us1 λ_=>rfl
 have F6:=aX (st:=aT) l6 c6 k6
 have b6:=F6.binds (ps:=["least","thing"]) λ_ _ _ _ _ _=>us2 λ_ _=>rfl
 have F7:=aX (st:=bO) l7 c7 k7
 have b7:=F7.binds (ps:=["self","number"]) λ_ _ _ _ _ _=>us2 λ_ _=>rfl
 have F8:=aX (st:=cy) l8 c8 k8
 have b8:=F8.binds (ps:=["self"]) λ_ _ _ _ _ _=>us1 λ_=>rfl
 have F9:=aX (st:=bJ) l9 c9 k9
 have b9:=F9.binds (ps:=["self"]) λ_ _ _ _ _ _=>us1 λ_=>rfl
 have F10:=aX (st:=dn) l10 c10 k10
 have b10:=F10.binds (ps:=["row"]) λ_ _ _ _ _ _=>us1 λ_=>rfl
 have F11:=aX (st:=eH) l11 c11 k11
 have b11:=F11.binds (ps:=["thing"]) λ_ _ _ _ _ _=>us1 λ_=>rfl
 have F12:=aX (st:=dq) l12 c12 k12
 have b12:=F12.binds (ps:=["thing"]) λ_ _ _ _ _ _=>us1 λ_=>rfl
 have F13:=aX (st:=ft) l13 c13 k13
 have b13:=F13.binds (ps:=["row"]) λ_ _ _ _ _ _=>us1 λ_=>rfl
 have F14:=aX (st:=cz) l14 c14 k14
 have b14:=F14.binds (ps:=["row"]) λ_ _ _ _ _ _=>us1 λ_=>rfl
 have F15:=aX (st:=bz) l15 c15 k15
 have b15:=F15.binds (ps:=["word"]) λ_ _ _ _ _ _=>us1 λ_=>rfl
 have F16:=aX (st:=dI) l16 c16 k16
 have b16:=F16.binds (ps:=["words"]) λ_ _ _ _ _ _=>us1 λ_=>rfl
 have F17:=aX (st:=bp) l17 c17 k17
 have b17:=F17.binds (ps:=["line"]) λ_ _ _ _ _ _=>us1 λ_=>rfl
 have F18:=aX (st:=cA) l18 c18 k18
 have b18:=F18.binds (ps:=["self","line"]) λ_ _ _ _ _ _=>us2 λ_ _=>rfl
 have F19:=aX (st:=cL) l19 c19 k19
 have b19:=F19.binds (ps:=["box","many"]) λ_ _ _ _ _ _=>us2 λ_ _=>rfl
 have F20:=aX (st:=cM) l20 c20 k20
 have b20:=F20.binds (ps:=["box","line"]) λ_ _ _ _ _ _=>us2 λ_ _=>rfl
 have F21:=aX (st:=du) l21 c21 k21
 have b21:=F21.binds (ps:=["script","k"]) λ_ _ _ _ _ _=>us2 λ_ _=>rfl
 have F22:=aX (st:=cb) l22 c22 k22
 have b22:=F22.binds (ps:=["word"]) λ_ _ _ _ _ _=>us1 λ_=>rfl
 have F23:=aX (st:=bP) l23 c23 k23
 have b23:=F23.binds (ps:=["line"]) λ_ _ _ _ _ _=>us1 λ_=>rfl
 have F24:=aX (st:=dv) l24 c24 k24
 have b24:=F24.binds (ps:=["box"]) λ_ _ _ _ _ _=>us1 λ_=>rfl
 have F25:=aX (st:=bQ) l25 c25 k25
 have b25:=F25.binds (ps:=["e"]) λ_ _ _ _ _ _=>us1 λ_=>rfl
 have F26:=aX (st:=cN) l26 c26 k26
 have b26:=F26.binds (ps:=["e","place"]) λ_ _ _ _ _ _=>us2 λ_ _=>rfl
 have F27:=aX (st:=cO) l27 c27 k27
 have b27:=F27.binds (ps:=["desk","line"]) λ_ _ _ _ _ _=>us2 λ_ _=>rfl
 have F28:=aX (st:=gz) l28 c28 k28
 have b28:=F28.binds (ps:=["script"]) λ_ _ _ _ _ _=>us1 λ_=>rfl
 refine ⟨PySem.W.fnOf "law" "law" (defArgs gz) (defBody gz) (defScope gz) .none kV28 dc28 pm28 an28 cd28 ct28,λs v=>.of_eq rfl,λbase _ _=>?_⟩
 have d_Keeper___init__:MakN P w K mg base "Keeper" 1 bT:=ip F0 kn_Keeper (Yb X G kn_Keeper) ⟨mk0,a0,gfn0,kk_Keeper⟩ b0 T
 have d_Desk___init__:MakN P w K mg base "Desk" 3 cu:=je F1 kn_Desk (Yb X G kn_Desk) ⟨mk1,a1,gfn1,kk_Desk⟩ b1 T d_Keeper___init__
 have d_Keeper_back_n:MetN P w K mg base "Keeper" "back" 1 1 dc:=jg F2 kn_Keeper ⟨kg_Keeper,kd_Keeper,ko_Keeper,ks_Keeper⟩ ⟨a2,gfn2,k2⟩ b2 T
 have d_Keeper_change:MetN P w K mg base "Keeper" "change" 1 2 aO:=ji F3 kn_Keeper ⟨kg_Keeper,kd_Keeper,ko_Keeper,ks_Keeper⟩ ⟨a3,gfn3,k3⟩ b3 T
 have d_is_whole:DefN P w K mg base "is_whole" 1 1 bW:=ow F4 (Yb X G a4) b4 T
 have d_need_number_n:DefN P w K mg base "need_number" 2 1 cv:=jk F5 (Yb X G a5) b5 T d_is_whole
 have d_need_number_from_n:DefN P w K mg base "need_number_from" 3 2 br:=fZ F6 (Yb X G a6) b6 T d_need_number_n
 have d_Keeper_put_n:MetN P w K mg base "Keeper" "put" 4 2 bZ:=jL F7 kn_Keeper ⟨kg_Keeper,kd_Keeper,ko_Keeper,ks_Keeper⟩ ⟨a7,gfn7,k7⟩ b7 T d_Keeper_change d_need_number_from_n
 have d_Keeper_row:MetN P w K mg base "Keeper" "row" 1 1 bU:=lh F8 kn_Keeper ⟨kg_Keeper,kd_Keeper,ko_Keeper,ks_Keeper⟩ ⟨a8,gfn8,k8⟩ b8 T
 have d_Keeper_take_n:MetN P w K mg base "Keeper" "take" 2 1 de:=jn F9 kn_Keeper ⟨kg_Keeper,kd_Keeper,ko_Keeper,ks_Keeper⟩ ⟨a9,gfn9,k9⟩ b9 T d_Keeper_change
 have d_row_text:DefR P w K mg base "row_text" 1 1 dh:=oz F10 (Yb X G a10) b10 T
 have d_is_row:DefN P w K mg base "is_row" 2 1 iJ:=rF F11 (Yb X G a11) b11 T d_is_whole
 have d_need_row:DefR P w K mg base "need_row" 3 1 fG:=oB F12 (Yb X G a12) b12 T d_is_row
 have d_total:DefR P w K mg base "total" 4 1 jV:=uV F13 (Yb X G a13) b13 T d_need_row
 have d_total_text:DefR P w K mg base "total_text" 5 1 dD:=ll F14 (Yb X G a14) b14 T d_total
 have d_is_number_word:DefN P w K mg base "is_number_word" 1 1 bo:=iO F15 (Yb X G a15) b15 T
 have d_is_line:DefN P w K mg base "is_line" 2 1 dt:=pq F16 (Yb X G a16) b16 T d_is_number_word
 have d_words_of_line_n:DefN P w K mg base "words_of_line" 3 1 bV:=iq F17 (Yb X G a17) b17 T d_is_line
 have d_Desk_say_n:MetN P w K mg base "Desk" "say" 6 2 cK:=lp F18 kn_Desk ⟨kg_Desk,kd_Desk,ko_Desk,ks_Desk⟩ ⟨a18,gfn18,k18⟩ b18 T d_Keeper_back_n d_Keeper_put_n d_Keeper_row d_Keeper_take_n d_row_text d_total_text d_words_of_line_n
 have d__law_take:DefN P w K mg base "_law_take" 1 2 aF:=m4 F19 (Yb X G a19) b19 T
 have d__law_bent:DefN P w K mg base "_law_bent" 2 2 cG:=m5 F20 (Yb X G a20) b20 T d__law_take
 have d__law_box:DefN P w K mg base "_law_box" 1 2 di:=oC F21 (Yb X G a21) b21 T
 have d__law_number:DefN P w K mg base "_law_number" 1 1 cY:=kM F22 (Yb X G a22) b22 T
 have d__law_is_line:DefN P w K mg base "_law_is_line" 2 1 bL:=jM F23 (Yb X G a23) b23 T d__law_number
 have d__law_odd:DefN P w K mg base "_law_odd" 2 1 dJ:=oE F24 (Yb X G a24) b24 T d__law_take
 have d_Keeper_back:MetR P w K mg base "Keeper" "back" 1 1 dN:=kO F2 kn_Keeper ⟨kg_Keeper,kd_Keeper,ko_Keeper,ks_Keeper⟩ ⟨a2,gfn2,k2⟩ b2 T
 have d_need_number:DefR P w K mg base "need_number" 2 1 dO:=kQ F5 (Yb X G a5) b5 T d_is_whole
 have d_need_number_from:DefR P w K mg base "need_number_from" 3 2 cj:=gP F6 (Yb X G a6) b6 T d_need_number
 have d_Keeper_put:MetR P w K mg base "Keeper" "put" 4 2 eD:=lr F7 kn_Keeper ⟨kg_Keeper,kd_Keeper,ko_Keeper,ks_Keeper⟩ ⟨a7,gfn7,k7⟩ b7 T d_Keeper_change d_need_number_from
 have d_Keeper_take:MetR P w K mg base "Keeper" "take" 2 1 dP:=kS F9 kn_Keeper ⟨kg_Keeper,kd_Keeper,ko_Keeper,ks_Keeper⟩ ⟨a9,gfn9,k9⟩ b9 T d_Keeper_change
 have d_words_of_line:DefR P w K mg base "words_of_line" 3 1 aV:=jo F17 (Yb X G a17) b17 T d_is_line
 have d_Desk_say:MetR P w K mg base "Desk" "say" 6 2 cH:=oF F18 kn_Desk ⟨kg_Desk,kd_Desk,ko_Desk,ks_Desk⟩ ⟨a18,gfn18,k18⟩ b18 T d_Keeper_back d_Keeper_put d_Keeper_row d_Keeper_take d_row_text d_total_text d_words_of_line
 have d__law_classes:DefM P w K mg base "_law_classes" 1 1 dE:=jN F25 (Yb X G a25) b25 T
 have d__law_only:DefM P w K mg base "_law_only" 2 2 dZ:=m8 F26 (Yb X G a26) b26 T d__law_classes
 have d__law_said:DefN P w K mg base "_law_said" 7 2 cf:=m9 F27 (Yb X G a27) b27 T d_Desk_say d__law_only
 exact y9 ["script","k","box","row","desk","number","text","some","lap","line"] ["script"] 7 8 1 10 rfl rfl rfl (m:=Ab) F28 eT λcdv A outer s H E hr=>(ao (mE Wl rfl (eF Y1 T.b_range (ae (aB (D6 rfl) Y1 T.b_max zR (ae aq (ae (aB (D7 rfl) Y1 T.b_min zS (ae (aB cW Y1 T.b_len bX (ae (vL 0) ai)) (ae aq ai))) ai))) ai)) (cB eT.nd Y0 Y2) (ao (aZ eT.nd Y0 (Or.inr Y0) (bD d__law_box (hr.mono (by decide)) Y1 (ae (vL 0) (ae (vL 1) ai)) (ak (ak ay)))) (ao (zk (i0:=3) (N:=["one","box"]) (k:=1) (caps:=[2]) eT.nd Y0 Y2 rfl (λ_ _ z=>z) (jw Y0 Y0 Y0 Y0 rfl Y0) (eF Y1 T.b_range (ae (bD d__law_take (hr.mono (by decide)) Y1 (ae (vC 2) (ae aq ai)) (ak (ak ay))) ai)) (λ_ _ _ _=>(cB (show (["one","box"]:List Str).Nodup by decide +kernel) Y0 Y2)) (λ_ _ _ _=>gH) (λ_ _ _ _=>(aY bK aq (bD d__law_take (hr.mono (by decide)) Y1 (ae (vC 1) (ae aq ai)) (ak (ak ay)))))) (ao (aZ eT.nd Y0 Y2 (tL d_Desk___init__ (hr.mono (by decide)) Y1)) (ao (mE Wl rfl (mF (vL 3)) (cB eT.nd Y0 Y2) (au (fC (gI d_Desk_say_n (hr.mono (by decide)) (vL 4) (ae (aY bK aw (bf fe Y1 T.b_str cQ (ae (vL 5) ai))) ai) (ak ay))))) (ao (aZ eT.nd Y0 Y2 (Et (eO Yx Q8 Q9 iG aw (ae (iB (N:=["number"]) (k:=1) (caps:=[]) rfl (λ_ _ z=>z) (jw Y0 Y0 Y0 Y0 rfl Y0) (mF (vL 3)) (λ_ _ _ _=>(cB (show (["number"]:List Str).Nodup by decide +kernel) Y0 Y2)) (λ_ _ _ _=>gH) (λ_ _ _ _=>(bf fe Y1 T.b_str cQ (ae (vL 0) ai)))) ai)) aw)) (ao (aZ eT.nd Y0 Y2 (cU (ae aw (ae aw (ae aw (ae aw (ae aw (ae aw (ae aw (ae aw (ae aw (ae aw ai)))))))))))) (au (mE Wl rfl (eF Y1 T.b_range (ae aq ai)) (cB eT.nd Y0 Y2) (ao (aZ eT.nd Y0 Y2 (bD d__law_bent (hr.mono (by decide)) Y1 (ae (vC 2) (ae (bS bR (vL 7) (bD d__law_take (hr.mono (by decide)) Y1 (ae (vC 2) (ae aq ai)) (ak (ak ay)))) ai)) (ak (ak ay)))) (ao (aR (aN (bA hr) (aY iX (vL 8) aq) aq) (au (aZ eT.nd Y0 Y2 (bD d__law_odd (hr.mono (by decide)) Y1 (ae (vC 2) ai) (ak ay)))) aI) (au (aR (dy (cT (bD d__law_is_line (hr.mono (by decide)) Y1 (ae (vL 9) ai) (ak ay)))) (au (aR (j7 (lJ (aN (gk hr) (bD d__law_said (hr.mono (by decide)) Y1 (ae (vL 4) (ae (vL 9) ai)) (ak (ak ay))) (cU (ae aq ai))) (iV (aN (gk hr) (bD d__law_said (hr.mono (by decide)) Y1 (ae (vL 4) (ae aw ai)) (ak (ak ay))) (vL 6))))) (au (aD gc)) aI)) aI))))))))))))) (au (aD gc)))
theorem walk {l:PySem.W.OpenLaw} {q:Program} {loose:List Str} {XP:(Str->Option Value)->Heap->Prop} {YP:World->Heap->Prop} {d:DefRec} {K:Params->PySem.W.Frag} (hn:l.most=some 63) (hdf:d.params.defaults=[])
  (hY:∀ (w:World) (h:Heap),YP w h->(K w.params).In h)
  (F:∀ (w:World) (mg:Str->Option Value) (fa:Addr) (h:Heap),(K w.params).In h->h.Ns mainGlobals mg->mg d.name=some (.ref fa)->
   ∃ fd:FuncData,(∀ (s:Shared) (u:Value),BindsTo s fd ⟨[u],[]⟩ [("script",u)])/\∀ base:Heap,(K w.params).In base->base.Ns mainGlobals mg->FnOk l.prog w (K w.params) mg base (CX1 l.prog w) 8 fa fd ["script"] (spN (K w.params) 1 p9)):
  PySem.W.WalkO q loose XP YP l.row.toRowW d [] (λf vs=>PySem.call f vs):=
 L2.yL (n:=63) (k:=8) (x:="script") (CX:=λw=>CX1 l.prog w) (sp:=λw=>spN (K w.params) 1 p9) hn (by decide) hdf ⟨rfl,by decide,by decide,rfl⟩ hY F (λw H a ns hl ho hS=>ze uQ (K w.params) H a ns hl ho hS) λ_ _ _ _ _ z=>El z
end Lw
open PySem PySem.W PyProof.Rows
set_option maxRecDepth 100000 in
set_option maxHeartbeats 0 in
theorem PySem.Challenge.cw_plusless_k83_no_lines_holds : PySem.Challenge.rw_plusless_k83_no_lines.Holds := by
  w_on; o_law
  refine holds_open (q := Lw.hV) (loose := ["MARK_OF","ASKED_ALONE","ASKED_OF_A_NUMBER"]) (Xt := Lw.hX) (XP := XL Lw.hV []) (Yf := Hook.obs (kHook Lw.hK Lw.hA Lw.hKA)) (Ya := Hook.val (kHook Lw.hK Lw.hA Lw.hKA)) (YP := Hook.says (kHook Lw.hK Lw.hA Lw.hKA)) (N := 12700) Lw.left (Hook.of (kHook Lw.hK Lw.hA Lw.hKA)) (Hook.keeps (kHook Lw.hK Lw.hA Lw.hKA)) (λs e => xl_of s (Bool.and_eq_true_iff.mp e).1) XL.keeps (by rfl) (by rfl) (by rfl) (λs e => recFacts_of (Bool.and_eq_true_iff.mp e).2) (by rfl) (by first | assumption | decide +kernel) (by decide +kernel) ⟨rfl, rfl, rfl, rfl, rfl, by decide +kernel⟩ ?hw ?hc
  case hw => w_witness2
  k_fill
  refine Lw.walk (l := PySem.Challenge.rw_plusless_k83_no_lines) rfl rfl (λw h Y => by first | exact PySem.W.kIn_of Y | exact Y.1) ?F
  case F =>
    intro w mg fa h KX G hmg
    refine' Lw.all_mk KX G hmg ?kn_Desk ?kg_Desk ?kd_Desk ?ko_Desk ?ks_Desk ?kk_Desk ?kn_Keeper ?kg_Keeper ?kd_Keeper ?ko_Keeper ?ks_Keeper ?kk_Keeper ?kf_Desk_keeper ?kf_Keeper_earlier ?kf_Keeper_numbers ?a0 ?gfn0 ?mk0 ?l0 ?c0 ?k0 ?a1 ?gfn1 ?mk1 ?l1 ?c1 ?k1 ?a2 ?gfn2 ?l2 ?c2 ?k2 ?a3 ?gfn3 ?l3 ?c3 ?k3 ?a4 ?l4 ?c4 ?k4 ?a5 ?l5 ?c5 ?k5 ?a6 ?l6 ?c6 ?k6 ?a7 ?gfn7 ?l7 ?c7 ?k7 ?a8 ?gfn8 ?l8 ?c8 ?k8 ?a9 ?gfn9 ?l9 ?c9 ?k9 ?a10 ?l10 ?c10 ?k10 ?a11 ?l11 ?c11 ?k11 ?a12 ?l12 ?c12 ?k12 ?a13 ?l13 ?c13 ?k13 ?a14 ?l14 ?c14 ?k14 ?a15 ?l15 ?c15 ?k15 ?a16 ?l16 ?c16 ?k16 ?a17 ?l17 ?c17 ?k17 ?a18 ?gfn18 ?l18 ?c18 ?k18 ?a19 ?l19 ?c19 ?k19 ?a20 ?l20 ?c20 ?k20 ?a21 ?l21 ?c21 ?k21 ?a22 ?l22 ?c22 ?k22 ?a23 ?l23 ?c23 ?k23 ?a24 ?l24 ?c24 ?k24 ?a25 ?l25 ?c25 ?k25 ?a26 ?l26 ?c26 ?k26 ?a27 ?l27 ?c27 ?k27 ?a28 ?l28 ?c28 ?k28 ?z_ValueError ?z_all ?z_bool ?z_divmod ?z_int ?z_isinstance ?z_len ?z_max ?z_min ?z_range ?z_str ?z_sum ?z_tuple ?z_LONGEST_ROW ?z_MOST_FIGURES ?zt_CHANGED_ALONE ?yt_CHANGED_ALONE ?zf_ASKED_ALONE ?yf_ASKED_ALONE ?hf_ASKED_ALONE ?zf_ASKED_OF_A_NUMBER ?yf_ASKED_OF_A_NUMBER ?hf_ASKED_OF_A_NUMBER ?zs_FIGURES ?gt ?tk ?n_Bare ?n_Lacking ?n_NoLine ?n_NoNumber ?n_NoRow ?n_NoSigns ?n_NoTable ?n_NoText ?n_PlusError ?n_TooMany ?q_Bare ?g1_Bare ?g2_Bare ?g3_Bare ?m1_Bare ?m2_Bare ?cc_Bare ?kv_Bare ?ex_Bare ?is_Bare_Bare ?is_Bare_Lacking ?is_Bare_NoLine ?is_Bare_NoNumber ?is_Bare_NoRow ?is_Bare_NoSigns ?is_Bare_NoTable ?is_Bare_NoText ?is_Bare_PlusError ?is_Bare_TooMany ?q_NoLine ?g1_NoLine ?g2_NoLine ?g3_NoLine ?m1_NoLine ?m2_NoLine ?cc_NoLine ?kv_NoLine ?ex_NoLine ?is_NoLine_Bare ?is_NoLine_Lacking ?is_NoLine_NoLine ?is_NoLine_NoNumber ?is_NoLine_NoRow ?is_NoLine_NoSigns ?is_NoLine_NoTable ?is_NoLine_NoText ?is_NoLine_PlusError ?is_NoLine_TooMany ?q_NoNumber ?g1_NoNumber ?g2_NoNumber ?g3_NoNumber ?m1_NoNumber ?m2_NoNumber ?cc_NoNumber ?kv_NoNumber ?ex_NoNumber ?is_NoNumber_Bare ?is_NoNumber_Lacking ?is_NoNumber_NoLine ?is_NoNumber_NoNumber ?is_NoNumber_NoRow ?is_NoNumber_NoSigns ?is_NoNumber_NoTable ?is_NoNumber_NoText ?is_NoNumber_PlusError ?is_NoNumber_TooMany ?q_NoRow ?g1_NoRow ?g2_NoRow ?g3_NoRow ?m1_NoRow ?m2_NoRow ?cc_NoRow ?kv_NoRow ?ex_NoRow ?is_NoRow_Bare ?is_NoRow_Lacking ?is_NoRow_NoLine ?is_NoRow_NoNumber ?is_NoRow_NoRow ?is_NoRow_NoSigns ?is_NoRow_NoTable ?is_NoRow_NoText ?is_NoRow_PlusError ?is_NoRow_TooMany ?q_TooMany ?g1_TooMany ?g2_TooMany ?g3_TooMany ?m1_TooMany ?m2_TooMany ?cc_TooMany ?kv_TooMany ?ex_TooMany ?is_TooMany_Bare ?is_TooMany_Lacking ?is_TooMany_NoLine ?is_TooMany_NoNumber ?is_TooMany_NoRow ?is_TooMany_NoSigns ?is_TooMany_NoTable ?is_TooMany_NoText ?is_TooMany_PlusError ?is_TooMany_TooMany
    (case kn_Desk => k_is)
    (case kg_Desk => k_is)
    (case kd_Desk => k_is)
    (case ko_Desk => k_is)
    (case ks_Desk => k_is)
    (case kk_Desk => k_is)
    (case kn_Keeper => k_is)
    (case kg_Keeper => k_is)
    (case kd_Keeper => k_is)
    (case ko_Keeper => k_is)
    (case ks_Keeper => k_is)
    (case kk_Keeper => k_is)
    (case kf_Desk_keeper => k_is)
    (case kf_Keeper_earlier => k_is)
    (case kf_Keeper_numbers => k_is)
    (case a0 => k_is)
    (case gfn0 => k_is)
    (case mk0 => k_is)
    (case l0 => k_is)
    (case c0 => k_is)
    (case k0 => k_is)
    (case a1 => k_is)
    (case gfn1 => k_is)
    (case mk1 => k_is)
    (case l1 => k_is)
    (case c1 => k_is)
    (case k1 => k_is)
    (case a2 => k_is)
    (case gfn2 => k_is)
    (case l2 => k_is)
    (case c2 => k_is)
    (case k2 => k_is)
    (case a3 => k_is)
    (case gfn3 => k_is)
    (case l3 => k_is)
    (case c3 => k_is)
    (case k3 => k_is)
    (case a4 => k_is)
    (case l4 => k_is)
    (case c4 => k_is)
    (case k4 => k_is)
    (case a5 => k_is)
    (case l5 => k_is)
    (case c5 => k_is)
    (case k5 => k_is)
    (case a6 => k_is)
    (case l6 => k_is)
    (case c6 => k_is)
    (case k6 => k_is)
    (case a7 => k_is)
    (case gfn7 => k_is)
    (case l7 => k_is)
    (case c7 => k_is)
    (case k7 => k_is)
    (case a8 => k_is)
    (case gfn8 => k_is)
    (case l8 => k_is)
    (case c8 => k_is)
    (case k8 => k_is)
    (case a9 => k_is)
    (case gfn9 => k_is)
    (case l9 => k_is)
    (case c9 => k_is)
    (case k9 => k_is)
    (case a10 => k_is)
    (case l10 => k_is)
    (case c10 => k_is)
    (case k10 => k_is)
    (case a11 => k_is)
    (case l11 => k_is)
    (case c11 => k_is)
    (case k11 => k_is)
    (case a12 => k_is)
    (case l12 => k_is)
    (case c12 => k_is)
    (case k12 => k_is)
    (case a13 => k_is)
    (case l13 => k_is)
    (case c13 => k_is)
    (case k13 => k_is)
    (case a14 => k_is)
    (case l14 => k_is)
    (case c14 => k_is)
    (case k14 => k_is)
    (case a15 => k_is)
    (case l15 => k_is)
    (case c15 => k_is)
    (case k15 => k_is)
    (case a16 => k_is)
    (case l16 => k_is)
    (case c16 => k_is)
    (case k16 => k_is)
    (case a17 => k_is)
    (case l17 => k_is)
    (case c17 => k_is)
    (case k17 => k_is)
    (case a18 => k_is)
    (case gfn18 => k_is)
    (case l18 => k_is)
    (case c18 => k_is)
    (case k18 => k_is)
    (case a19 => k_is)
    (case l19 => k_is)
    (case c19 => k_is)
    (case k19 => k_is)
    (case a20 => k_is)
    (case l20 => k_is)
    (case c20 => k_is)
    (case k20 => k_is)
    (case a21 => k_is)
    (case l21 => k_is)
    (case c21 => k_is)
    (case k21 => k_is)
    (case a22 => k_is)
    (case l22 => k_is)
    (case c22 => k_is)
    (case k22 => k_is)
    (case a23 => k_is)
    (case l23 => k_is)
    (case c23 => k_is)
    (case k23 => k_is)
    (case a24 => k_is)
    (case l24 => k_is)
    (case c24 => k_is)
    (case k24 => k_is)
    (case a25 => k_is)
    (case l25 => k_is)
    (case c25 => k_is)
    (case k25 => k_is)
    (case a26 => k_is)
    (case l26 => k_is)
    (case c26 => k_is)
    (case k26 => k_is)
    (case a27 => k_is)
    (case l27 => k_is)
    (case c27 => k_is)
    (case k27 => k_is)
    (case a28 => k_is)
    (case l28 => k_is)
    (case c28 => k_is)
    (case k28 => k_is)
    (case z_ValueError => k_is)
    (case z_all => k_is)
    (case z_bool => k_is)
    (case z_divmod => k_is)
    (case z_int => k_is)
    (case z_isinstance => k_is)
    (case z_len => k_is)
    (case z_max => k_is)
    (case z_min => k_is)
    (case z_range => k_is)
    (case z_str => k_is)
    (case z_sum => k_is)
    (case z_tuple => k_is)
    (case z_LONGEST_ROW => k_is)
    (case z_MOST_FIGURES => k_is)
    (case zt_CHANGED_ALONE => k_is)
    (case yt_CHANGED_ALONE => k_is)
    (case zf_ASKED_ALONE => exact (by kernel_rfl : PySem.W.nsIn (Lw.hK w.params) mainGlobals "ASKED_ALONE" = some (some (.ref 488))))
    (case yf_ASKED_ALONE => kernel_rfl)
    (case hf_ASKED_ALONE => kernel_rfl)
    (case zf_ASKED_OF_A_NUMBER => exact (by kernel_rfl : PySem.W.nsIn (Lw.hK w.params) mainGlobals "ASKED_OF_A_NUMBER" = some (some (.ref 489))))
    (case yf_ASKED_OF_A_NUMBER => kernel_rfl)
    (case hf_ASKED_OF_A_NUMBER => kernel_rfl)
    (case zs_FIGURES => k_is)
    (case gt => k_is)
    (case tk => k_is)
    (case n_Bare => k_is)
    (case n_Lacking => k_is)
    (case n_NoLine => k_is)
    (case n_NoNumber => k_is)
    (case n_NoRow => k_is)
    (case n_NoSigns => k_is)
    (case n_NoTable => k_is)
    (case n_NoText => k_is)
    (case n_PlusError => k_is)
    (case n_TooMany => k_is)
    (case q_Bare => k_exc)
    (case g1_Bare => k_is)
    (case g2_Bare => k_is)
    (case g3_Bare => k_is)
    (case m1_Bare => k_is)
    (case m2_Bare => k_is)
    (case cc_Bare => k_is)
    (case kv_Bare => kit_is)
    (case ex_Bare => kts_exm)
    (case is_Bare_Bare => kit_is)
    (case is_Bare_Lacking => kit_is)
    (case is_Bare_NoLine => kit_is)
    (case is_Bare_NoNumber => kit_is)
    (case is_Bare_NoRow => kit_is)
    (case is_Bare_NoSigns => kit_is)
    (case is_Bare_NoTable => kit_is)
    (case is_Bare_NoText => kit_is)
    (case is_Bare_PlusError => kit_is)
    (case is_Bare_TooMany => kit_is)
    (case q_NoLine => k_exc)
    (case g1_NoLine => k_is)
    (case g2_NoLine => k_is)
    (case g3_NoLine => k_is)
    (case m1_NoLine => k_is)
    (case m2_NoLine => k_is)
    (case cc_NoLine => k_is)
    (case kv_NoLine => kit_is)
    (case ex_NoLine => kts_exm)
    (case is_NoLine_Bare => kit_is)
    (case is_NoLine_Lacking => kit_is)
    (case is_NoLine_NoLine => kit_is)
    (case is_NoLine_NoNumber => kit_is)
    (case is_NoLine_NoRow => kit_is)
    (case is_NoLine_NoSigns => kit_is)
    (case is_NoLine_NoTable => kit_is)
    (case is_NoLine_NoText => kit_is)
    (case is_NoLine_PlusError => kit_is)
    (case is_NoLine_TooMany => kit_is)
    (case q_NoNumber => k_exc)
    (case g1_NoNumber => k_is)
    (case g2_NoNumber => k_is)
    (case g3_NoNumber => k_is)
    (case m1_NoNumber => k_is)
    (case m2_NoNumber => k_is)
    (case cc_NoNumber => k_is)
    (case kv_NoNumber => kit_is)
    (case ex_NoNumber => kts_exm)
    (case is_NoNumber_Bare => kit_is)
    (case is_NoNumber_Lacking => kit_is)
    (case is_NoNumber_NoLine => kit_is)
    (case is_NoNumber_NoNumber => kit_is)
    (case is_NoNumber_NoRow => kit_is)
    (case is_NoNumber_NoSigns => kit_is)
    (case is_NoNumber_NoTable => kit_is)
    (case is_NoNumber_NoText => kit_is)
    (case is_NoNumber_PlusError => kit_is)
    (case is_NoNumber_TooMany => kit_is)
    (case q_NoRow => k_exc)
    (case g1_NoRow => k_is)
    (case g2_NoRow => k_is)
    (case g3_NoRow => k_is)
    (case m1_NoRow => k_is)
    (case m2_NoRow => k_is)
    (case cc_NoRow => k_is)
    (case kv_NoRow => kit_is)
    (case ex_NoRow => kts_exm)
    (case is_NoRow_Bare => kit_is)
    (case is_NoRow_Lacking => kit_is)
    (case is_NoRow_NoLine => kit_is)
    (case is_NoRow_NoNumber => kit_is)
    (case is_NoRow_NoRow => kit_is)
    (case is_NoRow_NoSigns => kit_is)
    (case is_NoRow_NoTable => kit_is)
    (case is_NoRow_NoText => kit_is)
    (case is_NoRow_PlusError => kit_is)
    (case is_NoRow_TooMany => kit_is)
    (case q_TooMany => k_exc)
    (case g1_TooMany => k_is)
    (case g2_TooMany => k_is)
    (case g3_TooMany => k_is)
    (case m1_TooMany => k_is)
    (case m2_TooMany => k_is)
    (case cc_TooMany => k_is)
    (case kv_TooMany => kit_is)
    (case ex_TooMany => kts_exm)
    (case is_TooMany_Bare => kit_is)
    (case is_TooMany_Lacking => kit_is)
    (case is_TooMany_NoLine => kit_is)
    (case is_TooMany_NoNumber => kit_is)
    (case is_TooMany_NoRow => kit_is)
    (case is_TooMany_NoSigns => kit_is)
    (case is_TooMany_NoTable => kit_is)
    (case is_TooMany_NoText => kit_is)
    (case is_TooMany_PlusError => kit_is)
    (case is_TooMany_TooMany => kit_is)
