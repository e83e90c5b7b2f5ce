import PyProof.Rows.All
import Wide.All
import OpenK.AllK
import Wide.FinOn
import PyProof.EqAt
import PyProof.EqKinds
import PyProof.TupleCall
import PyProof.ZipIter
import PyProof.EnumMake
import PyProof.Draws
import PyProof.LayNew
import PyProof.Rows.SortShell
import PyProof.IsRules
import PyProof.ListIndex
import PyProof.Cells
import PyProof.CompUse
import PyProof.DictItems
import PyProof.DictItemsLoops
import PyProof.Rows.MinMaxN
import PyProof.Rows.Range3
import KE.KRevIter
import PyProof.DictWalks
import PyProof.NeKinds
import PyProof.DictList
import PyProof.DictUpdate
import PyProof.Rows.Tup
import PyProof.FactsAll.tuple_2
import PyProof.Rows.CallKwBuiltin
import KE.KDictSum
import Lean
import PySem.Challenge.RW_plusless_k51_swings
set_option Elab.async false
set_option linter.all false
set_option maxRecDepth 100000
namespace Lw
open PySem
noncomputable def top (i:Nat):Stmt:=PySem.Challenge.pw_plusless_k51_swings.main.body.getD i (.Pass ⟨0,0,0,0⟩)
noncomputable def hdI (s:Stmt) (j:Nat):Stmt:=match s with
  | .ClassDef _ _ _ body _ _ _ _ _ _ _ => body.getD j (.Pass ⟨0, 0, 0, 0⟩)
  | _ => .Pass ⟨0, 0, 0, 0⟩
noncomputable def hdA (s:Stmt):Arguments:=match s with
  | .FunctionDef _ a _ _ _ _ _ _ _ _ => a
  | _ => {posonlyargs:=[],args:=[],vararg:=none,kwonlyargs:=[],kw_defaults:=[],kwarg:=none,defaults:=[]}
noncomputable def hdB (s:Stmt):List Stmt:=match s with
  | .FunctionDef _ _ b _ _ _ _ _ _ _ => b
  | _ => []
noncomputable def hdS (s:Stmt):Scope:=match s with
  | .FunctionDef _ _ _ _ _ _ sc _ _ _ => sc
  | _ => {kind:=.function,names:=[],isGenerator:=false,isCoroutine:=false}
noncomputable def hEQ (P:Params) (n:Str) (t:Tok) (v:Value):DictEntry:={hash:=PyData.keyHash P n,key:=.str n t,val:=v}
noncomputable def hFQ (n:Str) (i:Nat) (m:Str) (t:Tok) (c:Addr):Obj:={cls:=.type "function",data:=.func {name:=n,qualname:=n,params:=hdA (top i),body:=.stmts (hdB (top i)),scope:=hdS (top i),globals:=3,closure:=[],defaults:=.none,kwdefaults:=.none,pyModule:=.str m t,code:=.ref c}}
noncomputable def hCQ (n:Str) (t0 t1 t2:Tok) (a b c d e:Int) (r0:Value) (f:Int) (r1 r2 r3 r4 r5:Value) (g h:Int) (t3:Tok):Obj:={cls:=.type "code",data:=.fields #[.str n t0,.str n t1,.str "/claim/cut.py" t2,.int a 0,.int b 0,.int c 0,.int d 0,.int e 0,r0,.bool true,.int f 0,r1,r2,r3,r4,r5,.int g 0,.int h 0,.str "/claim/cut.py" t3]}
noncomputable def hMQ (n q:Str) (i j:Nat) (m:Str) (t:Tok) (c:Addr):Obj:={cls:=.type "function",data:=.func {name:=n,qualname:=q,params:=hdA (hdI (top i) j),body:=.stmts (hdB (hdI (top i) j)),scope:=hdS (hdI (top i) j),globals:=3,closure:=[],defaults:=.none,kwdefaults:=.none,pyModule:=.str m t,code:=.ref c}}
noncomputable def hC2 (q n:Str) (t0 t1 t2:Tok) (a b c d e:Int) (r0:Value) (f:Int) (r1 r2 r3 r4 r5:Value) (g h:Int) (t3:Tok):Obj:={cls:=.type "code",data:=.fields #[.str n t0,.str q t1,.str "/claim/cut.py" t2,.int a 0,.int b 0,.int c 0,.int d 0,.int e 0,r0,.bool true,.int f 0,r1,r2,r3,r4,r5,.int g 0,.int h 0,.str "/claim/cut.py" t3]}
noncomputable def hGQ (n:Str) (i:Nat):Obj:={cls:=.none,data:=.func {name:=n,qualname:=n,params:=hdA (top i),body:=.stmts (hdB (top i)),scope:=hdS (top i),globals:=0,closure:=[],defaults:=.none,kwdefaults:=.none}}
noncomputable def hG2 (n q:Str) (i j:Nat):Obj:={cls:=.none,data:=.func {name:=n,qualname:=q,params:=hdA (hdI (top i) j),body:=.stmts (hdB (hdI (top i) j)),scope:=hdS (hdI (top i) j),globals:=0,closure:=[],defaults:=.none,kwdefaults:=.none}}
noncomputable def hq0:Obj:={cls:=.type "tuple",data:=.seq #[]}
noncomputable def hq1:Obj:={cls:=.none,data:=.fields #[]}
noncomputable def hq2 (x1 x2 x3:Nat) (y0:Str):Obj:={cls:=.type "code",data:=.fields #[.str y0 x1,.str y0 (x1+1),.str "/claim/cut.py" (x1+2),.int (.ofNat x2) 0,.int 0 0,.int 0 0,.int 0 0,.int 0 0,.ref x3,.bool false,.int 181 0,.ref (x3+1),.none,.none,.none,.none,.int (.ofNat (x1+3)) 0,.int (.ofNat x2) 0,.str "/claim/cut.py" (x1+4)]}
noncomputable def hq3 (x0 x1 x3:Nat) (y2:Str):Obj:={cls:=.type "frame",slots:=#[some (.ref x0),some (.ref 3),some (.ref x1),none,some (.str y2 x3),none,some (.ref 0)]}
noncomputable def hq4:Obj:={cls:=.type "builtin_function_or_method",data:=.fields #[.builtin "type.__prepare__",.type "type"]}
noncomputable def hq5 (P:Params) (x0 x2 x3:Nat) (y1:Str):Obj:={cls:=.type "dict",data:=.dict #[hEQ P "__module__" x0 (.str "plusless.errors" 187),hEQ P "__qualname__" (x0+2) (.str y1 (x0+1)),hEQ P "__firstlineno__" (x0+4) (.int (.ofNat x2) (x0+3)),hEQ P "__static_attributes__" (x0+5) (.ref x3)] 4}
noncomputable def hq6 (P:Params):Obj:={cls:=.type "dict",data:=.dict #[hEQ P "__module__" 196 (.str "plusless.errors" 187),hEQ P "__firstlineno__" 200 (.int 2 199),hEQ P "__static_attributes__" 201 (.ref 22),hEQ P "__weakref__" 203 (.ref 25),hEQ P "__doc__" 204 .none] 3}
noncomputable def hq7 (x0:Nat):Obj:={cls:=.type "super",data:=.fields #[.ref x0,.ref x0,.ref x0]}
noncomputable def hq8 (x0:Nat):Obj:={cls:=.type "builtin_function_or_method",data:=.fields #[.builtin "object.__init_subclass__",.ref x0]}
noncomputable def hq9:Obj:={cls:=.type "tuple",data:=.seq #[.ref 24]}
noncomputable def hq10 (P:Params) (x0 x1 x2:Nat):Obj:={cls:=.type "dict",data:=.dict #[hEQ P "__module__" x0 (.str "plusless.errors" 187),hEQ P "__firstlineno__" (x0+4) (.int (.ofNat x1) (x0+3)),hEQ P "__static_attributes__" (x0+5) (.ref x2),hEQ P "__doc__" (x0+6) .none] 2}
noncomputable def hq11 (x1 x2 x3:Nat) (y0:Str):Obj:={cls:=.type "type",data:=.cls {name:=y0,bases:=[.ref 24],mro:=[.ref (x1+1),.ref 24,.type "ValueError",.type "Exception",.type "BaseException",.type "object"],ns:=x1,qualname:=y0},slots:=#[some (.ref x2),none,some (.str y0 x3),some (.str y0 (x3+8)),some (.builtin "ValueError.__new__"),some (.bool true)]}
noncomputable def hq12 (x1 x2 x3 x4 x5:Nat) (y0:Str):Obj:=hCQ y0 x1 (x1+1) (x1+2) (.ofNat x2) (.ofNat x3) 0 0 3 (.ref x4) 181 (.ref (x4+1)) .none (.ref (x4+2)) (.ref (x4+3)) (.ref (x4+4)) (.ofNat x5) (.ofNat x2) (x5+1)
noncomputable def hq13 (x1 x2 x3 x4:Nat) (y0:Str):Obj:=hCQ y0 x1 (x1+1) (x1+2) (.ofNat x2) (.ofNat x3) 0 0 3 (.ref x4) 181 (.ref (x4+1)) .none .none .none (.ref (x4+2)) (.ofNat (x1+3)) (.ofNat x2) (x1+4)
noncomputable def hK:Params→PySem.W.Frag:=fun P=>(nat_lit 2,{cls:=.none,data:=.dict #[]})::
 (nat_lit 3,{cls:=.type "dict",data:=.dict #[hEQ P "__name__" 165 (.str "law_plusless_k51_swings" 429),hEQ P "__doc__" 166 .none,hEQ P "__package__" 167 .none,hEQ P "__loader__" 168 (.builtin "__main__.__loader__#opaque"),hEQ P "__spec__" 169 .none,hEQ P "__annotations__" 170 (.ref 6),hEQ P "__builtins__" 171 (.ref 4),hEQ P "__file__" 173 (.str "/claim/cut.py" 172),hEQ P "__cached__" 174 .none,hEQ P "PlusError" 206 (.ref 24),hEQ P "NoRow" 222 (.ref 37),hEQ P "NoNumber" 238 (.ref 49),hEQ P "NoSigns" 254 (.ref 61),hEQ P "TooMany" 270 (.ref 73),hEQ P "Lacking" 286 (.ref 85),hEQ P "Bare" 302 (.ref 97),hEQ P "NoTable" 318 (.ref 109),hEQ P "NoLine" 334 (.ref 121),hEQ P "NoText" 359 (.ref 140),hEQ P "LONGEST_ROW" 363 (.int 16 362),hEQ P "is_whole" 370 (.ref 149),hEQ P "are_whole" 376 (.ref 154),hEQ P "is_row" 382 (.ref 159),hEQ P "need_row" 389 (.ref 166),hEQ P "are_so_many_signs" 395 (.ref 171),hEQ P "need_so_many_signs" 403 (.ref 178),hEQ P "swing" 417 (.ref 185),hEQ P "leaning" 428 (.ref 192),hEQ P "_law_box" 442 (.ref 199),hEQ P "_law_take" 452 (.ref 206),hEQ P "_law_whole" 459 (.ref 213),hEQ P "_law_row" 473 (.ref 220),hEQ P "_law_odd" 481 (.ref 227),hEQ P "_law_signs" 487 (.ref 232),hEQ P "_law_all_signs" 498 (.ref 239),hEQ P "_law_swing" 510 (.ref 246),hEQ P "_law_classes" 518 (.ref 253),hEQ P "_law_only" 524 (.ref 258),hEQ P "_law_leaning" 534 (.ref 265),hEQ P "_law_said" 540 (.ref 270),hEQ P "law" 546 (.ref 275)] 41})::
 (nat_lit 23,hq6 P)::
 (nat_lit 24,{cls:=.type "type",data:=.cls {name:="PlusError",bases:=[.type "ValueError"],mro:=[.ref 24,.type "ValueError",.type "Exception",.type "BaseException",.type "object"],ns:=23,qualname:="PlusError",subclasses:=[.ref 37,.ref 49,.ref 61,.ref 73,.ref 85,.ref 97,.ref 109,.ref 121,.ref 140]},slots:=#[some (.ref 15),none,some (.str "PlusError" 189),some (.str "PlusError" 197),some (.builtin "ValueError.__new__"),some (.bool true)]})::
 (nat_lit 36,hq10 P 214 4 35)::
 (nat_lit 37,hq11 36 28 207 "NoRow")::
 (nat_lit 48,hq10 P 230 6 47)::
 (nat_lit 49,hq11 48 40 223 "NoNumber")::
 (nat_lit 60,hq10 P 246 8 59)::
 (nat_lit 61,hq11 60 52 239 "NoSigns")::
 (nat_lit 72,hq10 P 262 10 71)::
 (nat_lit 73,hq11 72 64 255 "TooMany")::
 (nat_lit 84,hq10 P 278 12 83)::
 (nat_lit 85,hq11 84 76 271 "Lacking")::
 (nat_lit 96,hq10 P 294 14 95)::
 (nat_lit 97,hq11 96 88 287 "Bare")::
 (nat_lit 108,hq10 P 310 16 107)::
 (nat_lit 109,hq11 108 100 303 "NoTable")::
 (nat_lit 120,hq10 P 326 18 119)::
 (nat_lit 121,hq11 120 112 319 "NoLine")::
 (nat_lit 139,{cls:=.type "dict",data:=.dict #[hEQ P "__module__" 342 (.str "plusless.errors" 187),hEQ P "__firstlineno__" 346 (.int 20 345),hEQ P "__init__" 354 (.ref 137),hEQ P "__static_attributes__" 356 (.ref 138),hEQ P "__doc__" 357 .none] 2})::
 (nat_lit 140,hq11 139 124 335 "NoText")::
 (nat_lit 148,hq12 364 26 1 143 368 "is_whole")::
 (nat_lit 149,hFQ "is_whole" 13 "plusless.rows" 360 148)::
 (nat_lit 153,hq13 371 28 2 150 "are_whole")::
 (nat_lit 154,hFQ "are_whole" 14 "plusless.rows" 360 153)::
 (nat_lit 158,hq13 377 30 1 155 "is_row")::
 (nat_lit 159,hFQ "is_row" 15 "plusless.rows" 360 158)::
 (nat_lit 165,hq12 383 34 1 160 387 "need_row")::
 (nat_lit 166,hFQ "need_row" 16 "plusless.rows" 360 165)::
 (nat_lit 170,hq13 390 37 2 167 "are_so_many_signs")::
 (nat_lit 171,hFQ "are_so_many_signs" 17 "plusless.rows" 360 170)::
 (nat_lit 177,hq12 396 39 2 172 401 "need_so_many_signs")::
 (nat_lit 178,hFQ "need_so_many_signs" 18 "plusless.rows" 360 177)::
 (nat_lit 184,hq12 406 43 2 179 415 "swing")::
 (nat_lit 185,hFQ "swing" 20 "plusless.inturn" 404 184)::
 (nat_lit 191,hq12 418 52 1 186 426 "leaning")::
 (nat_lit 192,hFQ "leaning" 21 "plusless.inturn" 404 191)::
 (nat_lit 198,hq12 431 62 2 193 440 "_law_box")::
 (nat_lit 199,hFQ "_law_box" 23 "law_plusless_k51_swings" 429 198)::
 (nat_lit 205,hq12 443 74 2 200 450 "_law_take")::
 (nat_lit 206,hFQ "_law_take" 24 "law_plusless_k51_swings" 429 205)::
 (nat_lit 212,hq12 453 78 1 207 457 "_law_whole")::
 (nat_lit 213,hFQ "_law_whole" 25 "law_plusless_k51_swings" 429 212)::
 (nat_lit 219,hq12 460 80 2 214 471 "_law_row")::
 (nat_lit 220,hFQ "_law_row" 26 "law_plusless_k51_swings" 429 219)::
 (nat_lit 226,hq12 474 89 1 221 479 "_law_odd")::
 (nat_lit 227,hFQ "_law_odd" 27 "law_plusless_k51_swings" 429 226)::
 (nat_lit 231,hq13 482 92 2 228 "_law_signs")::
 (nat_lit 232,hFQ "_law_signs" 28 "law_plusless_k51_swings" 429 231)::
 (nat_lit 245,hq12 499 102 2 240 508 "_law_swing")::
 (nat_lit 246,hFQ "_law_swing" 30 "law_plusless_k51_swings" 429 245)::
 (nat_lit 252,hq12 511 108 1 247 516 "_law_classes")::
 (nat_lit 253,hFQ "_law_classes" 31 "law_plusless_k51_swings" 429 252)::
 (nat_lit 257,hq13 519 112 2 254 "_law_only")::
 (nat_lit 258,hFQ "_law_only" 32 "law_plusless_k51_swings" 429 257)::
 (nat_lit 264,hq12 525 116 1 259 532 "_law_leaning")::
 (nat_lit 265,hFQ "_law_leaning" 33 "law_plusless_k51_swings" 429 264)::
 (nat_lit 269,hq13 535 122 2 266 "_law_said")::
 (nat_lit 270,hFQ "_law_said" 34 "law_plusless_k51_swings" 429 269)::
 (nat_lit 274,hq13 541 127 1 271 "law")::
 (nat_lit 275,hFQ "law" 35 "law_plusless_k51_swings" 429 274)::[]
noncomputable def hA:List Addr:=[2,3,23,24,36,37,48,49,60,61,72,73,84,85,96,97,108,109,120,121,139,140,148,149,153,154,158,159,165,166,170,171,177,178,184,185,191,192,198,199,205,206,212,213,219,220,226,227,231,232,245,246,252,253,257,258,264,265,269,270,274,275]
noncomputable def hV:Program:={PySem.Challenge.pw_plusless_k51_swings with main:={PySem.Challenge.pw_plusless_k51_swings.main with body:=[top 1,top 2,top 3,top 4,top 5,top 6,top 7,top 8,top 9,top 10,top 12,top 13,top 14,top 15,top 16,top 17,top 18,top 20,top 21,top 23,top 24,top 25,top 26,top 27,top 28,top 29,top 30,top 31,top 32,top 33,top 34,top 35]}}
theorem hKA (P:Params):hA=(hK P).map (·.1):=by kernel_rfl
noncomputable abbrev hX (s:Shared):Bool:=PySem.W.xlAt hV [] s && PySem.W.recOk (PySem.W.RowW.records PySem.Challenge.rw_plusless_k51_swings.row.toRowW) s
noncomputable def hNQ:=@PySem.W.BT.node
noncomputable def hzQ:=PySem.W.BT.nil
noncomputable def hLQ (o:Obj):=PySem.W.BT.node o .nil .nil
noncomputable def q2Q (P:Params):Obj:=hq2 182 1 11 "<module>"
noncomputable def q3Q (P:Params):Obj:=hq3 13 3 164 "__main__"
noncomputable def t0T (P:Params):PySem.W.BT:=(hNQ (PySem.W.boot_o_0 P) (hNQ (PySem.W.boot_o_1 P) (hNQ (PySem.W.boot_o_3 P) (hLQ (PySem.W.boot_o_7 P)) (hLQ hq0)) (hNQ (PySem.W.boot_o_5 P) (hLQ (PySem.W.boot_o_9 P)) (hLQ (q2Q P)))) (hNQ (PySem.W.boot_o_2 P) (hNQ (PySem.W.boot_o_4 P) (hLQ (PySem.W.boot_o_8 P)) (hLQ hq1)) (hNQ (PySem.W.boot_o_6 P) (hLQ (PySem.W.boot_o_10 P)) (hLQ (q3Q P)))))
noncomputable def t1T (P:Params):PySem.W.BT:=(hNQ (PySem.W.boot_o_0 P) (hNQ (PySem.W.boot_o_1 P) (hNQ {cls:=.type "dict",data:=.dict #[hEQ P "__name__" 165 (.str "plusless.errors" 187),hEQ P "__doc__" 166 .none,hEQ P "__package__" 167 .none,hEQ P "__loader__" 168 (.builtin "__main__.__loader__#opaque"),hEQ P "__spec__" 169 .none,hEQ P "__annotations__" 170 (.ref 6),hEQ P "__builtins__" 171 (.ref 4),hEQ P "__file__" 173 (.str "/claim/cut.py" 172),hEQ P "__cached__" 174 .none,hEQ P "PlusError" 206 (.ref 24),hEQ P "NoRow" 222 (.ref 37),hEQ P "NoNumber" 238 (.ref 49),hEQ P "NoSigns" 254 (.ref 61),hEQ P "TooMany" 270 (.ref 73),hEQ P "Lacking" 286 (.ref 85)] 15} (hNQ (PySem.W.boot_o_7 P) (hNQ {cls:=.type "tuple",data:=.seq #[.type "ValueError"]} (hNQ hq0 (hLQ (hq8 61)) hzQ) (hNQ hq0 (hLQ hq0) hzQ)) (hNQ (hq6 P) (hNQ (hq8 37) (hLQ hq0) hzQ) (hNQ hq0 (hLQ (hq8 85)) hzQ))) (hNQ hq0 (hNQ hq1 (hNQ hq0 (hLQ hq0) hzQ) (hNQ (hq8 49) (hLQ hq0) hzQ)) (hNQ (hq8 24) (hNQ hq0 (hLQ (hq8 73)) hzQ) (hLQ hq0)))) (hNQ (PySem.W.boot_o_5 P) (hNQ (PySem.W.boot_o_9 P) (hNQ (hq5 P 196 2 22 "PlusError") (hNQ (hq2 209 4 31 "NoRow") (hLQ hq4) hzQ) (hNQ (hq11 48 40 223 "NoNumber") (hLQ (hq2 273 12 79 "Lacking")) hzQ)) (hNQ {cls:=.type "getset_descriptor",data:=.fields #[.str "__weakref__" 202,.ref 24,.builtin "ExceptionGroup.__weakref__",.none]} (hNQ hq4 (hLQ (hq11 72 64 255 "TooMany")) hzQ) (hLQ (hq2 241 8 55 "NoSigns")))) (hNQ (q2Q P) (hNQ (hq3 20 17 187 "plusless.errors") (hNQ (hq11 36 28 207 "NoRow") (hLQ (hq2 257 10 67 "TooMany")) hzQ) (hNQ hq4 (hLQ (hq11 84 76 271 "Lacking")) hzQ)) (hNQ hq4 (hNQ (hq2 225 6 43 "NoNumber") (hLQ hq4) hzQ) (hLQ (hq11 60 52 239 "NoSigns")))))) (hNQ (PySem.W.boot_o_2 P) (hNQ (PySem.W.boot_o_4 P) (hNQ (PySem.W.boot_o_8 P) (hNQ hq4 (hNQ hq1 (hLQ hq9) hzQ) (hNQ (hq10 P 230 6 47) (hLQ hq1) hzQ)) (hNQ {cls:=.type "type",data:=.cls {name:="PlusError",bases:=[.type "ValueError"],mro:=[.ref 24,.type "ValueError",.type "Exception",.type "BaseException",.type "object"],ns:=23,qualname:="PlusError",subclasses:=[.ref 37,.ref 49,.ref 61,.ref 73,.ref 85]},slots:=#[some (.ref 15),none,some (.str "PlusError" 189),some (.str "PlusError" 197),some (.builtin "ValueError.__new__"),some (.bool true)]} (hNQ hq9 (hLQ (hq10 P 262 10 71)) hzQ) (hLQ hq1))) (hNQ {cls:=.none,data:=.fields #[.int 2 0,.int 0 0,.ref 20,.int 4 0,.int 0 0,.ref 33,.int 6 0,.int 0 0,.ref 45,.int 8 0,.int 0 0,.ref 57,.int 10 0,.int 0 0,.ref 69,.int 12 0,.int 0 0,.ref 81]} (hNQ (hq2 191 2 18 "PlusError") (hNQ (hq10 P 214 4 35) (hLQ hq1) hzQ) (hNQ hq9 (hLQ (hq10 P 278 12 83)) hzQ)) (hNQ hq9 (hNQ hq1 (hLQ hq9) hzQ) (hLQ (hq10 P 246 8 59))))) (hNQ (PySem.W.boot_o_6 P) (hNQ (PySem.W.boot_o_10 P) (hNQ hq0 (hNQ (hq3 33 30 187 "plusless.errors") (hLQ (hq5 P 262 10 71 "TooMany")) hzQ) (hNQ (hq7 49) (hLQ (hq3 81 78 187 "plusless.errors")) hzQ)) (hNQ (hq7 24) (hNQ (hq5 P 230 6 47 "NoNumber") (hLQ (hq7 73)) hzQ) (hLQ (hq3 57 54 187 "plusless.errors")))) (hNQ (q3Q P) (hNQ hq0 (hNQ (hq7 37) (hLQ (hq3 69 66 187 "plusless.errors")) hzQ) (hNQ (hq5 P 246 8 59 "NoSigns") (hLQ (hq7 85)) hzQ)) (hNQ (hq5 P 214 4 35 "NoRow") (hNQ (hq3 45 42 187 "plusless.errors") (hLQ (hq5 P 278 12 83 "Lacking")) hzQ) (hLQ (hq7 61)))))))
noncomputable abbrev hpQ:Program:=PySem.Challenge.rw_plusless_k51_swings.row.prog
noncomputable def hEnv:Env:={scope:=hpQ.main.scope,locals:=mainNs,globals:=mainNs,cells:=[],code:=.ref 13,frame:=some 14}
noncomputable def hBQ:List Stmt:=PySem.W.behindTheImports hpQ
noncomputable def hCd:Code:=Code.body hBQ hEnv
noncomputable def hp0:Pos:=⟨0,0,0,0⟩
noncomputable def hsT (t:PySem.W.BT) (n k:Nat) (os:OsState):PySem.W.SharedT:={tree:=t,n:=n,life:={},gens:=#[],drawn:={},toks:=k,os:=os}
set_option maxHeartbeats 0 in
theorem htg (w:World) (os:OsState):PySem.W.topGo treeTable hpQ w 11 (some (.ref 6)) 12 {heap:=PySem.W.boot_heap w.params,gens:=#[],drawn:=PySem.W.boot_drawn,toks:=PySem.W.boot_toks,os:=os} (PySem.W.topStub hpQ)=some ((hsT (t0T w.params) 15 187 os).abs,{cur:=denote treeTable (Code.body hBQ hEnv),code:=hCd,pos:=hp0,stack:=[PySem.W.topFrame hp0]}):=by kernel_rfl
set_option maxHeartbeats 0 in
theorem htbQ (w:World) (os:OsState):PySem.W.segRun treeTable hpQ w 11 (some (.ref 6)) 1 1 (hsT (t0T w.params) 15 187 os).abs (PySem.W.blockOf hBQ hEnv hCd hp0 [PySem.W.topFrame hp0])=some (Flow.next,(hsT (t0T w.params) 15 187 os).abs,hCd,hp0):=by kernel_rfl
noncomputable abbrev hsQ (s:Shared):=PySem.W.openSeen hV [] (importedModules hpQ.main.body) hX true s
noncomputable abbrev hgQ:=PySem.W.openGood hV []
noncomputable def hla (w:World) (s:Shared):=(PySem.W.staticsOk (importedModules hpQ.main.body) (PySem.W.boot_heap w.params) s.heap && PySem.W.namesBound hpQ s.heap && PySem.W.gensDone s && PySem.W.laidKept (PySem.W.boot_heap w.params) s.heap,PySem.W.Hook.obs (PySem.W.kHook hK hA hKA) s,(hsQ s).1)
noncomputable def hlb (w:World) (s:Shared):=((hsQ s).2.1,(hsQ s).2.2.1)
noncomputable def hlc (w:World) (s:Shared):=(hsQ s).2.2.2
set_option maxHeartbeats 0 in
theorem pc0 (w:World) (os:OsState):PySem.W.segRunT treeTable hpQ w 11 (some (.ref 6)) 1 3700 (hsT (t0T w.params) 15 187 os) (PySem.W.piecesOf ((hBQ.drop 0).take 7) hEnv hCd hp0 [PySem.W.topFrame hp0])=some (Flow.next,hsT (t1T w.params) 88 287 os,hCd,⟨12,0,13,8⟩):=by kernel_rfl
noncomputable def hrQ (w:World) (os:OsState):=PySem.W.segRunT treeTable hpQ w 11 (some (.ref 6)) 1 3700 (hsT (t1T w.params) 88 287 os) (PySem.W.piecesOf ((hBQ.drop 7).take 29) hEnv hCd ⟨12,0,13,8⟩ [PySem.W.topFrame hp0])
def hSa (w:World):Prop:=∀ os,Option.map (fun x=>(x.1,x.2.2.1,x.2.2.2,hla w x.2.1.abs)) (hrQ w os)=some (Flow.next,hCd,⟨127,0,145,15⟩,(true,PySem.W.Hook.val (PySem.W.kHook hK hA hKA) w,hgQ.1))
set_option maxHeartbeats 0 in
theorem pc1a (w:World):hSa w:=fun os=>by kernel_rfl
def hSb (w:World):Prop:=∀ os,Option.map (fun x=>(x.1,x.2.2.1,x.2.2.2,hlb w x.2.1.abs)) (hrQ w os)=some (Flow.next,hCd,⟨127,0,145,15⟩,(hgQ.2.1,hgQ.2.2.1))
set_option maxHeartbeats 0 in
theorem pc1b (w:World):hSb w:=fun os=>by kernel_rfl
def hSc (w:World):Prop:=∀ os,Option.map (fun x=>(x.1,x.2.2.1,x.2.2.2,hlc w x.2.1.abs)) (hrQ w os)=some (Flow.next,hCd,⟨127,0,145,15⟩,hgQ.2.2.2)
set_option maxHeartbeats 0 in
theorem pc1c (w:World):hSc w:=fun os=>by kernel_rfl
theorem htz (w:World) (s:Shared):PySem.W.topRun treeTable hpQ w 11 (some (.ref 6)) 2 s (PySem.W.restOf [] hEnv hCd ⟨127,0,145,15⟩ [PySem.W.topFrame hp0])=some s:=by kernel_rfl
set_option maxHeartbeats 0 in
theorem hspQ:hBQ=((hBQ.drop 0).take 7++((hBQ.drop 7).take 29++[])):=by kernel_rfl
theorem left:PySem.W.LeftO hpQ hV [] hX (PySem.W.Hook.obs (PySem.W.kHook hK hA hKA)) (PySem.W.Hook.val (PySem.W.kHook hK hA hKA)) 9400:=fun w=>by
  have o:=PySem.W.boot_open (p:=hpQ) (N:=9400) (by kernel_rfl) (by decide) (fun s=>by kernel_rfl) w
  rcases fo:PySem.W.fencedOpening treeTable hpQ w 9400 with _|⟨b0,b1,b2,b3,os⟩ <;> rw [fo] at o
  · cases o
  obtain ⟨o1,o⟩:=Prod.mk.inj (Option.some.inj o)
  obtain ⟨o2,o⟩:=Prod.mk.inj o
  obtain ⟨o3,o4⟩:=Prod.mk.inj o
  subst o1 o2 o3 o4
  rcases ru:hrQ w os with _|⟨fl,s,cd,po⟩
  · have u:=pc1a w os
    rw [ru] at u
    cases u
  have u:=pc1a w os
  rw [ru] at u
  obtain ⟨g1,u⟩:=Prod.mk.inj (Option.some.inj u)
  obtain ⟨g2,u⟩:=Prod.mk.inj u
  obtain ⟨g3,u⟩:=Prod.mk.inj u
  obtain ⟨l1,u⟩:=Prod.mk.inj u
  obtain ⟨l3,j1⟩:=Prod.mk.inj u
  have u:=pc1b w os
  rw [ru] at u
  obtain ⟨g1,u⟩:=Prod.mk.inj (Option.some.inj u)
  obtain ⟨g2,u⟩:=Prod.mk.inj u
  obtain ⟨g3,u⟩:=Prod.mk.inj u
  obtain ⟨j2,j3⟩:=Prod.mk.inj u
  have j4:=pc1c w os
  rw [ru] at j4
  obtain ⟨g1,j4⟩:=Prod.mk.inj (Option.some.inj j4)
  obtain ⟨g2,j4⟩:=Prod.mk.inj j4
  obtain ⟨g3,j4⟩:=Prod.mk.inj j4
  have l2:hsQ s.abs=hgQ:=Prod.ext j1 (Prod.ext j2 (Prod.ext j3 j4))
  subst g1 g2 g3
  have go:∀ b,b=((hBQ.drop 0).take 7++((hBQ.drop 7).take 29++[])) → PySem.W.topRun treeTable hpQ w 11 (some (.ref 6)) (3700+(3700+2)) (hsT (t0T w.params) 15 187 os).abs (PySem.W.restOf b hEnv hCd hp0 [PySem.W.topFrame hp0])=some s.abs:=fun b z=>by
    subst z
    exact (PySem.W.piece_app (PySem.W.segRun_of (pc0 w os)) (PySem.W.piece_app (PySem.W.segRun_of ru) (htz w s.abs)))
  have r:PySem.W.topRun treeTable hpQ w 11 (some (.ref 6)) 9400 {heap:=PySem.W.boot_heap w.params,gens:=#[],drawn:=PySem.W.boot_drawn,toks:=PySem.W.boot_toks,os:=os} (PySem.W.topStub hpQ)=some s.abs:=PySem.W.topRun_mono 1985 _ _ _ _ (PySem.W.go_top (n:=12) (N:=1+(3700+(3700+2))) (htg w os) (PySem.W.piece_block (n:=1) (N:=(3700+(3700+2))) (htbQ w os) (go hBQ hspQ)))
  have z1:((PySem.W.boot_heap w.params).isNs mainGlobals && (#[]:Array GenState).size==0)=true:=by kernel_rfl
  have z2:(PySem.W.boot_heap w.params).objs.size=11:=by kernel_rfl
  have z3:(PySem.W.boot_heap w.params).nsMap mainGlobals "__annotations__"=some (.ref 6):=by kernel_rfl
  have tf:PySem.W.topFrom treeTable hpQ w 9400 {heap:=PySem.W.boot_heap w.params,gens:=#[],drawn:=PySem.W.boot_drawn,toks:=PySem.W.boot_toks,os:=os}=some s.abs:=by simp only [PySem.W.topFrom,z1,z2,z3,r,Option.bind_some,l1]
  unfold PySem.W.openEnds
  rw [fo,Option.bind_some,tf]
  have l4:PySem.W.openSeen hV [] (importedModules hpQ.main.body) hX true s.abs=PySem.W.openGood hV []:=l2
  show some (_,_)=some _
  rw [l4,show PySem.W.Hook.obs (PySem.W.kHook hK hA hKA) s.abs=_ from l3]
end Lw
section
set_option Elab.async false
set_option linter.all false
set_option maxRecDepth 100000
set_option genSizeOf false
theorem Au.h2 (h:True:=by decide):True:=h
theorem Au.h5 (h:True:=by intro _; rfl):True:=h
theorem Au.h1 (h:True:=by rfl):True:=h
theorem Au.h8 (h:True:=by intro _ _ z; cases z):True:=h
theorem Au.h0 (h:True:=by kernel_rfl):True:=h
theorem Au.h3 (h:True:=by decide +kernel):True:=h
theorem Au.h9 (h:True:=by first | exact L2.nomark _ | kernel_rfl):True:=h
theorem Au.h4 (h:True:=by intro _; kernel_rfl):True:=h
theorem Au.h7 (h:True:=by first | left; rfl | right; kernel_rfl):True:=h
theorem ex5 {α β:Type} {a b c:α→β→Prop} {P:Prop} (z:∃ x y,a x y∧b x y∧c x y) (f:∀ x y,a x y→b x y→c x y→P):P:=by
 obtain ⟨x,y,u,v,w⟩:=z
 exact f x y u v w
namespace PySem
noncomputable def ZO (o:Obj):Prop:=∃ fs:Array Value,o.data=.fields fs∧fs[2]?=some .none
noncomputable def Heap.Zat (h:Heap) (e:Addr):Prop:=∃ o,h.get? e=some o∧ZO o
section
variable {M:Model} {A:Around} {E:Value→Shared→Prop} {s:Shared} {bs:Heap} {en:Env} {out:List Env} {L e:Addr} {cl a0:Value}
theorem Heap.Zat.same {h h':Heap} (z:h.Zat e) (k:h'.get? e=h.get? e):h'.Zat e:=let ⟨o,q,r⟩:=z; ⟨o,k.trans q,r⟩
theorem entryZ {ob:Obj} {fs:Array Value} {hd:Value} {more:Bool} {Q:Unit→Shared→Prop} (hA:A.frames=some (en :: out)) (hF:s.heap.FunFrames bs (en :: out)) (hL:en.frame=some L)
  (hE:s.heap.get? e=some ob) (hB:bs.StaysIn s.heap) (hN:bs.get? e=none) (hD:ob.data=.fields fs) (h0:fs[0]?=some a0) (h2:fs[2]?=some .none)
  (k:∀ h',Heap.NotedW bs (en :: out) e ob.cls a0 (rawInt L) s.heap h'→h'.Zat e→Q () { s with heap:=h' }):
  wpAny M A (do let f ← frameOf en; let pl ← entryPlaceOf L more; let t ← EntryCells.newEntry hd f .none (rawInt L) .none pl; setField (.ref e) 1 t) Q E s:=by
 have lt:1 < fs.size:=by have:=(Array.getElem?_eq_some_iff.mp h2).1; omega
 have notF:e ∉ (en :: out).filterMap (·.frame):=fun z=>by
  obtain ⟨_,o',q,r⟩:=hF.mem z
  rw [hE] at q
  cases q
  exact r fs hD
 refine wpAny_bind (wpAny_frameOf_fun hA hF hL fun g1 so=>?_)
 refine wpAny_bind (wpAny_entryPlaceOf fun pl place=>?_)
 unfold EntryCells.newEntry newFields
 refine wpAny_bind (wpAny_newObj_type ?_ (place.sizeOk5 _ _ _ _ _))
 generalize htb:({ cls:=.type "traceback",data:=.fields ([hd,.ref L,.none,rawInt L,.none] ++ (if pl.isEmpty then List.replicate 6 Value.none else pl)).toArray }:Obj)=tb
 have e1:g1.get? e=some ob:=(so.2.1 e notF).trans hE
 have b1:bs.StaysIn g1:=fun c o q=>(so.2.1 c fun z=>by rw [(hF.mem z).1] at q; cases q).trans (hB c o q)
 have e2:=Heap.get?_push_of_some (h:=g1) tb e1
 refine wpAny_setField e2 hD lt ?_
 generalize hfn:Obj.mapFields (fun z=>z.setIfInBounds 1 (Value.ref g1.objs.size))=fn
 have d3:(fn ob).data=.fields (fs.setIfInBounds 1 (.ref g1.objs.size)):=by rw [← hfn]; exact Obj.data_mapFields hD _
 have c3:(fn ob).cls=ob.cls:=by rw [← hfn]; exact Obj.cls_mapFields _ _
 have e3:((g1.push tb).update e fn).get? e=some (fn ob):=Heap.get?_update_self fn e2 (Obj.isFreed_of_fields d3)
 have ne:g1.objs.size ≠ e:=Nat.ne_of_gt (Heap.lt_size e1)
 have t3:((g1.push tb).update e fn).get? g1.objs.size=some tb:=(Heap.get?_update_other (g1.push tb) fn (Ne.symm ne)).trans (Heap.get?_push_size g1 (by rw [← htb]; rfl))
 have other:∀ c o,c ≠ e→g1.get? c=some o→((g1.push tb).update e fn).get? c=some o:=fun c o n q=>by
  rw [Heap.get?_update_other (g1.push tb) fn (Ne.symm n)]
  exact Heap.get?_push_of_some tb q
 have noE:∀ c o,s.heap.get? c=some o→(∀ ws,o.data ≠ .fields ws)→c ≠ e:=fun c o q r z=>by
  rw [z,hE] at q
  cases q
  exact r fs hD
 refine k _ ⟨fun c o q=>other c o (fun z=>by rw [z,hN] at q; cases q) (b1 c o q),hF.of_keeps fun c o q r=>?_,?_,fun c o q r=>?_⟩ ⟨fn ob,e3,_,d3,?_⟩
 ·obtain ⟨sl,y⟩:=so.2.2 c o q
  exact ⟨_,other c _ (noE c o q r) y,rfl⟩
 ·refine ⟨fn ob,_,g1.objs.size,tb,_,e3,⟨c3,?_⟩,d3,?_,b1.fresh,ne,t3,(by rw [← htb]),?_⟩
  ·rw [Array.getElem?_setIfInBounds_ne (by decide)]; exact h0
  ·simp [lt]
  ·first | (simp; done) | (rcases place with rfl | ⟨_,_,_,_,_,_,_,rfl⟩ <;> simp)
 ·obtain ⟨sl,y⟩:=so.2.2 c o q
  exact ⟨sl,other c _ (noE c o q r) y⟩
 ·rw [Array.getElem?_setIfInBounds_ne (by decide)]; exact h2
theorem noteOnZ {Q:Unit→Shared→Prop} (hA:A.frames=some (en :: out)) (hF:s.heap.FunFrames bs (en :: out)) (hL:en.frame=some L) (tr:s.heap.TracedW bs e cl a0) (hB:bs.StaysIn s.heap) (hN:bs.get? e=none) (z:s.heap.Zat e)
  (k:∀ h',Heap.NotedW bs (en :: out) e cl a0 (rawInt L) s.heap h'→h'.Zat e→Q () { s with heap:=h' }):wpAny M A (noteFrame (.ref e) en) Q E s:=by
 obtain ⟨ob,fs,T,oT,ts,hE,⟨hC,h0⟩,hD,h1,nT,Te,hT,dT,h3⟩:=tr
 obtain ⟨ob',q',fs',d',h2⟩:=z
 rw [hE] at q'
 cases q'
 rw [hD] at d'
 cases d'
 subst hC
 unfold noteFrame
 simp only [hL]
 refine wpAny_bind (wpAny_field hE hD h1 ?_)
 rw [if_pos (by simp)]
 refine wpAny_bind (wpAny_field hT dT h3 ?_)
 rw [if_neg (by simp [rawInt])]
 refine wpAny_bind (wpAny_setField hT dT (Array.getElem?_eq_some_iff.mp h3).1 ?_)
 have oth:∀ c,c ≠ T→(s.heap.update T (Obj.mapFields (fun y=>y.setIfInBounds 3 Value.none))).get? c=s.heap.get? c:=fun c n=>Heap.get?_update_other _ _ (Ne.symm n)
 have noT:∀ c o,s.heap.get? c=some o→(∀ ws,o.data ≠ .fields ws)→c ≠ T:=fun c o q r y=>by
  rw [y,hT] at q
  cases q
  exact r ts dT
 exact entryZ hA (hF.of_keeps fun c o q r=>⟨o,(oth c (noT c o q r)).trans q,rfl⟩) hL ((oth e (Ne.symm Te)).trans hE) (fun c o q=>(oth c fun y=>by rw [y,nT] at q; cases q).trans (hB c o q)) hN hD h0 h2
  fun h' ⟨x1,x2,x3,x4⟩ zz=>k h' ⟨x1,x2,x3,fun c o q r=>x4 c o ((oth c (noT c o q r)).trans q) r⟩ zz
theorem noteFirstZ {ob:Obj} {fs:Array Value} {Q:Unit→Shared→Prop} (hA:A.frames=some (en :: out)) (hF:s.heap.FunFrames bs (en :: out)) (hL:en.frame=some L)
  (hE:s.heap.get? e=some ob) (hB:bs.StaysIn s.heap) (hN:bs.get? e=none) (hD:ob.data=.fields fs) (h0:fs[0]?=some a0) (h1:fs[1]?=some .none) (h2:fs[2]?=some .none)
  (k:∀ h',Heap.NotedW bs (en :: out) e ob.cls a0 (rawInt L) s.heap h'→h'.Zat e→Q () { s with heap:=h' }):wpAny M A (noteFrame (.ref e) en) Q E s:=by
 unfold noteFrame
 simp only [hL]
 refine wpAny_bind (wpAny_field hE hD h1 ?_)
 rw [if_neg (by decide)]
 exact entryZ hA hF hL hE hB hN hD h0 h2 k
theorem flightZ {l:List Env} {fl:Value} {Q:Unit→Shared→Prop} (hB:bs.StaysIn s.heap) (hF:s.heap.FunFrames bs l) (tr:s.heap.TracedAtW bs e cl a0 fl) (z:s.heap.Zat e)
  (k:∀ h',bs.StaysIn h'→h'.FunFrames bs l→h'.TracedW bs e cl a0→s.heap.UpToSlots h'→h'.Zat e→Q () { s with heap:=h' }):wpAny M A (setFlight (.ref e) none) Q E s:=by
 obtain ⟨ob,fs,T,oT,ts,hE,hC,hD,h1,nT,Te,hT,dT,h3⟩:=tr
 have lt:3 < ts.size:=(Array.getElem?_eq_some_iff.mp h3).1
 generalize hfn:Obj.mapFields (fun y=>y.setIfInBounds 3 ((none:Option Addr).elim Value.none fun f=>rawInt f))=fn
 have oth:∀ c,c ≠ T→(s.heap.update T fn).get? c=s.heap.get? c:=fun c n=>Heap.get?_update_other _ _ (Ne.symm n)
 have noT:∀ c o,s.heap.get? c=some o→(∀ ws,o.data ≠ .fields ws)→c ≠ T:=fun c o q r y=>by
  rw [y,hT] at q
  cases q
  exact r ts dT
 have dF:(fn oT).data=.fields (ts.setIfInBounds 3 .none):=by rw [← hfn]; exact Obj.data_mapFields dT _
 unfold setFlight
 refine wpAny_bind (wpAny_field hE hD h1 ?_)
 rw [if_pos (by simp)]
 refine wpAny_setField hT dT lt ?_
 rw [hfn]
 refine k _ (fun c o q=>(oth c fun y=>by rw [y,nT] at q; cases q).trans (hB c o q)) (hF.of_keeps fun c o q r=>⟨o,(oth c (noT c o q r)).trans q,rfl⟩) ?_ (fun c o q r=>⟨o.slots,(oth c (noT c o q r)).trans q⟩) (z.same (oth e (Ne.symm Te)))
 exact ⟨ob,fs,T,fn oT,_,(oth e (Ne.symm Te)).trans hE,hC,hD,h1,nT,Te,Heap.get?_update_self fn hT (Obj.isFreed_of_fields dF),dF,by simp [lt]⟩
theorem looksZ {Q:Unit→Shared→Prop} (hA:A.frames=some (en :: out)) (hL:en.frame=some L) (fl:Heap.FlyingW bs (en :: out) e cl a0 s.heap) (z:s.heap.Zat e)
  (k:∀ h',Heap.HeldW bs (en :: out) e cl a0 L h'→s.heap.UpToSlots h'→h'.Zat e→Q () { s with heap:=h' }):wpAny M A (noteFrame (.ref e) en) Q E s:=by
 obtain ⟨y1,y2,y3,y4⟩:=fl
 exact noteOnZ hA y3 hL y4 y1 y2 z fun h' ⟨x1,x2,x3,x4⟩ zz=>k h' ⟨x1,y2,x2,x3⟩ x4 zz
theorem landsZ {l:List Env} {Q:Unit→Shared→Prop} (hh:Heap.HeldW bs l e cl a0 L s.heap) (z:s.heap.Zat e)
  (k:∀ h',Heap.FlyingW bs l e cl a0 h'→s.heap.UpToSlots h'→h'.Zat e→Q () { s with heap:=h' }):wpAny M A (setFlight (.ref e) none) Q E s:=by
 obtain ⟨y1,y2,y3,y4⟩:=hh
 exact flightZ y1 y3 y4 z fun h' x1 x2 x3 x4 zz=>k h' ⟨x1,y2,x2,x3⟩ x4 zz
theorem landsAgainZ {l:List Env} {Q:Unit→Shared→Prop} (fl:Heap.FlyingW bs l e cl a0 s.heap) (z:s.heap.Zat e)
  (k:∀ h',Heap.FlyingW bs l e cl a0 h'→s.heap.UpToSlots h'→h'.Zat e→Q () { s with heap:=h' }):wpAny M A (setFlight (.ref e) none) Q E s:=by
 obtain ⟨y1,y2,y3,y4⟩:=fl
 exact flightZ y1 y3 y4.at z fun h' x1 x2 x3 x4 zz=>k h' ⟨x1,y2,x2,x3⟩ x4 zz
theorem leavesZ {Q:Unit→Shared→Prop} (hA:A.frames=some (en :: out)) (hL:en.frame=some L) (fl:Heap.FlyingW bs (en :: out) e cl a0 s.heap) (z:s.heap.Zat e)
  (k:∀ h',Heap.FlyingW bs out e cl a0 h'→s.heap.UpToSlots h'→h'.Zat e→Q () { s with heap:=h' }):wpAny M A (leaving en (.ref e)) Q E s:=by
 unfold leaving
 refine wpAny_bind (looksZ hA hL fl z fun h1 x1 x2 x3=>?_)
 refine landsZ (s:={ s with heap:=h1 }) x1 x3 fun h2 y1 y2 y3=>?_
 obtain ⟨a,b,⟨_,_,c⟩,d⟩:=y1
 exact k h2 ⟨a,b,c,d⟩ (x2.trans y2) y3
theorem leavesMadeZ {h:Heap} {vs:List Value} {Q:Unit→Shared→Prop} (hA:A.frames=some (en :: out)) (hL:en.frame=some L) (hB:bs.StaysIn h) (hF:h.FunFrames bs (en :: out)) (mk:Heap.MadeExcOf h s.heap e cl vs)
  (k:∀ h' t,Heap.FlyingW bs out e cl (.ref t) h'→s.heap.UpToSlots h'→h'.Zat e→Q () { s with heap:=h' }):wpAny M A (leaving en (.ref e)) Q E s:=by
 obtain ⟨t,hE,_,_⟩:=mk.there
 have nw:bs.get? e=none:=by
  cases q:bs.get? e with
  | none=>rfl
  | some o'=>have:=hB e o' q; rw [mk.new] at this; cases this
 unfold leaving
 refine wpAny_bind (noteFirstZ (a0:=.ref t) hA (hF.of_keeps fun c o q _=>⟨o,mk.keeps c o q,rfl⟩) hL hE (fun c o q=>mk.keeps c o (hB c o q)) nw rfl rfl rfl rfl fun h1 x1 x2=>?_)
 obtain ⟨a,b,c,d⟩:=x1
 refine flightZ (s:={ s with heap:=h1 }) a b c x2 fun h2 y1 y2 y3 y4 y5=>?_
 obtain ⟨_,_,y2⟩:=y2
 exact k h2 t ⟨y1,nw,y2,y3⟩ (Heap.UpToSlots.trans d y4) y5
end
end PySem
namespace PySem
open PyProof.Rows
theorem entry_unchain:entryFor table "proto.unchain" = some Builtin.«proto.unchain»:=entryFor_of_tree (by kernel_rfl)
theorem plain_unchain:plainId "proto.unchain" = true:=by decide +kernel
section
variable {prog:Program} {w:World} {A:Around} {E:Value→Shared→Prop} {s:Shared}
theorem unchainZ {ea ha:Addr} {Q:Value→Shared→Prop} (z:s.heap.Zat ha) (h:Q .none s):wpAny (model prog w) A (runValue (.builtin "proto.unchain" ⟨[.ref ea,.ref ha,.ref ha,.bool false],[]⟩)) Q E s:=by
 obtain ⟨o,ho,fs,hd,h2⟩:=z
 refine wpAny_runValue (codeAny_builtin entry_unchain ?_)
 rw [Around.under_plainId plain_unchain _]
 unfold Builtin.«proto.unchain»
 refine wpAny_bind (wpAny_field ho hd h2 ?_)
 rw [if_pos (by rfl)]
 refine wpAny_bind (wpAny_pure ?_)
 exact wpAny_pure h
theorem raiseNewZ {α:Type} {ea ha:Addr} {o:Obj} {fs:Array Value} {Q:α→Shared→Prop} (hh:A.handled=some (.ref ha)) (z:s.heap.Zat ha) (ne:ha ≠ ea) (he:s.heap.get? ea=some o) (hd:o.data=.fields fs) (hs:2 < fs.size)
  (h:E (.ref ea) { s with heap:=s.heap.update ea (Obj.mapFields (fun y=>y.setIfInBounds 2 (.ref ha))) }):wpAny (model prog w) A (raiseNew (.ref ea):Sem α) Q E s:=by
 unfold raiseNew
 refine wpAny_bind (wpAny_handled ?_)
 rw [hh]
 dsimp only
 rw [if_pos (by simpa using ne)]
 refine wpAny_bind (wpAny_holding (unchainZ z ?_))
 refine wpAny_bind ?_
 show wpAny _ _ (setField (.ref ea) 2 (.ref ha)) _ _ s
 exact wpAny_setField he hd hs (wpAny_throw h)
theorem rangeEndZ {it ha:Addr} {x left step:Int} {Q:Option Value→Shared→Prop} (hh:A.handled=some (.ref ha)) (z:s.heap.Zat ha) (hit:IsRangeIter s.heap it x left step) (hl:left≤0)
  (k:∀ h',Heap.ExtBut it s.heap h'→Q none { s with heap:=h' }):wpAny (model prog w) A (pyNext (.ref it)) Q E s:=by
 have ty:s.TypeIs (.ref it) "range_iterator":=⟨_,hit,rfl⟩
 have lta:ha < s.heap.objs.size:=let ⟨o,q,_⟩:=z; Heap.lt_size q
 unfold pyNext
 refine wpAny_bind (wpAny_attempt (wpAny_callSpecial?_slot (name:=Str.ofString "__next__") ty F.slot_range_iterator_next (wpAny_call_entry F.slot_range_iterator_next ty F.entry_range_iterator_next ?_ (F.args_range_iterator_next_1 _))))
 show wpAny _ _ (field (.ref it) 0 >>= _) _ _ s
 refine wpAny_bind (wpAny_field hit rfl (x:=rawInt x) rfl ?_)
 show wpAny _ _ (field (.ref it) 1 >>= _) _ _ s
 refine wpAny_bind (wpAny_field hit rfl (x:=rawInt left) rfl ?_)
 show wpAny _ _ (field (.ref it) 2 >>= _) _ _ s
 refine wpAny_bind (wpAny_field hit rfl (x:=rawInt step) rfl ?_)
 show wpAny _ _ (if left≤0 then _ else _) _ _ s
 rw [if_pos hl]
 refine wpAny_bind (wpAny_rule ?_)
 refine wpAny_bind ?_
 show wpAny _ _ (newExc (.type "StopIteration") [] >>= _) _ _ _
 refine wpAny_bind ?_
 simp only [newExc,newTuple]
 refine wpAny_bind (wpAny_newObj_type ?_ (by size_fits))
 refine wpAny_bind (m:=firstArgMember _ _) (wpAny_of_eq (a:=Value.none) (by first | rfl | (simp only [firstArgMember]; rfl)) ?_)
 refine wpAny_newObj_type ?_ (by size_fits)
 refine raiseNewZ (ha:=ha) (by first | exact hh | (show A.in1.handled=_; exact hh)) ?_ ?_ (Heap.get?_push_size _ rfl) rfl ?_ ?_
 ·obtain ⟨o,q,r⟩:=z
  exact ⟨o,Heap.get?_push_of_some _ (Heap.get?_push_of_some _ q),r⟩
 ·exact Nat.ne_of_lt (Nat.lt_of_lt_of_le lta (by rw [Heap.size_push]; exact Nat.le_succ _))
 ·rw [Array.size_append]; exact Nat.lt_of_lt_of_le (show 2 < 6 by decide) (Nat.le_add_right _ _)
 ·dsimp only
  generalize hfn:Obj.mapFields (fun y=>y.setIfInBounds 2 (Value.ref ha))=fn
  generalize hg:s.heap.push { cls:=Value.type "tuple",data:=Data.seq #[] }=g
  generalize hex:({ cls:=Value.type "StopIteration",data:=Data.fields (#[Value.ref s.heap.objs.size,Value.none,Value.none,Value.none,Value.bool false,Value.none] ++ ownMembersOf (Value.type "StopIteration") []) }:Obj)=ex
  have c0:ex.cls=.type "StopIteration":=by rw [← hex]
  have d0:∃ fs,ex.data=.fields fs:=⟨_,by rw [← hex]⟩
  obtain ⟨fs,d0⟩:=d0
  have p0:(g.push ex).get? g.objs.size=some ex:=Heap.get?_push_size g (Obj.isFreed_of_fields d0)
  have d1:(fn ex).data=.fields (fs.setIfInBounds 2 (.ref ha)):=by rw [← hfn]; exact Obj.data_mapFields d0 _
  have c1:(fn ex).cls=.type "StopIteration":=by rw [← hfn]; exact (Obj.cls_mapFields _ _).trans c0
  have e1:((g.push ex).update g.objs.size fn).get? g.objs.size=some (fn ex):=Heap.get?_update_self fn p0 (Obj.isFreed_of_fields d1)
  refine wpAny_bind (wpAny_isInstance (T:="StopIteration") (b:=true) ⟨fn ex,e1,c1⟩ isSubtype_stop ?_)
  refine wpAny_pure (k _ fun b o _ q=>?_)
  have q1:g.get? b=some o:=by rw [← hg]; exact Heap.get?_push_of_some _ q
  rw [Heap.get?_update_other (g.push ex) fn (Nat.ne_of_gt (Heap.lt_size q1))]
  exact Heap.get?_push_of_some ex q1
end
end PySem
namespace L2
open PySem PySem.Spec PyProof.Rows
noncomputable abbrev Key:=Sum Int Str
noncomputable def keyIs:Key→Value→Bool
 | .inl k,v=>Value.isInt k v
 | .inr x,v=>Value.isStrOf x v
noncomputable def keyH (w:World):Key→Int
 | .inl k=>hashInt k
 | .inr x=>hashStr w x
theorem keyIs_shape:∀ {k:Key} {v:Value},keyIs k v=true→(∃ i t,k=Sum.inl i∧v=Value.int i t) ∨ (∃ x t,k=Sum.inr x∧v=Value.str x t)
 | .inl i,v,h=>by
  obtain ⟨t,e⟩:=Value.isInt_shape (k:=i) (v:=v) h
  exact .inl ⟨i,t,rfl,e⟩
 | .inr x,v,h=>by
  obtain ⟨t,e⟩:=Value.isStrOf_shape (x:=x) (v:=v) h
  exact .inr ⟨x,t,rfl,e⟩
theorem keyIs_int (i:Int) (t:Tok):keyIs (.inl i) (.int i t)=true:=by simp [keyIs,Value.isInt]
theorem keyIs_str (x:Str) (t:Tok):keyIs (.inr x) (.str x t)=true:=by simp [keyIs,Value.isStrOf]
theorem key_ll (a b:Int):decide ((Sum.inl a:Key)=Sum.inl b)=(a == b):=by
 by_cases e:a=b
 ·subst e; simp
 ·have h:¬ (Sum.inl a:Key)=Sum.inl b:=fun q=>e (Sum.inl.inj q)
  rw [decide_eq_false h]
  exact (beq_eq_false_iff_ne.mpr e).symm
theorem key_rr (a b:Str):decide ((Sum.inr a:Key)=Sum.inr b)=decide (a=b):=by
 by_cases e:a=b
 ·subst e; simp
 ·have h:¬ (Sum.inr a:Key)=Sum.inr b:=fun q=>e (Sum.inr.inj q)
  rw [decide_eq_false h,decide_eq_false e]
theorem key_lr (a:Int) (b:Str):decide ((Sum.inl a:Key)=Sum.inr b)=false:=decide_eq_false (fun q=>nomatch q)
theorem key_rl (a:Str) (b:Int):decide ((Sum.inr a:Key)=Sum.inl b)=false:=decide_eq_false (fun q=>nomatch q)
noncomputable def mixKind (prog:Program) (w:World):PySem.KeyKind prog w Key where
 is:=keyIs
 hash:=keyH w
 inj:=fun v a b ha hb=>by
  rcases keyIs_shape ha with ⟨i,t,rfl,rfl⟩ | ⟨x,t,rfl,rfl⟩
  ·rcases keyIs_shape hb with ⟨j,u,rfl,e⟩ | ⟨y,u,rfl,e⟩
   ·injection e with e1 _; rw [e1]
   ·exact nomatch e
  ·rcases keyIs_shape hb with ⟨j,u,rfl,e⟩ | ⟨y,u,rfl,e⟩
   ·exact nomatch e
   ·injection e with e1 _; rw [e1]
 byValue:=fun k v h=>by
  rcases keyIs_shape h with ⟨i,t,rfl,rfl⟩ | ⟨x,t,rfl,rfl⟩ <;> rfl
 pyHash:=fun hv h=>by
  rcases keyIs_shape hv with ⟨i,t,rfl,rfl⟩ | ⟨x,t,rfl,rfl⟩
  ·exact wpAny_pyHash_int h
  ·exact wpAny_pyHash_str h
 eqBool:=fun hu hv h=>by
  rcases keyIs_shape hu with ⟨i,t,rfl,rfl⟩ | ⟨x,t,rfl,rfl⟩
  ·rcases keyIs_shape hv with ⟨j,u,rfl,rfl⟩ | ⟨y,u,rfl,rfl⟩
   ·rw [key_ll] at h; exact wpAny_eqBool_int h
   ·rw [key_lr] at h; exact SeqAt.EqAt.int_str i t y u _ _ _ _ h
  ·rcases keyIs_shape hv with ⟨j,u,rfl,rfl⟩ | ⟨y,u,rfl,rfl⟩
   ·rw [key_rl] at h; exact SeqAt.EqAt.str_int x t j u _ _ _ _ h
   ·rw [key_rr] at h; exact wpAny_eqBool_str h
 «strs»:=fun k x t v h=>by
  rcases keyIs_shape h with ⟨i,u,rfl,e⟩ | ⟨y,u,rfl,e⟩
  ·exact nomatch e
  ·injection e with e1 _
   subst e1
   cases v <;> rfl
theorem mixKind_int (prog:Program) (w:World) (i:Int) (t:Tok):(mixKind prog w).is (.inl i) (.int i t)=true:=keyIs_int i t
theorem mixKind_str (prog:Program) (w:World) (x:Str) (t:Tok):(mixKind prog w).is (.inr x) (.str x t)=true:=keyIs_str x t
end L2
namespace L2
open PySem PySem.Spec PyProof.Rows
inductive V where
 | non | bl (b:Bool) | int (i:Int) | str (x:Str) | byt (b:Array UInt8) | flt (b:UInt64) | ref (a:Addr) | ty (n:String)
 deriving DecidableEq
noncomputable def RelV:V→Value→Prop
 | .non,u=>u=Value.none
 | .bl b,u=>u=Value.bool b
 | .int i,u=>∃ t,u=Value.int i t
 | .str x,u=>∃ t,u=Value.str x t
 | .byt b,u=>∃ t,u=Value.bytes b t
 | .flt b,u=>∃ t,u=Value.float b t
 | .ref a,u=>u=Value.ref a
 | .ty n,u=>u=Value.type n
noncomputable abbrev Vals:List V→List Value→Prop:=Paired RelV
theorem Vals.length {xs:List V} {us:List Value} (r:Vals xs us):xs.length=us.length:=Paired.length r
theorem Vals.get:∀ {xs:List V} {us:List Value} {i:Nat} {x:V},Vals xs us→xs[i]?=some x→∃ u,us[i]?=some u∧RelV x u
 | _,_,_,_,.nil,e=>by simp at e
 | _,_,0,_,.cons r _,e=>by simp at e; subst e; exact ⟨_,rfl,r⟩
 | _,_,i + 1,x,.cons _ t,e=>by
  obtain ⟨u,h1,h2⟩:=Vals.get (i:=i) (x:=x) t (by simpa using e)
  exact ⟨u,by simpa using h1,h2⟩
theorem Vals.set {x:V} {u:Value} (r:RelV x u):∀ {xs:List V} {us:List Value} (i:Nat),Vals xs us→Vals (xs.set i x) (us.set i u)
 | _,_,_,.nil=>.nil
 | _,_,0,.cons _ t=>.cons r t
 | _,_,i + 1,.cons q t=>.cons q (Vals.set r i t)
theorem Vals.append:∀ {xs ys:List V} {us ws:List Value},Vals xs us→Vals ys ws→Vals (xs ++ ys) (us ++ ws)
 | _,_,_,_,.nil,s=>s
 | _,_,_,_,.cons r t,s=>.cons r (Vals.append t s)
theorem Vals.take:∀ {xs:List V} {us:List Value} (n:Nat),Vals xs us→Vals (xs.take n) (us.take n)
 | _,_,0,_=>.nil
 | _,_,_ + 1,.nil=>.nil
 | _,_,n + 1,.cons r t=>.cons r (Vals.take n t)
theorem Vals.drop:∀ {xs:List V} {us:List Value} (n:Nat),Vals xs us→Vals (xs.drop n) (us.drop n)
 | _,_,0,r=>r
 | _,_,_ + 1,.nil=>.nil
 | _,_,n + 1,.cons _ t=>Vals.drop n t
noncomputable def RelO:Option V→Option Value→Prop
 | some v,some u=>RelV v u
 | none,none=>True
 | _,_=>False
noncomputable def KV {κ:Type}:List (κ × V)→List (κ × Value)→Prop:=Paired fun (p:κ × V) (q:κ × Value)=>p.1=q.1∧RelV p.2 q.2
noncomputable def kV:Key→V
 | .inl i=>.int i
 | .inr x=>.str x
set_option genInjectivity false in
inductive HO where
 /-- a list -/
 | lst (xs:List V)
 /-- a tuple (never changes) -/
 | tup (xs:List V)
 /-- a dict whose keys are ints and texts; one whose keys are tuples of ints and texts (the empty one is both) -/
 | dK (kvs:List (Key × V)) | dT (kvs:List (List Key × V))
 /-- a set of ints: its members,its size -/
 | set (S:Int→Bool) (n:Nat)
 /-- an instance of the class at C,its dict at dx,its attributes -/
 | ins (C dx:Addr) (fs:List (Str × V))
 /-- the dict of the instance at x -/
 | own (x:Addr)
 /-- the dict of an exception -/
 | xd (fs:List (Str × V))
 /-- a bound method,f of x -/
 | met (f x:Addr)
 /-- a range object lo,lo + 1,.. below hi -/
 | rng (lo hi:Int)
 /-- a thing that is known to the object (the script; a dict while a loop walks it): read,never written while it is so -/
 | frz (o:Obj) (u:HO)
 /-- a code object's table -/
 | tbl (ps:Array Value)
 /-- any other thing,by what is true of its one object (a def of one's own: SetO a S n:=HO.ext fun h=>..) -/
 | ext (φ:Heap→Prop)
noncomputable abbrev Hp:=Addr→Option HO
noncomputable def upd (H:Hp) (a:Addr) (o:HO):Hp:=fun b=>if b=a then some o else H b
theorem upd_same {H:Hp} {a:Addr} {o:HO}:upd H a o a=some o:=by unfold upd; rw [if_pos rfl]
theorem upd_ne {H:Hp} {a b:Addr} {o:HO} (h:b ≠ a):upd H a o b=H b:=by unfold upd; rw [if_neg h]
theorem ne_of_none {H:Hp} {a b:Addr} {o:HO} (h:H a=some o) (h':H b=none):a ≠ b:=by
 intro e; subst e; rw [h] at h'; cases h'
section
variable (P:Program) (w:World)
noncomputable def ObjOk (H:Hp) (h:Heap) (a:Addr):HO→Prop
 | .lst xs=>xs.length≤sizeLine∧∃ (its:List Value) (n:Nat),Vals xs its∧h.get? a=some { cls:=.type "list",data:=.seq its.toArray n }
 | .tup xs=>xs.length≤sizeLine∧∃ its:List Value,Vals xs its∧IsTup h a its.toArray
 | .dK kvs=>kvs.length≤sizeLine∧(a == sysModules)=false∧∃ vs,KV kvs vs∧h.DictOf (mixKind P w) a vs
 | .dT kvs=>kvs.length≤sizeLine∧(a == sysModules)=false∧∃ xs:List (List Key × Addr × Value),
   Paired (fun (p:List Key × V) (q:List Key × Addr × Value)=>p.1=q.1∧H q.2.1=some (.tup (p.1.map kV))∧RelV p.2 q.2.2) kvs xs∧
   ∃ o es ep,h.get? a=some o∧o.ExactDict∧o.data=.dict es ep∧es.toList=xs.map (entryOfKey (tupleKind (mixKind P w)))∧(xs.map (·.1)).Nodup
 | .set S n=>h.SetOf (intKind P w) a S n
 | .ins C dx fs=>H dx=some (.own a)∧fs.length≤1000∧dx ≠ a∧h.get? a=some (PySem.W.instObj C dx)∧
   ∃ mA,h.Ns1 dx mA∧(∀ f,RelO (fs.lookup f) (mA f))∧PySem.Within mA (fs.map (·.1))
 | .own _=>∃ o,h.get? a=some o
 | .xd fs=>∃ mA,h.Ns1 a mA∧∀ f,RelO (fs.lookup f) (mA f)
 | .rng lo hi=>∃ t u v,h.get? a=some { cls:=.type "range",data:=.fields #[.int lo t,.int hi u,.int 1 v] }
 | .frz o u=>h.get? a=some o∧ObjOk H h a u
 | .tbl ps=>h.get? a=some { cls:=.none,data:=.fields ps }
 | .met f x=>h.get? a=some (PySem.W.methodObj (.ref f) (.ref x))
 | .ext φ=>φ h∧(∃ o,h.get? a=some o)∧∀ h1 h2:Heap,φ h1→(∀ o,h1.get? a=some o→h2.get? a=some o)→φ h2
noncomputable def HOk (H:Hp) (h:Heap):Prop:=∀ a o,H a=some o→ObjOk P w H h a o
end
section
variable {P:Program} {w:World} {H H':Hp} {h h':Heap} {a:Addr} {o:HO}
theorem ObjOk.lt (x:ObjOk P w H h a o):a < h.objs.size:=by
 cases o with
 | lst xs=>obtain ⟨_,_,_,_,e⟩:=x; exact Heap.lt_size e
 | tup xs=>obtain ⟨_,_,_,p⟩:=x; exact p.lt
 | dK kvs=>obtain ⟨_,_,_,_,o,_,_,e,_⟩:=x; exact Heap.lt_size e
 | dT kvs=>obtain ⟨_,_,_,_,o,_,_,e,_⟩:=x; exact Heap.lt_size e
 | set S n=>obtain ⟨o,_,_,_,e,_⟩:=x; exact Heap.lt_size e
 | ins C dx fs=>obtain ⟨_,_,_,e,_⟩:=x; exact Heap.lt_size e
 | own y=>obtain ⟨_,e⟩:=x; exact Heap.lt_size e
 | xd fs=>obtain ⟨_,⟨_,_,_,e,_⟩,_⟩:=x; exact Heap.lt_size e
 | rng lo hi=>obtain ⟨_,_,_,e⟩:=x; exact Heap.lt_size e
 | frz ob u=>obtain ⟨e,_⟩:=x; exact Heap.lt_size e
 | tbl ps=>exact Heap.lt_size (show h.get? a=some _ from x)
 | met f y=>exact Heap.lt_size (show h.get? a=some _ from x)
 | ext φ=>obtain ⟨_,⟨_,e⟩,_⟩:=x; exact Heap.lt_size e
theorem Paired.mapP {α β:Type} {F G:α→β→Prop}:∀ {l₁:List α} {l₂:List β},Paired F l₁ l₂→(∀ a b,F a b→G a b)→Paired G l₁ l₂
 | _,_,.nil,_=>.nil
 | _,_,.cons r t,f=>.cons (f _ _ r) (Paired.mapP t f)
theorem ObjOk.stay (x:ObjOk P w H h a o) (k:∀ b u,(b=a ∨ H b=some (.own a))→h.get? b=some u→h'.get? b=some u)
  (ho:∀ b,H b=some (.own a)→H' b=some (.own a)) (ht:∀ b xs,H b=some (.tup xs)→H' b=some (.tup xs)):ObjOk P w H' h' a o:=by
 induction o with
 | lst xs=>obtain ⟨z,its,n,r,e⟩:=x; exact ⟨z,its,n,r,k _ _ (.inl rfl) e⟩
 | tup xs=>obtain ⟨z,its,r,ob,e,c⟩:=x; exact ⟨z,its,r,ob,k _ _ (.inl rfl) e,c⟩
 | dK kvs=>obtain ⟨z,y,vs,r,ob,es,ep,e,c⟩:=x; exact ⟨z,y,vs,r,ob,es,ep,k _ _ (.inl rfl) e,c⟩
 | dT kvs=>
  obtain ⟨z,y,xs,r,ob,es,ep,e,c⟩:=x
  exact ⟨z,y,xs,Paired.mapP r fun p q z=>⟨z.1,ht _ _ z.2.1,z.2.2⟩,ob,es,ep,k _ _ (.inl rfl) e,c⟩
 | set S n=>obtain ⟨ob,es,ep,t,e,c⟩:=x; exact ⟨ob,es,ep,t,k _ _ (.inl rfl) e,c⟩
 | ins C dx fs=>
  obtain ⟨d,z,ne,e,mA,⟨od,es,ep,e2,c⟩,r⟩:=x
  exact ⟨ho _ d,z,ne,k _ _ (.inl rfl) e,mA,⟨od,es,ep,k _ _ (.inr d) e2,c⟩,r⟩
 | own y=>obtain ⟨ob,e⟩:=x; exact ⟨ob,k _ _ (.inl rfl) e⟩
 | xd fs=>obtain ⟨mA,⟨od,es,ep,e,c⟩,r⟩:=x; exact ⟨mA,⟨od,es,ep,k _ _ (.inl rfl) e,c⟩,r⟩
 | rng lo hi=>obtain ⟨t,u,v,e⟩:=x; exact ⟨t,u,v,k _ _ (.inl rfl) e⟩
 | frz ob u ih=>obtain ⟨e,q⟩:=x; exact ⟨k _ _ (.inl rfl) e,ih q⟩
 | tbl ps=>
  have e:h.get? a=some { cls:=.none,data:=.fields ps }:=x
  show h'.get? a=some { cls:=.none,data:=.fields ps }
  exact k a _ (.inl rfl) e
 | met f y=>
  have e:h.get? a=some (PySem.W.methodObj (.ref f) (.ref y)):=x
  show h'.get? a=some (PySem.W.methodObj (.ref f) (.ref y))
  exact k a _ (.inl rfl) e
 | ext φ=>obtain ⟨p,⟨o,e⟩,st⟩:=x; exact ⟨st _ _ p fun o q=>k _ _ (.inl rfl) q,⟨o,k _ _ (.inl rfl) e⟩,st⟩
theorem HOk.lt (x:HOk P w H h) (e:H a=some o):a < h.objs.size:=(x a o e).lt
theorem HOk.fresh (x:HOk P w H h) (e:h.objs.size≤a):H a=none:=by
 cases q:H a with
 | none=>rfl
 | some u=>exact absurd (Nat.lt_of_lt_of_le (x.lt q) e) (Nat.lt_irrefl _)
theorem HOk.kept (x:HOk P w H h) (k:∀ b u,h.get? b=some u→h'.get? b=some u):HOk P w H h':=fun a o e=>
 (x a o e).stay (fun b u _ q=>k b u q) (fun _ q=>q) fun _ _ q=>q
theorem HOk.laid (x:HOk P w H h) (k:∀ b u,h.get? b=some u→h'.get? b=some u) (hp:h.objs.size≤a) (new:ObjOk P w (upd H a o) h' a o):HOk P w (upd H a o) h':=fun b u e=>by
 have hn:=x.fresh hp
 by_cases hb:b=a
 ·subst hb; rw [upd_same] at e; cases e; exact new
 ·rw [upd_ne hb] at e
  exact (x b u e).stay (fun c v _ q=>k c v q) (fun c q=>by rw [upd_ne (ne_of_none q hn)]; exact q) fun c xs q=>by rw [upd_ne (ne_of_none q hn)]; exact q
end
noncomputable def Rd (H:Hp) (a:Addr) (u:HO):Prop:=H a=some u ∨ ∃ o,H a=some (.frz o u)
theorem Rd.ok {P:Program} {w:World} {H:Hp} {h:Heap} {a:Addr} {u:HO} (r:Rd H a u) (x:HOk P w H h):ObjOk P w H h a u:=by
 rcases r with r | ⟨o,r⟩
 ·exact x a u r
 ·obtain ⟨_,q⟩:=x a _ r
  exact q
noncomputable def Mut:Option HO→Prop
 | some (.lst _)=>True
 | some (.dK _)=>True
 | some (.dT _)=>True
 | some (.set _ _)=>True
 | some (.ins _ _ _)=>True
 | some (.ext _)=>True
 | _=>False
section
variable {P:Program} {w:World} {H:Hp} {h h':Heap} {x e:Addr} {o':HO}
theorem HOk.write (ok:HOk P w H h) (mu:Mut (H x)) (he:e=x ∨ H e=some (.own x)) (k:∀ b u,b ≠ e→h.get? b=some u→h'.get? b=some u) (heo:∃ u,h'.get? e=some u)
  (new:ObjOk P w (upd H x o') h' x o'):HOk P w (upd H x o') h':=fun b u q=>by
 have nown:∀ c y,H c=some (.own y)→c ≠ x:=fun c y r z=>by subst z; rw [r] at mu; exact mu
 have ntup:∀ c xs,H c=some (.tup xs)→c ≠ x:=fun c xs r z=>by subst z; rw [r] at mu; exact mu
 by_cases hb:b=x
 ·subst hb; rw [upd_same] at q; cases q; exact new
 ·rw [upd_ne hb] at q
  by_cases hbe:b=e
  ·have q':H b=some (.own x):=by
    rcases he with z | z
    ·exact absurd (hbe.trans z) hb
    ·rw [hbe]; exact z
   rw [q] at q'; cases q'
   obtain ⟨v,hv⟩:=heo
   exact ⟨v,by rw [hbe]; exact hv⟩
  ·refine (ok b u q).stay (fun c v hc r=>k c v ?_ r) (fun c r=>by rw [upd_ne (nown c b r)]; exact r) fun c xs r=>by rw [upd_ne (ntup c xs r)]; exact r
   rcases hc with rfl | hc
   ·exact hbe
   ·rintro rfl
    rcases he with z | z
    ·exact nown c b hc z
    ·rw [hc] at z; cases z; exact hb rfl
end
structure Un (fs ex:List Addr) (H H':Hp) (h h':Heap):Prop where
 keep:∀ b o,h.get? b=some o→H b=none→b ∉ fs→b ∉ ex→h'.get? b=some o
 slot:∀ b o,h.get? b=some o→H b=none→b ∈ fs→b ∉ ex→∃ sl,h'.get? b=some { o with slots:=sl }
 free:∀ b o,h.get? b=some o→H b=none→b ∉ ex→H' b=none
 there:∀ b o,h.get? b=some o→b ∉ ex→∃ o',h'.get? b=some o'
 tups:∀ b xs,H b=some (.tup xs)→H' b=some (.tup xs)
 frzs:∀ b o u,H b=some (.frz o u)→H' b=some (.frz o u)
 tbls:∀ b ps,H b=some (.tbl ps)→∃ more,H' b=some (.tbl (ps ++ more))
section
variable {fs fs' ex ex':List Addr} {H H1 H2:Hp} {h h1 h2 h':Heap} {a x e:Addr} {o:HO}
theorem Un.any (u:Un fs ex H H1 h h1) {b:Addr} {ob:Obj} (q:h.get? b=some ob) (n:H b=none) (hx:b ∉ ex):∃ sl,h1.get? b=some { ob with slots:=sl }:=by
 by_cases hb:b ∈ fs
 ·exact u.slot b ob q n hb hx
 ·exact ⟨ob.slots,u.keep b ob q n hb hx⟩
theorem Un.trans (a:Un fs ex H H1 h h1) (b:Un fs ex H1 H2 h1 h2):Un fs ex H H2 h h2 where
 keep:=fun c ob q n hc hx=>b.keep c ob (a.keep c ob q n hc hx) (a.free c ob q n hx) hc hx
 slot:=fun c ob q n hc hx=>by
  obtain ⟨sl,e1⟩:=a.slot c ob q n hc hx
  obtain ⟨sl',e2⟩:=b.slot c _ e1 (a.free c ob q n hx) hc hx
  exact ⟨sl',e2⟩
 free:=fun c ob q n hx=>by
  obtain ⟨o',e1⟩:=a.there c ob q hx
  exact b.free c o' e1 (a.free c ob q n hx) hx
 there:=fun c ob q hx=>by
  obtain ⟨o',e1⟩:=a.there c ob q hx
  exact b.there c o' e1 hx
 tups:=fun c xs q=>b.tups c xs (a.tups c xs q)
 frzs:=fun c ob xs q=>b.frzs c ob xs (a.frzs c ob xs q)
 tbls:=fun c ps q=>by
  obtain ⟨m1,e1⟩:=a.tbls c ps q
  obtain ⟨m2,e2⟩:=b.tbls c _ e1
  exact ⟨m1 ++ m2,by rw [e2,Array.append_assoc]⟩
theorem Un.kept (k:∀ b u,h.get? b=some u→h'.get? b=some u):Un fs ex H H h h':=
 ⟨fun b ob q _ _ _=>k b ob q,fun b ob q _ _ _=>⟨ob.slots,k b ob q⟩,fun _ _ _ n _=>n,fun b ob q _=>⟨ob,k b ob q⟩,fun _ _ q=>q,fun _ _ _ q=>q,fun _ ps q=>⟨#[],by rw [q]; simp⟩⟩
theorem Un.refl:Un fs ex H H h h:=Un.kept fun _ _ q=>q
theorem Un.laid (k:∀ b u,h.get? b=some u→h'.get? b=some u) (hp:h.objs.size≤a) (hn:H a=none):Un fs ex H (upd H a o) h h' where
 keep:=fun b u q _ _ _=>k b u q
 slot:=fun b u q _ _ _=>⟨u.slots,k b u q⟩
 free:=fun b u q n _=>by rw [upd_ne (Nat.ne_of_lt (Nat.lt_of_lt_of_le (Heap.lt_size q) hp))]; exact n
 there:=fun b u q _=>⟨u,k b u q⟩
 tups:=fun b xs q=>by rw [upd_ne (ne_of_none q hn)]; exact q
 frzs:=fun b u xs q=>by rw [upd_ne (ne_of_none q hn)]; exact q
 tbls:=fun b ps q=>⟨#[],by rw [upd_ne (ne_of_none q hn),q]; simp⟩
theorem Un.write (mu:Mut (H x)) (he:e=x ∨ H e=some (.own x)) (k:∀ b u,b ≠ e→h.get? b=some u→h'.get? b=some u) (heo:∃ u,h'.get? e=some u):Un fs ex H (upd H x o) h h':=by
 have hx:∀ b,H b=none→b ≠ x:=fun b n z=>by subst z; rw [n] at mu; exact mu
 have hb:∀ b,H b=none→b ≠ e:=fun b n z=>by
  subst z
  rcases he with r | r
  ·exact hx b n r
  ·rw [n] at r; cases r
 have hm:∀ b u,H b=some u→¬ Mut (some u)→b ≠ x:=fun b u q nm z=>by subst z; rw [q] at mu; exact nm mu
 refine ⟨fun b u q n _ _=>k b u (hb b n) q,fun b u q n _ _=>⟨u.slots,k b u (hb b n) q⟩,fun b u q n _=>by rw [upd_ne (hx b n)]; exact n,fun b u q _=>?_,
  fun b xs q=>by rw [upd_ne (hm b _ q fun z=>z)]; exact q,fun b u xs q=>by rw [upd_ne (hm b _ q fun z=>z)]; exact q,fun b ps q=>⟨#[],by rw [upd_ne (hm b _ q fun z=>z),q]; simp⟩⟩
 by_cases hbe:b=e
 ·subst hbe; exact heo
 ·exact ⟨u,k b u hbe q⟩
end
noncomputable def trk (h:Heap) (H:Hp):List Addr:=(List.range h.objs.size).filter fun a=>(H a).isSome
noncomputable def hidT (h:Heap) (H:Hp):Heap:=PySem.W.hideAll h (trk h H)
theorem hidT_size (h:Heap) (H:Hp):(hidT h H).objs.size=h.objs.size:=PySem.W.hideAll_size _ _
theorem hidT_get {h:Heap} {H:Hp} {b:Addr} {o:Obj} (e:h.get? b=some o) (n:H b=none):(hidT h H).get? b=some o:=
 PySem.W.hideAll_get _ e fun hm=>by
  have q:(H b).isSome=true:=(List.mem_filter.mp hm).2
  rw [n] at q; simp at q
theorem of_hidT {h:Heap} {H:Hp} {b:Addr} {o:Obj} (e:(hidT h H).get? b=some o):h.get? b=some o∧H b=none:=by
 have e':h.get? b=some o:=PySem.W.of_hideAll (trk h H) e
 refine ⟨e',?_⟩
 cases q:H b with
 | none=>rfl
 | some x=>
  have hm:b ∈ trk h H:=List.mem_filter.mpr ⟨List.mem_range.mpr (Heap.lt_size e'),by simp [q]⟩
  have z:(hidT h H).get? b=none:=PySem.W.hideAll_none (trk h H) hm
  rw [z] at e; cases e
end L2
namespace L2
open PySem PySem.Spec PyProof.Rows
structure Mod (K:PySem.W.Frag) (mg:Str→Option Value) (base:Heap):Prop where
 kin:K.In base
 glob:base.Ns mainGlobals mg
 blt:∃ mb,base.Ns builtinsNs mb∧∀ x:Str,x ≠ "__name__"→mb x=bootBuiltins x
 nolimit:base.NoLimit
structure Cx where
 prog:Program
 w:World
 K:PySem.W.Frag
 mg:Str→Option Value
 base:Heap
 A:Around
 N:List Str
 s₀:Shared
 H₀:Hp
 env:Env
 outer:List Env
 stack:List Env
 ex:List Addr
 fn:Str→Bool
 calm:Bool
 pn:List (Addr × Obj)
 xe:Value→Shared→Prop
noncomputable def frs (l:List Env):List Addr:=l.filterMap (·.frame)
noncomputable abbrev Cx.fs (X:Cx):List Addr:=frs X.outer
noncomputable def Vis (sc:Scope) (x:Str):Prop:=sc.names.lookup x=some .local ∨ sc.names.lookup x=some .cell ∨ sc.names.lookup x=some .free
noncomputable def Loc (sc:Scope) (x:Str):Prop:=sc.names.lookup x=some .local ∨ sc.names.lookup x=some .cell
noncomputable def Look (env:Env) (h:Heap) (m:Str→Option Value) (x:Str) (u:Value):Prop:=
 (env.kindOf x=some .local∧m x=some u) ∨ ((env.kindOf x=some .cell ∨ env.kindOf x=some .free)∧∃ c,env.cells.lookup x=some c∧h.IsCell c (some u))
structure Cx.Ok (X:Cx):Prop where
 mod:Mod X.K X.mg X.base
 kind:X.env.scope.kind=.function
 glob:X.env.globals=mainGlobals
 blt:X.env.builtins=builtinsNs
 above:X.s₀.heap.objs.size≤X.env.locals
 inj:∀ x y c,X.env.cells.lookup x=some c→X.env.cells.lookup y=some c→x=y
 has:∀ x,(X.env.kindOf x=some .cell ∨ X.env.kindOf x=some .free)→∃ c,X.env.cells.lookup x=some c
 cab:∀ x c,X.fn x=true→X.env.cells.lookup x=some c→X.s₀.heap.objs.size≤c
 hd:X.calm=true→X.A.handled=none
 frames:X.A.frames=some X.stack
 stk:X.stack=X.outer ∨ (X.stack=X.env :: X.outer∧X.env.frame=some X.env.locals)
 exf:∀ b ∈ X.ex,b ≠ X.env.locals∧∀ x c,X.env.cells.lookup x=some c→c ≠ b
 bs:∀ b o,X.base.get? b=some o→X.s₀.heap.get? b=some o∧X.H₀ b=none
 bsz:X.base.objs.size≤X.s₀.heap.objs.size
 noex:∀ b o,X.base.get? b=some o→b ∉ X.ex
 exfs:∀ b ∈ X.ex,b ∉ X.fs
 funs:X.s₀.heap.FunFrames X.base X.outer
 frf:∀ b ∈ X.fs,X.H₀ b=none
structure Inv (X:Cx) (pins:List (Addr × Obj)) (σ:List (Option V)) (H:Hp) (s:Shared):Prop where
 ok:X.Ok
 os:s.os=X.s₀.os
 bare:AllBare s.gens
 base:Un X.fs X.ex X.H₀ H X.s₀.heap s.heap
 loc:∃ m,s.heap.Ns X.env.locals m∧∀ (i:Nat) (x:Str) (v:V),X.N[i]?=some x→σ[i]?=some (some v)→Vis X.env.scope x→∃ u,RelV v u∧Look X.env s.heap m x u
 cell:∀ x c,X.env.cells.lookup x=some c→∃ v,s.heap.IsCell c v
 free:H X.env.locals=none
 freeC:∀ x c,X.env.cells.lookup x=some c→H c=none
 pin:∀ p ∈ X.pn ++ pins,s.heap.get? p.1=some p.2∧H p.1=none∧p.1 ≠ X.env.locals∧p.1 ∉ X.fs∧∀ v,p.2.data ≠ .cell v
 hok:HOk X.prog X.w H s.heap
 len:σ.length=X.N.length
section
variable {X:Cx} {pins:List (Addr × Obj)} {σ:List (Option V)} {H H':Hp} {s:Shared} {h':Heap}
theorem Cx.Ok.nofr (ok:X.Ok) {b:Addr} {o:Obj} (e:X.base.get? b=some o):b ∉ X.fs:=fun hb=>by
 have:=(ok.funs.mem hb).1
 rw [e] at this; cases this
theorem Inv.bs (I:Inv X pins σ H s):∀ b o,X.base.get? b=some o→s.heap.get? b=some o∧H b=none:=fun b o e=>
 ⟨I.base.keep b o (I.ok.bs b o e).1 (I.ok.bs b o e).2 (I.ok.nofr e) (I.ok.noex b o e),I.base.free b o (I.ok.bs b o e).1 (I.ok.bs b o e).2 (I.ok.noex b o e)⟩
theorem Inv.bk (I:Inv X pins σ H s):∀ b o,X.base.get? b=some o→s.heap.get? b=some o:=fun b o e=>(I.bs b o e).1
theorem Inv.mod (I:Inv X pins σ H s):Mod X.K X.mg X.base:=I.ok.mod
theorem Inv.kIn (I:Inv X pins σ H s):X.K.In s.heap:=I.ok.mod.kin.keeps I.bk
theorem Inv.lt (I:Inv X pins σ H s):X.env.locals < s.heap.objs.size:=let ⟨_,hn,_⟩:=I.loc; hn.lt
theorem Inv.sz (I:Inv X pins σ H s):X.s₀.heap.objs.size≤s.heap.objs.size:=Nat.le_trans I.ok.above (Nat.le_of_lt I.lt)
theorem Inv.nofs (I:Inv X pins σ H s) {a:Addr} (h:s.heap.objs.size≤a):a ∉ X.fs:=fun hb=>by
 obtain ⟨_,o,ho,_⟩:=I.ok.funs.mem hb
 exact absurd (Nat.lt_of_lt_of_le (Heap.lt_size ho) (Nat.le_trans I.sz h)) (Nat.lt_irrefl _)
theorem Inv.cne (I:Inv X pins σ H s):∀ x c,X.env.cells.lookup x=some c→c ≠ X.env.locals:=fun x c e z=>by
 obtain ⟨v,o,ho,hd⟩:=I.cell x c e
 obtain ⟨m,⟨o',es,ep,ho',hd',_⟩,_⟩:=I.loc
 rw [z,ho'] at ho; cases ho; rw [hd'] at hd; cases hd
theorem Inv.funs (I:Inv X pins σ H s):s.heap.FunFrames X.base X.outer:=by
 have all:∀ (l:List Env),(∀ b ∈ frs l,b ∈ X.fs)→X.s₀.heap.FunFrames X.base l→s.heap.FunFrames X.base l:=by
  intro l
  induction l with
  | nil=>intro _ _; trivial
  | cons env r ih=>
   intro hs hl
   obtain ⟨hk,⟨L,o,hf,hn,ho,hd⟩,hr⟩:=hl
   have hL:L ∈ X.fs:=hs L (by unfold frs; rw [List.filterMap_cons,hf]; exact List.mem_cons_self)
   obtain ⟨sl,e⟩:=I.base.slot L o ho (I.ok.frf L hL) hL fun z=>I.ok.exfs L z hL
   exact ⟨hk,⟨L,_,hf,hn,e,hd⟩,ih (fun b hb=>hs b (by unfold frs; rw [List.filterMap_cons,hf]; exact List.mem_cons_of_mem _ hb)) hr⟩
 exact all X.outer (fun _ hb=>hb) I.ok.funs
theorem Inv.stack (I:Inv X pins σ H s):s.heap.FunFrames X.base X.stack:=by
 rcases I.ok.stk with e | ⟨e,hf⟩
 ·rw [e]; exact I.funs
 ·rw [e]
  obtain ⟨m,hn,_⟩:=I.loc
  refine .cons (by rw [I.ok.kind]; decide) hf hn ?_ I.funs
  exact Heap.get?_none_of_le (Nat.le_trans I.ok.bsz I.ok.above)
theorem Inv.stkSub (I:Inv X pins σ H s):∀ b ∈ frs X.stack,b ∈ X.env.locals :: X.fs:=fun b hb=>by
 rcases I.ok.stk with e | ⟨e,hf⟩
 ·rw [e] at hb; exact List.mem_cons_of_mem _ hb
 ·rw [e] at hb
  unfold frs at hb
  rw [List.filterMap_cons,hf] at hb
  exact hb
theorem Inv.stkFree (I:Inv X pins σ H s):∀ b ∈ frs X.stack,H b=none:=fun b hb=>by
 rcases List.mem_cons.mp (I.stkSub b hb) with e | hb
 ·rw [e]; exact I.free
 ·obtain ⟨_,o,ho,_⟩:=I.ok.funs.mem hb
  exact I.base.free b o ho (I.ok.frf b hb) fun z=>I.ok.exfs b z hb
theorem Inv.step {g':Array GenState} {t':Nat} {d':Drawn} {ch:List Addr} (I:Inv X pins σ H s)
  (hch:∀ b ∈ ch,(b ∈ X.ex ∨ X.s₀.heap.objs.size≤b)∧b ≠ X.env.locals∧(∀ x c,X.env.cells.lookup x=some c→c ≠ b)∧∀ p ∈ X.pn ++ pins,p.1 ≠ b)
  (keep:∀ b o,b ≠ X.env.locals→b ∉ X.fs→b ∉ ch→s.heap.get? b=some o→H b=none→h'.get? b=some o)
  (slot:∀ b o,b ≠ X.env.locals→b ∈ X.fs→b ∉ ch→s.heap.get? b=some o→H b=none→∃ sl,h'.get? b=some { o with slots:=sl }) (free:∀ b o,b ∉ ch→s.heap.get? b=some o→H b=none→H' b=none)
  (there:∀ b o,b ∉ ch→s.heap.get? b=some o→∃ o',h'.get? b=some o')
  (tups:∀ b xs,H b=some (.tup xs)→H' b=some (.tup xs)) (frzs:∀ b o u,H b=some (.frz o u)→H' b=some (.frz o u)) (tbls:∀ b ps,H b=some (.tbl ps)→∃ more,H' b=some (.tbl (ps ++ more)))
  (ns:∀ m,s.heap.Ns X.env.locals m→h'.Ns X.env.locals m) (hok:HOk X.prog X.w H' h') (hg:AllBare g'):
  Inv X pins σ H' { s with heap:=h',gens:=g',drawn:=d',toks:=t' }:=by
 have neL:∀ b o,X.s₀.heap.get? b=some o→b ≠ X.env.locals:=fun b o e=>Nat.ne_of_lt (Nat.lt_of_lt_of_le (Heap.lt_size e) I.ok.above)
 have neC:∀ b o,X.s₀.heap.get? b=some o→b ∉ X.ex→b ∉ ch:=fun b o e hx hb=>by
  rcases (hch b hb).1 with z | z
  ·exact hx z
  ·exact absurd (Nat.lt_of_lt_of_le (Heap.lt_size e) z) (Nat.lt_irrefl _)
 have cellK:∀ x c,X.env.cells.lookup x=some c→∀ v,s.heap.IsCell c v→h'.IsCell c v:=fun x c e v ⟨o,ho,hd⟩=>by
  have nch:c ∉ ch:=fun z=>(hch c z).2.2.1 x c e rfl
  by_cases hc:c ∈ X.fs
  ·obtain ⟨sl,q⟩:=slot c o (I.cne x c e) hc nch ho (I.freeC x c e)
   exact ⟨_,q,hd⟩
  ·exact ⟨o,keep c o (I.cne x c e) hc nch ho (I.freeC x c e),hd⟩
 refine ⟨I.ok,I.os,hg,⟨fun b o e n hb hx=>?_,fun b o e n hb hx=>?_,fun b o e n hx=>?_,fun b o e hx=>?_,fun b xs e=>tups b xs (I.base.tups b xs e),fun b o xs e=>frzs b o xs (I.base.frzs b o xs e),fun b ps e=>?_⟩,?_,fun x c e=>?_,?_,fun x c e=>?_,fun p hp=>?_,hok,I.len⟩
 ·exact keep b o (neL b o e) hb (neC b o e hx) (I.base.keep b o e n hb hx) (I.base.free b o e n hx)
 ·obtain ⟨sl,e1⟩:=I.base.slot b o e n hb hx
  obtain ⟨sl',e2⟩:=slot b _ (neL b o e) hb (neC b o e hx) e1 (I.base.free b o e n hx)
  exact ⟨sl',e2⟩
 ·obtain ⟨o',e1⟩:=I.base.there b o e hx
  exact free b o' (neC b o e hx) e1 (I.base.free b o e n hx)
 ·obtain ⟨o',e1⟩:=I.base.there b o e hx
  exact there b o' (neC b o e hx) e1
 ·obtain ⟨m1,e1⟩:=I.base.tbls b ps e
  obtain ⟨m2,e2⟩:=tbls b _ e1
  exact ⟨m1 ++ m2,by rw [e2,Array.append_assoc]⟩
 ·obtain ⟨m,hn,hl⟩:=I.loc
  refine ⟨m,ns m hn,fun i x v e1 e2 e3=>?_⟩
  obtain ⟨u,r,l⟩:=hl i x v e1 e2 e3
  refine ⟨u,r,?_⟩
  rcases l with l | ⟨k,c,e,z⟩
  ·exact .inl l
  ·exact .inr ⟨k,c,e,cellK x c e _ z⟩
 ·obtain ⟨v,z⟩:=I.cell x c e
  exact ⟨v,cellK x c e v z⟩
 ·obtain ⟨m,⟨o,_,_,ho,_⟩,_⟩:=I.loc
  exact free _ o (fun z=>(hch _ z).2.1 rfl) ho I.free
 ·obtain ⟨v,o,ho,hd⟩:=I.cell x c e
  exact free c o (fun z=>(hch c z).2.2.1 x c e rfl) ho (I.freeC x c e)
 ·obtain ⟨e,n,ne,nf,d⟩:=I.pin p hp
  have nch:p.1 ∉ ch:=fun z=>(hch p.1 z).2.2.2 p hp rfl
  exact ⟨keep p.1 p.2 ne nf nch e n,free p.1 p.2 nch e n,ne,nf,d⟩
theorem Inv.un {t':Nat} (I:Inv X pins σ H s) (u:Un X.fs [] H H' s.heap h') (hok:HOk X.prog X.w H' h'):Inv X pins σ H' { s with heap:=h',toks:=t' }:=by
 obtain ⟨m,⟨o,es,ep,ho,r⟩,_⟩:=id I.loc
 obtain ⟨sl,hL⟩:=u.any ho I.free (by simp)
 exact I.step (g':=s.gens) (d':=s.drawn) (ch:=[]) (fun _ z=>nomatch z) (fun b o _ hb _ e n=>u.keep b o e n hb (by simp)) (fun b o _ hb _ e n=>u.slot b o e n hb (by simp)) (fun b o _ e n=>u.free b o e n (by simp)) (fun b o _ e=>u.there b o e (by simp)) u.tups u.frzs u.tbls (fun m' hm=>by
  obtain ⟨o',es',ep',ho',r'⟩:=hm
  rw [ho] at ho'; cases ho'
  exact ⟨_,es',ep',hL,r'⟩) hok I.bare
theorem Inv.call {g':Array GenState} {t':Nat} {d':Drawn} {ch:List Addr} (I:Inv X pins σ H s) (u:Un (frs X.stack) ch H H' s.heap h') (hok:HOk X.prog X.w H' h') (hg:AllBare g')
  (hch:∀ b ∈ ch,(b ∈ X.ex ∨ X.s₀.heap.objs.size≤b)∧b ≠ X.env.locals∧(∀ x c,X.env.cells.lookup x=some c→c ≠ b)∧∀ p ∈ X.pn ++ pins,p.1 ≠ b):
  Inv X pins σ H' { s with heap:=h',gens:=g',drawn:=d',toks:=t' }:=by
 obtain ⟨m,⟨o,es,ep,ho,r⟩,_⟩:=id I.loc
 obtain ⟨sl,hL⟩:=u.any ho I.free fun z=>(hch _ z).2.1 rfl
 exact I.step (ch:=ch) hch (fun b o hL hb hc e n=>u.keep b o e n (fun z=>(List.mem_cons.mp (I.stkSub b z)).elim hL hb) hc) (fun b o _ _ hc e n=>u.any e n hc) (fun b o hc e n=>u.free b o e n hc) (fun b o hc e=>u.there b o e hc) u.tups u.frzs u.tbls (fun m' hm=>by
  obtain ⟨o',es',ep',ho',r'⟩:=hm
  rw [ho] at ho'; cases ho'
  exact ⟨_,es',ep',hL,r'⟩) hok hg
theorem Inv.turned {t':Nat} {it:Addr} (I:Inv X pins σ H s) (k:∀ b o,b ≠ it→s.heap.get? b=some o→h'.get? b=some o) (hn:H it=none) (hL:it ≠ X.env.locals)
  (h1:it ∈ X.ex ∨ X.s₀.heap.objs.size≤it) (h2:∀ x c,X.env.cells.lookup x=some c→c ≠ it) (h3:∀ p ∈ X.pn ++ pins,p.1 ≠ it):Inv X pins σ H { s with heap:=h',toks:=t' }:=by
 have nit:∀ b u,H b=some u→b ≠ it:=fun b u e z=>by rw [z,hn] at e; cases e
 refine I.step (g':=s.gens) (d':=s.drawn) (ch:=[it]) (fun b hb=>?_) (fun b o _ _ hc e _=>k b o (fun z=>hc (by simp [z])) e) (fun b o _ _ hc e _=>⟨o.slots,k b o (fun z=>hc (by simp [z])) e⟩) (fun _ _ _ _ n=>n)
  (fun b o hc e=>⟨o,k b o (fun z=>hc (by simp [z])) e⟩) (fun _ _ e=>e) (fun _ _ _ e=>e) (fun b ps e=>⟨#[],by rw [e]; simp⟩) (fun m hm=>?_) (fun b u e=>?_) I.bare
 ·have e:b=it:=by simpa using hb
  subst e
  exact ⟨h1,hL,h2,h3⟩
 ·obtain ⟨o,es,ep,ho,r⟩:=hm
  exact ⟨o,es,ep,k _ o (Ne.symm hL) ho,r⟩
 ·refine (I.hok b u e).stay (fun c v hc q=>k c v ?_ q) (fun _ q=>q) fun _ _ q=>q
  rcases hc with z | z
  ·rw [z]; exact nit b u e
  ·exact nit c _ z
theorem Inv.tok (I:Inv X pins σ H s) (t:Nat):Inv X pins σ H { s with toks:=t }:=I.un (h':=s.heap) (t':=t) Un.refl I.hok
theorem Inv.kept {t':Nat} (I:Inv X pins σ H s) (k:∀ b u,s.heap.get? b=some u→h'.get? b=some u):Inv X pins σ H { s with heap:=h',toks:=t' }:=I.un (Un.kept k) (I.hok.kept k)
theorem Inv.laid {a:Addr} {o:HO} {t':Nat} (I:Inv X pins σ H s) (k:∀ b u,s.heap.get? b=some u→h'.get? b=some u) (hp:s.heap.objs.size≤a) (new:ObjOk X.prog X.w (upd H a o) h' a o):
  Inv X pins σ (upd H a o) { s with heap:=h',toks:=t' }:=I.un (Un.laid k hp (I.hok.fresh hp)) (I.hok.laid k hp new)
theorem Inv.write {x e:Addr} {o:HO} {t':Nat} (I:Inv X pins σ H s) (mu:Mut (H x)) (he:e=x ∨ H e=some (.own x)) (k:∀ b u,b ≠ e→s.heap.get? b=some u→h'.get? b=some u) (heo:∃ u,h'.get? e=some u)
  (new:ObjOk X.prog X.w (upd H x o) h' x o):Inv X pins σ (upd H x o) { s with heap:=h',toks:=t' }:=I.un (Un.write mu he k heo) (I.hok.write mu he k heo new)
theorem Inv.pins_of {pins':List (Addr × Obj)} (I:Inv X pins σ H s) (h:∀ p ∈ pins',s.heap.get? p.1=some p.2∧H p.1=none∧p.1 ≠ X.env.locals∧p.1 ∉ X.fs∧∀ v,p.2.data ≠ .cell v):Inv X pins' σ H s:=
 ⟨I.ok,I.os,I.bare,I.base,I.loc,I.cell,I.free,I.freeC,fun p hp=>(List.mem_append.mp hp).elim (fun z=>I.pin p (List.mem_append_left _ z)) (h p),I.hok,I.len⟩
theorem nodup_ix {N:List Str} (hN:N.Nodup) {i j:Nat} {x:Str} (a:N[i]?=some x) (b:N[j]?=some x):i=j:=by
 obtain ⟨h1,e1⟩:=List.getElem?_eq_some_iff.mp a
 obtain ⟨h2,e2⟩:=List.getElem?_eq_some_iff.mp b
 exact (List.getElem_inj hN).mp (e1.trans e2.symm)
theorem store_ok2 {M:Model} {A:Around} {E:Value→Shared→Prop} {i:Nat} {x:Str} {v:V} {u:Value} {Q:Unit→Shared→Prop} (I:Inv X pins σ H s) (hN:X.N.Nodup) (hi:X.N[i]?=some x) (hx:Loc X.env.scope x) (r:RelV v u)
  (h:∀ s',Inv X pins (σ.set i (some v)) H s'→(∃ a,Heap.SameBut a s.heap s'.heap∧(a=X.env.locals ∨ X.env.cells.lookup x=some a))→Q () s') (hf:X.fn x=true ∨ X.env.scope.names.lookup x=some .local):wpAny M A (storeName X.env x u) Q E s:=by
 obtain ⟨m,hn,hl⟩:=id I.loc
 have hcls:(X.env.scope.kind == .class || (X.env.scope.kind == .module && X.env.locals != X.env.globals))=false:=by rw [I.ok.kind]; rfl
 have hiσ:i < σ.length:=by rw [I.len]; exact (List.getElem?_eq_some_iff.mp hi).1
 have cne:=I.cne
 have tracked:∀ {a:Addr} {h':Heap},(∃ o,s.heap.get? a=some o∧H a=none)→Heap.SameBut a s.heap h'→HOk X.prog X.w H h':=fun {a h'} ha hs b ob e=>by
  obtain ⟨_,_,hfree⟩:=ha
  refine (I.hok b ob e).stay (fun c w' hc q=>(hs.2 c ?_).trans q) (fun _ q=>q) fun _ _ q=>q
  rintro rfl
  rcases hc with rfl | hc
  ·rw [hfree] at e; cases e
  ·rw [hfree] at hc; cases hc
 rcases hx with hk | hk
 ·refine wpAny_storeName_local hk hn (fun h' hn' hs=>?_) hcls
  obtain ⟨oL,_,_,hoL,_⟩:=id hn
  refine h _ ⟨I.ok,I.os,I.bare,⟨fun b o e n hb hx=>?_,fun b o e n hb hx=>?_,I.base.free,fun b o e hx=>?_,I.base.tups,I.base.frzs,I.base.tbls⟩,⟨_,hn',fun j y v' e1 e2 e3=>?_⟩,fun y c e=>?_,I.free,I.freeC,fun p hp=>?_,tracked ⟨oL,hoL,I.free⟩ hs,by simpa using I.len⟩ ⟨_,hs,.inl rfl⟩
  ·exact (hs.2 b (Nat.ne_of_lt (Nat.lt_of_lt_of_le (Heap.lt_size e) I.ok.above))).trans (I.base.keep b o e n hb hx)
  ·obtain ⟨sl,e1⟩:=I.base.slot b o e n hb hx
   exact ⟨sl,(hs.2 b (Nat.ne_of_lt (Nat.lt_of_lt_of_le (Heap.lt_size e) I.ok.above))).trans e1⟩
  ·obtain ⟨o',e1⟩:=I.base.there b o e hx
   exact ⟨o',(hs.2 b (Nat.ne_of_lt (Nat.lt_of_lt_of_le (Heap.lt_size e) I.ok.above))).trans e1⟩
  ·by_cases hj:j=i
   ·subst hj
    rw [hi] at e1; cases e1
    rw [List.getElem?_set_self hiσ] at e2
    cases e2
    exact ⟨u,r,.inl ⟨hk,by simp⟩⟩
   ·rw [List.getElem?_set_ne (Ne.symm hj)] at e2
    obtain ⟨u',r',q⟩:=hl j y v' e1 e2 e3
    refine ⟨u',r',?_⟩
    rcases q with ⟨k,e⟩ | ⟨k,c,e,z⟩
    ·refine .inl ⟨k,?_⟩
     have:y ≠ x:=fun e=>hj (nodup_ix hN e1 (e ▸ hi))
     simp [this,e]
    ·exact .inr ⟨k,c,e,z.sameBut hs (cne y c e)⟩
  ·obtain ⟨w',z⟩:=I.cell y c e
   exact ⟨w',z.sameBut hs (cne y c e)⟩
  ·obtain ⟨e,n,ne,nf,d⟩:=I.pin p hp
   exact ⟨(hs.2 p.1 ne).trans e,n,ne,nf,d⟩
 ·have hfn:X.fn x=true:=by
   rcases hf with z | z
   ·exact z
   ·rw [z] at hk; cases hk
  obtain ⟨c,hc⟩:=I.ok.has x (.inl hk)
  obtain ⟨w',z⟩:=I.cell x c hc
  refine wpAny_storeName_cell I.ok.kind hk hc z (fun h' hc' hs=>?_)
  obtain ⟨oc,hoc,hocd⟩:=id z
  refine h { s with heap:=h' } ⟨I.ok,I.os,I.bare,⟨fun b o e n hb hx=>?_,fun b o e n hb hx=>?_,I.base.free,fun b o e hx=>?_,I.base.tups,I.base.frzs,I.base.tbls⟩,⟨m,hn.sameBut hs (Ne.symm (cne x c hc)),fun j y v' e1 e2 e3=>?_⟩,fun y c' e=>?_,I.free,I.freeC,fun p hp=>?_,tracked ⟨oc,hoc,I.freeC x c hc⟩ hs,by simpa using I.len⟩ ⟨c,hs,.inr hc⟩
  ·exact (hs.2 b (Nat.ne_of_lt (Nat.lt_of_lt_of_le (Heap.lt_size e) (I.ok.cab x c hfn hc)))).trans (I.base.keep b o e n hb hx)
  ·obtain ⟨sl,e1⟩:=I.base.slot b o e n hb hx
   exact ⟨sl,(hs.2 b (Nat.ne_of_lt (Nat.lt_of_lt_of_le (Heap.lt_size e) (I.ok.cab x c hfn hc)))).trans e1⟩
  ·obtain ⟨o',e1⟩:=I.base.there b o e hx
   exact ⟨o',(hs.2 b (Nat.ne_of_lt (Nat.lt_of_lt_of_le (Heap.lt_size e) (I.ok.cab x c hfn hc)))).trans e1⟩
  ·by_cases hj:j=i
   ·subst hj
    rw [hi] at e1; cases e1
    rw [List.getElem?_set_self hiσ] at e2
    cases e2
    exact ⟨u,r,.inr ⟨.inl hk,c,hc,hc'⟩⟩
   ·rw [List.getElem?_set_ne (Ne.symm hj)] at e2
    obtain ⟨u',r',q⟩:=hl j y v' e1 e2 e3
    refine ⟨u',r',?_⟩
    rcases q with q | ⟨k,c',e,z'⟩
    ·exact .inl q
    ·refine .inr ⟨k,c',e,z'.sameBut hs ?_⟩
     rintro rfl
     exact hj (nodup_ix hN e1 (I.ok.inj _ _ _ e hc ▸ hi))
  ·by_cases hcc:c'=c
   ·subst hcc; exact ⟨_,hc'⟩
   ·obtain ⟨w2,z2⟩:=I.cell y c' e
    exact ⟨w2,z2.sameBut hs hcc⟩
  ·obtain ⟨e,n,ne,nf,d⟩:=I.pin p hp
   refine ⟨(hs.2 p.1 ?_).trans e,n,ne,nf,d⟩
   intro q
   rw [q,hoc] at e
   have q':oc=p.2:=Option.some.inj e
   exact d w' (by rw [← q']; exact hocd)
theorem store_ok {M:Model} {A:Around} {E:Value→Shared→Prop} {i:Nat} {x:Str} {v:V} {u:Value} {Q:Unit→Shared→Prop} (I:Inv X pins σ H s) (hN:X.N.Nodup) (hi:X.N[i]?=some x) (hx:Loc X.env.scope x) (r:RelV v u)
  (h:∀ s',Inv X pins (σ.set i (some v)) H s'→Q () s') (hf:X.fn x=true ∨ X.env.scope.names.lookup x=some .local):wpAny M A (storeName X.env x u) Q E s:=
 store_ok2 I hN hi hx r (fun s' I' _=>h s' I') hf
theorem Inv.call' {s':Shared} {ch:List Addr} (I:Inv X pins σ H s) (ho:s'.os=s.os) (u:Un (frs X.stack) ch H H' s.heap s'.heap) (hok:HOk X.prog X.w H' s'.heap) (hg:AllBare s'.gens)
  (hch:∀ b ∈ ch,(b ∈ X.ex ∨ X.s₀.heap.objs.size≤b)∧b ≠ X.env.locals∧(∀ x c,X.env.cells.lookup x=some c→c ≠ b)∧∀ p ∈ X.pn ++ pins,p.1 ≠ b):Inv X pins σ H' s':=by
 obtain ⟨h',g',d',t',o'⟩:=s'
 have e:o'=s.os:=ho
 subst e
 exact I.call (g':=g') (t':=t') (d':=d') u hok hg hch
end
noncomputable abbrev XK:=Value→Option Addr→Hp→Prop
noncomputable abbrev St:=List (Option V)
noncomputable abbrev VK:=V→Hp→Prop
noncomputable abbrev TE:=St→Hp→VK→Prop
noncomputable abbrev TT:=St→Hp→(Bool→Hp→Prop)→Prop
noncomputable abbrev TA:=St→Hp→(List V→Hp→Prop)→Prop
set_option genInjectivity false in
structure Ends where
 nx:St→Hp→Prop
 rt:VK
 bk:St→Hp→Prop:=fun _ _=>False
 ct:St→Hp→Prop:=fun _ _=>False
noncomputable abbrev TS:=Ends→St→Hp→Prop
noncomputable def EP (X:Cx) (pins:List (Addr × Obj)) (σ:St) (Q:VK) (u:Value) (s':Shared):Prop:=∃ v H',Inv X pins σ H' s'∧RelV v u∧Q v H'
noncomputable def TP (X:Cx) (pins:List (Addr × Obj)) (σ:St) (Q:Bool→Hp→Prop) (b:Bool) (s':Shared):Prop:=∃ H',Inv X pins σ H' s'∧Q b H'
noncomputable def AP (X:Cx) (pins:List (Addr × Obj)) (σ:St) (Q:List V→Hp→Prop) (us:List Value) (s':Shared):Prop:=∃ vs H',Inv X pins σ H' s'∧Vals vs us∧Q vs H'
noncomputable def SP (X:Cx) (pins:List (Addr × Obj)) (D:Ends) (f:Flow) (s':Shared):Prop:=
 match f with
 | .next=>∃ σ' H',Inv X pins σ' H' s'∧D.nx σ' H'
 | .brk=>∃ σ' H',Inv X pins σ' H' s'∧D.bk σ' H'
 | .cont=>∃ σ' H',Inv X pins σ' H' s'∧D.ct σ' H'
 | .ret u=>∃ v σ' H',Inv X pins σ' H' s'∧RelV v u∧D.rt v H'
noncomputable def PE (X:Cx) (e:Expr) (t:TE):Prop:=
 ∀ (pins:List (Addr × Obj)) (s:Shared) (σ:St) (H:Hp) (Q:VK),Inv X pins σ H s→t σ H Q→wpAny (model X.prog X.w) X.A (eval e X.env) (EP X pins σ Q) X.xe s
noncomputable def PT (X:Cx) (e:Expr) (t:TT):Prop:=
 ∀ (pins:List (Addr × Obj)) (s:Shared) (σ:St) (H:Hp) (Q:Bool→Hp→Prop),Inv X pins σ H s→t σ H Q→wpAny (model X.prog X.w) X.A (isTrue e X.env (eval e X.env)) (TP X pins σ Q) X.xe s
noncomputable def PW (X:Cx) (e:Expr) (t:TT):Prop:=
 ∀ (whole:Sem Value) (pins:List (Addr × Obj)) (s:Shared) (σ:St) (H:Hp) (Q:Bool→Hp→Prop),Inv X pins σ H s→t σ H Q→wpAny (model X.prog X.w) X.A (isTrue e X.env whole) (TP X pins σ Q) X.xe s
theorem PW.pt {X:Cx} {e:Expr} {t:TT} (h:PW X e t):PT X e t:=h _
noncomputable def PA (X:Cx) (es:List Expr) (t:TA):Prop:=
 ∀ (pos:Pos) (pins:List (Addr × Obj)) (s:Shared) (σ:St) (H:Hp) (Q:List V→Hp→Prop),Inv X pins σ H s→t σ H Q→wpAny (model X.prog X.w) X.A (spliced (backTo pos (starEach es X.env))) (AP X pins σ Q) X.xe s
noncomputable def PS (X:Cx) (st:Stmt) (t:TS):Prop:=
 ∀ (pins:List (Addr × Obj)) (s:Shared) (σ:St) (H:Hp) (D:Ends),Inv X pins σ H s→t D σ H→wpAny (model X.prog X.w) X.A (exec st X.env) (SP X pins D) X.xe s
noncomputable def PSs (X:Cx) (st:List Stmt) (t:TS):Prop:=
 ∀ (pins:List (Addr × Obj)) (s:Shared) (σ:St) (H:Hp) (D:Ends),Inv X pins σ H s→t D σ H→wpAny (model X.prog X.w) X.A (execs st X.env) (SP X pins D) X.xe s
theorem thn {α:Type} {t:Sem α} {Q Q':α→Shared→Prop} {M:Model} {A:Around} {E:Value→Shared→Prop} {s:Shared} (h:wpAny M A t Q E s) (hQ:∀ a s,Q a s→Q' a s):wpAny M A t Q' E s:=wpAny_mono h hQ fun _ _ x=>x
end L2
namespace L2
open PySem PySem.Spec PyProof.Rows
section
variable {X:Cx}
noncomputable def tVar (i:Nat):TE:=fun σ H Q=>∃ v,σ[i]?=some (some v)∧Q v H
noncomputable def tC (v:V):TE:=fun _ H Q=>Q v H
theorem pe_var {i:Nat} {x:Str} {pos:Pos} (hN:X.N[i]?=some x) (hv:Vis X.env.scope x) (hd:autoParam ((x == ("__debug__":Str))=false) Au.h2._auto_1) (hcd:autoParam ((x == ("__classdict__":Str))=false) Au.h2._auto_1):PE X (.Name x pos) (tVar i):=by
 intro pins s σ H Q I h
 obtain ⟨v,e,h⟩:=h
 obtain ⟨m,hn,hl⟩:=I.loc
 obtain ⟨u,r,l⟩:=hl i x v hN e hv
 have fin:EP X pins σ Q u s:=⟨v,H,I,r,h⟩
 rcases l with ⟨hk,hm⟩ | ⟨hk,c,hc,hcell⟩
 ·exact wpAny_Name (wpAny_loadName_local I.ok.kind hk hn hm fin) hd
 ·rcases hk with hk | hk
  ·exact wpAny_Name (wpAny_loadName_cell I.ok.kind hk hc hcell fin) hd
  ·exact wpAny_Name (wpAny_loadName_free I.ok.kind hk hc hcell fin hcd) hd
theorem pe_int {i j pos}:PE X (.Constant (.int i) j pos) (tC (.int i)):=fun _ _ _ H _ I h=>wpAny_Constant_int ⟨.int i,H,I.tok _,⟨_,rfl⟩,h⟩
theorem pe_bl {b j pos}:PE X (.Constant (.bool b) j pos) (tC (.bl b)):=fun _ _ _ H _ I h=>Constant_bool ⟨.bl b,H,I,rfl,h⟩
theorem pe_non {j pos}:PE X (.Constant .none j pos) (tC .non):=fun _ _ _ H _ I h=>Constant_none ⟨.non,H,I,rfl,h⟩
theorem pe_str {x j pos}:PE X (.Constant (.str x) j pos) (tC (.str x)):=fun _ _ _ H _ I h=>Calls.Constant_str ⟨.str x,H,I.tok _,⟨_,rfl⟩,h⟩
noncomputable def Gl (X:Cx) (x:Str):Prop:=X.env.kindOf x=some .globalImplicit
theorem ld_glob {E:Value→Shared→Prop} {pins:List (Addr × Obj)} {s:Shared} {σ:St} {H:Hp} {x:Str} {u:Value} {pos:Pos} {Q:Value→Shared→Prop} (I:Inv X pins σ H s) (hg:Gl X x) (hm:X.mg x=some u) (h:Q u s)
  (hd:autoParam ((x == ("__debug__":Str))=false) Au.h2._auto_1):wpAny (model X.prog X.w) X.A (eval (.Name x pos) X.env) Q E s:=
 Calls.Name_function_global I.ok.kind hg (Calls.loadGlobal_global (by rw [I.ok.glob]; exact I.mod.glob.keeps I.bk) hm h) hd
theorem ld_blt {E:Value→Shared→Prop} {pins:List (Addr × Obj)} {s:Shared} {σ:St} {H:Hp} {x:Str} {u:Value} {pos:Pos} {Q:Value→Shared→Prop} (I:Inv X pins σ H s) (hg:Gl X x) (hm:X.mg x=none) (hv:bootBuiltins x=some u) (h:Q u s)
  (hn:autoParam (x ≠ "__name__") Au.h2._auto_1) (hd:autoParam ((x == ("__debug__":Str))=false) Au.h2._auto_1):wpAny (model X.prog X.w) X.A (eval (.Name x pos) X.env) Q E s:=by
 obtain ⟨mb,h1,h2⟩:=I.mod.blt
 exact Calls.Name_function_global I.ok.kind hg (Calls.loadGlobal_builtin (by rw [I.ok.glob]; exact I.mod.glob.keeps I.bk) hm (by rw [I.ok.blt]; exact h1.keeps I.bk) ((h2 x hn).trans hv) h) hd
theorem pe_glob {x:Str} {v:V} {u:Value} {pos:Pos} (hg:Gl X x) (hm:X.mg x=some u) (r:RelV v u) (hd:autoParam ((x == ("__debug__":Str))=false) Au.h2._auto_1):PE X (.Name x pos) (tC v):=
 fun _ _ _ H _ I h=>ld_glob I hg hm ⟨v,H,I,r,h⟩ hd
theorem pe_bltn {x:Str} {v:V} {u:Value} {pos:Pos} (hg:Gl X x) (hm:X.mg x=none) (hv:bootBuiltins x=some u) (r:RelV v u) (hn:autoParam (x ≠ "__name__") Au.h2._auto_1) (hd:autoParam ((x == ("__debug__":Str))=false) Au.h2._auto_1):PE X (.Name x pos) (tC v):=
 fun _ _ _ H _ I h=>ld_blt I hg hm hv ⟨v,H,I,r,h⟩ hn hd
variable {a b:Expr} {ta tb:TE} {pos:Pos}
noncomputable def tB (t:TE):TT:=fun σ H Q=>t σ H fun x H1=>∃ c,x=.bl c∧Q c H1
theorem pt_val {e:Expr} {t:TE} (h:PE X e t) (he:autoParam (∀ whole,isTrue e X.env whole=(do let v ← whole; standAt e.pos; holding [v] (truthy v))) Au.h5._auto_1):PT X e (tB t):=by
 intro pins s σ H Q I hw
 refine isTrue_plain (thn (h pins s σ H _ I hw) fun v s1 zq=>?_) (he _)
 obtain ⟨x,H1,I1,r1,q1⟩:=zq
 obtain ⟨d,rfl,q⟩:=q1
 cases r1
 exact wpAny_truthy_bool ⟨H1,I1,q⟩
variable {tA tB':TT} {rest:List Expr}
noncomputable def tOr (t u:TT):TT:=fun σ H Q=>t σ H fun c H1=>if c=true then Q true H1 else u σ H1 Q
noncomputable def tNot (t:TT):TT:=fun σ H Q=>t σ H fun c H1=>Q (!c) H1
theorem pw_or1 (ha:PT X a tA):PW X (.BoolOp .Or [a] pos) tA:=by
 intro wh pins s σ H Q I h
 refine isTrue_or (thn (ha pins s σ H Q I h) fun c s1 e=>?_)
 cases c with
 | false=>exact isTrue_or_nil e
 | true=>exact e
theorem pw_or (ha:PT X a tA) (hb:PW X (.BoolOp .Or (b :: rest) pos) tB'):PW X (.BoolOp .Or (a :: b :: rest) pos) (tOr tA tB'):=by
 intro wh pins s σ H Q I h
 refine isTrue_or (thn (ha pins s σ H _ I h) fun c s1 zq=>?_)
 obtain ⟨H1,I1,q1⟩:=zq
 cases c with
 | true=>exact ⟨H1,I1,q1⟩
 | false=>exact hb wh pins s1 σ H1 Q I1 q1
theorem pt_not (ha:PT X a tA):PT X (.UnaryOp .Not a pos) (tNot tA):=by
 intro pins s σ H Q I h
 exact isTrue_not (ha pins s σ H (fun c H1=>Q (!c) H1) I h)
noncomputable def tAndV (ta tb:TE):TE:=fun σ H Q=>ta σ H fun x H1=>∃ c,x=.bl c∧if c=true then tb σ H1 Q else Q (.bl false) H1
noncomputable def tNotV (ta:TE):TE:=fun σ H Q=>ta σ H fun x H1=>∃ c,x=.bl c∧Q (.bl (!c)) H1
theorem pe_one {op} {t:TE} (h:PE X a t):PE X (.BoolOp op [a] pos) t:=fun pins s σ H Q I hw=>BoolOp_one (h pins s σ H Q I hw)
theorem pe_and (ha:PE X a ta) (hb:PE X (.BoolOp .And (b :: rest) pos) tb):PE X (.BoolOp .And (a :: b :: rest) pos) (tAndV ta tb):=by
 intro pins s σ H Q I h
 refine BoolOp_and (thn (ha pins s σ H _ I h) fun v s1 zq=>?_)
 obtain ⟨x,H1,I1,r1,q1⟩:=zq
 obtain ⟨c,rfl,q1⟩:=q1
 cases r1
 refine wpAny_truthy_bool ?_
 cases c with
 | true=>exact hb pins s1 σ H1 Q I1 q1
 | false=>exact ⟨.bl false,H1,I1,rfl,q1⟩
theorem pe_not (ha:PE X a ta):PE X (.UnaryOp .Not a pos) (tNotV ta):=by
 intro pins s σ H Q I h
 refine UnaryOp_ (thn (ha pins s σ H _ I h) fun v s1 zq=>?_)
 obtain ⟨x,H1,I1,r1,q1⟩:=zq
 obtain ⟨c,rfl,q1⟩:=q1
 cases r1
 exact not_of (wpAny_truthy_bool ⟨.bl (!c),H1,I1,rfl,q1⟩)
noncomputable def tIf (t:TT) (ta tb:TE):TE:=fun σ H Q=>t σ H fun c H1=>if c=true then ta σ H1 Q else tb σ H1 Q
theorem pe_ifExp {c:Expr} (hc:PT X c tA) (ha:PE X a ta) (hb:PE X b tb):PE X (.IfExp c a b pos) (tIf tA ta tb):=by
 intro pins s σ H Q I h
 refine wpAny_IfExp (thn (hc pins s σ H _ I h) fun d s1 zq=>?_)
 obtain ⟨H1,I1,q1⟩:=zq
 cases d with
 | true=>exact ha pins s1 σ H1 Q I1 q1
 | false=>exact hb pins s1 σ H1 Q I1 q1
end
end L2
namespace L2
open PySem PySem.Spec PyProof.Rows
noncomputable def SqL (K:PySem.W.Frag) (H:Hp) (a:Addr) (xs:List V):Prop:=
 Rd H a (.lst xs) ∨
  ∃ (o:Obj) (its:Array Value) (n:Nat),K.lookup a=some o∧o.cls=.type "list"∧o.dict=none∧o.data=.seq its n∧its.size≤sizeLine∧Vals xs its.toList
noncomputable def SqT (K:PySem.W.Frag) (H:Hp) (a:Addr) (xs:List V):Prop:=
 Rd H a (.tup xs) ∨
  ∃ (o:Obj) (its:Array Value) (n:Nat),K.lookup a=some o∧o.cls=.type "tuple"∧o.data=.seq its n∧its.size≤sizeLine∧Vals xs its.toList
noncomputable def absV:Value→Option V
 | .none=>some .non
 | .bool b=>some (.bl b)
 | .int i _=>some (.int i)
 | .str x _=>some (.str x)
 | .bytes b _=>some (.byt b)
 | .float b _=>some (.flt b)
 | .ref a=>some (.ref a)
 | .type n=>some (.ty n)
 | _=>none
theorem RelV.abs {x:V} {u:Value} (r:RelV x u):absV u=some x:=by
 cases x with
 | non=>cases r; rfl
 | bl _=>cases r; rfl
 | int _=>obtain ⟨t,rfl⟩:=r; rfl
 | str _=>obtain ⟨t,rfl⟩:=r; rfl
 | byt _=>obtain ⟨t,rfl⟩:=r; rfl
 | flt _=>obtain ⟨t,rfl⟩:=r; rfl
 | ref _=>cases r; rfl
 | ty _=>cases r; rfl
theorem RelV.inj {x y:V} {u:Value} (r:RelV x u) (q:RelV y u):x=y:=Option.some.inj (r.abs.symm.trans q.abs)
theorem Vals.inj:∀ {xs ys:List V} {us:List Value},Vals xs us→Vals ys us→xs=ys
 | _,_,_,.nil,.nil=>rfl
 | _,_,_,.cons r t,.cons r' t'=>by rw [r.inj r',Vals.inj t t']
section
variable {X:Cx} {pins:List (Addr × Obj)} {σ:St} {H:Hp} {s:Shared} {a:Addr} {xs ys:List V}
theorem SqL.of {K:PySem.W.Frag} (h:H a=some (.lst xs)):SqL K H a xs:=.inl (.inl h)
theorem SqT.of {K:PySem.W.Frag} (h:H a=some (.tup xs)):SqT K H a xs:=.inl (.inl h)
theorem Inv.list (I:Inv X pins σ H s) (h:SqL X.K H a xs):∃ its:List Value,Vals xs its∧PlainL s.heap a its.toArray∧xs.length≤sizeLine:=by
 rcases h with h | ⟨o,its,n,hk,hc,hd,hs,hz,r⟩
 ·obtain ⟨z,its,n,r,e⟩:=h.ok I.hok
  exact ⟨its,r,⟨_,n,e,rfl,rfl,rfl⟩,z⟩
 ·refine ⟨its.toList,r,⟨o,n,I.kIn a o hk,hc,hd,by simpa using hs⟩,?_⟩
  have e:=r.length
  simp only [Array.length_toList] at e
  omega
theorem Inv.tuple (I:Inv X pins σ H s) (h:SqT X.K H a xs):∃ its:List Value,Vals xs its∧IsTup s.heap a its.toArray∧xs.length≤sizeLine:=by
 rcases h with h | ⟨o,its,n,hk,hc,hs,hz,r⟩
 ·obtain ⟨z,its,r,p⟩:=h.ok I.hok
  exact ⟨its,r,p,z⟩
 ·refine ⟨its.toList,r,⟨o,I.kIn a o hk,hc,n,by simpa using hs⟩,?_⟩
  have e:=r.length
  simp only [Array.length_toList] at e
  omega
theorem Inv.list_inj (I:Inv X pins σ H s) (h:SqL X.K H a xs) (h':SqL X.K H a ys):xs=ys:=by
 obtain ⟨its,r,⟨o,n,e,_,_,d⟩,_⟩:=I.list h
 obtain ⟨its',r',⟨o',n',e',_,_,d'⟩,_⟩:=I.list h'
 rw [e] at e'; cases e'
 rw [d] at d'
 injection d' with d1 _
 have:its=its':=by simpa using congrArg Array.toList d1
 subst this
 exact r.inj r'
theorem Inv.tuple_inj (I:Inv X pins σ H s) (h:SqT X.K H a xs) (h':SqT X.K H a ys):xs=ys:=by
 obtain ⟨its,r,⟨o,e,_,n,d⟩,_⟩:=I.tuple h
 obtain ⟨its',r',⟨o',e',_,n',d'⟩,_⟩:=I.tuple h'
 rw [e] at e'; cases e'
 rw [d] at d'
 injection d' with d1 _
 have:its=its':=by simpa using congrArg Array.toList d1
 subst this
 exact r.inj r'
end
noncomputable abbrev Cx.wish (X:Cx) (E:Value→Shared→Prop):Cx:={ X with xe:=E }
noncomputable abbrev Cx.nox (X:Cx):Cx:=X.wish fun _ _=>False
theorem Cx.Ok.wish {X:Cx} (ok:X.Ok) (E:Value→Shared→Prop):(X.wish E).Ok:=
 ⟨ok.mod,ok.kind,ok.glob,ok.blt,ok.above,ok.inj,ok.has,ok.cab,ok.hd,ok.frames,ok.stk,ok.exf,ok.bs,ok.bsz,ok.noex,ok.exfs,ok.funs,ok.frf⟩
theorem Cx.Ok.unwish {X:Cx} {E:Value→Shared→Prop} (ok:(X.wish E).Ok):X.Ok:=
 ⟨ok.mod,ok.kind,ok.glob,ok.blt,ok.above,ok.inj,ok.has,ok.cab,ok.hd,ok.frames,ok.stk,ok.exf,ok.bs,ok.bsz,ok.noex,ok.exfs,ok.funs,ok.frf⟩
section
variable {X:Cx} {pins:List (Addr × Obj)} {σ:St} {H:Hp} {s:Shared} {E:Value→Shared→Prop}
theorem Inv.wish (I:Inv X pins σ H s) (E:Value→Shared→Prop):Inv (X.wish E) pins σ H s:=⟨I.ok.wish E,I.os,I.bare,I.base,I.loc,I.cell,I.free,I.freeC,I.pin,I.hok,I.len⟩
theorem Inv.unwish (I:Inv (X.wish E) pins σ H s):Inv X pins σ H s:=⟨I.ok.unwish,I.os,I.bare,I.base,I.loc,I.cell,I.free,I.freeC,I.pin,I.hok,I.len⟩
theorem SP.unwish {D:Ends} {f:Flow} {s':Shared} (h:SP (X.wish E) pins D f s'):SP X pins D f s':=by
 cases f with
 | next=>obtain ⟨σ',H',I,q⟩:=h; exact ⟨σ',H',I.unwish,q⟩
 | brk=>obtain ⟨σ',H',I,q⟩:=h; exact ⟨σ',H',I.unwish,q⟩
 | cont=>obtain ⟨σ',H',I,q⟩:=h; exact ⟨σ',H',I.unwish,q⟩
 | ret u=>obtain ⟨v,σ',H',I,r,q⟩:=h; exact ⟨v,σ',H',I.unwish,r,q⟩
theorem PE.nox {e:Expr} {t:TE} (h:PE X.nox e t):PE X e t:=fun pins s σ H Q I hw=>
 wpAny_mono (h pins s σ H Q (I.wish _) hw) (fun _ _ ⟨v,H',I',r,q⟩=>⟨v,H',I'.unwish,r,q⟩) fun _ _ z=>False.elim z
theorem PT.nox {e:Expr} {t:TT} (h:PT X.nox e t):PT X e t:=fun pins s σ H Q I hw=>
 wpAny_mono (h pins s σ H Q (I.wish _) hw) (fun _ _ ⟨H',I',q⟩=>⟨H',I'.unwish,q⟩) fun _ _ z=>False.elim z
theorem PSs.nox {st:List Stmt} {t:TS} (h:PSs X.nox st t):PSs X st t:=fun pins s σ H D I hw=>
 wpAny_mono (h pins s σ H D (I.wish _) hw) (fun _ _ q=>q.unwish) fun _ _ z=>False.elim z
end
section
variable {X:Cx} {st:Stmt} {rest:List Stmt} {t u:TS} {e:Expr} {te:TE} {pos:Pos}
noncomputable def tNext:TS:=fun D σ H=>D.nx σ H
noncomputable def tSeq (t u:TS):TS:=fun D σ H=>t { D with nx:=u D } σ H
theorem pss_nil:PSs X [] tNext:=fun _ _ σ H _ I h=>wpAny_execs_nil ⟨σ,H,I,h⟩
theorem pss_cons (h1:PS X st t) (h2:PSs X rest u):PSs X (st :: rest) (tSeq t u):=by
 intro pins s σ H D I h
 refine wpAny_execs_cons (thn (h1 pins s σ H { D with nx:=u D } I h) fun f s1 q=>?_)
 cases f with
 | next=>
  obtain ⟨σ',H',I',q⟩:=q
  exact h2 pins s1 σ' H' D I' q
 | ret v=>exact q
 | brk=>exact q
 | cont=>exact q
theorem pss_one (h1:PS X st t):PSs X [st] t:=by
 intro pins s σ H D I h
 refine wpAny_execs_cons (thn (h1 pins s σ H D I h) fun f s1 q=>?_)
 cases f with
 | next=>exact wpAny_execs_nil q
 | ret v=>exact q
 | brk=>exact q
 | cont=>exact q
theorem Inv.quiet {pins:List (Addr × Obj)} {σ:St} {H:Hp} {s:Shared} (I:Inv X pins σ H s):interactive X.env=false:=by simp [interactive,I.ok.kind]
noncomputable def tDrop (te:TE):TS:=fun D σ H=>te σ H fun _ H1=>D.nx σ H1
theorem ps_expr (he:PE X e te) (hs:autoParam (swapsWith e none pos.line X.env=pure false) Au.h1._auto_1):PS X (.Expr e pos) (tDrop te):=by
 intro pins s σ H D I h
 exact wpAny_Expr_any (thn (he pins s σ H _ I h) fun v s1 zq=>ex5 zq fun x H1 I1 r1 q1=>⟨σ,H1,I1,q1⟩) I.quiet hs
noncomputable def tRet (te:TE):TS:=fun D σ H=>te σ H D.rt
theorem ps_ret (he:PE X e te):PS X (.Return (some e) pos) (tRet te):=by
 intro pins s σ H D I h
 exact wpAny_Return_some (thn (he pins s σ H _ I h) fun v s1 zq=>ex5 zq fun x H1 I1 r1 q1=>⟨x,σ,H1,I1,r1,q1⟩)
noncomputable def tIfS (c:TT) (t u:TS):TS:=fun D σ H=>c σ H fun b H1=>if b=true then t D σ H1 else u D σ H1
theorem ps_if {c:Expr} {a b:List Stmt} {tc:TT} (hc:PT X c tc) (ha:PSs X a t) (hb:PSs X b u):PS X (.If c a b pos) (tIfS tc t u):=by
 intro pins s σ H D I h
 refine wpAny_If (thn (hc pins s σ H _ I h) fun d s1 zq=>?_)
 obtain ⟨H1,I1,q1⟩:=zq
 cases d with
 | true=>exact ha pins s1 σ H1 D I1 q1
 | false=>exact hb pins s1 σ H1 D I1 q1
noncomputable def tNever:TS:=fun _ _ _=>False
theorem ps_never:PS X st tNever:=fun _ _ _ _ _ _ h=>h.elim
end
noncomputable abbrev TG:=V→St→Hp→(St→Hp→Prop)→Prop
noncomputable abbrev TGs:=List V→St→Hp→(St→Hp→Prop)→Prop
noncomputable def PG (X:Cx) (target:Expr) (t:TG):Prop:=
 ∀ (pins:List (Addr × Obj)) (s:Shared) (σ:St) (H:Hp) (v:V) (u:Value) (Q:St→Hp→Prop),Inv X pins σ H s→RelV v u→t v σ H Q→
  wpAny (model X.prog X.w) X.A (assign target X.env u) (fun _ s'=>∃ σ' H',Inv X pins σ' H' s'∧Q σ' H') X.xe s
noncomputable def PGs (X:Cx) (ts:List Expr) (t:TGs):Prop:=
 ∀ (pins:List (Addr × Obj)) (s:Shared) (σ:St) (H:Hp) (vs:List V) (us:List Value) (Q:St→Hp→Prop),Inv X pins σ H s→Vals vs us→t vs σ H Q→
  wpAny (model X.prog X.w) X.A (assignInOrder ((assignEach ts X.env).map (·.2)) us) (fun _ s'=>∃ σ' H',Inv X pins σ' H' s'∧Q σ' H') X.xe s
noncomputable abbrev TSet:=V→V→V→Hp→(Hp→Prop)→Prop
noncomputable def PSet (X:Cx) (t:TSet):Prop:=
 ∀ (pins:List (Addr × Obj)) (s:Shared) (σ:St) (H:Hp) (o i v:V) (ov iv u:Value) (Q:Hp→Prop),Inv X pins σ H s→RelV o ov→RelV i iv→RelV v u→t o i v H Q→
  wpAny (model X.prog X.w) X.A (setItem ov iv u) (fun _ s'=>∃ H',Inv X pins σ H' s'∧Q H') X.xe s
section
variable {X:Cx} {pos:Pos}
noncomputable def gName (i:Nat):TG:=fun v σ H Q=>Q (σ.set i (some v)) H
theorem pg_name {i:Nat} {x:Str} (hN:X.N.Nodup) (hi:X.N[i]?=some x) (hx:Loc X.env.scope x) (hf:X.fn x=true ∨ X.env.scope.names.lookup x=some .local):PG X (.Name x pos) (gName i):=by
 intro pins s σ H v u Q I r h
 exact wpAny_assign_Name (store_ok I hN hi hx r (fun s' I'=>⟨_,H,I',h⟩) hf)
noncomputable def gNil:TGs:=fun vs σ H Q=>vs=[]∧Q σ H
noncomputable def gCons (t:TG) (u:TGs):TGs:=fun vs σ H Q=>∃ v r,vs=v :: r∧t v σ H fun σ' H'=>u r σ' H' Q
theorem pgs_nil:PGs X [] gNil:=by
 intro pins s σ H vs us Q I r h
 obtain ⟨e,h⟩:=h
 subst e
 cases r
 exact assignInOrder_nil ⟨σ,H,I,h⟩
theorem pgs_cons {e:Expr} {es:List Expr} {t:TG} {u:TGs} (h1:PG X e t) (h2:PGs X es u)
  (hs:autoParam ((assignEach (e :: es) X.env).map (·.2)=assign e X.env :: (assignEach es X.env).map (·.2)) Au.h1._auto_1):PGs X (e :: es) (gCons t u):=by
 intro pins s σ H vs us Q I r h
 obtain ⟨v,vr,e1,h⟩:=h
 subst e1
 cases r with
 | cons r rr=>
  rw [hs]
  refine assignInOrder_cons (thn (h1 pins s σ H _ _ _ I r h) fun _ s1 zq=>?_)
  obtain ⟨σ1,H1,I1,q1⟩:=zq
  exact h2 pins s1 σ1 H1 _ _ Q I1 rr q1
noncomputable def gTup (K:PySem.W.Frag) (n:Nat) (t:TGs):TG:=fun v σ H Q=>∃ a xs,v=.ref a∧SqT K H a xs∧xs.length=n∧t xs σ H Q
theorem pg_tup {es:List Expr} {k:Nat} {t:TGs} {n:Nat} (hc:X.calm=true) (h:PGs X es t)
  (hn:autoParam ((assignEach es X.env).length=n) Au.h1._auto_1) (hst:autoParam ((assignEach es X.env).findIdx? (·.1)=none) Au.h1._auto_1):PG X (.Tuple es k pos) (gTup X.K n t):=by
 intro pins s σ H v u Q I r hw
 obtain ⟨a,xs,e1,hq,hl,hw⟩:=hw
 subst e1
 cases r
 obtain ⟨its,rv,ht,hz⟩:=I.tuple hq
 refine assign_Tuple_tuple (I.ok.hd hc) ht (by simp [hn,← hl,rv.length]) hst fun h' hx=>?_
 have I1:Inv X pins σ H { s with heap:=h' }:=I.kept (t':=s.toks) fun b o e=>hx b o (Nat.ne_of_lt (Heap.lt_size e)) e
 exact h pins _ σ H xs _ Q I1 (by simpa using rv) hw
noncomputable def gSub (to ti:TE) (t:TSet):TG:=fun v σ H Q=>to σ H fun o H1=>ti σ H1 fun i H2=>t o i v H2 fun H3=>Q σ H3
theorem pg_sub {o i:Expr} {to ti:TE} {t:TSet} (ho:PE X o to) (hi:PE X i ti) (hs:PSet X t)
  (ha:autoParam (∀ v,assign (.Subscript o i pos) X.env v=(do
   let ov ← holding [v] (eval o X.env)
   let iv ← holding [v,ov] (eval i X.env)
   standAt pos
   holding [v,ov,iv] (setItem ov iv v)
   release [v,ov,iv] [])) Au.h5._auto_1):PG X (.Subscript o i pos) (gSub to ti t):=by
 intro pins s σ H v u Q I r h
 rw [ha]
 refine wpAny_bind (wpAny_holding (thn (ho pins s σ H _ I h) fun ov s1 zq=>?_))
 obtain ⟨x,H1,I1,r1,q1⟩:=zq
 refine wpAny_bind (wpAny_holding (thn (hi pins s1 σ H1 _ I1 q1) fun iv s2 zq=>?_))
 obtain ⟨y,H2,I2,r2,q2⟩:=zq
 refine wpAny_bind (wpAny_standAt (wpAny_bind (wpAny_holding (thn (hs pins s2 σ H2 x y v ov iv u _ I2 r1 r2 r q2) fun _ s3 zq=>?_))))
 obtain ⟨H3,I3,q3⟩:=zq
 exact wpAny_release ⟨σ,H3,I3,q3⟩
noncomputable def tAsg (te:TE) (g:TG):TS:=fun D σ H=>te σ H fun x H1=>g x σ H1 D.nx
theorem ps_asg {tg e:Expr} {te:TE} {g:TG} (he:PE X e te) (hg:PG X tg g) (hs:autoParam (swapsWithSole [tg] e pos.line X.env=pure false) Au.h1._auto_1) (hw:autoParam (swappedStores [tg] e X.env=pure none) Au.h1._auto_1)
  (h1:autoParam ((assignEach [tg] X.env).map (·.2)=[assign tg X.env]) Au.h1._auto_1):PS X (.Assign [tg] e pos) (tAsg te g):=by
 intro pins s σ H D I h
 refine wpAny_Assign_stores (thn (he pins s σ H _ I h) fun v s1 zq=>?_) hs hw
 obtain ⟨x,H1,I1,r1,q1⟩:=zq
 rw [h1]
 exact thn (hg pins s1 σ H1 x v _ I1 r1 q1) fun _ s2 q=>q
theorem ps_set {i:Nat} {x:Str} {e:Expr} {te:TE} {pos':Pos} (hN:X.N.Nodup) (hi:X.N[i]?=some x) (hx:Loc X.env.scope x) (he:PE X e te) (hs:autoParam (swapsWith e (some (.Name x pos')) pos.line X.env=pure false) Au.h1._auto_1) (hf:X.fn x=true ∨ X.env.scope.names.lookup x=some .local):
  PS X (.Assign [.Name x pos'] e pos) (tAsg te (gName i)):=by
 intro pins s σ H D I h
 refine wpAny_Assign_Name (thn (he pins s σ H _ I h) fun v s1 zq=>?_) hs
 obtain ⟨y,H1,I1,r1,q1⟩:=zq
 exact store_ok I1 hN hi hx r1 (fun s2 I2=>⟨_,H1,I2,q1⟩) hf
noncomputable def tPar (i j:Nat) (ta:TA):TS:=fun D σ H=>ta σ H fun vs H1=>∃ v w,vs=[v,w]∧D.nx ((σ.set i (some v)).set j (some w)) H1
theorem ps_par {i j:Nat} {x y:Str} {a b:Expr} {ta:TA} {px py pt:Pos} {kt k2 pt2} (hc:X.calm=true) (hN:X.N.Nodup) (hi:X.N[i]?=some x) (hj:X.N[j]?=some y) (hij:i ≠ j)
  (hx:X.env.scope.names.lookup x=some .local) (hy:X.env.scope.names.lookup y=some .local) (ha:PA X [a,b] ta)
  (hw:swappedStores [.Tuple [.Name x px,.Name y py] kt pt] (.Tuple [a,b] k2 pt2) X.env=pure (some [x,y]))
  (hs:autoParam (swapsWithSole [.Tuple [.Name x px,.Name y py] kt pt] (.Tuple [a,b] k2 pt2) pos.line X.env=pure false) Au.h1._auto_1):
  PS X (.Assign [.Tuple [.Name x px,.Name y py] kt pt] (.Tuple [a,b] k2 pt2) pos) (tPar i j ta):=by
 intro pins s σ H D I h
 rw [exec_Assign_arm]
 refine wpAny_bind (wpAny_standAt ?_)
 rw [hs]
 refine wpAny_bind (wpAny_pure ?_)
 rw [if_neg (by decide)]
 refine wpAny_bind (Tuple_ (thn (ha _ pins s σ H _ I h) fun us s1 zq=>?_))
 obtain ⟨vs,H1,I1,r1,q1⟩:=zq
 obtain ⟨v,w,e1,q1⟩:=q1
 subst e1
 obtain ⟨u1,u2,rfl,rv,rw'⟩:∃ u1 u2,us=[u1,u2]∧RelV v u1∧RelV w u2:=by
  cases r1 with
  | cons p q=>
   cases q with
   | cons p' q'=>
    cases q'
    exact ⟨_,_,rfl,p,p'⟩
 refine wpAny_newObj_type ?_ (by show 2≤sizeLine; decide)
 have I2:Inv X pins σ H1 { s1 with heap:=s1.heap.push { cls:=.type "tuple",data:=.seq [u1,u2].toArray } }:=I1.kept (t':=s1.toks) fun b o e=>Heap.get?_push_of_some _ e
 rw [hw]
 refine wpAny_bind (wpAny_pure ?_)
 show wpAny (model X.prog X.w) X.A (do rule "assign.swapped-stores"; let items ← unpackItems (.ref s1.heap.objs.size) 2 none; assignInOrder [fun v=>bindName X.env y v,fun v=>bindName X.env x v] items.reverse; pure Flow.next) _ _ _
 refine wpAny_bind (wpAny_rule (wpAny_bind (unpackItems_tuple (items:=#[u1,u2]) (I.ok.hd hc) (IsTup.new s1.heap _) fun h' hx'=>?_)))
 have I3:=I2.kept (h':=h') (t':=s1.toks) fun b o e=>hx' b o (Nat.ne_of_lt (Heap.lt_size e)) e
 show wpAny _ _ (assignInOrder [fun v=>bindName X.env y v,fun v=>bindName X.env x v] [u2,u1] >>= fun _=>pure Flow.next) _ _ _
 refine wpAny_bind (assignInOrder_cons (wpAny_bindName (store_ok I3 hN hj (.inl hy) rw' (fun s2 I4=>?_) (.inr hy))))
 refine assignInOrder_cons (wpAny_bindName (store_ok I4 hN hi (.inl hx) rv (fun s3 I5=>assignInOrder_nil (wpAny_pure ?_)) (.inr hx)))
 rw [List.set_comm _ _ (Ne.symm hij)] at I5
 exact ⟨_,H1,I5,q1⟩
end
section
variable {X:Cx} {pos:Pos}
end
set_option genInjectivity false in
structure It where
 go:Nat→Hp→Prop
 yld:Nat→Hp→V→Hp→Prop
 stop:Nat→Hp→Prop
noncomputable def FpOk (X:Cx) (pins:List (Addr × Obj)) (H:Hp) (b:Addr):Prop:=
 H b=none∧b ≠ X.env.locals∧b ∉ X.fs∧(b ∈ X.ex ∨ X.s₀.heap.objs.size≤b)∧(∀ x c,X.env.cells.lookup x=some c→c ≠ b)∧∀ p ∈ X.pn ++ pins,p.1 ≠ b
theorem Inv.fpOk {X:Cx} {pins:List (Addr × Obj)} {σ:St} {H H':Hp} {s:Shared} {b:Addr} (I:Inv X pins σ H s) (hb:s.heap.objs.size≤b) (hn:H' b=none):FpOk X pins H' b:=by
 refine ⟨hn,Nat.ne_of_gt (Nat.lt_of_lt_of_le I.lt hb),I.nofs hb,.inr (Nat.le_trans I.sz hb),fun x c e z=>?_,fun p hp z=>?_⟩
 ·obtain ⟨v,q⟩:=I.cell x c e
  exact absurd (Nat.lt_of_lt_of_le q.lt (by rw [z]; exact hb)) (Nat.lt_irrefl _)
 ·exact absurd (Nat.lt_of_lt_of_le (Heap.lt_size (I.pin p hp).1) (by rw [z]; exact hb)) (Nat.lt_irrefl _)
noncomputable def QtH (X:Cx):Prop:=X.A.handled=none ∨ ∃ a o u,X.A.handled=some (.ref a)∧X.H₀ a=some (.frz o u)∧ZO o
noncomputable def Cd (qb:Bool) (X:Cx):Prop:=X.calm=true ∨ (qb=true∧QtH X)
theorem Cd.cm {X:Cx} (h:Cd false X):X.calm=true:=h.elim id fun z=>nomatch z.1
theorem Inv.qt {X:Cx} {pins:List (Addr × Obj)} {σ:List (Option V)} {H:Hp} {s:Shared} {qb:Bool} (I:Inv X pins σ H s) (h:Cd qb X):X.A.handled=none ∨ ∃ a,X.A.handled=some (.ref a)∧s.heap.Zat a:=by
 rcases h with h | ⟨_,h | ⟨a,o,u,e,q,z⟩⟩
 ·exact .inl (I.ok.hd h)
 ·exact .inl h
 ·exact .inr ⟨a,e,o,(I.hok a _ (I.base.frzs a o u q)).1,z⟩
structure Turn (qb:Bool) (P:Program) (w:World) (K:PySem.W.Frag) (tg:Expr) (J:It) (fp:List Addr) (it:Addr) (tn:Nat→Heap→Prop):Prop where
 mem:it ∈ fp
 obj:∀ i h,tn i h→∀ b ∈ fp,∃ o,h.get? b=some o∧∀ v,o.data ≠ .cell v
 keep:∀ i h h',tn i h→(∀ b ∈ fp,∀ o,h.get? b=some o→h'.get? b=some o)→tn i h'
 item:∀ (X:Cx),X.prog=P→X.w=w→X.K=K→Cd qb X→∀ (i:Nat) (pins:List (Addr × Obj)) (s:Shared) (σ:St) (H:Hp) (E:Value→Shared→Prop),Inv X pins σ H s→(∀ b ∈ fp,FpOk X pins H b)→tn i s.heap→J.go i H→
  wpAny (model P w) X.A (pyNext (.ref it)) (fun r s1=>∃ u,r=some u∧
   wpAny (model P w) X.A (letOwnedTupleGo tg (.ref it) u) (fun _ s2=>∃ x H',Inv X pins σ H' s2∧RelV x u∧J.yld i H x H'∧tn (i + 1) s2.heap∧∀ b ∈ fp,H' b=none) E s1) E s
 done:∀ (X:Cx),X.prog=P→X.w=w→X.K=K→Cd qb X→∀ (i:Nat) (pins:List (Addr × Obj)) (s:Shared) (σ:St) (H:Hp) (E:Value→Shared→Prop),Inv X pins σ H s→(∀ b ∈ fp,FpOk X pins H b)→tn i s.heap→J.stop i H→
  wpAny (model P w) X.A (pyNext (.ref it)) (fun r s1=>r=none∧Inv X pins σ H s1) E s
 self:∀ (A:Around) (i:Nat) (s:Shared) (Q:Value→Shared→Prop) (E:Value→Shared→Prop),tn i s.heap→Q (.ref it) s→wpAny (model P w) A (pyIter (.ref it)) Q E s
noncomputable abbrev TI:=St→Hp→(It→Hp→Prop)→Prop
noncomputable def PIEb (qb:Bool) (X:Cx) (pins:List (Addr × Obj)) (σ:St) (tg:Expr) (R:It→Hp→Prop) (itv:Value) (s2:Shared):Prop:=
 ∃ (it:Addr) (fp:List Addr) (tn:Nat→Heap→Prop) (J:It) (H':Hp),itv=.ref it∧Inv X pins σ H' s2∧Turn qb X.prog X.w X.K tg J fp it tn∧tn 0 s2.heap∧(∀ b ∈ fp,FpOk X pins H' b)∧R J H'
noncomputable def PIb (qb:Bool) (X:Cx) (tg iter:Expr) (wi:TI):Prop:=
 ∀ (pins:List (Addr × Obj)) (s:Shared) (σ:St) (H:Hp) (R:It→Hp→Prop),Inv X pins σ H s→wi σ H R→
  wpAny (model X.prog X.w) X.A (eval iter X.env) (fun v s1=>wpAny (model X.prog X.w) X.A (pyIter v) (PIEb qb X pins σ tg R) X.xe s1) X.xe s
noncomputable abbrev PI:=PIb false
theorem go_of {M:Model} {A:Around} {E:Value→Shared→Prop} {s:Shared} {tg:Expr} {it:Addr} {u:Value} {o:Obj} {n:String} {vs:Array Value} {Q:Unit→Shared→Prop} (ho:s.heap.get? it=some o) (hc:o.cls=.type n) (hd:o.data=.fields vs)
    (hn:["enumerate","zip","dict_itemiterator","dict_reverseitemiterator","odict_iterator","itertools.zip_longest","itertools.pairwise"].contains n=false) (hQ:Q () s):wpAny M A (letOwnedTupleGo tg (.ref it) u) Q E s:=by
  unfold letOwnedTupleGo
  cases tg <;> first
    | exact wpAny_pure hQ
    | (cases u <;> first
        | exact wpAny_pure hQ
        | (refine wpAny_bind (wpAny_load ho ?_)
           rw [hc,hd]
           show wpAny M A (if (["enumerate","zip","dict_itemiterator","dict_reverseitemiterator","odict_iterator","itertools.zip_longest","itertools.pairwise"].contains n && vs[0]? == some (rawInt _))=true then _ else _) Q E s
           rw [if_neg (by intro h; rw [hn,Bool.false_and] at h; cases h)]
           exact wpAny_pure hQ))
noncomputable def Itl (K:PySem.W.Frag) (a:Addr):It:=
 ⟨fun i H=>∃ xs x,SqL K H a xs∧xs[i]?=some x,fun i H x H'=>H'=H∧∀ xs,SqL K H a xs→xs[i]?=some x,fun i H=>∃ xs,SqL K H a xs∧xs.length≤i⟩
noncomputable def Itt (K:PySem.W.Frag) (a:Addr):It:=
 ⟨fun i H=>∃ xs x,SqT K H a xs∧xs[i]?=some x,fun i H x H'=>H'=H∧∀ xs,SqT K H a xs→xs[i]?=some x,fun i H=>∃ xs,SqT K H a xs∧xs.length≤i⟩
noncomputable def Itr (lo:Int) (n:Nat):It:=⟨fun i _=>i < n,fun i H x H'=>H'=H∧x=.int (lo + i),fun i _=>n≤i⟩
theorem turn_list {P:Program} {w:World} {K:PySem.W.Frag} {tg:Expr} (a it:Addr):Turn false P w K tg (Itl K a) [it] it (fun i h=>h.IsListIter it a i) where
 mem:=by simp
 obj:=fun i h st b hb=>by
  have e:b=it:=by simpa using hb
  subst e
  obtain ⟨o,e,c,d⟩:=st
  exact ⟨o,e,fun v z=>by rw [d] at z; cases z⟩
 keep:=fun i h h' st k=>st.at fun o e=>k it (by simp) o e
 item:=by
  intro X hP hw hK hc i pins s σ H E I hf st hg
  subst hP hw hK
  obtain ⟨xs,x,hq,hx⟩:=hg
  obtain ⟨its,rv,p,hz⟩:=I.list hq
  obtain ⟨u,hu,ru⟩:=rv.get hx
  obtain ⟨f0,f1,f2,f3,f4,f5⟩:=hf it (by simp)
  refine wpAny_pyNext_list_item st p.isList (x:=u) (by simpa using hu) fun h' st' sb=>?_
  have I1:Inv X pins σ H { s with heap:=h' }:=I.turned (t':=s.toks) (fun b o hb e=>(sb.2 b hb).trans e) f0 f1 f3 f4 f5
  obtain ⟨o,e,c,d⟩:=id st'
  exact ⟨u,rfl,go_of (s:={ s with heap:=h' }) e c d (by decide) ⟨x,H,I1,ru,⟨rfl,fun ys hy=>by rw [I.list_inj hy hq]; exact hx⟩,st',fun b hb=>(hf b hb).1⟩⟩
 done:=by
  intro X hP hw hK hc i pins s σ H E I hf st hg
  subst hP hw hK
  obtain ⟨xs,hq,hx⟩:=hg
  obtain ⟨its,rv,p,hz⟩:=I.list hq
  obtain ⟨f0,f1,f2,f3,f4,f5⟩:=hf it (by simp)
  have hl:=rv.length
  exact wpAny_pyNext_list_end (I.ok.hd hc.cm) st p.isList (by simp; omega) fun h' eb=>⟨rfl,I.turned (t':=s.toks) (fun b o hb e=>eb b o hb e) f0 f1 f3 f4 f5⟩
 self:=fun _ _ _ _ _ st h=>wpAny_pyIter_listiter st h
theorem turn_tuple {P:Program} {w:World} {K:PySem.W.Frag} {tg:Expr} (a it:Addr):Turn false P w K tg (Itt K a) [it] it (fun i h=>h.IsTupleIter it a i) where
 mem:=by simp
 obj:=fun i h st b hb=>by
  have e:b=it:=by simpa using hb
  subst e
  obtain ⟨o,e,c,d⟩:=st
  exact ⟨o,e,fun v z=>by rw [d] at z; cases z⟩
 keep:=fun i h h' st k=>st.at fun o e=>k it (by simp) o e
 item:=by
  intro X hP hw hK hc i pins s σ H E I hf st hg
  subst hP hw hK
  obtain ⟨xs,x,hq,hx⟩:=hg
  obtain ⟨its,rv,p,hz⟩:=I.tuple hq
  obtain ⟨u,hu,ru⟩:=rv.get hx
  obtain ⟨f0,f1,f2,f3,f4,f5⟩:=hf it (by simp)
  refine wpAny_pyNext_tuple_item st (show s.heap.IsTuple a its.toArray from p) (x:=u) (by simpa using hu) fun h' st' sb=>?_
  have I1:Inv X pins σ H { s with heap:=h' }:=I.turned (t':=s.toks) (fun b o hb e=>(sb.2 b hb).trans e) f0 f1 f3 f4 f5
  obtain ⟨o,e,c,d⟩:=id st'
  exact ⟨u,rfl,go_of (s:={ s with heap:=h' }) e c d (by decide) ⟨x,H,I1,ru,⟨rfl,fun ys hy=>by rw [I.tuple_inj hy hq]; exact hx⟩,st',fun b hb=>(hf b hb).1⟩⟩
 done:=by
  intro X hP hw hK hc i pins s σ H E I hf st hg
  subst hP hw hK
  obtain ⟨xs,hq,hx⟩:=hg
  obtain ⟨its,rv,p,hz⟩:=I.tuple hq
  obtain ⟨f0,f1,f2,f3,f4,f5⟩:=hf it (by simp)
  have hl:=rv.length
  exact wpAny_pyNext_tuple_end (I.ok.hd hc.cm) st (show s.heap.IsTuple a its.toArray from p) (by simp; omega) fun h' eb=>⟨rfl,I.turned (t':=s.toks) (fun b o hb e=>eb b o hb e) f0 f1 f3 f4 f5⟩
 self:=fun _ _ _ _ _ st h=>wpAny_pyIter_tupleiter st h
theorem turn_range {qb:Bool} {P:Program} {w:World} {K:PySem.W.Frag} {tg:Expr} (it:Addr) (lo:Int) (n:Nat):Turn qb P w K tg (Itr lo n) [it] it (fun i h=>IsRangeIter h it (lo + (i:Nat) * 1) ((n:Int) - (i:Nat)) 1) where
 mem:=by simp
 obj:=fun i h st b hb=>by
  have e:b=it:=by simpa using hb
  subst e
  exact ⟨_,st,fun v z=>by
   have z':Data.fields _=Data.cell v:=z
   cases z'⟩
 keep:=fun i h h' st k=>k it (by simp) _ st
 item:=by
  intro X hP hw hK hc i pins s σ H E I hf st hg
  subst hP hw hK
  obtain ⟨f0,f1,f2,f3,f4,f5⟩:=hf it (by simp)
  have hg':(i:Nat) < n:=hg
  refine wpAny_pyNext_range_item st (by omega) fun h' st' kk=>?_
  have I1:Inv X pins σ H { s with heap:=h',toks:=s.toks + 1 }:=I.turned (fun b o hb e=>(kk.2 b hb).trans e) f0 f1 f3 f4 f5
  have st2:IsRangeIter h' it (lo + ((i + 1:Nat):Int) * 1) ((n:Int) - ((i + 1:Nat):Int)) 1:=by
   have e1:lo + ((i + 1:Nat):Int) * 1=lo + (i:Nat) * 1 + 1:=by omega
   have e2:(n:Int) - ((i + 1:Nat):Int)=(n:Int) - (i:Nat) - 1:=by omega
   rw [e1,e2]; exact st'
  refine ⟨_,rfl,go_of (s:={ s with heap:=h',toks:=s.toks + 1 }) (n:="range_iterator") st2 rfl rfl (by decide) ⟨.int (lo + i),H,I1,⟨s.toks,?_⟩,⟨rfl,rfl⟩,st2,fun b hb=>(hf b hb).1⟩⟩
  rw [Int.mul_one]
 done:=by
  intro X hP hw hK hc i pins s σ H E I hf st hg
  subst hP hw hK
  obtain ⟨f0,f1,f2,f3,f4,f5⟩:=hf it (by simp)
  have hg':n≤i:=hg
  rcases I.qt hc with hh | ⟨ha,hh,z⟩
  ·exact wpAny_pyNext_range_end hh st (by omega) fun h' eb=>⟨rfl,I.turned (t':=s.toks) (fun b o hb e=>eb b o hb e) f0 f1 f3 f4 f5⟩
  ·exact rangeEndZ hh z st (by omega) fun h' eb=>⟨rfl,I.turned (t':=s.toks) (fun b o hb e=>eb b o hb e) f0 f1 f3 f4 f5⟩
 self:=fun _ _ _ _ _ st h=>wpAny_pyIter_rangeiter st h
end L2
namespace L2
open PySem PySem.Spec PyProof.Rows
section
variable {X:Cx} {tg:Expr}
noncomputable def iList (K:PySem.W.Frag) (tl:TE):TI:=fun σ H R=>tl σ H fun x H1=>∃ a,x=.ref a∧(∃ xs,SqL K H1 a xs)∧R (Itl K a) H1
noncomputable def iTup (K:PySem.W.Frag) (tl:TE):TI:=fun σ H R=>tl σ H fun x H1=>∃ a,x=.ref a∧(∃ xs,SqT K H1 a xs)∧R (Itt K a) H1
theorem pi_list {l:Expr} {tl:TE} (hl:PE X l tl):PI X tg l (iList X.K tl):=by
 intro pins s σ H R I h
 refine thn (hl pins s σ H _ I h) fun v s1 zq=>?_
 obtain ⟨x,H1,I1,r1,q1⟩:=zq
 obtain ⟨a,e,⟨xs,hq⟩,q⟩:=q1
 subst e
 cases r1
 obtain ⟨its,rv,p,hz⟩:=I1.list hq
 refine wpAny_pyIter_list p.isList ?_
 refine ⟨s1.heap.objs.size,[s1.heap.objs.size],_,_,H1,rfl,I1.kept (t':=s1.toks) fun b o e=>Heap.get?_push_of_some _ e,turn_list a _,⟨_,Heap.get?_push_size _ rfl,rfl,rfl⟩,fun b hb=>?_,q⟩
 have e:b=s1.heap.objs.size:=by simpa using hb
 subst e
 exact I1.fpOk (Nat.le_refl _) (I1.hok.fresh (Nat.le_refl _))
theorem pi_tup {l:Expr} {tl:TE} (hl:PE X l tl):PI X tg l (iTup X.K tl):=by
 intro pins s σ H R I h
 refine thn (hl pins s σ H _ I h) fun v s1 zq=>?_
 obtain ⟨x,H1,I1,r1,q1⟩:=zq
 obtain ⟨a,e,⟨xs,hq⟩,q⟩:=q1
 subst e
 cases r1
 obtain ⟨its,rv,p,hz⟩:=I1.tuple hq
 refine wpAny_pyIter_tuple (show s1.heap.IsTuple a its.toArray from p) ?_
 refine ⟨s1.heap.objs.size,[s1.heap.objs.size],_,_,H1,rfl,I1.kept (t':=s1.toks) fun b o e=>Heap.get?_push_of_some _ e,turn_tuple a _,⟨_,Heap.get?_push_size _ rfl,rfl,rfl⟩,fun b hb=>?_,q⟩
 have e:b=s1.heap.objs.size:=by simpa using hb
 subst e
 exact I1.fpOk (Nat.le_refl _) (I1.hok.fresh (Nat.le_refl _))
theorem range_it {qb:Bool} {pins:List (Addr × Obj)} {σ:St} {H:Hp} {s:Shared} {R:It→Hp→Prop} {E:Value→Shared→Prop} {lo hi:Int} {t u v:Tok} {tk:Nat} (I:Inv X pins σ H s) (h1:-(2 ^ 62)≤lo) (h2:lo < 2 ^ 62) (h3:-(2 ^ 62)≤hi) (h4:hi < 2 ^ 62)
  (q:R (Itr lo (hi - lo).toNat) H):wpAny (model X.prog X.w) X.A (pyIter (.ref s.heap.objs.size)) (PIEb qb X pins σ tg R) E { s with heap:=s.heap.push { cls:=.type "range",data:=.fields #[.int lo t,.int hi u,.int 1 v] },toks:=tk }:=by
 refine wpAny_pyIter_range (IsRange.new ..) (small_one h1 h2 h3 h4) ?_
 have I1:Inv X pins σ H { s with heap:=s.heap.push { cls:=.type "range",data:=.fields #[.int lo t,.int hi u,.int 1 v] },toks:=tk }:=I.kept fun b o e=>Heap.get?_push_of_some _ e
 refine ⟨(s.heap.push { cls:=.type "range",data:=.fields #[.int lo t,.int hi u,.int 1 v] }).objs.size,[(s.heap.push { cls:=.type "range",data:=.fields #[.int lo t,.int hi u,.int 1 v] }).objs.size],_,_,H,rfl,
  I1.kept (t':=tk) fun b o e=>Heap.get?_push_of_some _ e,turn_range _ lo (hi - lo).toNat,?_,fun b hb=>?_,q⟩
 ·have e1:lo + ((0:Nat):Int) * 1=lo:=by simp
  have e2:(((hi - lo).toNat:Nat):Int) - ((0:Nat):Int)=Builtin.Range.rangeSize lo hi 1:=by rw [rangeSize_one]; split <;> omega
  show IsRangeIter _ _ (lo + ((0:Nat):Int) * 1) ((((hi - lo).toNat:Nat):Int) - ((0:Nat):Int)) 1
  rw [e1,e2]
  exact Heap.get?_push_size _ rfl
 ·have e:b=(s.heap.push { cls:=.type "range",data:=.fields #[.int lo t,.int hi u,.int 1 v] }).objs.size:=by simpa using hb
  subst e
  exact I1.fpOk (Nat.le_refl _) (I1.hok.fresh (Nat.le_refl _))
noncomputable def iRng1 (ta:TA):TI:=fun σ H R=>ta σ H fun vs H1=>∃ j:Int,vs=[.int j]∧-(2 ^ 62)≤j∧j < 2 ^ 62∧R (Itr 0 j.toNat) H1
theorem pi_range1 {qb:Bool} {a:Expr} {ta:TA} {p pos:Pos} (hg:Gl X "range") (hm:X.mg "range" = none) (ha:PA X [a] ta) (hs:autoParam (starEach [a] X.env=[(false,eval a X.env)]) Au.h1._auto_1):PIb qb X tg (.Call (.Name "range" p) [a] [] pos) (iRng1 ta):=by
 intro pins s σ H R I h
 refine Call_ (ld_blt I hg hm boot_range (PyProof.Rows.callWith_type1 (thn (ha pos pins s σ H _ I h) fun us s1 zq=>?_) hs rfl))
 obtain ⟨vs,H1,I1,r1,q1⟩:=zq
 obtain ⟨j,e,q1,q2,q⟩:=q1
 subst e
 cases r1 with
 | cons r rr=>
  cases rr
  obtain ⟨t,rfl⟩:=r
  exact call_range_1 (range_it I1 (by omega) (by omega) q1 q2 (by simpa using q))
noncomputable def tFor (wi:TI) (g:TG) (tb:TS):TS:=fun D σ H=>wi σ H fun J H1=>∃ W:Nat→Nat→St→Hp→Prop,(∃ m,W 0 m σ H1)∧∀ i m σ H,W i m σ H→
 (J.stop i H∧D.nx σ H) ∨ (J.go i H∧∃ N:St→Hp→Prop,(∀ σ' H',N σ' H'→∃ m',m' < m∧W (i + 1) m' σ' H')∧∀ x H',J.yld i H x H'→g x σ H' fun σ2 H2=>tb { D with nx:=N,ct:=N,bk:=D.nx } σ2 H2)
noncomputable def pinsAt (fp:List Addr) (h:Heap):List (Addr × Obj):=fp.filterMap fun b=>(h.get? b).map fun o=>(b,o)
theorem mem_pinsAt {fp:List Addr} {h:Heap} {b:Addr} {o:Obj} (hb:b ∈ fp) (e:h.get? b=some o):(b,o) ∈ pinsAt fp h:=List.mem_filterMap.mpr ⟨b,hb,by rw [e]; rfl⟩
theorem of_pinsAt {fp:List Addr} {h:Heap} {p:Addr × Obj} (hp:p ∈ pinsAt fp h):p.1 ∈ fp∧h.get? p.1=some p.2:=by
 obtain ⟨b,hb,e⟩:=List.mem_filterMap.mp hp
 cases q:h.get? b with
 | none=>rw [q] at e; cases e
 | some o=>
  rw [q] at e
  have e':(b,o)=p:=Option.some.inj e
  subst e'
  exact ⟨hb,q⟩
theorem Inv.pinned {pins:List (Addr × Obj)} {σ:St} {H:Hp} {s:Shared} {fp:List Addr} (I:Inv X pins σ H s) (hf:∀ b ∈ fp,FpOk X pins H b) (ho:∀ b ∈ fp,∃ o,s.heap.get? b=some o∧∀ v,o.data ≠ .cell v):Inv X (pins ++ pinsAt fp s.heap) σ H s:=
 I.pins_of fun p hp=>(List.mem_append.mp hp).elim (fun z=>I.pin p (List.mem_append_right _ z)) fun z=>by
  obtain ⟨hb,e⟩:=of_pinsAt z
  obtain ⟨f0,f1,f2,_⟩:=hf p.1 hb
  obtain ⟨o,e',d⟩:=ho p.1 hb
  rw [e] at e'; cases e'
  exact ⟨e,f0,f1,f2,d⟩
theorem Inv.unpinned {pins pl:List (Addr × Obj)} {σ:St} {H:Hp} {s:Shared} (I:Inv X (pins ++ pl) σ H s):Inv X pins σ H s:=I.pins_of fun p hp=>I.pin p (List.mem_append_right _ (List.mem_append_left _ hp))
theorem ps_for {iter:Expr} {body:List Stmt} {wi:TI} {g:TG} {tb:TS} {pos:Pos} (hp:PassesOwn (model X.prog X.w) X.A X.env X.xe) (hc:X.calm=true) (hi:PI X tg iter wi) (hg:PG X tg g) (hb:PSs X body tb)
  (hs:autoParam (∀ x,foldedSetIterable iter X.env x=pure x) Au.h5._auto_1):PS X (.For tg iter body [] pos) (tFor wi g tb):=by
 intro pins s σ H D I h
 refine wpAny_For (thn (hi pins s σ H _ I h) fun v s1 h1=>thn h1 fun itv s2 h2=>?_) hs
 obtain ⟨it,fp,tn,J,H2,e,I2,T,st2,f2,W,⟨m0,w0⟩,turn⟩:=h2
 subst e
 -- what stays true of the iterator's objects through the loop
 have stat:∀ {H':Hp},(∀ b ∈ fp,H' b=none)→∀ b ∈ fp,FpOk X pins H' b:=fun hn b hb=>⟨hn b hb,(f2 b hb).2⟩
 refine codeAny_forLoop_any (fun n s'=>∃ i σ' H',Inv X pins σ' H' s'∧tn i s'.heap∧(∀ b ∈ fp,H' b=none)∧W i n σ' H') ?_ m0 ⟨0,σ,H2,I2,st2,fun b hb=>(f2 b hb).1,w0⟩
 rintro n s3 ⟨i,σ3,H3,I3,st3,fr3,w3⟩
 rcases turn i n σ3 H3 w3 with ⟨stop,qn⟩ | ⟨go,N,hN,step⟩
 ·refine wpAny_passesOwn hp (thn (T.done X rfl rfl rfl (.inl hc) i pins s3 σ3 H3 X.xe I3 (stat fr3) st3 stop) fun r s4 zq=>?_)
  obtain ⟨hr,I4⟩:=zq
  subst hr
  exact wpAny_execs_nil ⟨σ3,H3,I4,qn⟩
 ·refine wpAny_passesOwn hp (thn (T.item X rfl rfl rfl (.inl hc) i pins s3 σ3 H3 X.xe I3 (stat fr3) st3 go) fun r s4 zq=>?_)
  obtain ⟨u,hr,h4⟩:=zq
  subst hr
  refine wpAny_passesOwn hp (thn h4 fun _ s5 zq=>?_)
  obtain ⟨x,H5,I5,r5,y5,st5,fr5⟩:=zq
  have I5':=I5.pinned (stat fr5) (T.obj _ _ st5)
  refine wpAny_passesOwn hp (thn (hg _ s5 σ3 H5 x u _ I5' r5 (step x H5 y5)) fun _ s6 zq=>?_)
  obtain ⟨σ6,H6,I6,q6⟩:=zq
  refine wpAny_passesOwn hp (thn (hb _ s6 σ6 H6 _ I6 q6) fun f s7 q7=>?_)
  have again:∀ {σ7:St} {H7:Hp},Inv X (pins ++ pinsAt fp s5.heap) σ7 H7 s7→N σ7 H7→∃ m,m < n∧∃ i σ' H',Inv X pins σ' H' s7∧tn i s7.heap∧(∀ b ∈ fp,H' b=none)∧W i m σ' H':=fun {σ7 H7} I7 n7=>by
   obtain ⟨m',hm,w7⟩:=hN σ7 H7 n7
   refine ⟨m',hm,i + 1,σ7,H7,I7.unpinned,T.keep _ _ _ st5 fun b hb o e=>(I7.pin (b,o) (List.mem_append_right _ (List.mem_append_right _ (mem_pinsAt hb e)))).1,fun b hb=>?_,w7⟩
   obtain ⟨o,e,d⟩:=T.obj _ _ st5 b hb
   exact (I7.pin (b,o) (List.mem_append_right _ (List.mem_append_right _ (mem_pinsAt hb e)))).2.1
  cases f with
  | next=>obtain ⟨σ7,H7,I7,n7⟩:=q7; exact again I7 n7
  | cont=>obtain ⟨σ7,H7,I7,n7⟩:=q7; exact again I7 n7
  | brk=>obtain ⟨σ7,H7,I7,q7⟩:=q7; exact ⟨σ7,H7,I7.unpinned,q7⟩
  | ret v=>obtain ⟨x7,σ7,H7,I7,r7,q7⟩:=q7; exact ⟨x7,σ7,H7,I7.unpinned,r7,q7⟩
end
end L2
namespace L2
open PySem PySem.Spec PyProof.Rows
noncomputable abbrev R2:=V→V→Hp→VK→Prop
noncomputable def OpR (X:Cx) (f:Value→Value→Sem Value) (r:R2):Prop:=
 ∀ (pins:List (Addr × Obj)) (s:Shared) (σ:St) (H:Hp) (x y:V) (v u:Value) (Q:VK),Inv X pins σ H s→RelV x v→RelV y u→r x y H Q→
  wpAny (model X.prog X.w) X.A (f v u) (EP X pins σ Q) X.xe s
noncomputable def UnR (X:Cx) (f:Value→Sem Value) (r:V→Hp→VK→Prop):Prop:=
 ∀ (pins:List (Addr × Obj)) (s:Shared) (σ:St) (H:Hp) (x:V) (v:Value) (Q:VK),Inv X pins σ H s→RelV x v→r x H Q→
  wpAny (model X.prog X.w) X.A (f v) (EP X pins σ Q) X.xe s
noncomputable def CallR (X:Cx) (f:Value) (r:List V→Hp→VK→Prop):Prop:=
 ∀ (pins:List (Addr × Obj)) (s:Shared) (σ:St) (H:Hp) (xs:List V) (us:List Value) (Q:VK),Inv X pins σ H s→Vals xs us→r xs H Q→
  wpAny (model X.prog X.w) X.A (call f us) (EP X pins σ Q) X.xe s
noncomputable def tOp (r:R2) (ta tb:TE):TE:=fun σ H Q=>ta σ H fun x H1=>tb σ H1 fun y H2=>r x y H2 Q
noncomputable def tUn (r:V→Hp→VK→Prop) (ta:TE):TE:=fun σ H Q=>ta σ H fun x H1=>r x H1 Q
noncomputable def rI (C:Int→Int→Prop) (g:Int→Int→V):R2:=fun x y H Q=>∃ i j,x=.int i∧y=.int j∧C i j∧Q (g i j) H
noncomputable def rI0 (g:Int→Int→V):R2:=fun x y H Q=>∃ i j,x=.int i∧y=.int j∧Q (g i j) H
noncomputable def rU (g:Int→V):V→Hp→VK→Prop:=fun x H Q=>∃ i,x=.int i∧Q (g i) H
section
variable {X:Cx} {a b c:Expr} {ta tb tc:TE} {pos:Pos}
theorem binT (ha:PE X a ta) (hb:PE X b tb) {pins:List (Addr × Obj)} {s:Shared} {σ:St} {H:Hp} {R:V→V→Hp→Prop} (I:Inv X pins σ H s)
  (h:ta σ H fun x H1=>tb σ H1 fun y H2=>R x y H2) {Q:Value→Shared→Prop} {f:Value→Value→Sem Value}
  (hf:∀ v u s2 x y H2,Inv X pins σ H2 s2→RelV x v→RelV y u→R x y H2→wpAny (model X.prog X.w) X.A (f v u) Q X.xe s2):
  wpAny (model X.prog X.w) X.A (eval a X.env) (fun v s₁=>wpAny (model X.prog X.w) X.A (eval b X.env) (fun u s₂=>wpAny (model X.prog X.w) X.A (f v u) Q X.xe s₂) X.xe s₁) X.xe s:=by
 refine thn (ha pins s σ H _ I h) fun v s1 zq=>?_
 obtain ⟨x,H1,I1,r1,q1⟩:=zq
 refine thn (hb pins s1 σ H1 _ I1 q1) fun u s2 zq=>?_
 obtain ⟨y,H2,I2,r2,q2⟩:=zq
 exact hf v u s2 x y H2 I2 r1 r2 q2
theorem pe_op {op:Operator} {r:R2} (ho:OpR X (binaryOp op) r) (ha:PE X a ta) (hb:PE X b tb):PE X (.BinOp a op b pos) (tOp r ta tb):=by
 intro pins s σ H Q I h
 exact wpAny_BinOp (binT ha hb I h fun v u s2 x y H2 I2 rx ry q=>ho pins s2 σ H2 x y v u Q I2 rx ry q)
theorem pe_un {op:UnaryOp} {r:V→Hp→VK→Prop} (ho:UnR X (unaryOp op) r) (ha:PE X a ta):PE X (.UnaryOp op a pos) (tUn r ta):=by
 intro pins s σ H Q I h
 exact UnaryOp_ (thn (ha pins s σ H _ I h) fun v s1 zq=>ex5 zq fun x H1 I1 r1 q1=>ho pins s1 σ H1 x v Q I1 r1 q1)
theorem opI {f:Value→Value→Sem Value} {C:Int→Int→Prop} {g:Int→Int→Int}
  (rule:∀ (i j:Int) (t u:Tok) (s:Shared) (Q:Value→Shared→Prop) (E:Value→Shared→Prop),C i j→Q (.int (g i j) s.toks) { s with toks:=s.toks + 1 }→wpAny (model X.prog X.w) X.A (f (.int i t) (.int j u)) Q E s):
  OpR X f (rI C fun i j=>.int (g i j)):=by
 intro pins s σ H x y v u Q I rx ry h
 obtain ⟨i,j,rfl,rfl,hc,q⟩:=h
 obtain ⟨t,rfl⟩:=rx
 obtain ⟨t',rfl⟩:=ry
 exact rule i j t t' s _ _ hc ⟨.int (g i j),H,I.tok _,⟨_,rfl⟩,q⟩
theorem opI0 {f:Value→Value→Sem Value} {g:Int→Int→Int}
  (rule:∀ (i j:Int) (t u:Tok) (s:Shared) (Q:Value→Shared→Prop) (E:Value→Shared→Prop),Q (.int (g i j) s.toks) { s with toks:=s.toks + 1 }→wpAny (model X.prog X.w) X.A (f (.int i t) (.int j u)) Q E s):
  OpR X f (rI0 fun i j=>.int (g i j)):=by
 intro pins s σ H x y v u Q I rx ry h
 obtain ⟨i,j,rfl,rfl,q⟩:=h
 obtain ⟨t,rfl⟩:=rx
 obtain ⟨t',rfl⟩:=ry
 exact rule i j t t' s _ _ ⟨.int (g i j),H,I.tok _,⟨_,rfl⟩,q⟩
theorem opB0 {f:Value→Value→Sem Value} {g:Int→Int→Bool}
  (rule:∀ (i j:Int) (t u:Tok) (s:Shared) (Q:Value→Shared→Prop) (E:Value→Shared→Prop),Q (.bool (g i j)) s→wpAny (model X.prog X.w) X.A (f (.int i t) (.int j u)) Q E s):
  OpR X f (rI0 fun i j=>.bl (g i j)):=by
 intro pins s σ H x y v u Q I rx ry h
 obtain ⟨i,j,rfl,rfl,q⟩:=h
 obtain ⟨t,rfl⟩:=rx
 obtain ⟨t',rfl⟩:=ry
 exact rule i j t t' s _ _ ⟨.bl (g i j),H,I,rfl,q⟩
noncomputable def CDiv (i j:Int):Prop:=0 < j∧j < 1073741824
noncomputable def CPow (i j:Int):Prop:=0≤j∧j≤1000000∧i.natAbs < 2 ^ 64
noncomputable def CMul (i j:Int):Prop:=(-(2 ^ 64) < i∧i < 2 ^ 64) ∨ (-(2 ^ 64) < j∧j < 2 ^ 64)
theorem CMul.ok {i j:Int} (h:CMul i j):IntMulOk i j:=by
 rcases h with ⟨h1,h2⟩ | ⟨h1,h2⟩
 ·exact .of_left (intBits_le_64 h1 h2)
 ·exact .of_right (intBits_le_64 h1 h2)
theorem op_add:OpR X (binaryOp .Add) (rI0 fun i j=>.int (i + j)):=opI0 fun _ _ _ _ _ _ _ q=>add_int q
theorem op_sub:OpR X (binaryOp .Sub) (rI0 fun i j=>.int (i - j)):=opI0 fun _ _ _ _ _ _ _ q=>sub_int q
theorem op_mul:OpR X (binaryOp .Mult) (rI CMul fun i j=>.int (i * j)):=opI fun _ _ _ _ _ _ _ hc q=>mul_int q hc.ok
theorem op_fdiv:OpR X (binaryOp .FloorDiv) (rI CDiv fun i j=>.int (i / j)):=opI fun i j _ _ _ _ _ hc q=>by
 have h1:(0:Int) < j:=hc.1
 have h2:j < 1073741824:=hc.2
 exact floordiv_int (by omega) (by rw [Int.fdiv_eq_ediv_of_nonneg i (by omega)]; exact q) (.inl (PyProof.noPylong_small (by omega)))
theorem op_mod:OpR X (binaryOp .Mod) (rI (fun _ j=>0 < j) fun i j=>.int (i % j)):=opI fun i j _ _ _ _ _ hc q=>by
 have h1:(0:Int) < j:=hc
 exact mod_int' (by omega) (by rw [Int.fmod_eq_emod_of_nonneg i (by omega)]; exact q)
theorem op_pow:OpR X (binaryOp .Pow) (rI CPow fun i j=>.int (i ^ j.toNat)):=opI fun _ _ _ _ _ _ _ hc q=>pow_int_small hc.1 hc.2.1 hc.2.2 q
theorem op_shl:OpR X (binaryOp .LShift) (rI CPow fun i j=>.int (i * 2 ^ j.toNat)):=opI fun _ _ _ _ _ _ _ hc q=>lshift_int_small hc.1 hc.2.1 hc.2.2 q
theorem unI {f:Value→Sem Value} {g:Int→Int}
  (rule:∀ (i:Int) (t:Tok) (s:Shared) (Q:Value→Shared→Prop) (E:Value→Shared→Prop),Q (.int (g i) s.toks) { s with toks:=s.toks + 1 }→wpAny (model X.prog X.w) X.A (f (.int i t)) Q E s):
  UnR X f (rU fun i=>.int (g i)):=by
 intro pins s σ H x v Q I rx h
 obtain ⟨i,rfl,q⟩:=h
 obtain ⟨t,rfl⟩:=rx
 exact rule i t s _ _ ⟨.int (g i),H,I.tok _,⟨_,rfl⟩,q⟩
theorem un_neg:UnR X (unaryOp .USub) (rU fun i=>.int (-i)):=unI fun _ _ _ _ _ q=>neg_int q
end
noncomputable def scal:V→V→Bool
 | .non,.non=>true | .non,.int _=>true | .int _,.non=>true | .non,.bl _=>true | .bl _,.non=>true | .non,.str _=>true | .str _,.non=>true
 | .int _,.int _=>true | .bl _,.bl _=>true | .str _,.str _=>true | .byt _,.byt _=>true
 | .int _,.str _=>true | .str _,.int _=>true | .bl _,.str _=>true | .str _,.bl _=>true
 | _,_=>false
noncomputable def rEq:R2:=fun x y H Q=>scal x y=true∧Q (.bl (decide (x=y))) H
noncomputable def rNe:R2:=fun x y H Q=>scal x y=true∧Q (.bl (!decide (x=y))) H
theorem dec_int {i j:Int}:decide (V.int i=V.int j)=(i == j):=by
 rw [Bool.eq_iff_iff]
 simp
theorem dec_bl {i j:Bool}:decide (V.bl i=V.bl j)=(i == j):=by
 rw [Bool.eq_iff_iff]
 simp
theorem dec_str {i j:Str}:decide (V.str i=V.str j)=(i == j):=by
 rw [Bool.eq_iff_iff]
 simp
theorem dec_byt {i j:Array UInt8}:decide (V.byt i=V.byt j)=(i.toList == j.toList):=by
 rw [Bool.eq_iff_iff]
 cases i
 cases j
 simp
section
variable {X:Cx} {a b c:Expr} {ta tb tc:TE} {pos:Pos}
theorem fin_bl {pins:List (Addr × Obj)} {σ:St} {H:Hp} {s:Shared} {Q:VK} {k k':Bool} (I:Inv X pins σ H s) (q:Q (.bl k) H) (e:k=k'):EP X pins σ Q (.bool k') s:=by
 subst e
 exact ⟨.bl k,H,I,rfl,q⟩
theorem op_eq:OpR X (compareOp .Eq) rEq:=by
 intro pins s σ H x y v u Q I rx ry h
 obtain ⟨hs,q⟩:=h
 cases x with
 | non=>
  cases rx
  cases y with
  | non=>cases ry; exact PySem.EqNone.eq_none_none (fin_bl I q (by simp))
  | bl j=>cases ry; exact PySem.EqNone.eq_none_bool (fin_bl I q (by simp))
  | int j=>obtain ⟨t',rfl⟩:=ry; exact PySem.EqNone.eq_none_int (fin_bl I q (by simp))
  | str j=>obtain ⟨t',rfl⟩:=ry; exact PySem.EqNone.eq_none_str (fin_bl I q (by simp))
  | _=>exact absurd (show false=true from hs) Bool.false_ne_true
 | bl i=>
  cases rx
  cases y with
  | non=>cases ry; exact PySem.EqNone.eq_bool_none (fin_bl I q (by simp))
  | bl j=>cases ry; exact eq_bool (fin_bl I q dec_bl)
  | str j=>obtain ⟨t',rfl⟩:=ry; exact PySem.EqMixed.eq_bool_str (fin_bl I q (by simp))
  | _=>exact absurd (show false=true from hs) Bool.false_ne_true
 | int i=>
  obtain ⟨t,rfl⟩:=rx
  cases y with
  | non=>cases ry; exact PySem.EqNone.eq_int_none (fin_bl I q (by simp))
  | int j=>obtain ⟨t',rfl⟩:=ry; exact eq_int (fin_bl I q dec_int)
  | str j=>obtain ⟨t',rfl⟩:=ry; exact PySem.EqMixed.eq_int_str (fin_bl I q (by simp))
  | _=>exact absurd (show false=true from hs) Bool.false_ne_true
 | str i=>
  obtain ⟨t,rfl⟩:=rx
  cases y with
  | non=>cases ry; exact PySem.EqNone.eq_str_none (fin_bl I q (by simp))
  | bl j=>cases ry; exact PySem.EqMixed.eq_str_bool (fin_bl I q (by simp))
  | int j=>obtain ⟨t',rfl⟩:=ry; exact PySem.EqMixed.eq_str_int (fin_bl I q (by simp))
  | str j=>obtain ⟨t',rfl⟩:=ry; exact eq_str (fin_bl I q dec_str)
  | _=>exact absurd (show false=true from hs) Bool.false_ne_true
 | byt i=>
  obtain ⟨t,rfl⟩:=rx
  cases y with
  | byt j=>obtain ⟨t',rfl⟩:=ry; exact PySem.W.eq_bytes (fin_bl I q dec_byt)
  | _=>exact absurd (show false=true from hs) Bool.false_ne_true
 | _=>cases y <;> exact absurd (show false=true from hs) Bool.false_ne_true
theorem op_ne:OpR X (compareOp .NotEq) rNe:=by
 intro pins s σ H x y v u Q I rx ry h
 obtain ⟨hs,q⟩:=h
 cases x with
 | non=>
  cases rx
  cases y with
  | non=>cases ry; exact PySem.EqNone.ne_none_none (fin_bl I q (by simp))
  | bl j=>cases ry; exact PySem.EqNone.ne_none_bool (fin_bl I q (by simp))
  | int j=>obtain ⟨t',rfl⟩:=ry; exact PySem.EqNone.ne_none_int (fin_bl I q (by simp))
  | str j=>obtain ⟨t',rfl⟩:=ry; exact PySem.EqNone.ne_none_str (fin_bl I q (by simp))
  | _=>exact absurd (show false=true from hs) Bool.false_ne_true
 | bl i=>
  cases rx
  cases y with
  | non=>cases ry; exact PySem.EqNone.ne_bool_none (fin_bl I q (by simp))
  | bl j=>cases ry; exact ne_bool (fin_bl I q (congrArg not dec_bl))
  | str j=>obtain ⟨t',rfl⟩:=ry; exact PySem.EqMixed.ne_bool_str (fin_bl I q (by simp))
  | _=>exact absurd (show false=true from hs) Bool.false_ne_true
 | int i=>
  obtain ⟨t,rfl⟩:=rx
  cases y with
  | non=>cases ry; exact PySem.EqNone.ne_int_none (fin_bl I q (by simp))
  | int j=>obtain ⟨t',rfl⟩:=ry; exact ne_int (fin_bl I q (congrArg not dec_int))
  | str j=>obtain ⟨t',rfl⟩:=ry; exact PySem.EqMixed.ne_int_str (fin_bl I q (by simp))
  | _=>exact absurd (show false=true from hs) Bool.false_ne_true
 | str i=>
  obtain ⟨t,rfl⟩:=rx
  cases y with
  | non=>cases ry; exact PySem.EqNone.ne_str_none (fin_bl I q (by simp))
  | bl j=>cases ry; exact PySem.EqMixed.ne_str_bool (fin_bl I q (by simp))
  | int j=>obtain ⟨t',rfl⟩:=ry; exact PySem.EqMixed.ne_str_int (fin_bl I q (by simp))
  | str j=>obtain ⟨t',rfl⟩:=ry; exact ne_str (fin_bl I q (congrArg not dec_str))
  | _=>exact absurd (show false=true from hs) Bool.false_ne_true
 | byt i=>
  obtain ⟨t,rfl⟩:=rx
  cases y with
  | byt j=>obtain ⟨t',rfl⟩:=ry; exact PySem.W.ne_bytes (fin_bl I q (congrArg not dec_byt))
  | _=>exact absurd (show false=true from hs) Bool.false_ne_true
 | _=>cases y <;> exact absurd (show false=true from hs) Bool.false_ne_true
theorem op_lt:OpR X (compareOp .Lt) (rI0 fun i j=>.bl (decide (i < j))):=opB0 fun _ _ _ _ _ _ _ q=>lt_int q
theorem op_gt:OpR X (compareOp .Gt) (rI0 fun i j=>.bl (decide (j < i))):=opB0 fun _ _ _ _ _ _ _ q=>gt_int q
theorem op_ge:OpR X (compareOp .GtE) (rI0 fun i j=>.bl (decide (j≤i))):=opB0 fun _ _ _ _ _ _ _ q=>ge_int q
theorem nomark (b:Expr) {op:CmpOp} (h:autoParam (op ≠ .In) Au.h2._auto_1) (h2:autoParam (op ≠ .NotIn) Au.h2._auto_1):behindInMarks op b=false:=by
 have e1:(op == CmpOp.In)=false:=by cases op <;> first | rfl | exact absurd rfl h
 have e2:(op == CmpOp.NotIn)=false:=by cases op <;> first | rfl | exact absurd rfl h2
 cases b <;> simp [behindInMarks,e1,e2]
theorem pe_cmpR {op:CmpOp} {r:R2} (ho:OpR X (compareOp op) r) (ha:PE X a ta) (hb:PE X b tb) (hm:behindInMarks op b=false):PE X (.Compare a [op] [b] pos) (tOp r ta tb):=by
 intro pins s σ H Q I h
 exact wpAny_Compare1 (binT ha hb I h fun v u s2 x y H2 I2 rx ry q=>ho pins s2 σ H2 x y v u Q I2 rx ry q) hm
noncomputable def tTest (t:TE):TT:=fun σ H Q=>t σ H fun x H'=>∃ k,x=.bl k∧Q k H'
theorem pt_cmpR {op:CmpOp} {r:R2} (ho:OpR X (compareOp op) r) (ha:PE X a ta) (hb:PE X b tb) (hm:behindInMarks op b=false):PT X (.Compare a [op] [b] pos) (tTest (tOp r ta tb)):=by
 intro pins s σ H Q I h
 refine wpAny_isTrue_Compare1 (thn (ha pins s σ H _ I h) fun v s1 zq=>ex5 zq fun x H1 I1 r1 q1=>thn (hb pins s1 σ H1 _ I1 q1) fun u s2 zq=>ex5 zq fun y H2 I2 r2 q2=>
  thn (ho pins s2 σ H2 x y v u _ I2 r1 r2 q2) fun c s3 ⟨z,H3,I3,r3,k,e,q3⟩=>?_) hm
 subst e
 cases r3
 exact wpAny_truthy_bool ⟨H3,I3,q3⟩
theorem line63:(sizeLine:Nat) < 2 ^ 63:=by rw [sizeLine_eq]; decide
theorem op_add_str:OpR X (binaryOp .Add) (fun x y H Q=>∃ i j,x=.str i∧y=.str j∧i.length + j.length≤sizeLine∧Q (.str (i ++ j)) H):=by
 intro pins s σ H x y v u Q I rx ry h
 obtain ⟨i,j,rfl,rfl,hz,q⟩:=h
 obtain ⟨t,rfl⟩:=rx
 obtain ⟨t',rfl⟩:=ry
 exact add_str (fun t' tk=>⟨.str (i ++ j),H,I.tok _,⟨_,rfl⟩,q⟩) hz
theorem vals1 {x:V} {us:List Value} (r:Vals [x] us):∃ u,us=[u]∧RelV x u:=by
 cases r with
 | cons r1 r2=>cases r2; exact ⟨_,rfl,r1⟩
theorem vals2 {x y:V} {us:List Value} (r:Vals [x,y] us):∃ u w',us=[u,w']∧RelV x u∧RelV y w':=by
 cases r with
 | cons r1 r2=>
  cases r2 with
  | cons r3 r4=>cases r4; exact ⟨_,_,rfl,r1,r3⟩
theorem call_abs:CallR X (.builtin "abs") (fun xs H Q=>∃ i,xs=[.int i]∧Q (.int (if i < 0 then -i else i)) H):=by
 intro pins s σ H xs us Q I r h
 obtain ⟨i,rfl,q⟩:=h
 obtain ⟨u,rfl,t,rfl⟩:=vals1 r
 exact call_abs_int fun u tk=>⟨.int (if i < 0 then -i else i),H,I.tok _,⟨_,rfl⟩,q⟩
theorem call_max2 (hc:X.calm=true):CallR X (.builtin "max") (fun xs H Q=>∃ i j,xs=[.int i,.int j]∧Q (.int (if j > i then j else i)) H):=by
 intro pins s σ H xs us Q I r h
 obtain ⟨i,j,rfl,q⟩:=h
 obtain ⟨u,w',rfl,⟨t,rfl⟩,⟨t',rfl⟩⟩:=vals2 r
 refine max_two_ints (I.ok.hd hc) fun h' tk k=>⟨_,H,I.kept k,?_,q⟩
 by_cases hj:j > i
 ·rw [if_pos hj,if_pos hj]; exact ⟨_,rfl⟩
 ·rw [if_neg hj,if_neg hj]; exact ⟨_,rfl⟩
theorem call_min2 (hc:X.calm=true):CallR X (.builtin "min") (fun xs H Q=>∃ i j,xs=[.int i,.int j]∧Q (.int (if j < i then j else i)) H):=by
 intro pins s σ H xs us Q I r h
 obtain ⟨i,j,rfl,q⟩:=h
 obtain ⟨u,w',rfl,⟨t,rfl⟩,⟨t',rfl⟩⟩:=vals2 r
 refine min_two_ints (I.ok.hd hc) fun h' tk k=>⟨_,H,I.kept k,?_,q⟩
 by_cases hj:j < i
 ·rw [if_pos hj,if_pos hj]; exact ⟨_,rfl⟩
 ·rw [if_neg hj,if_neg hj]; exact ⟨_,rfl⟩
theorem call_int1:CallR X (.type "int") (fun xs H Q=>(∃ i,xs=[.int i]∧Q (.int i) H) ∨ ∃ k,xs=[.bl k]∧Q (.int (if k then 1 else 0)) H):=by
 intro pins s σ H xs us Q I r h
 rcases h with ⟨i,rfl,q⟩ | ⟨k,rfl,q⟩
 ·obtain ⟨u,rfl,t,rfl⟩:=vals1 r
  exact call_int_int ⟨.int i,H,I,⟨_,rfl⟩,q⟩
 ·obtain ⟨u,rfl,r1⟩:=vals1 r
  cases r1
  exact call_int_bool ⟨.int (if k then 1 else 0),H,I.tok _,⟨_,rfl⟩,q⟩
theorem call_divmod:CallR X (.builtin "divmod") (fun xs H Q=>∃ i j,xs=[.int i,.int j]∧CDiv i j∧∀ p,H p=none→Q (.ref p) (upd H p (.tup [.int (i / j),.int (i % j)]))):=by
 intro pins s σ H xs us Q I r h
 obtain ⟨i,j,rfl,⟨h1,h2⟩,q⟩:=h
 obtain ⟨u,w',rfl,⟨t,rfl⟩,⟨t',rfl⟩⟩:=vals2 r
 refine divmod_int (by omega) ?_ (.inl (PyProof.noPylong_small (by omega)))
 rw [Int.fdiv_eq_ediv_of_nonneg i (by omega),Int.fmod_eq_emod_of_nonneg i (by omega)]
 have hn:H s.heap.objs.size=none:=I.hok.fresh (Nat.le_refl _)
 refine ⟨.ref s.heap.objs.size,_,?_,rfl,q _ hn⟩
 refine I.laid (fun b o e=>Heap.get?_push_of_some _ e) (Nat.le_refl _) ⟨by simp only [List.length_cons,List.length_nil]; rw [sizeLine_eq]; decide,[.int (i / j) s.toks,.int (i % j) (s.toks + 1)],.cons ⟨_,rfl⟩ (.cons ⟨_,rfl⟩ .nil),?_⟩
 exact ⟨_,Heap.get?_push_size s.heap rfl,rfl,0,rfl⟩
end
end L2
namespace L2
open PySem PySem.Spec PyProof.Rows
structure ObjM (h:Heap) (x dx C:Addr) (mA:Str→Option Value):Prop where
 obj:h.get? x=some (PySem.W.instObj C dx)
 ns:h.Ns1 dx mA
 ne:dx ≠ x
theorem lookIn_ns {h:Heap} {dx:Addr} {mA:Str→Option Value} (n:h.Ns1 dx mA):∃ od,h.get? dx=some od∧∀ name,PySem.W.lookIn name od=some (mA name):=by
 obtain ⟨o,es,ep,ho,hd,hk,_,hm⟩:=n
 refine ⟨o,ho,fun name=>?_⟩
 have e:=hm name
 unfold nsFind findBy at e
 rw [← Array.find?_toList] at e
 unfold PySem.W.lookIn
 rw [hd]
 dsimp only
 split
 ·rename_i y q
  rw [q] at e
  exact congrArg some e
 ·rename_i q
  rw [q] at e
  have a:es.toList.any (·.refKey)=false:=by
   rw [List.any_eq_false]
   intro y hy
   obtain ⟨z,t,hkey⟩:=hk y (Array.mem_toList_iff.mp hy)
   simp [DictEntry.refKey,hkey]
  have a':¬ es.toList.any (·.refKey)=true:=by rw [a]; exact Bool.false_ne_true
  rw [if_neg a']
  exact congrArg some e
theorem ObjM.look {h:Heap} {x dx C:Addr} {mA:Str→Option Value} (I:ObjM h x dx C mA):∃ od,PySem.W.InstAt h x (PySem.W.instObj C dx) C (some od)∧∀ name,PySem.W.lookIn name od=some (mA name):=
 let ⟨od,ho,hl⟩:=lookIn_ns I.ns
 ⟨od,⟨I.obj,rfl,rfl,ho⟩,hl⟩
section
variable {prog:Program} {w:World} {A:Around} {E:Value→Shared→Prop} {s:Shared} {K:PySem.W.Frag} {x dx C f:Addr} {mA:Str→Option Value} {name:Str} {v:Value}
end
section
variable {P:Program} {w:World} {H H':Hp} {h h':Heap} {a C dx:Addr} {fs fs':List (Str × V)}
theorem ins_get (hok:HOk P w H h) (e:H a=some (.ins C dx fs)):∃ mA,ObjM h a dx C mA∧(∀ f,RelO (fs.lookup f) (mA f))∧PySem.Within mA (fs.map (·.1))∧fs.length≤1000∧H dx=some (.own a):=by
 obtain ⟨d,z,ne,ob,mA,n,r,q⟩:=(show ObjOk P w H h a (.ins C dx fs) from hok a _ e)
 exact ⟨mA,⟨ob,n,ne⟩,r,q,z,d⟩
end
structure Cls (K:PySem.W.Frag) (C:Addr):Prop where
 pg:PySem.W.plainGet K C Str.empty=true
 hd:PySem.W.hasDictIn K C=true
 po:PySem.W.plainOver K C=true
 sa:PySem.W.findIn K (.ref C) "__setattr__" = some (some (.builtin "object.__setattr__"))
theorem Cls.get {K:PySem.W.Frag} {C:Addr} (c:Cls K C) (f:Str):PySem.W.plainGet K C f=true:=c.pg
section
variable {X:Cx} {pins:List (Addr × Obj)} {σ:St} {H:Hp} {s:Shared} {a C dx:Addr} {fs:List (Str × V)} {f:Str} {v:V} {A:Around} {E:Value→Shared→Prop}
end
section
variable {X:Cx} {o e value:Expr} {f:Str} {pos pos' tpos:Pos} {ta tv:TE}
end
section
variable {X:Cx} {pins:List (Addr × Obj)} {σ:St} {H:Hp} {s:Shared} {A:Around} {E:Value→Shared→Prop} {Q:Value→Shared→Prop} {c:Value} {b:Bool}
inductive TyOf (K:PySem.W.Frag) (H:Hp):V→Value→Prop where
 | non:TyOf K H .non (.type "NoneType")
 | bl (x:Bool):TyOf K H (.bl x) (.type "bool")
 | int (i:Int):TyOf K H (.int i) (.type "int")
 | str (x:Str):TyOf K H (.str x) (.type "str")
 | flt (x:UInt64):TyOf K H (.flt x) (.type "float")
 | lst {a:Addr} {xs:List V} (e:H a=some (.lst xs)):TyOf K H (.ref a) (.type "list")
 | frz {a:Addr} {o:Obj} {xs:List V} (e:H a=some (.frz o (.lst xs))):TyOf K H (.ref a) (.type "list")
 | tup {a:Addr} {xs:List V} (e:H a=some (.tup xs)):TyOf K H (.ref a) (.type "tuple")
 | dK {a:Addr} {kvs:List (Key × V)} (e:H a=some (.dK kvs)):TyOf K H (.ref a) (.type "dict")
 | dT {a:Addr} {kvs:List (List Key × V)} (e:H a=some (.dT kvs)):TyOf K H (.ref a) (.type "dict")
 | ins {a C dx:Addr} {fs:List (Str × V)} (e:H a=some (.ins C dx fs)) (cl:Cls K C) (ha:PySem.W.findIn K (.ref C) "__class__" = some (some (.builtin "object.__class__")))
   (hn:PySem.W.specialIn K (.builtin "object.__class__") "__get__" = some (some (.builtin "getset_descriptor.__get__"))) (htk:PySem.W.takesIn K (.builtin "object.__class__")=some true)
   (hm:PySem.W.mroIn K C (.type "object")=some true):TyOf K H (.ref a) (.ref C)
theorem isinst_ok {x:V} {u t:Value} (I:Inv X pins σ H s) (rx:RelV x u) (ty:TyOf X.K H x t) (e:PySem.W.kitOne X.K t c=some b) (h:∀ tk,Q (.bool b) { s with toks:=tk }):
  wpAny (model X.prog X.w) A (call (.builtin "isinstance") [u,c]) Q E s:=by
 cases ty with
 | non=>cases (show u=Value.none from rx); exact PySem.W.kia_one PySem.W.kitx_none I.kIn True.intro e (fun z=>nomatch z) h
 | bl y=>cases (show u=Value.bool y from rx); exact PySem.W.kia_one PySem.W.kitx_bool I.kIn True.intro e (fun z=>nomatch z) h
 | int i=>obtain ⟨t,q⟩:=(show ∃ t,u=Value.int i t from rx); cases q; exact PySem.W.kia_one PySem.W.kitx_int I.kIn True.intro e (fun z=>nomatch z) h
 | str y=>obtain ⟨t,q⟩:=(show ∃ t,u=Value.str y t from rx); cases q; exact PySem.W.kia_one PySem.W.kitx_str I.kIn True.intro e (fun z=>nomatch z) h
 | flt y=>obtain ⟨t,q⟩:=(show ∃ t,u=Value.float y t from rx); cases q; exact PySem.W.kia_one PySem.W.kitx_float I.kIn True.intro e (fun z=>nomatch z) h
 | @lst a xs ea=>
  cases (show u=Value.ref a from rx)
  obtain ⟨_,_,n,_,h1⟩:=(show ObjOk X.prog X.w H s.heap a (.lst xs) from I.hok a _ ea)
  exact PySem.W.kia_one PySem.W.kitx_list I.kIn ⟨_,h1,rfl⟩ e (fun z=>nomatch z) h
 | @frz a ob xs ea=>
  cases (show u=Value.ref a from rx)
  obtain ⟨_,_,_,n,_,h1⟩:=(show ObjOk X.prog X.w H s.heap a (.frz ob (.lst xs)) from I.hok a _ ea)
  exact PySem.W.kia_one PySem.W.kitx_list I.kIn ⟨_,h1,rfl⟩ e (fun z=>nomatch z) h
 | @tup a xs ea=>
  cases (show u=Value.ref a from rx)
  obtain ⟨_,_,_,p⟩:=(show ObjOk X.prog X.w H s.heap a (.tup xs) from I.hok a _ ea)
  obtain ⟨o,h1,h2,_⟩:=p
  exact PySem.W.kia_one PySem.W.kitx_tuple I.kIn ⟨o,h1,h2⟩ e (fun z=>nomatch z) h
 | @dK a kvs ea=>
  cases (show u=Value.ref a from rx)
  obtain ⟨_,_,vs,_,p⟩:=(show ObjOk X.prog X.w H s.heap a (.dK kvs) from I.hok a _ ea)
  obtain ⟨o,es,ep,h1,h2,_⟩:=p
  exact PySem.W.kia_one PySem.W.kitx_dict I.kIn ⟨o,h1,h2.1⟩ e (fun z=>nomatch z) h
 | @dT a kvs ea=>
  cases (show u=Value.ref a from rx)
  obtain ⟨_,_,xs,_,o,es,ep,h1,h2,_⟩:=(show ObjOk X.prog X.w H s.heap a (.dT kvs) from I.hok a _ ea)
  exact PySem.W.kia_one PySem.W.kitx_dict I.kIn ⟨o,h1,h2.1⟩ e (fun z=>nomatch z) h
 | @ins a C dx fs ea cl ha hn htk hm=>
  cases (show u=Value.ref a from rx)
  obtain ⟨mA,O,_⟩:=ins_get I.hok ea
  obtain ⟨od,J,_⟩:=O.look
  exact PySem.W.kia_one (PySem.W.kitx_own (cl.get _) cl.hd ha hn htk hm) I.kIn J e (fun z=>nomatch z) h
end
end L2
namespace L2
open PySem PySem.Spec PyProof.Rows
structure Room (k:Nat) (A:Around):Prop where
 hd:A.handled=none
 dp:A.depth + 3 * k + 5 < recursionLimit
 un:A.units + 16 * k + 200 < cLine
 gd:A.guards=some []
theorem Room.mono {j k:Nat} {A:Around} (r:Room k A) (h:j≤k):Room j A:=⟨r.hd,by have:=r.dp; omega,by have:=r.un; omega,r.gd⟩
theorem Room.deeper {k:Nat} {A:Around} (r:Room (k + 1) A) (env:Env):Room k (A.deeper env):=
 ⟨r.hd,by have:=r.dp; show A.depth + 1 + 3 * k + 5 < _; omega,by have:=r.un; show A.units + 3 + 16 * k + 200 < _; omega,r.gd⟩
theorem Room.depth {k:Nat} {A:Around} (r:Room k A):A.depth < recursionLimit:=by have:=r.dp; omega
theorem Room.units {k:Nat} {A:Around} (r:Room k A):A.units + 64 < cLine:=by have:=r.un; omega
noncomputable def tNil:TA:=fun _ H Q=>Q [] H
noncomputable def tCons (ta:TE) (tr:TA):TA:=fun σ H Q=>ta σ H fun x H1=>tr σ H1 fun xs H2=>Q (x :: xs) H2
section
variable {X:Cx} {e:Expr} {es:List Expr} {te:TE} {t:TA} {pos:Pos}
theorem pa_nil:PA X [] tNil:=fun _ _ _ _ H Q I h=>Calls.spliced_nil ⟨[],H,I,.nil,h⟩
theorem pa_cons (ha:PE X e te) (hr:PA X es t) (hs:autoParam (starEach (e :: es) X.env=(false,eval e X.env) :: starEach es X.env) Au.h1._auto_1):PA X (e :: es) (tCons te t):=by
 intro pos pins s σ H Q I h
 rw [hs]
 show wpAny _ _ (spliced ((false,eval e X.env) :: backTo pos (starEach es X.env))) _ _ s
 refine Calls.spliced_cons (thn (ha pins s σ H _ I h) fun u s1 zq=>?_)
 obtain ⟨x,H1,I1,r1,q1⟩:=zq
 exact thn (hr pos pins s1 σ H1 _ I1 q1) fun us s2 zq=>ex5 zq fun xs H2 I2 r2 q2=>⟨x :: xs,H2,I2,.cons r1 r2,q2⟩
noncomputable def tTup (t:TA):TE:=fun σ H Q=>t σ H fun xs H1=>xs.length≤sizeLine∧∀ p,H1 p=none→Q (.ref p) (upd H1 p (.tup xs))
noncomputable def tLst (t:TA):TE:=fun σ H Q=>t σ H fun xs H1=>xs.length≤sizeLine∧∀ p,H1 p=none→Q (.ref p) (upd H1 p (.lst xs))
theorem pe_tup {x1} (h:PA X es t):PE X (.Tuple es x1 pos) (tTup t):=by
 intro pins s σ H Q I hq
 refine wpAny_Tuple_spliced (thn (h pos pins s σ H _ I hq) fun us s1 ⟨xs,H1,I1,r,z,q⟩=>⟨by rw [← r.length]; exact z,?_⟩)
 have hf:H1 s1.heap.objs.size=none:=I1.hok.fresh (Nat.le_refl _)
 refine ⟨.ref s1.heap.objs.size,upd H1 s1.heap.objs.size (.tup xs),I1.laid (t':=s1.toks) (fun b u e=>Heap.get?_push_of_some _ e) (Nat.le_refl _) ?_,rfl,q _ hf⟩
 exact ⟨z,us,r,⟨_,Heap.get?_push_size _ rfl,rfl,_,rfl⟩⟩
theorem pe_lst (h:PA X es t):PE X (.List es pos) (tLst t):=by
 intro pins s σ H Q I hq
 refine wpAny_List_spliced (thn (h pos pins s σ H _ I hq) fun us s1 ⟨xs,H1,I1,r,z,q⟩=>⟨by rw [← r.length]; exact z,?_⟩)
 have hf:H1 s1.heap.objs.size=none:=I1.hok.fresh (Nat.le_refl _)
 refine ⟨.ref s1.heap.objs.size,upd H1 s1.heap.objs.size (.lst xs),I1.laid (t':=s1.toks) (fun b u e=>Heap.get?_push_of_some _ e) (Nat.le_refl _) ?_,rfl,q _ hf⟩
 exact ⟨z,us,0,r,Heap.get?_push_size _ rfl⟩
end
noncomputable abbrev Sp:=List V→Hp→VK→XK→Prop
noncomputable abbrev CXT:=List Env→Hp→Shared→XK→Value→Shared→Prop
structure Env0 (P:Program) (w:World) (K:PySem.W.Frag) (mg:Str→Option Value) (base:Heap) (A:Around) (outer:List Env) (s:Shared) (H:Hp):Prop where
 frames:A.frames=some outer
 mod:Mod K mg base
 bs:∀ b o,base.get? b=some o→s.heap.get? b=some o∧H b=none
 bsz:base.objs.size≤s.heap.objs.size
 funs:s.heap.FunFrames base outer
 frf:∀ b ∈ frs outer,H b=none
 hok:HOk P w H s.heap
 bare:AllBare s.gens
noncomputable def CE (outer:List Env) (P:Program) (w:World) (H:Hp) (s:Shared) (Q:VK) (u:Value) (s':Shared):Prop:=
 ∃ v H',s'.os=s.os∧AllBare s'.gens∧Un (frs outer) [] H H' s.heap s'.heap∧HOk P w H' s'.heap∧RelV v u∧Q v H'
noncomputable def CR (CX:CXT) (outer:List Env) (P:Program) (w:World) (H:Hp) (s:Shared) (Q:VK) (E:XK) (r:Result) (s':Shared):Prop:=
 match r with
 | .ok (.ret u)=>CE outer P w H s Q u s'
 | .ok _=>False
 | .error e=>CX outer H s E e s'
structure FnOk (P:Program) (w:World) (K:PySem.W.Frag) (mg:Str→Option Value) (base:Heap) (CX:CXT) (k:Nat) (f:Addr) (fd:FuncData) (ps:List Str) (sp:Sp):Prop where
 len:∀ vs H Q E,sp vs H Q E→vs.length=ps.length
 run:∀ (A:Around) (outer:List Env) (s:Shared) (H:Hp) (args:Args) (us:List Value) (vs:List V) (Q:VK) (E:XK),Room k A→Env0 P w K mg base A outer s H→BindsTo s fd args (ps.zip us)→Vals vs us→sp vs H Q E→
  codeAny (model P w) A (.call (.ref f) args) (CR CX outer P w H s Q E) s
section
variable {X:Cx} {pins:List (Addr × Obj)} {σ:St} {H:Hp} {s s':Shared}
theorem Inv.env0 (I:Inv X pins σ H s):Env0 X.prog X.w X.K X.mg X.base X.A X.stack s H:=
 ⟨I.ok.frames,I.ok.mod,I.bs,Nat.le_trans I.ok.bsz I.sz,I.stack,I.stkFree,I.hok,I.bare⟩
theorem Inv.after {Q:VK} {u:Value} (I:Inv X pins σ H s) (h:CE X.stack X.prog X.w H s Q u s'):EP X pins σ Q u s':=by
 obtain ⟨v,H',os,bare,un,hok,r,q⟩:=h
 obtain ⟨hh,g,d,t,os'⟩:=s'
 obtain rfl:os'=s.os:=os
 exact ⟨v,H',I.call (h':=hh) (g':=g) (d':=d) (t':=t) (ch:=[]) un hok bare (fun b z=>absurd z (by simp)),r,q⟩
end
noncomputable def tCall (sp:Sp) (dvs:List V) (E:XK) (t:TA):TE:=fun σ H Q=>t σ H fun vs H1=>sp (vs ++ dvs) H1 Q E
noncomputable def Binds (K:PySem.W.Frag) (fd:FuncData) (ps:List Str) (ds:List Value):Prop:=
 ∀ (s:Shared) (us:List Value),K.In s.heap→(us ++ ds).length=ps.length→BindsTo s fd ⟨us,[]⟩ (ps.zip (us ++ ds))
theorem Binds.all {K:PySem.W.Frag} {fd:FuncData} {ps:List Str} (h:∀ us:List Value,us.length=ps.length→bindArgs fd ⟨us,[]⟩=pure (ps.zip us)):Binds K fd ps []:=fun s us _ hl=>by
 rw [List.append_nil] at hl ⊢
 exact .of_eq (h us hl)
noncomputable def Passes (CX:CXT) (X:Cx) (E:XK):Prop:=∀ (pins:List (Addr × Obj)) (σ:St) (H:Hp) (s:Shared) (e:Value) (s':Shared),Inv X pins σ H s→CX X.stack H s E e s'→X.xe e s'
section
variable {X:Cx} {CX:CXT} {k:Nat} {f C:Addr} {fd:FuncData} {ps:List Str} {sp:Sp} {dvs:List V} {ds:List Value} {E:XK} {x m:Str} {p pos apos:Pos} {e o:Expr} {es:List Expr} {ta:TE} {t:TA}
theorem run_fn {pins:List (Addr × Obj)} {σ:St} {H:Hp} {s:Shared} {Q:VK} {us:List Value} {vs:List V} (F:FnOk X.prog X.w X.K X.mg X.base CX k f fd ps sp) (hr:Room k X.A) (hb:Binds X.K fd ps ds) (hd:Vals dvs ds) (hx:Passes CX X E)
  (I:Inv X pins σ H s) (r:Vals vs us) (h:sp (vs ++ dvs) H Q E):wpAny (model X.prog X.w) X.A (call (.ref f) us) (EP X pins σ Q) X.xe s:=by
 have r2:Vals (vs ++ dvs) (us ++ ds):=r.append hd
 have hl:(us ++ ds).length=ps.length:=by rw [← r2.length]; exact F.len _ _ _ _ h
 refine wpAny_call (codeAny_mono (F.run X.A X.stack s H ⟨us,[]⟩ (us ++ ds) (vs ++ dvs) Q E hr I.env0 (hb s us I.kIn hl) r2 h) fun r s' hq=>?_)
 cases r with
 | error e=>exact hx pins σ H s e s' I hq
 | ok fl=>
  cases fl with
  | ret u=>exact I.after hq
  | next=>exact False.elim hq
  | brk=>exact False.elim hq
  | cont=>exact False.elim hq
theorem pe_call (F:FnOk X.prog X.w X.K X.mg X.base CX k f fd ps sp) (hr:Room k X.A) (hg:Gl X x) (hm:X.mg x=some (.ref f)) (hk:PySem.W.keepIn X.K (.ref f)=true) (hb:Binds X.K fd ps ds) (hd:Vals dvs ds) (hx:Passes CX X E)
  (ha:PA X (e :: es) t) (hdb:autoParam ((x == ("__debug__":Str))=false) Au.h2._auto_1) (he:autoParam (starEach (e :: es) X.env=(false,eval e X.env) :: starEach es X.env) Au.h1._auto_1) (hpl:autoParam ((backTo pos (starEach es X.env)).any (·.1)=false) Au.h1._auto_1):
  PE X (.Call (.Name x p) (e :: es) [] pos) (tCall sp dvs E t):=by
 intro pins s σ H Q I h
 refine wpAny_Call_Name_kw (ld_glob I hg hm ?_ hdb)
 refine PySem.W.callWith_K (h₀:=X.base) I.ok.mod.kin hk (thn (ha pos pins s σ H _ I h) fun us s1 zq=>ex5 zq fun vs H1 I1 r q=>⟨I1.kIn,?_⟩) he hpl
 exact run_fn F hr hb hd hx I1 r q
end
section
variable {X:Cx} {CX:CXT} {k:Nat} {f C:Addr} {fd:FuncData} {ps ks:List Str} {sp:Sp} {E:XK} {x m:Str} {p pos apos kpos:Pos} {e o:Expr} {es:List Expr} {kws:List Keyword} {te ta:TE} {t tk:TA} {nm:Option Str}
variable {g:List Value→List Value→List Value} {gV:List V→List V→List V}
end
structure FnScope (N P:List Str) (sc:Scope):Prop where
 kind:sc.kind=.function
 co:sc.isCoroutine=false
 gen:sc.isGenerator=false
 nd:N.Nodup
 pre:N.take P.length=P
 par:∀ x ∈ P,sc.names.lookup x=some .local ∨ sc.names.lookup x=some .cell
 nofree:∀ y ∈ sc.names,y.2 ≠ .free
theorem bindL_out {kindOf:Str→Option NameKind} {x:Str}:∀ {binds:List (Str × Value)} {m:Str→Option Value},(∀ v,(x,v) ∉ binds)→bindL kindOf binds m x=m x
 | [],_,_=>rfl
 | (n,v) :: r,m,h=>by
  unfold bindL
  rw [bindL_out fun w hw=>h w (List.mem_cons_of_mem _ hw)]
  split
  ·have:x ≠ n:=by rintro rfl; exact h v List.mem_cons_self
   simp [this]
  ·rfl
theorem bindC_out {kindOf:Str→Option NameKind} {x:Str}:∀ {binds:List (Str × Value)} {m:Str→Option Value},(∀ v,(x,v) ∉ binds)→bindC kindOf binds m x=m x
 | [],_,_=>rfl
 | (n,v) :: r,m,h=>by
  unfold bindC
  rw [bindC_out fun w hw=>h w (List.mem_cons_of_mem _ hw)]
  split
  ·rfl
  ·have:x ≠ n:=by rintro rfl; exact h v List.mem_cons_self
   simp [this]
theorem bindL_get {kindOf:Str→Option NameKind} {x:Str} {v:Value}:∀ {P:List Str} {vs:List Value} {i:Nat} {m:Str→Option Value},P.Nodup→P[i]?=some x→vs[i]?=some v→kindOf x=some .local→
  bindL kindOf (P.zip vs) m x=some v
 | [],_,_,_,_,h,_,_=>by simp at h
 | _ :: _,[],_,_,_,_,h,_=>by simp at h
 | p :: P,w :: vs,0,m,nd,h1,h2,hk=>by
  simp at h1 h2; subst h1; subst h2
  show bindL kindOf ((p,w) :: P.zip vs) m p=_
  unfold bindL
  rw [bindL_out fun v hv=>(List.nodup_cons.mp nd).1 (List.of_mem_zip hv).1,if_pos hk]
  simp
 | p :: P,w :: vs,i + 1,m,nd,h1,h2,hk=>by
  show bindL kindOf ((p,w) :: P.zip vs) m x=_
  unfold bindL
  exact bindL_get (i:=i) (List.nodup_cons.mp nd).2 (by simpa using h1) (by simpa using h2) hk
theorem bindC_get {kindOf:Str→Option NameKind} {x:Str} {v:Value}:∀ {P:List Str} {vs:List Value} {i:Nat} {m:Str→Option Value},P.Nodup→P[i]?=some x→vs[i]?=some v→kindOf x ≠ some .local→
  bindC kindOf (P.zip vs) m x=some v
 | [],_,_,_,_,h,_,_=>by simp at h
 | _ :: _,[],_,_,_,_,h,_=>by simp at h
 | p :: P,w :: vs,0,m,nd,h1,h2,hk=>by
  simp at h1 h2; subst h1; subst h2
  show bindC kindOf ((p,w) :: P.zip vs) m p=_
  unfold bindC
  rw [bindC_out fun v hv=>(List.nodup_cons.mp nd).1 (List.of_mem_zip hv).1,if_neg hk]
  simp
 | p :: P,w :: vs,i + 1,m,nd,h1,h2,hk=>by
  show bindC kindOf ((p,w) :: P.zip vs) m x=_
  unfold bindC
  exact bindC_get (i:=i) (List.nodup_cons.mp nd).2 (by simpa using h1) (by simpa using h2) hk
noncomputable def start (N:List Str) (vs:List V):St:=vs.map some ++ List.replicate (N.length - vs.length) none
noncomputable def cxOf (CX:CXT) (P:Program) (w:World) (K:PySem.W.Frag) (mg:Str→Option Value) (base:Heap) (N:List Str) (qual:Str) (scope:Scope) (f:Addr) (cd:Value) (A:Around) (outer:List Env) (s:Shared) (H:Hp) (E:XK):Cx where
 prog:=P
 w:=w
 K:=K
 mg:=mg
 base:=base
 A:=A.deeper (envOfC qual scope s.heap.objs.size f cd)
 N:=N
 s₀:=s
 H₀:=H
 env:=envOfC qual scope s.heap.objs.size f cd
 outer:=outer
 stack:=envOfC qual scope s.heap.objs.size f cd :: outer
 ex:=[]
 calm:=true
 fn:=fun _=>true
 pn:=[]
 xe:=fun e s'=>wpAny (model P w) (A.deeper (envOfC qual scope s.heap.objs.size f cd)) (leaving (envOfC qual scope s.heap.objs.size f cd) e) (fun _ s''=>CX outer H s E e s'') (fun e' s''=>CX outer H s E e' s'') s'
theorem cell_has {sc:Scope} {n:Nat} {x:Str} (h:sc.names.lookup x=some .cell):∃ c,(cellsFrom n sc.names []).lookup x=some c:=by
 have q:=PySem.W.cellsFrom_some sc.names n [] (.inl h)
 exact Option.isSome_iff_exists.mp q
theorem inv_start {CX:CXT} {P:Program} {w:World} {K:PySem.W.Frag} {mg:Str→Option Value} {base:Heap} {N ps:List Str} {qual:Str} {scope:Scope} {f:Addr} {cd:Value} {A:Around} {outer:List Env} {s s1:Shared} {H:Hp} {E:XK} {us:List Value} {vs:List V}
  (S:FnScope N ps scope) (hd:A.handled=none) (e0:Env0 P w K mg base A outer s H) (hl:vs.length=ps.length) (r:Vals vs us)
  (x:InCallC s s.heap.objs.size (bindL (envOfC qual scope s.heap.objs.size f cd).kindOf (ps.zip us) fun _=>none) (cellsFrom (s.heap.objs.size + 1) scope.names []) (bindC (envOfC qual scope s.heap.objs.size f cd).kindOf (ps.zip us) fun _=>none) s1):
  Inv (cxOf CX P w K mg base N qual scope f cd A outer s H E) [] (start N vs) H s1:=by
 have hpl:ps.length≤N.length:=by have:=congrArg List.length S.pre; rw [List.length_take] at this; omega
 obtain ⟨h1,tk,rfl,hk⟩:=x.done
 have noA:∀ b:Addr,b ∉ (cxOf CX P w K mg base N qual scope f cd A outer s H E).ex:=fun b z=>absurd (show b ∈ ([]:List Addr) from z) (by simp)
 refine ⟨⟨e0.mod,S.kind,rfl,rfl,Nat.le_refl _,fun y z c h1 h2=>?_,fun y hy=>?_,fun y c _ h=>?_,fun _=>hd,Around.frames_deeper e0.frames,.inr ⟨rfl,rfl⟩,fun b z=>absurd z (noA b),e0.bs,e0.bsz,fun b _ _=>noA b,fun b z=>absurd z (noA b),e0.funs,e0.frf⟩,
  rfl,e0.bare,Un.kept hk,⟨_,x.toInCall.ns,fun i y v h1 h2 h3=>?_⟩,fun y c h=>⟨_,x.cell y c h⟩,e0.hok.fresh (Nat.le_refl _),fun y c h=>?_,fun p hp=>absurd (show p ∈ ([]:List (Addr × Obj)) from hp) (by simp),e0.hok.kept hk,?_⟩
 ·exact name_of_addr x.apart (PySem.mem_of_lookup h1) (PySem.mem_of_lookup h2)
 ·have hy:scope.names.lookup y=some .cell ∨ scope.names.lookup y=some .free:=hy
  rcases hy with hy | hy
  ·exact cell_has hy
  ·exact absurd rfl (S.nofree _ (PySem.mem_of_lookup hy))
 ·exact Nat.le_of_lt (x.above y c (PySem.mem_of_lookup h))
 ·have hi:i < vs.length:=by
   unfold start at h2
   by_cases hi:i < vs.length
   ·exact hi
   ·rw [List.getElem?_append_right (by simpa using hi)] at h2
    rw [List.getElem?_replicate] at h2
    split at h2 <;> cases h2
  have ha:vs[i]?=some v:=by
   unfold start at h2
   rw [List.getElem?_append_left (by simpa using hi),List.getElem?_map] at h2
   cases e:vs[i]? with
   | none=>rw [e] at h2; cases h2
   | some a=>rw [e] at h2; cases h2; rfl
  obtain ⟨u,hu,rv⟩:=r.get ha
  have hp:ps[i]?=some y:=by
   rw [← S.pre,List.getElem?_take_of_lt (by omega)]; exact h1
  have ndP:ps.Nodup:=by rw [← S.pre]; exact S.nd.sublist (List.take_sublist _ _)
  refine ⟨u,rv,?_⟩
  rcases S.par y (List.mem_of_getElem? hp) with k | k
  ·exact .inl ⟨k,bindL_get ndP hp hu k⟩
  ·obtain ⟨c,e⟩:=cell_has (n:=s.heap.objs.size + 1) k
   refine .inr ⟨.inl k,c,e,?_⟩
   have q:=x.cell y c e
   rw [bindC_get ndP hp hu (by show scope.names.lookup y ≠ _; rw [k]; decide)] at q
   exact q
 ·exact e0.hok.fresh (Nat.le_of_lt (x.above y c (PySem.mem_of_lookup h)))
 ·unfold start
  show _=N.length
  rw [List.length_append,List.length_map,List.length_replicate]
  omega
theorem fn_of {CX:CXT} {P:Program} {w:World} {K:PySem.W.Frag} {mg:Str→Option Value} {base:Heap} {k:Nat} {f:Addr} {name qual:Str} {params:Arguments} {body:List Stmt} {scope:Scope} {dV kV doc pm cdv ct oc:Value} {an od:Option Addr}
  {osl:Array (Option Value)} {N ps:List Str} {sp:Sp} (lk:K.lookup f=some ⟨oc,od,.func (PySem.W.fnOf name qual params body scope dV kV doc pm an cdv ct),osl⟩) (hcd:PySem.W.codeIn K cdv qual=true) (S:FnScope N ps scope)
  (len:∀ vs H Q E,sp vs H Q E→vs.length=ps.length)
  (hbody:∀ (A:Around) (outer:List Env) (s:Shared) (H:Hp) (vs:List V) (Q:VK) (E:XK),Room k (A.deeper (envOfC qual scope s.heap.objs.size f cdv))→sp vs H Q E→
   ∃ t,PSs (cxOf CX P w K mg base N qual scope f cdv A outer s H E) body t∧t { nx:=fun _ H'=>Q .non H',rt:=Q } (start N vs) H):
  FnOk P w K mg base CX (k + 1) f (PySem.W.fnOf name qual params body scope dV kV doc pm an cdv ct) ps sp:=by
 refine ⟨len,fun A outer s H args us vs Q E hr e0 hb r hsp=>?_⟩
 have hl:=len _ _ _ _ hsp
 have KX:K.In s.heap:=e0.mod.kin.keeps fun b o e=>(e0.bs b o e).1
 have lim:s.heap.NoLimit:=e0.mod.nolimit.keeps fun b o e=>(e0.bs b o e).1
 have hkind:∀ y ∈ ps.zip us,scope.names.lookup y.1=some .local ∨ (scope.names.lookup y.1=some .cell∧((cellsFrom (s.heap.objs.size + 1) scope.names []).lookup y.1).isSome=true):=fun ⟨n,v⟩ hy=>by
  rcases S.par n (List.of_mem_zip hy).1 with q | q
  ·exact .inl q
  ·exact .inr ⟨q,PySem.W.cellsFrom_some _ _ _ (.inl q)⟩
 refine codeAny_call_function hr.depth (KX _ _ lk) rfl S.co S.gen rfl (PySem.W.codeRec_of KX hcd) (hb _ _ _ _ ?_)
 refine wpAny_newFunctionEnv_cells S.kind hkind fun env he s1 x=>?_
 subst he
 refine ⟨lim.keeps x.toInCall.keep,codeAny_func ?_⟩
 obtain ⟨t,ht,hq⟩:=hbody A outer s H vs Q E (hr.deeper _) hsp
 have I:Inv (cxOf CX P w K mg base N qual scope f cdv A outer s H E) [] (start N vs) H s1:=inv_start S hr.hd e0 hl r x
 refine wpAny_mono (ht [] s1 (start N vs) H _ I hq) (fun fl s' hs=>?_) fun e s' hs=>hs
 have fin:∀ {σ':St} {H':Hp} {v:V} {u:Value},Inv (cxOf CX P w K mg base N qual scope f cdv A outer s H E) [] σ' H' s'→RelV v u→Q v H'→CE outer P w H s Q u s':=
  fun {σ' H' v u} J rv q=>⟨v,H',J.os,J.bare,J.base,J.hok,rv,q⟩
 cases fl with
 | ret u=>
  obtain ⟨v,σ',H',J,rv,q⟩:=hs
  exact fin J rv q
 | next=>
  obtain ⟨σ',H',J,q⟩:=hs
  exact fin (v:=V.non) (u:=Value.none) J rfl q
 | brk=>
  obtain ⟨_,_,_,q⟩:=hs
  exact False.elim q
 | cont=>
  obtain ⟨_,_,_,q⟩:=hs
  exact False.elim q
end L2
namespace L2
open PySem PySem.Spec PyProof.Rows
section
variable {X:Cx} {x:Str} {p pos:Pos} {e:Expr} {es:List Expr} {t:TA} {id T:String} {r:List V→Hp→VK→Prop}
noncomputable def tCB (r:List V→Hp→VK→Prop) (t:TA):TE:=fun σ H Q=>t σ H fun vs H1=>r vs H1 Q
theorem pe_callB (hc:CallR X (.builtin id) r) (hg:Gl X x) (hm:X.mg x=none) (hv:bootBuiltins x=some (.builtin id)) (ha:PA X (e :: es) t) (hn:autoParam (x ≠ "__name__") Au.h2._auto_1) (hdb:autoParam ((x == ("__debug__":Str))=false) Au.h2._auto_1)
  (he:autoParam (starEach (e :: es) X.env=(false,eval e X.env) :: starEach es X.env) Au.h1._auto_1) (hpl:autoParam ((backTo pos (starEach es X.env)).any (·.1)=false) Au.h1._auto_1):PE X (.Call (.Name x p) (e :: es) [] pos) (tCB r t):=by
 intro pins s σ H Q I h
 refine wpAny_Call_Name_kw (ld_blt I hg hm hv ?_ hn hdb)
 exact PyProof.Rows.callWith_builtin1 (thn (ha pos pins s σ H _ I h) fun us s1 zq=>ex5 zq fun vs H1 I1 r1 q1=>hc pins s1 σ H1 vs us Q I1 r1 q1) he hpl
theorem pe_callTy (hc:CallR X (.type T) r) (hg:Gl X x) (hm:X.mg x=none) (hv:bootBuiltins x=some (.type T)) (ha:PA X (e :: es) t) (hn:autoParam (x ≠ "__name__") Au.h2._auto_1) (hdb:autoParam ((x == ("__debug__":Str))=false) Au.h2._auto_1)
  (he:autoParam (starEach (e :: es) X.env=(false,eval e X.env) :: starEach es X.env) Au.h1._auto_1) (hpl:autoParam ((backTo pos (starEach es X.env)).any (·.1)=false) Au.h1._auto_1):PE X (.Call (.Name x p) (e :: es) [] pos) (tCB r t):=by
 intro pins s σ H Q I h
 refine wpAny_Call_Name_kw (ld_blt I hg hm hv ?_ hn hdb)
 exact PyProof.Rows.callWith_type1 (thn (ha pos pins s σ H _ I h) fun us s1 zq=>ex5 zq fun vs H1 I1 r1 q1=>hc pins s1 σ H1 vs us Q I1 r1 q1) he hpl
end
end L2
namespace HT
open PySem PyProof.Rows
section
open PySem.SeqAt
open PySem.AutoSeq1 (wpAny_loadPart')
open PySem.MeetsSeq PySem.MeetsSeq2 PySem.MeetsSeq3
end
section
variable {prog:Program} {w:World} {A:Around} {E:Value→Shared→Prop} {s:Shared}
theorem cat_tup {t b:Addr} {vs ws:List Value} {Q:Value→Shared→Prop} (ht:IsTup s.heap t vs.toArray) (hb:IsTup s.heap b ws.toArray) (hv:vs ≠ [])
  (h1:ws=[]→Q (.ref t) s) (h2:ws ≠ []→Q (.ref s.heap.objs.size) { s with heap:=s.heap.push { cls:=.type "tuple",data:=.seq (vs ++ ws).toArray } })
  (hsz:vs.length + ws.length≤sizeLine):wpAny (model prog w) A (binaryOp .Add (.ref t) (.ref b)) Q E s:=by
 obtain ⟨⟨cls,dd,data,sl⟩,ho,hc,n,hd⟩:=id ht
 obtain ⟨⟨cls2,dd2,data2,sl2⟩,ho2,hc2,n2,hd2⟩:=id hb
 simp only at hc hd hc2 hd2
 subst hc hd hc2 hd2
 have e:vs.toArray ++ ws.toArray=(vs ++ ws).toArray:=by simp
 by_cases hw:ws=[]
 ·exact concat_meets ⟨_,ho,rfl⟩ ⟨_,ho2,rfl⟩ noFill_tuple_add seq_tuple_add PySem.F.slot_tuple_add PySem.F.entry_tuple_add (PySem.F.args_tuple_add_2 _ _)
   (tuple_addW1 t b vs.toArray ws.toArray n n2 dd dd2 sl sl2 (by simpa using hv) (by simp [hw])) ⟨ho,ho2,h1 hw⟩
 ·refine concat_meets ⟨_,ho,rfl⟩ ⟨_,ho2,rfl⟩ noFill_tuple_add seq_tuple_add PySem.F.slot_tuple_add PySem.F.entry_tuple_add (PySem.F.args_tuple_add_2 _ _)
   (tuple_addW2 t b vs.toArray ws.toArray n n2 dd dd2 sl sl2 (by simpa using hv) (by simpa using hw) (by rw [List.size_toArray,List.size_toArray]; exact hsz)) ⟨ho,ho2,?_⟩
  rw [e]
  exact h2 hw
noncomputable def sIx (n d:Nat):Option Int→Nat
 | none=>d
 | some v=>if v < 0 then (v + (n:Int)).toNat else min v.toNat n
theorem sIx_le (n d:Nat) (hd:d≤n) (o:Option Int):sIx n d o≤n:=by
 cases o with
 | none=>exact hd
 | some v=>
  show (if v < 0 then (v + (n:Int)).toNat else min v.toNat n)≤n
  by_cases hv:v < 0
  ·rw [if_pos hv]; omega
  ·rw [if_neg hv]; exact Nat.min_le_right _ _
theorem clip_eq (v:Int) (n d:Nat):(if v < 0 then max (v + (n:Int)) 0 else min v (n:Int))=((sIx n d (some v):Nat):Int):=by
 show (if v < 0 then max (v + (n:Int)) 0 else min v (n:Int))=(((if v < 0 then (v + (n:Int)).toNat else min v.toNat n):Nat):Int)
 by_cases hv:v < 0
 ·simp only [if_pos hv]; omega
 ·simp only [if_neg hv]; omega
theorem adjust_gen (lo hi:Option Int) (n:Nat):Builtin.Slice.sliceAdjust lo hi 1 (n:Int)=(((sIx n 0 lo:Nat):Int),((sIx n n hi:Nat):Int)):=by
 have h1:¬ ((1:Int) < 0):=by omega
 unfold Builtin.Slice.sliceAdjust
 simp only [h1,if_false]
 refine Prod.ext ?_ ?_
 ·cases lo with
  | none=>rfl
  | some v=>exact clip_eq v n 0
 ·cases hi with
  | none=>rfl
  | some v=>exact clip_eq v n n
theorem places_gen (i j:Nat):Builtin.Slice.slicePlaces (i:Int) (j:Int) 1=j - i:=by
 unfold Builtin.Slice.slicePlaces
 have h1:(1:Int) > 0:=by omega
 simp only [h1,if_true,Int.ediv_one]
 split <;> omega
theorem slicePart_ {v:Value} {o:Option Int} {Q:Option Int→Shared→Prop} (p:IsPart v o) (h:Q o s):wpAny (model prog w) A (Builtin.Slice.slicePartIndex v) Q E s:=by
 cases p with
 | none=>exact slicePart_none h
 | int i t=>exact slicePart_int h
theorem sliceApplied_gen {sl:Addr} {vl vu:Value} {lo hi:Option Int} {n:Nat} {Q:Int × Int × Nat→Shared→Prop} (hs:s.heap.IsSliceOf sl vl vu .none) (pl:IsPart vl lo) (pu:IsPart vu hi)
  (h:Q (((sIx n 0 lo:Nat):Int),1,sIx n n hi - sIx n 0 lo) s):wpAny (model prog w) A (Builtin.Slice.sliceApplied (.ref sl) (pure (n:Int))) Q E s:=by
 obtain ⟨os,hos,hcs,hds⟩:=id hs
 unfold Builtin.Slice.sliceApplied Builtin.Slice.sliceFields
 refine wpAny_bind (wpAny_bind (wpAny_field hos hds (x:=vl) rfl (wpAny_bind (wpAny_field hos hds (x:=vu) rfl (wpAny_bind (wpAny_field hos hds (x:=.none) rfl (wpAny_pure ?_)))))))
 refine wpAny_bind (slicePart_none ?_)
 show wpAny _ _ (if ((1:Int) == 0)=true then _ else _) _ _ s
 rw [if_neg (by decide)]
 refine wpAny_bind (slicePart_ pl (wpAny_bind (slicePart_ pu (wpAny_bind (wpAny_pure ?_)))))
 show wpAny _ _ (match Builtin.Slice.sliceAdjust lo hi 1 (n:Int) with | (lo,hi)=>pure (lo,(1:Int),Builtin.Slice.slicePlaces lo hi 1)) _ _ s
 rw [adjust_gen lo hi n]
 show wpAny _ _ (pure (((sIx n 0 lo:Nat):Int),(1:Int),Builtin.Slice.slicePlaces ((sIx n 0 lo:Nat):Int) ((sIx n n hi:Nat):Int) 1)) _ _ s
 rw [places_gen]
 exact wpAny_pure h
theorem pick_gen (xs:Array Value) (i k:Nat):((List.range k).filterMap fun (m:Nat)=>xs[((i:Int) + (m:Int) * 1).toNat]?).toArray=((xs.toList.drop i).take k).toArray:=by
 have e:(fun (m:Nat)=>xs[((i:Int) + (m:Int) * 1).toNat]?)=fun m=>xs[i + m]?:=by
  funext m
  have:((i:Int) + (m:Int) * 1).toNat=i + m:=by omega
  rw [this]
 rw [e]
 have:=pick_run xs i k
 rw [List.filterMap_map] at this
 have e2:((fun x=>xs[x]?) ∘ fun x=>i + x)=fun m=>xs[i + m]?:=rfl
 rw [e2] at this
 rw [this]
theorem getItem_tuple_cut {t sl:Addr} {items:Array Value} {vl vu:Value} {lo hi:Option Int} {Q:Value→Shared→Prop} (ht:IsTup s.heap t items) (hs:s.heap.IsSliceOf sl vl vu .none) (pl:IsPart vl lo) (pu:IsPart vu hi)
  (hw:¬ (sIx items.size 0 lo=0∧sIx items.size items.size hi=items.size))
  (h:Q (.ref s.heap.objs.size) { s with heap:=s.heap.push { cls:=.type "tuple",data:=.seq ((items.toList.drop (sIx items.size 0 lo)).take (sIx items.size items.size hi - sIx items.size 0 lo)).toArray } })
  (hsz:items.size≤sizeLine):wpAny (model prog w) A (getItem (.ref t) (.ref sl)) Q E s:=by
 have htake:sizeOk (.seq ((items.toList.drop (sIx items.size 0 lo)).take (sIx items.size items.size hi - sIx items.size 0 lo)).toArray):=by
  show ((items.toList.drop (sIx items.size 0 lo)).take (sIx items.size items.size hi - sIx items.size 0 lo)).toArray.size≤sizeLine
  rw [List.size_toArray,List.length_take,List.length_drop,Array.length_toList]
  omega
 have hj:sIx items.size items.size hi≤items.size:=sIx_le _ _ (Nat.le_refl _) hi
 obtain ⟨os,hos,hcs,hds⟩:=id hs
 have hTs:s.TypeIs (.ref sl) "slice":=⟨os,hos,hcs⟩
 unfold getItem
 try with_reducible refine wpAny_holding ?_
 first | refine wpAny_bind (wpAny_pure ?_) | skip
 refine wpAny_bind (wpAny_sequenceKey ht.typeIs (by decide) ?_)
 refine wpAny_bind (wpAny_callSpecial?_slot (name:=Str.ofString "__getitem__") ht.typeIs PyProof.Rows.slot_tuple_getitem
  (wpAny_call_entry PyProof.Rows.slot_tuple_getitem ht.typeIs entry_tuple_getitem ?_ (args_tuple_getitem _ _)))
 show wpAny _ _ (Builtin.Tuple.tupleItemsOf (.ref t) >>= _) _ _ s
 refine wpAny_bind (tupleItemsOf_ ht ?_)
 refine wpAny_bind (wpAny_typeOf hTs ?_)
 rw [if_pos (by decide)]
 refine wpAny_bind (sliceApplied_gen hs pl pu ?_)
 have hno:¬ ((((sIx items.size 0 lo:Nat):Int) == 0 && (1:Int) == 1 && (sIx items.size items.size hi - sIx items.size 0 lo) == items.size)=true):=by
  intro q
  rw [Bool.and_eq_true,Bool.and_eq_true] at q
  have q1:((sIx items.size 0 lo:Nat):Int)=0:=eq_of_beq q.1.1
  have q2:sIx items.size items.size hi - sIx items.size 0 lo=items.size:=eq_of_beq q.2
  exact hw ⟨by omega,by omega⟩
 show wpAny _ _ (if (((sIx items.size 0 lo:Nat):Int) == 0 && (1:Int) == 1 && (sIx items.size items.size hi - sIx items.size 0 lo) == items.size)=true then _ else _) _ _ s
 rw [if_neg hno,pick_gen]
 first
  | exact wpAny_bind (m:=Builtin.Tuple.tupleExact _) (wpAny_newObj_type (wpAny_pure ⟨_,rfl,wpAny_pure h⟩) htake)
  | exact wpAny_bind (m:=Builtin.Tuple.tupleExact _) (wpAny_newObj_type (wpAny_bind (wpAny_pure (wpAny_pure ⟨_,rfl,wpAny_pure h⟩))) htake)
  | exact wpAny_bind (wpAny_bind (m:=Builtin.Tuple.tupleExact _) (wpAny_newObj_type (wpAny_pure (wpAny_pure ⟨_,rfl,wpAny_pure h⟩)) htake))
  | exact wpAny_bind (wpAny_bind (m:=Builtin.Tuple.tupleExact _) (wpAny_newObj_type (wpAny_pure ⟨_,rfl,wpAny_pure h⟩) htake))
end
end HT
namespace L2
open PySem PySem.Spec PyProof.Rows
noncomputable abbrev TO:=St→Hp→(Option Int→Hp→Prop)→Prop
noncomputable def PO (X:Cx) (e:Option Expr) (t:TO):Prop:=
 ∀ (pins:List (Addr × Obj)) (s:Shared) (σ:St) (H:Hp) (Q:Option Int→Hp→Prop),Inv X pins σ H s→t σ H Q→
  wpAny (model X.prog X.w) X.A (evalPart e X.env) (fun u s'=>∃ o H',Inv X pins σ H' s'∧IsPart u o∧Q o H') X.xe s
noncomputable def tNoPart:TO:=fun _ H Q=>Q none H
noncomputable def tPart (t:TE):TO:=fun σ H Q=>t σ H fun x H1=>∃ i,x=.int i∧Q (some i) H1
section
variable {X:Cx} {e:Expr} {te:TE} {lo hi:Option Expr} {tl th:TO} {pos p2:Pos}
theorem po_none:PO X none tNoPart:=by
 intro pins s σ H Q I h
 rw [evalPart_none]
 exact wpAny_pure ⟨none,H,I,.none,h⟩
theorem po_some (h:PE X e te):PO X (some e) (tPart te):=by
 intro pins s σ H Q I hw
 rw [evalPart_some]
 refine thn (h pins s σ H _ I hw) fun u s1 zq=>?_
 obtain ⟨x,H1,I1,r1,q1⟩:=zq
 obtain ⟨i,rfl,q⟩:=q1
 obtain ⟨t,rfl⟩:=r1
 exact ⟨some i,H1,I1,.int i t,q⟩
noncomputable def SlR (X:Cx) (r:V→Option Int→Option Int→Hp→VK→Prop):Prop:=
 ∀ (pins:List (Addr × Obj)) (s:Shared) (σ:St) (H:Hp) (x:V) (v vl vu:Value) (lo hi:Option Int) (sl:Addr) (Q:VK),Inv X pins σ H s→RelV x v→s.heap.IsSliceOf sl vl vu .none→IsPart vl lo→IsPart vu hi→r x lo hi H Q→
  ∃ T id,typeLookup (.type T) "__getitem__" = pure (some (.builtin id))∧s.TypeIs v T∧wpAny (model X.prog X.w) X.A (getItem v (.ref sl)) (EP X pins σ Q) X.xe s
noncomputable def tSl (r:V→Option Int→Option Int→Hp→VK→Prop) (te:TE) (tl th:TO):TE:=fun σ H Q=>te σ H fun x H1=>tl σ H1 fun l H2=>th σ H2 fun u H3=>r x l u H3 Q
theorem pe_slice {r:V→Option Int→Option Int→Hp→VK→Prop} (hr:SlR X r) (he:PE X e te) (hl:PO X lo tl) (hu:PO X hi th):PE X (.Subscript e (.Slice lo hi none p2) pos) (tSl r te tl th):=by
 intro pins s σ H Q I h
 refine Subscript_ (thn (he pins s σ H _ I h) fun v s1 zq=>?_)
 obtain ⟨x,H1,I1,r1,q1⟩:=zq
 refine wpAny_Slice (thn (hl pins s1 σ H1 _ I1 q1) fun vl s2 zq=>ex5 zq fun l H2 I2 pl q2=>thn (hu pins s2 σ H2 _ I2 q2) fun vu s3 zq=>?_)
 obtain ⟨u,H3,I3,pu,q3⟩:=zq
 rw [evalPart_none]
 refine wpAny_pure ?_
 have I4:Inv X pins σ H3 { s3 with heap:=s3.heap.push { cls:=.type "slice",data:=.fields #[vl,vu,.none] } }:=I3.kept (t':=s3.toks) fun b ob q=>Heap.get?_push_of_some _ q
 obtain ⟨T,id,hT,ht,hg⟩:=hr pins { s3 with heap:=s3.heap.push { cls:=.type "slice",data:=.fields #[vl,vu,.none] } } σ H3 x v vl vu l u s3.heap.objs.size Q I4 r1 (Heap.IsSliceOf.new ..) pl pu q3
 show wpAny (model X.prog X.w) X.A (subscriptTail e (.Slice lo hi none p2) v (.ref s3.heap.objs.size)) (EP X pins σ Q) X.xe { s3 with heap:=s3.heap.push { cls:=.type "slice",data:=.fields #[vl,vu,.none] } }
 exact tail_any (ops:=[.ref s3.heap.objs.size,v]) ht hT hg (by with_unfolding_all rfl)
noncomputable def cutV (xs:List V) (lo hi:Option Int):List V:=(xs.drop (HT.sIx xs.length 0 lo)).take (HT.sIx xs.length xs.length hi - HT.sIx xs.length 0 lo)
theorem cutV_length (xs:List V) (lo hi:Option Int):(cutV xs lo hi).length≤xs.length:=by
 unfold cutV
 rw [List.length_take,List.length_drop]
 omega
noncomputable def rSlT (K:PySem.W.Frag):V→Option Int→Option Int→Hp→VK→Prop:=fun x lo hi H Q=>∃ a xs,x=.ref a∧SqT K H a xs∧
 ¬ (HT.sIx xs.length 0 lo=0∧HT.sIx xs.length xs.length hi=xs.length)∧∀ p,H p=none→Q (.ref p) (upd H p (.tup (cutV xs lo hi)))
theorem sl_tup:SlR X (rSlT X.K):=by
 intro pins s σ H x v vl vu lo hi sl Q I rx hs pl pu h
 obtain ⟨a,xs,rfl,hx,hw,q⟩:=h
 cases rx
 obtain ⟨its,r,ht,hz⟩:=I.tuple hx
 have hlen:its.toArray.size=xs.length:=by rw [List.size_toArray]; exact r.length.symm
 refine ⟨"tuple",_,PyProof.Rows.slot_tuple_getitem.lookup,ht.typeIs,?_⟩
 refine HT.getItem_tuple_cut ht hs pl pu (by rw [hlen]; exact hw) ?_ (by rw [hlen]; exact hz)
 rw [hlen]
 refine ⟨.ref s.heap.objs.size,_,I.laid (t':=s.toks) (o:=.tup (cutV xs lo hi)) (fun b ob q=>Heap.get?_push_of_some _ q) (Nat.le_refl _) ?_,rfl,q _ (I.hok.fresh (Nat.le_refl _))⟩
 exact ⟨Nat.le_trans (cutV_length xs lo hi) hz,_,(r.drop (HT.sIx xs.length 0 lo)).take (HT.sIx xs.length xs.length hi - HT.sIx xs.length 0 lo),IsTup.new _ _⟩
noncomputable def rCatT (K:PySem.W.Frag):R2:=fun x y H Q=>∃ a b xs ys,x=.ref a∧y=.ref b∧SqT K H a xs∧SqT K H b ys∧xs ≠ []∧xs.length + ys.length≤sizeLine∧
 (ys=[]→Q (.ref a) H)∧(ys ≠ []→∀ p,H p=none→Q (.ref p) (upd H p (.tup (xs ++ ys))))
theorem Vals.nil_iff {xs:List V} {us:List Value} (r:Vals xs us):us=[]↔xs=[]:=by
 cases r with
 | nil=>simp
 | cons _ _=>simp
theorem op_catT:OpR X (binaryOp .Add) (rCatT X.K):=by
 intro pins s σ H x y v u Q I rx ry h
 obtain ⟨a,b,xs,ys,rfl,rfl,ha,hb,hx,hz,q1,q2⟩:=h
 cases rx
 cases ry
 obtain ⟨its,r1,p1,_⟩:=I.tuple ha
 obtain ⟨its2,r2,p2,_⟩:=I.tuple hb
 refine HT.cat_tup p1 p2 (fun z=>hx (r1.nil_iff.mp z)) (fun z=>⟨.ref a,H,I,rfl,q1 (r2.nil_iff.mp z)⟩) (fun z=>?_) (by rw [← r1.length,← r2.length]; exact hz)
 refine ⟨.ref s.heap.objs.size,_,I.laid (t':=s.toks) (o:=.tup (xs ++ ys)) (fun b ob q=>Heap.get?_push_of_some _ q) (Nat.le_refl _) ?_,rfl,q2 (fun w=>z (r2.nil_iff.mpr w)) _ (I.hok.fresh (Nat.le_refl _))⟩
 exact ⟨by rw [List.length_append]; exact hz,_,r1.append r2,IsTup.new _ _⟩
end
end L2
namespace L2
open PySem PySem.Spec PyProof.Rows
noncomputable def ixN (n:Nat) (i:Int):Option Nat:=if 0≤i then (if i < n then some i.toNat else none) else if -(n:Int)≤i then some (i + n).toNat else none
noncomputable def atI {α:Type} (xs:List α) (i:Int):Option α:=(ixN xs.length i).bind fun j=>xs[j]?
theorem ixN_seq {n:Nat} {i:Int} {j:Nat} (h:ixN n i=some j):seqIndex? i n=some j∧j < n∧-(n:Int)≤i∧i < n:=by
 unfold ixN at h
 by_cases h0:0≤i
 ·rw [if_pos h0] at h
  by_cases h1:i < n
  ·rw [if_pos h1] at h
   have e:i.toNat=j:=Option.some.inj h
   exact ⟨by rw [seqIndex_of h0 h1,e],by omega,by omega,h1⟩
  ·rw [if_neg h1] at h; cases h
 ·rw [if_neg h0] at h
  by_cases h1:-(n:Int)≤i
  ·rw [if_pos h1] at h
   have e:(i + n).toNat=j:=Option.some.inj h
   exact ⟨by rw [seqIndex_neg (by omega) h1,e],by omega,h1,by omega⟩
  ·rw [if_neg h1] at h; cases h
theorem atI_get {α:Type} {xs:List α} {i:Int} {v:α} (h:atI xs i=some v):∃ j,seqIndex? i xs.length=some j∧xs[j]?=some v∧j < xs.length∧-(xs.length:Int)≤i∧i < xs.length:=by
 unfold atI at h
 cases e:ixN xs.length i with
 | none=>rw [e] at h; cases h
 | some j=>
  rw [e] at h
  obtain ⟨h1,h2,h3,h4⟩:=ixN_seq e
  exact ⟨j,h1,h,h2,h3,h4⟩
theorem atI_nat {α:Type} {xs:List α} {j:Nat} {v:α} (h:xs[j]?=some v):atI xs (j:Int)=some v:=by
 have hj:j < xs.length:=(List.getElem?_eq_some_iff.mp h).1
 have e:ixN xs.length (j:Int)=some j:=by
  unfold ixN
  rw [if_pos (by omega),if_pos (by omega)]; simp
 unfold atI; rw [e]; exact h
noncomputable def PlainIx (b:Expr):Prop:=∀ o i,subscripted b false o i=operate [o,i] (getItem o i)
noncomputable def IxR (X:Cx) (r:R2):Prop:=
 ∀ (value slice:Expr) (pins:List (Addr × Obj)) (s:Shared) (σ:St) (H:Hp) (x y:V) (v u:Value) (Q:VK),Inv X pins σ H s→RelV x v→RelV y u→r x y H Q→
  subscripted slice false v u=operate [v,u] (getItem v u)→wpAny (model X.prog X.w) X.A (subscriptTail value slice v u) (EP X pins σ Q) X.xe s
noncomputable def MtR (X:Cx) (id:String) (r:V→List V→Hp→VK→Prop):Prop:=
 ∀ (pins:List (Addr × Obj)) (s:Shared) (σ:St) (H:Hp) (x:V) (xs:List V) (v:Value) (us:List Value) (Q:VK),Inv X pins σ H s→RelV x v→Vals xs us→r x xs H Q→
  wpAny (model X.prog X.w) X.A (call (.builtin id) (v :: us)) (EP X pins σ Q) X.xe s
section
variable {X:Cx} {a b:Expr} {ta tb:TE} {pos:Pos}
theorem IxR.or {r r':R2} (h:IxR X r) (h':IxR X r'):IxR X (fun x y H Q=>r x y H Q ∨ r' x y H Q):=by
 intro value slice pins s σ H x y v u Q I rx ry q hs
 rcases q with q | q
 ·exact h value slice pins s σ H x y v u Q I rx ry q hs
 ·exact h' value slice pins s σ H x y v u Q I rx ry q hs
theorem pe_ix {r:R2} (hr:IxR X r) (ha:PE X a ta) (hb:PE X b tb) (hs:PlainIx b):PE X (.Subscript a b pos) (tOp r ta tb):=by
 intro pins s σ H Q I h
 exact Subscript_ (binT ha hb I h fun v u s2 x y H2 I2 rx ry q=>hr a b pins s2 σ H2 x y v u Q I2 rx ry q (hs _ _))
noncomputable def rIxL (K:PySem.W.Frag):R2:=fun x y H Q=>∃ p xs i v,x=.ref p∧y=.int i∧SqL K H p xs∧atI xs i=some v∧Q v H
noncomputable def rIxT (K:PySem.W.Frag):R2:=fun x y H Q=>∃ p xs i v,x=.ref p∧y=.int i∧SqT K H p xs∧atI xs i=some v∧Q v H
noncomputable def rIxS:R2:=fun x y H Q=>∃ z i c,x=.str z∧y=.int i∧z.length≤sizeLine∧atI z.cps.toList i=some c∧Q (.str ⟨#[c]⟩) H
theorem ix_list:IxR X (rIxL X.K):=by
 intro value slice pins s σ H x y v u Q I rx ry h hs
 obtain ⟨p,xs,i,z,rfl,rfl,hq,he,q⟩:=h
 cases rx
 obtain ⟨t,rfl⟩:=ry
 obtain ⟨its,r,pl,hz⟩:=I.list hq
 obtain ⟨j,h1,h2,h3,h4,h5⟩:=atI_get he
 obtain ⟨w,ew,rw'⟩:=r.get h2
 have hl:=r.length
 have hn:=line63
 have fin:EP X pins σ Q w s:=⟨z,H,I,rw',q⟩
 by_cases h0:0≤i
 ·have hj:i.toNat=j:=by
   rw [seqIndex_of h0 h5] at h1
   exact Option.some.inj h1
  exact item_listR pl.isList h0 (by omega) (by rw [hj]; simpa using ew) fin hs
 ·have hj:(i + (its.toArray.size:Int)).toNat=j:=by
   rw [seqIndex_neg (by omega) h4] at h1
   rw [List.size_toArray,← hl]
   exact Option.some.inj h1
  exact subscriptTail_builtinR (x:=w) pl.isList.typeIs slot_list_getitem.lookup
   (wpAny_getItem_list_neg (Q:=fun r s'=>r=w∧EP X pins σ Q r s') pl.isList (by omega) (by rw [List.size_toArray] <;> omega) (by omega) (by rw [hj]; simpa using ew) ⟨rfl,fin⟩) hs
theorem ix_tup:IxR X (rIxT X.K):=by
 intro value slice pins s σ H x y v u Q I rx ry h hs
 obtain ⟨p,xs,i,z,rfl,rfl,hq,he,q⟩:=h
 cases rx
 obtain ⟨t,rfl⟩:=ry
 obtain ⟨its,r,pl,hz⟩:=I.tuple hq
 obtain ⟨j,h1,h2,h3,h4,h5⟩:=atI_get he
 obtain ⟨w,ew,rw'⟩:=r.get h2
 have hl:=r.length
 have hn:=line63
 have fin:EP X pins σ Q w s:=⟨z,H,I,rw',q⟩
 exact subscriptTail_builtinR (x:=w) pl.typeIs slot_tuple_getitem.lookup
  (getItem_tuple (j:=j) (Q:=fun r s'=>r=w∧EP X pins σ Q r s') pl (by omega) (by omega) (by rw [List.size_toArray,← hl]; exact h1) (by simpa using ew) ⟨rfl,fin⟩) hs
theorem ix_str:IxR X rIxS:=by
 intro value slice pins s σ H x y v u Q I rx ry h hs
 obtain ⟨z,i,c,rfl,rfl,hz,he,q⟩:=h
 obtain ⟨t,rfl⟩:=rx
 obtain ⟨t',rfl⟩:=ry
 obtain ⟨j,h1,h2,h3,h4,h5⟩:=atI_get he
 have hl:z.cps.toList.length=z.length:=by simp [Str.length]
 rw [hl] at h1 h4 h5
 have hn:=line63
 exact tail_any (typeIs_str s z t) slot_str_getitem.lookup (getItem_str (c:=c) (by
  have e1:decide (i < -(2 ^ 63:Int))=false:=decide_eq_false (by omega)
  have e2:decide (i ≥ 2 ^ 63)=false:=decide_eq_false (by omega)
  rw [e1,e2,Bool.or_false]) (by rw [h1]; simpa using h2) ⟨.str ⟨#[c]⟩,H,I.tok _,⟨_,rfl⟩,q⟩) hs
noncomputable def rIx (K:PySem.W.Frag):R2:=fun x y H Q=>rIxL K x y H Q ∨ rIxT K x y H Q ∨ rIxS x y H Q
theorem ix_seq:IxR X (rIx X.K):=ix_list.or (ix_tup.or ix_str)
theorem mapSeq_set (its:List Value) (n j:Nat) (u:Value):Obj.mapSeq (·.setIfInBounds j u) { cls:=.type "list",data:=.seq its.toArray n }={ cls:=.type "list",data:=.seq (its.set j u).toArray n }:=by
 simp [Obj.mapSeq]
theorem Inv.lst {pins:List (Addr × Obj)} {σ:St} {H:Hp} {s:Shared} {p:Addr} {xs:List V} (I:Inv X pins σ H s) (h:H p=some (.lst xs)):
  ∃ (its:List Value) (n:Nat),Vals xs its∧s.heap.get? p=some { cls:=.type "list",data:=.seq its.toArray n }∧xs.length≤sizeLine:=by
 obtain ⟨z,its,n,r,e⟩:=I.hok p _ h
 exact ⟨its,n,r,e,z⟩
theorem Inv.lstUpd {pins:List (Addr × Obj)} {σ:St} {H:Hp} {s:Shared} {p:Addr} {xs ys:List V} {its its':List Value} {n n':Nat} {f:Obj→Obj} (I:Inv X pins σ H s) (h:H p=some (.lst xs))
  (ho:s.heap.get? p=some { cls:=.type "list",data:=.seq its.toArray n }) (hf:f { cls:=.type "list",data:=.seq its.toArray n }={ cls:=.type "list",data:=.seq its'.toArray n' }) (r:Vals ys its') (hz:ys.length≤sizeLine) (t:Nat):
  Inv X pins σ (upd H p (.lst ys)) { s with heap:=s.heap.update p f,toks:=t }:=by
 have e:(s.heap.update p f).get? p=some { cls:=.type "list",data:=.seq its'.toArray n' }:=by
  rw [Heap.get?_update_self f ho (by rw [hf] <;> rfl),hf]
 refine I.write (x:=p) (e:=p) (by rw [h]; trivial) (.inl rfl) (fun b u hb q=>(Heap.get?_update_other _ _ (Ne.symm hb)).trans q) ⟨_,e⟩ ?_
 exact ⟨hz,its',n',r,e⟩
noncomputable def rSetL:V→V→V→Hp→(Hp→Prop)→Prop:=fun o i v H Q=>∃ p xs k j,o=.ref p∧i=.int k∧H p=some (.lst xs)∧ixN xs.length k=some j∧Q (upd H p (.lst (xs.set j v)))
theorem set_list:PSet X rSetL:=by
 intro pins s σ H o i v ov iv u Q I ro ri rv h
 obtain ⟨p,xs,k,j,rfl,rfl,hp,hj,q⟩:=h
 cases ro
 obtain ⟨t,rfl⟩:=ri
 obtain ⟨its,n,r,ho,hz⟩:=I.lst hp
 obtain ⟨h1,h2,h3,h4⟩:=ixN_seq hj
 have hl:=r.length
 have hn:=line63
 have I':Inv X pins σ (upd H p (.lst (xs.set j v))) { s with heap:=s.heap.update p (Obj.mapSeq (·.setIfInBounds j u)) }:=
  I.lstUpd hp ho (mapSeq_set its n j u) (r.set rv j) (by rw [List.length_set]; exact hz) s.toks
 by_cases h0:0≤k
 ·have hk:k.toNat=j:=by
   rw [seqIndex_of h0 h4] at h1
   exact Option.some.inj h1
  exact PySem.W.ki_setAt ho h0 (by omega) (by rw [List.size_toArray,← hl]; exact h4) (by rw [hk]; exact ⟨_,I',q⟩)
 ·have hk:(k + (its.toArray.size:Int)).toNat=j:=by
   rw [seqIndex_neg (by omega) h3] at h1
   rw [List.size_toArray,← hl]
   exact Option.some.inj h1
  exact PySem.W.ki_setBack ho (by omega) (by rw [List.size_toArray,← hl]; exact h3) (by omega) (by rw [hk]; exact ⟨_,I',q⟩)
theorem slice_bounds (lo hi:Option Int) (n:Nat):(sliceBounds lo hi none n).1=((HT.sIx n 0 lo:Nat):Int)∧(sliceBounds lo hi none n).2.1=((HT.sIx n n hi:Nat):Int)∧(sliceBounds lo hi none n).2.2=1:=by
 refine ⟨?_,?_,rfl⟩
 ·cases lo with
  | none=>simp [sliceBounds,HT.sIx]
  | some i=>
   simp only [sliceBounds,HT.sIx,Option.getD_none,show (1:Int) > 0 by decide,if_true]
   by_cases h:i < 0
   ·simp only [h,if_true] <;> omega
   ·simp only [h,if_false] <;> omega
 ·cases hi with
  | none=>simp [sliceBounds,HT.sIx]
  | some i=>
   simp only [sliceBounds,HT.sIx,Option.getD_none,show (1:Int) > 0 by decide,if_true]
   by_cases h:i < 0
   ·simp only [h,if_true] <;> omega
   ·simp only [h,if_false] <;> omega
theorem slicePick_cut (its:List Value) (lo hi:Option Int):slicePick its.toArray lo hi none=((its.drop (HT.sIx its.length 0 lo)).take (HT.sIx its.length its.length hi - HT.sIx its.length 0 lo)).toArray:=by
 obtain ⟨h1,h2,h3⟩:=slice_bounds lo hi its.toArray.size
 unfold slicePick
 rw [h1,h2,h3]
 simp only [sliceRange_one,pick_run,List.size_toArray] <;> rfl
noncomputable def rSlL (K:PySem.W.Frag):V→Option Int→Option Int→Hp→VK→Prop:=fun x lo hi H Q=>∃ a xs,x=.ref a∧SqL K H a xs∧∀ p,H p=none→Q (.ref p) (upd H p (.lst (cutV xs lo hi)))
theorem sl_list:SlR X (rSlL X.K):=by
 intro pins s σ H x v vl vu lo hi sl Q I rx hs pl pu h
 obtain ⟨a,xs,rfl,hx,q⟩:=h
 cases rx
 obtain ⟨its,r,ht,hz⟩:=I.list hx
 have hlen:=r.length
 refine ⟨"list",_,slot_list_getitem.lookup,ht.isList.typeIs,?_⟩
 refine wpAny_getItem_list_slice ht.isList hs pl pu .none (by simp) ?_ (by rw [List.size_toArray] <;> omega)
 rw [slicePick_cut,← hlen]
 refine ⟨.ref s.heap.objs.size,_,I.laid (t':=s.toks) (o:=.lst (cutV xs lo hi)) (fun b ob q=>Heap.get?_push_of_some _ q) (Nat.le_refl _) ?_,rfl,q _ (I.hok.fresh (Nat.le_refl _))⟩
 exact ⟨Nat.le_trans (cutV_length xs lo hi) hz,_,0,(r.drop (HT.sIx xs.length 0 lo)).take (HT.sIx xs.length xs.length hi - HT.sIx xs.length 0 lo),Heap.get?_push_size _ rfl⟩
theorem call_len_seq:CallR X (.builtin "len") (fun xs H Q=>∃ p ys,xs=[.ref p]∧(SqL X.K H p ys ∨ SqT X.K H p ys)∧Q (.int ys.length) H):=by
 intro pins s σ H xs us Q I r h
 obtain ⟨p,ys,rfl,hq,q⟩:=h
 obtain ⟨u,rfl,rx⟩:=vals1 r
 cases rx
 have hn:=line63
 rcases hq with hq | hq
 ·obtain ⟨its,r',pl,hz⟩:=I.list hq
  have hlen:=r'.length
  exact Calls.call_len_list pl.isList (by simp only [List.size_toArray] <;> omega) ⟨.int ys.length,H,I.tok _,⟨s.toks + 1,by rw [List.size_toArray,hlen]⟩,q⟩
 ·obtain ⟨its,r',pl,hz⟩:=I.tuple hq
  have hlen:=r'.length
  exact len_tuple pl (by simp only [List.size_toArray] <;> omega) ⟨.int ys.length,H,I.tok _,⟨s.toks + 1,by rw [List.size_toArray,hlen]⟩,q⟩
theorem call_len_str:CallR X (.builtin "len") (fun xs H Q=>∃ z,xs=[.str z]∧z.length≤sizeLine∧Q (.int z.length) H):=by
 intro pins s σ H xs us Q I r h
 obtain ⟨z,rfl,hz,q⟩:=h
 obtain ⟨u,rfl,t,rfl⟩:=vals1 r
 have hn:=line63
 exact len_str (by omega) ⟨.int z.length,H,I.tok _,⟨_,rfl⟩,q⟩
theorem call_list_of:CallR X (.type "list") (fun xs H Q=>∃ p ys,xs=[.ref p]∧(SqL X.K H p ys ∨ SqT X.K H p ys)∧∀ l,H l=none→Q (.ref l) (upd H l (.lst ys))):=by
 intro pins s σ H xs us Q I r h
 obtain ⟨p,ys,rfl,hq,q⟩:=h
 obtain ⟨u,rfl,rx⟩:=vals1 r
 cases rx
 have fin:∀ (its:List Value),Vals ys its→ys.length≤sizeLine→∀ (h':Heap) (c':Nat),(∀ b o',s.heap.get? b=some o'→h'.get? b=some o')→
   h'.get? s.heap.objs.size=some { cls:=.type "list",dict:=none,data:=.seq its.toArray c',slots:=#[] }→EP X pins σ Q (.ref s.heap.objs.size) { s with heap:=h' }:=fun its r' hz h' c' kp e=>
  ⟨.ref s.heap.objs.size,_,I.laid (t':=s.toks) kp (Nat.le_refl _) (show ObjOk X.prog X.w _ h' _ (.lst ys) from ⟨hz,its,c',r',e⟩),rfl,q _ (I.hok.fresh (Nat.le_refl _))⟩
 rcases hq with hq | hq
 ·obtain ⟨its,r',pl,hz⟩:=I.list hq
  have hlen:=r'.length
  obtain ⟨o,ho,hc,n,hd⟩:=pl.isList
  exact call_list_seq p (.inl rfl) ho hc hd (fun h' c' kp e=>fin its r' hz h' c' kp e) (by simp only [List.size_toArray] <;> omega)
 ·obtain ⟨its,r',pl,hz⟩:=I.tuple hq
  have hlen:=r'.length
  obtain ⟨o,ho,hc,n,hd⟩:=pl
  exact call_list_seq p (.inr rfl) ho hc hd (fun h' c' kp e=>fin its r' hz h' c' kp e) (by simp only [List.size_toArray] <;> omega)
theorem call_tuple_of:CallR X (.type "tuple") (fun xs H Q=>∃ p ys,xs=[.ref p]∧((SqL X.K H p ys∧∀ l,H l=none→Q (.ref l) (upd H l (.tup ys))) ∨ (SqT X.K H p ys∧Q (.ref p) H))):=by
 intro pins s σ H xs us Q I r h
 obtain ⟨p,ys,rfl,h⟩:=h
 obtain ⟨u,rfl,rx⟩:=vals1 r
 cases rx
 rcases h with ⟨hq,q⟩ | ⟨hq,q⟩
 ·obtain ⟨its,r',pl,hz⟩:=I.list hq
  have hlen:=r'.length
  refine call_tuple_list pl.isList (fun h' kp=>?_) (by simp only [List.size_toArray] <;> omega)
  have I1:Inv X pins σ H { s with heap:=h' }:=I.kept (t':=s.toks) kp
  have I2:Inv X pins σ (upd H h'.objs.size (.tup ys)) { s with heap:=h'.push { cls:=.type "tuple",data:=.seq its.toArray } }:=
   I1.laid (t':=s.toks) (fun b o e=>Heap.get?_push_of_some _ e) (Nat.le_refl _) (show ObjOk X.prog X.w _ _ _ (.tup ys) from ⟨hz,its,r',IsTup.new _ _⟩)
  exact ⟨.ref h'.objs.size,_,I2,rfl,q _ (I1.hok.fresh (Nat.le_refl _))⟩
 ·obtain ⟨its,r',pl,hz⟩:=I.tuple hq
  exact call_tuple_same pl ⟨.ref p,H,I,rfl,q⟩
noncomputable def tyV (K:PySem.W.Frag) (T:String) (x:V) (H:Hp):Prop:=match x with
 | .str _=>T = "str"
 | .int _=>T = "int"
 | .ref p=>(T = "list"∧∃ xs,SqL K H p xs) ∨ (T = "tuple"∧∃ o,K.lookup p=some o∧o.cls=.type "tuple"∧o.dict=none) ∨
   (T = "dict"∧((∃ kvs,H p=some (.dK kvs)) ∨ ∃ kvs,H p=some (.dT kvs))) ∨ (T = "set"∧∃ S n,H p=some (.set S n))
 | _=>False
theorem tyV_is {pins:List (Addr × Obj)} {σ:St} {H:Hp} {s:Shared} {T:String} {x:V} {v:Value} (I:Inv X pins σ H s) (r:RelV x v) (ty:tyV X.K T x H):
  s.TypeIs v T∧∀ a,v=.ref a→∃ ob,s.heap.get? a=some ob∧ob.dict=none:=by
 cases x with
 | str z=>
  obtain ⟨t,rfl⟩:=r
  cases (show T = "str" from ty)
  exact ⟨typeIs_str s z t,fun _ e=>nomatch e⟩
 | int i=>
  obtain ⟨t,rfl⟩:=r
  cases (show T = "int" from ty)
  exact ⟨typeIs_int s i t,fun _ e=>nomatch e⟩
 | ref p=>
  cases r
  rcases ty with ⟨rfl,xs,hq⟩ | ⟨rfl,o,hk,hc,hd⟩ | ⟨rfl,hk⟩ | ⟨rfl,S,n,hk⟩
  ·obtain ⟨its,_,pl,_⟩:=I.list hq
   refine ⟨pl.isList.typeIs,fun a e=>?_⟩
   cases e
   obtain ⟨o,n,e,c,hd,_⟩:=pl
   exact ⟨o,e,hd⟩
  ·refine ⟨⟨o,I.kIn p o hk,hc⟩,fun a e=>?_⟩
   cases e
   exact ⟨o,I.kIn _ o hk,hd⟩
  ·have z:∃ o,s.heap.get? p=some o∧o.ExactDict:=by
    rcases hk with ⟨kvs,hk⟩ | ⟨kvs,hk⟩
    ·obtain ⟨_,_,_,_,o,_,_,e,ex,_⟩:=I.hok p _ hk
     exact ⟨o,e,ex⟩
    ·obtain ⟨_,_,_,_,o,_,_,e,ex,_⟩:=I.hok p _ hk
     exact ⟨o,e,ex⟩
   obtain ⟨o,e,ex⟩:=z
   refine ⟨⟨o,e,ex.1⟩,fun a e2=>?_⟩
   cases e2
   exact ⟨o,e,ex.2.1⟩
  ·obtain ⟨o,_,_,_,e,ex,_⟩:=I.hok p _ hk
   refine ⟨⟨o,e,ex.1⟩,fun a e2=>?_⟩
   cases e2
   exact ⟨o,e,ex.2.1⟩
 | _=>exact False.elim ty
noncomputable def tBM (K:PySem.W.Frag) (T:String) (r:V→List V→Hp→VK→Prop) (to:TE) (t:TA):TE:=fun σ H Q=>to σ H fun x H1=>tyV K T x H1∧t σ H1 fun xs H2=>r x xs H2 Q
variable {o e:Expr} {es:List Expr} {to:TE} {t:TA} {name:Str} {apos cpos:Pos} {T id:String} {r:V→List V→Hp→VK→Prop}
theorem pe_bm (pa:PlainAttrs T) (slot:Slot T name id) (hty:typeOf (.builtin id)=pure (.type "method_descriptor")) (hm:MtR X id r) (ho:PE X o to) (ha:PA X (e :: es) t)
  (hbase:autoParam (attributeBase o name X.env (eval o X.env)=eval o X.env) Au.h1._auto_1)
  (hfew:autoParam (((backTo cpos (starEach (e :: es) X.env)).all (fun x=>!x.1) && (backToKw cpos (keywordEach [] X.env)).all (fun x=>x.1.isSome)
   && decide ((e :: es).length + ([]:List Keyword).length + (if ([]:List Keyword).isEmpty then 0 else 1) < 30))=true) Au.h1._auto_1)
  (hline:autoParam ((apos.endLine == cpos.line)=true) Au.h1._auto_1) (hs:autoParam (starEach (e :: es) X.env=(false,eval e X.env) :: starEach es X.env) Au.h1._auto_1) (hplain:autoParam ((backTo cpos (starEach es X.env)).any (·.1)=false) Au.h1._auto_1):
  PE X (.Call (.Attribute o name apos) (e :: es) [] cpos) (tBM X.K T r to t):=by
 intro pins s σ H Q I h
 refine wpAny_Call_method_late hbase hfew hline rfl (thn (ho pins s σ H _ I h) fun v s1 zq=>?_)
 obtain ⟨x,H1,I1,r1,ty,q1⟩:=zq
 obtain ⟨h1,h2⟩:=tyV_is I1 r1 ty
 refine ⟨T,id,pa,slot,hty,h1,h2,?_⟩
 have hA:=ha cpos pins s1 σ H1 _ I1 q1
 rw [hs] at hA ⊢
 refine Calls.callWith_builtin (by show (false || (backTo cpos (starEach es X.env)).any (·.1))=false; rw [hplain] <;> rfl) (Calls.evalArgs_plain ?_)
 exact thn hA fun us s2 zq=>ex5 zq fun vs H2 I2 r2 q2=>hm pins s2 σ H2 x vs v us Q I2 r1 r2 q2
end
end L2
namespace L2
open PySem PySem.Spec PyProof.Rows
noncomputable def MtM (X:Cx) (id:String) (r:V→List V→Hp→VK→Prop):Prop:=
 ∀ (pins:List (Addr × Obj)) (s:Shared) (σ:St) (H:Hp) (x:V) (xs:List V) (v:Value) (us:List Value) (Q:VK),Inv X pins σ H s→RelV x v→Vals xs us→r x xs H Q→
  wpAny (model X.prog X.w) X.A (call (.builtin id) (v :: us)) (EP X pins σ Q) X.xe s
theorem Vals.one:∀ {x:V} {us:List Value},Vals [x] us→∃ u,us=[u]∧RelV x u
 | _,_,.cons r .nil=>⟨_,rfl,r⟩
theorem Vals.rep {xs:List V} {us:List Value} (h:Vals xs us):∀ k:Nat,Vals (List.replicate k xs).flatten (List.replicate k us).flatten
 | 0=>.nil
 | k + 1=>by
  rw [List.replicate_succ,List.replicate_succ,List.flatten_cons,List.flatten_cons]
  exact Vals.append h (Vals.rep h k)
theorem foldl_rep (its:List Value):∀ (k:Nat) (acc:List Value),
  List.foldl (fun x1 x2=>x1 ++ x2) acc.toArray (List.replicate k its.toArray)=(acc ++ (List.replicate k its).flatten).toArray
 | 0,acc=>by simp
 | k + 1,acc=>by
  have e:acc.toArray ++ its.toArray=(acc ++ its).toArray:=by simp
  have e2:(acc ++ its) ++ (List.replicate k its).flatten=acc ++ (List.replicate (k + 1) its).flatten:=by
   rw [List.replicate_succ,List.flatten_cons,List.append_assoc]
  rw [← e2,← foldl_rep its k (acc ++ its),← e,List.replicate_succ,List.foldl_cons]
section
variable {X:Cx} {pins:List (Addr × Obj)} {σ:St} {H:Hp} {s:Shared} {l b:Addr} {xs ys zs:List V}
theorem Inv.lset {its its':List Value} {n:Nat} {f:Array Value→Array Value} {t':Nat} (I:Inv X pins σ H s) (hH:H l=some (.lst xs))
  (e:s.heap.get? l=some { cls:=.type "list",data:=.seq its.toArray n }) (hf:f its.toArray=its'.toArray) (hv:Vals ys its') (hz:ys.length≤sizeLine):
  Inv X pins σ (upd H l (.lst ys)) { s with heap:=s.heap.update l (Obj.mapSeq f),toks:=t' }:=by
 have q:=PySem.IsL.update e f
 rw [hf] at q
 refine I.write (x:=l) (e:=l) (by rw [hH]; exact trivial) (.inl rfl) (fun b' u hb hu=>(Heap.get?_update_other s.heap (Obj.mapSeq f) (Ne.symm hb)).trans hu) ⟨_,q⟩ ?_
 exact ⟨hz,its',_,hv,q⟩
theorem Inv.lnew {its:List Value} {t':Nat} (I:Inv X pins σ H s) (hv:Vals ys its) (hz:ys.length≤sizeLine):
  Inv X pins σ (upd H s.heap.objs.size (.lst ys)) { s with heap:=s.heap.push { cls:=.type "list",data:=.seq its.toArray },toks:=t' }:=
 I.laid (fun _ _ q=>Heap.get?_push_of_some _ q) (Nat.le_refl _) ⟨hz,its,0,hv,Heap.get?_push_size _ rfl⟩
theorem Inv.fresh (I:Inv X pins σ H s):H s.heap.objs.size=none:=I.hok.fresh (Nat.le_refl _)
theorem Inv.lstM (I:Inv X pins σ H s) (hH:H l=some (.lst xs)):xs.length≤sizeLine∧∃ (its:List Value) (n:Nat),Vals xs its∧xs.length=its.length∧s.heap.get? l=some { cls:=.type "list",data:=.seq its.toArray n }:=by
 obtain ⟨z,its,n,r,e⟩:=I.hok l _ hH
 exact ⟨z,its,n,r,r.length,e⟩
theorem notLongL {n:Nat} (h:n≤sizeLine):Builtin.List.listTooLong n=false:=by
 unfold Builtin.List.listTooLong
 exact decide_eq_false (by omega)
end
section
variable {X:Cx}
noncomputable def rAppend:V→List V→Hp→VK→Prop:=fun x vs H Q=>∃ l xs y,x=.ref l∧vs=[y]∧H l=some (.lst xs)∧xs.length < sizeLine∧Q .non (upd H l (.lst (xs ++ [y])))
theorem mt_append:MtM X "list.append" rAppend:=by
 intro pins s σ H x vs v us Q I rx rv h
 obtain ⟨l,xs,y,rfl,rfl,hH,hz,q⟩:=h
 cases rx
 obtain ⟨u,rfl,ru⟩:=rv.one
 obtain ⟨z,its,n,r,hl,e⟩:=I.lstM hH
 refine call_meets F.slot_list_append ⟨_,e,rfl⟩ F.entry_list_append (F.args_list_append_2 _ _) (PySem.list_append l its.toArray n u (by rw [List.size_toArray]; omega)) ⟨e,?_⟩
 refine ⟨.non,_,I.lset (its':=its ++ [u]) hH e (by simp) (r.append (.cons ru .nil)) ?_,rfl,q⟩
 rw [List.length_append,List.length_singleton]
 omega
noncomputable def rCat:R2:=fun x y H Q=>∃ l b xs zs,x=.ref l∧y=.ref b∧H l=some (.lst xs)∧H b=some (.lst zs)∧xs.length + zs.length≤sizeLine∧∀ p,H p=none→Q (.ref p) (upd H p (.lst (xs ++ zs)))
theorem op_cat:OpR X (binaryOp .Add) rCat:=by
 intro pins s σ H x y v u Q I rx ry h
 obtain ⟨l,b,xs,zs,rfl,rfl,hH,hB,hz,q⟩:=h
 cases rx
 cases ry
 obtain ⟨z,its,n,r,hl,e⟩:=I.lstM hH
 obtain ⟨z2,its2,n2,r2,hl2,e2⟩:=I.lstM hB
 refine PySem.P.add_list e e2 ?_ (by rw [List.size_toArray,List.size_toArray]; omega)
 have ea:its.toArray ++ its2.toArray=(its ++ its2).toArray:=by simp
 rw [ea]
 exact ⟨.ref _,_,I.lnew (t':=s.toks) (r.append r2) (by rw [List.length_append]; omega),rfl,q _ I.fresh⟩
noncomputable def rRep:R2:=fun x y H Q=>∃ l k xs,x=.ref l∧y=.int k∧H l=some (.lst xs)∧-(2 ^ 63)≤k∧k < 2 ^ 63∧xs.length * k.toNat≤sizeLine∧
 ∀ p,H p=none→Q (.ref p) (upd H p (.lst (List.replicate k.toNat xs).flatten))
theorem len_rep {α:Type} (xs:List α) (k:Nat):(List.replicate k xs).flatten.length=k * xs.length:=by
 induction k with
 | zero=>simp
 | succ k ih=>rw [List.replicate_succ,List.flatten_cons,List.length_append,ih,Nat.succ_mul,Nat.add_comm]
theorem op_rep:OpR X (binaryOp .Mult) rRep:=by
 intro pins s σ H x y v u Q I rx ry h
 obtain ⟨l,k,xs,rfl,rfl,hH,h1,h2,hz,q⟩:=h
 cases rx
 obtain ⟨t,rfl⟩:=ry
 obtain ⟨z,its,n,r,hl,e⟩:=I.lstM hH
 have hlen:its.toArray.size * k.toNat≤sizeLine:=by rw [List.size_toArray,← hl]; exact hz
 have hcap:¬ its.toArray.size * k.toNat > (2 ^ 63 - 1) / 8:=by
  have:(sizeLine:Nat)≤(2 ^ 63 - 1) / 8:=by decide
  omega
 have hfit:¬ (!Builtin.List.listFitsIndex k)=true:=by
  rw [fitsIndex_both h1 h2]
  exact Bool.false_ne_true
 have hlong:¬ Builtin.List.listTooLong (its.toArray.size * k.toNat)=true:=by
  rw [notLongL hlen]
  exact Bool.false_ne_true
 have hnew:List.foldl (fun x1 x2=>x1 ++ x2) #[] (List.replicate (if its.toArray.isEmpty=true then 0 else k.toNat) its.toArray)=(List.replicate k.toNat its).flatten.toArray:=by
  have f0:∀ m:Nat,List.foldl (fun x1 x2=>x1 ++ x2) #[] (List.replicate m its.toArray)=(List.replicate m its).flatten.toArray:=fun m=>by
   have:=foldl_rep its m []
   rw [List.nil_append] at this
   exact this
  rw [f0]
  cases its with
  | nil=>simp
  | cons a r'=>rw [if_neg (by simp)]
 refine wpAny_binaryOp_repeat_ref (T:="list") (U:="int") (by decide) ⟨_,e,rfl⟩ (fun s'=>typeIs_int s' k t) noFill_list_mul F.fills_int_mul F.slot_int_rmul repeat_list F.slot_int_index.lookup
  (call_meets F.slot_int_rmul (typeIs_int s k t) F.entry_int_rmul (F.args_int_rmul_2 _ _) (int___rmul___int_list k t l its.toArray n)
   ⟨e,rfl,⟨_,e,rfl⟩,call_meets F.slot_list_mul ⟨_,e,rfl⟩ F.entry_list_mul (F.args_list_mul_2 _ _) (AutoListH.list___mul___list_int_3 l its.toArray n k t hfit hcap hlong) ⟨e,?_⟩⟩)
 rw [hnew]
 exact ⟨.ref _,_,I.lnew (t':=s.toks) (r.rep k.toNat) (by rw [len_rep,Nat.mul_comm]; exact hz),rfl,q _ I.fresh⟩
end
section
variable {prog:Program} {w:World} {A:Around} {E:Value→Shared→Prop} {s:Shared}
end
section
variable {X:Cx}
end
end L2
namespace L2
open PySem PySem.Spec PyProof.Rows
section
variable {κ:Type} [DecidableEq κ]
noncomputable def putK (kvs:List (κ × V)) (k:κ) (v:V):List (κ × V):=
 if (kvs.any fun kv=>decide (kv.1=k))=true then kvs.map (fun kv=>if kv.1=k then (kv.1,v) else kv) else kvs ++ [(k,v)]
theorem length_putK (kvs:List (κ × V)) (k:κ) (v:V):(putK kvs k v).length≤kvs.length + 1:=by
 unfold putK
 split
 ·rw [List.length_map]; omega
 ·rw [List.length_append,List.length_cons,List.length_nil]; omega
theorem KV.any {kvs:List (κ × V)} {vs:List (κ × Value)} (r:KV kvs vs) (k:κ):(kvs.any fun kv=>decide (kv.1=k))=vs.any fun kv=>decide (kv.1=k):=by
 unfold KV at r
 induction r with
 | nil=>rfl
 | cons h t ih=>rw [List.any_cons,List.any_cons,ih,h.1]
theorem KV.repl {kvs:List (κ × V)} {vs:List (κ × Value)} (r:KV kvs vs) (k:κ) {y:V} {u:Value} (ry:RelV y u):
  KV (kvs.map fun kv=>if kv.1=k then (kv.1,y) else kv) (vs.map fun kv=>if kv.1=k then (kv.1,u) else kv):=by
 unfold KV at r ⊢
 induction r with
 | nil=>exact .nil
 | @cons p q ps qs h t ih=>
  rw [List.map_cons,List.map_cons]
  refine .cons ?_ ih
  obtain ⟨h1,h2⟩:=h
  by_cases e:p.1=k
  ·rw [if_pos e,if_pos (h1.symm.trans e)]; exact ⟨h1,ry⟩
  ·rw [if_neg e,if_neg (fun z=>e (h1.trans z))]; exact ⟨h1,h2⟩
theorem KV.put {kvs:List (κ × V)} {vs:List (κ × Value)} (r:KV kvs vs) (k:κ) {y:V} {u:Value} (ry:RelV y u):KV (putK kvs k y) (stored vs k u):=by
 unfold putK stored
 rw [r.any k]
 by_cases e:(vs.any fun kv=>decide (kv.1=k))=true
 ·rw [if_pos e,if_pos e]; exact r.repl k ry
 ·rw [if_neg e,if_neg e]; exact Paired.snoc r ⟨rfl,ry⟩
theorem KV.length {kvs:List (κ × V)} {vs:List (κ × Value)} (r:KV kvs vs):kvs.length=vs.length:=Paired.length r
end
theorem kV_is {P:Program} {w:World} {k:Key} {u:Value} (r:RelV (kV k) u):(mixKind P w).is k u=true:=by
 cases k with
 | inl i=>obtain ⟨t,e⟩:=(show ∃ t,u=Value.int i t from r); subst e; exact mixKind_int P w i t
 | inr x=>obtain ⟨t,e⟩:=(show ∃ t,u=Value.str x t from r); subst e; exact mixKind_str P w x t
section
variable {P:Program} {w:World} {H:Hp} {h:Heap} {a:Addr}
theorem rd_of {u:HO} (ok:HOk P w H h) (e:Rd H a u):ObjOk P w H h a u:=e.ok ok
theorem dk_rd {kvs:List (Key × V)} (ok:HOk P w H h) (e:Rd H a (.dK kvs)):kvs.length≤sizeLine∧(a == sysModules)=false∧∃ vs,KV kvs vs∧h.DictOf (mixKind P w) a vs:=
 show ObjOk P w H h a (.dK kvs) from rd_of ok e
theorem dk_of {kvs:List (Key × V)} (ok:HOk P w H h) (e:H a=some (.dK kvs)):kvs.length≤sizeLine∧(a == sysModules)=false∧∃ vs,KV kvs vs∧h.DictOf (mixKind P w) a vs:=dk_rd ok (.inl e)
end
section
variable {X:Cx} {pins:List (Addr × Obj)} {σ:St} {H:Hp} {s:Shared} {a:Addr} {y v:V} {u r:Value} {o:Option V} {A:Around} {E:Value→Shared→Prop}
theorem Inv.big (I:Inv X pins σ H s):sysModules < s.heap.objs.size:=by
 have h:mainGlobals < s.heap.objs.size:=(I.mod.glob.keeps I.bk).lt
 exact Nat.lt_trans (by decide) h
theorem d_write {h':Heap} {t':Nat} {ob:HO} (I:Inv X pins σ H s) (mu:Mut (H a)) (hs:Heap.SameBut a s.heap h') (he:∃ q,h'.get? a=some q) (new:ObjOk X.prog X.w (upd H a ob) h' a ob):
  Inv X pins σ (upd H a ob) { s with heap:=h',toks:=t' }:=
 I.write (x:=a) (e:=a) mu (.inl rfl) (fun b q hb z=>(hs.2 b hb).trans z) he new
theorem dk_new {P:Program} {w:World} {H':Hp} {h':Heap} {kvs:List (Key × V)} {vs:List (Key × Value)} (z:kvs.length≤sizeLine) (hd:(a == sysModules)=false) (rel:KV kvs vs) (dd:h'.DictOf (mixKind P w) a vs):
  ObjOk P w H' h' a (.dK kvs):=⟨z,hd,vs,rel,dd⟩
end
section
variable {X:Cx} {pins:List (Addr × Obj)} {σ:St} {H:Hp} {s:Shared} {a:Addr} {kvs:List (Key × V)} {k:Key} {u:Value} {A:Around} {E:Value→Shared→Prop}
theorem d_len {Q:Value→Shared→Prop} (I:Inv X pins σ H s) (e:Rd H a (.dK kvs)) (h:∀ t s',Inv X pins σ H s'→Q (.int kvs.length t) s'):wpAny (model X.prog X.w) A (call (.builtin "len") [.ref a]) Q E s:=by
 obtain ⟨z,hd,vs,rel,dd⟩:=dk_rd I.hok e
 refine call_len_dict hd dd (by rw [← rel.length]; rw [sizeLine_eq] at z; omega) ?_
 rw [← rel.length]
 exact h _ _ (I.tok _)
end
section
variable {X:Cx} {o i e value:Expr} {pos pos' tpos:Pos} {td ty tv:TE}
end
theorem dk_empty {P:Program} {w:World} {H:Hp} (h:Heap) (hb:sysModules < h.objs.size):ObjOk P w H (h.push { cls:=.type "dict",data:=.dict #[] }) h.objs.size (.dK []):=
 ⟨Nat.zero_le _,beq_eq_false_iff_ne.mpr (Ne.symm (Nat.ne_of_lt hb)),[],.nil,Heap.DictOf.new h⟩
section
variable {X:Cx} {pos:Pos}
end
noncomputable def tPairs:List (TE × TE)→St→Hp→(List (V × V)→Hp→Prop)→Prop
 | [],_,H,Q=>Q [] H
 | (tk,tv) :: r,σ,H,Q=>tk σ H fun x H1=>tv σ H1 fun y H2=>tPairs r σ H2 fun ps H3=>Q ((x,y) :: ps) H3
noncomputable abbrev VV:List (V × V)→List (Value × Value)→Prop:=Paired fun p q=>RelV p.1 q.1∧RelV p.2 q.2
noncomputable def PPs (X:Cx) (pos:Pos) (keys:List (Option Expr)) (values:List Expr) (trs:List (TE × TE)):Prop:=
 ∀ (pins:List (Addr × Obj)) (s:Shared) (σ:St) (H:Hp) (Q:List (V × V)→Hp→Prop),Inv X pins σ H s→tPairs trs σ H Q→
  wpAny (model X.prog X.w) X.A (evalPairs (pairTrees keys values X.env pos)) (fun vs s'=>∃ ps H',Inv X pins σ H' s'∧VV ps vs∧Q ps H') X.xe s
theorem pps_nil {X:Cx} {pos:Pos}:PPs X pos [] [] []:=fun pins s σ H Q I h=>pairTrees_nil_walk ⟨[],H,I,.nil,h⟩
theorem pps_cons {X:Cx} {pos:Pos} {k v:Expr} {ks:List (Option Expr)} {vs:List Expr} {tk tv:TE} {trs:List (TE × TE)} (hk:PE X k tk) (hv:PE X v tv) (hr:PPs X pos ks vs trs):
  PPs X pos (some k :: ks) (v :: vs) ((tk,tv) :: trs):=fun pins s σ H Q I h=>
 pairTrees_cons_walk (thn (hk pins s σ H _ I h) fun u s1 zq=>ex5 zq fun x H1 I1 rx q1=>thn (hv pins s1 σ H1 _ I1 q1) fun w2 s2 zq=>ex5 zq fun y H2 I2 ry q2=>
  thn (hr pins s2 σ H2 _ I2 q2) fun ws s3 zq=>ex5 zq fun ps H3 I3 rel q3=>⟨(x,y) :: ps,H3,I3,.cons ⟨rx,ry⟩ rel,q3⟩)
noncomputable def mergeK (kvs more:List (Key × V)):List (Key × V):=more.foldl (fun acc kv=>putK acc kv.1 kv.2) kvs
theorem KV.merge:∀ {more:List (Key × V)} {rs:List (Key × Value)} {kvs:List (Key × V)} {vs:List (Key × Value)},KV more rs→KV kvs vs→KV (mergeK kvs more) (merged vs rs):=by
 intro more rs kvs vs r
 unfold KV at r
 induction r generalizing kvs vs with
 | nil=>intro q; exact q
 | @cons p q ps qs h t ih=>
  intro r0
  have e:KV (putK kvs p.1 p.2) (stored vs q.1 q.2):=by
   have:=r0.put p.1 h.2
   rw [← h.1]; exact this
  exact ih e
theorem length_mergeK:∀ (more kvs:List (Key × V)),(mergeK kvs more).length≤kvs.length + more.length
 | [],kvs=>by show kvs.length≤kvs.length + 0; omega
 | p :: r,kvs=>by
  have h1:=length_mergeK r (putK kvs p.1 p.2)
  have h2:=length_putK kvs p.1 p.2
  show (mergeK (putK kvs p.1 p.2) r).length≤_
  rw [List.length_cons]; omega
theorem carries_of {P:Program} {w:World}:∀ {kvs:List (Key × V)} {ws:List (Value × Value)},VV (kvs.map fun kv=>(kV kv.1,kv.2)) ws→∃ rs,Carries (mixKind P w) ws rs∧KV kvs rs
 | [],_,r=>by rw [List.map_nil] at r; cases r; exact ⟨[],True.intro,.nil⟩
 | p :: kvs,_,r=>by
  rw [List.map_cons] at r
  cases r with
  | @cons a b as bs h t=>
   obtain ⟨rs,c,q⟩:=carries_of (P:=P) (w:=w) t
   obtain ⟨b1,b2⟩:=b
   exact ⟨(p.1,b2) :: rs,⟨kV_is h.1,rfl,c⟩,.cons ⟨rfl,h.2⟩ q⟩
noncomputable def tDisp (trs:List (TE × TE)):TE:=fun σ H Q=>∀ p,H p=none→tPairs trs σ (upd H p (.dK [])) fun ps H2=>H2 p=some (.dK [])∧∃ kvs:List (Key × V),ps=kvs.map (fun kv=>(kV kv.1,kv.2))∧kvs.length≤15∧Q (.ref p) (upd H2 p (.dK (mergeK [] kvs)))
theorem pe_disp {X:Cx} {pos:Pos} {keys:List (Option Expr)} {values:List Expr} {trs:List (TE × TE)} (h:PPs X pos keys values trs) (hall:keys.all (·.isSome)=true) (hl:keys.length=values.length) (h0:keys ≠ [])
  (h15:keys.length≤15):PE X (.Dict keys values pos) (tDisp trs):=by
 intro pins s σ H Q I q
 have hn:=I.hok.fresh (Nat.le_refl s.heap.objs.size)
 have I1:=I.laid (a:=s.heap.objs.size) (o:=.dK []) (h':=s.heap.push { cls:=.type "dict",data:=.dict #[] }) (t':=s.toks) (fun _ _ q=>Heap.get?_push_of_some _ q) (Nat.le_refl _) (dk_empty s.heap I.big)
 refine wpAny_Dict_walk (knd:=mixKind X.prog X.w) hall hl h0 h15 (thn (h pins _ σ _ _ I1 (q _ hn)) fun ws s2 zq=>?_)
 obtain ⟨ps,H2,I2,rel,e,kvs,ep,lk,q2⟩:=zq
 subst ep
 obtain ⟨rs,c,rk⟩:=carries_of (P:=X.prog) (w:=X.w) rel
 obtain ⟨z,hd,vs0,r0,dd⟩:=dk_of I2.hok e
 cases r0
 refine ⟨rs,c,dd,fun h' dd' hs=>⟨.ref s.heap.objs.size,_,?_,rfl,q2⟩⟩
 have hz:(mergeK [] kvs).length≤sizeLine:=by
  have h1:=length_mergeK kvs []
  rw [List.length_nil] at h1
  rw [sizeLine_eq]; omega
 have he:∃ q,h'.get? s.heap.objs.size=some q:=let ⟨q,_,_,hq,_⟩:=dd'; ⟨q,hq⟩
 exact d_write I2 (by rw [e]; exact True.intro) hs he (dk_new hz hd (rk.merge .nil) dd')
section
variable {X:Cx} {pins:List (Addr × Obj)} {σ:St} {H:Hp} {s:Shared} {a:Addr} {y d:V} {u r:Value} {o:Option V} {A:Around} {E:Value→Shared→Prop}
end
section
variable {X:Cx} {o e f:Expr} {apos cpos:Pos} {td ty tx:TE}
end
section
variable {X:Cx} {pins:List (Addr × Obj)} {σ:St} {H:Hp} {s:Shared} {a:Addr} {kvs:List (Key × V)} {A:Around} {E:Value→Shared→Prop}
end
section
variable {X:Cx} {pins:List (Addr × Obj)} {σ:St} {H:Hp} {s:Shared} {a:Addr} {y:V} {u:Value} {A:Around} {E:Value→Shared→Prop}
end
end L2
namespace Att
open PySem PySem.W PySem.Calls PyProof.Rows
theorem ints_of_wellAll {P:Params} {h:Heap}:∀ (ns:List Int) (vs:List Value),WellAll P h vs (ns.map WData.int)→IntsAre vs ns:=by
 intro ns
 induction ns with
 | nil=>
  intro vs w
  rw [List.map_nil] at w
  cases w
  exact .nil
 | cons n ns ih=>
  intro vs w
  rw [List.map_cons] at w
  cases w with
  | cons a b=>
   cases a
   exact .cons _ _ (ih _ b)
theorem script_of {l:OpenLaw} {n:Nat} (hn:l.most=some n) {P:Params} {h:Heap} {args:List WData} {vals:List Value}
  (hpre:l.row.toRowW.claim.pre args=true) (hwl:WellAll P h vals args):
  ∃ a vs ns,vals=[Value.ref a]∧args=[WData.list (ns.map WData.int)]∧h.get? a=some { cls:=.type "list",data:=.seq vs.toArray }∧IntsAre vs ns∧ns.length≤n:=by
 have hsh:WShape.hasAll [] args [.list .int]=true:=(pre_splitW hpre).1
 have hc:l.pre.holds [] { args:=args }=true:=(pre_splitW hpre).2
 obtain ⟨d,r,rfl,h1,h2⟩:=hasAllW_cons hsh
 obtain rfl:=hasAllW_nil h2
 obtain ⟨xs,rfl,h3⟩:=hasW_list h1
 obtain ⟨ns,rfl⟩:=items_int h3
 have hlen:ns.length≤n:=by
  unfold OpenLaw.pre at hc
  have h4:(WTm.not (.lt (.lit (.int (n:Int))) (.len (.arg 0)))).holds [] { args:=[.list (ns.map .int)] }=true:=by
   have h4:=(holds_andW hc).1
   rw [hn] at h4
   exact h4
  have h5:=condW_of h4 (w_not (w_lt w_lit (w_len_list (w_arg rfl))))
  rw [List.length_map] at h5
  refine Nat.le_of_not_lt fun q=>?_
  have q':(n:Int) < ((ns.length:Nat):Int):=by omega
  first
   | (rw [decide_eq_true q'] at h5; exact absurd h5 (by decide))
   | (simp at h5; omega)
 cases hwl with
 | cons w1 w2=>
  cases w2
  cases w1 with
  | list ho hall=>exact ⟨_,_,ns,rfl,rfl,ho,ints_of_wellAll ns _ hall,hlen⟩
theorem post_true (l:OpenLaw) (args:List WData):l.row.toRowW.claim.post args (.bool true) args=true:=
 postW_of (r:=l.row.toRowW) (X:=(true == true))
  (show WShape.has [] (.bool true) .bool=true by first | rfl | decide | simp [WShape.has,WShape.arms,WShape.armsAll])
  (show (WTm.eq .res (.lit (.bool true))).value [] { args:=args,res:=some (.bool true),after:=args }=some (.bool (true == true)) from w_eq_bool (w_res rfl) w_lit) rfl
theorem attach_call {l:OpenLaw} {n:Nat} {q:Program} {loose:List Str} {XP:(Str→Option Value)→Heap→Prop} {YP:World→Heap→Prop} {d:DefRec}
  (hn:l.most=some n) (hdf:d.params.defaults=[])
  (call:∀ (w:World) (s₀ s₁:Shared) (mg mb:Str→Option Value) (fa:Addr) (o:Obj) (pm cd doc:Value) (a:Addr) (vs:List Value) (ns:List Int),
   Ground q loose [] XP w s₀ mg mb s₁.heap→YP w s₁.heap→
   s₁.heap.get? fa=some o→o.data=.func (docDef d.name d.params d.body d.scope pm cd doc)→s₁.heap.CodeRec cd d.name→mg d.name=some (.ref fa)→
   s₁.heap.get? a=some { cls:=.type "list",data:=.seq vs.toArray }→IntsAre vs ns→ns.length≤n→s₁.gens = #[]→
   codeAny (model l.prog w) callerA (.call (.ref fa) ⟨[.ref a],[]⟩) (fun r s'=>r=.ok (.ret (.bool true))∧OldK s₁.heap s'.heap∧s'.os=s₁.os∧AllBare s'.gens) s₁):
  WalkO q loose XP YP l.row.toRowW d [] (fun f vs=>PySem.call f vs):=by
 intro w s₀ s₁ mg mb G Y fa o pm cd doc dV kV ho hd hcd hD hmg hg args vals as hpre hlay hrd hwl hlo
 obtain rfl:dV=.none:=Dflts.none hD hdf
 obtain rfl:kV=.none:=Dflts.noKw hD
 obtain ⟨a,vs,ns,rfl,rfl,hobj,hints,hlen⟩:=script_of hn hpre hwl
 refine enter_call (codeAny_mono (call w s₀ s₁ mg mb fa o pm cd doc a vs ns G Y ho (fd_plain hd) hcd hmg hobj hints hlen hg) fun r s' hq=>?_)
 obtain ⟨rfl,h2,h3,h4⟩:=hq
 exact ⟨.inl ⟨.bool true,.bool true,[],rfl,fun _=>rfl,.bool true,post_true l _,fun _=>⟨List.Pairwise.nil,fun _ hm=>(nomatch hm)⟩⟩,h2,h3,h4⟩
section
variable {prog:Program} {w:World} {A:Around} {E:Value→Shared→Prop} {s:Shared} {K:Frag}
end
end Att
namespace L2
open PySem PySem.Spec PyProof.Rows
theorem vals_ints:∀ {vs:List Value} {ns:List Int},IntsAre vs ns→Vals (ns.map V.int) vs
 | _,_,.nil=>.nil
 | _,_,.cons n t h=>.cons ⟨t,rfl⟩ (vals_ints h)
noncomputable def Only (H:Hp):Prop:=∀ b,H b=none ∨ ∃ o xs,H b=some (.frz o (.lst xs))
theorem law_call {P:Program} {w:World} {K:PySem.W.Frag} {mg mb:Str→Option Value} {CX:CXT} {k:Nat} {fa a:Addr} {fd:FuncData} {x:Str} {sp:Sp} {s₁:Shared} {vs:List Value} {ns:List Int}
  (KX:K.In s₁.heap) (hns:s₁.heap.Ns mainGlobals mg) (hb:s₁.heap.Ns builtinsNs mb) (hbb:∀ x:Str,x ≠ "__name__"→mb x=bootBuiltins x) (hlim:s₁.heap.NoLimit) (hg:s₁.gens = #[])
  (ha:s₁.heap.get? a=some { cls:=.type "list",data:=.seq vs.toArray }) (hi:IntsAre vs ns) (hl:ns.length≤sizeLine) (hr:Room k callerA)
  (F:∀ base:Heap,K.In base→base.Ns mainGlobals mg→FnOk P w K mg base CX k fa fd [x] sp) (hbind:∀ (s:Shared) (u:Value),BindsTo s fd ⟨[u],[]⟩ [(x,u)])
  (hsp:∀ H:Hp,Only H→SqL K H a (ns.map V.int)→sp [.ref a] H (fun v _=>v=.bl true) fun _ _ _=>False)
  (hCX:∀ H e s',CX [] H s₁ (fun _ _ _=>False) e s'→False):
  codeAny (model P w) callerA (.call (.ref fa) ⟨[.ref a],[]⟩) (fun r s'=>r=.ok (.ret (.bool true))∧OldK s₁.heap s'.heap∧s'.os=s₁.os∧AllBare s'.gens) s₁:=by
 have rv:=vals_ints hi
 have lenV:=hi.length
 -- from an abstract heap in which nothing but the script may be tracked
 have core:∀ H:Hp,Only H→SqL K H a (ns.map V.int)→HOk P w H s₁.heap→(∀ b,H b ≠ none→b=a)→(H a ≠ none→K.lookup a=none)→
   codeAny (model P w) callerA (.call (.ref fa) ⟨[.ref a],[]⟩) (fun r s'=>r=.ok (.ret (.bool true))∧OldK s₁.heap s'.heap∧s'.os=s₁.os∧AllBare s'.gens) s₁:=by
  intro H hO hS hok hA hK
  have base_of:∀ {b:Addr} {o:Obj},s₁.heap.get? b=some o→H b=none→(hidT s₁.heap H).get? b=some o:=fun e n=>hidT_get e n
  have noA:∀ {b:Addr} {o:Obj} {es:Array DictEntry} {ep:Nat},s₁.heap.get? b=some o→o.data=.dict es ep→H b=none:=fun {b o es ep} e d=>by
   cases q:H b with
   | none=>rfl
   | some u=>
    have e':b=a:=hA b (by rw [q]; simp)
    subst e'
    rw [ha] at e; cases e
    have d':Data.seq vs.toArray _=Data.dict es ep:=d
    cases d'
  have nsK:∀ {b:Addr} {m:Str→Option Value},s₁.heap.Ns b m→(hidT s₁.heap H).Ns b m:=fun {b m} ⟨o,es,ep,e,d,r⟩=>⟨o,es,ep,base_of e (noA e d),d,r⟩
  have hKb:K.In (hidT s₁.heap H):=fun b o e=>base_of (KX b o e) (by
   cases q:H b with
   | none=>rfl
   | some u=>
    have e':b=a:=hA b (by rw [q]; simp)
    subst e'
    rw [hK (by rw [q]; simp)] at e; cases e)
  have hM:Mod K mg (hidT s₁.heap H):=⟨hKb,nsK hns,⟨mb,nsK hb,hbb⟩,let ⟨mc,h1,h2⟩:=hlim; ⟨mc,nsK h1,h2⟩⟩
  have e0:Env0 P w K mg (hidT s₁.heap H) callerA [] s₁ H:=⟨rfl,hM,fun b o e=>of_hidT e,Nat.le_of_eq (hidT_size _ _),trivial,fun b hb=>absurd (show b ∈ ([]:List Addr) from hb) (by simp),hok,.of_eq hg⟩
  refine codeAny_mono ((F _ hKb (nsK hns)).run callerA [] s₁ H ⟨[.ref a],[]⟩ [.ref a] [.ref a] _ _ hr e0 (hbind s₁ (.ref a)) (.cons rfl .nil) (hsp H hO hS)) fun r s' h=>?_
  cases r with
  | error e=>exact (hCX H e s' h).elim
  | ok fl=>
   cases fl with
   | next=>exact False.elim h
   | brk=>exact False.elim h
   | cont=>exact False.elim h
   | ret u=>
    obtain ⟨v,H',os,bare,un,hok',r',q⟩:=h
    have q':v=.bl true:=q
    subst q'
    obtain rfl:u=Value.bool true:=r'
    refine ⟨rfl,OldK.of_keep fun b o e=>?_,os,bare⟩
    cases q:H b with
    | none=>exact un.keep b o e q (by intro z; exact absurd (show b ∈ ([]:List Addr) from z) (by simp)) (by simp)
    | some u=>
     rcases hO b with z | ⟨ob,xs,z⟩
     ·rw [q] at z; cases z
     ·have z2:=un.frzs b ob _ z
      obtain ⟨e1,_⟩:=hok b _ z
      obtain ⟨e2,_⟩:=hok' b _ z2
      rw [e] at e1; cases e1
      exact e2
 cases hk:K.lookup a with
 | some o=>
  -- the script is one of the module's own objects
  have e:=KX a o hk
  rw [ha] at e
  cases e
  refine core (fun _=>none) (fun _=>.inl rfl) (.inr ⟨_,vs.toArray,_,hk,rfl,rfl,rfl,by rw [List.size_toArray,lenV]; exact hl,by simpa using rv⟩) (fun b u z=>by have z':(none:Option HO)=some u:=z; cases z') (fun b z=>absurd rfl z) fun z=>absurd rfl z
 | none=>
  refine core (fun b=>if b=a then some (.frz { cls:=.type "list",data:=.seq vs.toArray } (.lst (ns.map V.int))) else none) (fun b=>?_) (.inl (.inr ⟨{ cls:=.type "list",data:=.seq vs.toArray },if_pos rfl⟩)) (fun b u z=>?_) (fun b z=>?_) fun _=>hk
  ·by_cases hb:b=a
   ·exact .inr ⟨_,_,if_pos hb⟩
   ·exact .inl (if_neg hb)
  ·by_cases hb:b=a
   ·have z':=(if_pos hb).symm.trans z
    cases z'
    subst hb
    exact ⟨ha,by rw [List.length_map]; exact hl,vs,_,rv,ha⟩
   ·have z':=(if_neg hb).symm.trans z
    cases z'
  ·by_cases hb:b=a
   ·exact hb
   ·exact absurd (if_neg hb) z
end L2
namespace L2
open PySem PySem.Spec PyProof.Rows
theorem walk_of {l:PySem.W.OpenLaw} {n k:Nat} {q:Program} {loose:List Str} {XP:(Str→Option Value)→Heap→Prop} {YP:World→Heap→Prop} {d:DefRec} {K:Params→PySem.W.Frag} {CX:World→CXT} {sp:World→Sp} {x:Str}
  (hn:l.most=some n) (hn2:n≤sizeLine) (hdf:d.params.defaults=[]) (hr:Room k callerA)
  (hY:∀ (w:World) (h:Heap),YP w h→(K w.params).In h)
  (F:∀ (w:World) (mg:Str→Option Value) (fa:Addr) (h:Heap),(K w.params).In h→h.Ns mainGlobals mg→mg d.name=some (.ref fa)→
   ∃ fd:FuncData,(∀ (s:Shared) (u:Value),BindsTo s fd ⟨[u],[]⟩ [(x,u)])∧
    ∀ base:Heap,(K w.params).In base→base.Ns mainGlobals mg→FnOk l.prog w (K w.params) mg base (CX w) k fa fd [x] (sp w))
  (hsp:∀ (w:World) (H:Hp) (a:Addr) (ns:List Int),ns.length≤n→Only H→SqL (K w.params) H a (ns.map V.int)→sp w [.ref a] H (fun v _=>v=.bl true) fun _ _ _=>False)
  (hCX:∀ (w:World) (H:Hp) (s:Shared) (e:Value) (s':Shared),CX w [] H s (fun _ _ _=>False) e s'→False):
  PySem.W.WalkO q loose XP YP l.row.toRowW d [] (fun f vs=>PySem.call f vs):=by
 refine Att.attach_call hn hdf fun w s₀ s₁ mg mb fa o pm cd doc a vs ns G Y ho hd hcd hmg hobj hints hlen hg=>?_
 have KX:=hY w _ Y
 obtain ⟨fd,hb,hF⟩:=F w mg fa _ KX G.T.g hmg
 exact law_call KX G.T.g G.T.b G.T.builtins G.T.nolimit hg hobj hints (Nat.le_trans hlen hn2) hr hF hb (fun H hO hS=>hsp w H a ns hlen hO hS) fun H e s'=>hCX w H s₁ e s'
end L2
namespace L2
open PySem PySem.Spec PyProof.Rows
noncomputable def defArgs (s:Stmt):Arguments:=match s with
 | .FunctionDef _ a _ _ _ _ _ _ _ _=>a
 | _=>{ posonlyargs:=[],args:=[],vararg:=none,kwonlyargs:=[],kw_defaults:=[],kwarg:=none,defaults:=[] }
noncomputable def defBody (s:Stmt):List Stmt:=match s with
 | .FunctionDef _ _ b _ _ _ _ _ _ _=>b
 | _=>[]
noncomputable def defScope (s:Stmt):Scope:=match s with
 | .FunctionDef _ _ _ _ _ _ sc _ _ _=>sc
 | _=>{ kind:=.function,names:=[],isGenerator:=false,isCoroutine:=false }
noncomputable abbrev CX0:CXT:=fun _ _ _ _ _ _=>False
noncomputable abbrev E0:XK:=fun _ _ _=>False
structure Fun (K:PySem.W.Frag) (x qual:Str) (st:Stmt) (f:Addr) (fd:FuncData):Prop where
 ex:∃ (oc:Value) (od:Option Addr) (kV doc pm:Value) (an:Option Addr) (cdv ct:Value) (osl:Array (Option Value)),
  fd=PySem.W.fnOf x qual (defArgs st) (defBody st) (defScope st) .none kV doc pm an cdv ct∧K.lookup f=some ⟨oc,od,.func fd,osl⟩∧PySem.W.codeIn K cdv qual=true
 kp:PySem.W.keepIn K (.ref f)=true
section
variable {P:Program} {w:World} {K:PySem.W.Frag} {mg:Str→Option Value} {base:Heap}
theorem Fun.binds {x qual:Str} {st:Stmt} {f:Addr} {fd:FuncData} {ps:List Str} (F:Fun K x qual st f fd)
  (h:∀ (kV doc pm:Value) (an:Option Addr) (cdv ct:Value) (us:List Value),us.length=ps.length→bindArgs (PySem.W.fnOf x qual (defArgs st) (defBody st) (defScope st) .none kV doc pm an cdv ct) ⟨us,[]⟩=pure (ps.zip us)):Binds K fd ps []:=by
 obtain ⟨oc,od,kV,doc,pm,an,cdv,ct,osl,rfl,lk,hcd⟩:=F.ex
 exact .all (h kV doc pm an cdv ct)
theorem fun_mk {x qual:Str} {st:Stmt} {f:Addr} {oc:Value} {od an:Option Addr} {osl:Array (Option Value)} {kV doc pm cdv ct:Value} (l:K.lookup f=some ⟨oc,od,.func (PySem.W.fnOf x qual (defArgs st) (defBody st) (defScope st) .none kV doc pm an cdv ct),osl⟩)
  (c:PySem.W.codeIn K cdv qual=true) (k:PySem.W.keepIn K (.ref f)=true):Fun K x qual st f (PySem.W.fnOf x qual (defArgs st) (defBody st) (defScope st) .none kV doc pm an cdv ct):=⟨⟨oc,od,kV,doc,pm,an,cdv,ct,osl,rfl,l,c⟩,k⟩
end
section
variable {X:Cx}
theorem pv (i:Nat) {x:Str} {pos:Pos} (hN:autoParam (X.N[i]?=some x) Au.h1._auto_1) (hv:Vis X.env.scope x) (hd:autoParam ((x == ("__debug__":Str))=false) Au.h2._auto_1)
  (hcd:autoParam ((x == ("__classdict__":Str))=false) Au.h2._auto_1):PE X (.Name x pos) (tVar i):=pe_var hN hv hd hcd
end
theorem iteF {A B:Prop} (h:B):if false=true then A else B:=by
 rw [if_neg Bool.false_ne_true]
 exact h
theorem iteT {A B:Prop} (h:A):if true=true then A else B:=by
 rw [if_pos rfl]
 exact h
end L2
namespace L2
open PySem PySem.Spec PyProof.Rows
section
variable {X:Cx}
theorem call_lenD:CallR X (.builtin "len") (fun xs H Q=>∃ a kvs,xs=[V.ref a]∧H a=some (.dK kvs)∧Q (.int kvs.length) H):=by
 intro pins s σ H xs us Q I r h
 obtain ⟨a,kvs,rfl,ha,q⟩:=h
 obtain ⟨u,rfl,ru⟩:=vals1 r
 cases ru
 exact d_len I (.inl ha) fun t s' I'=>⟨.int kvs.length,H,I',⟨t,rfl⟩,q⟩
end
section
variable {κ:Type} [DecidableEq κ]
end
end L2
end
set_option autoImplicit false
namespace PD
open PySem
inductive D where
 | non | bl (b:Bool) | int (i:Int) | str (x:Str)
 | tup (xs:List D) | lst (xs:List D) | fz (xs:List D) | dic (kvs:List (Sum Int Str × D)) | ref (n:Nat) | ty (n:String)
 /-- a caught exception of an own class; an own class -/
 | exc (c:Str) | cls (c:Str)
 deriving Inhabited
inductive SO where
 | lst (xs:List D) | dic (kvs:List (Sum Int Str × D)) | ins (c:Str) (fs:List (Str × D))
 /-- a dict that has been walked: read,changed no more -/
 | fdic (kvs:List (Sum Int Str × D))
 /-- a list that has been walked: read,changed no more -/
 | flst (xs:List D)
 deriving Inhabited
noncomputable abbrev Sto:=List SO
set_option genInjectivity false in
structure XD where
 cls:Str
 arg:D
 deriving Inhabited
inductive R (A:Type) where
 | ok (a:A) (S:Sto) | err (x:XD) (S:Sto) | bad
noncomputable def R.bind {A B:Type} (r:R A) (f:A→Sto→R B):R B:=match r with
 | .ok a S=>f a S | .err x S=>.err x S | .bad=>.bad
theorem R.bind_ok {A B:Type} (a:A) (S:Sto) (f:A→Sto→R B):(R.ok a S).bind f=f a S:=rfl
theorem R.bind_err {A B:Type} (x:XD) (S:Sto) (f:A→Sto→R B):(R.err (A:=A) x S).bind f=.err x S:=rfl
theorem R.bind_bad {A B:Type} (f:A→Sto→R B):(R.bad (A:=A)).bind f=.bad:=rfl
noncomputable def R.of {A:Type} (S:Sto):Option A→R A
 | some a=>.ok a S | none=>.bad
theorem R.of_some {A:Type} (S:Sto) (a:A):R.of S (some a)=.ok a S:=rfl
noncomputable abbrev Rho:=List (Option D)
noncomputable abbrev EM:=Rho→Sto→R D
noncomputable abbrev TM:=Rho→Sto→R Bool
noncomputable abbrev AM:=Rho→Sto→R (List D)
set_option genInjectivity false in
inductive F where
 | nx (r:Rho) | rt (d:D) | bk (r:Rho) | ct (r:Rho)
noncomputable abbrev SM:=Rho→Sto→R F
noncomputable abbrev FM:=List D→Sto→R D
noncomputable def eVar (i:Nat):EM:=fun r S=>match r[i]? with
 | some (some d)=>.ok d S
 | _=>.bad
noncomputable def eC (d:D):EM:=fun _ S=>.ok d S
noncomputable def eUn (f:Sto→D→Option D) (a:EM):EM:=fun r S=>(a r S).bind fun x S1=>R.of S1 (f S1 x)
noncomputable def eOp (f:Sto→D→D→Option D) (a b:EM):EM:=fun r S=>(a r S).bind fun x S1=>(b r S1).bind fun y S2=>R.of S2 (f S2 x y)
noncomputable def eChain (f g:Sto→D→D→Option D) (a b c:EM):EM:=fun r S=>(a r S).bind fun x S1=>(b r S1).bind fun y S2=>match f S2 x y with
 | some (.bl true)=>(c r S2).bind fun z S3=>R.of S3 (g S3 y z)
 | some (.bl false)=>.ok (.bl false) S2
 | _=>.bad
noncomputable def eAnd (a b:EM):EM:=fun r S=>(a r S).bind fun x S1=>match x with
 | .bl true=>b r S1
 | .bl false=>.ok (.bl false) S1
 | _=>.bad
noncomputable def eOr (a b:EM):EM:=fun r S=>(a r S).bind fun x S1=>match x with
 | .bl true=>.ok (.bl true) S1
 | .bl false=>b r S1
 | _=>.bad
noncomputable def eNot (a:EM):EM:=fun r S=>(a r S).bind fun x S1=>match x with
 | .bl b=>.ok (.bl (!b)) S1
 | _=>.bad
noncomputable def eIf (t:TM) (a b:EM):EM:=fun r S=>(t r S).bind fun c S1=>if c=true then a r S1 else b r S1
noncomputable def aNil:AM:=fun _ S=>.ok [] S
noncomputable def aCons (a:EM) (t:AM):AM:=fun r S=>(a r S).bind fun x S1=>(t r S1).bind fun xs S2=>.ok (x :: xs) S2
noncomputable def eTup (t:AM):EM:=fun r S=>(t r S).bind fun xs S1=>if xs.length≤sizeLine then .ok (.tup xs) S1 else .bad
noncomputable def eLst (t:AM):EM:=fun r S=>(t r S).bind fun xs S1=>if xs.length≤sizeLine then .ok (.lst xs) S1 else .bad
noncomputable def eNew (t:AM):EM:=fun r S=>(t r S).bind fun xs S1=>if xs.length≤sizeLine then .ok (.ref S1.length) (S1 ++ [.lst xs]) else .bad
noncomputable def eCall (f:FM) (t:AM):EM:=fun r S=>(t r S).bind fun xs S1=>f xs S1
noncomputable def eB (f:Sto→List D→Option D) (t:AM):EM:=fun r S=>(t r S).bind fun xs S1=>R.of S1 (f S1 xs)
noncomputable def eBN (f:Sto→List D→Option SO) (t:AM):EM:=fun r S=>(t r S).bind fun xs S1=>match f S1 xs with
 | some o=>.ok (.ref S1.length) (S1 ++ [o])
 | none=>.bad
noncomputable def tV (a:EM):TM:=fun r S=>(a r S).bind fun x S1=>match x with
 | .bl b=>.ok b S1
 | _=>.bad
noncomputable def tAnd (a b:TM):TM:=fun r S=>(a r S).bind fun c S1=>if c=true then b r S1 else .ok false S1
noncomputable def tOr (a b:TM):TM:=fun r S=>(a r S).bind fun c S1=>if c=true then .ok true S1 else b r S1
noncomputable def tNot (a:TM):TM:=fun r S=>(a r S).bind fun c S1=>.ok (!c) S1
noncomputable def R.nx {A:Type}:R A→R A
 | .err _ _=>.bad
 | r=>r
noncomputable def eNx (a:EM):EM:=fun r S=>(a r S).nx
noncomputable def tNx (a:TM):TM:=fun r S=>(a r S).nx
noncomputable def aNx (a:AM):AM:=fun r S=>(a r S).nx
noncomputable def sSkip:SM:=fun r S=>.ok (.nx r) S
noncomputable def sBad:SM:=fun _ _=>.bad
noncomputable def sSeq (a b:SM):SM:=fun r S=>(a r S).bind fun f S1=>match f with
 | .nx r1=>b r1 S1
 | g=>.ok g S1
noncomputable def sRet (a:EM):SM:=fun r S=>(a r S).bind fun x S1=>.ok (.rt x) S1
noncomputable def sRetN:SM:=fun _ S=>.ok (.rt .non) S
noncomputable def sDrop (a:EM):SM:=fun r S=>(a r S).bind fun _ S1=>.ok (.nx r) S1
noncomputable def sIf (t:TM) (a b:SM):SM:=fun r S=>(t r S).bind fun c S1=>if c=true then a r S1 else b r S1
noncomputable def sBreak:SM:=fun r S=>.ok (.bk r) S
noncomputable def sCont:SM:=fun r S=>.ok (.ct r) S
set_option genInjectivity false in
inductive G where
 | nm (i:Nat) | tp (gs:List G)
mutual
noncomputable def G.put:G→D→Rho→Option Rho
 | .nm i,d,r=>some (r.set i (some d))
 | .tp gs,d,r=>match d with
  | .tup xs=>G.puts gs xs r
  | _=>none
noncomputable def G.puts:List G→List D→Rho→Option Rho
 | [],[],r=>some r
 | g :: gs,x :: xs,r=>match G.put g x r with
  | some r1=>G.puts gs xs r1
  | none=>none
 | _,_,_=>none
end
noncomputable def sSet (i:Nat) (a:EM):SM:=fun r S=>(a r S).bind fun x S1=>.ok (.nx (r.set i (some x))) S1
noncomputable def sAsg (g:G) (a:EM):SM:=fun r S=>(a r S).bind fun x S1=>match g.put x r with
 | some r1=>.ok (.nx r1) S1
 | none=>.bad
noncomputable def sPar (i j:Nat) (t:AM):SM:=fun r S=>(t r S).bind fun xs S1=>match xs with
 | [x,y]=>.ok (.nx ((r.set i (some x)).set j (some y))) S1
 | _=>.bad
noncomputable def sPut (f:Sto→D→D→D→Option Sto) (e o i:EM):SM:=fun r S=>(e r S).bind fun v S1=>(o r S1).bind fun x S2=>(i r S2).bind fun y S3=>match f S3 x y v with
 | some S4=>.ok (.nx r) S4
 | none=>.bad
noncomputable def sMut (f:Sto→D→List D→Option Sto) (o:EM) (t:AM):SM:=fun r S=>(o r S).bind fun x S1=>(t r S1).bind fun ys S2=>match f S2 x ys with
 | some S3=>.ok (.nx r) S3
 | none=>.bad
noncomputable def sNx (a:SM):SM:=fun r S=>(a r S).nx
noncomputable def sRaise (c:Str) (t:AM):SM:=fun r S=>(t r S).bind fun xs S1=>if xs.length≤sizeLine then .err ⟨c,.tup xs⟩ S1 else .bad
noncomputable def sTry (cs:List Str) (i n:Nat) (b h:SM):SM:=fun r S=>match b r S with
 | .err x S1=>if cs.contains x.cls=true then (h ((List.replicate n none).set i (some (.exc x.cls))) S1).nx.bind fun f S2=>match f with
   | .rt d=>.ok (.rt d) S2
   | _=>.bad
  else .bad
 | .ok f S1=>.ok f S1
 | .bad=>.bad
noncomputable def forL (g:G) (b:SM):List D→SM
 | []=>fun r S=>.ok (.nx r) S
 | x :: xs=>fun r S=>match g.put x r with
  | none=>.bad
  | some r1=>(b r1 S).bind fun f S1=>match f with
   | .nx r2=>forL g b xs r2 S1
   | .ct r2=>forL g b xs r2 S1
   | .bk r2=>.ok (.nx r2) S1
   | .rt d=>.ok (.rt d) S1
noncomputable def sFor (it:AM) (g:G) (b:SM):SM:=fun r S=>(it r S).bind fun xs S1=>forL g b xs r S1
noncomputable def whileL (t:TM) (b:SM):Nat→SM
 | 0=>fun _ _=>.bad
 | n + 1=>fun r S=>(t r S).bind fun c S1=>if c=true then (b r S1).bind fun f S2=>match f with
   | .nx r2=>whileL t b n r2 S2
   | .ct r2=>whileL t b n r2 S2
   | .bk r2=>.ok (.nx r2) S2
   | .rt d=>.ok (.rt d) S2
  else .ok (.nx r) S1
noncomputable def capOf (k:Nat) (caps:List Nat) (r:Rho):Rho:=List.replicate k none ++ caps.map fun i=>(r[i]?).join
noncomputable def compL (g:G) (t:TM) (e:EM):List D→Rho→Sto→R (List D)
 | [],_,S=>.ok [] S
 | x :: xs,r,S=>match g.put x r with
  | none=>.bad
  | some r1=>(t r1 S).bind fun c S1=>if c=true then (e r1 S1).bind fun y S2=>(compL g t e xs r1 S2).bind fun ys S3=>.ok (y :: ys) S3
    else compL g t e xs r1 S1
noncomputable def eComp (it:AM) (k:Nat) (caps:List Nat) (g:G) (t:TM) (e:EM):EM:=fun r S=>(it r S).bind fun xs S1=>
 if xs.length≤sizeLine then (compL g t e xs (capOf k caps r) S1).bind fun ys S2=>.ok (.lst ys) S2 else .bad
noncomputable def tTrue:TM:=fun _ S=>.ok true S
noncomputable def fnM (n:Nat) (b:SM):FM:=fun ds S=>(b (ds.map some ++ List.replicate (n - ds.length) none) S).bind fun f S1=>match f with
 | .rt d=>.ok d S1
 | .nx _=>.ok .non S1
 | _=>.bad
end PD
namespace PD
open PySem PySem.Spec PyProof.Rows L2
set_option genInjectivity false in
structure Wd where
 st:List Addr
 hid:List Addr
noncomputable def Wd.no (w:Wd) (a:Addr):Prop:=a ∉ w.st∧a ∉ w.hid
noncomputable def Wd.add (w:Wd) (p:Addr):Wd:=⟨w.st ++ [p],w.hid⟩
noncomputable def Wd.hide (w:Wd) (p:Addr):Wd:=⟨w.st,p :: w.hid⟩
noncomputable def At (w:Wd) (H:Hp) (a:Addr) (o:HO):Prop:=H a=some o∧w.no a
noncomputable def KTup (K:PySem.W.Frag) (a:Addr) (vs:List V):Prop:=
 ∃ (o:Obj) (its:Array Value) (n:Nat),K.lookup a=some o∧o.cls=.type "tuple"∧o.data=.seq its n∧its.size≤sizeLine∧Vals vs its.toList
noncomputable def KLst (K:PySem.W.Frag) (a:Addr) (vs:List V):Prop:=
 ∃ (o:Obj) (its:Array Value) (n:Nat),K.lookup a=some o∧o.cls=.type "list"∧o.dict=none∧o.data=.seq its n∧its.size≤sizeLine∧Vals vs its.toList
noncomputable def FzAt (K:PySem.W.Frag) (w:Wd) (H:Hp) (a:Addr) (vs:List V):Prop:=(∃ o,At w H a (.frz o (.lst vs))) ∨ KLst K a vs
theorem FzAt.sq {K:PySem.W.Frag} {w:Wd} {H:Hp} {a:Addr} {vs:List V} (h:FzAt K w H a vs):SqL K H a vs:=h.elim (fun ⟨o,z⟩=>.inl (.inr ⟨o,z.1⟩)) .inr
noncomputable def ExcAt (a:Addr) (C:Value):Heap→Prop:=fun h=>∃ o,h.get? a=some o∧o.cls=C
mutual
noncomputable def RD (K:PySem.W.Frag) (w:Wd) (H:Hp):D→V→Prop
 | .non,v=>v=.non
 | .bl b,v=>v=.bl b
 | .int i,v=>v=.int i
 | .str x,v=>v=.str x
 | .tup ds,v=>∃ a vs,v=.ref a∧(At w H a (.tup vs) ∨ KTup K a vs)∧RDs K w H ds vs
 | .lst ds,v=>∃ a vs,v=.ref a∧At w H a (.lst vs)∧RDs K w H ds vs
 | .fz ds,v=>∃ a vs,v=.ref a∧FzAt K w H a vs∧RDs K w H ds vs
 | .dic kvs,v=>∃ a us,v=.ref a∧At w H a (.dK us)∧RDk K w H kvs us
 | .ref n,v=>∃ a,v=.ref a∧w.st[n]?=some a
 | .ty n,v=>v=.ty n
 | .exc c,v=>∃ a C o,v=.ref a∧PySem.W.nsIn K mainGlobals c=some (some C)∧At w H a (.frz o (.ext (ExcAt a C)))
 | .cls c,v=>∃ C,PySem.W.nsIn K mainGlobals c=some (some (.ref C))∧v=.ref C
noncomputable def RDs (K:PySem.W.Frag) (w:Wd) (H:Hp):List D→List V→Prop
 | [],vs=>vs=[]
 | d :: ds,vs=>∃ v r,vs=v :: r∧RD K w H d v∧RDs K w H ds r
noncomputable def RDk (K:PySem.W.Frag) (w:Wd) (H:Hp):List (Sum Int Str × D)→List (Key × V)→Prop
 | [],us=>us=[]
 | (k,d) :: ds,us=>∃ v r,us=(k,v) :: r∧RD K w H d v∧RDk K w H ds r
end
structure Ext (w:Wd) (H:Hp) (w':Wd) (H':Hp):Prop where
 keep:∀ a o,H a=some o→a ∉ w.st→H' a=some o
 sub:∃ l,w'.st=w.st ++ l∧∀ a ∈ l,H a=none
 hid:∀ a,a ∈ w.hid→a ∈ w'.hid
 hnew:∀ a,a ∈ w'.hid→a ∈ w.hid ∨ H a=none
 frz:∀ a o u,H a=some (.frz o u)→H' a=some (.frz o u)
theorem Ext.refl (w:Wd) (H:Hp):Ext w H w H:=⟨fun _ _ h _=>h,⟨[],by simp,fun _ h=>nomatch h⟩,fun _ h=>h,fun _ h=>.inl h,fun _ _ _ h=>h⟩
theorem Ext.out {w w':Wd} {H H':Hp} (x:Ext w H w' H') {a:Addr} {o:HO} (h:H a=some o) (n:a ∉ w.st):a ∉ w'.st:=by
 obtain ⟨l,e,f⟩:=x.sub
 rw [e]
 intro z
 rcases List.mem_append.mp z with z | z
 ·exact n z
 ·rw [f a z] at h; cases h
theorem Ext.at {w w':Wd} {H H':Hp} (x:Ext w H w' H') {a:Addr} {o:HO} (h:At w H a o):At w' H' a o:=⟨x.keep a o h.1 h.2.1,x.out h.1 h.2.1,fun z=>(x.hnew a z).elim h.2.2 fun e=>by rw [h.1] at e; cases e⟩
theorem Ext.get {w w':Wd} {H H':Hp} (x:Ext w H w' H') {n:Nat} {a:Addr} (h:w.st[n]?=some a):w'.st[n]?=some a:=by
 obtain ⟨l,e,f⟩:=x.sub
 rw [e,List.getElem?_append_left (List.getElem?_eq_some_iff.mp h).1]
 exact h
theorem Ext.trans {w w1 w2:Wd} {H H1 H2:Hp} (x:Ext w H w1 H1) (y:Ext w1 H1 w2 H2) (fr:∀ a ∈ w.st,∃ o,H a=some o∧∃ o',H1 a=some o'):Ext w H w2 H2:=by
 have hno:∀ a,H1 a=none→H a=none:=fun a z=>by
  cases e:H a with
  | none=>rfl
  | some o=>
   by_cases hw:a ∈ w.st
   ·obtain ⟨_,_,o',e'⟩:=fr a hw
    rw [z] at e'; cases e'
   ·have:=x.keep a o e hw
    rw [z] at this; cases this
 refine ⟨fun a o h n=>y.keep a o (x.keep a o h n) (x.out h n),?_,fun a h=>y.hid a (x.hid a h),fun a h=>(y.hnew a h).elim (x.hnew a) fun z=>.inr (hno a z),fun a o u h=>y.frz a o u (x.frz a o u h)⟩
 obtain ⟨l,e1,f⟩:=x.sub
 obtain ⟨l2,e2,f2⟩:=y.sub
 refine ⟨l ++ l2,by rw [e2,e1]; simp,fun a ha=>?_⟩
 rcases List.mem_append.mp ha with z | z
 ·exact f a z
 ·exact hno a (f2 a z)
section
variable {K:PySem.W.Frag} {w w':Wd} {H H':Hp}
mutual
theorem RD.ext (x:Ext w H w' H'):∀ (d:D) (v:V),RD K w H d v→RD K w' H' d v
 | .non,_,h=>h
 | .bl _,_,h=>h
 | .int _,_,h=>h
 | .str _,_,h=>h
 | .tup ds,v,h=>by
  unfold RD at h ⊢
  obtain ⟨a,vs,e,p,r⟩:=h
  exact ⟨a,vs,e,p.imp x.at id,RDs.ext x ds vs r⟩
 | .lst ds,v,h=>by
  unfold RD at h ⊢
  obtain ⟨a,vs,e,p,r⟩:=h
  exact ⟨a,vs,e,x.at p,RDs.ext x ds vs r⟩
 | .fz ds,v,h=>by
  unfold RD at h ⊢
  obtain ⟨a,vs,e,p,r⟩:=h
  exact ⟨a,vs,e,p.imp (fun ⟨o,z⟩=>⟨o,x.at z⟩) id,RDs.ext x ds vs r⟩
 | .dic kvs,v,h=>by
  unfold RD at h ⊢
  obtain ⟨a,us,e,p,r⟩:=h
  exact ⟨a,us,e,x.at p,RDk.ext x kvs us r⟩
 | .ref n,v,h=>by
  unfold RD at h ⊢
  obtain ⟨a,e,p⟩:=h
  exact ⟨a,e,x.get p⟩
 | .ty _,_,h=>h
 | .exc c,v,h=>by
  unfold RD at h ⊢
  obtain ⟨a,C,o,e,q,p⟩:=h
  exact ⟨a,C,o,e,q,x.at p⟩
 | .cls _,_,h=>h
theorem RDs.ext (x:Ext w H w' H'):∀ (ds:List D) (vs:List V),RDs K w H ds vs→RDs K w' H' ds vs
 | [],_,h=>h
 | d :: ds,vs,h=>by
  unfold RDs at h ⊢
  obtain ⟨v,r,e,p,q⟩:=h
  exact ⟨v,r,e,RD.ext x d v p,RDs.ext x ds r q⟩
theorem RDk.ext (x:Ext w H w' H'):∀ (ds:List (Sum Int Str × D)) (vs:List (Key × V)),RDk K w H ds vs→RDk K w' H' ds vs
 | [],_,h=>h
 | (k,d) :: ds,vs,h=>by
  unfold RDk at h ⊢
  obtain ⟨v,r,e,p,q⟩:=h
  exact ⟨v,r,e,RD.ext x d v p,RDk.ext x ds r q⟩
end
end
noncomputable def RO (K:PySem.W.Frag) (w:Wd) (H:Hp) (a:Addr):SO→Prop
 | .lst ds=>∃ vs,H a=some (.lst vs)∧RDs K w H ds vs
 | .dic kvs=>∃ us,H a=some (.dK us)∧RDk K w H kvs us
 | .fdic kvs=>∃ o us,H a=some (.frz o (.dK us))∧RDk K w H kvs us
 | .ins _ _=>False
 | .flst ds=>∃ o vs,H a=some (.frz o (.lst vs))∧RDs K w H ds vs
structure RS (K:PySem.W.Frag) (w:Wd) (H:Hp) (S:Sto):Prop where
 nd:w.st.Nodup
 len:w.st.length=S.length
 obj:∀ (n:Nat) (o:SO),S[n]?=some o→∃ a:Addr,w.st[n]?=some a∧RO K w H a o
 hid:∀ a ∈ w.hid,a ∉ w.st∧∃ o,H a=some o
section
variable {K:PySem.W.Frag} {w w':Wd} {H H':Hp} {S:Sto}
theorem RS.there (s:RS K w H S) {a:Addr} (ha:a ∈ w.st):∃ o,H a=some o:=by
 obtain ⟨n,hn⟩:=List.mem_iff_getElem?.mp ha
 have hl:n < S.length:=by rw [← s.len]; exact (List.getElem?_eq_some_iff.mp hn).1
 obtain ⟨b,hb,r⟩:=s.obj n S[n] (List.getElem?_eq_getElem hl)
 rw [hn] at hb; cases hb
 revert r
 cases S[n] with
 | lst ds=>rintro ⟨vs,e,_⟩; exact ⟨_,e⟩
 | dic kvs=>rintro ⟨vs,e,_⟩; exact ⟨_,e⟩
 | fdic kvs=>rintro ⟨o,vs,e,_⟩; exact ⟨_,e⟩
 | ins c fs=>rintro ⟨⟩
 | flst ds=>rintro ⟨o,vs,e,_⟩; exact ⟨_,e⟩
theorem RS.freshS (s:RS K w H S) {a:Addr} (h:H a=none):a ∉ w.st:=fun z=>by
 obtain ⟨o,e⟩:=s.there z
 rw [h] at e; cases e
theorem RS.fresh (s:RS K w H S) {a:Addr} (h:H a=none):w.no a:=⟨s.freshS h,fun z=>by
 obtain ⟨_,o,e⟩:=s.hid a z
 rw [h] at e; cases e⟩
theorem Ext.trans' {w1 w2:Wd} {H1 H2:Hp} {S1:Sto} (x:Ext w H w1 H1) (y:Ext w1 H1 w2 H2) (s:RS K w H S) (s1:RS K w1 H1 S1):Ext w H w2 H2:=
 x.trans y fun a ha=>by
  obtain ⟨o,e⟩:=s.there ha
  obtain ⟨l,el,_⟩:=x.sub
  obtain ⟨o',e'⟩:=s1.there (a:=a) (by rw [el]; exact List.mem_append_left _ ha)
  exact ⟨o,e,o',e'⟩
theorem Ext.new {p:Addr} {o:HO} (hp:H p=none):Ext w H w (upd H p o):=
 ⟨fun a u e _=>by rw [upd_ne (ne_of_none e hp)]; exact e,⟨[],by simp,fun _ z=>nomatch z⟩,fun _ h=>h,fun _ h=>.inl h,fun a o u e=>by rw [upd_ne (ne_of_none e hp)]; exact e⟩
theorem RO.ext (x:Ext w H w' H') {a:Addr} {o:SO} (hk:∀ u,H a=some u→H' a=some u) (r:RO K w H a o):RO K w' H' a o:=by
 cases o with
 | lst ds=>obtain ⟨vs,e,q⟩:=r; exact ⟨vs,hk _ e,RDs.ext x _ _ q⟩
 | dic kvs=>obtain ⟨vs,e,q⟩:=r; exact ⟨vs,hk _ e,RDk.ext x _ _ q⟩
 | fdic kvs=>obtain ⟨o,vs,e,q⟩:=r; exact ⟨o,vs,hk _ e,RDk.ext x _ _ q⟩
 | ins c fs=>exact r
 | flst ds=>obtain ⟨o,vs,e,q⟩:=r; exact ⟨o,vs,hk _ e,RDs.ext x _ _ q⟩
theorem RS.new {p:Addr} {o:HO} (s:RS K w H S) (hp:H p=none):RS K w (upd H p o) S:=
  ⟨s.nd,s.len,fun n so e=>by
    obtain ⟨a,ha,r⟩:=s.obj n so e
    exact ⟨a,ha,r.ext (Ext.new hp) fun u q=>by rw [upd_ne (ne_of_none q hp)]; exact q⟩,
   fun a ha=>by
    obtain ⟨h1,u,e⟩:=s.hid a ha
    exact ⟨h1,u,by rw [upd_ne (ne_of_none e hp)]; exact e⟩⟩
theorem Ext.alloc {p:Addr} {o:HO} (hp:H p=none):Ext w H (w.add p) (upd H p o):=
 ⟨fun a u e _=>by rw [upd_ne (ne_of_none e hp)]; exact e,⟨[p],rfl,fun a ha=>by
  have:a=p:=by simpa using ha
  subst this; exact hp⟩,fun _ h=>h,fun _ h=>.inl h,fun a o u e=>by rw [upd_ne (ne_of_none e hp)]; exact e⟩
theorem RS.alloc {p:Addr} {o:HO} {so:SO} (s:RS K w H S) (hp:H p=none) (r:RO K (w.add p) (upd H p o) p so):RS K (w.add p) (upd H p o) (S ++ [so]):=by
 have np:=s.freshS hp
 refine ⟨?_,by simp [Wd.add,s.len],fun n so' e=>?_,fun a ha=>?_⟩
 ·show (w.st ++ [p]).Nodup
  rw [List.nodup_append]
  exact ⟨s.nd,by simp,fun a ha b hb=>by
   have:b=p:=by simpa using hb
   subst this
   rintro rfl
   exact np ha⟩
 ·by_cases hn:n < S.length
  ·rw [List.getElem?_append_left hn] at e
   obtain ⟨a,ha,q⟩:=s.obj n so' e
   exact ⟨a,(Ext.alloc (o:=o) hp).get ha,q.ext (Ext.alloc hp) fun u z=>by rw [upd_ne (ne_of_none z hp)]; exact z⟩
  ·have hn':n=S.length:=by
    have:=(List.getElem?_eq_some_iff.mp e).1
    simp at this; omega
   subst hn'
   simp at e; subst e
   exact ⟨p,by show (w.st ++ [p])[S.length]?=some p; rw [← s.len]; simp,r⟩
 ·obtain ⟨h1,u,e⟩:=s.hid a ha
  refine ⟨?_,u,by rw [upd_ne (ne_of_none e hp)]; exact e⟩
  show a ∉ w.st ++ [p]
  intro z
  rcases List.mem_append.mp z with z | z
  ·exact h1 z
  ·have:a=p:=by simpa using z
   subst this
   rw [hp] at e; cases e
theorem Ext.mut {p:Addr} {o u0:HO} (hp:p ∈ w.st) (h0:H p=some u0) (hu:autoParam (∀ o u,u0 ≠ .frz o u) Au.h8._auto_1):Ext w H w (upd H p o):=
 ⟨fun a u e n=>by rw [upd_ne (fun z:a=p=>n (z ▸ hp))]; exact e,⟨[],by simp,fun _ z=>nomatch z⟩,fun _ h=>h,fun _ h=>.inl h,fun a o u e=>by
  rw [upd_ne (fun z:a=p=>by rw [z,h0] at e; exact hu o u (Option.some.inj e))]; exact e⟩
theorem RS.mut {p:Addr} {o:HO} {so:SO} {n:Nat} (s:RS K w H S) (hp:w.st[n]?=some p) {u0:HO} (h0:H p=some u0) (r:RO K w (upd H p o) p so) (hu:autoParam (∀ o u,u0 ≠ .frz o u) Au.h8._auto_1):RS K w (upd H p o) (S.set n so):=by
 have hm:p ∈ w.st:=List.mem_of_getElem? hp
 refine ⟨s.nd,by simp [s.len],fun m so' e=>?_,fun a ha=>?_⟩
 ·by_cases hn:m=n
  ·subst hn
   have hl:m < S.length:=by rw [← s.len]; exact (List.getElem?_eq_some_iff.mp hp).1
   rw [List.getElem?_set_self hl] at e
   cases e
   exact ⟨p,hp,r⟩
  ·rw [List.getElem?_set_ne (Ne.symm hn)] at e
   obtain ⟨a,ha,q⟩:=s.obj m so' e
   refine ⟨a,ha,q.ext (Ext.mut hm h0 hu) fun u z=>?_⟩
   have:a ≠ p:=fun z=>by
    subst z
    obtain ⟨h1,e1⟩:=List.getElem?_eq_some_iff.mp ha
    obtain ⟨h2,e2⟩:=List.getElem?_eq_some_iff.mp hp
    exact hn ((List.getElem_inj s.nd).mp (e1.trans e2.symm))
   rw [upd_ne this]; exact z
 ·obtain ⟨h1,u,e⟩:=s.hid a ha
  exact ⟨h1,u,by rw [upd_ne (fun z:a=p=>h1 (z ▸ hm))]; exact e⟩
end
noncomputable def RSt (K:PySem.W.Frag) (w:Wd) (H:Hp) (r:Rho) (s:L2.St):Prop:=
 s.length=r.length∧∀ (i:Nat) (d:D),r[i]?=some (some d)→∃ v,s[i]?=some (some v)∧RD K w H d v
theorem RSt.ext {K:PySem.W.Frag} {w w':Wd} {H H':Hp} {r:Rho} {s:L2.St} (h:RSt K w H r s) (x:Ext w H w' H'):RSt K w' H' r s:=
 ⟨h.1,fun i d e=>let ⟨v,e1,q⟩:=h.2 i d e; ⟨v,e1,RD.ext x d v q⟩⟩
theorem RSt.set {K:PySem.W.Frag} {w:Wd} {H:Hp} {r:Rho} {s:L2.St} (h:RSt K w H r s) (i:Nat) {d:D} {v:V} (q:RD K w H d v):RSt K w H (r.set i (some d)) (s.set i (some v)):=by
 refine ⟨by simp [h.1],fun j d' e=>?_⟩
 by_cases hj:j=i
 ·subst hj
  have hl:j < r.length:=by
   have:=(List.getElem?_eq_some_iff.mp e).1
   simpa using this
  rw [List.getElem?_set_self hl] at e
  cases e
  exact ⟨v,List.getElem?_set_self (by rw [h.1]; exact hl),q⟩
 ·rw [List.getElem?_set_ne (Ne.symm hj)] at e
  obtain ⟨v',e',q'⟩:=h.2 j d' e
  exact ⟨v',by rw [List.getElem?_set_ne (Ne.symm hj)]; exact e',q'⟩
section
variable {K:PySem.W.Frag} {w:Wd} {H:Hp}
theorem RDs.nil:RDs K w H [] []:=by unfold RDs; rfl
theorem RDs.cons {d:D} {v:V} {ds:List D} {vs:List V} (r:RD K w H d v) (q:RDs K w H ds vs):RDs K w H (d :: ds) (v :: vs):=by unfold RDs; exact ⟨v,vs,rfl,r,q⟩
theorem RDs.nil_inv {vs:List V} (h:RDs K w H [] vs):vs=[]:=by unfold RDs at h; exact h
theorem RDs.cons_inv {d:D} {ds:List D} {vs:List V} (h:RDs K w H (d :: ds) vs):∃ v r,vs=v :: r∧RD K w H d v∧RDs K w H ds r:=by unfold RDs at h; exact h
theorem RDs.one_inv {d:D} {vs:List V} (h:RDs K w H [d] vs):∃ v,vs=[v]∧RD K w H d v:=by
 obtain ⟨v,r,rfl,h1,h2⟩:=h.cons_inv
 rw [h2.nil_inv]
 exact ⟨v,rfl,h1⟩
theorem RDs.two_inv {d e:D} {vs:List V} (h:RDs K w H [d,e] vs):∃ v u,vs=[v,u]∧RD K w H d v∧RD K w H e u:=by
 obtain ⟨v,r,rfl,h1,h2⟩:=h.cons_inv
 obtain ⟨u,rfl,h3⟩:=h2.one_inv
 exact ⟨v,u,rfl,h1,h3⟩
theorem RDs.length:∀ {ds:List D} {vs:List V},RDs K w H ds vs→vs.length=ds.length
 | [],_,h=>by rw [h.nil_inv]; rfl
 | _ :: _,_,h=>by
  obtain ⟨v,r,rfl,_,q⟩:=h.cons_inv
  simp [q.length]
theorem RDs.get:∀ {ds:List D} {vs:List V} {i:Nat} {d:D},RDs K w H ds vs→ds[i]?=some d→∃ v,vs[i]?=some v∧RD K w H d v
 | [],_,_,_,_,e=>by simp at e
 | _ :: _,_,0,_,h,e=>by
  obtain ⟨v,r,rfl,p,_⟩:=h.cons_inv
  simp at e; subst e
  exact ⟨v,rfl,p⟩
 | _ :: ds,_,i + 1,d,h,e=>by
  obtain ⟨v,r,rfl,_,q⟩:=h.cons_inv
  obtain ⟨u,e1,q1⟩:=q.get (i:=i) (d:=d) (by simpa using e)
  exact ⟨u,by simpa using e1,q1⟩
theorem RDs.append:∀ {ds es:List D} {vs us:List V},RDs K w H ds vs→RDs K w H es us→RDs K w H (ds ++ es) (vs ++ us)
 | [],_,_,_,h,q=>by rw [h.nil_inv]; exact q
 | _ :: _,_,_,_,h,q=>by
  obtain ⟨v,r,rfl,p,t⟩:=h.cons_inv
  exact .cons p (t.append q)
theorem RDs.take:∀ {ds:List D} {vs:List V} (n:Nat),RDs K w H ds vs→RDs K w H (ds.take n) (vs.take n)
 | _,_,0,_=>by simp; exact .nil
 | [],_,_ + 1,h=>by rw [h.nil_inv]; simp; exact .nil
 | _ :: _,_,n + 1,h=>by
  obtain ⟨v,r,rfl,p,t⟩:=h.cons_inv
  exact .cons p (t.take n)
theorem RDs.drop:∀ {ds:List D} {vs:List V} (n:Nat),RDs K w H ds vs→RDs K w H (ds.drop n) (vs.drop n)
 | _,_,0,h=>h
 | [],_,_ + 1,h=>by rw [h.nil_inv]; simp; exact .nil
 | _ :: _,_,n + 1,h=>by
  obtain ⟨v,r,rfl,_,t⟩:=h.cons_inv
  exact t.drop n
theorem RDs.set {d:D} {v:V} (r:RD K w H d v):∀ {ds:List D} {vs:List V} (i:Nat),RDs K w H ds vs→RDs K w H (ds.set i d) (vs.set i v)
 | [],_,_,h=>by rw [h.nil_inv]; exact .nil
 | _ :: _,_,0,h=>by
  obtain ⟨_,_,rfl,_,t⟩:=h.cons_inv
  exact .cons r t
 | _ :: _,_,i + 1,h=>by
  obtain ⟨_,_,rfl,p,t⟩:=h.cons_inv
  exact .cons p (RDs.set r i t)
end
end PD
namespace PD
open PySem PySem.Spec PyProof.Rows L2
noncomputable def RX (K:PySem.W.Frag) (w:Wd) (H:Hp) (x:XD) (c:Value) (da:Option Addr):Prop:=PySem.W.nsIn K mainGlobals x.cls=some (some c)
noncomputable def Post {A B:Type} (K:PySem.W.Frag) (E:XK) (rel:Wd→Hp→A→B→Prop) (w:Wd) (H:Hp) (r:R A) (Q:B→Hp→Prop):Prop:=match r with
 | .ok a S'=>∀ w' H' b,Ext w H w' H'→rel w' H' a b→RS K w' H' S'→Q b H'
 | .err x S'=>∀ w' H' c da,Ext w H w' H'→RS K w' H' S'→RX K w' H' x c da→E c da H'
 | .bad=>False
section
variable {A B A2 B2:Type} {K:PySem.W.Frag} {E:XK} {rel:Wd→Hp→A→B→Prop} {rel2:Wd→Hp→A2→B2→Prop} {w w1:Wd} {H H1:Hp} {S S1:Sto}
theorem Post.ext {r:R A} {Q:B→Hp→Prop} (h:Post K E rel w H r Q) (x:Ext w H w1 H1) (s:RS K w H S) (s1:RS K w1 H1 S1):Post K E rel w1 H1 r Q:=by
 cases r with
 | ok a S'=>exact fun w' H' b y q t=>h w' H' b (x.trans' y s s1) q t
 | err e S'=>exact fun w' H' c da y t q=>h w' H' c da (x.trans' y s s1) t q
 | bad=>exact h
theorem Post.bind {r:R A} {f:A→Sto→R A2} {Q':B→Hp→Prop} {Q:B2→Hp→Prop} (h:Post K E rel2 w H (r.bind f) Q) (s:RS K w H S)
  (k:∀ a S1 w1 H1 b,Ext w H w1 H1→rel w1 H1 a b→RS K w1 H1 S1→Post K E rel2 w1 H1 (f a S1) Q→Q' b H1):Post K E rel w H r Q':=by
 cases r with
 | ok a S'=>exact fun w1 H1 b x q s1=>k a S' w1 H1 b x q s1 (Post.ext (r:=f a S') h x s s1)
 | err e S'=>exact h
 | bad=>exact h
theorem Post.bindAt {w0:Wd} {H0:Hp} {S0:Sto} {r:R A} {f:A→Sto→R A2} {Q':B→Hp→Prop} {Q:B2→Hp→Prop} (h:Post K E rel2 w0 H0 (r.bind f) Q) (x:Ext w0 H0 w H) (s0:RS K w0 H0 S0) (s:RS K w H S)
  (k:∀ a S1 w1 H1 b,Ext w H w1 H1→rel w1 H1 a b→RS K w1 H1 S1→Post K E rel2 w0 H0 (f a S1) Q→Q' b H1):Post K E rel w H r Q':=by
 cases r with
 | ok a S'=>exact fun w1 H1 b y q s1=>k a S' w1 H1 b y q s1 h
 | err e S'=>exact fun w' H' c da y t q=>h w' H' c da (x.trans' y s0 s) t q
 | bad=>exact h
theorem Post.ret {a:A} {b:B} {Q:B→Hp→Prop} (h:Post K E rel w H (.ok a S) Q) (q:rel w H a b) (s:RS K w H S):Q b H:=h w H b (Ext.refl w H) q s
theorem Post.at {a:A} {b:B} {Q:B→Hp→Prop} (h:Post K E rel w H (.ok a S) Q) (x:Ext w H w1 H1) (q:rel w1 H1 a b) (s:RS K w1 H1 S):Q b H1:=h w1 H1 b x q s
theorem Post.of {o:Option A} {Q:B→Hp→Prop} (h:Post K E rel w H (R.of S o) Q):∃ a,o=some a∧Post K E rel w H (.ok a S) Q:=by
 cases o with
 | some a=>exact ⟨a,rfl,h⟩
 | none=>exact h.elim
end
set_option genInjectivity false in
inductive FV where
 | nx (s:L2.St) | rt (v:V) | bk (s:L2.St) | ct (s:L2.St)
noncomputable def FV.to (D:Ends):FV→Hp→Prop
 | .nx s,H=>D.nx s H
 | .rt v,H=>D.rt v H
 | .bk s,H=>D.bk s H
 | .ct s,H=>D.ct s H
noncomputable def RF (K:PySem.W.Frag) (w:Wd) (H:Hp):F→FV→Prop
 | .nx r,f=>∃ s,f=.nx s∧RSt K w H r s
 | .rt d,f=>∃ v,f=.rt v∧RD K w H d v
 | .bk r,f=>∃ s,f=.bk s∧RSt K w H r s
 | .ct r,f=>∃ s,f=.ct s∧RSt K w H r s
noncomputable def RB (w:Wd) (H:Hp) (a b:Bool):Prop:=b=a
noncomputable def uE (K:PySem.W.Frag) (E:XK) (m:EM):TE:=fun s H Q=>∃ w r S,RSt K w H r s∧RS K w H S∧Post K E (RD K) w H (m r S) Q
noncomputable def uT (K:PySem.W.Frag) (E:XK) (m:TM):TT:=fun s H Q=>∃ w r S,RSt K w H r s∧RS K w H S∧Post K E RB w H (m r S) Q
noncomputable def uA (K:PySem.W.Frag) (E:XK) (m:AM):TA:=fun s H Q=>∃ w r S,RSt K w H r s∧RS K w H S∧Post K E (RDs K) w H (m r S) Q
noncomputable def uS (K:PySem.W.Frag) (E:XK) (m:SM):TS:=fun D s H=>∃ w r S,RSt K w H r s∧RS K w H S∧Post K E (RF K) w H (m r S) (FV.to D)
theorem ex6 {K:PySem.W.Frag} {H:Hp} {s:L2.St} {c:Wd→Rho→Sto→Prop} {P:Prop} (z:∃ w r S,RSt K w H r s∧RS K w H S∧c w r S) (f:∀ w r S,RSt K w H r s→RS K w H S→c w r S→P):P:=by
 obtain ⟨w,r,S,x,y,z⟩:=z
 exact f w r S x y z
theorem ex8.{u} {α:Type u} {a:Wd→Rho→Prop} {b:Wd→Rho→α→Rho→Prop} {c:Wd→Rho→α→Rho→Prop} {d:Wd→Rho→α→Rho→Prop} {P:Prop} (z:∃ w r e r',a w r∧b w r e r'∧c w r e r'∧d w r e r') (f:∀ w r e r',a w r→b w r e r'→c w r e r'→d w r e r'→P):P:=by
 obtain ⟨w,r,e,r',x,y,z,t⟩:=z
 exact f w r e r' x y z t
structure Bx (p:Prop):Prop where
 out:p
noncomputable abbrev SE (X:Cx) (E:XK) (e:Expr) (m:EM):Prop:=Bx (PE X e (uE X.K E m))
noncomputable abbrev ST (X:Cx) (E:XK) (e:Expr) (m:TM):Prop:=Bx (PT X e (uT X.K E m))
noncomputable abbrev SW (X:Cx) (E:XK) (e:Expr) (m:TM):Prop:=Bx (PW X e (uT X.K E m))
noncomputable abbrev SA (X:Cx) (E:XK) (es:List Expr) (m:AM):Prop:=Bx (PA X es (uA X.K E m))
noncomputable abbrev SS (X:Cx) (E:XK) (st:Stmt) (m:SM):Prop:=Bx (PS X st (uS X.K E m))
noncomputable abbrev SSs (X:Cx) (E:XK) (st:List Stmt) (m:SM):Prop:=Bx (PSs X st (uS X.K E m))
theorem pe_weak {X:Cx} {e:Expr} {t t':TE} (h:PE X e t) (k:∀ s H Q,t' s H Q→t s H Q):PE X e t':=fun pins s σ H Q I q=>h pins s σ H Q I (k σ H Q q)
theorem pt_weak {X:Cx} {e:Expr} {t t':TT} (h:PT X e t) (k:∀ s H Q,t' s H Q→t s H Q):PT X e t':=fun pins s σ H Q I q=>h pins s σ H Q I (k σ H Q q)
theorem pw_weak {X:Cx} {e:Expr} {t t':TT} (h:PW X e t) (k:∀ s H Q,t' s H Q→t s H Q):PW X e t':=fun wh pins s σ H Q I q=>h wh pins s σ H Q I (k σ H Q q)
theorem pa_weak {X:Cx} {e:List Expr} {t t':TA} (h:PA X e t) (k:∀ s H Q,t' s H Q→t s H Q):PA X e t':=fun p pins s σ H Q I q=>h p pins s σ H Q I (k σ H Q q)
theorem ps_weak {X:Cx} {e:Stmt} {t t':TS} (h:PS X e t) (k:∀ D s H,t' D s H→t D s H):PS X e t':=fun pins s σ H Q I q=>h pins s σ H Q I (k Q σ H q)
theorem pss_weak {X:Cx} {e:List Stmt} {t t':TS} (h:PSs X e t) (k:∀ D s H,t' D s H→t D s H):PSs X e t':=fun pins s σ H Q I q=>h pins s σ H Q I (k Q σ H q)
section
variable {X:Cx} {E:XK} {a b c:Expr} {ma mb mc:EM} {pos:Pos}
theorem se_var (i:Nat) {x:Str} {pos:Pos} (hN:autoParam (X.N[i]?=some x) Au.h0._auto_1) (hv:Vis X.env.scope x) (hd:autoParam ((x == ("__debug__":Str))=false) Au.h3._auto_1)
  (hcd:autoParam ((x == ("__classdict__":Str))=false) Au.h3._auto_1):SE X E (.Name x pos) (eVar i):=⟨
 pe_weak (pv i hN hv hd hcd) fun s H Q zq=>ex6 zq fun w r S hr hS hp=>by
  unfold eVar at hp
  split at hp
  ·rename_i d e
   obtain ⟨v,e',q⟩:=hr.2 i d e
   exact ⟨v,e',hp.ret q hS⟩
  ·exact hp.elim⟩
theorem se_c {e:Expr} {v:V} {d:D} (h:PE X e (tC v)) (q:∀ w H,RD X.K w H d v):SE X E e (eC d):=⟨
 pe_weak h fun s H Q zq=>ex6 zq fun w r S hr hS hp=>hp.ret (q w H) hS⟩
theorem se_int {i j pos}:SE X E (.Constant (.int i) j pos) (eC (.int i)):=se_c pe_int fun _ _=>by unfold RD; rfl
theorem se_bl {i j pos}:SE X E (.Constant (.bool i) j pos) (eC (.bl i)):=se_c pe_bl fun _ _=>by unfold RD; rfl
theorem se_non {j pos}:SE X E (.Constant .none j pos) (eC .non):=se_c pe_non fun _ _=>by unfold RD; rfl
theorem se_str {i j pos}:SE X E (.Constant (.str i) j pos) (eC (.str i)):=se_c pe_str fun _ _=>by unfold RD; rfl
theorem se_gint {x:Str} {i:Int} {t:Tok} {pos:Pos} (hg:Gl X x) (hm:X.mg x=some (.int i t)) (hd:autoParam ((x == ("__debug__":Str))=false) Au.h3._auto_1):SE X E (.Name x pos) (eC (.int i)):=
 se_c (pe_glob hg hm (v:=.int i) ⟨t,rfl⟩ hd) fun _ _=>by unfold RD; rfl
theorem se_ty {x:Str} {T:String} {pos:Pos} (hg:Gl X x) (hm:X.mg x=none) (hv:bootBuiltins x=some (.type T)) (hn:autoParam (x ≠ "__name__") Au.h3._auto_1) (hd:autoParam ((x == ("__debug__":Str))=false) Au.h3._auto_1):SE X E (.Name x pos) (eC (.ty T)):=
 se_c (pe_bltn hg hm hv (v:=.ty T) rfl hn hd) fun _ _=>by unfold RD; rfl
noncomputable def xO (K:PySem.W.Frag) (E:XK) (f:Sto→D→D→Option D):R2:=fun x y H Q=>∃ w S d e,RS K w H S∧RD K w H d x∧RD K w H e y∧Post K E (RD K) w H (R.of S (f S d e)) Q
noncomputable def xU (K:PySem.W.Frag) (E:XK) (f:Sto→D→Option D):V→Hp→VK→Prop:=fun x H Q=>∃ w S d,RS K w H S∧RD K w H d x∧Post K E (RD K) w H (R.of S (f S d)) Q
noncomputable def xC (K:PySem.W.Frag) (E:XK) (f:Sto→List D→Option D):List V→Hp→VK→Prop:=fun xs H Q=>∃ w S ds,RS K w H S∧RDs K w H ds xs∧Post K E (RD K) w H (R.of S (f S ds)) Q
theorem se_op {op:Operator} {f:Sto→D→D→Option D} (ho:OpR X (binaryOp op) (xO X.K E f)) (ha:SE X E a ma) (hb:SE X E b mb):SE X E (.BinOp a op b pos) (eOp f ma mb):=⟨
 pe_weak (pe_op ho ha.out hb.out) fun s H Q zq=>ex6 zq fun w r S hr hS hp=>⟨w,r,S,hr,hS,hp.bind hS fun d S1 w1 H1 v x1 q1 s1 p1=>
  ⟨w1,r,S1,hr.ext x1,s1,p1.bind s1 fun e S2 w2 H2 u x2 q2 s2 p2=>⟨w2,S2,d,e,s2,RD.ext x2 d v q1,q2,p2⟩⟩⟩⟩
theorem se_un {op:UnaryOp} {f:Sto→D→Option D} (ho:UnR X (unaryOp op) (xU X.K E f)) (ha:SE X E a ma):SE X E (.UnaryOp op a pos) (eUn f ma):=⟨
 pe_weak (pe_un ho ha.out) fun s H Q zq=>ex6 zq fun w r S hr hS hp=>⟨w,r,S,hr,hS,hp.bind hS fun d S1 w1 H1 v x1 q1 s1 p1=>⟨w1,S1,d,s1,q1,p1⟩⟩⟩
theorem se_cmp {op:CmpOp} {f:Sto→D→D→Option D} (ho:OpR X (compareOp op) (xO X.K E f)) (ha:SE X E a ma) (hb:SE X E b mb) (hm:autoParam (behindInMarks op b=false) Au.h9._auto_1):
  SE X E (.Compare a [op] [b] pos) (eOp f ma mb):=⟨
 pe_weak (pe_cmpR ho ha.out hb.out hm) fun s H Q zq=>ex6 zq fun w r S hr hS hp=>⟨w,r,S,hr,hS,hp.bind hS fun d S1 w1 H1 v x1 q1 s1 p1=>
  ⟨w1,r,S1,hr.ext x1,s1,p1.bind s1 fun e S2 w2 H2 u x2 q2 s2 p2=>⟨w2,S2,d,e,s2,RD.ext x2 d v q1,q2,p2⟩⟩⟩⟩
theorem se_one {op} (h:SE X E a ma):SE X E (.BoolOp op [a] pos) ma:=⟨pe_one h.out⟩
theorem se_and {rest:List Expr} (ha:SE X E a ma) (hb:SE X E (.BoolOp .And (b :: rest) pos) mb):SE X E (.BoolOp .And (a :: b :: rest) pos) (eAnd ma mb):=⟨
 pe_weak (pe_and ha.out hb.out) fun s H Q zq=>ex6 zq fun w r S hr hS hp=>⟨w,r,S,hr,hS,hp.bind hS fun d S1 w1 H1 v x1 q1 s1 p1=>by
  cases d with
  | bl k=>
   unfold RD at q1
   subst q1
   refine ⟨k,rfl,?_⟩
   cases k with
   | true=>exact iteT ⟨w1,r,S1,hr.ext x1,s1,p1⟩
   | false=>exact iteF (Post.ret p1 (by unfold RD; rfl) s1)
  | _=>exact p1.elim⟩⟩
theorem se_not (ha:SE X E a ma):SE X E (.UnaryOp .Not a pos) (eNot ma):=⟨
 pe_weak (pe_not ha.out) fun s H Q zq=>ex6 zq fun w r S hr hS hp=>⟨w,r,S,hr,hS,hp.bind hS fun d S1 w1 H1 v x1 q1 s1 p1=>by
  cases d with
  | bl k=>
   unfold RD at q1
   subst q1
   exact ⟨k,rfl,Post.ret p1 (by unfold RD; rfl) s1⟩
  | _=>exact p1.elim⟩⟩
theorem se_if {mt:TM} (hc:ST X E c mt) (ha:SE X E a ma) (hb:SE X E b mb):SE X E (.IfExp c a b pos) (eIf mt ma mb):=⟨
 pe_weak (pe_ifExp hc.out ha.out hb.out) fun s H Q zq=>ex6 zq fun w r S hr hS hp=>⟨w,r,S,hr,hS,hp.bind hS fun k S1 w1 H1 v x1 q1 s1 p1=>by
  have e:v=k:=q1
  subst e
  cases v with
  | true=>exact iteT ⟨w1,r,S1,hr.ext x1,s1,p1⟩
  | false=>exact iteF ⟨w1,r,S1,hr.ext x1,s1,p1⟩⟩⟩
theorem uT_of {s:L2.St} {H:Hp} {Q:Bool→Hp→Prop} (h:uT X.K E (tV ma) s H Q):uE X.K E ma s H fun x H1=>∃ k,x=.bl k∧Q k H1:=by
 obtain ⟨w,r,S,hr,hS,hp⟩:=h
 exact ⟨w,r,S,hr,hS,hp.bind hS fun d S1 w1 H1 v x1 q1 s1 p1=>by
  cases d with
  | bl k=>
   unfold RD at q1
   exact ⟨k,q1,Post.ret p1 rfl s1⟩
  | _=>exact p1.elim⟩
theorem st_val (h:SE X E a ma) (he:autoParam (∀ whole,isTrue a X.env whole=(do let v ← whole; standAt a.pos; holding [v] (truthy v))) Au.h4._auto_1):ST X E a (tV ma):=⟨
 pt_weak (pt_val h.out he) fun s H Q q=>uT_of q⟩
theorem st_cmp {op:CmpOp} {f:Sto→D→D→Option D} (ho:OpR X (compareOp op) (xO X.K E f)) (ha:SE X E a ma) (hb:SE X E b mb) (hm:autoParam (behindInMarks op b=false) Au.h9._auto_1):
  ST X E (.Compare a [op] [b] pos) (tV (eOp f ma mb)):=⟨
 pt_weak (pt_cmpR ho ha.out hb.out hm) fun s H Q q=>by
  obtain ⟨w,r,S,hr,hS,hp⟩:=uT_of q
  exact ⟨w,r,S,hr,hS,hp.bind hS fun d S1 w1 H1 v x1 q1 s1 p1=>
   ⟨w1,r,S1,hr.ext x1,s1,p1.bind s1 fun e S2 w2 H2 u x2 q2 s2 p2=>⟨w2,S2,d,e,s2,RD.ext x2 d v q1,q2,p2⟩⟩⟩⟩
theorem sw_or1 {mt:TM} (ha:ST X E a mt):SW X E (.BoolOp .Or [a] pos) mt:=⟨pw_or1 ha.out⟩
theorem sw_or {mt mu:TM} {rest:List Expr} (ha:ST X E a mt) (hb:SW X E (.BoolOp .Or (b :: rest) pos) mu):SW X E (.BoolOp .Or (a :: b :: rest) pos) (PD.tOr mt mu):=⟨
 pw_weak (pw_or ha.out hb.out) fun s H Q zq=>ex6 zq fun w r S hr hS hp=>⟨w,r,S,hr,hS,hp.bind hS fun k S1 w1 H1 v x1 q1 s1 p1=>by
  have e:v=k:=q1
  subst e
  cases v with
  | false=>exact iteF ⟨w1,r,S1,hr.ext x1,s1,p1⟩
  | true=>exact iteT (Post.ret p1 rfl s1)⟩⟩
theorem sw_st {mt:TM} (h:SW X E a mt):ST X E a mt:=⟨PW.pt h.out⟩
theorem st_not {mt:TM} (ha:ST X E a mt):ST X E (.UnaryOp .Not a pos) (PD.tNot mt):=⟨
 pt_weak (pt_not ha.out) fun s H Q zq=>ex6 zq fun w r S hr hS hp=>⟨w,r,S,hr,hS,hp.bind hS fun k S1 w1 H1 v x1 q1 s1 p1=>by
  have e:v=k:=q1
  subst e
  exact Post.ret p1 rfl s1⟩⟩
theorem sa_nil:SA X E [] aNil:=⟨pa_weak pa_nil fun s H Q zq=>ex6 zq fun w r S hr hS hp=>Post.ret hp RDs.nil hS⟩
theorem sa_cons {es:List Expr} {ms:AM} (ha:SE X E a ma) (hrr:SA X E es ms) (hs:autoParam (starEach (a :: es) X.env=(false,eval a X.env) :: starEach es X.env) Au.h0._auto_1):SA X E (a :: es) (aCons ma ms):=⟨
 pa_weak (pa_cons ha.out hrr.out hs) fun s H Q zq=>ex6 zq fun w r S hr hS hp=>⟨w,r,S,hr,hS,hp.bind hS fun d S1 w1 H1 v x1 q1 s1 p1=>
  ⟨w1,r,S1,hr.ext x1,s1,p1.bind s1 fun e S2 w2 H2 u x2 q2 s2 p2=>Post.ret p2 (RDs.cons (RD.ext x2 d v q1) q2) s2⟩⟩⟩
theorem se_tup {es:List Expr} {ms:AM} {k} (h:SA X E es ms):SE X E (.Tuple es k pos) (eTup ms):=⟨
 pe_weak (pe_tup h.out) fun s H Q zq=>ex6 zq fun w r S hr hS hp=>⟨w,r,S,hr,hS,hp.bind hS fun ds S1 w1 H1 vs x1 q1 s1 p1=>by
  by_cases hl:ds.length≤sizeLine
  ·rw [if_pos hl] at p1
   refine ⟨by rw [q1.length]; exact hl,fun p hp=>?_⟩
   exact Post.at p1 (Ext.new hp) (by unfold RD; exact ⟨p,vs,rfl,.inl ⟨upd_same,s1.fresh hp⟩,RDs.ext (Ext.new hp) _ _ q1⟩) (s1.new hp)
  ·rw [if_neg hl] at p1; exact p1.elim⟩⟩
theorem se_lst {es:List Expr} {ms:AM} (h:SA X E es ms):SE X E (.List es pos) (eLst ms):=⟨
 pe_weak (pe_lst h.out) fun s H Q zq=>ex6 zq fun w r S hr hS hp=>⟨w,r,S,hr,hS,hp.bind hS fun ds S1 w1 H1 vs x1 q1 s1 p1=>by
  by_cases hl:ds.length≤sizeLine
  ·rw [if_pos hl] at p1
   refine ⟨by rw [q1.length]; exact hl,fun p hp=>?_⟩
   exact Post.at p1 (Ext.new hp) (by unfold RD; exact ⟨p,vs,rfl,⟨upd_same,s1.fresh hp⟩,RDs.ext (Ext.new hp) _ _ q1⟩) (s1.new hp)
  ·rw [if_neg hl] at p1; exact p1.elim⟩⟩
theorem RS.lastRef {K:PySem.W.Frag} {w:Wd} {H:Hp} {S:Sto} (s:RS K w H S) {p:Addr} {H':Hp}:RD K (w.add p) H' (.ref S.length) (.ref p):=by
 unfold RD
 exact ⟨p,rfl,by show (w.st ++ [p])[S.length]?=some p; rw [← s.len]; simp⟩
theorem se_new {es:List Expr} {ms:AM} (h:SA X E es ms):SE X E (.List es pos) (eNew ms):=⟨
 pe_weak (pe_lst h.out) fun s H Q zq=>ex6 zq fun w r S hr hS hp=>⟨w,r,S,hr,hS,hp.bind hS fun ds S1 w1 H1 vs x1 q1 s1 p1=>by
  by_cases hl:ds.length≤sizeLine
  ·rw [if_pos hl] at p1
   refine ⟨by rw [q1.length]; exact hl,fun p hp=>?_⟩
   exact Post.at p1 (Ext.alloc hp) s1.lastRef (s1.alloc hp ⟨vs,upd_same,RDs.ext (Ext.alloc hp) _ _ q1⟩)
  ·rw [if_neg hl] at p1; exact p1.elim⟩⟩
noncomputable def spM (K:PySem.W.Frag) (n:Nat) (f:FM):Sp:=fun vs H Q E=>vs.length=n∧∃ w S ds,RS K w H S∧RDs K w H ds vs∧Post K E (RD K) w H (f ds S) Q
variable {CX:CXT} {k n:Nat} {fa:Addr} {fd:FuncData} {ps:List Str} {f:FM} {x:Str} {p:Pos} {es:List Expr} {ms:AM}
theorem se_call (F:FnOk X.prog X.w X.K X.mg X.base CX k fa fd ps (spM X.K n f)) (hr:Room k X.A) (hg:Gl X x) (hm:X.mg x=some (.ref fa)) (hk:PySem.W.keepIn X.K (.ref fa)=true) (hb:Binds X.K fd ps []) (hx:Passes CX X E)
  (ha:SA X E (a :: es) ms) (hn:∀ r S ds S',ms r S=.ok ds S'→ds.length=n) (hdb:autoParam ((x == ("__debug__":Str))=false) Au.h3._auto_1) (he:autoParam (starEach (a :: es) X.env=(false,eval a X.env) :: starEach es X.env) Au.h0._auto_1) (hpl:autoParam ((backTo pos (starEach es X.env)).any (·.1)=false) Au.h0._auto_1):
  SE X E (.Call (.Name x p) (a :: es) [] pos) (eCall f ms):=⟨
 pe_weak (pe_call F hr hg hm hk hb (dvs:=[]) .nil hx ha.out hdb he hpl) fun s H Q zq=>ex6 zq fun w r S hr hS hp=>by
  refine ⟨w,r,S,hr,hS,?_⟩
  have hp':Post X.K E (RD X.K) w H ((ms r S).bind fun xs S1=>f xs S1) Q:=hp
  cases e:ms r S with
  | bad=>rw [e] at hp'; exact hp'.elim
  | err y S'=>rw [e] at hp'; exact hp'
  | ok ds S'=>
   rw [e] at hp'
   intro w1 H1 vs x1 q1 s1
   rw [List.append_nil]
   exact ⟨by rw [q1.length]; exact hn r S ds S' e,w1,S',ds,s1,q1,Post.ext (r:=f ds S') hp' x1 hS s1⟩⟩
theorem se_callB {id:String} {f:Sto→List D→Option D} (hc:CallR X (.builtin id) (xC X.K E f)) (hg:Gl X x) (hm:X.mg x=none) (hv:bootBuiltins x=some (.builtin id)) (ha:SA X E (a :: es) ms) (hn:autoParam (x ≠ "__name__") Au.h3._auto_1) (hdb:autoParam ((x == ("__debug__":Str))=false) Au.h3._auto_1)
  (he:autoParam (starEach (a :: es) X.env=(false,eval a X.env) :: starEach es X.env) Au.h0._auto_1) (hpl:autoParam ((backTo pos (starEach es X.env)).any (·.1)=false) Au.h0._auto_1):SE X E (.Call (.Name x p) (a :: es) [] pos) (eB f ms):=⟨
 pe_weak (pe_callB hc hg hm hv ha.out hn hdb he hpl) fun s H Q zq=>ex6 zq fun w r S hr hS hp=>⟨w,r,S,hr,hS,hp.bind hS fun ds S1 w1 H1 vs x1 q1 s1 p1=>⟨w1,S1,ds,s1,q1,p1⟩⟩⟩
theorem se_callTy {T:String} {f:Sto→List D→Option D} (hc:CallR X (.type T) (xC X.K E f)) (hg:Gl X x) (hm:X.mg x=none) (hv:bootBuiltins x=some (.type T)) (ha:SA X E (a :: es) ms) (hn:autoParam (x ≠ "__name__") Au.h3._auto_1) (hdb:autoParam ((x == ("__debug__":Str))=false) Au.h3._auto_1)
  (he:autoParam (starEach (a :: es) X.env=(false,eval a X.env) :: starEach es X.env) Au.h0._auto_1) (hpl:autoParam ((backTo pos (starEach es X.env)).any (·.1)=false) Au.h0._auto_1):SE X E (.Call (.Name x p) (a :: es) [] pos) (eB f ms):=⟨
 pe_weak (pe_callTy hc hg hm hv ha.out hn hdb he hpl) fun s H Q zq=>ex6 zq fun w r S hr hS hp=>⟨w,r,S,hr,hS,hp.bind hS fun ds S1 w1 H1 vs x1 q1 s1 p1=>⟨w1,S1,ds,s1,q1,p1⟩⟩⟩
variable {st:Stmt} {rest:List Stmt} {m m':SM}
theorem ss_nil:SSs X E [] sSkip:=⟨pss_weak pss_nil fun D s H zq=>ex6 zq fun w r S hr hS hp=>Post.ret (b:=FV.nx s) hp ⟨s,rfl,hr⟩ hS⟩
theorem ss_cons (h1:SS X E st m) (h2:SSs X E rest m'):SSs X E (st :: rest) (sSeq m m'):=⟨
 pss_weak (pss_cons h1.out h2.out) fun D s H zq=>ex6 zq fun w r S hr hS hp=>⟨w,r,S,hr,hS,hp.bind hS fun f S1 w1 H1 fv x1 q1 s1 p1=>by
  cases f with
  | nx r1=>obtain ⟨s',rfl,q⟩:=q1; exact ⟨w1,r1,S1,q,s1,p1⟩
  | rt d=>obtain ⟨v,rfl,q⟩:=q1; have z:=Post.ret (Q:=FV.to D) (rel:=RF X.K) (a:=F.rt d) (b:=FV.rt v) p1 ⟨v,rfl,q⟩ s1; exact z
  | bk r1=>obtain ⟨s',rfl,q⟩:=q1; have z:=Post.ret (Q:=FV.to D) (rel:=RF X.K) (a:=F.bk r1) (b:=FV.bk s') p1 ⟨s',rfl,q⟩ s1; exact z
  | ct r1=>obtain ⟨s',rfl,q⟩:=q1; have z:=Post.ret (Q:=FV.to D) (rel:=RF X.K) (a:=F.ct r1) (b:=FV.ct s') p1 ⟨s',rfl,q⟩ s1; exact z⟩⟩
theorem ss_one (h1:SS X E st m):SSs X E [st] m:=⟨pss_one h1.out⟩
theorem ss_never:SS X E st sBad:=⟨ps_weak ps_never fun D s H zq=>ex6 zq fun w r S hr hS hp=>hp.elim⟩
theorem ss_expr (ha:SE X E a ma) (hs:autoParam (swapsWith a none pos.line X.env=pure false) Au.h0._auto_1):SS X E (.Expr a pos) (sDrop ma):=⟨
 ps_weak (ps_expr ha.out hs) fun D s H zq=>ex6 zq fun w r S hr hS hp=>⟨w,r,S,hr,hS,hp.bind hS fun d S1 w1 H1 v x1 q1 s1 p1=>Post.ret (b:=FV.nx s) p1 ⟨s,rfl,hr.ext x1⟩ s1⟩⟩
theorem ss_ret (ha:SE X E a ma):SS X E (.Return (some a) pos) (sRet ma):=⟨
 ps_weak (ps_ret ha.out) fun D s H zq=>ex6 zq fun w r S hr hS hp=>⟨w,r,S,hr,hS,hp.bind hS fun d S1 w1 H1 v x1 q1 s1 p1=>Post.ret (b:=FV.rt v) p1 ⟨v,rfl,q1⟩ s1⟩⟩
theorem ss_if {mt:TM} {sa sb:List Stmt} (hc:ST X E c mt) (ha:SSs X E sa m) (hb:SSs X E sb m'):SS X E (.If c sa sb pos) (sIf mt m m'):=⟨
 ps_weak (ps_if hc.out ha.out hb.out) fun D s H zq=>ex6 zq fun w r S hr hS hp=>⟨w,r,S,hr,hS,hp.bind hS fun k S1 w1 H1 v x1 q1 s1 p1=>by
  have e:v=k:=q1
  subst e
  cases v with
  | true=>exact iteT ⟨w1,r,S1,hr.ext x1,s1,p1⟩
  | false=>exact iteF ⟨w1,r,S1,hr.ext x1,s1,p1⟩⟩⟩
theorem ss_set {i:Nat} {x:Str} {pos':Pos} (hN:X.N.Nodup) (hi:X.N[i]?=some x) (hx:Loc X.env.scope x) (ha:SE X E a ma) (hs:autoParam (swapsWith a (some (.Name x pos')) pos.line X.env=pure false) Au.h0._auto_1) (hf:autoParam (X.fn x=true ∨ X.env.scope.names.lookup x=some .local) Au.h7._auto_1):
  SS X E (.Assign [.Name x pos'] a pos) (sSet i ma):=⟨
 ps_weak (ps_set hN hi hx ha.out hs hf) fun D s H zq=>ex6 zq fun w r S hr hS hp=>⟨w,r,S,hr,hS,hp.bind hS fun d S1 w1 H1 v x1 q1 s1 p1=>
  Post.ret (b:=FV.nx (s.set i (some v))) p1 ⟨_,rfl,(hr.ext x1).set i q1⟩ s1⟩⟩
end
end PD
namespace PD
open PySem PySem.Spec PyProof.Rows L2
noncomputable def uG (K:PySem.W.Frag) (g:G):TG:=fun v s H Q=>∃ w r d r',RSt K w H r s∧RD K w H d v∧g.put d r=some r'∧∀ s',RSt K w H r' s'→Q s' H
noncomputable def uGs (K:PySem.W.Frag) (gs:List G):TGs:=fun vs s H Q=>∃ w r ds r',RSt K w H r s∧RDs K w H ds vs∧G.puts gs ds r=some r'∧∀ s',RSt K w H r' s'→Q s' H
noncomputable abbrev SG (X:Cx) (e:Expr) (g:G):Prop:=Bx (PG X e (uG X.K g))
noncomputable abbrev SGs (X:Cx) (es:List Expr) (gs:List G):Prop:=Bx (PGs X es (uGs X.K gs))
theorem pg_weak {X:Cx} {e:Expr} {t t':TG} (h:PG X e t) (k:∀ v s H Q,t' v s H Q→t v s H Q):PG X e t':=fun pins s σ H v u Q I r q=>h pins s σ H v u Q I r (k v σ H Q q)
theorem pgs_weak {X:Cx} {e:List Expr} {t t':TGs} (h:PGs X e t) (k:∀ v s H Q,t' v s H Q→t v s H Q):PGs X e t':=fun pins s σ H v u Q I r q=>h pins s σ H v u Q I r (k v σ H Q q)
theorem puts_len:∀ {gs:List G} {ds:List D} {r r':Rho},G.puts gs ds r=some r'→ds.length=gs.length
 | [],[],_,_,_=>rfl
 | [],_ :: _,_,_,h=>by simp [G.puts] at h
 | _ :: _,[],_,_,h=>by simp [G.puts] at h
 | g :: gs,d :: ds,r,r',h=>by
  unfold G.puts at h
  cases e:G.put g d r with
  | none=>rw [e] at h; cases h
  | some r1=>
   rw [e] at h
   have:=puts_len h
   simp [this]
section
variable {X:Cx} {E:XK} {a b c:Expr} {ma mb mc:EM} {pos:Pos}
theorem sg_name {i:Nat} {x:Str} (hN:X.N.Nodup) (hi:X.N[i]?=some x) (hx:Loc X.env.scope x) (hf:autoParam (X.fn x=true ∨ X.env.scope.names.lookup x=some .local) Au.h7._auto_1):SG X (.Name x pos) (.nm i):=⟨
 pg_weak (pg_name hN hi hx hf) fun v s H Q zq=>ex8 zq fun w r d r' hr q e k=>by
  unfold G.put at e
  cases e
  exact k _ (hr.set i q)⟩
theorem sgs_nil:SGs X [] []:=⟨
 pgs_weak pgs_nil fun v s H Q zq=>ex8 zq fun w r ds r' hr q e k=>by
  cases ds with
  | nil=>
   unfold G.puts at e
   cases e
   exact ⟨q.nil_inv,k s hr⟩
  | cons d ds=>simp [G.puts] at e⟩
theorem sgs_cons {e:Expr} {es:List Expr} {g:G} {gs:List G} (h1:SG X e g) (h2:SGs X es gs)
  (hs:autoParam ((assignEach (e :: es) X.env).map (·.2)=assign e X.env :: (assignEach es X.env).map (·.2)) Au.h0._auto_1):SGs X (e :: es) (g :: gs):=⟨
 pgs_weak (pgs_cons h1.out h2.out hs) fun v s H Q zq=>ex8 zq fun w r ds r' hr q e k=>by
  cases ds with
  | nil=>simp [G.puts] at e
  | cons d ds=>
   obtain ⟨v1,vs,rfl,q1,q2⟩:=q.cons_inv
   unfold G.puts at e
   cases e1:G.put g d r with
   | none=>rw [e1] at e; cases e
   | some r1=>
    rw [e1] at e
    exact ⟨v1,vs,rfl,w,r,d,r1,hr,q1,e1,fun s' hs'=>⟨w,r1,ds,r',hs',q2,e,k⟩⟩⟩
theorem SqT_of {K:PySem.W.Frag} {w:Wd} {H:Hp} {p:Addr} {vs:List V} (h:At w H p (.tup vs) ∨ KTup K p vs):SqT K H p vs:=h.elim (fun z=>SqT.of z.1) .inr
theorem sg_tup {es:List Expr} {k:Nat} {gs:List G} (hc:X.calm=true) (h:SGs X es gs)
  (hn:autoParam ((assignEach es X.env).length=gs.length) Au.h0._auto_1) (hst:autoParam ((assignEach es X.env).findIdx? (·.1)=none) Au.h0._auto_1):SG X (.Tuple es k pos) (.tp gs):=⟨
 pg_weak (pg_tup hc h.out hn hst) fun v s H Q zq=>ex8 zq fun w r d r' hr q e k=>by
  cases d with
  | tup ds=>
   unfold RD at q
   obtain ⟨p,vs,rfl,h1,q1⟩:=q
   unfold G.put at e
   exact ⟨p,vs,rfl,SqT_of h1,by rw [q1.length]; exact puts_len e,w,r,ds,r',hr,q1,e,k⟩
  | _=>simp [G.put] at e⟩
theorem ss_asg {tg:Expr} {g:G} (ha:SE X E a ma) (hg:SG X tg g) (hs:autoParam (swapsWithSole [tg] a pos.line X.env=pure false) Au.h0._auto_1) (hw:autoParam (swappedStores [tg] a X.env=pure none) Au.h0._auto_1)
  (h1:autoParam ((assignEach [tg] X.env).map (·.2)=[assign tg X.env]) Au.h0._auto_1):SS X E (.Assign [tg] a pos) (sAsg g ma):=⟨
 ps_weak (ps_asg ha.out hg.out hs hw h1) fun D s H zq=>ex6 zq fun w r S hr hS hp=>⟨w,r,S,hr,hS,hp.bind hS fun d S1 w1 H1 v x1 q1 s1 p1=>by
  cases e:g.put d r with
  | none=>rw [e] at p1; exact p1.elim
  | some r'=>
   rw [e] at p1
   exact ⟨w1,r,d,r',hr.ext x1,q1,e,fun s' hs'=>Post.ret (b:=FV.nx s') p1 ⟨s',rfl,hs'⟩ s1⟩⟩⟩
theorem ss_par {i j:Nat} {x y:Str} {ms:AM} {px py pt:Pos} {kt k2 pt2} (hc:X.calm=true) (hN:X.N.Nodup) (hi:X.N[i]?=some x) (hj:X.N[j]?=some y) (hij:i ≠ j)
  (hx:X.env.scope.names.lookup x=some .local) (hy:X.env.scope.names.lookup y=some .local) (ha:SA X E [a,b] ms)
  (hw:autoParam (swappedStores [.Tuple [.Name x px,.Name y py] kt pt] (.Tuple [a,b] k2 pt2) X.env=pure (some [x,y])) Au.h0._auto_1)
  (hs:autoParam (swapsWithSole [.Tuple [.Name x px,.Name y py] kt pt] (.Tuple [a,b] k2 pt2) pos.line X.env=pure false) Au.h0._auto_1):
  SS X E (.Assign [.Tuple [.Name x px,.Name y py] kt pt] (.Tuple [a,b] k2 pt2) pos) (sPar i j ms):=⟨
 ps_weak (ps_par hc hN hi hj hij hx hy ha.out hw hs) fun D s H zq=>ex6 zq fun w r S hr hS hp=>⟨w,r,S,hr,hS,hp.bind hS fun ds S1 w1 H1 vs x1 q1 s1 p1=>by
  match ds,q1,p1 with
  | [d,e],q1,p1=>
   obtain ⟨v,u,rfl,q2,q3⟩:=q1.two_inv
   exact ⟨v,u,rfl,Post.ret (b:=FV.nx _) p1 ⟨_,rfl,((hr.ext x1).set i q2).set j q3⟩ s1⟩
  | [],_,p1=>exact p1.elim
  | [_],_,p1=>exact p1.elim
  | _ :: _ :: _ :: _,_,p1=>exact p1.elim⟩⟩
noncomputable def xS (K:PySem.W.Frag) (f:Sto→D→D→D→Option Sto):TSet:=fun o i v H Q=>∃ w S x y z S',RS K w H S∧RD K w H x o∧RD K w H y i∧RD K w H z v∧f S x y z=some S'∧∀ w' H',Ext w H w' H'→RS K w' H' S'→Q H'
theorem ss_put {f:Sto→D→D→D→Option Sto} {tpos:Pos} (hf:PSet X (xS X.K f)) (ha:SE X E a ma) (ho:SE X E b mb) (hi:SE X E c mc) (hs:autoParam (swapsWithSole [.Subscript b c tpos] a pos.line X.env=pure false) Au.h0._auto_1) (hw:autoParam (swappedStores [.Subscript b c tpos] a X.env=pure none) Au.h0._auto_1)
  (h1:autoParam ((assignEach [.Subscript b c tpos] X.env).map (·.2)=[assign (.Subscript b c tpos) X.env]) Au.h0._auto_1)
  (hz:autoParam (∀ v,assign (.Subscript b c tpos) X.env v=(do
   let ov ← holding [v] (eval b X.env)
   let iv ← holding [v,ov] (eval c X.env)
   standAt tpos
   holding [v,ov,iv] (setItem ov iv v)
   release [v,ov,iv] [])) Au.h4._auto_1):SS X E (.Assign [.Subscript b c tpos] a pos) (sPut f ma mb mc):=⟨
 ps_weak (ps_asg ha.out (pg_sub ho.out hi.out hf hz) hs hw h1) fun D s H zq=>ex6 zq fun w r S hr hS hp=>⟨w,r,S,hr,hS,hp.bind hS fun d S1 w1 H1 v x1 q1 s1 p1=>
  ⟨w1,r,S1,hr.ext x1,s1,p1.bind s1 fun e S2 w2 H2 u x2 q2 s2 p2=>⟨w2,r,S2,(hr.ext x1).ext x2,s2,p2.bind s2 fun t S3 w3 H3 y x3 q3 s3 p3=>by
   cases hf:f S3 e t d with
   | none=>rw [hf] at p3; exact p3.elim
   | some S4=>
    rw [hf] at p3
    exact ⟨w3,S3,e,t,d,S4,s3,RD.ext x3 _ _ q2,q3,RD.ext x3 _ _ (RD.ext x2 _ _ q1),hf,fun w' H' x4 s4=>Post.at (b:=FV.nx s) p3 x4 ⟨s,rfl,(((hr.ext x1).ext x2).ext x3).ext x4⟩ s4⟩⟩⟩⟩⟩
noncomputable def RI (K:PySem.W.Frag) (w:Wd) (H:Hp) (ds:List D) (J:It):Prop:=∀ (i:Nat) (w':Wd) (H':Hp),Ext w H w' H'→
 (i < ds.length→J.go i H'∧∀ x H'',J.yld i H' x H''→(H''=H' ∨ ∃ p o,H' p=none∧H''=upd H' p o)∧∀ S,RS K w' H' S→∃ d,ds[i]?=some d∧RD K w' H'' d x)∧(ds.length≤i→J.stop i H')
noncomputable def uI (K:PySem.W.Frag) (E:XK) (m:AM):TI:=fun s H Q=>∃ w r S,RSt K w H r s∧RS K w H S∧Post K E (RI K) w H (m r S) Q
noncomputable abbrev SIb (qb:Bool) (X:Cx) (E:XK) (tg iter:Expr) (m:AM):Prop:=Bx (PIb qb X tg iter (uI X.K E m))
noncomputable abbrev SI (X:Cx) (E:XK) (tg iter:Expr) (m:AM):Prop:=Bx (PI X tg iter (uI X.K E m))
theorem grown_ok {K:PySem.W.Frag} {w:Wd} {H H':Hp} {S:Sto} (h:H'=H ∨ ∃ p o,H p=none∧H'=upd H p o) (s:RS K w H S):Ext w H w H'∧RS K w H' S:=by
 rcases h with rfl | ⟨p,o,hp,rfl⟩
 ·exact ⟨Ext.refl _ _,s⟩
 ·exact ⟨Ext.new hp,s.new hp⟩
theorem ss_for {tg iter:Expr} {body:List Stmt} {it:AM} {g:G} {m:SM} (hp:PassesOwn (model X.prog X.w) X.A X.env X.xe) (hc:X.calm=true) (hi:SI X E tg iter it) (hg:SG X tg g) (hb:SSs X E body m)
  (hs:autoParam (∀ x,foldedSetIterable iter X.env x=pure x) Au.h4._auto_1):SS X E (.For tg iter body [] pos) (sFor it g m):=⟨
 ps_weak (ps_for hp hc hi.out hg.out hb.out hs) fun D s H zq=>ex6 zq fun w r S hr hS hp=>⟨w,r,S,hr,hS,hp.bind hS fun ds S1 w1 H1 J x1 q1 s1 p1=>by
  refine ⟨fun i n s' H'=>n=ds.length - i∧i≤ds.length∧∃ w' r' S',Ext w1 H1 w' H'∧RSt X.K w' H' r' s'∧RS X.K w' H' S'∧Post X.K E (RF X.K) w' H' (forL g m (ds.drop i) r' S') (FV.to D),
   ⟨ds.length,by simp,Nat.zero_le _,w1,r,S1,Ext.refl _ _,hr.ext x1,s1,p1⟩,?_⟩
  rintro i n s2 H2 ⟨rfl,hi.out,w2,r2,S2,x2,hr2,hS2,hp2⟩
  by_cases hlt:i < ds.length
  ·obtain ⟨go,yld⟩:=(q1 i w2 H2 x2).1 hlt
   refine .inr ⟨go,fun s' H'=>∃ w' r' S',Ext w1 H1 w' H'∧RSt X.K w' H' r' s'∧RS X.K w' H' S'∧Post X.K E (RF X.K) w' H' (forL g m (ds.drop (i + 1)) r' S') (FV.to D),
    fun s' H' hN=>⟨ds.length - (i + 1),by omega,rfl,hlt,hN⟩,fun x H3 hy=>?_⟩
   obtain ⟨gr,rd⟩:=yld x H3 hy
   obtain ⟨d,ed,qd⟩:=rd S2 hS2
   obtain ⟨x3,s3⟩:=grown_ok gr hS2
   have x13:Ext w1 H1 w2 H3:=x2.trans' x3 s1 hS2
   have hdrop:ds.drop i=d :: ds.drop (i + 1):=by
    rw [List.drop_eq_getElem_cons hlt]
    rw [List.getElem?_eq_getElem hlt] at ed
    cases ed; rfl
   rw [hdrop] at hp2
   have hp3:=Post.ext hp2 x3 hS2 s3
   unfold forL at hp3
   cases e:g.put d r2 with
   | none=>rw [e] at hp3; exact hp3.elim
   | some r3=>
    rw [e] at hp3
    refine ⟨w2,r2,d,r3,hr2.ext x3,qd,e,fun s4 hr4=>⟨w2,r3,S2,hr4,s3,?_⟩⟩
    refine Post.bind (rel:=RF X.K) hp3 s3 fun f S5 w5 H5 fv x5 q5 s5 p5=>?_
    cases f with
    | nx r6=>obtain ⟨s6,rfl,q6⟩:=q5; exact ⟨w5,r6,S5,x13.trans' x5 s1 s3,q6,s5,p5⟩
    | ct r6=>obtain ⟨s6,rfl,q6⟩:=q5; exact ⟨w5,r6,S5,x13.trans' x5 s1 s3,q6,s5,p5⟩
    | bk r6=>obtain ⟨s6,rfl,q6⟩:=q5; have z:=Post.ret (Q:=FV.to D) (rel:=RF X.K) (a:=F.nx r6) (b:=FV.nx s6) p5 ⟨s6,rfl,q6⟩ s5; exact z
    | rt d6=>obtain ⟨v6,rfl,q6⟩:=q5; have z:=Post.ret (Q:=FV.to D) (rel:=RF X.K) (a:=F.rt d6) (b:=FV.rt v6) p5 ⟨v6,rfl,q6⟩ s5; exact z
  ·have e:i=ds.length:=by omega
   subst e
   rw [List.drop_length] at hp2
   exact .inl ⟨(q1 _ w2 H2 x2).2 (Nat.le_refl _),Post.ret (b:=FV.nx s2) hp2 ⟨s2,rfl,hr2⟩ hS2⟩⟩⟩
noncomputable def aSeq (m:EM) (f:Sto→D→Option (List D)):AM:=fun r S=>(m r S).bind fun d S1=>R.of S1 (f S1 d)
noncomputable def itTup:Sto→D→Option (List D)
 | _,.tup ds=>some ds
 | _,_=>none
noncomputable def itLst:Sto→D→Option (List D)
 | _,.lst ds=>some ds
 | _,.fz ds=>some ds
 | _,_=>none
noncomputable def aRange1 (t:AM):AM:=fun r S=>(t r S).bind fun xs S1=>match xs with
 | [.int n]=>if n < 2 ^ 62∧-(2 ^ 62)≤n then .ok ((List.range n.toNat).map fun (i:Nat)=>D.int i) S1 else .bad
 | _=>.bad
theorem pi_weak {qb:Bool} {X:Cx} {tg e:Expr} {t t':TI} (h:PIb qb X tg e t) (k:∀ s H Q,t' s H Q→t s H Q):PIb qb X tg e t':=fun pins s σ H Q I q=>h pins s σ H Q I (k σ H Q q)
theorem si_tup {tg:Expr} (ha:SE X E a ma):SI X E tg a (aSeq ma itTup):=⟨
 pi_weak (pi_tup ha.out) fun s H Q zq=>ex6 zq fun w r S hr hS hp=>⟨w,r,S,hr,hS,hp.bind hS fun d S1 w1 H1 v x1 q1 s1 p1=>by
  cases d with
  | tup ds=>
   unfold RD at q1
   obtain ⟨p,vs,rfl,h1,q⟩:=q1
   refine ⟨p,rfl,⟨vs,SqT_of h1⟩,Post.ret p1 ?_ s1⟩
   intro i w' H' x'
   have h1':At w' H' p (.tup vs) ∨ KTup X.K p vs:=h1.imp x'.at id
   have q':=RDs.ext x' _ _ q
   refine ⟨fun hi=>⟨⟨vs,vs[i]'(by rw [q.length]; exact hi),SqT_of h1',List.getElem?_eq_getElem _⟩,fun x H'' y=>?_⟩,fun hi=>⟨vs,SqT_of h1',by rw [q.length]; exact hi⟩⟩
   obtain ⟨rfl,y⟩:=y
   refine ⟨.inl rfl,fun S _=>⟨ds[i],List.getElem?_eq_getElem hi,?_⟩⟩
   obtain ⟨v,e,rv⟩:=q'.get (List.getElem?_eq_getElem hi)
   rw [y vs (SqT_of h1')] at e
   cases e
   exact rv
  | _=>exact p1.elim⟩⟩
theorem si_lst {tg:Expr} (ha:SE X E a ma):SI X E tg a (aSeq ma itLst):=⟨
 pi_weak (pi_list ha.out) fun s H Q zq=>ex6 zq fun w r S hr hS hp=>⟨w,r,S,hr,hS,hp.bind hS fun d S1 w1 H1 v x1 q1 s1 p1=>by
  have main:∀ (ds:List D) (p:Addr) (vs:List V),RDs X.K w1 H1 ds vs→(∀ w' H',Ext w1 H1 w' H'→SqL X.K H' p vs)→RI X.K w1 H1 ds (Itl X.K p):=by
   intro ds p vs q sq i w' H' x'
   have q':=RDs.ext x' _ _ q
   refine ⟨fun hi=>⟨⟨vs,vs[i]'(by rw [q.length]; exact hi),sq _ _ x',List.getElem?_eq_getElem _⟩,fun x H'' y=>?_⟩,fun hi=>⟨vs,sq _ _ x',by rw [q.length]; exact hi⟩⟩
   obtain ⟨rfl,y⟩:=y
   refine ⟨.inl rfl,fun S _=>⟨ds[i],List.getElem?_eq_getElem hi,?_⟩⟩
   obtain ⟨v,e,rv⟩:=q'.get (List.getElem?_eq_getElem hi)
   rw [y vs (sq _ _ x')] at e
   cases e
   exact rv
  cases d with
  | lst ds=>
   unfold RD at q1
   obtain ⟨p,vs,rfl,h1,q⟩:=q1
   exact ⟨p,rfl,⟨vs,SqL.of h1.1⟩,Post.ret p1 (main ds p vs q fun w' H' x'=>SqL.of (x'.at h1).1) s1⟩
  | fz ds=>
   unfold RD at q1
   obtain ⟨p,vs,rfl,h1,q⟩:=q1
   exact ⟨p,rfl,⟨vs,h1.sq⟩,Post.ret p1 (main ds p vs q fun w' H' x'=>FzAt.sq (w:=w') (h1.imp (fun ⟨o,z⟩=>⟨o,x'.at z⟩) id)) s1⟩
  | _=>exact p1.elim⟩⟩
noncomputable def itSeq:Sto→D→Option (List D)
 | _,.tup ds=>some ds
 | _,.lst ds=>some ds
 | _,.fz ds=>some ds
 | _,_=>none
theorem pi_or {tg e:Expr} {t u:TI} (h1:PI X tg e t) (h2:PI X tg e u):PI X tg e (fun s H Q=>t s H Q ∨ u s H Q):=fun pins s σ H Q I q=>q.elim (h1 pins s σ H Q I) (h2 pins s σ H Q I)
theorem si_seq {tg:Expr} (ha:SE X E a ma):SI X E tg a (aSeq ma itSeq):=⟨
 pi_weak (pi_or (si_tup ha).out (si_lst ha).out) fun s H Q zq=>ex6 zq fun w r S hr hS hp=>by
  unfold aSeq at hp
  cases e:ma r S with
  | bad=>rw [e] at hp; exact hp.elim
  | err y S'=>rw [e] at hp; exact .inl ⟨w,r,S,hr,hS,by unfold aSeq; rw [e]; exact hp⟩
  | ok d S'=>
   rw [e] at hp
   cases d with
   | tup ds=>exact .inl ⟨w,r,S,hr,hS,by unfold aSeq; rw [e]; exact hp⟩
   | lst ds=>exact .inr ⟨w,r,S,hr,hS,by unfold aSeq; rw [e]; exact hp⟩
   | fz ds=>exact .inr ⟨w,r,S,hr,hS,by unfold aSeq; rw [e]; exact hp⟩
   | _=>exact hp.elim⟩
theorem si_range1 {qb:Bool} {tg:Expr} {ms:AM} {p:Pos} (hg:Gl X "range") (hm:X.mg "range" = none) (ha:SA X E [a] ms) (hs:autoParam (starEach [a] X.env=[(false,eval a X.env)]) Au.h0._auto_1):SIb qb X E tg (.Call (.Name "range" p) [a] [] pos) (aRange1 ms):=⟨
 pi_weak (pi_range1 hg hm ha.out hs) fun s H Q zq=>ex6 zq fun w r S hr hS hp=>⟨w,r,S,hr,hS,hp.bind hS fun ds S1 w1 H1 vs x1 q1 s1 p1=>by
  rcases ds with _ | ⟨d,_ | ⟨d',ds⟩⟩
  ·exact p1.elim
  ·cases d with
   | int n=>
    obtain ⟨v,rfl,q2⟩:=q1.one_inv
    unfold RD at q2
    subst q2
    by_cases hn:n < 2 ^ 62∧-(2 ^ 62)≤n
    ·have p2:Post X.K E (RI X.K) w1 H1 (if n < 2 ^ 62∧-(2 ^ 62)≤n then R.ok ((List.range n.toNat).map fun (i:Nat)=>D.int i) S1 else R.bad) Q:=p1
     rw [if_pos hn] at p2
     refine ⟨n,rfl,hn.2,hn.1,Post.ret p2 ?_ s1⟩
     intro i w' H' x'
     refine ⟨fun hi=>⟨show i < n.toNat by simpa using hi,fun x H'' y=>?_⟩,fun hi=>show n.toNat≤i by simpa using hi⟩
     obtain ⟨rfl,rfl⟩:=y
     refine ⟨.inl rfl,fun S _=>⟨.int i,?_,?_⟩⟩
     ·have:i < n.toNat:=by simpa using hi
      simp [this]
     ·unfold RD; simp
    ·have p2:Post X.K E (RI X.K) w1 H1 (if n < 2 ^ 62∧-(2 ^ 62)≤n then R.ok ((List.range n.toNat).map fun (i:Nat)=>D.int i) S1 else R.bad) Q:=p1
     rw [if_neg hn] at p2
     exact p2.elim
   | _=>exact p1.elim
  ·cases d <;> exact p1.elim⟩⟩
end
section
variable {P:Program} {w:World} {K:PySem.W.Frag} {mg:Str→Option Value} {base:Heap}
theorem start_rel {K:PySem.W.Frag} {w:Wd} {H:Hp} {N:List Str} {ds:List D} {vs:List V} (q:RDs K w H ds vs):RSt K w H (ds.map some ++ List.replicate (N.length - ds.length) none) (L2.start N vs):=by
 unfold L2.start
 refine ⟨by simp [q.length],fun i d e=>?_⟩
 by_cases hi:i < ds.length
 ·rw [List.getElem?_append_left (by simpa using hi),List.getElem?_map] at e
  rw [List.getElem?_append_left (by rw [List.length_map,q.length]; exact hi),List.getElem?_map]
  cases e1:ds[i]? with
  | none=>rw [e1] at e; cases e
  | some d'=>
   rw [e1] at e; cases e
   obtain ⟨v,ev,rv⟩:=q.get e1
   exact ⟨v,by rw [ev]; rfl,rv⟩
 ·rw [List.getElem?_append_right (by simpa using hi),List.getElem?_replicate] at e
  split at e <;> cases e
end
end PD
namespace PD
open PySem PySem.Spec PyProof.Rows L2
section
variable {prog:Program} {w:World} {A:Around} {R:Result→Shared→Prop} {s:Shared}
theorem compLoop_all {elt target iter:Expr} {ifs:List Expr} {scope:Scope} {pos:Pos} {it acc:Value} {env:Env} (I:Nat→Shared→Prop)
  (turn:∀ n s,I n s→wpAny (model prog w) A (pyNext it) (fun r s1=>match r with
   | none=>R (.ok .next) s1
   | some v=>wpAny (model prog w) A (letOwnedTupleGo target it v) (fun _ s1'=>wpAny (model prog w) A (assign target env v) (fun _ s2=>
     wpAny (model prog w) A (forIn ifs true fun c r=>if r=true then do let ok ← isTrue c env (eval c env); pure (ForInStep.yield ok) else pure (ForInStep.yield r)) (fun ok s3=>
      if ok=true then wpAny (model prog w) A (eval elt env) (fun x s4=>
       wpAny (model prog w) A (call (.builtin "list.append") [acc,x]) (fun _ s5=>∃ m,m < n∧I m s5) (fun _ _=>False) s4) (fun _ _=>False) s3
      else ∃ m,m < n∧I m s3) (fun _ _=>False) s2) (fun _ _=>False) s1') (fun _ _=>False) s1) (fun _ _=>False) s)
  (n:Nat) (h:I n s):
  codeAny (model prog w) A (.compLoop (.ListComp elt [⟨target,iter,ifs,0⟩] scope pos) 0 it acc env) R s:=by
 refine codeAny_loop rfl I (fun n s hI=>?_) n h
 show wpAny _ A ((compTurn (.ListComp elt [⟨target,iter,ifs,0⟩] scope pos) 0 it acc env).onRaise (fun x=>do noteFrame x env; theTreesLotGoes x)) _ _ s
 refine wpAny_noted ?_
 rw [compTurn_list]
 refine wpAny_bind (wpAny_standAt (wpAny_bind (wpAny_mono (turn n s hI) (fun r s1 h1=>?_) fun _ _ h'=>h'.elim)))
 cases r with
 | none=>exact wpAny_pure h1
 | some v=>
  refine wpAny_bind (wpAny_mono h1 (fun _ s1' h1'=>?_) fun _ _ h'=>h'.elim)
  refine wpAny_bind (wpAny_mono h1' (fun _ s2 h2=>wpAny_bind (wpAny_mono h2 (fun ok s3 h3=>?_) fun _ _ h'=>h'.elim)) fun _ _ h'=>h'.elim)
  cases ok with
  | false=>exact wpAny_pure ⟨rfl,h3⟩
  | true=>
   exact wpAny_bind (wpAny_bind (wpAny_mono h3 (fun x s4 h4=>wpAny_bind (wpAny_mono h4 (fun _ s5 h5=>wpAny_pure (wpAny_pure ⟨rfl,h5⟩)) fun _ _ h'=>h'.elim)) fun _ _ h'=>h'.elim))
end
noncomputable def PIfs (X:Cx) (ifs:List Expr) (t:TT):Prop:=
 ∀ (pins:List (Addr × Obj)) (s:Shared) (σ:L2.St) (H:Hp) (Q:Bool→Hp→Prop),Inv X pins σ H s→t σ H Q→
  wpAny (model X.prog X.w) X.A (forIn ifs true fun c r=>if r=true then do let ok ← isTrue c X.env (eval c X.env); pure (ForInStep.yield ok) else pure (ForInStep.yield r)) (TP X pins σ Q) X.xe s
theorem pifs_nil {X:Cx}:PIfs X [] (fun _ H Q=>Q true H):=fun pins s σ H Q I h=>wpAny_tests_nil ⟨H,I,h⟩
theorem pifs_one {X:Cx} {c:Expr} {t:TT} (h:PT X c t):PIfs X [c] t:=fun pins s σ H Q I q=>wpAny_tests_one (h pins s σ H Q I q)
noncomputable def cxC (X:Cx) (N:List Str) (scope:Scope) (cl:List (Str × Addr)) (s0:Shared) (H0:Hp) (ex:List Addr):Cx:=
 { X with N:=N,s₀:=s0,H₀:=H0,env:=compEnvC scope cl s0.heap.objs.size X.env,outer:=X.stack,ex:=ex,fn:=fun _=>false }
noncomputable def capSt (k:Nat) (caps:List Nat) (s:L2.St):L2.St:=List.replicate k none ++ caps.map fun i=>(s[i]?).join
structure CompScope (X:Cx) (N:List Str) (k:Nat) (caps:List Nat) (scope:Scope):Prop where
 kind:scope.kind=.function
 nocell:∀ x ∈ scope.names,x.2 ≠ .cell
 names:∀ x ∈ scope.names,x.2=.local→scope.names.lookup x.1=some .local
 free:∀ x ∈ scope.names,x.2=.free→X.env.kindOf x.1=some .cell ∨ X.env.kindOf x.1=some .free
 len:N.length=k + caps.length
 cap:∀ t i,caps[t]?=some i→∃ x,X.N[i]?=some x∧N[k + t]?=some x∧scope.names.lookup x=some .free
theorem mem_of_lookup' {A B:Type} [BEq A] [LawfulBEq A]:∀ {l:List (A × B)} {x:A} {b:B},l.lookup x=some b→(x,b) ∈ l
 | [],_,_,h=>by simp at h
 | (y,c) :: r,x,b,h=>by
  rw [List.lookup_cons] at h
  cases e:x == y with
  | true=>
   rw [e] at h
   have:=eq_of_beq e
   subst this
   cases h
   exact List.mem_cons_self
  | false=>
   rw [e] at h
   exact List.mem_cons_of_mem _ (mem_of_lookup' h)
theorem closure_ok {env:Env}:∀ (names:List (Str × NameKind)) (cs:List (Str × Addr)),(∀ x ∈ names,x.2=.free→∃ c,env.cells.lookup x.1=some c)→
  ∃ cl,(forIn names cs fun (x:Str × NameKind) (r:List (Str × Addr))=>(if x.2 == NameKind.free then do let a ← cellOf env x.1; pure (ForInStep.yield ((x.1,a) :: r)) else pure (ForInStep.yield r):Sem (ForInStep (List (Str × Addr)))))=pure cl∧
   (∀ p ∈ cl,p ∈ cs ∨ env.cells.lookup p.1=some p.2)∧(∀ p ∈ cs,p ∈ cl)∧∀ x ∈ names,x.2=.free→∃ c,(x.1,c) ∈ cl
 | [],cs,_=>⟨cs,rfl,fun p h=>.inl h,fun p h=>h,fun x h=>nomatch h⟩
 | (n,k) :: r,cs,h=>by
  by_cases hk:k=.free
  ·subst hk
   obtain ⟨c,hc⟩:=h (n,.free) List.mem_cons_self rfl
   obtain ⟨cl,e,h1,h2,h3⟩:=closure_ok r ((n,c) :: cs) fun x hx=>h x (List.mem_cons_of_mem _ hx)
   refine ⟨cl,?_,fun p hp=>?_,fun p hp=>h2 p (List.mem_cons_of_mem _ hp),fun x hx hf=>?_⟩
   ·rw [List.forIn_cons]
    have hco:cellOf env n=pure c:=by unfold cellOf; rw [hc]
    simp only [beq_self_eq_true,if_true,hco,pure_bind]
    exact e
   ·rcases h1 p hp with z | z
    ·rcases List.mem_cons.mp z with z | z
     ·subst z; exact .inr hc
     ·exact .inl z
    ·exact .inr z
   ·rcases List.mem_cons.mp hx with z | z
    ·subst z; exact ⟨c,h2 _ List.mem_cons_self⟩
    ·exact h3 x z hf
  ·obtain ⟨cl,e,h1,h2,h3⟩:=closure_ok r cs fun x hx=>h x (List.mem_cons_of_mem _ hx)
   have hb:(k == NameKind.free)=false:=by simpa using hk
   refine ⟨cl,?_,h1,h2,fun x hx hf=>?_⟩
   ·rw [List.forIn_cons]
    simp only [hb,Bool.false_eq_true,if_false,pure_bind]
    exact e
   ·rcases List.mem_cons.mp hx with z | z
    ·subst z; exact absurd hf hk
    ·exact h3 x z hf
theorem closure_for {scope:Scope} {env:Env} (h:∀ x ∈ scope.names,x.2=.free→∃ c,env.cells.lookup x.1=some c):
  ∃ cl,closureFor scope env=pure cl∧(∀ x c,cl.lookup x=some c→env.cells.lookup x=some c)∧∀ x ∈ scope.names,x.2=.free→∃ c,cl.lookup x.1=some c:=by
 obtain ⟨cl,e,h1,h2,h3⟩:=closure_ok (env:=env) scope.names [] h
 refine ⟨cl,?_,fun x c hx=>?_,fun x hx hf=>?_⟩
 ·unfold closureFor
  show ((forIn scope.names [] fun (x:Str × NameKind) (r:List (Str × Addr))=>(if x.2 == NameKind.free then do let a ← cellOf env x.1; pure (ForInStep.yield ((x.1,a) :: r)) else pure (ForInStep.yield r):Sem (ForInStep (List (Str × Addr))))) >>= fun l=>pure l)=pure cl
  rw [e,pure_bind]
 ·rcases h1 _ (mem_of_lookup' hx) with z | z
  ·exact nomatch z
  ·exact z
 ·obtain ⟨c,hc⟩:=h3 x hx hf
  cases e2:cl.lookup x.1 with
  | some c'=>exact ⟨c',rfl⟩
  | none=>
   rw [List.lookup_eq_none_iff] at e2
   have:=e2 _ hc
   simp at this
theorem relabel_mem {scope:Scope} {env:Env} {x:Str} {k:NameKind} (h:(relabel scope env).names.lookup x=some k):(x,k) ∈ scope.names ∨ (k=.cell∧(x,NameKind.free) ∈ scope.names):=by
 have m:=mem_of_lookup' h
 obtain ⟨⟨n,j⟩,hn,e⟩:=List.mem_map.mp m
 dsimp only at e
 split at e
 ·rename_i hc
  cases e
  have:j=NameKind.free:=by
   have:=(Bool.and_eq_true _ _ |>.mp (Bool.and_eq_true _ _ |>.mp hc).1).1
   simpa using this
  subst this
  exact .inr ⟨rfl,hn⟩
 ·cases e
  exact .inl hn
theorem relabel_free {scope:Scope} {env:Env} {x:Str}:∀ {names:List (Str × NameKind)},names.lookup x=some .free→
  ((names.map fun (n,k)=>if (k == NameKind.free && env.scope.kind == .function && env.kindOf n == some .cell) then (n,NameKind.cell) else (n,k)).lookup x=some .cell) ∨
  ((names.map fun (n,k)=>if (k == NameKind.free && env.scope.kind == .function && env.kindOf n == some .cell) then (n,NameKind.cell) else (n,k)).lookup x=some .free)
 | [],h=>by simp at h
 | (n,k) :: r,h=>by
  have ih:=@relabel_free scope env x r
  simp only [List.map_cons]
  cases hx:x == n with
  | true=>
   simp only [List.lookup_cons,hx] at h
   cases h
   by_cases hc:(NameKind.free == NameKind.free && env.scope.kind == .function && env.kindOf n == some .cell)=true
   ·left; rw [if_pos hc]; simp [List.lookup_cons,hx]
   ·right; rw [if_neg hc]; simp [List.lookup_cons,hx]
  | false=>
   simp only [List.lookup_cons,hx] at h
   by_cases hc:(k == NameKind.free && env.scope.kind == .function && env.kindOf n == some .cell)=true
   ·rw [if_pos hc]; simp only [List.lookup_cons,hx]; exact ih h
   ·rw [if_neg hc]; simp only [List.lookup_cons,hx]; exact ih h
section
variable {X:Cx} {pins:List (Addr × Obj)} {σ:L2.St} {H:Hp} {s:Shared}
theorem comp_start {N:List Str} {k:Nat} {caps:List Nat} {scope:Scope} {cl:List (Str × Addr)} {fp:List Addr} {h':Heap} {m:Str→Option Value} {t:Nat} (I:Inv X pins σ H s) (C:CompScope X N k caps scope)
  (hcl:∀ x c,cl.lookup x=some c→X.env.cells.lookup x=some c) (hcf:∀ x ∈ scope.names,x.2=.free→∃ c,cl.lookup x.1=some c)
  (hfp:∀ b ∈ fp,FpOk X pins H b∧b < s.heap.objs.size) (hn:h'.Ns s.heap.objs.size m) (hk:∀ b o,s.heap.get? b=some o→h'.get? b=some o):
  Inv (cxC X N scope cl s H fp) pins (capSt k caps σ) H { s with heap:=h',toks:=t }:=by
 have hfs:∀ b,b ∈ frs X.stack→b < s.heap.objs.size:=fun b hb=>by
  obtain ⟨_,o,ho,_⟩:=I.stack.mem hb
  exact Heap.lt_size ho
 refine ⟨⟨I.ok.mod,C.kind,I.ok.glob,I.ok.blt,Nat.le_refl _,fun x y c h1 h2=>I.ok.inj x y c (hcl x c h1) (hcl y c h2),fun x hx=>?_,(fun x c h=>nomatch h),I.ok.hd,I.ok.frames,.inl rfl,fun b hb=>?_,fun b o e=>?_,?_,fun b o e hb=>?_,fun b hb=>?_,I.stack,fun b hb=>I.stkFree b hb⟩,
  rfl,I.bare,Un.kept hk,?_,fun x c e=>?_,I.hok.fresh (Nat.le_refl _),fun x c e=>I.freeC x c (hcl x c e),fun p hp=>?_,I.hok.kept hk,?_⟩
 ·-- has
  have key:∀ kk,(kk=NameKind.cell ∨ kk=NameKind.free)→(relabel scope X.env).names.lookup x=some kk→∃ c,cl.lookup x=some c:=fun kk hkk hl=>by
   rcases relabel_mem hl with z | ⟨_,z⟩
   ·rcases hkk with q | q
    ·subst q; exact absurd rfl (C.nocell _ z)
    ·subst q; exact hcf _ z rfl
   ·exact hcf _ z rfl
  rcases hx with z | z
  ·exact key _ (.inl rfl) z
  ·exact key _ (.inr rfl) z
 ·obtain ⟨f,lt⟩:=hfp b hb
  exact ⟨Nat.ne_of_lt lt,fun x c e=>f.2.2.2.2.1 x c (hcl x c e)⟩
 ·exact I.bs b o e
 ·exact Nat.le_trans I.ok.bsz I.sz
 ·obtain ⟨f,lt⟩:=hfp b hb
  rcases f.2.2.2.1 with z | z
  ·exact I.ok.noex b o e z
  ·exact absurd (Nat.lt_of_lt_of_le (Heap.lt_size e) (Nat.le_trans I.ok.bsz z)) (Nat.lt_irrefl _)
 ·obtain ⟨f,lt⟩:=hfp b hb
  intro z
  rcases List.mem_cons.mp (I.stkSub b z) with q | q
  ·exact f.2.1 q
  ·exact f.2.2.1 q
 ·obtain ⟨m0,hn0,hl0⟩:=I.loc
  refine ⟨m,hn,fun i x v e1 e2 e3=>?_⟩
  unfold capSt at e2
  by_cases hi:i < k
  ·rw [List.getElem?_append_left (by simpa using hi),List.getElem?_replicate] at e2
   split at e2 <;> cases e2
  ·rw [List.getElem?_append_right (by simpa using hi),List.getElem?_map,List.length_replicate] at e2
   cases ec:caps[i - k]? with
   | none=>rw [ec] at e2; cases e2
   | some j=>
    rw [ec] at e2
    have e2':(σ[j]?).join=some v:=Option.some.inj e2
    obtain ⟨y,hy1,hy2,hy3⟩:=C.cap _ _ ec
    have e1':N[i]?=some x:=e1
    rw [show k + (i - k)=i by omega] at hy2
    rw [hy2] at e1'
    have exy:y=x:=Option.some.inj e1'
    subst exy
    have hfr:(y,NameKind.free) ∈ scope.names:=mem_of_lookup' hy3
    have hsj:σ[j]?=some (some v):=by
     cases q:σ[j]? with
     | none=>rw [q] at e2'; cases e2'
     | some o=>rw [q] at e2'; rw [show o=some v from e2']
    have kinds:=C.free _ hfr rfl
    have hvis:Vis X.env.scope y:=by
     rcases kinds with z | z
     ·exact .inr (.inl z)
     ·exact .inr (.inr z)
    obtain ⟨u,ru,lk⟩:=hl0 j y v hy1 hsj hvis
    refine ⟨u,ru,?_⟩
    rcases lk with ⟨z,_⟩ | ⟨_,c,hc,hcell⟩
    ·rcases kinds with q | q <;> (rw [q] at z; cases z)
    ·obtain ⟨c',hc'⟩:=hcf _ hfr rfl
     have:=hcl _ _ hc'
     rw [hc] at this
     cases this
     refine .inr ⟨?_,c,hc',hcell.keeps hk⟩
     exact relabel_free (scope:=scope) (env:=X.env) hy3
 ·obtain ⟨v,z⟩:=I.cell x c (hcl x c e)
  exact ⟨v,z.keeps hk⟩
 ·obtain ⟨e,n,ne,nf,d⟩:=I.pin p hp
  refine ⟨hk _ _ e,n,Nat.ne_of_lt (Heap.lt_size e),fun z=>?_,d⟩
  rcases List.mem_cons.mp (I.stkSub _ z) with q | q
  ·exact ne q
  ·exact nf q
 ·unfold capSt
  show _=N.length
  rw [C.len]
  simp
end
noncomputable def tComp (wi:TI) (k:Nat) (caps:List Nat) (g:TG) (tt:TT) (te:TE):TE:=fun σ H Q=>wi σ H fun J H1=>∀ p,H1 p=none→∃ W:Nat→Nat→L2.St→Hp→Prop,(∃ m,W 0 m (capSt k caps σ) (upd H1 p (.lst [])))∧∀ i m σ' H',W i m σ' H'→
 (J.stop i H'∧Q (.ref p) H') ∨ (J.go i H'∧∃ N:L2.St→Hp→Prop,(∀ σ2 H2,N σ2 H2→∃ m',m' < m∧W (i + 1) m' σ2 H2)∧
  ∀ x H3,J.yld i H' x H3→g x σ' H3 fun σ4 H4=>tt σ4 H4 fun b H5=>if b=true then te σ4 H5 fun y H6=>∃ ys,H6 p=some (.lst ys)∧ys.length < sizeLine∧N σ4 (upd H6 p (.lst (ys ++ [y]))) else N σ4 H5)
theorem pe_compQ {qb:Bool} {X:Cx} {elt tg iter:Expr} {ifs:List Expr} {scope:Scope} {pos:Pos} {N:List Str} {k:Nat} {caps:List Nat} {wi:TI} {g:TG} {tt:TT} {te:TE} (hX:Cd qb X) (hxe:∀ e s,¬ X.xe e s) (C:CompScope X N k caps scope)
  (hi:PIb qb X tg iter wi) (hg:∀ cl s0 H0 ex,Cd qb (cxC X N scope cl s0 H0 ex)→PG (cxC X N scope cl s0 H0 ex) tg g) (ht:∀ cl s0 H0 ex,Cd qb (cxC X N scope cl s0 H0 ex)→PIfs (cxC X N scope cl s0 H0 ex) ifs tt) (he:∀ cl s0 H0 ex,Cd qb (cxC X N scope cl s0 H0 ex)→PE (cxC X N scope cl s0 H0 ex) elt te)
  (hs:autoParam (∀ x,foldedSetIterable iter X.env x=pure x) Au.h4._auto_1):PE X (.ListComp elt [⟨tg,iter,ifs,0⟩] scope pos) (tComp wi k caps g tt te):=by
 intro pins s σ H Q I h
 have noX:∀ {α:Type} {t:Sem α} {Q':α→Shared→Prop} {s':Shared},wpAny (model X.prog X.w) X.A t Q' X.xe s'→wpAny (model X.prog X.w) X.A t Q' (fun _ _=>False) s':=fun h=>wpAny_mono h (fun _ _ x=>x) fun e s z=>hxe e s z
 obtain ⟨cl,hclos,hcl,hcf⟩:=closure_for (scope:=scope) (env:=X.env) fun x hx hf=>I.ok.has _ (C.free x hx hf)
 rw [eval_ListComp]
 refine wpAny_comprehension_free (use:=none) (cl:=cl) rfl hs hclos C.kind C.names ?_
 refine thn (hi pins s σ H _ I h) fun v s1 h1=>thn h1 fun itv s2 h2=>?_
 obtain ⟨it,fp,tn,J,H2,e,I2,T,st2,f2,q⟩:=h2
 subst e
 refine wpAny_newList (items:=[]) ?_ (by show 0≤sizeLine; exact Nat.zero_le _)
 have hp:H2 s2.heap.objs.size=none:=I2.hok.fresh (Nat.le_refl _)
 obtain ⟨W,⟨m0,w0⟩,turn⟩:=q _ hp
 have I3:Inv X pins σ (upd H2 s2.heap.objs.size (.lst [])) { s2 with heap:=s2.heap.push { cls:=.type "list",data:=.seq ([]:List Value).toArray } }:=
  I2.laid (t':=s2.toks) (fun b u e=>Heap.get?_push_of_some _ e) (Nat.le_refl _) ⟨Nat.zero_le _,[],0,.nil,Heap.get?_push_size _ rfl⟩
 refine wpAny_newFunctionEnv C.nocell (fun x hx=>nomatch hx) (fun h4 hn4 hs4=>?_) C.kind
 have ltfp:∀ b ∈ fp,b < s2.heap.objs.size:=fun b hb=>by
  obtain ⟨o,ho,_⟩:=T.obj _ _ st2 b hb
  exact Heap.lt_size ho
 have hk4:∀ b o,(s2.heap.push { cls:=.type "list",data:=.seq ([]:List Value).toArray }).get? b=some o→h4.get? b=some o:=fun b o e=>by
  have ne:b ≠ (s2.heap.push { cls:=.type "list",data:=.seq ([]:List Value).toArray }).objs.size:=Nat.ne_of_lt (Heap.lt_size e)
  rw [hs4.2 b ne]
  exact Heap.get?_push_of_some _ e
 have f3:∀ b ∈ fp,FpOk X pins (upd H2 s2.heap.objs.size (.lst [])) b:=fun b hb=>by
  obtain ⟨a1,a2⟩:=f2 b hb
  exact ⟨by rw [upd_ne (Nat.ne_of_lt (ltfp b hb))]; exact a1,a2⟩
 have I4:=comp_start (N:=N) (k:=k) (caps:=caps) (scope:=scope) (cl:=cl) (fp:=fp) (t:=s2.toks + 0) I3 C hcl hcf (fun b hb=>⟨f3 b hb,by rw [show ({ s2 with heap:=s2.heap.push { cls:=.type "list",data:=.seq ([]:List Value).toArray } }:Shared).heap.objs.size=s2.heap.objs.size + 1 from Heap.size_push ..]; exact Nat.lt_succ_of_lt (ltfp b hb)⟩) hn4 hk4
 have tn4:tn 0 h4:=T.keep _ _ _ st2 fun b hb o e=>hk4 b o (Heap.get?_push_of_some _ e)
 have loop:codeAny (model X.prog X.w) X.A (.compLoop (.ListComp elt [⟨tg,iter,ifs,0⟩] scope pos) 0 (.ref it) (.ref s2.heap.objs.size) (compEnvC scope cl ({ s2 with heap:=s2.heap.push { cls:=.type "list",data:=.seq ([]:List Value).toArray } }:Shared).heap.objs.size X.env))
   (compPost (model X.prog X.w) X.A X.xe none (EP X pins σ Q) (.ref s2.heap.objs.size) ({ s2 with heap:=s2.heap.push { cls:=.type "list",data:=.seq ([]:List Value).toArray } }:Shared).heap.objs.size) { s2 with heap:=h4,toks:=s2.toks + 0 }:=by
  generalize hs3:({ s2 with heap:=s2.heap.push { cls:=.type "list",data:=.seq ([]:List Value).toArray } }:Shared)=s3 at *
  have sz3:s2.heap.objs.size≤s3.heap.objs.size:=by rw [← hs3]; show _≤(s2.heap.push _).objs.size; rw [Heap.size_push]; exact Nat.le_succ _
  have k23:∀ b o,s2.heap.get? b=some o→s3.heap.get? b=some o:=fun b o e=>by rw [← hs3]; exact Heap.get?_push_of_some _ e
  have hos:s3.os=s2.os:=by rw [← hs3]
  have stat:∀ {H':Hp},(∀ b ∈ fp,H' b=none)→∀ b ∈ fp,FpOk (cxC X N scope cl s3 (upd H2 s2.heap.objs.size (.lst [])) fp) pins H' b:=fun {H'} hn b hb=>by
   obtain ⟨a1,a2,a3,a4,a5,a6⟩:=f3 b hb
   refine ⟨hn b hb,Nat.ne_of_lt (Nat.lt_of_lt_of_le (ltfp b hb) sz3),fun z=>?_,.inl hb,fun x c e=>a5 x c (hcl x c e),a6⟩
   rcases List.mem_cons.mp (I2.stkSub b z) with q | q
   ·exact a2 q
   ·exact a3 q
  have I4':Inv (cxC X N scope cl s3 (upd H2 s2.heap.objs.size (.lst [])) fp) pins (capSt k caps σ) (upd H2 s2.heap.objs.size (.lst [])) { s2 with heap:=h4,toks:=s2.toks + 0 }:=by subst hs3; exact I4
  have hX2:Cd qb (cxC X N scope cl s3 (upd H2 s2.heap.objs.size (.lst [])) fp):=by
   rcases hX with z | ⟨z,y | ⟨a,o,u,e1,e2,e3⟩⟩
   ·exact .inl z
   ·exact .inr ⟨z,.inl y⟩
   ·refine .inr ⟨z,.inr ⟨a,o,u,e1,?_,e3⟩⟩
    have q0:=I2.base.frzs a o u e2
    show upd H2 s2.heap.objs.size (.lst []) a=_
    rw [upd_ne (fun y=>by rw [y,hp] at q0; cases q0)]
    exact q0
  refine compLoop_all (fun n s'=>∃ i σ' H',Inv (cxC X N scope cl s3 (upd H2 s2.heap.objs.size (.lst [])) fp) pins σ' H' s'∧tn i s'.heap∧(∀ b ∈ fp,H' b=none)∧W i n σ' H') ?_ m0 ⟨0,_,_,I4',tn4,fun b hb=>(f3 b hb).1,w0⟩
  rintro n s5 ⟨i,σ5,H5,I5,st5,fr5,w5⟩
  rcases turn i n σ5 H5 w5 with ⟨stop,qn⟩ | ⟨go,Nn,hN,step⟩
  ·refine thn (T.done (cxC X N scope cl s3 (upd H2 s2.heap.objs.size (.lst [])) fp) rfl rfl rfl hX2 i pins s5 σ5 H5 _ I5 (stat fr5) st5 stop) fun r s6 zq=>?_
   obtain ⟨hr,I6⟩:=zq
   subst hr
   obtain ⟨m6,hn6,_⟩:=I6.loc
   refine ⟨m6,hn6,fun h7 hs7=>⟨.ref s2.heap.objs.size,H5,?_,rfl,qn⟩⟩
   have u1:Un (frs X.stack) fp H2 (upd H2 s2.heap.objs.size (.lst [])) s2.heap s3.heap:=Un.laid k23 (Nat.le_refl _) hp
   have u2:Un (frs X.stack) fp H2 H5 s2.heap s6.heap:=u1.trans I6.base
   have neC:∀ b o,s2.heap.get? b=some o→b ≠ s3.heap.objs.size:=fun b o e=>Nat.ne_of_lt (Nat.lt_of_lt_of_le (Heap.lt_size e) sz3)
   have hfree:H5 s3.heap.objs.size=none:=I6.free
   refine I2.call' (s':={ s6 with heap:=h7 }) (ch:=fp) (by rw [← hos]; exact I6.os) ⟨fun b o e n hb hx=>?_,fun b o e n hb hx=>?_,u2.free,fun b o e hx=>?_,u2.tups,u2.frzs,u2.tbls⟩ (fun b ob e=>?_) I6.bare fun b hb=>?_
   ·exact (hs7.2 b (neC b o e)).trans (u2.keep b o e n hb hx)
   ·obtain ⟨sl,e1⟩:=u2.slot b o e n hb hx
    exact ⟨sl,(hs7.2 b (neC b o e)).trans e1⟩
   ·obtain ⟨o',e1⟩:=u2.there b o e hx
    exact ⟨o',(hs7.2 b (neC b o e)).trans e1⟩
   ·refine (I6.hok b ob e).stay (fun c v hc z=>(hs7.2 c ?_).trans z) (fun _ z=>z) fun _ _ z=>z
    intro y
    rcases hc with z | z
    ·rw [← z,y,hfree] at e; cases e
    ·rw [y,hfree] at z; cases z
   ·obtain ⟨a1,a2,a3,a4,a5,a6⟩:=f2 b hb
    exact ⟨a4,a2,a5,a6⟩
  ·refine thn (T.item (cxC X N scope cl s3 (upd H2 s2.heap.objs.size (.lst [])) fp) rfl rfl rfl hX2 i pins s5 σ5 H5 _ I5 (stat fr5) st5 go) fun r s6 zq=>?_
   obtain ⟨u,hr,h6⟩:=zq
   subst hr
   refine thn h6 fun _ s7 zq=>?_
   obtain ⟨x,H7,I7,r7,y7,st7,fr7⟩:=zq
   have I7':=I7.pinned (stat fr7) (T.obj _ _ st7)
   refine noX (thn (hg cl s3 _ fp hX2 _ s7 σ5 H7 x u _ I7' r7 (step x H7 y7)) fun _ s8 zq=>?_)
   obtain ⟨σ8,H8,I8,q8⟩:=zq
   refine noX (thn (ht cl s3 _ fp hX2 _ s8 σ8 H8 _ I8 q8) fun ok s9 zq=>?_)
   obtain ⟨H9,I9,q9⟩:=zq
   have again:∀ {s':Shared} {σ':L2.St} {H':Hp},Inv (cxC X N scope cl s3 (upd H2 s2.heap.objs.size (.lst [])) fp) (pins ++ pinsAt fp s7.heap) σ' H' s'→Nn σ' H'→
     ∃ m,m < n∧∃ i σ' H',Inv (cxC X N scope cl s3 (upd H2 s2.heap.objs.size (.lst [])) fp) pins σ' H' s'∧tn i s'.heap∧(∀ b ∈ fp,H' b=none)∧W i m σ' H':=fun {s' σ' H'} I' n'=>by
    obtain ⟨m',hm,w'⟩:=hN σ' H' n'
    refine ⟨m',hm,i + 1,σ',H',I'.unpinned,T.keep _ _ _ st7 fun b hb o e=>(I'.pin (b,o) (List.mem_append_right _ (List.mem_append_right _ (mem_pinsAt hb e)))).1,fun b hb=>?_,w'⟩
    obtain ⟨o,e,d⟩:=T.obj _ _ st7 b hb
    exact (I'.pin (b,o) (List.mem_append_right _ (List.mem_append_right _ (mem_pinsAt hb e)))).2.1
   cases ok with
   | false=>exact again I9 q9
   | true=>
    refine noX (thn (he cl s3 _ fp hX2 _ s9 σ8 H9 _ I9 q9) fun y s10 zq=>?_)
    obtain ⟨yv,H10,I10,r10,ys,hys,hlt,q10⟩:=zq
    refine noX (thn (mt_append (X:=cxC X N scope cl s3 (upd H2 s2.heap.objs.size (.lst [])) fp) _ s10 σ8 H10 (.ref s2.heap.objs.size) [yv] _ [y] (fun _ H'=>Nn σ8 H') I10 rfl (.cons r10 .nil) ⟨_,ys,yv,rfl,rfl,hys,hlt,q10⟩) fun _ s11 zq=>?_)
    obtain ⟨_,H11,I11,_,q11⟩:=zq
    exact again I11 q11
 exact codeAny_compStart_list loop (T.self X.A 0 _ _ _ tn4 loop)
end PD
namespace PD
open PySem PySem.Spec PyProof.Rows L2
noncomputable def smallI (i:Int):Prop:=-(2 ^ 64) < i∧i < 2 ^ 64
noncomputable instance (i:Int):Decidable (smallI i):=by unfold smallI; infer_instance
noncomputable def oAdd:Sto→D→D→Option D
 | _,.int i,.int j=>some (.int (i + j))
 | _,.str a,.str b=>if a.length + b.length≤sizeLine then some (.str (a ++ b)) else none
 | _,.tup a,.tup b=>if a.length + b.length≤sizeLine then some (.tup (a ++ b)) else none
 | _,.lst a,.lst b=>if a.length + b.length≤sizeLine then some (.lst (a ++ b)) else none
 | _,_,_=>none
noncomputable def oSub:Sto→D→D→Option D
 | _,.int i,.int j=>some (.int (i - j))
 | _,_,_=>none
noncomputable def oMul:Sto→D→D→Option D
 | _,.int i,.int j=>if smallI i ∨ smallI j then some (.int (i * j)) else none
 | _,.tup a,.int k=>if -(2 ^ 63)≤k∧k < 2 ^ 63∧a.length * k.toNat≤sizeLine then some (.tup (List.replicate k.toNat a).flatten) else none
 | _,.lst a,.int k=>if -(2 ^ 63)≤k∧k < 2 ^ 63∧a.length * k.toNat≤sizeLine then some (.lst (List.replicate k.toNat a).flatten) else none
 | _,_,_=>none
noncomputable def oFdiv:Sto→D→D→Option D
 | _,.int i,.int j=>if 0 < j∧j < 1073741824 then some (.int (i / j)) else none
 | _,_,_=>none
noncomputable def oMod:Sto→D→D→Option D
 | _,.int i,.int j=>if 0 < j then some (.int (i % j)) else none
 | _,_,_=>none
noncomputable def oPow:Sto→D→D→Option D
 | _,.int i,.int j=>if 0≤j∧j≤1000000∧i.natAbs < 2 ^ 64 then some (.int (i ^ j.toNat)) else none
 | _,_,_=>none
noncomputable def oShl:Sto→D→D→Option D
 | _,.int i,.int j=>if 0≤j∧j≤1000000∧i.natAbs < 2 ^ 64 then some (.int (i * 2 ^ j.toNat)) else none
 | _,_,_=>none
noncomputable def oNeg:Sto→D→Option D
 | _,.int i=>some (.int (-i))
 | _,_=>none
noncomputable def oCmp (p:Int→Int→Bool):Sto→D→D→Option D
 | _,.int i,.int j=>some (.bl (p i j))
 | _,_,_=>none
noncomputable abbrev oLt:=oCmp fun i j=>decide (i < j)
noncomputable abbrev oGt:=oCmp fun i j=>decide (j < i)
noncomputable abbrev oGe:=oCmp fun i j=>decide (j≤i)
noncomputable def eqS:D→D→Option Bool
 | .int i,.int j=>some (decide (i=j))
 | .bl i,.bl j=>some (decide (i=j))
 | .str i,.str j=>some (decide (i=j))
 | .non,.non=>some true
 | .non,.int _=>some false
 | .int _,.non=>some false
 | .non,.bl _=>some false
 | .bl _,.non=>some false
 | .non,.str _=>some false
 | .str _,.non=>some false
 | .int _,.str _=>some false
 | .str _,.int _=>some false
 | .bl _,.str _=>some false
 | .str _,.bl _=>some false
 | _,_=>none
noncomputable def oEq:Sto→D→D→Option D:=fun _ a b=>(eqS a b).map .bl
noncomputable def oNe:Sto→D→D→Option D:=fun _ a b=>(eqS a b).map fun c=>.bl (!c)
noncomputable def seqOf (S:Sto):D→Option (List D)
 | .tup a=>some a
 | .lst a=>some a
 | .fz a=>some a
 | .ref n=>match S[n]? with
  | some (.lst a)=>some a
  | some (.flst a)=>some a
  | _=>none
 | _=>none
noncomputable def oIx:Sto→D→D→Option D:=fun S x y=>match seqOf S x,y with
 | some a,.int i=>atI a i
 | _,_=>none
noncomputable def cutD (xs:List D) (lo hi:Option Int):List D:=(xs.drop (HT.sIx xs.length 0 lo)).take (HT.sIx xs.length xs.length hi - HT.sIx xs.length 0 lo)
section
variable {X:Cx} {E:XK}
theorem RD.int {K:PySem.W.Frag} {w:Wd} {H:Hp} {i:Int} {v:V} (q:RD K w H (.int i) v):v=.int i:=by unfold RD at q; exact q
theorem RD.bl {K:PySem.W.Frag} {w:Wd} {H:Hp} {i:Bool} {v:V} (q:RD K w H (.bl i) v):v=.bl i:=by unfold RD at q; exact q
theorem RD.str {K:PySem.W.Frag} {w:Wd} {H:Hp} {i:Str} {v:V} (q:RD K w H (.str i) v):v=.str i:=by unfold RD at q; exact q
theorem RD.non {K:PySem.W.Frag} {w:Wd} {H:Hp} {v:V} (q:RD K w H .non v):v=.non:=by unfold RD at q; exact q
theorem RD.mkI {K:PySem.W.Frag} {w:Wd} {H:Hp} {i:Int}:RD K w H (.int i) (.int i):=by unfold RD; rfl
theorem RD.mkB {K:PySem.W.Frag} {w:Wd} {H:Hp} {i:Bool}:RD K w H (.bl i) (.bl i):=by unfold RD; rfl
theorem RD.mkS {K:PySem.W.Frag} {w:Wd} {H:Hp} {i:Str}:RD K w H (.str i) (.str i):=by unfold RD; rfl
theorem RD.tupI {K:PySem.W.Frag} {w:Wd} {H:Hp} {ds:List D} {v:V} (q:RD K w H (.tup ds) v):∃ a vs,v=.ref a∧(At w H a (.tup vs) ∨ KTup K a vs)∧RDs K w H ds vs:=by unfold RD at q; exact q
theorem RD.lstI {K:PySem.W.Frag} {w:Wd} {H:Hp} {ds:List D} {v:V} (q:RD K w H (.lst ds) v):∃ a vs,v=.ref a∧At w H a (.lst vs)∧RDs K w H ds vs:=by unfold RD at q; exact q
theorem RD.fzI {K:PySem.W.Frag} {w:Wd} {H:Hp} {ds:List D} {v:V} (q:RD K w H (.fz ds) v):∃ a vs,v=.ref a∧FzAt K w H a vs∧RDs K w H ds vs:=by unfold RD at q; exact q
theorem RD.refI {K:PySem.W.Frag} {w:Wd} {H:Hp} {n:Nat} {v:V} (q:RD K w H (.ref n) v):∃ a,v=.ref a∧w.st[n]?=some a:=by unfold RD at q; exact q
theorem RD.newTup {K:PySem.W.Frag} {w:Wd} {H:Hp} {S:Sto} {ds:List D} {vs:List V} {p:Addr} (s:RS K w H S) (hp:H p=none) (q:RDs K w H ds vs):RD K w (upd H p (.tup vs)) (.tup ds) (.ref p):=by
 unfold RD
 exact ⟨p,vs,rfl,.inl ⟨upd_same,s.fresh hp⟩,RDs.ext (Ext.new hp) _ _ q⟩
theorem RD.newLst {K:PySem.W.Frag} {w:Wd} {H:Hp} {S:Sto} {ds:List D} {vs:List V} {p:Addr} (s:RS K w H S) (hp:H p=none) (q:RDs K w H ds vs):RD K w (upd H p (.lst vs)) (.lst ds) (.ref p):=by
 unfold RD
 exact ⟨p,vs,rfl,⟨upd_same,s.fresh hp⟩,RDs.ext (Ext.new hp) _ _ q⟩
theorem opII {f:Value→Value→Sem Value} {C:Int→Int→Prop} {g:Int→Int→D} {gv:Int→Int→V} {o:Sto→D→D→Option D} (h:OpR X f (rI C gv)) (hg:∀ K w H i j,RD K w H (g i j) (gv i j))
  (ho:∀ S d e z,o S d e=some z→∃ i j,d=.int i∧e=.int j∧C i j∧z=g i j):OpR X f (xO X.K E o):=by
 rintro pins s σ H x y v u Q I rx ry ⟨w,S,d,e,hS,qd,qe,p⟩
 obtain ⟨z,hz,p⟩:=p.of
 obtain ⟨i,j,rfl,rfl,c,rfl⟩:=ho _ _ _ _ hz
 cases qd.int
 cases qe.int
 exact h pins s σ H _ _ v u Q I rx ry ⟨i,j,rfl,rfl,c,p.ret (hg _ _ _ _ _) hS⟩
theorem opII0 {f:Value→Value→Sem Value} {g:Int→Int→D} {gv:Int→Int→V} {o:Sto→D→D→Option D} (h:OpR X f (rI0 gv)) (hg:∀ K w H i j,RD K w H (g i j) (gv i j))
  (ho:∀ S d e z,o S d e=some z→∃ i j,d=.int i∧e=.int j∧z=g i j):OpR X f (xO X.K E o):=by
 rintro pins s σ H x y v u Q I rx ry ⟨w,S,d,e,hS,qd,qe,p⟩
 obtain ⟨z,hz,p⟩:=p.of
 obtain ⟨i,j,rfl,rfl,rfl⟩:=ho _ _ _ _ hz
 cases qd.int
 cases qe.int
 exact h pins s σ H _ _ v u Q I rx ry ⟨i,j,rfl,rfl,p.ret (hg _ _ _ _ _) hS⟩
theorem xo_sub:OpR X (binaryOp .Sub) (xO X.K E oSub):=opII0 (g:=fun i j=>.int (i - j)) op_sub (fun _ _ _ _ _=>RD.mkI) fun S d e z h=>by
 unfold oSub at h; split at h
 ·cases h; exact ⟨_,_,rfl,rfl,rfl⟩
 ·cases h
theorem xo_fdiv:OpR X (binaryOp .FloorDiv) (xO X.K E oFdiv):=opII (g:=fun i j=>.int (i / j)) op_fdiv (fun _ _ _ _ _=>RD.mkI) fun S d e z h=>by
 unfold oFdiv at h; split at h
 ·split at h
  ·cases h; exact ⟨_,_,rfl,rfl,by assumption,rfl⟩
  ·cases h
 ·cases h
theorem xo_mod:OpR X (binaryOp .Mod) (xO X.K E oMod):=opII (g:=fun i j=>.int (i % j)) op_mod (fun _ _ _ _ _=>RD.mkI) fun S d e z h=>by
 unfold oMod at h; split at h
 ·split at h
  ·cases h; exact ⟨_,_,rfl,rfl,by assumption,rfl⟩
  ·cases h
 ·cases h
theorem xo_pow:OpR X (binaryOp .Pow) (xO X.K E oPow):=opII (g:=fun i j=>.int (i ^ j.toNat)) op_pow (fun _ _ _ _ _=>RD.mkI) fun S d e z h=>by
 unfold oPow at h; split at h
 ·split at h
  ·cases h; exact ⟨_,_,rfl,rfl,by assumption,rfl⟩
  ·cases h
 ·cases h
theorem xo_shl:OpR X (binaryOp .LShift) (xO X.K E oShl):=opII (g:=fun i j=>.int (i * 2 ^ j.toNat)) op_shl (fun _ _ _ _ _=>RD.mkI) fun S d e z h=>by
 unfold oShl at h; split at h
 ·split at h
  ·cases h; exact ⟨_,_,rfl,rfl,by assumption,rfl⟩
  ·cases h
 ·cases h
theorem oCmp_inv {p:Int→Int→Bool} {S:Sto} {d e z:D} (h:oCmp p S d e=some z):∃ i j,d=.int i∧e=.int j∧z=.bl (p i j):=by
 unfold oCmp at h; split at h
 ·cases h; exact ⟨_,_,rfl,rfl,rfl⟩
 ·cases h
theorem xo_lt:OpR X (compareOp .Lt) (xO X.K E oLt):=opII0 (g:=fun i j=>.bl (decide (i < j))) op_lt (fun _ _ _ _ _=>RD.mkB) fun S d e z h=>oCmp_inv h
theorem xo_gt:OpR X (compareOp .Gt) (xO X.K E oGt):=opII0 (g:=fun i j=>.bl (decide (j < i))) op_gt (fun _ _ _ _ _=>RD.mkB) fun S d e z h=>oCmp_inv h
theorem xo_ge:OpR X (compareOp .GtE) (xO X.K E oGe):=opII0 (g:=fun i j=>.bl (decide (j≤i))) op_ge (fun _ _ _ _ _=>RD.mkB) fun S d e z h=>oCmp_inv h
theorem xu_neg:UnR X (unaryOp .USub) (xU X.K E oNeg):=by
 rintro pins s σ H x v Q I rx ⟨w,S,d,hS,qd,p⟩
 obtain ⟨z,hz,p⟩:=p.of
 unfold oNeg at hz; split at hz
 ·cases hz
  cases qd.int
  exact un_neg pins s σ H _ v Q I rx ⟨_,rfl,p.ret RD.mkI hS⟩
 ·cases hz
theorem eqS_ok {K:PySem.W.Frag} {w:Wd} {H:Hp} {d e:D} {x y:V} {c:Bool} (qd:RD K w H d x) (qe:RD K w H e y) (h:eqS d e=some c):scal x y=true∧decide (x=y)=c:=by
 unfold eqS at h
 split at h <;> (try (cases h; done)) <;> (unfold RD at qd qe; subst qd; subst qe; cases h; refine ⟨rfl,?_⟩; simp)
theorem xo_eq:OpR X (compareOp .Eq) (xO X.K E oEq):=by
 rintro pins s σ H x y v u Q I rx ry ⟨w,S,d,e,hS,qd,qe,p⟩
 obtain ⟨z,hz,p⟩:=p.of
 unfold oEq at hz
 cases h:eqS d e with
 | none=>rw [h] at hz; cases hz
 | some c=>
  rw [h] at hz; cases hz
  obtain ⟨h1,h2⟩:=eqS_ok qd qe h
  exact op_eq pins s σ H _ _ v u Q I rx ry ⟨h1,by rw [h2]; exact p.ret RD.mkB hS⟩
theorem xo_ne:OpR X (compareOp .NotEq) (xO X.K E oNe):=by
 rintro pins s σ H x y v u Q I rx ry ⟨w,S,d,e,hS,qd,qe,p⟩
 obtain ⟨z,hz,p⟩:=p.of
 unfold oNe at hz
 cases h:eqS d e with
 | none=>rw [h] at hz; cases hz
 | some c=>
  rw [h] at hz; cases hz
  obtain ⟨h1,h2⟩:=eqS_ok qd qe h
  exact op_ne pins s σ H _ _ v u Q I rx ry ⟨h1,by rw [h2]; exact p.ret RD.mkB hS⟩
theorem seq_ok {K:PySem.W.Frag} {w:Wd} {H:Hp} {S:Sto} {d:D} {v:V} {a:List D} (s:RS K w H S) (q:RD K w H d v) (h:seqOf S d=some a):∃ p vs,v=.ref p∧(SqL K H p vs ∨ SqT K H p vs)∧RDs K w H a vs:=by
 unfold seqOf at h
 split at h
 ·cases h; obtain ⟨p,vs,e,z,r⟩:=q.tupI; exact ⟨p,vs,e,.inr (SqT_of z),r⟩
 ·cases h; obtain ⟨p,vs,e,z,r⟩:=q.lstI; exact ⟨p,vs,e,.inl (SqL.of z.1),r⟩
 ·cases h; obtain ⟨p,vs,e,z,r⟩:=q.fzI; exact ⟨p,vs,e,.inl z.sq,r⟩
 ·split at h
  ·rename_i n b hn
   cases h
   obtain ⟨p,e,hp⟩:=q.refI
   obtain ⟨p',hp',vs,hv,r⟩:=s.obj _ _ hn
   rw [hp] at hp'; cases hp'
   exact ⟨p,vs,e,.inl (SqL.of hv),r⟩
  ·rename_i n b hn
   cases h
   obtain ⟨p,e,hp⟩:=q.refI
   obtain ⟨p',hp',o,vs,hv,r⟩:=s.obj _ _ hn
   rw [hp] at hp'; cases hp'
   exact ⟨p,vs,e,.inl (.inl (.inr ⟨o,hv⟩)),r⟩
  ·cases h
 ·cases h
theorem RDs.atI {K:PySem.W.Frag} {w:Wd} {H:Hp} {a:List D} {vs:List V} {i:Int} {d:D} (r:RDs K w H a vs) (h:atI a i=some d):∃ v,L2.atI vs i=some v∧RD K w H d v:=by
 unfold L2.atI at h ⊢
 rw [r.length]
 cases e:ixN a.length i with
 | none=>rw [e] at h; cases h
 | some j=>
  rw [e] at h
  obtain ⟨v,ev,rv⟩:=r.get (show a[j]?=some d from h)
  exact ⟨v,ev,rv⟩
theorem xi_ix:IxR X (xO X.K E oIx):=by
 rintro va sl pins s σ H x y v u Q I rx ry ⟨w,S,d,e,hS,qd,qe,p⟩ hsub
 obtain ⟨z,hz,p'⟩:=p.of
 clear p
 unfold oIx at hz
 split at hz
 ·rename_i a i ha
  obtain ⟨q,vs,rfl,sq,r⟩:=seq_ok hS qd ha
  cases qe.int
  obtain ⟨v',ev,rv⟩:=r.atI hz
  exact ix_seq va sl pins s σ H _ _ v u Q I rx ry (sq.elim (fun z=>.inl ⟨q,vs,i,v',rfl,rfl,z,ev,p'.ret rv hS⟩) fun z=>.inr (.inl ⟨q,vs,i,v',rfl,rfl,z,ev,p'.ret rv hS⟩)) hsub
 ·cases hz
end
end PD
namespace PD
open PySem PySem.Spec PyProof.Rows L2
section
open PySem.SeqAt
open PySem.AutoSeq1 (wpAny_loadPart')
open PySem.MeetsSeq PySem.MeetsSeq2 PySem.MeetsSeq3
theorem int_rmul_tup (a:Int) (t:Tok) (l:Addr) (items:Array Value) (n:Nat) (dd:Option Addr) (sl:Array (Option Value)):
  Meets (Builtin.«int.__rmul__» ⟨[.int a t,.ref l],[]⟩) (fun _ R s=>s.heap.get? l=some { cls:=.type "tuple",dict:=dd,data:=.seq items n,slots:=sl }∧R (.ok (.ret Value.notImplemented)) s):=
 .of_wp fun prog w A R s h=>by obtain ⟨hp,g,d,tk,os⟩:=s; obtain ⟨hl,h⟩:=h; wp_walk using wpAny_loadPart' hl; exact ⟨_,rfl,h⟩
theorem tup_mul_same (l:Addr) (items:Array Value) (n:Nat) (k:Int) (t:Tok) (dd:Option Addr) (sl:Array (Option Value)) (h1:¬ (decide (k < -(2 ^ 63)) || decide (k ≥ 2 ^ 63))=true) (h2:(items.isEmpty || k == 1)=true):
  Meets (Builtin.«tuple.__mul__» ⟨[.ref l,.int k t],[]⟩) (fun _ R s=>s.heap.get? l=some { cls:=.type "tuple",dict:=dd,data:=.seq items n,slots:=sl }∧R (.ok (.ret (.ref l))) s):=
 .of_wp fun prog w A R s h=>by obtain ⟨hp,g,d,tk,os⟩:=s; obtain ⟨hl,h⟩:=h; have f1:=AutoSeq1.idx_int; wp_walk using wpAny_loadPart' hl; rw [if_neg h1]; wp_walk using wpAny_loadPart' hl; exact ⟨_,rfl,h⟩
theorem tup_mul_none (l:Addr) (items:Array Value) (n:Nat) (k:Int) (t:Tok) (dd:Option Addr) (sl:Array (Option Value)) (h1:¬ (decide (k < -(2 ^ 63)) || decide (k ≥ 2 ^ 63))=true) (h2:¬ (items.isEmpty || k == 1)=true) (h3:(decide (k≤0) || items.isEmpty)=true):
  Meets (Builtin.«tuple.__mul__» ⟨[.ref l,.int k t],[]⟩) (fun _ R s=>s.heap.get? l=some { cls:=.type "tuple",dict:=dd,data:=.seq items n,slots:=sl }∧R (.ok (.ret (Value.ref s.heap.objs.size))) { s with heap:=s.heap.push { cls:=Value.type "tuple",data:=Data.seq #[] },toks:=s.toks }):=
 .of_wp fun prog w A R s h=>by obtain ⟨hp,g,d,tk,os⟩:=s; obtain ⟨hl,h⟩:=h; have f1:=AutoSeq1.idx_int; wp_walk using wpAny_loadPart' hl; rw [if_neg h1]; wp_walk using wpAny_loadPart' hl; exact ⟨_,rfl,h⟩
theorem tup_mul_more (l:Addr) (items:Array Value) (n:Nat) (k:Int) (t:Tok) (dd:Option Addr) (sl:Array (Option Value)) (h1:¬ (decide (k < -(2 ^ 63)) || decide (k ≥ 2 ^ 63))=true) (h2:¬ (items.isEmpty || k == 1)=true) (h3:¬ (decide (k≤0) || items.isEmpty)=true)
  (h4:¬ (items.size:Int) * k > (2 ^ 63 - 1) / 8) (h5:¬ Builtin.Tuple.tupleTooMany ((items.size:Int) * k)=true) (hsz:(List.foldl (fun x1 x2=>x1 ++ x2) #[] (List.replicate k.toNat items)).size≤sizeLine):
  Meets (Builtin.«tuple.__mul__» ⟨[.ref l,.int k t],[]⟩) (fun _ R s=>s.heap.get? l=some { cls:=.type "tuple",dict:=dd,data:=.seq items n,slots:=sl }∧R (.ok (.ret (Value.ref s.heap.objs.size))) { s with heap:=s.heap.push { cls:=Value.type "tuple",data:=Data.seq (List.foldl (fun x1 x2=>x1 ++ x2) #[] (List.replicate k.toNat items)) },toks:=s.toks }):=
 .of_wp fun prog w A R s h=>by obtain ⟨hp,g,d,tk,os⟩:=s; obtain ⟨hl,h⟩:=h; have f1:=AutoSeq1.idx_int; wp_walk using wpAny_loadPart' hl; rw [if_neg h1]; wp_walk using wpAny_loadPart' hl; rw [if_neg h4]; wp_walk using wpAny_loadPart' hl; exact ⟨_,rfl,h⟩
end
section
variable {prog:Program} {w:World} {A:Around} {E:Value→Shared→Prop} {s:Shared}
theorem noFill_tuple_mul:fillsNumberSlot (.type "tuple") "mul" = pure false:=
 PySem.fillsNumberSlot_seq (id:="tuple.__mul__") (r:=some (.builtin "tuple.__rmul__")) F.slot_tuple_mul.lookup (by decide +kernel) F.slot_tuple_rmul.lookup (by decide +kernel)
theorem repeat_tuple:seqRepeat? (.type "tuple")=pure (some (.builtin "tuple.__mul__")):=by
 unfold seqRepeat?
 rw [PySem.seqSlot_of (T:="tuple") (name:="__mul__") (id:="tuple.__mul__") F.slot_tuple_mul.lookup (by decide +kernel),PySem.seqSlot_of (T:="tuple") (name:="__rmul__") (id:="tuple.__rmul__") F.slot_tuple_rmul.lookup (by decide +kernel)]
 rfl
theorem rep_tup {t:Addr} {vs:List Value} {k:Int} {tk:Tok} {Q:Value→Shared→Prop} (ht:IsTup s.heap t vs.toArray) (h1:-(2 ^ 63)≤k) (h2:k < 2 ^ 63) (hz:vs.length * k.toNat≤sizeLine)
  (q1:(vs=[] ∨ k=1)→Q (.ref t) s) (q2:¬ (vs=[] ∨ k=1)→Q (.ref s.heap.objs.size) { s with heap:=s.heap.push { cls:=.type "tuple",data:=.seq (List.replicate k.toNat vs).flatten.toArray } }):
  wpAny (model prog w) A (binaryOp .Mult (.ref t) (.int k tk)) Q E s:=by
 obtain ⟨⟨cls,dd,data,sl⟩,ho,hc,n,hd⟩:=id ht
 simp only at hc hd
 subst hc hd
 have hk:¬ (decide (k < -(2 ^ 63)) || decide (k ≥ 2 ^ 63))=true:=by simp; omega
 refine wpAny_binaryOp_repeat_ref (T:="tuple") (U:="int") (by decide) ⟨_,ho,rfl⟩ (fun s'=>typeIs_int s' k tk) noFill_tuple_mul F.fills_int_mul F.slot_int_rmul repeat_tuple F.slot_int_index.lookup
  (call_meets F.slot_int_rmul (typeIs_int s k tk) F.entry_int_rmul (F.args_int_rmul_2 _ _) (int_rmul_tup k tk t vs.toArray n dd sl) ⟨ho,rfl,⟨_,ho,rfl⟩,?_⟩)
 have hfold:∀ m:Nat,List.foldl (fun x1 x2=>x1 ++ x2) #[] (List.replicate m vs.toArray)=(List.replicate m vs).flatten.toArray:=fun m=>by
  have:=foldl_rep vs m []
  rw [List.nil_append] at this
  exact this
 by_cases c1:vs=[] ∨ k=1
 ·refine call_meets F.slot_tuple_mul ⟨_,ho,rfl⟩ F.entry_tuple_mul (F.args_tuple_mul_2 _ _) (tup_mul_same t vs.toArray n k tk dd sl hk ?_) ⟨ho,q1 c1⟩
  rcases c1 with rfl | rfl
  ·rfl
  ·simp
 ·have c2:¬ (vs.toArray.isEmpty || k == 1)=true:=by
   intro z
   rw [Bool.or_eq_true] at z
   rcases z with z | z
   ·exact c1 (.inl (by simpa using z))
   ·exact c1 (.inr (by simpa using z))
  by_cases c3:k≤0
  ·refine call_meets F.slot_tuple_mul ⟨_,ho,rfl⟩ F.entry_tuple_mul (F.args_tuple_mul_2 _ _) (tup_mul_none t vs.toArray n k tk dd sl hk c2 (by simp [c3])) ⟨ho,?_⟩
   have:=q2 c1
   rw [show k.toNat=0 by omega] at this
   exact this
  ·have c4:¬ (decide (k≤0) || vs.toArray.isEmpty)=true:=by
    intro z
    rw [Bool.or_eq_true] at z
    rcases z with z | z
    ·exact c3 (of_decide_eq_true z)
    ·exact c1 (.inl (by simpa using z))
   have hmul:((vs.toArray.size:Nat):Int) * k=((vs.length * k.toNat:Nat):Int):=by
    rw [List.size_toArray,Int.natCast_mul,Int.toNat_of_nonneg (by omega)]
   have hs0:(sizeLine:Nat)=2 ^ 24:=rfl
   refine call_meets F.slot_tuple_mul ⟨_,ho,rfl⟩ F.entry_tuple_mul (F.args_tuple_mul_2 _ _) (tup_mul_more t vs.toArray n k tk dd sl hk c2 c4 ?_ ?_ ?_) ⟨ho,?_⟩
   ·rw [hmul]
    intro z
    have:((2:Int) ^ 63 - 1) / 8 ≥ 2 ^ 24:=by decide
    omega
   ·rw [hmul]
    unfold Builtin.Tuple.tupleTooMany
    simp only [decide_eq_true_eq]
    intro z
    have z':((sizeLine:Nat):Int) < ((vs.length * k.toNat:Nat):Int):=z
    omega
   ·rw [hfold,List.size_toArray,len_rep,Nat.mul_comm]; exact hz
   ·rw [hfold]; exact q2 c1
end
end PD
namespace PD
open PySem PySem.Spec PyProof.Rows L2
section
variable {prog:Program} {w:World} {A:Around} {E:Value→Shared→Prop} {s:Shared}
theorem cat_tup0 {t b:Addr} {ws:List Value} {Q:Value→Shared→Prop} (ht:IsTup s.heap t ([]:List Value).toArray) (hb:IsTup s.heap b ws.toArray) (h:Q (.ref b) s):wpAny (model prog w) A (binaryOp .Add (.ref t) (.ref b)) Q E s:=by
 obtain ⟨⟨cls,dd,data,sl⟩,ho,hc,n,hd⟩:=id ht
 obtain ⟨⟨cls2,dd2,data2,sl2⟩,ho2,hc2,n2,hd2⟩:=id hb
 simp only at hc hd hc2 hd2
 subst hc hd hc2 hd2
 exact concat_meets ⟨_,ho,rfl⟩ ⟨_,ho2,rfl⟩ noFill_tuple_add seq_tuple_add PySem.F.slot_tuple_add PySem.F.entry_tuple_add (PySem.F.args_tuple_add_2 _ _) (tuple_addW0 t b _ ws.toArray n n2 dd dd2 sl sl2 rfl) ⟨ho,ho2,h⟩
open HT in
theorem getItem_tuple_whole {t sl:Addr} {items:Array Value} {vl vu:Value} {lo hi:Option Int} {Q:Value→Shared→Prop} (ht:IsTup s.heap t items) (hs:s.heap.IsSliceOf sl vl vu .none) (pl:IsPart vl lo) (pu:IsPart vu hi)
  (hw:sIx items.size 0 lo=0∧sIx items.size items.size hi=items.size) (h:Q (.ref t) s):wpAny (model prog w) A (getItem (.ref t) (.ref sl)) Q E s:=by
 obtain ⟨os,hos,hcs,hds⟩:=id hs
 have hTs:s.TypeIs (.ref sl) "slice":=⟨os,hos,hcs⟩
 unfold getItem
 try with_reducible refine wpAny_holding ?_
 first | refine wpAny_bind (wpAny_pure ?_) | skip
 refine wpAny_bind (wpAny_sequenceKey ht.typeIs (by decide) ?_)
 refine wpAny_bind (wpAny_callSpecial?_slot (name:=Str.ofString "__getitem__") ht.typeIs PyProof.Rows.slot_tuple_getitem
  (wpAny_call_entry PyProof.Rows.slot_tuple_getitem ht.typeIs entry_tuple_getitem ?_ (args_tuple_getitem _ _)))
 show wpAny _ _ (Builtin.Tuple.tupleItemsOf (.ref t) >>= _) _ _ s
 refine wpAny_bind (tupleItemsOf_ ht ?_)
 refine wpAny_bind (wpAny_typeOf hTs ?_)
 rw [if_pos (by decide)]
 refine wpAny_bind (sliceApplied_gen hs pl pu ?_)
 have hyes:(((sIx items.size 0 lo:Nat):Int) == 0 && (1:Int) == 1 && (sIx items.size items.size hi - sIx items.size 0 lo) == items.size)=true:=by
  rw [hw.1,hw.2]; simp
 show wpAny _ _ (if (((sIx items.size 0 lo:Nat):Int) == 0 && (1:Int) == 1 && (sIx items.size items.size hi - sIx items.size 0 lo) == items.size)=true then _ else _) _ _ s
 rw [if_pos hyes]
 obtain ⟨ob,hob,hcl,_⟩:=id ht
 have hex:∀ {Q':Bool→Shared→Prop},Q' true s→wpAny (model prog w) A.in1 (Builtin.Tuple.tupleIsExact (.ref t)) Q' E s:=fun q=>by
  unfold Builtin.Tuple.tupleIsExact
  refine wpAny_bind (wpAny_typeOf ht.typeIs (wpAny_pure ?_))
  exact q
 refine wpAny_bind (hex ?_)
 rw [if_pos rfl]
 first
  | exact wpAny_bind (wpAny_rule (wpAny_pure ⟨_,rfl,wpAny_pure h⟩))
  | exact wpAny_bind (wpAny_rule (wpAny_bind (wpAny_pure ⟨_,rfl,wpAny_pure h⟩)))
  | exact wpAny_bind (wpAny_rule (wpAny_bind (wpAny_pure (wpAny_pure ⟨_,rfl,wpAny_pure h⟩))))
  | exact wpAny_bind (wpAny_bind (wpAny_rule (wpAny_pure (wpAny_pure ⟨_,rfl,wpAny_pure h⟩))))
end
end PD
namespace PD
open PySem PySem.Spec PyProof.Rows L2
section
variable {X:Cx} {E:XK}
theorem sameTup {K:PySem.W.Frag} {w:Wd} {H:Hp} {p:Addr} {vs:List V} {ds:List D} (z:At w H p (.tup vs) ∨ KTup K p vs) (r:RDs K w H ds vs):RD K w H (.tup ds) (.ref p):=by
 unfold RD; exact ⟨p,vs,rfl,z,r⟩
theorem xo_add:OpR X (binaryOp .Add) (xO X.K E oAdd):=by
 rintro pins s σ H x y v u Q I rx ry ⟨w,S,d,e,hS,qd,qe,p⟩
 obtain ⟨z,hz,p'⟩:=p.of
 clear p
 unfold oAdd at hz
 split at hz
 ·cases hz
  cases qd.int
  cases qe.int
  exact op_add pins s σ H _ _ v u Q I rx ry ⟨_,_,rfl,rfl,p'.ret RD.mkI hS⟩
 ·split at hz
  ·cases hz
   cases qd.str
   cases qe.str
   exact op_add_str pins s σ H _ _ v u Q I rx ry ⟨_,_,rfl,rfl,by assumption,p'.ret RD.mkS hS⟩
  ·cases hz
 ·split at hz
  ·rename_i S' a b hl
   cases hz
   obtain ⟨pa,xs,rfl,za,ra⟩:=qd.tupI
   obtain ⟨pb,ys,rfl,zb,rb⟩:=qe.tupI
   by_cases ha:a=[]
   ·subst ha
    have hxs:=ra.nil_inv
    subst hxs
    cases rx
    cases ry
    obtain ⟨its,r1,p1,_⟩:=I.tuple (SqT_of za)
    obtain ⟨its2,r2,p2,_⟩:=I.tuple (SqT_of zb)
    have:its=[]:=r1.nil_iff.mpr rfl
    subst this
    exact cat_tup0 p1 p2 ⟨.ref pb,H,I,rfl,p'.ret (sameTup zb rb) hS⟩
   ·refine op_catT pins s σ H _ _ v u Q I rx ry ⟨pa,pb,xs,ys,rfl,rfl,SqT_of za,SqT_of zb,fun z=>ha ?_,by rw [ra.length,rb.length]; exact hl,fun z=>?_,fun z q hq=>?_⟩
    ·have:=ra.length
     rw [z] at this
     exact List.length_eq_zero_iff.mp this.symm
    ·have hb:b=[]:=by
      have:=rb.length
      rw [z] at this
      exact List.length_eq_zero_iff.mp this.symm
     subst hb
     rw [List.append_nil] at p'
     exact p'.ret (sameTup za ra) hS
    ·exact p'.at (Ext.new hq) (RD.newTup hS hq (ra.append rb)) (hS.new hq)
  ·cases hz
 ·split at hz
  ·rename_i S' a b hl
   cases hz
   obtain ⟨pa,xs,rfl,za,ra⟩:=qd.lstI
   obtain ⟨pb,ys,rfl,zb,rb⟩:=qe.lstI
   exact op_cat pins s σ H _ _ v u Q I rx ry ⟨pa,pb,xs,ys,rfl,rfl,za.1,zb.1,by rw [ra.length,rb.length]; exact hl,fun q hq=>p'.at (Ext.new hq) (RD.newLst hS hq (ra.append rb)) (hS.new hq)⟩
  ·cases hz
 ·cases hz
theorem RDs.rep {K:PySem.W.Frag} {w:Wd} {H:Hp} {ds:List D} {vs:List V} (r:RDs K w H ds vs):∀ k:Nat,RDs K w H (List.replicate k ds).flatten (List.replicate k vs).flatten
 | 0=>by simp; exact .nil
 | k + 1=>by
  rw [List.replicate_succ,List.replicate_succ,List.flatten_cons,List.flatten_cons]
  exact r.append (RDs.rep r k)
theorem xo_mul:OpR X (binaryOp .Mult) (xO X.K E oMul):=by
 rintro pins s σ H x y v u Q I rx ry ⟨w,S,d,e,hS,qd,qe,p⟩
 obtain ⟨z,hz,p'⟩:=p.of
 clear p
 unfold oMul at hz
 split at hz
 ·split at hz
  ·cases hz
   cases qd.int
   cases qe.int
   exact op_mul pins s σ H _ _ v u Q I rx ry ⟨_,_,rfl,rfl,by assumption,p'.ret RD.mkI hS⟩
  ·cases hz
 ·split at hz
  ·rename_i S' a k hl
   cases hz
   obtain ⟨pa,xs,rfl,za,ra⟩:=qd.tupI
   cases qe.int
   cases rx
   obtain ⟨t,rfl⟩:=ry
   obtain ⟨its,r1,p1,_⟩:=I.tuple (SqT_of za)
   have e1:its.length=a.length:=by rw [← r1.length,ra.length]
   refine rep_tup p1 hl.1 hl.2.1 (by rw [e1]; exact hl.2.2) (fun c=>?_) fun c=>?_
   ·refine ⟨.ref pa,H,I,rfl,?_⟩
    have:(List.replicate k.toNat a).flatten=a:=by
     rcases c with c | c
     ·have:a=[]:=by rw [c] at e1; exact List.length_eq_zero_iff.mp e1.symm
      subst this; simp
     ·subst c; simp
    rw [this] at p'
    exact p'.ret (sameTup za ra) hS
   ·have hn:H s.heap.objs.size=none:=I.hok.fresh (Nat.le_refl _)
    refine ⟨.ref s.heap.objs.size,_,I.laid (t':=s.toks) (o:=.tup (List.replicate k.toNat xs).flatten) (fun b ob q=>Heap.get?_push_of_some _ q) (Nat.le_refl _) ?_,rfl,p'.at (Ext.new hn) (RD.newTup hS hn (ra.rep _)) (hS.new hn)⟩
    exact ⟨by rw [len_rep,Nat.mul_comm,ra.length]; exact hl.2.2,_,r1.rep _,IsTup.new _ _⟩
  ·cases hz
 ·split at hz
  ·rename_i S' a k hl
   cases hz
   obtain ⟨pa,xs,rfl,za,ra⟩:=qd.lstI
   cases qe.int
   exact op_rep pins s σ H _ _ v u Q I rx ry ⟨pa,k,xs,rfl,rfl,za.1,hl.1,hl.2.1,by rw [ra.length]; exact hl.2.2,fun q hq=>p'.at (Ext.new hq) (RD.newLst hS hq (ra.rep _)) (hS.new hq)⟩
  ·cases hz
 ·cases hz
theorem se_ix {a b:Expr} {ma mb:EM} {pos:Pos} {f:Sto→D→D→Option D} (hr:IxR X (xO X.K E f)) (ha:SE X E a ma) (hb:SE X E b mb) (hs:PlainIx b:=by intro _ _; kernel_rfl):SE X E (.Subscript a b pos) (eOp f ma mb):=⟨
 pe_weak (pe_ix hr ha.out hb.out hs) fun s H Q zq=>ex6 zq fun w r S hr hS hp=>⟨w,r,S,hr,hS,hp.bind hS fun d S1 w1 H1 v x1 q1 s1 p1=>
  ⟨w1,r,S1,hr.ext x1,s1,p1.bind s1 fun e S2 w2 H2 u x2 q2 s2 p2=>⟨w2,S2,d,e,s2,RD.ext x2 d v q1,q2,p2⟩⟩⟩⟩
noncomputable abbrev OM:=Rho→Sto→R (Option Int)
noncomputable def ROp (w:Wd) (H:Hp) (a b:Option Int):Prop:=b=a
noncomputable def uO (K:PySem.W.Frag) (E:XK) (m:OM):TO:=fun s H Q=>∃ w r S,RSt K w H r s∧RS K w H S∧Post K E ROp w H (m r S) Q
noncomputable def oNo:OM:=fun _ S=>.ok none S
noncomputable def oPart (a:EM):OM:=fun r S=>(a r S).bind fun x S1=>match x with
 | .int i=>.ok (some i) S1
 | _=>.bad
noncomputable abbrev SO' (X:Cx) (E:XK) (e:Option Expr) (m:OM):Prop:=Bx (PO X e (uO X.K E m))
theorem so_none:SO' X E none oNo:=⟨fun pins s σ H Q I zq=>ex6 zq fun w r S hr hS hp=>po_none pins s σ H Q I (hp.ret rfl hS)⟩
theorem so_some {a:Expr} {ma:EM} (ha:SE X E a ma):SO' X E (some a) (oPart ma):=⟨fun pins s σ H Q I zq=>ex6 zq fun w r S hr hS hp=>po_some ha.out pins s σ H Q I
 ⟨w,r,S,hr,hS,hp.bind hS fun d S1 w1 H1 v x1 q1 s1 p1=>by
  cases d with
  | int i=>cases q1.int; exact ⟨i,rfl,p1.ret rfl s1⟩
  | _=>exact p1.elim⟩⟩
noncomputable def xL (K:PySem.W.Frag) (E:XK) (f:Sto→D→Option Int→Option Int→Option D):V→Option Int→Option Int→Hp→VK→Prop:=fun x lo hi H Q=>∃ w S d,RS K w H S∧RD K w H d x∧Post K E (RD K) w H (R.of S (f S d lo hi)) Q
noncomputable def eSl (f:Sto→D→Option Int→Option Int→Option D) (a:EM) (lo hi:OM):EM:=fun r S=>(a r S).bind fun x S1=>(lo r S1).bind fun l S2=>(hi r S2).bind fun u S3=>R.of S3 (f S3 x l u)
theorem se_sl {a:Expr} {ma:EM} {lo hi:Option Expr} {ml mh:OM} {p2 pos:Pos} {f:Sto→D→Option Int→Option Int→Option D} (hf:SlR X (xL X.K E f)) (ha:SE X E a ma) (hl:SO' X E lo ml) (hh:SO' X E hi mh):
  SE X E (.Subscript a (.Slice lo hi none p2) pos) (eSl f ma ml mh):=⟨
 pe_weak (pe_slice hf ha.out hl.out hh.out) fun s H Q zq=>ex6 zq fun w r S hr hS hp=>⟨w,r,S,hr,hS,hp.bind hS fun d S1 w1 H1 v x1 q1 s1 p1=>
  ⟨w1,r,S1,hr.ext x1,s1,p1.bind s1 fun l S2 w2 H2 l' x2 q2 s2 p2=>⟨w2,r,S2,(hr.ext x1).ext x2,s2,p2.bind s2 fun u S3 w3 H3 u' x3 q3 s3 p3=>by
   have e1:l'=l:=q2
   have e2:u'=u:=q3
   subst e1 e2
   exact ⟨w3,S3,d,s3,RD.ext x3 _ _ (RD.ext x2 _ _ q1),p3⟩⟩⟩⟩⟩
noncomputable def fSlT:Sto→D→Option Int→Option Int→Option D
 | _,.tup a,lo,hi=>some (.tup (cutD a lo hi))
 | _,.lst a,lo,hi=>some (.lst (cutD a lo hi))
 | _,_,_,_=>none
theorem RDs.cut {K:PySem.W.Frag} {w:Wd} {H:Hp} {ds:List D} {vs:List V} (r:RDs K w H ds vs) (lo hi:Option Int):RDs K w H (cutD ds lo hi) (cutV vs lo hi):=by
 unfold cutD cutV
 rw [r.length]
 exact (r.drop _).take _
theorem xl_tup:SlR X (xL X.K E fSlT):=by
 rintro pins s σ H x v vl vu lo hi sl Q I rx hs pl pu ⟨w,S,d,hS,qd,p⟩
 obtain ⟨z,hz,p'⟩:=p.of
 clear p
 unfold fSlT at hz
 split at hz
 ·rename_i a
  cases hz
  obtain ⟨pa,xs,rfl,za,ra⟩:=qd.tupI
  by_cases hw:HT.sIx xs.length 0 lo=0∧HT.sIx xs.length xs.length hi=xs.length
  ·cases rx
   obtain ⟨its,r,ht,hz⟩:=I.tuple (SqT_of za)
   have hlen:its.toArray.size=xs.length:=by rw [List.size_toArray]; exact r.length.symm
   refine ⟨"tuple",_,PyProof.Rows.slot_tuple_getitem.lookup,ht.typeIs,?_⟩
   refine getItem_tuple_whole ht hs pl pu (by rw [hlen]; exact hw) ⟨.ref pa,H,I,rfl,?_⟩
   have e:cutD a lo hi=a:=by
    unfold cutD
    rw [← ra.length,hw.1,hw.2]
    rw [List.drop_zero,Nat.sub_zero,ra.length,List.take_length]
   rw [e] at p'
   exact p'.ret (sameTup za ra) hS
  ·exact sl_tup pins s σ H _ v vl vu lo hi sl Q I rx hs pl pu ⟨pa,xs,rfl,SqT_of za,hw,fun q hq=>p'.at (Ext.new hq) (RD.newTup hS hq (ra.cut lo hi)) (hS.new hq)⟩
 ·rename_i a
  cases hz
  obtain ⟨pa,xs,rfl,za,ra⟩:=qd.lstI
  exact sl_list pins s σ H _ v vl vu lo hi sl Q I rx hs pl pu ⟨pa,xs,rfl,SqL.of za.1,fun q hq=>p'.at (Ext.new hq) (RD.newLst hS hq (ra.cut lo hi)) (hS.new hq)⟩
 ·cases hz
noncomputable def fLen:Sto→List D→Option D
 | _,[.str x]=>if x.length≤sizeLine then some (.int x.length) else none
 | _,[.dic x]=>some (.int x.length)
 | S,[d]=>match seqOf S d with
  | some a=>some (.int a.length)
  | none=>match d with
   | .ref n=>match S[n]? with
    | some (.dic kvs)=>some (.int kvs.length)
    | _=>none
   | _=>none
 | _,_=>none
theorem RDk.length {K:PySem.W.Frag} {w:Wd} {H:Hp}:∀ {ds:List (Sum Int Str × D)} {vs:List (Key × V)},RDk K w H ds vs→vs.length=ds.length
 | [],_,h=>by unfold RDk at h; rw [h]; rfl
 | (k,d) :: ds,_,h=>by
  unfold RDk at h
  obtain ⟨v,r,rfl,_,q⟩:=h
  simp [RDk.length q]
theorem xc_len:CallR X (.builtin "len") (xC X.K E fLen):=by
 rintro pins s σ H xs us Q I r ⟨w,S,ds,hS,qs,p⟩
 obtain ⟨z,hz,p'⟩:=p.of
 clear p
 unfold fLen at hz
 split at hz
 ·split at hz
  ·cases hz
   obtain ⟨v,rfl,q⟩:=qs.one_inv
   cases q.str
   exact call_len_str pins s σ H _ us Q I r ⟨_,rfl,by assumption,p'.ret RD.mkI hS⟩
  ·cases hz
 ·cases hz
  obtain ⟨v,rfl,q⟩:=qs.one_inv
  unfold RD at q
  obtain ⟨a,uu,rfl,z,rk⟩:=q
  exact call_lenD pins s σ H _ us Q I r ⟨_,_,rfl,z.1,by rw [rk.length]; exact p'.ret RD.mkI hS⟩
 ·obtain ⟨v,rfl,q⟩:=qs.one_inv
  split at hz
  ·rename_i a ha
   cases hz
   obtain ⟨pp,vs,rfl,sq,ra⟩:=seq_ok hS q ha
   exact call_len_seq pins s σ H _ us Q I r ⟨pp,vs,rfl,sq,by rw [ra.length]; exact p'.ret RD.mkI hS⟩
  ·split at hz
   ·split at hz
    ·rename_i n kvs hn
     cases hz
     obtain ⟨pp,rfl,hp⟩:=q.refI
     obtain ⟨p2,hp2,vs,hv,rk⟩:=hS.obj _ _ hn
     rw [hp] at hp2; cases hp2
     exact call_lenD pins s σ H _ us Q I r ⟨_,_,rfl,hv,by rw [rk.length]; exact p'.ret RD.mkI hS⟩
    ·cases hz
   ·cases hz
 ·cases hz
noncomputable def fAbs:Sto→List D→Option D
 | _,[.int i]=>some (.int (if i < 0 then -i else i))
 | _,_=>none
theorem xc_abs:CallR X (.builtin "abs") (xC X.K E fAbs):=by
 rintro pins s σ H xs us Q I r ⟨w,S,ds,hS,qs,p⟩
 obtain ⟨z,hz,p'⟩:=p.of
 clear p
 unfold fAbs at hz
 split at hz
 ·cases hz
  obtain ⟨v,rfl,q⟩:=qs.one_inv
  cases q.int
  exact call_abs pins s σ H _ us Q I r ⟨_,rfl,p'.ret RD.mkI hS⟩
 ·cases hz
noncomputable def fMax:Sto→List D→Option D
 | _,[.int i,.int j]=>some (.int (if j > i then j else i))
 | _,_=>none
theorem xc_max (hc:X.calm=true):CallR X (.builtin "max") (xC X.K E fMax):=by
 rintro pins s σ H xs us Q I r ⟨w,S,ds,hS,qs,p⟩
 obtain ⟨z,hz,p'⟩:=p.of
 clear p
 unfold fMax at hz
 split at hz
 ·cases hz
  obtain ⟨v,u,rfl,q,q'⟩:=qs.two_inv
  cases q.int
  cases q'.int
  exact call_max2 hc pins s σ H _ us Q I r ⟨_,_,rfl,p'.ret RD.mkI hS⟩
 ·cases hz
noncomputable def fMin:Sto→List D→Option D
 | _,[.int i,.int j]=>some (.int (if j < i then j else i))
 | _,_=>none
theorem xc_min (hc:X.calm=true):CallR X (.builtin "min") (xC X.K E fMin):=by
 rintro pins s σ H xs us Q I r ⟨w,S,ds,hS,qs,p⟩
 obtain ⟨z,hz,p'⟩:=p.of
 clear p
 unfold fMin at hz
 split at hz
 ·cases hz
  obtain ⟨v,u,rfl,q,q'⟩:=qs.two_inv
  cases q.int
  cases q'.int
  exact call_min2 hc pins s σ H _ us Q I r ⟨_,_,rfl,p'.ret RD.mkI hS⟩
 ·cases hz
noncomputable def fDivmod:Sto→List D→Option D
 | _,[.int i,.int j]=>if 0 < j∧j < 1073741824 then some (.tup [.int (i / j),.int (i % j)]) else none
 | _,_=>none
theorem xc_divmod:CallR X (.builtin "divmod") (xC X.K E fDivmod):=by
 rintro pins s σ H xs us Q I r ⟨w,S,ds,hS,qs,p⟩
 obtain ⟨z,hz,p'⟩:=p.of
 clear p
 unfold fDivmod at hz
 split at hz
 ·split at hz
  ·cases hz
   obtain ⟨v,u,rfl,q,q'⟩:=qs.two_inv
   cases q.int
   cases q'.int
   exact call_divmod pins s σ H _ us Q I r ⟨_,_,rfl,by assumption,fun t ht=>p'.at (Ext.new ht) (RD.newTup hS ht (.cons RD.mkI (.cons RD.mkI .nil))) (hS.new ht)⟩
  ·cases hz
 ·cases hz
noncomputable def fInt:Sto→List D→Option D
 | _,[.int i]=>some (.int i)
 | _,[.bl b]=>some (.int (if b then 1 else 0))
 | _,_=>none
theorem xc_int:CallR X (.type "int") (xC X.K E fInt):=by
 rintro pins s σ H xs us Q I r ⟨w,S,ds,hS,qs,p⟩
 obtain ⟨z,hz,p'⟩:=p.of
 clear p
 unfold fInt at hz
 split at hz
 ·cases hz
  obtain ⟨v,rfl,q⟩:=qs.one_inv
  cases q.int
  exact call_int1 pins s σ H _ us Q I r (.inl ⟨_,rfl,p'.ret RD.mkI hS⟩)
 ·cases hz
  obtain ⟨v,rfl,q⟩:=qs.one_inv
  cases q.bl
  exact call_int1 pins s σ H _ us Q I r (.inr ⟨_,rfl,p'.ret RD.mkI hS⟩)
 ·cases hz
noncomputable def fTuple:Sto→List D→Option D
 | _,[.tup a]=>some (.tup a)
 | S,[d]=>(seqOf S d).map .tup
 | _,_=>none
theorem xc_tuple:CallR X (.type "tuple") (xC X.K E fTuple):=by
 rintro pins s σ H xs us Q I r ⟨w,S,ds,hS,qs,p⟩
 obtain ⟨z,hz,p'⟩:=p.of
 clear p
 unfold fTuple at hz
 split at hz
 ·cases hz
  obtain ⟨v,rfl,q⟩:=qs.one_inv
  obtain ⟨pa,vs,rfl,za,ra⟩:=q.tupI
  exact call_tuple_of pins s σ H _ us Q I r ⟨pa,vs,rfl,.inr ⟨SqT_of za,p'.ret (sameTup za ra) hS⟩⟩
 ·rename_i d hd
  obtain ⟨v,rfl,q⟩:=qs.one_inv
  cases ha:seqOf S d with
  | none=>rw [ha] at hz; cases hz
  | some a=>
   rw [ha] at hz
   cases hz
   have hq:∃ pa vs,v=.ref pa∧SqL X.K H pa vs∧RDs X.K w H a vs:=by
    unfold seqOf at ha
    split at ha
    ·exact (hd _ rfl).elim
    ·cases ha; obtain ⟨p,vs,e,z,r⟩:=q.lstI; exact ⟨p,vs,e,SqL.of z.1,r⟩
    ·cases ha; obtain ⟨p,vs,e,z,r⟩:=q.fzI; exact ⟨p,vs,e,z.sq,r⟩
    ·split at ha
     ·rename_i n b hn
      cases ha
      obtain ⟨p,e,hp⟩:=q.refI
      obtain ⟨p2,hp2,vs,hv,rk⟩:=hS.obj _ _ hn
      rw [hp] at hp2; cases hp2
      exact ⟨p,vs,e,SqL.of hv,rk⟩
     ·rename_i n b hn
      cases ha
      obtain ⟨p,e,hp⟩:=q.refI
      obtain ⟨p2,hp2,o,vs,hv,rk⟩:=hS.obj _ _ hn
      rw [hp] at hp2; cases hp2
      exact ⟨p,vs,e,.inl (.inr ⟨o,hv⟩),rk⟩
     ·cases ha
    ·cases ha
   obtain ⟨pa,vs,rfl,sq,ra⟩:=hq
   exact call_tuple_of pins s σ H _ us Q I r ⟨pa,vs,rfl,.inl ⟨sq,fun t ht=>p'.at (Ext.new ht) (RD.newTup hS ht ra) (hS.new ht)⟩⟩
 ·cases hz
noncomputable def fList:Sto→List D→Option D
 | S,[d]=>(seqOf S d).map .lst
 | _,_=>none
theorem xc_list:CallR X (.type "list") (xC X.K E fList):=by
 rintro pins s σ H xs us Q I r ⟨w,S,ds,hS,qs,p⟩
 obtain ⟨z,hz,p'⟩:=p.of
 clear p
 unfold fList at hz
 split at hz
 ·rename_i d
  obtain ⟨v,rfl,q⟩:=qs.one_inv
  cases ha:seqOf S d with
  | none=>rw [ha] at hz; cases hz
  | some a=>
   rw [ha] at hz
   cases hz
   obtain ⟨pa,vs,rfl,sq,ra⟩:=seq_ok hS q ha
   exact call_list_of pins s σ H _ us Q I r ⟨pa,vs,rfl,sq,fun t ht=>p'.at (Ext.new ht) (RD.newLst hS ht ra) (hS.new ht)⟩
 ·cases hz
end
end PD
namespace PD
open PySem PySem.Spec PyProof.Rows L2
section
variable {X:Cx} {E:XK}
noncomputable def boolsOf:List D→Option (List Bool)
 | []=>some []
 | .bl b :: r=>(boolsOf r).map (b :: ·)
 | _ :: _=>none
noncomputable def fAll:Sto→List D→Option D
 | _,[.lst a]=>(boolsOf a).map fun bs=>.bl (bs.all id)
 | _,_=>none
theorem bools_ok {K:PySem.W.Frag} {w:Wd} {H:Hp}:∀ {ds:List D} {vs:List V} {us:List Value} {bs:List Bool},RDs K w H ds vs→Vals vs us→boolsOf ds=some bs→LSm.BoolsAre us bs
 | [],_,_,_,q,r,h=>by
  rw [q.nil_inv] at r
  cases r
  unfold boolsOf at h
  cases h
  exact .nil
 | d :: ds,_,_,bs,q,r,h=>by
  obtain ⟨v,vs,rfl,p,t⟩:=q.cons_inv
  cases d with
  | bl b=>
   unfold boolsOf at h
   cases e:boolsOf ds with
   | none=>rw [e] at h; cases h
   | some cs=>
    rw [e] at h; cases h
    cases p.bl
    cases r with
    | cons r1 r2=>
     cases r1
     exact .cons b (bools_ok t r2 e)
  | _=>unfold boolsOf at h; cases h
theorem xc_all (hc:X.calm=true):CallR X (.builtin "all") (xC X.K E fAll):=by
 rintro pins s σ H xs us Q I r ⟨w,S,ds,hS,qs,p⟩
 obtain ⟨z,hz,p'⟩:=p.of
 clear p
 unfold fAll at hz
 split at hz
 ·rename_i a
  cases e:boolsOf a with
  | none=>rw [e] at hz; cases hz
  | some bs=>
   rw [e] at hz; cases hz
   obtain ⟨v,rfl,q⟩:=qs.one_inv
   obtain ⟨pa,vs,rfl,za,ra⟩:=q.lstI
   obtain ⟨u,rfl,ru⟩:=vals1 r
   cases ru
   obtain ⟨its,r1,⟨o,n,ho,hcl,hdn,hd⟩,_⟩:=I.list (SqL.of za.1)
   have hb:=bools_ok ra r1 e
   have hlt:pa < s.heap.objs.size:=Heap.lt_size ho
   have hl:s.heap.IsList pa its.toArray:=⟨o,ho,hcl,n,hd⟩
   refine call_all_walk (wpAny_pyIter_list hl ?_)
   refine ⟨s.heap.objs.size,[s.heap.objs.size,pa],[s.heap.objs.size],its.toArray.size,_,_,fun i=>(bs[i]?).getD true,rfl,Walks.list (A:=X.A.in1) (I.ok.hd hc) _ pa (Nat.ne_of_lt hlt) its.toArray,
    ⟨⟨_,Heap.get?_push_size _ rfl,rfl,rfl⟩,hl.push _⟩,fun i v s' Q' E' hP hQ=>?_,fun h' tk hk=>?_⟩
   ·obtain ⟨b,e,rfl⟩:=hb.get i v (by simpa using hP)
    simp only [e,Option.getD_some] at hQ
    exact wpAny_truthy_bool hQ
   ·have e:((List.range its.toArray.size).all fun i=>(bs[i]?).getD true)=bs.all id:=by
     rw [List.size_toArray,hb.length]; exact LSm.range_all bs
    rw [e]
    exact ⟨.bl _,H,I.kept (LSm.kept_iter hk),rfl,p'.ret RD.mkB hS⟩
 ·cases hz
noncomputable def tyD (S:Sto):D→Option String
 | .non=>some "NoneType"
 | .bl _=>some "bool"
 | .int _=>some "int"
 | .str _=>some "str"
 | .tup _=>some "tuple"
 | .lst _=>some "list"
 | .fz _=>none
 | .dic _=>some "dict"
 | .ref n=>match S[n]? with
  | some (.lst _)=>some "list"
  | some (.dic _)=>some "dict"
  | _=>none
 | .ty _=>none
 | .exc _=>none
 | .cls _=>none
noncomputable def isiTys:List String:=["int","bool","tuple","str","list","dict"]
noncomputable def fIsi:Sto→List D→Option D
 | S,[d,.ty T]=>match tyD S d with
  | some t=>if T ∈ isiTys then some (.bl (t == T || (t == "bool" && T == "int"))) else none
  | none=>none
 | _,_=>none
theorem kit_ok (K:PySem.W.Frag) {t T:String} (ht:t ∈ ["NoneType","bool","int","str","tuple","list","dict"]) (hT:T ∈ isiTys):PySem.W.kitOne K (.type t) (.type T)=some (t == T || (t == "bool" && T == "int")):=by
 unfold isiTys at hT
 simp only [List.mem_cons,List.not_mem_nil,or_false] at ht hT
 rcases ht with rfl | rfl | rfl | rfl | rfl | rfl | rfl <;> rcases hT with rfl | rfl | rfl | rfl | rfl | rfl <;> first | rfl | (with_unfolding_all rfl) | (unfold PySem.W.kitOne PySem.W.kitCls; with_unfolding_all decide)
theorem tyOf_ok {K:PySem.W.Frag} {w:Wd} {H:Hp} {S:Sto} {d:D} {v:V} {t:String} (hS:RS K w H S) (q:RD K w H d v) (h:tyD S d=some t) (hk:∀ a vs,¬ KTup K a vs ∨ True):
  (L2.TyOf K H v (.type t) ∨ ∃ a vs,v=.ref a∧t = "tuple"∧KTup K a vs)∧t ∈ ["NoneType","bool","int","str","tuple","list","dict"]:=by
 cases d with
 | non=>cases q.non; cases h; exact ⟨.inl .non,by simp⟩
 | bl b=>cases q.bl; cases h; exact ⟨.inl (.bl b),by simp⟩
 | int i=>cases q.int; cases h; exact ⟨.inl (.int i),by simp⟩
 | str x=>cases q.str; cases h; exact ⟨.inl (.str x),by simp⟩
 | tup ds=>
  obtain ⟨p,vs,rfl,z,_⟩:=q.tupI
  cases h
  refine ⟨?_,by simp⟩
  rcases z with z | z
  ·exact .inl (.tup z.1)
  ·exact .inr ⟨p,vs,rfl,rfl,z⟩
 | lst ds=>obtain ⟨p,vs,rfl,z,_⟩:=q.lstI; cases h; exact ⟨.inl (.lst z.1),by simp⟩
 | fz ds=>cases h
 | dic kvs=>unfold RD at q; obtain ⟨p,us,rfl,z,_⟩:=q; cases h; exact ⟨.inl (.dK z.1),by simp⟩
 | ref n=>
  obtain ⟨p,rfl,hp⟩:=q.refI
  unfold tyD at h
  simp only at h
  cases e:S[n]? with
  | none=>rw [e] at h; cases h
  | some o=>
   rw [e] at h
   obtain ⟨p',hp',r⟩:=hS.obj n o e
   rw [hp] at hp'; cases hp'
   cases o with
   | lst a=>cases h; obtain ⟨vs,hv,_⟩:=r; exact ⟨.inl (.lst hv),by simp⟩
   | dic a=>cases h; obtain ⟨vs,hv,_⟩:=r; exact ⟨.inl (.dK hv),by simp⟩
   | fdic a=>cases h
   | ins c fs=>cases h
   | flst a=>cases h
 | ty n=>cases h
 | exc c=>cases h
 | cls c=>cases h
theorem xc_isi:CallR X (.builtin "isinstance") (xC X.K E fIsi):=by
 rintro pins s σ H xs us Q I r ⟨w,S,ds,hS,qs,p⟩
 obtain ⟨z,hz,p'⟩:=p.of
 clear p
 unfold fIsi at hz
 split at hz
 ·rename_i d T
  split at hz
  ·rename_i t ht
   split at hz
   ·rename_i hT
    cases hz
    obtain ⟨v,u,rfl,q,q'⟩:=qs.two_inv
    unfold RD at q'
    subst q'
    obtain ⟨v1,v2,rfl,rv,rt⟩:=vals2 r
    cases (show v2=Value.type T from rt)
    obtain ⟨ty,hm⟩:=tyOf_ok hS q ht fun _ _=>.inr trivial
    have kk:=kit_ok X.K hm hT
    rcases ty with ty | ⟨a,vs,rfl,rfl,kt⟩
    ·exact isinst_ok I rv ty kk fun tk=>⟨.bl _,H,I.tok tk,rfl,p'.ret RD.mkB hS⟩
    ·cases (show v1=Value.ref a from rv)
     obtain ⟨o,its,n,e,hcl,_⟩:=kt
     exact PySem.W.kia_one PySem.W.kitx_tuple I.kIn ⟨o,I.kIn _ _ e,hcl⟩ kk (fun z=>nomatch z) fun tk=>⟨.bl _,H,I.tok tk,rfl,p'.ret RD.mkB hS⟩
   ·cases hz
  ·cases hz
 ·cases hz
noncomputable def fPut:Sto→D→D→D→Option Sto
 | S,.ref n,.int i,v=>match S[n]? with
  | some (.lst a)=>(ixN a.length i).map fun j=>S.set n (.lst (a.set j v))
  | _=>none
 | _,_,_,_=>none
theorem xs_put:PSet X (xS X.K fPut):=by
 rintro pins s σ H o i v ov iv u Q I ro ri ru ⟨w,S,x,y,z,S',hS,qx,qy,qz,hf,k⟩
 unfold fPut at hf
 split at hf
 ·rename_i n j
  split at hf
  ·rename_i a hn
   cases e:ixN a.length j with
   | none=>rw [e] at hf; cases hf
   | some m=>
    rw [e] at hf; cases hf
    obtain ⟨p,rfl,hp⟩:=qx.refI
    cases qy.int
    obtain ⟨p',hp',vs,hv,ra⟩:=hS.obj _ _ hn
    rw [hp] at hp'; cases hp'
    have hm:p ∈ w.st:=List.mem_of_getElem? hp
    refine set_list pins s σ H _ _ _ ov iv u Q I ro ri ru ⟨p,vs,j,m,rfl,rfl,hv,by rw [ra.length]; exact e,k w _ (Ext.mut hm hv) ?_⟩
    exact hS.mut hp hv ⟨_,upd_same,RDs.ext (Ext.mut hm hv) _ _ (RDs.set qz m ra)⟩
  ·cases hf
 ·cases hf
noncomputable def xM (K:PySem.W.Frag) (E:XK) (f:Sto→D→List D→R D):V→List V→Hp→VK→Prop:=fun x xs H Q=>∃ w S d ds,RS K w H S∧RD K w H d x∧RDs K w H ds xs∧Post K E (RD K) w H (f S d ds) Q
noncomputable def isL (S:Sto):D→Bool
 | .lst _=>true
 | .fz _=>true
 | .ref n=>match S[n]? with
  | some (.lst _)=>true
  | _=>false
 | _=>false
theorem isL_ok {K:PySem.W.Frag} {w:Wd} {H:Hp} {S:Sto} {d:D} {v:V} (hS:RS K w H S) (q:RD K w H d v) (h:isL S d=true):tyV K "list" v H:=by
 cases d with
 | lst ds=>obtain ⟨p,vs,rfl,z,_⟩:=q.lstI; exact .inl ⟨rfl,vs,SqL.of z.1⟩
 | fz ds=>obtain ⟨p,vs,rfl,z,_⟩:=q.fzI; exact .inl ⟨rfl,vs,z.sq⟩
 | ref n=>
  obtain ⟨p,rfl,hp⟩:=q.refI
  unfold isL at h
  simp only at h
  cases e:S[n]? with
  | none=>rw [e] at h; cases h
  | some o=>
   rw [e] at h
   cases o with
   | lst a=>
    obtain ⟨p',hp',vs,hv,_⟩:=hS.obj n _ e
    rw [hp] at hp'; cases hp'
    exact .inl ⟨rfl,vs,SqL.of hv⟩
   | _=>cases h
 | _=>cases h
noncomputable def eMtL (f:Sto→D→List D→R D) (o:EM) (t:AM):EM:=fun r S=>(o r S).bind fun x S1=>if isL S1 x=true then (t r S1).bind fun ys S2=>f S2 x ys else .bad
theorem se_mtL {o e:Expr} {es:List Expr} {mo:EM} {ms:AM} {name:Str} {apos cpos:Pos} {id:String} {f:Sto→D→List D→R D} (pa:PlainAttrs "list") (slot:Slot "list" name id) (hty:typeOf (.builtin id)=pure (.type "method_descriptor")) (hm:MtR X id (xM X.K E f))
  (ho:SE X E o mo) (ha:SA X E (e :: es) ms) (hbase:autoParam (attributeBase o name X.env (eval o X.env)=eval o X.env) Au.h0._auto_1)
  (hfew:autoParam (((backTo cpos (starEach (e :: es) X.env)).all (fun x=>!x.1) && (backToKw cpos (keywordEach [] X.env)).all (fun x=>x.1.isSome)
   && decide ((e :: es).length + ([]:List Keyword).length + (if ([]:List Keyword).isEmpty then 0 else 1) < 30))=true) Au.h0._auto_1)
  (hline:autoParam ((apos.endLine == cpos.line)=true) Au.h0._auto_1) (hs:autoParam (starEach (e :: es) X.env=(false,eval e X.env) :: starEach es X.env) Au.h0._auto_1) (hplain:autoParam ((backTo cpos (starEach es X.env)).any (·.1)=false) Au.h0._auto_1):
  SE X E (.Call (.Attribute o name apos) (e :: es) [] cpos) (eMtL f mo ms):=⟨
 pe_weak (pe_bm pa slot hty hm ho.out ha.out hbase hfew hline hs hplain) fun s H Q zq=>ex6 zq fun w r S hr hS hp=>⟨w,r,S,hr,hS,hp.bind hS fun d S1 w1 H1 v x1 q1 s1 p1=>by
  by_cases hl:isL S1 d=true
  ·rw [if_pos hl] at p1
   exact ⟨isL_ok s1 q1 hl,w1,r,S1,hr.ext x1,s1,p1.bind s1 fun ds S2 w2 H2 us x2 q2 s2 p2=>⟨w2,S2,d,ds,s2,RD.ext x2 _ _ q1,q2,p2⟩⟩
  ·rw [if_neg hl] at p1
   exact p1.elim⟩⟩
noncomputable def mAppend:Sto→D→List D→R D
 | S,.ref n,[v]=>match S[n]? with
  | some (.lst a)=>if a.length < sizeLine then .ok .non (S.set n (.lst (a ++ [v]))) else .bad
  | _=>.bad
 | _,_,_=>.bad
theorem xm_append:MtR X "list.append" (xM X.K E mAppend):=by
 rintro pins s σ H x xs v us Q I rx rs ⟨w,S,d,ds,hS,qd,qs,p⟩
 unfold mAppend at p
 split at p
 ·rename_i n y
  split at p
  ·rename_i a hn
   split at p
   ·rename_i hl
    obtain ⟨pp,rfl,hp⟩:=qd.refI
    obtain ⟨yv,rfl,qy⟩:=qs.one_inv
    obtain ⟨p',hp',vs,hv,ra⟩:=hS.obj _ _ hn
    rw [hp] at hp'; cases hp'
    have hm:pp ∈ w.st:=List.mem_of_getElem? hp
    refine mt_append pins s σ H _ _ v us Q I rx rs ⟨pp,vs,yv,rfl,rfl,hv,by rw [ra.length]; exact hl,p.at (Ext.mut hm hv) (by unfold RD; rfl) ?_⟩
    exact hS.mut hp hv ⟨_,upd_same,RDs.ext (Ext.mut hm hv) _ _ (ra.append (.cons qy .nil))⟩
   ·exact p.elim
  ·exact p.elim
 ·exact p.elim
end
end PD
namespace PD
open PySem PySem.Spec PyProof.Rows L2
noncomputable def keyPy:Sum Int Str→PyData
 | .inl i=>.int i
 | .inr x=>.str x
mutual
noncomputable def toPy:D→Option PyData
 | .non=>some .none
 | .bl b=>some (.bool b)
 | .int i=>some (.int i)
 | .str x=>some (.str x)
 | .tup ds=>(toPys ds).map .tuple
 | .lst ds=>(toPys ds).map .list
 | .dic kvs=>(toPyk kvs).map .dict
 | .fz _=>none
 | .ref _=>none
 | .ty _=>none
 | .exc _=>none
 | .cls _=>none
noncomputable def toPys:List D→Option (List PyData)
 | []=>some []
 | d :: ds=>match toPy d,toPys ds with
  | some p,some q=>some (p :: q)
  | _,_=>none
noncomputable def toPyk:List (Sum Int Str × D)→Option (List (PyData × PyData))
 | []=>some []
 | (k,d) :: r=>match toPy d,toPyk r with
  | some p,some q=>some ((keyPy k,p) :: q)
  | _,_=>none
end
mutual
noncomputable def noL:D→Bool
 | .tup ds=>noLs ds
 | .lst _=>false
 | .dic kvs=>noLk kvs
 | _=>true
noncomputable def noLs:List D→Bool
 | []=>true
 | d :: ds=>noL d && noLs ds
noncomputable def noLk:List (Sum Int Str × D)→Bool
 | []=>true
 | (_,d) :: r=>noL d && noLk r
end
section
variable {X:Cx} {E:XK}
mutual
theorem reads_ok {pins:List (Addr × Obj)} {σ:L2.St} {H:Hp} {s:Shared} {w:Wd} (I:Inv X pins σ H s):∀ (d:D) (v:V) (u:Value) (p:PyData),RD X.K w H d v→RelV v u→toPy d=some p→∃ as,Reads s.heap u p as∧(noL d=true→sysModules ∉ as)
 | .non,v,u,p,q,r,h=>by cases q.non; cases (show u=Value.none from r); unfold toPy at h; cases h; exact ⟨_,.none,fun _ z=>nomatch z⟩
 | .bl b,v,u,p,q,r,h=>by cases q.bl; cases (show u=Value.bool b from r); unfold toPy at h; cases h; exact ⟨_,.bool b,fun _ z=>nomatch z⟩
 | .int i,v,u,p,q,r,h=>by cases q.int; obtain ⟨t,rfl⟩:=(show ∃ t,u=Value.int i t from r); unfold toPy at h; cases h; exact ⟨_,.int i t,fun _ z=>nomatch z⟩
 | .str x,v,u,p,q,r,h=>by cases q.str; obtain ⟨t,rfl⟩:=(show ∃ t,u=Value.str x t from r); unfold toPy at h; cases h; exact ⟨_,.str x t,fun _ z=>nomatch z⟩
 | .tup ds,v,u,p,q,r,h=>by
  obtain ⟨a,vs,rfl,z,rs⟩:=q.tupI
  cases (show u=Value.ref a from r)
  unfold toPy at h
  cases e:toPys ds with
  | none=>rw [e] at h; cases h
  | some ps=>
   rw [e] at h; cases h
   obtain ⟨its,r1,⟨o,ho,hc,n,hd⟩,_⟩:=I.tuple (SqT_of z)
   obtain ⟨as,ra,hn⟩:=readss_ok I ds vs its ps rs r1 e
   exact ⟨as,.tuple ho hc hd ra,fun z=>hn (by unfold noL at z; exact z)⟩
 | .lst ds,v,u,p,q,r,h=>by
  obtain ⟨a,vs,rfl,z,rs⟩:=q.lstI
  cases (show u=Value.ref a from r)
  unfold toPy at h
  cases e:toPys ds with
  | none=>rw [e] at h; cases h
  | some ps=>
   rw [e] at h; cases h
   obtain ⟨its,r1,⟨o,n,ho,hc,_,hd⟩,_⟩:=I.list (SqL.of z.1)
   obtain ⟨as,ra,hn⟩:=readss_ok I ds vs its ps rs r1 e
   exact ⟨a :: as,.list ho hc hd ra,fun z=>by unfold noL at z; cases z⟩
 | .dic kvs,v,u,p,q,r,h=>by
  unfold RD at q
  obtain ⟨a,us,rfl,z,rk⟩:=q
  cases (show u=Value.ref a from r)
  unfold toPy at h
  cases e:toPyk kvs with
  | none=>rw [e] at h; cases h
  | some ps=>
   rw [e] at h; cases h
   obtain ⟨_,hsys,vs,kv,o,es,ep,ho,hex,hd,_,hp,_⟩:=(show ObjOk X.prog X.w H s.heap a (.dK us) from I.hok a _ z.1)
   obtain ⟨as,bs,ra,rb,hn⟩:=readsk_ok I kvs us vs es.toList ps rk kv hp e
   refine ⟨a :: as ++ bs,.dict ho hex.1 hd ra rb,fun z=>?_⟩
   unfold noL at z
   intro hm
   rcases List.mem_append.mp hm with hm | hm
   ·rcases List.mem_cons.mp hm with hm | hm
    ·rw [← hm] at hsys; simp at hsys
    ·exact (hn z).1 hm
   ·exact (hn z).2 hm
 | .fz _,_,_,_,_,_,h=>by unfold toPy at h; cases h
 | .ref _,_,_,_,_,_,h=>by unfold toPy at h; cases h
 | .ty _,_,_,_,_,_,h=>by unfold toPy at h; cases h
 | .exc _,_,_,_,_,_,h=>by unfold toPy at h; cases h
 | .cls _,_,_,_,_,_,h=>by unfold toPy at h; cases h
theorem readss_ok {pins:List (Addr × Obj)} {σ:L2.St} {H:Hp} {s:Shared} {w:Wd} (I:Inv X pins σ H s):∀ (ds:List D) (vs:List V) (us:List Value) (ps:List PyData),RDs X.K w H ds vs→Vals vs us→toPys ds=some ps→∃ as,ReadsAll s.heap us ps as∧(noLs ds=true→sysModules ∉ as)
 | [],vs,us,ps,q,r,h=>by
  rw [q.nil_inv] at r
  cases r
  unfold toPys at h
  cases h
  exact ⟨_,.nil,fun _ z=>nomatch z⟩
 | d :: ds,_,us,ps,q,r,h=>by
  obtain ⟨v,vs,rfl,p,t⟩:=q.cons_inv
  unfold toPys at h
  cases e1:toPy d with
  | none=>rw [e1] at h; cases h
  | some p1=>
   cases e2:toPys ds with
   | none=>rw [e1,e2] at h; cases h
   | some p2=>
    rw [e1,e2] at h; cases h
    cases r with
    | cons r1 r2=>
     obtain ⟨as,ra,h1⟩:=reads_ok I d v _ p1 p r1 e1
     obtain ⟨bs,rb,h2⟩:=readss_ok I ds vs _ p2 t r2 e2
     refine ⟨as ++ bs,.cons ra rb,fun z=>?_⟩
     unfold noLs at z
     rw [Bool.and_eq_true] at z
     intro hm
     rcases List.mem_append.mp hm with hm | hm
     ·exact h1 z.1 hm
     ·exact h2 z.2 hm
theorem readsk_ok {pins:List (Addr × Obj)} {σ:L2.St} {H:Hp} {s:Shared} {w:Wd} (I:Inv X pins σ H s):∀ (ds:List (Sum Int Str × D)) (us:List (Key × V)) (vs:List (Key × Value)) (es:List DictEntry) (ps:List (PyData × PyData)),RDk X.K w H ds us→KV us vs→Pairs (mixKind X.prog X.w) es vs→toPyk ds=some ps→
  ∃ as bs,ReadsAll s.heap (es.map (·.key)) (ps.map (·.1)) as∧ReadsAll s.heap (es.map (·.val)) (ps.map (·.2)) bs∧(noLk ds=true→sysModules ∉ as∧sysModules ∉ bs)
 | [],us,vs,es,ps,q,r,hp,h=>by
  unfold RDk at q
  subst q
  cases r
  unfold toPyk at h
  cases h
  cases hp
  exact ⟨_,_,.nil,.nil,fun _=>⟨(fun z=>nomatch z),(fun z=>nomatch z)⟩⟩
 | (k,d) :: ds,us,vs,es,ps,q,r,hp,h=>by
  unfold RDk at q
  obtain ⟨v,ur,rfl,p,t⟩:=q
  unfold toPyk at h
  cases e1:toPy d with
  | none=>rw [e1] at h; cases h
  | some p1=>
   cases e2:toPyk ds with
   | none=>rw [e1,e2] at h; cases h
   | some p2=>
    rw [e1,e2] at h; cases h
    cases r with
    | cons r1 r2=>
     cases hp with
     | cons hk hv hr=>
      rename_i q0 vr e0 es0
      obtain ⟨k',v'⟩:=q0
      obtain ⟨ek,rv⟩:=r1
      have ek':k=k':=ek
      subst ek'
      obtain ⟨as,ra,h1⟩:=reads_ok I d v _ p1 p rv e1
      obtain ⟨as2,bs2,ra2,rb2,h2⟩:=readsk_ok I ds ur vr es0 p2 t r2 hr e2
      have hkey:∃ cs,Reads s.heap e0.key (keyPy k) cs∧cs=[]:=by
       rcases keyIs_shape hk with ⟨i,tk,z1,z2⟩ | ⟨x,tk,z1,z2⟩
       ·have z1':k=Sum.inl i:=z1
        subst z1'
        rw [z2]
        exact ⟨_,.int i tk,rfl⟩
       ·have z1':k=Sum.inr x:=z1
        subst z1'
        rw [z2]
        exact ⟨_,.str x tk,rfl⟩
      obtain ⟨cs,rc,ec⟩:=hkey
      subst ec
      have hv':e0.val=v':=hv
      refine ⟨[] ++ as2,as ++ bs2,.cons rc ra2,.cons (by show Reads s.heap e0.val p1 as; rw [hv']; exact ra) rb2,fun z=>?_⟩
      unfold noLk at z
      rw [Bool.and_eq_true] at z
      refine ⟨by rw [List.nil_append]; exact (h2 z.2).1,fun hm=>?_⟩
      rcases List.mem_append.mp hm with hm | hm
      ·exact h1 z.1 hm
      ·exact (h2 z.2).2 hm
end
noncomputable def okPy (p:PyData) (nl:Bool):Prop:=p.showable=true∧p.depth≤40∧p.shown.length≤sizeLine∧(p.hasDict=false ∨ nl=true)
noncomputable instance (p:PyData) (nl:Bool):Decidable (okPy p nl):=by unfold okPy; infer_instance
noncomputable def fRepr:Sto→List D→Option D
 | _,[d]=>match toPy d with
  | some p=>if okPy p (noL d) then some (.str p.shown) else none
  | none=>none
 | _,_=>none
theorem xc_repr {k:Nat} (hr:Room k X.A):CallR X (.builtin "repr") (xC X.K E fRepr):=by
 rintro pins s σ H xs us Q I r ⟨w,S,ds,hS,qs,p⟩
 obtain ⟨z,hz,p'⟩:=p.of
 clear p
 unfold fRepr at hz
 split at hz
 ·rename_i d
  obtain ⟨v,rfl,q⟩:=qs.one_inv
  obtain ⟨u,rfl,ru⟩:=vals1 r
  cases e:toPy d with
  | none=>rw [e] at hz; cases hz
  | some py=>
   rw [e] at hz
   simp only at hz
   split at hz
   ·rename_i ok
    cases hz
    obtain ⟨as,rd,hn⟩:=reads_ok I d v u py q ru e
    have hu:X.A.units + (py.depth + 1) < cLine:=by have:=hr.un; have:=ok.2.1; omega
    have hsm:py.hasDict=true→sysModules ∉ as:=fun hd=>by
     rcases ok.2.2.2 with z | z
     ·rw [z] at hd; cases hd
     ·exact hn z
    have fin:∀ tk h' t,(∀ b o,s.heap.get? b=some o→h'.get? b=some o)→EP X pins σ Q (.str py.shown t) { s with heap:=h',toks:=tk }:=fun tk h' t hk=>⟨.str py.shown,H,I.kept hk,⟨t,rfl⟩,p'.ret RD.mkS hS⟩
    have stay:∀ b o,s.heap.get? b=some o→s.heap.get? b=some o:=fun _ _ z=>z
    cases rd with
    | none=>exact PySem.P.repr_of_none (fin _ _ _ stay)
    | bool b=>
     have z:=fin (s.toks + 1) s.heap s.toks stay
     unfold PyData.shown at z
     refine PySem.P.repr_of_bool ?_
     cases b <;> exact z
    | int i t=>exact PySem.P.repr_of_int (of_decide_eq_true (by have:=ok.1; unfold PyData.showable at this; exact this)) (fin _ _ _ stay)
    | str x t=>exact PySem.P.repr_of_str (fin _ _ _ stay) (by have:=ok.2.2.1; unfold PyData.shown at this; exact this)
    | list h1 h2 h3 h4=>exact repr_of_reads' (.list h1 h2 h3 h4) ok.1 hsm hr.gd hu stay (fun h' u tk hk=>fin tk h' u hk) ok.2.2.1
    | tuple h1 h2 h3 h4=>exact repr_of_reads' (.tuple h1 h2 h3 h4) ok.1 hsm hr.gd hu stay (fun h' u tk hk=>fin tk h' u hk) ok.2.2.1
    | dict h1 h2 h3 h4 h5=>exact repr_of_reads' (.dict h1 h2 h3 h4 h5) ok.1 hsm hr.gd hu stay (fun h' u tk hk=>fin tk h' u hk) ok.2.2.1
   ·cases hz
 ·cases hz
end
end PD
namespace PD
open PySem PySem.Spec PyProof.Rows L2
section
variable {K:PySem.W.Frag} {w:Wd} {H:Hp}
structure Mv (w:Wd) (H:Hp) (w2:Wd) (H2:Hp):Prop where
 st:∀ (n:Nat) (a:Addr),w.st[n]?=some a→w2.st[n]?=some a
 at_:∀ a o,At w H a o→At w2 H2 a o
mutual
theorem RD.mv {w2:Wd} {H2:Hp} (x:Mv w H w2 H2):∀ (d:D) (v:V),RD K w H d v→RD K w2 H2 d v
 | .non,_,h=>h
 | .bl _,_,h=>h
 | .int _,_,h=>h
 | .str _,_,h=>h
 | .tup ds,v,h=>by
  unfold RD at h ⊢
  obtain ⟨a,vs,e,p,r⟩:=h
  exact ⟨a,vs,e,p.imp (x.at_ _ _) id,RDs.mv x ds vs r⟩
 | .lst ds,v,h=>by
  unfold RD at h ⊢
  obtain ⟨a,vs,e,p,r⟩:=h
  exact ⟨a,vs,e,x.at_ _ _ p,RDs.mv x ds vs r⟩
 | .fz ds,v,h=>by
  unfold RD at h ⊢
  obtain ⟨a,vs,e,p,r⟩:=h
  exact ⟨a,vs,e,p.imp (fun ⟨o,z⟩=>⟨o,x.at_ _ _ z⟩) id,RDs.mv x ds vs r⟩
 | .dic kvs,v,h=>by
  unfold RD at h ⊢
  obtain ⟨a,us,e,p,r⟩:=h
  exact ⟨a,us,e,x.at_ _ _ p,RDk.mv x kvs us r⟩
 | .ref n,v,h=>by
  unfold RD at h ⊢
  obtain ⟨a,e,p⟩:=h
  exact ⟨a,e,x.st n a p⟩
 | .ty _,_,h=>h
 | .exc c,v,h=>by
  unfold RD at h ⊢
  obtain ⟨a,C,o,e,q,p⟩:=h
  exact ⟨a,C,o,e,q,x.at_ _ _ p⟩
 | .cls _,_,h=>h
theorem RDs.mv {w2:Wd} {H2:Hp} (x:Mv w H w2 H2):∀ (ds:List D) (vs:List V),RDs K w H ds vs→RDs K w2 H2 ds vs
 | [],_,h=>h
 | d :: ds,vs,h=>by
  unfold RDs at h ⊢
  obtain ⟨v,r,e,p,q⟩:=h
  exact ⟨v,r,e,RD.mv x d v p,RDs.mv x ds r q⟩
theorem RDk.mv {w2:Wd} {H2:Hp} (x:Mv w H w2 H2):∀ (ds:List (Sum Int Str × D)) (vs:List (Key × V)),RDk K w H ds vs→RDk K w2 H2 ds vs
 | [],_,h=>h
 | (k,d) :: ds,vs,h=>by
  unfold RDk at h ⊢
  obtain ⟨v,r,e,p,q⟩:=h
  exact ⟨v,r,e,RD.mv x d v p,RDk.mv x ds r q⟩
end
theorem RO.mv {w2:Wd} {H2:Hp} (x:Mv w H w2 H2) {a:Addr} {o:SO} (hk:∀ u,H a=some u→H2 a=some u) (r:RO K w H a o):RO K w2 H2 a o:=by
 cases o with
 | lst ds=>obtain ⟨vs,e,q⟩:=r; exact ⟨vs,hk _ e,RDs.mv x _ _ q⟩
 | dic kvs=>obtain ⟨vs,e,q⟩:=r; exact ⟨vs,hk _ e,RDk.mv x _ _ q⟩
 | fdic kvs=>obtain ⟨o,vs,e,q⟩:=r; exact ⟨o,vs,hk _ e,RDk.mv x _ _ q⟩
 | ins c fs=>exact r
 | flst ds=>obtain ⟨o,vs,e,q⟩:=r; exact ⟨o,vs,hk _ e,RDs.mv x _ _ q⟩
theorem RSt.mv {w2:Wd} {H2:Hp} {r:Rho} {s:L2.St} (x:Mv w H w2 H2) (h:RSt K w H r s):RSt K w2 H2 r s:=
 ⟨h.1,fun i d e=>let ⟨v,e1,q⟩:=h.2 i d e; ⟨v,e1,RD.mv x d v q⟩⟩
theorem Ext.hide {p:Addr} {o:HO} (hp:H p=none):Ext w H (w.hide p) (upd H p o):=
 ⟨fun a u e _=>by rw [upd_ne (ne_of_none e hp)]; exact e,⟨[],by simp [Wd.hide],fun _ z=>nomatch z⟩,fun a h=>List.mem_cons_of_mem _ h,fun a h=>(List.mem_cons.mp h).elim (fun e=>.inr (e ▸ hp)) .inl,fun a o u e=>by rw [upd_ne (ne_of_none e hp)]; exact e⟩
noncomputable def Wd.unhide (w:Wd) (p:Addr):Wd:=⟨w.st,w.hid.filter fun a=>decide (a ≠ p)⟩
theorem Wd.mem_unhide {p a:Addr} (h:a ∈ (w.unhide p).hid):a ∈ w.hid∧a ≠ p:=⟨(List.mem_filter.mp h).1,of_decide_eq_true (List.mem_filter.mp h).2⟩
theorem Mv.write {p:Addr} {o:HO} (hp:p ∈ w.hid):Mv w H w (upd H p o):=
 ⟨fun _ _ z=>z,fun a u h=>⟨by rw [upd_ne (fun z:a=p=>h.2.2 (z ▸ hp))]; exact h.1,h.2⟩⟩
theorem Mv.unhide {p:Addr}:Mv w H (w.unhide p) H:=
 ⟨fun _ _ z=>z,fun a u h=>⟨h.1,h.2.1,fun z=>h.2.2 (Wd.mem_unhide z).1⟩⟩
theorem RS.hide {p:Addr} {o:HO} {S:Sto} (s:RS K w H S) (hp:H p=none):RS K (w.hide p) (upd H p o) S:=by
 refine ⟨s.nd,s.len,fun n so e=>?_,fun a ha=>?_⟩
 ·obtain ⟨a,ha,r⟩:=s.obj n so e
  exact ⟨a,ha,r.ext (Ext.hide hp) fun u z=>by rw [upd_ne (ne_of_none z hp)]; exact z⟩
 ·rcases List.mem_cons.mp ha with z | z
  ·subst z; exact ⟨s.freshS hp,o,upd_same⟩
  ·obtain ⟨h1,u,e⟩:=s.hid a z
   exact ⟨h1,u,by rw [upd_ne (ne_of_none e hp)]; exact e⟩
theorem RS.write {p:Addr} {o:HO} {S:Sto} (s:RS K w H S) (hp:p ∈ w.hid):RS K w (upd H p o) S:=by
 have np:=(s.hid p hp).1
 refine ⟨s.nd,s.len,fun n so e=>?_,fun a ha=>?_⟩
 ·obtain ⟨a,ha,r⟩:=s.obj n so e
  have:a ≠ p:=fun z=>np (z ▸ List.mem_of_getElem? ha)
  exact ⟨a,ha,r.mv (Mv.write hp) fun u z=>by rw [upd_ne this]; exact z⟩
 ·obtain ⟨h1,u,e⟩:=s.hid a ha
  by_cases z:a=p
  ·subst z; exact ⟨h1,o,upd_same⟩
  ·exact ⟨h1,u,by rw [upd_ne z]; exact e⟩
theorem RS.unhide {p:Addr} {S:Sto} (s:RS K w H S):RS K (w.unhide p) H S:=
 ⟨s.nd,s.len,fun n so e=>by
  obtain ⟨a,ha,r⟩:=s.obj n so e
  exact ⟨a,ha,r.mv Mv.unhide fun u z=>z⟩,fun a ha=>s.hid a (Wd.mem_unhide ha).1⟩
theorem cap_rel {r:Rho} {s:L2.St} (k:Nat) (caps:List Nat) (h:RSt K w H r s):RSt K w H (capOf k caps r) (capSt k caps s):=by
 unfold capOf capSt
 refine ⟨by simp,fun i d e=>?_⟩
 by_cases hi:i < k
 ·rw [List.getElem?_append_left (by simpa using hi),List.getElem?_replicate] at e
  split at e <;> cases e
 ·rw [List.getElem?_append_right (by simpa using hi),List.getElem?_map,List.length_replicate] at e
  rw [List.getElem?_append_right (by simpa using hi),List.getElem?_map,List.length_replicate]
  cases ec:caps[i - k]? with
  | none=>rw [ec] at e; cases e
  | some j=>
   rw [ec] at e
   have e':(r[j]?).join=some d:=Option.some.inj e
   have hj:r[j]?=some (some d):=by
    cases q:r[j]? with
    | none=>rw [q] at e'; cases e'
    | some o=>rw [q] at e'; rw [show o=some d from e']
   obtain ⟨v,ev,rv⟩:=h.2 j d hj
   exact ⟨v,by show some ((s[j]?).join)=some (some v); rw [ev]; rfl,rv⟩
end
noncomputable abbrev SIf (X:Cx) (E:XK) (ifs:List Expr) (m:TM):Prop:=Bx (PIfs X ifs (uT X.K E m))
theorem sif_nil {X:Cx} {E:XK}:SIf X E [] tTrue:=⟨fun pins s σ H Q I zq=>ex6 zq fun w r S hr hS hp=>pifs_nil pins s σ H Q I (hp.ret rfl hS)⟩
theorem sif_one {X:Cx} {E:XK} {c:Expr} {m:TM} (h:ST X E c m):SIf X E [c] m:=⟨pifs_one h.out⟩
theorem se_compQ {qb:Bool} {X:Cx} {E:XK} {elt tg iter:Expr} {ifs:List Expr} {scope:Scope} {pos:Pos} {N:List Str} {k:Nat} {caps:List Nat} {it:AM} {g:G} {mt:TM} {me:EM} (hX:Cd qb X) (hxe:∀ e s,¬ X.xe e s) (C:CompScope X N k caps scope)
  (hi:SIb qb X E tg iter it) (hg:∀ cl s0 H0 ex,Cd qb (cxC X N scope cl s0 H0 ex)→SG (cxC X N scope cl s0 H0 ex) tg g) (ht:∀ cl s0 H0 ex,Cd qb (cxC X N scope cl s0 H0 ex)→SIf (cxC X N scope cl s0 H0 ex) E ifs mt) (he:∀ cl s0 H0 ex,Cd qb (cxC X N scope cl s0 H0 ex)→SE (cxC X N scope cl s0 H0 ex) E elt me)
  (hs:autoParam (∀ x,foldedSetIterable iter X.env x=pure x) Au.h4._auto_1):SE X E (.ListComp elt [⟨tg,iter,ifs,0⟩] scope pos) (eComp it k caps g mt me):=⟨
 pe_weak (pe_compQ hX hxe C hi.out (g:=uG X.K g) (fun cl s0 H0 ex z=>(hg cl s0 H0 ex z).out) (tt:=uT X.K E mt) (fun cl s0 H0 ex z=>(ht cl s0 H0 ex z).out) (te:=uE X.K E me) (fun cl s0 H0 ex z=>(he cl s0 H0 ex z).out) hs) fun s H Q zq=>ex6 zq fun w r S hr hS hp=>⟨w,r,S,hr,hS,hp.bind hS fun ds S1 w1 H1 J x1 q1 s1 p1=>by
  intro p hp
  have hr1:=hr.ext x1
  have pno:p ∉ w1.hid:=(s1.fresh hp).2
  have hz:ds.length≤sizeLine:=by
   rcases Nat.lt_or_ge sizeLine ds.length with z | z
   ·rw [if_neg (by omega)] at p1; exact p1.elim
   ·exact z
  rw [if_pos hz] at p1
  -- the list is made at p,which is hidden
  refine ⟨fun i n s' H'=>n=ds.length - i∧i≤ds.length∧∃ w' r' S' ys vs,Ext w1 H1 w' H'∧p ∈ w'.hid∧RSt X.K w' H' r' s'∧RS X.K w' H' S'∧H' p=some (.lst vs)∧RDs X.K w' H' ys vs∧ys.length≤i∧
    Post X.K E (RD X.K) w1 H1 ((compL g mt me (ds.drop i) r' S').bind fun zs S2=>R.ok (.lst (ys ++ zs)) S2) Q,
   ⟨ds.length,by simp,Nat.zero_le _,w1.hide p,capOf k caps r,S1,[],[],Ext.hide hp,List.mem_cons_self,(cap_rel k caps hr1).ext (Ext.hide hp),s1.hide hp,upd_same,.nil,Nat.le_refl _,p1⟩,?_⟩
  rintro i n s2 H2 ⟨rfl,hi.out,w2,r2,S2,ys,vs,x2,hph,hr2,hS2,hpv,ry,hyl,hp2⟩
  have hpn:p ∉ w2.st:=(hS2.hid p hph).1
  by_cases hlt:i < ds.length
  ·obtain ⟨go,yld⟩:=(q1 i w2 H2 x2).1 hlt
   refine .inr ⟨go,fun s' H'=>∃ w' r' S' ys vs,Ext w1 H1 w' H'∧p ∈ w'.hid∧RSt X.K w' H' r' s'∧RS X.K w' H' S'∧H' p=some (.lst vs)∧RDs X.K w' H' ys vs∧ys.length≤i + 1∧
     Post X.K E (RD X.K) w1 H1 ((compL g mt me (ds.drop (i + 1)) r' S').bind fun zs S2=>R.ok (.lst (ys ++ zs)) S2) Q,
    fun s' H' hN=>⟨ds.length - (i + 1),by omega,rfl,hlt,hN⟩,fun x H3 hy=>?_⟩
   obtain ⟨gr,rd⟩:=yld x H3 hy
   obtain ⟨d,ed,qd⟩:=rd S2 hS2
   obtain ⟨x3,s3⟩:=grown_ok gr hS2
   have hdrop:ds.drop i=d :: ds.drop (i + 1):=by
    rw [List.drop_eq_getElem_cons hlt]
    rw [List.getElem?_eq_getElem hlt] at ed
    cases ed; rfl
   rw [hdrop] at hp2
   have hpv3:H3 p=some (.lst vs):=x3.keep _ _ hpv hpn
   have ry3:=RDs.ext x3 _ _ ry
   have x13:Ext w1 H1 w2 H3:=x2.trans' x3 s1 hS2
   unfold compL at hp2
   cases e:g.put d r2 with
   | none=>rw [e] at hp2; exact hp2.elim
   | some r3=>
    rw [e] at hp2
    refine ⟨w2,r2,d,r3,hr2.ext x3,qd,e,fun s4 hr4=>⟨w2,r3,S2,hr4,s3,?_⟩⟩
    -- hp2:(mt r3 S2).bind .. |>.bind ..
    have hass:∀ {A B C:Type} (r:R A) (f:A→Sto→R B) (h:B→Sto→R C),(r.bind f).bind h=r.bind fun a S=>(f a S).bind h:=fun r f h=>by cases r <;> rfl
    simp only [hass] at hp2
    refine Post.bindAt (rel:=RB) hp2 x13 s1 s3 fun c S5 w5 H5 c' x5 q5 s5 p5=>?_
    have ec:c'=c:=q5
    subst ec
    have x15:Ext w1 H1 w5 H5:=x13.trans' x5 s1 s3
    have hph5:p ∈ w5.hid:=x5.hid p hph
    have hpv5:H5 p=some (.lst vs):=x5.keep _ _ hpv3 hpn
    cases c' with
    | false=>
     refine iteF ⟨w5,r3,S5,ys,vs,x15,hph5,hr4.ext x5,s5,hpv5,RDs.ext x5 _ _ ry3,Nat.le_succ_of_le hyl,p5⟩
    | true=>
     refine iteT ⟨w5,r3,S5,hr4.ext x5,s5,?_⟩
     have p5':Post X.K E (RD X.K) w1 H1 (((me r3 S5).bind fun y S2=>(compL g mt me (ds.drop (i + 1)) r3 S2).bind fun ys S3=>R.ok (y :: ys) S3).bind fun zs S2=>R.ok (D.lst (ys ++ zs)) S2) Q:=p5
     simp only [hass] at p5'
     refine Post.bindAt (rel:=RD X.K) p5' x15 s1 s5 fun y S6 w6 H6 yv x6 q6 s6 p6=>?_
     have x16:Ext w1 H1 w6 H6:=x15.trans' x6 s1 s5
     have hph6:p ∈ w6.hid:=x6.hid p hph5
     have hpn5:p ∉ w5.st:=(s5.hid p hph5).1
     have hpn6:p ∉ w6.st:=(s6.hid p hph6).1
     have hpv6:H6 p=some (.lst vs):=x6.keep _ _ hpv5 hpn5
     have ry6:=RDs.ext x6 _ _ (RDs.ext x5 _ _ ry3)
     refine ⟨vs,hpv6,by rw [ry6.length]; omega,w6,r3,S6,ys ++ [y],vs ++ [yv],⟨fun a o h n=>?_,x16.sub,x16.hid,x16.hnew,fun a o u h=>by have z:=x16.frz a o u h; rw [upd_ne (fun e:a=p=>by rw [e,hpv6] at z; cases z)]; exact z⟩,hph6,(hr4.ext x5).ext x6 |>.mv (Mv.write hph6),s6.write hph6,upd_same,(RDs.mv (Mv.write hph6) _ _ ry6).append (.cons (RD.mv (Mv.write hph6) _ _ q6) .nil),by simp; omega,?_⟩
     ·have:a ≠ p:=ne_of_none h hp
      rw [upd_ne this]; exact x16.keep a o h n
     ·have he2:∀ zs:List D,(ys ++ [y]) ++ zs=ys ++ y :: zs:=fun zs=>by simp
      simp only [he2]
      exact p6
  ·have e:i=ds.length:=by omega
   subst e
   rw [List.drop_length] at hp2
   refine .inl ⟨(q1 _ w2 H2 x2).2 (Nat.le_refl _),?_⟩
   have hp3:Post X.K E (RD X.K) w1 H1 (R.ok (D.lst (ys ++ [])) S2) Q:=hp2
   rw [List.append_nil] at hp3
   refine Post.at hp3 (w1:=w2.unhide p) ⟨x2.keep,x2.sub,fun a h=>List.mem_filter.mpr ⟨x2.hid a h,decide_eq_true fun z=>pno (z ▸ h)⟩,fun a h=>x2.hnew a (Wd.mem_unhide h).1,x2.frz⟩ ?_ hS2.unhide
   unfold RD
   exact ⟨p,vs,rfl,⟨hpv,hpn,fun z=>(Wd.mem_unhide z).2 rfl⟩,RDs.mv Mv.unhide _ _ ry⟩⟩⟩
theorem se_comp {X:Cx} {E:XK} {elt tg iter:Expr} {ifs:List Expr} {scope:Scope} {pos:Pos} {N:List Str} {k:Nat} {caps:List Nat} {it:AM} {g:G} {mt:TM} {me:EM} (hX:X.calm=true) (hxe:∀ e s,¬ X.xe e s) (C:CompScope X N k caps scope)
  (hi:SI X E tg iter it) (hg:∀ cl s0 H0 ex,SG (cxC X N scope cl s0 H0 ex) tg g) (ht:∀ cl s0 H0 ex,SIf (cxC X N scope cl s0 H0 ex) E ifs mt) (he:∀ cl s0 H0 ex,SE (cxC X N scope cl s0 H0 ex) E elt me)
  (hs:autoParam (∀ x,foldedSetIterable iter X.env x=pure x) Au.h4._auto_1):SE X E (.ListComp elt [⟨tg,iter,ifs,0⟩] scope pos) (eComp it k caps g mt me):=se_compQ (qb:=false) (.inl hX) hxe C hi (fun a b c d _=>hg a b c d) (fun a b c d _=>ht a b c d) (fun a b c d _=>he a b c d) hs
end PD
namespace PD
open PySem PySem.Spec PyProof.Rows L2
noncomputable abbrev KD:=Sum Int Str
noncomputable def keyD:D→Option KD
 | .int i=>some (.inl i)
 | .str x=>some (.inr x)
 | _=>none
noncomputable def putD (kvs:List (KD × D)) (k:KD) (d:D):List (KD × D):=
 if kvs.any (fun kv=>decide (kv.1=k)) then kvs.map (fun kv=>if kv.1=k then (kv.1,d) else kv) else kvs ++ [(k,d)]
noncomputable def mergeD (kvs more:List (KD × D)):List (KD × D):=more.foldl (fun acc kv=>putD acc kv.1 kv.2) kvs
noncomputable def keysD:List (D × D)→Option (List (KD × D))
 | []=>some []
 | (k,v) :: r=>match keyD k,keysD r with
  | some k',some r'=>some ((k',v) :: r')
  | _,_=>none
noncomputable def pM:List (EM × EM)→Rho→Sto→R (List (D × D))
 | [],_,S=>.ok [] S
 | (a,b) :: t,r,S=>(a r S).bind fun x S1=>(b r S1).bind fun y S2=>(pM t r S2).bind fun ps S3=>.ok ((x,y) :: ps) S3
noncomputable def eDic (ms:List (EM × EM)):EM:=fun r S=>(pM ms r S).bind fun ps S1=>match keysD ps with
 | some kvs=>if kvs.length≤15 then .ok (.dic (mergeD [] kvs)) S1 else .bad
 | none=>.bad
section
variable {K:PySem.W.Frag} {w:Wd} {H:Hp}
theorem RDk.nil:RDk K w H [] []:=by unfold RDk; rfl
theorem RDk.cons {k:KD} {d:D} {v:V} {ds:List (KD × D)} {vs:List (Key × V)} (r:RD K w H d v) (q:RDk K w H ds vs):RDk K w H ((k,d) :: ds) ((k,v) :: vs):=by unfold RDk; exact ⟨v,vs,rfl,r,q⟩
theorem RDk.nil_inv {vs:List (Key × V)} (h:RDk K w H [] vs):vs=[]:=by unfold RDk at h; exact h
theorem RDk.cons_inv {k:KD} {d:D} {ds:List (KD × D)} {vs:List (Key × V)} (h:RDk K w H ((k,d) :: ds) vs):∃ v r,vs=(k,v) :: r∧RD K w H d v∧RDk K w H ds r:=by unfold RDk at h; exact h
theorem RDk.append:∀ {ds es:List (KD × D)} {vs us:List (Key × V)},RDk K w H ds vs→RDk K w H es us→RDk K w H (ds ++ es) (vs ++ us)
 | [],_,_,_,h,q=>by rw [h.nil_inv]; exact q
 | (_,_) :: _,_,_,_,h,q=>by
  obtain ⟨v,r,rfl,p,t⟩:=h.cons_inv
  exact .cons p (RDk.append t q)
theorem RDk.any:∀ {ds:List (KD × D)} {vs:List (Key × V)} (k:KD),RDk K w H ds vs→(ds.any fun kv=>decide (kv.1=k))=(vs.any fun kv=>decide (kv.1=k))
 | [],_,_,h=>by rw [h.nil_inv]; rfl
 | (_,_) :: _,_,k,h=>by
  obtain ⟨v,r,rfl,p,t⟩:=h.cons_inv
  rw [List.any_cons,List.any_cons,RDk.any k t]
theorem RDk.repl {d:D} {v:V} (r:RD K w H d v):∀ {ds:List (KD × D)} {vs:List (Key × V)} (k:KD),RDk K w H ds vs→RDk K w H (ds.map fun kv=>if kv.1=k then (kv.1,d) else kv) (vs.map fun kv=>if kv.1=k then (kv.1,v) else kv)
 | [],_,_,h=>by rw [h.nil_inv]; exact .nil
 | (j,_) :: _,_,k,h=>by
  obtain ⟨v',r',rfl,p,t⟩:=h.cons_inv
  simp only [List.map_cons]
  by_cases hj:j=k
  ·rw [if_pos hj,if_pos hj]; exact .cons r (RDk.repl r k t)
  ·rw [if_neg hj,if_neg hj]; exact .cons p (RDk.repl r k t)
theorem RDk.put {ds:List (KD × D)} {vs:List (Key × V)} {d:D} {v:V} (q:RDk K w H ds vs) (k:KD) (r:RD K w H d v):RDk K w H (putD ds k d) (putK vs k v):=by
 unfold putD putK
 rw [q.any k]
 split
 ·exact q.repl r k
 ·exact q.append (.cons r .nil)
theorem RDk.merge:∀ {more:List (KD × D)} {mvs:List (Key × V)} {ds:List (KD × D)} {vs:List (Key × V)},RDk K w H more mvs→RDk K w H ds vs→RDk K w H (mergeD ds more) (mergeK vs mvs)
 | [],_,_,_,h,q=>by rw [h.nil_inv]; exact q
 | (k,d) :: r,_,ds,vs,h,q=>by
  obtain ⟨v',r',rfl,p,t⟩:=h.cons_inv
  show RDk K w H (mergeD (putD ds k d) r) (mergeK (putK vs k v') r')
  exact RDk.merge t (q.put k p)
theorem keyD_ok {d:D} {v:V} {k:KD} (q:RD K w H d v) (h:keyD d=some k):v=kV k:=by
 cases d with
 | int i=>cases q.int; cases h; rfl
 | str x=>cases q.str; cases h; rfl
 | _=>cases h
noncomputable def RPs (K:PySem.W.Frag) (w:Wd) (H:Hp):List (D × D)→List (V × V)→Prop
 | [],vs=>vs=[]
 | (a,b) :: r,vs=>∃ x y t,vs=(x,y) :: t∧RD K w H a x∧RD K w H b y∧RPs K w H r t
theorem keysD_ok:∀ {ps:List (D × D)} {vs:List (V × V)} {kvs:List (KD × D)},RPs K w H ps vs→keysD ps=some kvs→∃ us:List (Key × V),vs=us.map (fun kv=>(kV kv.1,kv.2))∧RDk K w H kvs us
 | [],_,_,h,e=>by
  have h':_=[]:=h
  subst h'
  unfold keysD at e
  cases e
  exact ⟨[],rfl,.nil⟩
 | (a,b) :: r,_,kvs,h,e=>by
  obtain ⟨u,v,t,rfl,h1,h2,h3⟩:=h
  unfold keysD at e
  cases e1:keyD a with
  | none=>rw [e1] at e; cases e
  | some k=>
   cases e2:keysD r with
   | none=>rw [e1,e2] at e; cases e
   | some r'=>
    rw [e1,e2] at e; cases e
    obtain ⟨us,rfl,q⟩:=keysD_ok h3 e2
    exact ⟨(k,v) :: us,by rw [keyD_ok h1 e1]; rfl,.cons h2 q⟩
end
section
variable {X:Cx} {E:XK} {pos:Pos}
noncomputable def uPs (K:PySem.W.Frag) (E:XK) (ms:List (EM × EM)):List (TE × TE):=ms.map fun p=>(uE K E p.1,uE K E p.2)
theorem tp_ok {A2 B2:Type} {K:PySem.W.Frag} {rel2:Wd→Hp→A2→B2→Prop} {w0:Wd} {H0:Hp} {S0:Sto} {Q:B2→Hp→Prop} (s0:RS K w0 H0 S0):∀ (ms:List (EM × EM)) {w:Wd} {H:Hp} {S:Sto} {r:Rho} {s:L2.St} {f:List (D × D)→Sto→R A2} {Q':List (V × V)→Hp→Prop},RSt K w H r s→RS K w H S→Ext w0 H0 w H→
  Post K E rel2 w0 H0 ((pM ms r S).bind f) Q→(∀ ps S1 w1 H1 vs,Ext w H w1 H1→RPs K w1 H1 ps vs→RS K w1 H1 S1→Post K E rel2 w0 H0 (f ps S1) Q→Q' vs H1)→tPairs (uPs K E ms) s H Q'
 | [],w,H,S,r,s,f,Q',hr,hS,x,hp,k=>k [] S w H [] (Ext.refl _ _) rfl hS hp
 | (a,b) :: t,w,H,S,r,s,f,Q',hr,hS,x,hp,k=>by
  have hass:∀ {A B C:Type} (r:R A) (f:A→Sto→R B) (h:B→Sto→R C),(r.bind f).bind h=r.bind fun a S=>(f a S).bind h:=fun r f h=>by cases r <;> rfl
  unfold pM at hp
  rw [hass] at hp
  refine ⟨w,r,S,hr,hS,Post.bindAt (rel:=RD K) hp x s0 hS fun d S1 w1 H1 u x1 q1 s1 p1=>?_⟩
  rw [hass] at p1
  have x01:=x.trans' x1 s0 hS
  refine ⟨w1,r,S1,hr.ext x1,s1,Post.bindAt (rel:=RD K) p1 x01 s0 s1 fun e S2 w2 H2 v x2 q2 s2 p2=>?_⟩
  rw [hass] at p2
  have x02:=x01.trans' x2 s0 s1
  exact tp_ok s0 t ((hr.ext x1).ext x2) s2 x02 p2 fun ps S3 w3 H3 vs x3 q3 s3 p3=>
   k ((d,e) :: ps) S3 w3 H3 ((u,v) :: vs) ((x1.trans' x2 hS s1).trans' x3 hS s2) ⟨u,v,vs,rfl,RD.ext x3 _ _ (RD.ext x2 _ _ q1),RD.ext x3 _ _ q2,q3⟩ s3 p3
noncomputable abbrev SPs (X:Cx) (E:XK) (pos:Pos) (keys:List (Option Expr)) (values:List Expr) (ms:List (EM × EM)):Prop:=Bx (PPs X pos keys values (uPs X.K E ms))
theorem sps_nil:SPs X E pos [] [] []:=⟨pps_nil⟩
theorem sps_cons {k v:Expr} {ks:List (Option Expr)} {vs:List Expr} {mk mv:EM} {ms:List (EM × EM)} (hk:SE X E k mk) (hv:SE X E v mv) (hr:SPs X E pos ks vs ms):SPs X E pos (some k :: ks) (v :: vs) ((mk,mv) :: ms):=⟨pps_cons hk.out hv.out hr.out⟩
theorem disp_core {keys:List (Option Expr)} {values:List Expr} {ms:List (EM × EM)} {m:EM} {s:L2.St} {H:Hp} {Q:VK} {fin:List (KD × D)→Sto→R D}
  (hm:∀ r S,m r S=(pM ms r S).bind fun ps S1=>match keysD ps with | some kvs=>if kvs.length≤15 then fin kvs S1 else .bad | none=>.bad)
  (hfin:∀ (kvs:List (KD × D)) (us:List (Key × V)) (w0 w:Wd) (H0 H:Hp) (S0 S:Sto) (p:Addr),H0 p=none→RS X.K w0 H0 S0→RS X.K w H S→Ext w0 H0 w H→p ∈ w.hid→RDk X.K w H (mergeD [] kvs) (mergeK [] us)→Post X.K E (RD X.K) w0 H0 (fin kvs S) Q→Q (.ref p) (upd H p (.dK (mergeK [] us))))
  (h:uE X.K E m s H Q):tDisp (uPs X.K E ms) s H Q:=by
 obtain ⟨w,r,S,hr,hS,hp⟩:=h
 rw [hm] at hp
 intro p hpn
 refine tp_ok hS ms (hr.ext (Ext.hide hpn)) (hS.hide hpn) (Ext.hide hpn) hp fun ps S1 w1 H1 vs x1 q1 s1 p1=>?_
 have hh:p ∈ w1.hid:=x1.hid p List.mem_cons_self
 have hx:Ext w H w1 H1:=(Ext.hide hpn).trans' x1 hS (hS.hide hpn)
 refine ⟨x1.keep p _ upd_same ((hS.hide (o:=HO.dK []) hpn).hid p List.mem_cons_self).1,?_⟩
 cases e:keysD ps with
 | none=>rw [e] at p1; exact p1.elim
 | some kvs=>
  rw [e] at p1
  obtain ⟨us,rfl,rk⟩:=keysD_ok q1 e
  have hl:=rk.length
  by_cases hz:kvs.length≤15
  ·have p2:Post X.K E (RD X.K) w H (if kvs.length≤15 then fin kvs S1 else R.bad) Q:=p1
   rw [if_pos hz] at p2
   exact ⟨us,rfl,by rw [hl]; exact hz,hfin kvs us w w1 H H1 S S1 p hpn hS s1 hx hh (rk.merge .nil) p2⟩
  ·have p2:Post X.K E (RD X.K) w H (if kvs.length≤15 then fin kvs S1 else R.bad) Q:=p1
   rw [if_neg hz] at p2
   exact p2.elim
theorem se_dic {keys:List (Option Expr)} {values:List Expr} {ms:List (EM × EM)} (h:SPs X E pos keys values ms) (hall:autoParam (keys.all (·.isSome)=true) Au.h0._auto_1) (hl:autoParam (keys.length=values.length) Au.h0._auto_1) (h0:keys ≠ []:=by intro z; cases z) (h15:autoParam (keys.length≤15) Au.h3._auto_1):
  SE X E (.Dict keys values pos) (eDic ms):=⟨
 pe_weak (pe_disp h.out hall hl h0 h15) fun s H Q q=>disp_core (keys:=keys) (values:=values) (fin:=fun kvs S1=>R.ok (.dic (mergeD [] kvs)) S1) (fun r S=>rfl) (fun kvs us w0 w H0 H S0 S p hp s0 s x hh rk p1=>by
  have hpn:=(s.hid p hh).1
  have mv:Mv w H (w.unhide p) (upd H p (.dK (mergeK [] us))):=⟨fun _ _ z=>z,fun a o z=>⟨by rw [upd_ne (fun y:a=p=>z.2.2 (y ▸ hh))]; exact z.1,z.2.1,fun y=>z.2.2 (Wd.mem_unhide y).1⟩⟩
  refine Post.at p1 (w1:=w.unhide p) ⟨fun a o h n=>by rw [upd_ne (ne_of_none h hp)]; exact x.keep a o h n,x.sub,fun a h=>List.mem_filter.mpr ⟨x.hid a h,decide_eq_true fun z=>(s0.fresh hp).2 (z ▸ h)⟩,fun a h=>x.hnew a (Wd.mem_unhide h).1,fun a o u h=>by rw [upd_ne (ne_of_none h hp)]; exact x.frz a o u h⟩ ?_ (s.write hh).unhide
  unfold RD
  exact ⟨p,_,rfl,⟨upd_same,hpn,fun z=>(Wd.mem_unhide z).2 rfl⟩,RDk.mv mv _ _ rk⟩) q⟩
end
end PD
namespace PD
open PySem PySem.Spec PyProof.Rows L2
noncomputable def ALen (m:AM) (n:Nat):Prop:=∀ r S ds S',m r S=.ok ds S'→ds.length=n
theorem alen_nil:ALen aNil 0:=fun r S ds S' h=>by unfold aNil at h; cases h; rfl
theorem alen_cons {a:EM} {t:AM} {n:Nat} (h:ALen t n):ALen (aCons a t) (n + 1):=fun r S ds S' e=>by
 unfold aCons at e
 cases e1:a r S with
 | bad=>rw [e1] at e; cases e
 | err x S1=>rw [e1] at e; cases e
 | ok d S1=>
  rw [e1] at e
  cases e2:t r S1 with
  | bad=>simp only [R.bind_ok,e2,R.bind_bad] at e; cases e
  | err x S2=>simp only [R.bind_ok,e2,R.bind_err] at e; cases e
  | ok es S2=>
   simp only [R.bind_ok,e2] at e
   cases e
   simp [h r S1 es _ e2]
section
variable {X:Cx} {E:XK}
theorem se_gi {x:Str} {i:Int} {pos:Pos} (hm:∃ t,X.mg x=some (.int i t)) (hg:Gl X x) (hd:autoParam ((x == ("__debug__":Str))=false) Au.h3._auto_1):SE X E (.Name x pos) (eC (.int i)):=by
 obtain ⟨t,e⟩:=hm
 exact se_gint hg e hd
end
section
variable {P:Program} {w:World} {K:PySem.W.Frag} {mg:Str→Option Value} {base:Heap}
end
noncomputable def capsOk (N0 N:List Str) (k:Nat) (scope:Scope):List Nat→Nat→Bool
 | [],_=>true
 | i :: r,t=>(match N0[i]?,N[k + t]? with
  | some x,some y=>x == y && scope.names.lookup x == some .free
  | _,_=>false) && capsOk N0 N k scope r (t + 1)
theorem capsOk_get {N0 N:List Str} {k:Nat} {scope:Scope}:∀ {caps:List Nat} {t0:Nat},capsOk N0 N k scope caps t0=true→∀ (t i:Nat),caps[t]?=some i→∃ x,N0[i]?=some x∧N[k + (t0 + t)]?=some x∧scope.names.lookup x=some .free
 | [],_,_,_,_,h=>by simp at h
 | j :: r,t0,h,t,i,e=>by
  unfold capsOk at h
  rw [Bool.and_eq_true] at h
  cases t with
  | zero=>
   simp at e
   subst e
   have h1:=h.1
   cases e1:N0[j]? with
   | none=>rw [e1] at h1; cases h1
   | some x=>
    cases e2:N[k + t0]? with
    | none=>rw [e1,e2] at h1; cases h1
    | some y=>
     rw [e1,e2] at h1
     simp only [Bool.and_eq_true] at h1
     have hxy:x=y:=eq_of_beq h1.1
     subst hxy
     exact ⟨x,rfl,by simpa using e2,eq_of_beq h1.2⟩
  | succ t=>
   obtain ⟨x,a,b,c⟩:=capsOk_get h.2 t i (by simpa using e)
   exact ⟨x,a,by rw [show t0 + (t + 1)=t0 + 1 + t by omega]; exact b,c⟩
theorem cs_mk {X:Cx} {N:List Str} {k:Nat} {caps:List Nat} {scope:Scope} (h1:scope.kind=.function) (h2:scope.names.all (fun x=>x.2 != .cell)=true) (h3:scope.names.all (fun x=>x.2 != .local || scope.names.lookup x.1 == some .local)=true)
  (h4:scope.names.all (fun x=>x.2 != .free || X.env.kindOf x.1 == some .cell || X.env.kindOf x.1 == some .free)=true) (h5:N.length=k + caps.length) (h6:capsOk X.N N k scope caps 0=true):CompScope X N k caps scope:=by
 refine ⟨h1,fun x hx z=>?_,fun x hx z=>?_,fun x hx z=>?_,h5,fun t i e=>?_⟩
 ·have:=List.all_eq_true.mp h2 x hx
  rw [z] at this; simp at this
 ·have:=List.all_eq_true.mp h3 x hx
  rw [z] at this
  simpa using this
 ·have:=List.all_eq_true.mp h4 x hx
  rw [z] at this
  simpa using this
 ·obtain ⟨x,a,b,c⟩:=capsOk_get h6 t i e
  exact ⟨x,a,by simpa using b,c⟩
theorem law_sp {f:FM} (h:∀ ns:List Int,ns.length≤63→∃ S,f [.fz (ns.map .int)] []=.ok (.bl true) S) (K:PySem.W.Frag) (H:Hp) (a:Addr) (ns:List Int) (hn:ns.length≤63) (ho:Only H) (hs:SqL K H a (ns.map V.int)):
  spM K 1 f [.ref a] H (fun v _=>v=.bl true) fun _ _ _=>False:=by
 obtain ⟨S,e⟩:=h ns hn
 have hfz:FzAt K ⟨[],[]⟩ H a (ns.map V.int):=by
  rcases hs with (hs | ⟨o,hs⟩) | hs
  ·rcases ho a with z | ⟨o,xs,z⟩
   ·rw [z] at hs; cases hs
   ·rw [z] at hs; cases hs
  ·exact .inl ⟨o,hs,(fun z=>nomatch z),(fun z=>nomatch z)⟩
  ·exact .inr hs
 have hints:∀ l:List Int,RDs K ⟨[],[]⟩ H (l.map D.int) (l.map V.int):=fun l=>by
  induction l with
  | nil=>exact .nil
  | cons i l ih=>exact .cons RD.mkI ih
 refine ⟨rfl,⟨[],[]⟩,[],[.fz (ns.map .int)],⟨List.nodup_nil,rfl,fun n o z=>?_,(fun a z=>nomatch z)⟩,.cons (by unfold RD; exact ⟨a,_,rfl,hfz,hints ns⟩) .nil,?_⟩
 ·simp at z
 ·rw [e]
  intro w' H' b x q s
  unfold RD at q
  exact q
end PD
namespace PD
open PySem L2
theorem oMul_i {S:Sto} {i j:Int} (h:smallI i ∨ smallI j):oMul S (.int i) (.int j)=some (.int (i * j)):=if_pos h
theorem oMod_i {S:Sto} {i j:Int} (h:0 < j):oMod S (.int i) (.int j)=some (.int (i % j)):=if_pos h
theorem oShl_i {S:Sto} {i:Nat} (h:i < 1000):oShl S (.int 1) (.int i)=some (.int (2 ^ i)):=by
 have:oShl S (.int 1) (.int i)=some (.int (1 * 2 ^ ((i:Int)).toNat)):=if_pos ⟨by omega,by omega,by decide⟩
 rw [this,Int.toNat_natCast,Int.one_mul]
theorem oPow_i {S:Sto} {i j:Int} (h:0≤j∧j≤1000000∧i.natAbs < 2 ^ 64):oPow S (.int i) (.int j)=some (.int (i ^ j.toNat)):=if_pos h
theorem oPow_10_12 {S:Sto}:oPow S (.int 10) (.int 12)=some (.int 1000000000000):=by
 rw [oPow_i ⟨by decide,by decide,by decide⟩]
 have e:(10:Int) ^ (12:Int).toNat=1000000000000:=by decide
 rw [e]
theorem oMul_t {S:Sto} {a:List D} {k:Int} (h:-(2 ^ 63)≤k∧k < 2 ^ 63∧a.length * k.toNat≤sizeLine):oMul S (.tup a) (.int k)=some (.tup (List.replicate k.toNat a).flatten):=if_pos h
theorem atI_nat' {A:Type} {xs:List A} {i:Nat} (h:i < xs.length):atI xs (i:Int)=some xs[i]:=atI_nat (List.getElem?_eq_getElem h)
end PD
namespace PD
open PySem PyProof.Rows L2
noncomputable def Sh (nl:Bool) (d:D):Prop:=∃ p,toPy d=some p∧p.showable=true∧p.depth≤3∧p.shown.length≤64∧(if nl=true then noL d=true else p.hasDict=false)
theorem sh_int {nl:Bool} {i:Int} (h:i.natAbs < 10 ^ 30):Sh nl (.int i):=by
 refine ⟨.int i,rfl,?_,by show 0≤3; omega,?_,?_⟩
 ·unfold PyData.showable
  refine decide_eq_true ?_
  have:i.natAbs < 2 ^ 1920:=Nat.lt_trans h (by decide +kernel)
  rcases Nat.eq_zero_or_pos i.natAbs with z | z
  ·rw [z]; decide
  ·exact (Nat.log2_lt (by omega)).mpr this
 ·have e:=PySem.int_text_length_le10 (k:=30) (by decide) h
  show (Str.ofString (toString i)).length≤64
  rw [PySem.ofString_length]; omega
 ·cases nl <;> rfl
theorem shs {nl:Bool}:∀ {xs:List D},(∀ x ∈ xs,Sh nl x)→∃ ps,toPys xs=some ps∧PyData.showableAll ps=true∧PyData.depthAll ps≤3∧((PyData.shownAll ps).map (·.length)).sum≤64 * xs.length∧(PyData.shownAll ps).length=xs.length∧(if nl=true then noLs xs=true else PyData.hasDictAll ps=false)
 | [],_=>⟨[],rfl,rfl,by show 0≤3; omega,by show 0≤_; omega,rfl,by cases nl <;> rfl⟩
 | x :: xs,h=>by
  obtain ⟨p,h1,h2,h3,h4,h5⟩:=h x List.mem_cons_self
  obtain ⟨ps,k1,k2,k3,k4,k5,k6⟩:=shs fun y hy=>h y (List.mem_cons_of_mem _ hy)
  refine ⟨p :: ps,by unfold toPys; rw [h1,k1],by unfold PyData.showableAll; rw [h2,k2]; rfl,by unfold PyData.depthAll; omega,?_,?_,?_⟩
  ·unfold PyData.shownAll
   rw [List.map_cons,List.sum_cons,List.length_cons]
   omega
  ·unfold PyData.shownAll
   rw [List.length_cons,List.length_cons,k5]
  ·cases nl with
   | true=>
    simp only [if_true] at h5 k6 ⊢
    unfold noLs
    rw [h5,k6]; rfl
   | false=>
    simp only [Bool.false_eq_true,if_false] at h5 k6 ⊢
    unfold PyData.hasDictAll
    rw [h5,k6]; rfl
theorem shows_tup {nl:Bool} {xs:List D} {S:Sto} (hl:xs.length≤1000) (h:∀ x ∈ xs,Sh nl x):∃ t,fRepr S [.tup xs]=some (.str t):=by
 obtain ⟨ps,k1,k2,k3,k4,k5,k6⟩:=shs h
 have e:toPy (.tup xs)=some (.tuple ps):=by unfold toPy; rw [k1]; rfl
 refine ⟨(PyData.tuple ps).shown,?_⟩
 have z:(100000:Nat)≤sizeLine:=by decide
 have ok:okPy (.tuple ps) (noL (.tup xs)):=⟨by unfold PyData.showable; exact k2,by unfold PyData.depth; omega,by
   unfold PyData.shown
   have:=tupleText_len_le (PyData.shownAll ps)
   omega,by
  cases nl with
  | true=>exact .inr (by unfold noL; simpa using k6)
  | false=>exact .inl (by unfold PyData.hasDict; simpa using k6)⟩
 show (match toPy (.tup xs) with | some p=>if okPy p (noL (.tup xs)) then some (D.str p.shown) else none | none=>none)=_
 rw [e]
 exact if_pos ok
end PD
namespace L2
open PySem PySem.Spec PyProof.Rows
noncomputable def Fly (l:List Env) (H':Hp) (h hs:Heap) (ea:Addr) (cls:Value):Prop:=
 ∃ (B:Heap) (a0:Value),Heap.FlyingW B l ea cls a0 hs∧(∀ b o,h.get? b=some o→b ∉ frs l→∃ o',B.get? b=some o')∧(∀ b u,H' b=some u→∃ o',B.get? b=some o')∧hs.Zat ea
noncomputable def CX1 (P:Program) (w:World):CXT:=fun outer H s E e s'=>
 ∃ ea cls H',e=.ref ea∧s'.os=s.os∧AllBare s'.gens∧Un (frs outer) [] H H' s.heap s'.heap∧HOk P w H' s'.heap∧Fly outer H' s.heap s'.heap ea cls∧E cls none H'
section
variable {P:Program} {w:World} {fs:List Addr} {H H':Hp} {h h1 h2 B:Heap} {l:List Env}
theorem ObjOk.thereO {a:Addr} {o:HO} (x:ObjOk P w H h a o):∃ ob,h.get? a=some ob:=by
 cases o with
 | lst xs=>obtain ⟨_,_,_,_,e⟩:=x; exact ⟨_,e⟩
 | tup xs=>obtain ⟨_,_,_,ob,e,_⟩:=x; exact ⟨_,e⟩
 | dK kvs=>obtain ⟨_,_,_,_,ob,_,_,e,_⟩:=x; exact ⟨_,e⟩
 | dT kvs=>obtain ⟨_,_,_,_,ob,_,_,e,_⟩:=x; exact ⟨_,e⟩
 | set S n=>obtain ⟨ob,_,_,_,e,_⟩:=x; exact ⟨_,e⟩
 | ins C dx fs=>obtain ⟨_,_,_,e,_⟩:=x; exact ⟨_,e⟩
 | own y=>exact x
 | xd fs=>obtain ⟨_,⟨_,_,_,e,_⟩,_⟩:=x; exact ⟨_,e⟩
 | rng lo hi=>obtain ⟨_,_,_,e⟩:=x; exact ⟨_,e⟩
 | frz ob u=>obtain ⟨e,_⟩:=x; exact ⟨_,e⟩
 | tbl ps=>exact ⟨_,x⟩
 | met f y=>exact ⟨_,x⟩
 | ext φ=>exact x.2.1
theorem Un.fly (u:Un fs [] H H' h h1) (b1:B.StaysIn h1) (b2:B.StaysIn h2) (old:∀ b o,h.get? b=some o→b ∉ fs→∃ o',B.get? b=some o') (up:h1.UpToSlots h2)
  (fr:∀ b ∈ fs,∀ o,h1.get? b=some o→∀ vs,o.data ≠ .fields vs):Un fs [] H H' h h2 where
 keep:=fun b o e n nf nx=>by
  obtain ⟨o',e'⟩:=old b o e nf
  have q:=b1 b o' e'
  rw [u.keep b o e n nf nx] at q
  cases q
  exact b2 b o e'
 slot:=fun b o e n hb nx=>by
  obtain ⟨sl,q⟩:=u.slot b o e n hb nx
  obtain ⟨sl',q'⟩:=up b _ q (fr b hb _ q)
  exact ⟨sl',q'⟩
 free:=u.free
 there:=fun b o e nx=>by
  by_cases hb:b ∈ fs
  ·obtain ⟨o1,q⟩:=u.there b o e nx
   obtain ⟨sl,q'⟩:=up b o1 q (fr b hb o1 q)
   exact ⟨_,q'⟩
  ·obtain ⟨o',e'⟩:=old b o e hb
   exact ⟨o',b2 b o' e'⟩
 tups:=u.tups
 frzs:=u.frzs
 tbls:=u.tbls
theorem HOk.fly (k:HOk P w H' h1) (b1:B.StaysIn h1) (b2:B.StaysIn h2) (tr:∀ b u,H' b=some u→∃ o',B.get? b=some o'):HOk P w H' h2:=fun a o e=>
 (k a o e).stay (fun b u hb q=>by
  have:∃ v,H' b=some v:=hb.elim (fun z=>⟨o,z ▸ e⟩) fun z=>⟨_,z⟩
  obtain ⟨v,hv⟩:=this
  obtain ⟨o',e'⟩:=tr b v hv
  have q':=b1 b o' e'
  rw [q] at q'
  cases q'
  exact b2 b u e') (fun _ z=>z) fun _ _ z=>z
theorem fly_frames {ea:Addr} {cls a0:Value} (f:Heap.FlyingW B l ea cls a0 h1):∀ b ∈ frs l,∀ o,h1.get? b=some o→∀ vs,o.data ≠ .fields vs:=fun b hb o e=>by
 obtain ⟨_,o',e',z⟩:=f.2.2.1.mem hb
 rw [e] at e'
 cases e'
 exact z
end
section
variable {X:Cx} {pins:List (Addr × Obj)} {σ:St} {H:Hp} {s s':Shared} {E:XK} {e:Value}
theorem Inv.old (I:Inv X pins σ H s) (hex:X.ex=[]) (hf:X.stack=X.env :: X.outer∧X.env.frame=some X.env.locals) {B:Heap} (hB:∀ b o,s.heap.get? b=some o→b ∉ frs X.stack→∃ o',B.get? b=some o'):
  ∀ b o,X.s₀.heap.get? b=some o→b ∉ X.fs→∃ o',B.get? b=some o':=fun b o q n=>by
 obtain ⟨o1,q1⟩:=I.base.there b o q (by rw [hex]; exact fun z=>nomatch z)
 refine hB b o1 q1 fun z=>?_
 rcases List.mem_cons.mp (I.stkSub b z) with z | z
 ·exact absurd (Nat.lt_of_lt_of_le (Heap.lt_size q) (z ▸ I.ok.above)) (Nat.lt_irrefl _)
 ·exact n z
theorem leave_on {E':Value→Shared→Prop} (I:Inv X pins σ H s) (hex:X.ex=[]) (hf:X.stack=X.env :: X.outer∧X.env.frame=some X.env.locals) (c:CX1 X.prog X.w X.stack H s E e s'):
  wpAny (model X.prog X.w) X.A («leaving» X.env e) (fun _ s''=>CX1 X.prog X.w X.outer X.H₀ X.s₀ E e s'') E' s':=by
 obtain ⟨ea,cls,H',rfl,os,bare,un,hok,⟨B,a0,fl,old,tr,zt⟩,hE⟩:=c
 have J:Inv X pins σ H' s':=I.call' os un hok bare (fun b z=>nomatch z)
 rw [hf.1] at fl
 refine leavesZ (by rw [I.ok.frames,hf.1]) hf.2 fl zt fun h' x1 x2 x3=>?_
 have hb:=J.base
 rw [hex] at hb
 have ol:=I.old hex hf old
 exact ⟨ea,cls,H',rfl,J.os,bare,Un.fly hb fl.1 x1.1 ol x2 (fun b hb=>fly_frames fl b (List.mem_filterMap.mpr (by
   obtain ⟨en,he,hfr⟩:=List.mem_filterMap.mp hb
   exact ⟨en,List.mem_cons_of_mem _ he,hfr⟩))),HOk.fly hok fl.1 x1.1 tr,⟨B,a0,x1,ol,tr,x3⟩,hE⟩
theorem leave_new {E':Value→Shared→Prop} {ea:Addr} {cls:Value} {args:List Value} {h':Heap} (I:Inv X pins σ H s) (hex:X.ex=[]) (hf:X.stack=X.env :: X.outer∧X.env.frame=some X.env.locals) (hx:Heap.MadeExcOf s.heap h' ea cls args)
  (hE:E cls none H):wpAny (model X.prog X.w) X.A («leaving» X.env (.ref ea)) (fun _ s''=>CX1 X.prog X.w X.outer X.H₀ X.s₀ E (.ref ea) s'') E' { s with heap:=h' }:=by
 have hin:∀ en ∈ X.stack,∀ a,en.frame=some a→a ∈ frs X.stack:=fun en he a ha=>List.mem_filterMap.mpr ⟨en,he,ha⟩
 have st:(PySem.W.hideAll s.heap (frs X.stack)).StaysIn s.heap:=fun b o q=>PySem.W.of_hideAll _ q
 have old:∀ b o,s.heap.get? b=some o→b ∉ frs X.stack→∃ o',(PySem.W.hideAll s.heap (frs X.stack)).get? b=some o':=fun b o q n=>⟨o,PySem.W.hideAll_get _ q n⟩
 have ff:=PySem.W.funFrames_hide I.stack hin
 have tr:∀ b u,H b=some u→∃ o',(PySem.W.hideAll s.heap (frs X.stack)).get? b=some o':=fun b u e=>by
  have hlt:=(I.hok b u e).lt
  obtain ⟨o,q⟩:∃ o,s.heap.get? b=some o:=(I.hok b u e).thereO
  exact old b o q fun z=>by rw [I.stkFree b z] at e; cases e
 have hfr:X.A.frames=some (X.env :: X.outer):=by rw [I.ok.frames,hf.1]
 rw [hf.1] at ff
 have ff':s.heap.FunFrames (PySem.W.hideAll s.heap (frs X.stack)) (X.env :: X.outer):=by rw [hf.1]; exact ff
 refine leavesMadeZ (s:={ s with heap:=h' }) hfr hf.2 st ff' hx fun h'' t x1 x4 zt=>?_
 have hb:=I.base
 rw [hex] at hb
 have ol:=I.old hex hf old
 have up:s.heap.UpToSlots h'':=(Heap.UpToSlots.of_keeps hx.keeps).trans x4
 refine ⟨ea,cls,H,rfl,I.os,I.bare,Un.fly hb st x1.1 ol up (fun b hb o q=>?_),HOk.fly I.hok st x1.1 tr,⟨_,_,x1,ol,tr,zt⟩,hE⟩
 obtain ⟨_,o',e',z⟩:=I.funs.mem hb
 rw [q] at e'
 cases e'
 exact z
end
end L2
namespace PD
open PySem PySem.Spec PyProof.Rows L2
section
variable {X:Cx} {E:XK}
theorem Post.nx {A B:Type} {K:PySem.W.Frag} {rel:Wd→Hp→A→B→Prop} {w:Wd} {H:Hp} {r:R A} {Q:B→Hp→Prop} (h:Post K E rel w H r.nx Q):Post K E0 rel w H r Q:=by
 cases r with
 | ok a S=>exact h
 | err x S=>exact h.elim
 | bad=>exact h
theorem ps_nox {st:Stmt} {t:TS} (h:PS X.nox st t):PS X st t:=fun pins s σ H D I hw=>wpAny_mono (h pins s σ H D (I.wish _) hw) (fun _ _ q=>q.unwish) fun _ _ z=>False.elim z
theorem se_nx {e:Expr} {m:EM} (h:SE X.nox E0 e m):SE X E e (eNx m):=⟨pe_weak h.out.nox fun s H Q zq=>ex6 zq fun w r S hr hS hp=>⟨w,r,S,hr,hS,hp.nx⟩⟩
theorem st_nx {e:Expr} {m:TM} (h:ST X.nox E0 e m):ST X E e (tNx m):=⟨pt_weak h.out.nox fun s H Q zq=>ex6 zq fun w r S hr hS hp=>⟨w,r,S,hr,hS,hp.nx⟩⟩
theorem ss_nx {e:Stmt} {m:SM} (h:SS X.nox E0 e m):SS X E e (sNx m):=⟨ps_weak (ps_nox h.out) fun D s H zq=>ex6 zq fun w r S hr hS hp=>⟨w,r,S,hr,hS,hp.nx⟩⟩
end
abbrev veMro:List Value:=[.type "ValueError",.type "Exception",.type "BaseException",.type "object"]
structure XC (K:PySem.W.Frag) (mg:Str→Option Value) (x:Str):Prop where
 ex:∃ C,mg x=some (.ref C)∧PySem.W.nsIn K mainGlobals x=some (some (.ref C))∧PySem.W.excIn K C veMro "ValueError.__new__" = true
theorem exc_obj {K:PySem.W.Frag} {h:Heap} {C:Addr} {bmB:List Value} {newId:String} (X:K.In h) (q:PySem.W.excIn K C bmB newId=true):
  ∃ bm N nm qn bs hdct sn sub ab col dd k0 k1 k2 k3 k5 mN,h.get? C=some (excClassObj nm qn C N bs bm hdct sn sub ab col dd k0 k1 k2 k3 k5 newId)∧h.Ns N mN∧mN "__init__" = none∧OwnTail h bmB bm:=by
 unfold PySem.W.excIn at q
 split at q
 next dd cd sl ho=>
  split at q
  next C' bm k0 k1 k2 k3 n k5 hm hs=>
   simp only [Bool.and_eq_true,beq_iff_eq,Bool.not_eq_true'] at q
   have g1:C'=C:=q.1.1.1.1.1
   have g2:n=newId:=q.1.1.1.1.2
   have g3:cd.hasDel=false:=q.1.1.1.2
   have ho':=X _ _ ho
   have e2:sl = #[k0,k1,k2,k3,some (.builtin n),k5]:=Array.ext' hs
   refine ⟨bm,cd.ns,cd.name,cd.qualname,cd.bases,cd.hasDict,cd.slotNames,cd.subclasses,cd.abstract,cd.collection,dd,k0,k1,k2,k3,k5,h.nsMap cd.ns,?_,.of_isNs (PySem.W.isNs_of_in X q.1.2),PySem.W.nsMap_none_of_in X q.1.2 q.2,PySem.W.tail_of_in X q.1.1.2⟩
   rw [ho',e2,← g2]
   have e3:cd={ name:=cd.name,bases:=cd.bases,mro:=.ref C :: bm,ns:=cd.ns,qualname:=cd.qualname,hasDict:=cd.hasDict,slotNames:=cd.slotNames,subclasses:=cd.subclasses,abstract:=cd.abstract,collection:=cd.collection,hasDel:=false }:=by
    rw [← g1,← hm,← g3]
   exact congrArg (fun z=>some ({ cls:=.type "type",dict:=dd,data:=.cls z,slots:=#[k0,k1,k2,k3,some (.builtin n),k5] }:Obj)) e3
  next=>cases q
 next=>cases q
noncomputable def Raises (X:Cx) (E:XK):Prop:=∀ (pins:List (Addr × Obj)) (σ:L2.St) (H:Hp) (s:Shared) (h':Heap) (ea:Addr) (cls:Value) (args:List Value),Inv X pins σ H s→Heap.MadeExcOf s.heap h' ea cls args→E cls none H→X.xe (.ref ea) { s with heap:=h' }
section
variable {X:Cx} {E:XK} {x:Str} {a:Expr} {es:List Expr} {ms:AM} {np cpos pos:Pos}
theorem ss_raise (hX:XC X.K X.mg x) (hR:Raises X E) (hh:X.A.handled=none) (hg:Gl X x) (ha:SA X E (a :: es) ms) (hdb:autoParam ((x == ("__debug__":Str))=false) Au.h3._auto_1)
  (he:autoParam (starEach (a :: es) X.env=(false,eval a X.env) :: starEach es X.env) Au.h0._auto_1) (hpl:autoParam ((backTo cpos (starEach es X.env)).any (·.1)=false) Au.h0._auto_1):
  SS X E (.Raise (some (.Call (.Name x np) (a :: es) [] cpos)) none pos) (sRaise x ms):=⟨by
 intro pins s σ H D I ⟨w,r,S,hr,hS,hp⟩
 obtain ⟨C,hm,hns,hq⟩:=hX.ex
 obtain ⟨tl,N,nm,q,bs,hdct,sn,sub,ab,col,dd,k0,k1,k2,k3,k5,mN,hC,hN,hni,T⟩:=exc_obj I.ok.mod.kin hq
 refine wpAny_Raise_call_subT (bm:=tl) (C:=C) (N:=N) (nm:=nm) (q:=q) (bs:=bs) (hdct:=hdct) (sn:=sn) (sub:=sub) (ab:=ab) (col:=col) (dd:=dd) (k0:=k0) (k1:=k1) (k2:=k2) (k3:=k3) (k5:=k5)
  PySem.F.excBase_ValueError (mN:=mN) (T.hasType PySem.F.excBase_ValueError.hasBase) hh (by rw [he]; show (false || (backTo cpos (starEach es X.env)).any (·.1))=false; rw [hpl]; rfl) hni (ld_glob I hg hm ⟨rfl,?_⟩ hdb)
 have h:=ha.out cpos pins s σ H (fun vs H1=>vs.length≤sizeLine∧E (.ref C) none H1) I ⟨w,r,S,hr,hS,hp.bind hS fun xs S1 w1 H1 vs x1 q1 s1 p1=>by
  by_cases hl:xs.length≤sizeLine
  ·rw [if_pos hl] at p1
   exact ⟨by rw [q1.length]; exact hl,p1 w1 H1 (.ref C) none (Ext.refl _ _) s1 hns⟩
  ·rw [if_neg hl] at p1; exact p1.elim⟩
 rw [he] at h ⊢
 refine Calls.evalArgs_plain (wpAny_mono h (fun us s₂ h₂=>?_) fun _ _ y=>y)
 obtain ⟨vs,H1,I1,rv,hl,hE⟩:=h₂
 exact ⟨rfl,by rw [← rv.length]; exact hl,I1.bk _ _ hC,hN.keeps I1.bk,T.keeps I1.bk,fun h' e hm=>hR pins σ H1 s₂ h' e _ _ I1 hm hE⟩⟩
end
section
variable {P:Program} {w:World} {K:PySem.W.Frag} {mg:Str→Option Value} {base:Heap} {N:List Str} {qual:Str} {scope:Scope} {f:Addr} {cdv:Value} {A:Around} {outer:List Env} {s:Shared} {H:Hp} {E:XK}
theorem passes_cx:Passes (CX1 P w) (cxOf (CX1 P w) P w K mg base N qual scope f cdv A outer s H E) E:=fun pins σ H' s' e s'' I c=>leave_on I rfl ⟨rfl,rfl⟩ c
theorem raises_cx:Raises (cxOf (CX1 P w) P w K mg base N qual scope f cdv A outer s H E) E:=fun pins σ H' s' h' ea cls args I hx hE=>leave_new I rfl ⟨rfl,rfl⟩ hx hE
theorem passes_no {X:Cx}:Passes (CX1 X.prog X.w) X E0:=fun _ _ _ _ _ _ _ zq=>by obtain ⟨_,_,_,_,_,_,_,_,_,z⟩:=zq; exact z.elim
end
noncomputable def spN (K:PySem.W.Frag) (n:Nat) (f:FM):Sp:=fun vs H Q _=>vs.length=n∧∃ w S ds,RS K w H S∧RDs K w H ds vs∧Post K E0 (RD K) w H (f ds S) Q
structure DefN (P:Program) (w:World) (K:PySem.W.Frag) (mg:Str→Option Value) (base:Heap) (x:Str) (k n:Nat) (f:FM):Prop where
 ex:∃ (fa:Addr) (fd:FuncData) (ps:List Str),mg x=some (.ref fa)∧PySem.W.keepIn K (.ref fa)=true∧Binds K fd ps []∧FnOk P w K mg base (CX1 P w) k fa fd ps (spN K n f)
structure DefR (P:Program) (w:World) (K:PySem.W.Frag) (mg:Str→Option Value) (base:Heap) (x:Str) (k n:Nat) (f:FM):Prop where
 ex:∃ (fa:Addr) (fd:FuncData) (ps:List Str),mg x=some (.ref fa)∧PySem.W.keepIn K (.ref fa)=true∧Binds K fd ps []∧FnOk P w K mg base (CX1 P w) k fa fd ps (spM K n f)
section
variable {X:Cx} {E:XK} {x:Str} {k n:Nat} {f:FM} {a:Expr} {es:List Expr} {ms:AM} {p pos:Pos}
theorem se_fnR (D:DefR X.prog X.w X.K X.mg X.base x k n f) (hx:Passes (CX1 X.prog X.w) X E) (hr:Room k X.A) (hg:Gl X x) (ha:SA X E (a :: es) ms) (hn:ALen ms n) (hdb:autoParam ((x == ("__debug__":Str))=false) Au.h3._auto_1)
  (he:autoParam (starEach (a :: es) X.env=(false,eval a X.env) :: starEach es X.env) Au.h0._auto_1) (hpl:autoParam ((backTo pos (starEach es X.env)).any (·.1)=false) Au.h0._auto_1):
  SE X E (.Call (.Name x p) (a :: es) [] pos) (eCall f ms):=by
 obtain ⟨fa,fd,ps,hm,hk,hb,F⟩:=D.ex
 exact se_call F hr hg hm hk hb hx ha hn hdb he hpl
theorem se_fnN (D:DefN X.prog X.w X.K X.mg X.base x k n f) (hr:Room k X.A) (hg:Gl X x) (ha:SA X E0 (a :: es) ms) (hn:ALen ms n) (hdb:autoParam ((x == ("__debug__":Str))=false) Au.h3._auto_1)
  (he:autoParam (starEach (a :: es) X.env=(false,eval a X.env) :: starEach es X.env) Au.h0._auto_1) (hpl:autoParam ((backTo pos (starEach es X.env)).any (·.1)=false) Au.h0._auto_1):
  SE X E0 (.Call (.Name x p) (a :: es) [] pos) (eCall f ms):=by
 obtain ⟨fa,fd,ps,hm,hk,hb,F⟩:=D.ex
 refine ⟨pe_weak (pe_call F hr hg hm hk hb (dvs:=[]) .nil passes_no ha.out hdb he hpl) fun s H Q zq=>?_⟩
 obtain ⟨w,r,S,hr,hS,hp⟩:=zq
 refine ⟨w,r,S,hr,hS,?_⟩
 have hp':Post X.K E0 (RD X.K) w H ((ms r S).bind fun xs S1=>f xs S1) Q:=hp
 cases e:ms r S with
 | bad=>rw [e] at hp'; exact hp'.elim
 | err y S'=>rw [e] at hp'; exact hp'
 | ok ds S'=>
  rw [e] at hp'
  intro w1 H1 vs x1 q1 s1
  rw [List.append_nil]
  exact ⟨by rw [q1.length]; exact hn r S ds S' e,w1,S',ds,s1,q1,Post.ext (r:=f ds S') hp' x1 hS s1⟩
end
section
variable {P:Program} {w:World} {K:PySem.W.Frag} {mg:Str→Option Value} {base:Heap}
theorem fn_okR {x qual:Str} {st:Stmt} {f:Addr} {fd:FuncData} {N ps:List Str} {k:Nat} {m:SM} (F:Fun K x qual st f fd) (S:FnScope N ps (defScope st))
  (hbody:∀ (cdv:Value) (A:Around) (outer:List Env) (s:Shared) (H:Hp) (E:XK),Room k (A.deeper (envOfC qual (defScope st) s.heap.objs.size f cdv))→
   SSs (cxOf (CX1 P w) P w K mg base N qual (defScope st) f cdv A outer s H E) E (defBody st) m):FnOk P w K mg base (CX1 P w) (k + 1) f fd ps (spM K ps.length (fnM N.length m)):=by
 obtain ⟨oc,od,kV,doc,pm,an,cdv,ct,osl,rfl,lk,hcd⟩:=F.ex
 refine fn_of lk hcd S (fun vs H Q E h=>h.1) fun A outer s H vs Q E hr h=>?_
 obtain ⟨hl,u,T,ds,hT,q,p⟩:=h
 refine ⟨_,(hbody cdv A outer s H E hr).out,u,_,T,start_rel q,hT,?_⟩
 refine Post.bind (rel:=RF K) p hT fun g S1 w1 H1 fv x1 q1 s1 p1=>?_
 cases g with
 | nx r=>obtain ⟨s',rfl,_⟩:=q1; have z:=Post.ret (Q:=Q) (rel:=RD K) (a:=D.non) (b:=V.non) p1 (by unfold RD; rfl) s1; exact z
 | rt d=>obtain ⟨v,rfl,q2⟩:=q1; have z:=Post.ret (Q:=Q) (rel:=RD K) (a:=d) (b:=v) p1 q2 s1; exact z
 | bk r=>exact p1.elim
 | ct r=>exact p1.elim
theorem fn_okN {x qual:Str} {st:Stmt} {f:Addr} {fd:FuncData} {N ps:List Str} {k:Nat} {m:SM} (F:Fun K x qual st f fd) (S:FnScope N ps (defScope st))
  (hbody:∀ (cdv:Value) (A:Around) (outer:List Env) (s:Shared) (H:Hp) (E:XK),Room k (A.deeper (envOfC qual (defScope st) s.heap.objs.size f cdv))→
   SSs (cxOf (CX1 P w) P w K mg base N qual (defScope st) f cdv A outer s H E).nox E0 (defBody st) m):FnOk P w K mg base (CX1 P w) (k + 1) f fd ps (spN K ps.length (fnM N.length m)):=by
 obtain ⟨oc,od,kV,doc,pm,an,cdv,ct,osl,rfl,lk,hcd⟩:=F.ex
 refine fn_of lk hcd S (fun vs H Q E h=>h.1) fun A outer s H vs Q E hr h=>?_
 obtain ⟨hl,u,T,ds,hT,q,p⟩:=h
 refine ⟨_,(hbody cdv A outer s H E hr).out.nox,u,_,T,start_rel q,hT,?_⟩
 refine Post.bind (rel:=RF K) p hT fun g S1 w1 H1 fv x1 q1 s1 p1=>?_
 cases g with
 | nx r=>obtain ⟨s',rfl,_⟩:=q1; have z:=Post.ret (Q:=Q) (rel:=RD K) (a:=D.non) (b:=V.non) p1 (by unfold RD; rfl) s1; exact z
 | rt d=>obtain ⟨v,rfl,q2⟩:=q1; have z:=Post.ret (Q:=Q) (rel:=RD K) (a:=d) (b:=v) p1 q2 s1; exact z
 | bk r=>exact p1.elim
 | ct r=>exact p1.elim
theorem def_ofR {x:Str} {st:Stmt} {f:Addr} {fd:FuncData} {m:SM} (N ps:List Str) (k k1 n0 n1:Nat) (hk:k1=k + 1) (h0:n0=ps.length) (h1:n1=N.length) (F:Fun K x x st f fd) (hm:mg x=some (.ref f)) (hb:Binds K fd ps []) (S:FnScope N ps (defScope st))
  (hbody:∀ (cdv:Value) (A:Around) (outer:List Env) (s:Shared) (H:Hp) (E:XK),Room k (A.deeper (envOfC x (defScope st) s.heap.objs.size f cdv))→
   SSs (cxOf (CX1 P w) P w K mg base N x (defScope st) f cdv A outer s H E) E (defBody st) m):DefR P w K mg base x k1 n0 (fnM n1 m):=by
 subst hk h0 h1
 exact ⟨f,fd,ps,hm,F.kp,hb,fn_okR F S hbody⟩
theorem def_ofN {x:Str} {st:Stmt} {f:Addr} {fd:FuncData} {m:SM} (N ps:List Str) (k k1 n0 n1:Nat) (hk:k1=k + 1) (h0:n0=ps.length) (h1:n1=N.length) (F:Fun K x x st f fd) (hm:mg x=some (.ref f)) (hb:Binds K fd ps []) (S:FnScope N ps (defScope st))
  (hbody:∀ (cdv:Value) (A:Around) (outer:List Env) (s:Shared) (H:Hp) (E:XK),Room k (A.deeper (envOfC x (defScope st) s.heap.objs.size f cdv))→
   SSs (cxOf (CX1 P w) P w K mg base N x (defScope st) f cdv A outer s H E).nox E0 (defBody st) m):DefN P w K mg base x k1 n0 (fnM n1 m):=by
 subst hk h0 h1
 exact ⟨f,fd,ps,hm,F.kp,hb,fn_okN F S hbody⟩
theorem law_ofN {x:Str} {st:Stmt} {f:Addr} {fd:FuncData} {m:SM} (N ps:List Str) (k k1 n0 n1:Nat) (hk:k1=k + 1) (h0:n0=ps.length) (h1:n1=N.length) (F:Fun K x x st f fd) (S:FnScope N ps (defScope st))
  (hbody:∀ (cdv:Value) (A:Around) (outer:List Env) (s:Shared) (H:Hp) (E:XK),Room k (A.deeper (envOfC x (defScope st) s.heap.objs.size f cdv))→
   SSs (cxOf (CX1 P w) P w K mg base N x (defScope st) f cdv A outer s H E).nox E0 (defBody st) m):FnOk P w K mg base (CX1 P w) k1 f fd ps (spN K n0 (fnM n1 m)):=by
 subst hk h0 h1
 exact fn_okN F S hbody
end
end PD
namespace L2
open PySem PySem.Spec PyProof.Rows
section
variable {X:Cx} {pins:List (Addr × Obj)} {σ:St} {H:Hp} {s:Shared}
noncomputable abbrev Cx.with (X:Cx) (p:List (Addr × Obj)) (W:Value→Shared→Prop):Cx:={ X with pn:=p,xe:=W }
noncomputable abbrev Cx.suite (X:Cx) (ea:Addr) (ho:HO):Cx:={ X with A:=X.A.mark (some (.ref ea)),calm:=false,xe:=fun _ _=>False,H₀:=upd X.H₀ ea ho }
theorem Cx.Ok.with {p:List (Addr × Obj)} {W:Value→Shared→Prop} (ok:X.Ok):(X.with p W).Ok:=⟨ok.mod,ok.kind,ok.glob,ok.blt,ok.above,ok.inj,ok.has,ok.cab,ok.hd,ok.frames,ok.stk,ok.exf,ok.bs,ok.bsz,ok.noex,ok.exfs,ok.funs,ok.frf⟩
theorem Cx.Ok.suite {ea:Addr} {ho:HO} (ok:X.Ok) (n0:X.s₀.heap.get? ea=none):(X.suite ea ho).Ok:=⟨ok.mod,ok.kind,ok.glob,ok.blt,ok.above,ok.inj,ok.has,ok.cab,(fun z=>by cases z),ok.frames,ok.stk,ok.exf,
 fun b o e=>⟨(ok.bs b o e).1,by
  have q:=(ok.bs b o e).1
  show upd X.H₀ ea ho b=none
  rw [upd_ne (fun z=>by rw [z,n0] at q; cases q)]
  exact (ok.bs b o e).2⟩,ok.bsz,ok.noex,ok.exfs,ok.funs,fun b hb=>by
  obtain ⟨_,o,q,_⟩:=ok.funs.mem hb
  show upd X.H₀ ea ho b=none
  rw [upd_ne (fun z=>by rw [z,n0] at q; cases q)]
  exact ok.frf b hb⟩
theorem Inv.with {W:Value→Shared→Prop} (I:Inv X pins σ H s):Inv (X.with (X.pn ++ pins) W) [] σ H s:=
 ⟨I.ok.with,I.os,I.bare,I.base,I.loc,I.cell,I.free,I.freeC,fun p hp=>I.pin p (by simpa using hp),I.hok,I.len⟩
theorem Inv.unwith {W:Value→Shared→Prop} {pins':List (Addr × Obj)} (ok:X.Ok) (I:Inv (X.with (X.pn ++ pins) W) pins' σ H s):Inv X pins σ H s:=
 ⟨ok,I.os,I.bare,I.base,I.loc,I.cell,I.free,I.freeC,fun p hp=>I.pin p (List.mem_append_left _ hp),I.hok,I.len⟩
theorem Inv.suite {ea:Addr} {o:Obj} {u:HO} (I:Inv X pins σ H s) (n0:X.s₀.heap.get? ea=none) (hH:H ea=some (.frz o u)):Inv (X.suite ea (.frz o u)) pins σ H s:=by
 have ne:∀ b q,X.s₀.heap.get? b=some q→b ≠ ea:=fun b q e z=>by rw [z,n0] at e; cases e
 have old:∀ b q,X.s₀.heap.get? b=some q→upd X.H₀ ea (.frz o u) b=none→X.H₀ b=none:=fun b q e n=>by rw [upd_ne (ne b q e)] at n; exact n
 refine ⟨I.ok.suite n0,I.os,I.bare,⟨fun b q e n=>I.base.keep b q e (old b q e n),fun b q e n=>I.base.slot b q e (old b q e n),fun b q e n=>I.base.free b q e (old b q e n),I.base.there,fun b xs e=>?_,fun b q v e=>?_,fun b ps e=>?_⟩,I.loc,I.cell,I.free,I.freeC,I.pin,I.hok,I.len⟩
 ·by_cases z:b=ea
  ·rw [z] at e; have e:upd X.H₀ ea (.frz o u) ea=_:=e; rw [upd_same] at e; cases e
  ·have e:upd X.H₀ ea (.frz o u) b=_:=e; rw [upd_ne z] at e; exact I.base.tups b xs e
 ·by_cases z:b=ea
  ·rw [z] at e ⊢; have e:upd X.H₀ ea (.frz o u) ea=_:=e; rw [upd_same] at e; rw [← e]; exact hH
  ·have e:upd X.H₀ ea (.frz o u) b=_:=e; rw [upd_ne z] at e; exact I.base.frzs b q v e
 ·by_cases z:b=ea
  ·rw [z] at e; have e:upd X.H₀ ea (.frz o u) ea=_:=e; rw [upd_same] at e; cases e
  ·have e:upd X.H₀ ea (.frz o u) b=_:=e; rw [upd_ne z] at e; exact I.base.tbls b ps e
theorem Inv.unsuite {ea:Addr} {ho:HO} (ok:X.Ok) (n0:X.s₀.heap.get? ea=none) (n1:∀ v,X.H₀ ea=some v→(∀ xs,v ≠ .tup xs)∧(∀ q w,v ≠ .frz q w)∧∀ ps,v ≠ .tbl ps) (I:Inv (X.suite ea ho) pins σ H s):Inv X pins σ H s:=by
 have ne:∀ b q,X.s₀.heap.get? b=some q→b ≠ ea:=fun b q e z=>by rw [z,n0] at e; cases e
 have new:∀ b q,X.s₀.heap.get? b=some q→X.H₀ b=none→upd X.H₀ ea ho b=none:=fun b q e n=>by rw [upd_ne (ne b q e)]; exact n
 refine ⟨ok,I.os,I.bare,⟨fun b q e n=>I.base.keep b q e (new b q e n),fun b q e n=>I.base.slot b q e (new b q e n),fun b q e n=>I.base.free b q e (new b q e n),I.base.there,fun b xs e=>I.base.tups b xs ?_,fun b q v e=>I.base.frzs b q v ?_,fun b ps e=>I.base.tbls b ps ?_⟩,I.loc,I.cell,I.free,I.freeC,I.pin,I.hok,I.len⟩
 ·show upd X.H₀ ea ho b=_
  rw [upd_ne (fun z=>by rw [z] at e; exact (n1 _ e).1 _ rfl)]; exact e
 ·show upd X.H₀ ea ho b=_
  rw [upd_ne (fun z=>by rw [z] at e; exact (n1 _ e).2.1 _ _ rfl)]; exact e
 ·show upd X.H₀ ea ho b=_
  rw [upd_ne (fun z=>by rw [z] at e; exact (n1 _ e).2.2 _ rfl)]; exact e
end
section
variable {X:Cx} {pins:List (Addr × Obj)} {σ:St} {H H':Hp} {s s':Shared} {B:Heap} {ea:Addr} {cls a0:Value} {h2:Heap}
theorem fly_new {l:List Env} {h:Heap} (fl:Heap.FlyingW B l ea cls a0 s'.heap) (old:∀ b o,h.get? b=some o→b ∉ frs l→∃ o',B.get? b=some o') (tr:∀ b u,H' b=some u→∃ o',B.get? b=some o'):h.get? ea=none∧H' ea=none:=by
 have hB:=fl.2.1
 constructor
 ·cases e:h.get? ea with
  | none=>rfl
  | some o=>
   exfalso
   by_cases hb:ea ∈ frs l
   ·obtain ⟨oe,vs,e1,_,d1,_⟩:=fl.first
    exact fly_frames fl ea hb oe e1 vs d1
   ·obtain ⟨o',e'⟩:=old ea o e hb
    rw [hB] at e'; cases e'
 ·cases e:H' ea with
  | none=>rfl
  | some u=>
   obtain ⟨o',e'⟩:=tr ea u e
   rw [hB] at e'; cases e'
theorem fly_track {l:List Env} {P:Program} {w:World} {h h1:Heap} (fl:Heap.FlyingW B l ea cls a0 h1) (old:∀ b o,h.get? b=some o→b ∉ frs l→∃ o',B.get? b=some o') (tr:∀ b u,H' b=some u→∃ o',B.get? b=some o')
  (hn:h.get? ea=none) (hn':H' ea=none) (u:Un (frs l) [] H H' h h1) (k:HOk P w H' h1) {ob:Obj} (hob:h1.get? ea=some ob):
  Un (frs l) [] H (upd H' ea (.frz ob (.ext (PD.ExcAt ea cls)))) h h1∧HOk P w (upd H' ea (.frz ob (.ext (PD.ExcAt ea cls)))) h1:=by
 have ne:∀ b o,h.get? b=some o→b ≠ ea:=fun b o e z=>by rw [z,hn] at e; cases e
 have ne':∀ b v,H' b=some v→b ≠ ea:=fun b o e z=>by rw [z,hn'] at e; cases e
 refine ⟨⟨u.keep,u.slot,fun b o e n x=>by rw [upd_ne (ne b o e)]; exact u.free b o e n x,u.there,fun b xs e=>?_,fun b o v e=>?_,fun b ps e=>?_⟩,fun b v e=>?_⟩
 ·have:=u.tups b xs e; rw [upd_ne (ne' _ _ this)]; exact this
 ·have:=u.frzs b o v e; rw [upd_ne (ne' _ _ this)]; exact this
 ·obtain ⟨m,this⟩:=u.tbls b ps e; exact ⟨m,by rw [upd_ne (ne' _ _ this)]; exact this⟩
 ·by_cases hb:b=ea
  ·subst hb
   rw [upd_same] at e
   cases e
   obtain ⟨o,e1,c1⟩:=fl.there
   exact ⟨hob,⟨o,e1,c1⟩,⟨o,e1⟩,fun g1 g2 ⟨o1,z1,z2⟩ kk=>⟨o1,kk o1 z1,z2⟩⟩
  ·rw [upd_ne hb] at e
   exact (k b v e).stay (fun _ _ _ q=>q) (fun c q=>by rw [upd_ne (ne' c _ q)]; exact q) fun c xs q=>by rw [upd_ne (ne' c _ q)]; exact q
end
end L2
namespace PD
open PySem PySem.Spec PyProof.Rows L2
section
variable {X:Cx} {E:XK}
end
end PD
namespace L2
open PySem PySem.Spec PyProof.Rows
structure RoomM (k:Nat) (A:Around):Prop where
 dp:A.depth + 3 * k + 5 < recursionLimit
 un:A.units + 16 * k + 200 < cLine
 gd:A.guards=some []
theorem Room.m {k:Nat} {A:Around} (r:Room k A):RoomM k A:=⟨r.dp,r.un,r.gd⟩
theorem RoomM.mono {j k:Nat} {A:Around} (r:RoomM k A) (h:j≤k):RoomM j A:=⟨by have:=r.dp; omega,by have:=r.un; omega,r.gd⟩
theorem RoomM.mark {k:Nat} {A:Around} (r:RoomM k A) (e:Option Value):RoomM k (A.mark e):=⟨r.dp,r.un,r.gd⟩
theorem RoomM.deeper {k:Nat} {A:Around} (r:RoomM (k + 1) A) (env:Env):RoomM k (A.deeper env):=
 ⟨by have:=r.dp; show A.depth + 1 + 3 * k + 5 < _; omega,by have:=r.un; show A.units + 3 + 16 * k + 200 < _; omega,r.gd⟩
noncomputable def QA (A:Around) (H:Hp):Prop:=A.handled=none ∨ ∃ a o u,A.handled=some (.ref a)∧H a=some (.frz o u)∧ZO o
theorem Inv.qa {X:Cx} {pins:List (Addr × Obj)} {σ:List (Option V)} {H:Hp} {s:Shared} (I:Inv X pins σ H s) (h:QtH X):QA X.A H:=h.imp id fun ⟨a,o,u,e,q,z⟩=>⟨a,o,u,e,I.base.frzs a o u q,z⟩
theorem Cd.qt {X:Cx} {qb:Bool} (h:Cd qb X) (n:X.calm=false):QtH X:=h.elim (fun z=>by rw [n] at z; cases z) fun z=>z.2
structure FnOkM (P:Program) (w:World) (K:PySem.W.Frag) (mg:Str→Option Value) (base:Heap) (k:Nat) (f:Addr) (fd:FuncData) (ps:List Str) (sp:Sp):Prop where
 len:∀ vs H Q E,sp vs H Q E→vs.length=ps.length
 run:∀ (A:Around) (outer:List Env) (s:Shared) (H:Hp) (args:Args) (us:List Value) (vs:List V) (Q:VK),RoomM k A→QA A H→Env0 P w K mg base A outer s H→BindsTo s fd args (ps.zip us)→Vals vs us→sp vs H Q E0→
  codeAny (model P w) A (.call (.ref f) args) (CR CX0 outer P w H s Q E0) s
noncomputable abbrev cxM (P:Program) (w:World) (K:PySem.W.Frag) (mg:Str→Option Value) (base:Heap) (N:List Str) (qual:Str) (scope:Scope) (f:Addr) (cd:Value) (A:Around) (outer:List Env) (s:Shared) (H:Hp):Cx:=
 { cxOf CX0 P w K mg base N qual scope f cd A outer s H E0 with calm:=false,xe:=fun _ _=>False }
section
variable {P:Program} {w:World} {K:PySem.W.Frag} {mg:Str→Option Value} {base:Heap}
theorem inv_startM {N ps:List Str} {qual:Str} {scope:Scope} {f:Addr} {cd:Value} {A:Around} {outer:List Env} {s s1:Shared} {H:Hp} {us:List Value} {vs:List V} (S:FnScope N ps scope) (e0:Env0 P w K mg base A outer s H) (hl:vs.length=ps.length) (r:Vals vs us)
  (x:InCallC s s.heap.objs.size (bindL (envOfC qual scope s.heap.objs.size f cd).kindOf (ps.zip us) fun _=>none) (cellsFrom (s.heap.objs.size + 1) scope.names []) (bindC (envOfC qual scope s.heap.objs.size f cd).kindOf (ps.zip us) fun _=>none) s1):
  Inv (cxM P w K mg base N qual scope f cd A outer s H) [] (start N vs) H s1:=by
 have e1:Env0 P w K mg base { A with handled:=none } outer s H:=⟨e0.frames,e0.mod,e0.bs,e0.bsz,e0.funs,e0.frf,e0.hok,e0.bare⟩
 have I:=inv_start (CX:=CX0) (E:=E0) (A:={ A with handled:=none }) S rfl e1 hl r x
 exact ⟨⟨I.ok.mod,I.ok.kind,I.ok.glob,I.ok.blt,I.ok.above,I.ok.inj,I.ok.has,I.ok.cab,(fun z=>by cases z),I.ok.frames,I.ok.stk,I.ok.exf,I.ok.bs,I.ok.bsz,I.ok.noex,I.ok.exfs,I.ok.funs,I.ok.frf⟩,I.os,I.bare,I.base,I.loc,I.cell,I.free,I.freeC,I.pin,I.hok,I.len⟩
theorem fn_ofM {k:Nat} {f:Addr} {name qual:Str} {params:Arguments} {body:List Stmt} {scope:Scope} {dV kV doc pm cdv ct oc:Value} {an od:Option Addr}
  {osl:Array (Option Value)} {N ps:List Str} {sp:Sp} (lk:K.lookup f=some ⟨oc,od,.func (PySem.W.fnOf name qual params body scope dV kV doc pm an cdv ct),osl⟩) (hcd:PySem.W.codeIn K cdv qual=true) (S:FnScope N ps scope)
  (len:∀ vs H Q E,sp vs H Q E→vs.length=ps.length)
  (hbody:∀ (A:Around) (outer:List Env) (s:Shared) (H:Hp) (vs:List V) (Q:VK),RoomM k (A.deeper (envOfC qual scope s.heap.objs.size f cdv))→QtH (cxM P w K mg base N qual scope f cdv A outer s H)→sp vs H Q E0→
   ∃ t,PSs (cxM P w K mg base N qual scope f cdv A outer s H) body t∧t { nx:=fun _ H'=>Q .non H',rt:=Q } (start N vs) H):
  FnOkM P w K mg base (k + 1) f (PySem.W.fnOf name qual params body scope dV kV doc pm an cdv ct) ps sp:=by
 refine ⟨len,fun A outer s H args us vs Q hr hqa e0 hb r hsp=>?_⟩
 have hl:=len _ _ _ _ hsp
 have KX:K.In s.heap:=e0.mod.kin.keeps fun b o e=>(e0.bs b o e).1
 have lim:s.heap.NoLimit:=e0.mod.nolimit.keeps fun b o e=>(e0.bs b o e).1
 have hkind:∀ y ∈ ps.zip us,scope.names.lookup y.1=some .local ∨ (scope.names.lookup y.1=some .cell∧((cellsFrom (s.heap.objs.size + 1) scope.names []).lookup y.1).isSome=true):=fun ⟨n,v⟩ hy=>by
  rcases S.par n (List.of_mem_zip hy).1 with q | q
  ·exact .inl q
  ·exact .inr ⟨q,PySem.W.cellsFrom_some _ _ _ (.inl q)⟩
 refine codeAny_call_function (by have:=hr.dp; omega) (KX _ _ lk) rfl S.co S.gen rfl (PySem.W.codeRec_of KX hcd) (hb _ _ _ _ ?_)
 refine wpAny_newFunctionEnv_cells S.kind hkind fun env he s1 x=>?_
 subst he
 refine ⟨lim.keeps x.toInCall.keep,codeAny_func ?_⟩
 obtain ⟨t,ht,hq⟩:=hbody A outer s H vs Q (hr.deeper _) hqa hsp
 have I:Inv (cxM P w K mg base N qual scope f cdv A outer s H) [] (start N vs) H s1:=inv_startM S e0 hl r x
 refine wpAny_mono (ht [] s1 (start N vs) H _ I hq) (fun fl s' hs=>?_) fun e s' hs=>False.elim hs
 have fin:∀ {σ':St} {H':Hp} {v:V} {u:Value},Inv (cxM P w K mg base N qual scope f cdv A outer s H) [] σ' H' s'→RelV v u→Q v H'→CE outer P w H s Q u s':=
  fun {σ' H' v u} J rv q=>⟨v,H',J.os,J.bare,J.base,J.hok,rv,q⟩
 cases fl with
 | ret u=>
  obtain ⟨v,σ',H',J,rv,q⟩:=hs
  exact fin J rv q
 | next=>
  obtain ⟨σ',H',J,q⟩:=hs
  exact fin (v:=V.non) (u:=Value.none) J rfl q
 | brk=>
  obtain ⟨_,_,_,q⟩:=hs
  exact False.elim q
 | cont=>
  obtain ⟨_,_,_,q⟩:=hs
  exact False.elim q
end
section
variable {X:Cx} {k:Nat} {f:Addr} {fd:FuncData} {ps:List Str} {sp:Sp} {x:Str} {p pos:Pos} {e:Expr} {es:List Expr} {t:TA}
theorem pe_callM (F:FnOkM X.prog X.w X.K X.mg X.base k f fd ps sp) (hr:RoomM k X.A) (hqt:QtH X) (hg:Gl X x) (hm:X.mg x=some (.ref f)) (hk:PySem.W.keepIn X.K (.ref f)=true) (hb:Binds X.K fd ps [])
  (ha:PA X (e :: es) t) (hdb:autoParam ((x == ("__debug__":Str))=false) Au.h2._auto_1) (he:autoParam (starEach (e :: es) X.env=(false,eval e X.env) :: starEach es X.env) Au.h1._auto_1) (hpl:autoParam ((backTo pos (starEach es X.env)).any (·.1)=false) Au.h1._auto_1):
  PE X (.Call (.Name x p) (e :: es) [] pos) (tCall sp [] E0 t):=by
 intro pins s σ H Q I h
 refine wpAny_Call_Name_kw (ld_glob I hg hm ?_ hdb)
 refine PySem.W.callWith_K (h₀:=X.base) I.ok.mod.kin hk (thn (ha pos pins s σ H _ I h) fun us s1 zq=>ex5 zq fun vs H1 I1 r q=>⟨I1.kIn,?_⟩) he hpl
 have q:sp vs H1 Q E0:=by
  have z:sp (vs ++ []) H1 Q E0:=q
  rwa [List.append_nil] at z
 show wpAny _ _ (call (Value.ref f) us) _ _ _
 have hl:us.length=ps.length:=by rw [← r.length]; exact F.len _ _ _ _ q
 have hb':=hb s1 us I1.kIn (by rw [List.append_nil]; exact hl)
 rw [List.append_nil] at hb'
 refine wpAny_call (codeAny_mono (F.run X.A X.stack s1 H1 ⟨us,[]⟩ us vs Q hr (I1.qa hqt) I1.env0 hb' r q) fun rr s' hq=>?_)
 cases rr with
 | error e=>exact False.elim hq
 | ok fl=>
  cases fl with
  | ret u=>exact I1.after hq
  | next=>exact False.elim hq
  | brk=>exact False.elim hq
  | cont=>exact False.elim hq
end
end L2
namespace PD
open PySem PySem.Spec PyProof.Rows L2
structure DefM (P:Program) (w:World) (K:PySem.W.Frag) (mg:Str→Option Value) (base:Heap) (x:Str) (k n:Nat) (f:FM):Prop where
 ex:∃ (fa:Addr) (fd:FuncData) (ps:List Str),mg x=some (.ref fa)∧PySem.W.keepIn K (.ref fa)=true∧Binds K fd ps []∧FnOkM P w K mg base k fa fd ps (spN K n f)
section
variable {X:Cx} {x:Str} {k n:Nat} {f:FM} {a:Expr} {es:List Expr} {ms:AM} {p pos:Pos}
theorem se_fnM (D:DefM X.prog X.w X.K X.mg X.base x k n f) (hr:RoomM k X.A) (hqt:QtH X) (hg:Gl X x) (ha:SA X E0 (a :: es) ms) (hn:ALen ms n) (hdb:autoParam ((x == ("__debug__":Str))=false) Au.h3._auto_1)
  (he:autoParam (starEach (a :: es) X.env=(false,eval a X.env) :: starEach es X.env) Au.h0._auto_1) (hpl:autoParam ((backTo pos (starEach es X.env)).any (·.1)=false) Au.h0._auto_1):
  SE X E0 (.Call (.Name x p) (a :: es) [] pos) (eCall f ms):=by
 obtain ⟨fa,fd,ps,hm,hk,hb,F⟩:=D.ex
 refine ⟨pe_weak (pe_callM F hr hqt hg hm hk hb ha.out hdb he hpl) fun s H Q zq=>?_⟩
 obtain ⟨w,r,S,hr,hS,hp⟩:=zq
 refine ⟨w,r,S,hr,hS,?_⟩
 have hp':Post X.K E0 (RD X.K) w H ((ms r S).bind fun xs S1=>f xs S1) Q:=hp
 cases e:ms r S with
 | bad=>rw [e] at hp'; exact hp'.elim
 | err y S'=>rw [e] at hp'; exact hp'
 | ok ds S'=>
  rw [e] at hp'
  intro w1 H1 vs x1 q1 s1
  rw [List.append_nil]
  exact ⟨by rw [q1.length]; exact hn r S ds S' e,w1,S',ds,s1,q1,Post.ext (r:=f ds S') hp' x1 hS s1⟩
end
section
variable {P:Program} {w:World} {K:PySem.W.Frag} {mg:Str→Option Value} {base:Heap}
theorem def_ofM {x:Str} {st:Stmt} {f:Addr} {fd:FuncData} {m:SM} (N ps:List Str) (k k1 n0 n1:Nat) (hk:k1=k + 1) (h0:n0=ps.length) (h1:n1=N.length) (F:Fun K x x st f fd) (hm:mg x=some (.ref f)) (hb:Binds K fd ps []) (S:FnScope N ps (defScope st))
  (hbody:∀ (cdv:Value) (A:Around) (outer:List Env) (s:Shared) (H:Hp),RoomM k (A.deeper (envOfC x (defScope st) s.heap.objs.size f cdv))→QtH (cxM P w K mg base N x (defScope st) f cdv A outer s H)→
   SSs (cxM P w K mg base N x (defScope st) f cdv A outer s H) E0 (defBody st) m):DefM P w K mg base x k1 n0 (fnM n1 m):=by
 subst hk h0 h1
 refine ⟨f,fd,ps,hm,F.kp,hb,?_⟩
 obtain ⟨oc,od,kV,doc,pm,an,cdv,ct,osl,rfl,lk,hcd⟩:=F.ex
 refine fn_ofM lk hcd S (fun vs H Q E h=>h.1) fun A outer s H vs Q hr hqt h=>?_
 obtain ⟨hl,u,T,ds,hT,q,p⟩:=h
 refine ⟨_,(hbody cdv A outer s H hr hqt).out,u,_,T,start_rel q,hT,?_⟩
 refine Post.bind (rel:=RF K) p hT fun g S1 w1 H1 fv x1 q1 s1 p1=>?_
 cases g with
 | nx r=>obtain ⟨s',rfl,_⟩:=q1; have z:=Post.ret (Q:=Q) (rel:=RD K) (a:=D.non) (b:=V.non) p1 (by unfold RD; rfl) s1; exact z
 | rt d=>obtain ⟨v,rfl,q2⟩:=q1; have z:=Post.ret (Q:=Q) (rel:=RD K) (a:=d) (b:=v) p1 q2 s1; exact z
 | bk r=>exact p1.elim
 | ct r=>exact p1.elim
end
end PD
namespace L2
open PySem PySem.Spec PyProof.Rows
theorem bexc_kind:builtinKind "BaseException.__getattribute__" = some .slot:=by decide +kernel
theorem bexc_split:splitId "BaseException.__getattribute__" = some ("BaseException","__getattribute__"):=by decide +kernel
section
variable {prog:Program} {w:World} {A:Around} {E:Value→Shared→Prop} {s:Shared} {K:PySem.W.Frag} {ea C:Addr} {ox:Obj} {od:Option Obj}
theorem exc_check {M:Model} {v:Value} {Q:Unit→Shared→Prop} (LI:PySem.W.Looks M s.heap (isInstance (.ref ea) (.type "BaseException")) true) (h:Q () s):wpAny M A (checkBuiltinCall "BaseException.__getattribute__" ⟨[.ref ea,v],[]⟩) Q E s:=by
 obtain ⟨hh,g,d,t,os⟩:=s
 have ha:=PySem.F.args_bexc_ga (.ref ea) v
 simp only [checkBuiltinCall,bexc_kind,bexc_split]
 refine wpAny_bind (LI.at ?_)
 simp only [Bool.not_true,Bool.false_eq_true,if_false]
 cases hsig:Manifest.signature? "BaseException.__getattribute__" with
 | none=>exact wpAny_pure h
 | some sig=>
  simp only [argsOk,hsig] at ha
  have h2:Bind.checkArgs "BaseException.__getattribute__" sig ⟨[.ref ea,v],[]⟩=pure ():=ha
  show wpAny M A (Bind.checkArgs "BaseException.__getattribute__" sig ⟨[.ref ea,v],[]⟩) Q E _
  rw [h2]; exact wpAny_pure h
theorem exc_get {tp:Value} {R:Result→Shared→Prop} (LT:PySem.W.Looks (model prog w) s.heap (typeOf (.ref ea)) (.ref C)) (LO:PySem.W.Looks (model prog w) s.heap (isSubtype (.ref C) (.type "object")) true) (hR:R (.ok (.ret (.ref C))) s):
  codeAny (model prog w) A (.call (.builtin "getset_descriptor.__get__") ⟨[.builtin "object.__class__",.ref ea,tp],[]⟩) R s:=by
 obtain ⟨hh,g,dr,t,os⟩:=s
 have LI:PySem.W.Looks (model prog w) hh (isInstance (.ref ea) (.type "object")) true:=LT.andThen LO
 have ty:(⟨hh,g,dr,t,os⟩:Shared).TypeIs (.builtin "object.__class__") "getset_descriptor":=PySem.F.typeOf_object_class
 refine codeAny_call_builtin PySem.F.slot_gs_get.plain PySem.F.entry_gs_get (PySem.F.slot_gs_get.check _ _ _ _ _ _ _ _ ty (PySem.F.args_gs_get _ _ _) ?_)
 repeat (any_goals (first | assumption | (with_reducible refine PySem.W.Looks.at (by assumption) ?_) | wp_step))
 have own:(".".intercalate ("object.__class__".cutAt '.').dropLast) = "object":=by
  have e0:"object.__class__".cutAt '.'=["object","__class__"]:=by first | rfl | decide +kernel
  rw [e0]; decide +kernel
 rw [own]
 refine LO.at ?_
 refine wpAny_pure ?_
 refine wpAny_pure ⟨Code.quiet_builtin _ (by decide +kernel),codeAny_builtin PySem.F.entry_object_class ?_⟩
 repeat (any_goals (first | assumption | (with_reducible refine PySem.W.Looks.at (by assumption) ?_) | wp_step))
theorem exc_class {Q:Option Value→Shared→Prop} (X:K.In s.heap) (hx:s.heap.get? ea=some ox) (hc:ox.cls=.ref C) (hga:PySem.W.findIn K (.ref C) "__getattribute__" = some (some (.builtin "BaseException.__getattribute__")))
  (hgh:PySem.W.findIn K (.ref C) "__getattr__" = some none) (hf:PySem.W.findIn K (.ref C) "__class__" = some (some (.builtin "object.__class__")))
  (hn:PySem.W.specialIn K (.builtin "object.__class__") "__get__" = some (some (.builtin "getset_descriptor.__get__"))) (htk:PySem.W.takesIn K (.builtin "object.__class__")=some true)
  (hb:PySem.W.mroIn K C (.type "BaseException")=some true) (hm:PySem.W.mroIn K C (.type "object")=some true) (h:Q (some (.ref C)) { s with toks:=s.toks + 1 }):wpAny (model prog w) A (getAttr? (.ref ea) "__class__") Q E s:=by
 obtain ⟨hh,g,d,t,os⟩:=s
 have L0:PySem.W.Looks (model prog w) hh (typeOf (.ref ea)) (.ref C):=hc ▸ (PySem.W.Looks.ld hx).andThen .now
 have L1:=PySem.W.looks_findIn (M:=model prog w) X hga
 have L2:=PySem.W.looks_findIn (M:=model prog w) X hgh
 have LF:PySem.W.Looks (model prog w) hh (Builtin.ObjectAttr.find (.ref ea) (.ref C) "__class__") (.bind (.builtin "getset_descriptor.__get__") (.builtin "object.__class__")):=by
  refine (PySem.W.looks_findIn X hf).andThen ((PySem.W.looks_specialIn X hn).andThen (PySem.W.Looks.andThen (a:=some (.builtin "getset_descriptor.__get__",.builtin "object.__class__")) ?_ ?_))
  ·exact (PySem.W.looks_takesIn X htk).andThen .now
  ·exact PySem.W.Looks.tag .now
 have LB:=PySem.W.looks_mroIn (M:=model prog w) X hb
 have LO:=PySem.W.looks_mroIn (M:=model prog w) X hm
 have LI:PySem.W.Looks (model prog w) hh (isInstance (.ref ea) (.type "BaseException")) true:=L0.andThen LB
 have f3:=PySem.F.excAttr_ValueError.ga.bind (.ref ea)
 unfold getAttr? getAttrBy? getAttrBy
 refine wpAny_bind (wpAny_mkText (wpAny_bind ?_))
 refine wpAny_attempt (wpAny_holding (wpAny_bind (L0.at (wpAny_bind (L1.at ?_)))))
 show wpAny _ _ (getAttrByItsOwn _ _ _ _ _ _) _ _ _
 unfold getAttrByItsOwn hookBefore
 refine wpAny_bind ?_
 show wpAny _ _ (typeLookup (.ref C) "__getattr__") _ _ _
 refine L2.at ?_
 refine wpAny_bind (wpAny_attempt (wpAny_holding ?_))
 show wpAny _ _ (boundAndCalled _ _ _) _ _ _
 unfold boundAndCalled
 rw [f3]
 refine wpAny_bind (wpAny_pure ?_)
 show wpAny _ _ (call (.builtin "BaseException.__getattribute__") [.ref ea,.str "__class__" t]) _ _ _
 refine wpAny_call (codeAny_call_builtin PySem.F.excAttr_ValueError.ga.plain PySem.F.entry_bexc_ga (exc_check LI ?_))
 unfold Builtin.«object.__getattribute__»
 refine wpAny_bind (wpAny_pure (wpAny_bind (wpAny_pure (wpAny_bind (L0.at (wpAny_bind (LF.at ?_)))))))
 show wpAny _ _ (holding [.builtin "object.__class__"] (call (.builtin "getset_descriptor.__get__") [.builtin "object.__class__",.ref ea,.ref C]) >>= ret) _ _ _
 refine wpAny_bind (wpAny_holding (wpAny_call (exc_get L0 LO ?_)))
 exact wpAny_pure (wpAny_pure (wpAny_pure h))
structure ExK (K:PySem.W.Frag) (C:Addr):Prop where
 ga:PySem.W.findIn K (.ref C) "__getattribute__" = some (some (.builtin "BaseException.__getattribute__"))
 gh:PySem.W.findIn K (.ref C) "__getattr__" = some none
 cl:PySem.W.findIn K (.ref C) "__class__" = some (some (.builtin "object.__class__"))
 bs:PySem.W.mroIn K C (.type "BaseException")=some true
 ob:PySem.W.mroIn K C (.type "object")=some true
 is:(PySem.W.clsIn K C).isSome=true
theorem ExK.lk (e:ExK K C):∃ a b cd d,K.lookup C=some ⟨a,b,.cls cd,d⟩:=by
 have h:=e.is
 unfold PySem.W.clsIn at h
 split at h
 next a b cd d q=>exact ⟨_,_,_,_,q⟩
 next=>cases h
theorem kitx_exc (e:ExK K C) (hn:PySem.W.specialIn K (.builtin "object.__class__") "__get__" = some (some (.builtin "getset_descriptor.__get__"))) (htk:PySem.W.takesIn K (.builtin "object.__class__")=some true):
  PySem.W.KitX K (.ref ea) (.ref C) (PD.ExcAt ea (.ref C)) where
 ty:=fun M h X ⟨o,e1,e2⟩=>e2 ▸ (PySem.W.Looks.ld e1).andThen .now
 it:=fun M h X _=>by
  obtain ⟨_,_,_,_,q⟩:=e.lk
  intro A' Q' E' s' k z
  unfold isType loadHead
  exact wpAny_bind (wpAny_loadPart (k _ _ (X _ _ q)) (wpAny_pure z))
 ne:=fun h tp dd its n sl X ht=>by
  obtain ⟨_,_,_,_,q⟩:=e.lk
  cases hb:(Value.ref C == Value.ref tp) with
  | false=>rfl
  | true=>
   have:C=tp:=Value.ref.inj (beq_iff_eq.mp hb)
   subst this
   have z:=(X _ _ q).symm.trans ht
   cases z
 ca:=fun X ⟨o,e1,e2⟩ k=>exc_class X e1 e2 e.ga e.gh e.cl hn htk e.bs e.ob k
end
end L2
namespace PD
open PySem PySem.Spec PyProof.Rows L2
structure Cls (K:PySem.W.Frag) (cs ks:List Str) (isa:Str→Str→Bool):Prop where
 gt:PySem.W.specialIn K (.builtin "object.__class__") "__get__" = some (some (.builtin "getset_descriptor.__get__"))
 tk:PySem.W.takesIn K (.builtin "object.__class__")=some true
 ex:∀ c ∈ cs,∃ C,PySem.W.nsIn K mainGlobals c=some (some (.ref C))∧ExK K C∧PySem.W.kitOne K (.ref C) (.type "ValueError")=some true
 isa:∀ c ∈ cs,∀ k ∈ ks,∃ C D,PySem.W.nsIn K mainGlobals c=some (some C)∧PySem.W.nsIn K mainGlobals k=some (some D)∧PySem.W.kitOne K C D=some (isa c k)
noncomputable def fIsX (cs ks:List Str) (isa:Str→Str→Bool):Sto→List D→Option D
 | S,[.exc c,.cls k]=>if c ∈ cs∧k ∈ ks then some (.bl (isa c k)) else none
 | S,[.exc c,.ty T]=>if c ∈ cs∧T = "ValueError" then some (.bl true) else none
 | S,xs=>fIsi S xs
section
variable {X:Cx} {E:XK} {cs ks:List Str} {isa:Str→Str→Bool}
theorem exc_isi {pins:List (Addr × Obj)} {σ:L2.St} {H:Hp} {s:Shared} {w:Wd} {S:Sto} {c:Str} {v:V} {u c2:Value} {b:Bool} {Q:VK} (T:Cls X.K cs ks isa) (I:Inv X pins σ H s) (hc:c ∈ cs) (q:RD X.K w H (.exc c) v) (rv:RelV v u) (hS:RS X.K w H S)
  (hk:∀ C,PySem.W.nsIn X.K mainGlobals c=some (some C)→PySem.W.kitOne X.K C c2=some b) (p:Post X.K E (RD X.K) w H (.ok (.bl b) S) Q):wpAny (model X.prog X.w) X.A (call (.builtin "isinstance") [u,c2]) (EP X pins σ Q) X.xe s:=by
 unfold RD at q
 obtain ⟨a,C,o,rfl,hns,hat⟩:=q
 obtain ⟨Ca,hns',hE,_⟩:=T.ex c hc
 rw [hns] at hns'
 cases hns'
 cases (show u=Value.ref a from rv)
 have hx:=(I.hok a _ hat.1).2.1
 exact PySem.W.kia_one (kitx_exc hE T.gt T.tk) I.kIn hx (hk _ hns) (fun z=>nomatch z) fun tk=>⟨.bl b,H,I.tok tk,rfl,p.ret RD.mkB hS⟩
theorem xc_isx (T:Cls X.K cs ks isa):CallR X (.builtin "isinstance") (xC X.K E (fIsX cs ks isa)):=by
 rintro pins s σ H xs us Q I r ⟨w,S,ds,hS,qs,p⟩
 obtain ⟨z,hz,p'⟩:=p.of
 unfold fIsX at hz
 split at hz
 ·rename_i c k
  split at hz
  ·rename_i h
   cases hz
   obtain ⟨v,u,rfl,q,q'⟩:=qs.two_inv
   obtain ⟨v1,v2,rfl,rv,rt⟩:=vals2 r
   unfold RD at q'
   obtain ⟨C2,hn2,rfl⟩:=q'
   cases (show v2=Value.ref C2 from rt)
   refine exc_isi T I h.1 q rv hS (fun C hC=>?_) p'
   obtain ⟨C',D',e1,e2,e3⟩:=T.isa c h.1 k h.2
   rw [hC] at e1
   rw [hn2] at e2
   cases e1
   cases e2
   exact e3
  ·cases hz
 ·rename_i c t
  split at hz
  ·rename_i h
   cases hz
   obtain ⟨v,u,rfl,q,q'⟩:=qs.two_inv
   obtain ⟨v1,v2,rfl,rv,rt⟩:=vals2 r
   unfold RD at q'
   subst q'
   cases (show v2=Value.type t from rt)
   refine exc_isi T I h.1 q rv hS (fun C hC=>?_) p'
   obtain ⟨Ca,hn,_,hv⟩:=T.ex c h.1
   rw [hn] at hC
   cases hC
   rw [h.2]
   exact hv
  ·cases hz
 ·exact xc_isi pins s σ H xs us Q I r ⟨w,S,ds,hS,qs,by rw [hz]; exact p'⟩
noncomputable def ClsAt (K:PySem.W.Frag) (mg:Str→Option Value) (x:Str):Prop:=∃ C,mg x=some (.ref C)∧PySem.W.nsIn K mainGlobals x=some (some (.ref C))
theorem se_cls {x:Str} {pos:Pos} (h:ClsAt X.K X.mg x) (hg:Gl X x) (hd:autoParam ((x == ("__debug__":Str))=false) Au.h3._auto_1):SE X E (.Name x pos) (eC (.cls x)):=by
 obtain ⟨C,hm,hn⟩:=h
 exact se_c (pe_glob hg hm (v:=.ref C) rfl hd) fun _ _=>by unfold RD; exact ⟨C,hn,rfl⟩
noncomputable def TryAt (K:PySem.W.Frag) (mg:Str→Option Value) (x:Str) (cs:List Str):Prop:=∃ Cp,mg x=some Cp∧∀ y ∈ cs,∃ c,PySem.W.nsIn K mainGlobals y=some (some c)∧PySem.W.exmOne K c Cp=some true
end
end PD
namespace PD
open PySem PySem.Spec PyProof.Rows L2
section
variable {X:Cx} {E:XK}
end
end PD
namespace PD
open PySem PySem.Spec PyProof.Rows L2
section
variable {X:Cx} {E:XK}
end
end PD
namespace PD
open PySem PySem.Spec PyProof.Rows L2
open Classical in
section
variable {X:Cx} {E:XK} {c:Expr} {body:List Stmt} {mt:TM} {m:SM} {pos:Pos}
end
end PD
namespace PD
open PySem PySem.Spec PyProof.Rows L2
section
variable {X:Cx} {E:XK}
noncomputable def eqP (a b:D):Option Bool:=match eqS a b with
 | some c=>some c
 | none=>match toPy a,toPy b with
  | some p,some q=>if SeqAt.shaped p=true∧SeqAt.shaped q=true then some (PyData.eqv p q) else none
  | _,_=>none
noncomputable def oEqP:Sto→D→D→Option D:=fun _ a b=>(eqP a b).map .bl
noncomputable def oNeP:Sto→D→D→Option D:=fun _ a b=>(eqP a b).map fun c=>.bl (!c)
theorem eqP_cases {a b:D} {c:Bool} (h:eqP a b=some c):eqS a b=some c ∨ ∃ p q,toPy a=some p∧toPy b=some q∧SeqAt.shaped p=true∧SeqAt.shaped q=true∧c=PyData.eqv p q:=by
 unfold eqP at h
 split at h
 ·rename_i c' e; cases h; exact .inl e
 ·split at h
  ·rename_i p q e1 e2
   split at h
   ·rename_i hs; cases h; exact .inr ⟨p,q,e1,e2,hs.1,hs.2,rfl⟩
   ·cases h
  ·cases h
theorem xo_eqP {k:Nat} (hr:Room k X.A):OpR X (compareOp .Eq) (xO X.K E oEqP):=by
 rintro pins s σ H x y v u Q I rx ry ⟨w,S,d,e,hS,qd,qe,p⟩
 obtain ⟨z,hz,p⟩:=p.of
 unfold oEqP at hz
 cases h:eqP d e with
 | none=>rw [h] at hz; cases hz
 | some c=>
  rw [h] at hz; cases hz
  rcases eqP_cases h with h | ⟨a,b,e1,e2,s1,s2,rfl⟩
  ·exact xo_eq pins s σ H x y v u Q I rx ry ⟨w,S,d,e,hS,qd,qe,by unfold oEq; rw [h]; exact p⟩
  ·obtain ⟨as,r1,_⟩:=reads_ok I d x v a qd rx e1
   obtain ⟨bs,r2,_⟩:=reads_ok I e y u b qe ry e2
   exact eq_dataH r1 r2 s1 s2 hr.units ⟨.bl _,H,I,rfl,p.ret RD.mkB hS⟩
theorem xo_neP {k:Nat} (hr:Room k X.A):OpR X (compareOp .NotEq) (xO X.K E oNeP):=by
 rintro pins s σ H x y v u Q I rx ry ⟨w,S,d,e,hS,qd,qe,p⟩
 obtain ⟨z,hz,p⟩:=p.of
 unfold oNeP at hz
 cases h:eqP d e with
 | none=>rw [h] at hz; cases hz
 | some c=>
  rw [h] at hz; cases hz
  rcases eqP_cases h with h | ⟨a,b,e1,e2,s1,s2,rfl⟩
  ·exact xo_ne pins s σ H x y v u Q I rx ry ⟨w,S,d,e,hS,qd,qe,by unfold oNe; rw [h]; exact p⟩
  ·obtain ⟨as,r1,_⟩:=reads_ok I d x v a qd rx e1
   obtain ⟨bs,r2,_⟩:=reads_ok I e y u b qe ry e2
   exact ne_dataH r1 r2 s1 s2 hr.units ⟨.bl _,H,I,rfl,p.ret RD.mkB hS⟩
end
end PD
namespace PD
open PySem PySem.Spec PyProof.Rows L2
theorem law_spN {f:FM} (h:∀ ns:List Int,ns.length≤63→∃ S,f [.fz (ns.map .int)] []=.ok (.bl true) S) (K:PySem.W.Frag) (H:Hp) (a:Addr) (ns:List Int) (hn:ns.length≤63) (ho:Only H) (hs:SqL K H a (ns.map V.int)):
  spN K 1 f [.ref a] H (fun v _=>v=.bl true) fun _ _ _=>False:=law_sp h K H a ns hn ho hs
theorem cx1_no {P:Program} {w:World} {l:List Env} {H:Hp} {s s':Shared} {e:Value} (h:CX1 P w l H s (fun _ _ _=>False) e s'):False:=by
 obtain ⟨_,_,_,_,_,_,_,_,_,z⟩:=h
 exact z
theorem exk_mk {K:PySem.W.Frag} {C:Addr} {cd:ClassData} (g1:PySem.W.findIn K (.ref C) "__getattribute__" = some (some (.builtin "BaseException.__getattribute__"))) (g2:PySem.W.findIn K (.ref C) "__getattr__" = some none)
  (g3:PySem.W.findIn K (.ref C) "__class__" = some (some (.builtin "object.__class__"))) (m1:PySem.W.mroIn K C (.type "BaseException")=some true) (m2:PySem.W.mroIn K C (.type "object")=some true) (c:PySem.W.clsIn K C=some cd):ExK K C:=
 ⟨g1,g2,g3,m1,m2,by rw [c]; rfl⟩
end PD
namespace SQ
open PySem PySem.Spec PyProof.Rows
open Sem (wp)
noncomputable def nm:Bool→String
 | true=>"tuple_iterator"
 | false=>"list_iterator"
noncomputable def Is:Bool→Heap→Addr→Array Value→Prop
 | true,h,a,xs=>h.IsTuple a xs
 | false,h,a,xs=>h.IsList a xs
noncomputable def It (k:Bool) (h:Heap) (it a:Addr) (i:Nat):Prop:=∃ o,h.get? it=some o∧o.cls=.type (nm k)∧o.data=.fields #[.ref a,.int i 0]
theorem It.move {k:Bool} {h h':Heap} {it a:Addr} {i:Nat} (x:It k h it a i) (q:∀ o,h.get? it=some o→h'.get? it=some o):It k h' it a i:=let ⟨o,e,r⟩:=x; ⟨o,q o e,r⟩
theorem Is.move {k:Bool} {h h':Heap} {a:Addr} {xs:Array Value} (x:Is k h a xs) (q:∀ o,h.get? a=some o→h'.get? a=some o):Is k h' a xs:=by
 cases k with
 | true=>obtain ⟨o,e,r⟩:=x; exact ⟨o,q o e,r⟩
 | false=>obtain ⟨o,e,r⟩:=x; exact ⟨o,q o e,r⟩
theorem Is.obj {k:Bool} {h:Heap} {a:Addr} {xs:Array Value} (x:Is k h a xs):∃ o,h.get? a=some o∧(o.cls=.type "tuple" ∨ o.cls=.type "list")∧∃ n,o.data=.seq xs n:=by
 cases k with
 | true=>obtain ⟨o,e,c,n,d⟩:=x; exact ⟨o,e,.inl c,n,d⟩
 | false=>obtain ⟨o,e,c,n,d⟩:=x; exact ⟨o,e,.inr c,n,d⟩
section
variable {prog:Program} {w:World} {A:Around} {E:Value→Shared→Prop} {s:Shared}
theorem iter {k:Bool} {t:Addr} {items} {Q:Value→Shared→Prop} (ht:Is k s.heap t items)
  (hQ:Q (.ref s.heap.objs.size) { s with heap:=s.heap.push { cls:=.type (nm k),data:=.fields #[.ref t,.int 0 0] } }):wpAny (model prog w) A (pyIter (.ref t)) Q E s:=by
 cases k with
 | true=>exact wpAny_pyIter_tuple ht hQ
 | false=>exact wpAny_pyIter_list ht hQ
theorem next_tup {it l:Addr} {i:Nat} {items} {x:Value} {Q:Value→Shared→Prop} (hit:s.heap.IsTupleIter it l i) (hl:s.heap.IsTuple l items) (hx:items[i]?=some x)
  (hQ:∀ h',h'.IsTupleIter it l (i + 1)→Heap.SameBut it s.heap h'→Q x { s with heap:=h' }):wpAny (model prog w) A (Builtin.SmallTypes.nextOf (.ref it)) Q E s:=by
 obtain ⟨o,ho,hc,hd⟩:=id hit; obtain ⟨ol,hol,_,nl,hdl⟩:=hl
 unfold Builtin.SmallTypes.nextOf; refine wpAny_bind (wpAny_callSpecial?_slot (name:=Str.ofString "__next__") hit.typeIs F.slot_tuple_iterator_next (wpAny_call_entry F.slot_tuple_iterator_next hit.typeIs F.entry_tuple_iterator_next ?_ (F.args_tuple_iterator_next_1 _)))
 show wpAny _ _ (field (.ref it) 0 >>= _) _ _ s; refine wpAny_bind (wpAny_field ho hd (x:=.ref l) rfl ?_); show wpAny _ _ (if (Value.ref l == Value.none)=true then _ else _) _ _ s
 rw [if_neg (show ¬ ((Value.ref l == Value.none)=true) from Bool.false_ne_true)]; show wpAny _ _ (field (.ref it) 1 >>= _) _ _ s; refine wpAny_bind (wpAny_field ho hd (x:=.int i 0) rfl ?_)
 show wpAny _ _ (seqItems? (.ref l) >>= _) _ _ s; refine wpAny_bind (wpAny_seqItems hol hdl ?_); simp only [Int.toNat_natCast,hx]
 refine wpAny_bind (wpAny_setField ho hd (by simp) (wpAny_pure ⟨x,rfl,wpAny_pure (hQ _ ?_ (Heap.SameBut.update ..))⟩)); exact ⟨_,Heap.get?_update_self _ ho (Obj.isFreed_of_fields (Obj.data_mapFields hd _)),(Obj.cls_mapFields ..).trans hc,by rw [Obj.data_mapFields hd]; simp [rawInt]⟩
theorem end_tup {it l:Addr} {i:Nat} {items} {Q:Value→Shared→Prop} (hh:A.handled=none) (hit:s.heap.IsTupleIter it l i) (hl:s.heap.IsTuple l items) (hx:items[i]?=none)
  (hE:∀ h' e,Heap.ExtBut it s.heap h'→(∃ o,h'.get? e=some o∧o.cls=.type "StopIteration")→E (.ref e) { s with heap:=h' }):wpAny (model prog w) A (Builtin.SmallTypes.nextOf (.ref it)) Q E s:=by
 obtain ⟨o,ho,hc,hd⟩:=id hit; obtain ⟨ol,hol,_,nl,hdl⟩:=hl
 unfold Builtin.SmallTypes.nextOf; refine wpAny_bind (wpAny_callSpecial?_slot (name:=Str.ofString "__next__") hit.typeIs F.slot_tuple_iterator_next (wpAny_call_entry F.slot_tuple_iterator_next hit.typeIs F.entry_tuple_iterator_next ?_ (F.args_tuple_iterator_next_1 _)))
 show wpAny _ _ (field (.ref it) 0 >>= _) _ _ s; refine wpAny_bind (wpAny_field ho hd (x:=.ref l) rfl ?_); show wpAny _ _ (if (Value.ref l == Value.none)=true then _ else _) _ _ s
 rw [if_neg (show ¬ ((Value.ref l == Value.none)=true) from Bool.false_ne_true)]; show wpAny _ _ (field (.ref it) 1 >>= _) _ _ s; refine wpAny_bind (wpAny_field ho hd (x:=.int i 0) rfl ?_)
 show wpAny _ _ (seqItems? (.ref l) >>= _) _ _ s; refine wpAny_bind (wpAny_seqItems hol hdl ?_); simp only [Int.toNat_natCast,hx]
 refine wpAny_bind (wpAny_rule (wpAny_bind (wpAny_setField ho hd (by simp) ?_))); show wpAny _ _ (newExc (.type "StopIteration") [] >>= _) _ _ _; refine wpAny_bind ?_
 simp only [newExc,newTuple]; refine wpAny_bind (wpAny_newObj_type ?_ (by size_fits)); refine wpAny_bind (m:=firstArgMember _ _) (wpAny_of_eq (a:=Value.none) (by first | rfl | (simp only [firstArgMember]; rfl)) ?_)
 refine wpAny_newObj_type ?_ (by size_fits); simp only [raiseNew]; refine wpAny_bind (wpAny_handled ?_); first | rw [show A.in1.handled=none from hh] | rw [hh]
 refine wpAny_bind (wpAny_pure (wpAny_throw ?_)); exact hE _ _ (((Heap.SameBut.update ..).extBut.push _).push _) ⟨_,Heap.get?_push_size _ rfl,rfl⟩
theorem next {k:Bool} {it l:Addr} {i:Nat} {items} {x:Value} {Q:Value→Shared→Prop} (hit:It k s.heap it l i) (hl:Is k s.heap l items) (hx:items[i]?=some x)
  (hQ:∀ h',It k h' it l (i + 1)→Heap.SameBut it s.heap h'→Q x { s with heap:=h' }):wpAny (model prog w) A (Builtin.SmallTypes.nextOf (.ref it)) Q E s:=by
 cases k with
 | true=>exact next_tup hit hl hx hQ
 | false=>exact wpAny_nextOf_list_item hit hl hx hQ
theorem ends {k:Bool} {it l:Addr} {i:Nat} {items} {Q:Value→Shared→Prop} (hh:A.handled=none) (hit:It k s.heap it l i) (hl:Is k s.heap l items) (hx:items[i]?=none)
  (hE:∀ h' e,Heap.ExtBut it s.heap h'→(∃ o,h'.get? e=some o∧o.cls=.type "StopIteration")→E (.ref e) { s with heap:=h' }):wpAny (model prog w) A (Builtin.SmallTypes.nextOf (.ref it)) Q E s:=by
 cases k with
 | true=>exact end_tup hh hit hl hx hE
 | false=>exact wpAny_nextOf_list_end hh hit hl hx hE
structure Apart (z TI TO i1 i2 l1 l2:Addr):Prop where
 a:TI ≠ z∧TO ≠ z∧i1 ≠ z∧i2 ≠ z∧TI ≠ TO∧TI ≠ i1∧TI ≠ i2
 b:TO ≠ i1∧TO ≠ i2∧i1 ≠ i2
 c:l1 ≠ z∧l1 ≠ TO∧l1 ≠ i1∧l1 ≠ i2
 d:l2 ≠ z∧l2 ≠ TO∧l2 ≠ i1∧l2 ≠ i2
theorem sb {t b:Addr} {h h':Heap} {o:Obj} (hs:Heap.SameBut t h h') (n:b ≠ t) (e:h.get? b=some o):h'.get? b=some o:=(hs.2 b n).trans e
theorem zip_item {k m:Bool} {z TI TO i1 i2 l1 l2:Addr} {k1 k2:Nat} {xs ys:Array Value} {x y a b:Value} {Q:Value→Shared→Prop} (D:Apart z TI TO i1 i2 l1 l2)
  (hz:IsZip s.heap z TI TO .none) (hTI:IsPair s.heap TI (.ref i1) (.ref i2)) (hTO:IsPair s.heap TO a b)
  (h1:It k s.heap i1 l1 k1) (h2:It m s.heap i2 l2 k2) (hl1:Is k s.heap l1 xs) (hl2:Is m s.heap l2 ys) (hx:xs[k1]?=some x) (hy:ys[k2]?=some y)
  (hQ:∀ h',IsZip h' z TI TO (rawInt s.heap.objs.size)→IsPair h' TO x y→It k h' i1 l1 (k1 + 1)→It m h' i2 l2 (k2 + 1)→IsPair h' s.heap.objs.size x y→h'.objs.size=s.heap.objs.size + 1→
   (∀ c o,c ∉ [z,TI,TO,i1,i2]→s.heap.get? c=some o→h'.get? c=some o)→IsPair h' TI (.ref i1) (.ref i2)→Q (.ref s.heap.objs.size) { s with heap:=h' }):
  wpAny (model prog w) A (Builtin.«zip.__next__» ⟨[.ref z],[]⟩) (fun fin s'=>∃ v,fin=.done (.ret v)∧Q v s') E s:=by
 obtain ⟨⟨nTIz,nTOz,n1z,n2z,nTITO,nTI1,nTI2⟩,⟨nTO1,nTO2,n12⟩,⟨p1,p2,p3,p4⟩,⟨q1,q2,q3,q4⟩⟩:=D
 show wpAny _ _ (field (.ref z) 2 >>= _) _ _ _; refine wpAny_bind (wpAny_field hz rfl (x:=.bool false) rfl ?_); show wpAny _ _ (field (.ref z) 3 >>= _) _ _ _
 refine wpAny_bind (wpAny_field hz rfl (x:=.ref TI) rfl ?_); refine wpAny_bind (wpAny_seqItems hTI rfl ?_); show wpAny _ _ (Builtin.SmallTypes.ownedTupleIsFree (.ref z) >>= _) _ _ _
 refine wpAny_bind ?_; unfold Builtin.SmallTypes.ownedTupleIsFree; refine wpAny_bind (wpAny_field hz rfl (x:=.none) rfl (wpAny_pure ?_)); simp only [if_true]
 refine wpAny_bind (wpAny_rule ?_); refine wpAny_bind (wpAny_field hz rfl (x:=.ref TO) rfl ?_); refine wpAny_bind (wpAny_setField_rec hz (by simp) fun h₁ hz₁ s1=>?_)
 replace hz₁:IsZip h₁ z TI TO .ellipsis:=hz₁; refine wpAny_bind ?_; simp only [List.zipIdx_cons,List.zipIdx_nil,List.forIn_cons,List.forIn_nil]
 refine wpAny_bind (wpAny_bind (wpAny_onRaise ?_)); show wpAny _ _ (Builtin.SmallTypes.nextOf (.ref i1) >>= _) _ _ _
 refine wpAny_bind (next (h1.move fun o=>sb s1 n1z) (hl1.move fun o=>sb s1 p1) hx fun h₂ h1₂ s2=>wpAny_pure ?_)
 have hTO₂:IsPair h₂ TO a b:=sb s2 nTO1 (sb s1 nTOz hTO)
 refine wpAny_bind (wpAny_seqItems hTO₂ rfl ?_); refine wpAny_bind (wpAny_updateSeq_pair hTO₂ fun h₃ hTO₃ s3=>?_)
 replace hTO₃:IsPair h₃ TO x b:=hTO₃
 refine wpAny_bind (wpAny_letGo (wpAny_pure ?_)); refine wpAny_bind (wpAny_bind (wpAny_onRaise ?_)); show wpAny _ _ (Builtin.SmallTypes.nextOf (.ref i2) >>= _) _ _ _
 refine wpAny_bind (next (h2.move fun o e=>sb s3 nTO2.symm (sb s2 n12.symm (sb s1 n2z e))) (hl2.move fun o e=>sb s3 q2 (sb s2 q3 (sb s1 q1 e))) hy fun h₄ h2₄ s4=>wpAny_pure ?_)
 have hTO₄:IsPair h₄ TO x b:=sb s4 nTO2 hTO₃
 refine wpAny_bind (wpAny_seqItems hTO₄ rfl ?_); refine wpAny_bind (wpAny_updateSeq_pair hTO₄ fun h₅ hTO₅ s5=>?_)
 replace hTO₅:IsPair h₅ TO x y:=hTO₅
 refine wpAny_bind (wpAny_letGo (wpAny_pure (wpAny_pure ?_))); refine wpAny_bind (wpAny_seqItems hTO₅ rfl ?_); refine wpAny_bind (wpAny_newTuple ?_)
 have hsz:h₅.objs.size=s.heap.objs.size:=by rw [s5.1,s4.1,s3.1,s2.1,s1.1]
 have k5:∀ c o,c ≠ z→c ≠ TO→c ≠ i1→c ≠ i2→s.heap.get? c=some o→h₅.get? c=some o:=fun c o c1 c2 c3 c4 e=>sb s5 c2 (sb s4 c4 (sb s3 c2 (sb s2 c3 (sb s1 c1 e))))
 have hz₅:IsZip h₅ z TI TO .ellipsis:=sb s5 nTOz.symm (sb s4 n2z.symm (sb s3 nTOz.symm (sb s2 n1z.symm hz₁)))
 have h1₅:It k h₅ i1 l1 (k1 + 1):=h1₂.move fun o e=>sb s5 nTO1.symm (sb s4 n12 (sb s3 nTO1.symm e))
 have h2₅:It m h₅ i2 l2 (k2 + 1):=h2₄.move fun o e=>sb s5 nTO2.symm e
 have zlt:z < h₅.objs.size:=Heap.lt_size hz₅
 show wpAny _ _ (Builtin.SmallTypes.ownedTupleHandOut (.ref z) (.ref h₅.objs.size) >>= _) _ _ _; refine wpAny_bind ?_; unfold Builtin.SmallTypes.ownedTupleHandOut
 have hz₆:IsZip (h₅.push { cls:=.type "tuple",data:=.seq #[x,y] }) z TI TO .ellipsis:=Heap.get?_push_of_some _ hz₅
 refine wpAny_bind (wpAny_setField_rec hz₆ (by simp) fun h₇ hz₇ s7=>?_); replace hz₇:IsZip h₇ z TI TO (rawInt h₅.objs.size):=hz₇
 refine wpAny_setField_rec hz₇ (by simp) fun h₈ hz₈ s8=>?_; replace hz₈:IsZip h₈ z TI TO (rawInt h₅.objs.size):=hz₈
 have up:∀ c o,c ≠ z→h₅.get? c=some o→h₈.get? c=some o:=fun c o c1 e=>sb s8 c1 (sb s7 c1 (Heap.get?_push_of_some _ e))
 have hT₈:IsPair h₈ h₅.objs.size x y:=sb s8 (Nat.ne_of_gt zlt) (sb s7 (Nat.ne_of_gt zlt) (Heap.get?_push_size _ rfl))
 have hz8:h₈.objs.size=h₅.objs.size + 1:=by rw [s8.1,s7.1,Heap.size_push]
 rw [hsz] at hz₈ hT₈ hz8; refine wpAny_pure ⟨_,rfl,?_⟩; show Q (.ref h₅.objs.size) _; rw [hsz]
 refine hQ h₈ hz₈ (up _ _ nTOz hTO₅) (h1₅.move fun o e=>up _ o n1z e) (h2₅.move fun o e=>up _ o n2z e) hT₈ hz8 (fun c o hc e=>?_) (up _ _ nTIz (k5 _ _ nTIz nTITO nTI1 nTI2 hTI))
 simp only [List.mem_cons,List.not_mem_nil,or_false,not_or] at hc; exact up c o hc.1 (k5 c o hc.1 hc.2.2.1 hc.2.2.2.1 hc.2.2.2.2 e)
theorem zip_end {k m:Bool} {z TI TO i1 i2 l1 l2:Addr} {k1 k2:Nat} {xs ys:Array Value} {a b:Value} {Q:Fin→Shared→Prop} (hh:A.handled=none) (D:Apart z TI TO i1 i2 l1 l2)
  (hz:IsZip s.heap z TI TO .none) (hTI:IsPair s.heap TI (.ref i1) (.ref i2)) (hTO:IsPair s.heap TO a b)
  (h1:It k s.heap i1 l1 k1) (h2:It m s.heap i2 l2 k2) (hl1:Is k s.heap l1 xs) (hl2:Is m s.heap l2 ys) (hend:xs[k1]?=none ∨ ys[k2]?=none)
  (hE:∀ h' e,(∀ c o,c ∉ [z,TI,TO,i1,i2]→s.heap.get? c=some o→h'.get? c=some o)→(∃ o,h'.get? e=some o∧o.cls=.type "StopIteration")→E (.ref e) { s with heap:=h' }):
  wpAny (model prog w) A (Builtin.«zip.__next__» ⟨[.ref z],[]⟩) Q E s:=by
 obtain ⟨⟨nTIz,nTOz,n1z,n2z,nTITO,nTI1,nTI2⟩,⟨nTO1,nTO2,n12⟩,⟨p1,p2,p3,p4⟩,⟨q1,q2,q3,q4⟩⟩:=D
 show wpAny _ _ (field (.ref z) 2 >>= _) _ _ _; refine wpAny_bind (wpAny_field hz rfl (x:=.bool false) rfl ?_); show wpAny _ _ (field (.ref z) 3 >>= _) _ _ _
 refine wpAny_bind (wpAny_field hz rfl (x:=.ref TI) rfl ?_); refine wpAny_bind (wpAny_seqItems hTI rfl ?_); show wpAny _ _ (Builtin.SmallTypes.ownedTupleIsFree (.ref z) >>= _) _ _ _
 refine wpAny_bind ?_; unfold Builtin.SmallTypes.ownedTupleIsFree; refine wpAny_bind (wpAny_field hz rfl (x:=.none) rfl (wpAny_pure ?_)); simp only [if_true]
 refine wpAny_bind (wpAny_rule ?_); refine wpAny_bind (wpAny_field hz rfl (x:=.ref TO) rfl ?_); refine wpAny_bind (wpAny_setField_rec hz (by simp) fun h₁ hz₁ s1=>?_)
 replace hz₁:IsZip h₁ z TI TO .ellipsis:=hz₁; refine wpAny_bind ?_; simp only [List.zipIdx_cons,List.zipIdx_nil,List.forIn_cons,List.forIn_nil]
 refine wpAny_bind (wpAny_bind (wpAny_onRaise ?_)); show wpAny _ _ (Builtin.SmallTypes.nextOf (.ref i1) >>= _) _ _ _
 cases hx:xs[k1]? with
 | none=>
  refine wpAny_bind (ends hh (h1.move fun o=>sb s1 n1z) (hl1.move fun o=>sb s1 p1) hx fun h₂ e s2 he=>?_)
  obtain ⟨oe,hoe,hce⟩:=he; have hz₂:IsZip h₂ z TI TO .ellipsis:=s2 _ _ n1z.symm hz₁
  have hez:e ≠ z:=fun x=>by subst x; rw [hz₂] at hoe; cases hoe; simp at hce
  refine wpAny_setField_rec hz₂ (by simp) fun h₃ _ s3=>hE h₃ e (fun c o hc x=>?_) ⟨oe,sb s3 hez hoe,hce⟩
  simp only [List.mem_cons,List.not_mem_nil,or_false,not_or] at hc; exact sb s3 hc.1 (s2 _ _ hc.2.2.2.1 (sb s1 hc.1 x))
 | some x=>
  have hy:ys[k2]?=none:=hend.resolve_left fun h=>by rw [hx] at h; cases h
  refine wpAny_bind (next (h1.move fun o=>sb s1 n1z) (hl1.move fun o=>sb s1 p1) hx fun h₂ h1₂ s2=>wpAny_pure ?_)
  have hTO₂:IsPair h₂ TO a b:=sb s2 nTO1 (sb s1 nTOz hTO)
  refine wpAny_bind (wpAny_seqItems hTO₂ rfl ?_); refine wpAny_bind (wpAny_updateSeq_pair hTO₂ fun h₃ hTO₃ s3=>?_)
  refine wpAny_bind (wpAny_letGo (wpAny_pure ?_)); refine wpAny_bind (wpAny_bind (wpAny_onRaise ?_)); show wpAny _ _ (Builtin.SmallTypes.nextOf (.ref i2) >>= _) _ _ _
  refine wpAny_bind (ends hh (h2.move fun o e=>sb s3 nTO2.symm (sb s2 n12.symm (sb s1 n2z e))) (hl2.move fun o e=>sb s3 q2 (sb s2 q3 (sb s1 q1 e))) hy fun h₄ e s4 he=>?_)
  obtain ⟨oe,hoe,hce⟩:=he; have hz₄:IsZip h₄ z TI TO .ellipsis:=s4 _ _ n2z.symm (sb s3 nTOz.symm (sb s2 n1z.symm hz₁))
  have hez:e ≠ z:=fun x=>by subst x; rw [hz₄] at hoe; cases hoe; simp at hce
  refine wpAny_setField_rec hz₄ (by simp) fun h₅ _ s5=>hE h₅ e (fun c o hc x=>?_) ⟨oe,sb s5 hez hoe,hce⟩
  simp only [List.mem_cons,List.not_mem_nil,or_false,not_or] at hc; exact sb s5 hc.1 (s4 _ _ hc.2.2.2.2 (sb s3 hc.2.2.1 (sb s2 hc.2.2.2.1 (sb s1 hc.1 x))))
theorem zip_next {k m:Bool} {z TI TO i1 i2 l1 l2:Addr} {k1 k2:Nat} {xs ys:Array Value} {x y a b:Value} {Q:Option Value→Shared→Prop} (D:Apart z TI TO i1 i2 l1 l2)
  (hz:IsZip s.heap z TI TO .none) (hTI:IsPair s.heap TI (.ref i1) (.ref i2)) (hTO:IsPair s.heap TO a b)
  (h1:It k s.heap i1 l1 k1) (h2:It m s.heap i2 l2 k2) (hl1:Is k s.heap l1 xs) (hl2:Is m s.heap l2 ys) (hx:xs[k1]?=some x) (hy:ys[k2]?=some y)
  (hQ:∀ h',IsZip h' z TI TO (rawInt s.heap.objs.size)→IsPair h' TO x y→It k h' i1 l1 (k1 + 1)→It m h' i2 l2 (k2 + 1)→IsPair h' s.heap.objs.size x y→h'.objs.size=s.heap.objs.size + 1→
   (∀ c o,c ∉ [z,TI,TO,i1,i2]→s.heap.get? c=some o→h'.get? c=some o)→IsPair h' TI (.ref i1) (.ref i2)→Q (some (.ref s.heap.objs.size)) { s with heap:=h' }):wpAny (model prog w) A (pyNext (.ref z)) Q E s:=by
 have hT:s.TypeIs (.ref z) "zip":=⟨_,hz,rfl⟩; unfold pyNext
 exact wpAny_bind (wpAny_attempt (wpAny_callSpecial?_slot (name:=Str.ofString "__next__") hT F.slot_zip_next (wpAny_call_entry F.slot_zip_next hT F.entry_zip_next (zip_item D hz hTI hTO h1 h2 hl1 hl2 hx hy fun h' a1 a2 a3 a4 a5 a6 a7 a8=>wpAny_pure (hQ h' a1 a2 a3 a4 a5 a6 a7 a8)) (F.args_zip_next_1 _))))
theorem zip_stop {k m:Bool} {z TI TO i1 i2 l1 l2:Addr} {k1 k2:Nat} {xs ys:Array Value} {a b:Value} {Q:Option Value→Shared→Prop} (hh:A.handled=none) (D:Apart z TI TO i1 i2 l1 l2)
  (hz:IsZip s.heap z TI TO .none) (hTI:IsPair s.heap TI (.ref i1) (.ref i2)) (hTO:IsPair s.heap TO a b)
  (h1:It k s.heap i1 l1 k1) (h2:It m s.heap i2 l2 k2) (hl1:Is k s.heap l1 xs) (hl2:Is m s.heap l2 ys) (hend:xs[k1]?=none ∨ ys[k2]?=none)
  (hQ:∀ h',(∀ c o,c ∉ [z,TI,TO,i1,i2]→s.heap.get? c=some o→h'.get? c=some o)→Q none { s with heap:=h' }):wpAny (model prog w) A (pyNext (.ref z)) Q E s:=by
 have hT:s.TypeIs (.ref z) "zip":=⟨_,hz,rfl⟩; unfold pyNext
 refine wpAny_bind (wpAny_attempt (wpAny_callSpecial?_slot (name:=Str.ofString "__next__") hT F.slot_zip_next (wpAny_call_entry F.slot_zip_next hT F.entry_zip_next (zip_end hh D hz hTI hTO h1 h2 hl1 hl2 hend fun h' e hk he=>?_) (F.args_zip_next_1 _))))
 obtain ⟨o,ho,hc⟩:=he; refine wpAny_bind (wpAny_isInstance (T:="StopIteration") (b:=true) ⟨o,ho,hc⟩ isSubtype_stop ?_); exact wpAny_pure (hQ _ hk)
end
noncomputable abbrev z1 (k:Bool) (h:Heap) (l1:Addr):Heap:=h.push { cls:=.type (nm k),data:=.fields #[.ref l1,.int 0 0] }
noncomputable abbrev z2 (k m:Bool) (h:Heap) (l1 l2:Addr):Heap:=(z1 k h l1).push { cls:=.type (nm m),data:=.fields #[.ref l2,.int 0 0] }
noncomputable abbrev z3 (k m:Bool) (h:Heap) (l1 l2:Addr):Heap:=(z2 k m h l1 l2).push { cls:=.type "tuple",data:=.seq #[.ref h.objs.size,.ref (z1 k h l1).objs.size] }
noncomputable abbrev z4 (k m:Bool) (h:Heap) (l1 l2:Addr):Heap:=(z3 k m h l1 l2).push { cls:=.type "tuple",data:=.seq #[.none,.none] }
noncomputable abbrev z5 (k m:Bool) (h:Heap) (l1 l2:Addr):Heap:=(z4 k m h l1 l2).push { cls:=.type "zip",data:=.fields #[.none,.bool false,.bool false,.ref (z2 k m h l1 l2).objs.size,.ref (z3 k m h l1 l2).objs.size] }
theorem zip_meets (k m:Bool) (l1 l2:Addr) (xs ys:Array Value):
  Meets (Builtin.«zip.__new__» ⟨[.type "zip",.ref l1,.ref l2],[]⟩) (fun _ R s=>Is k s.heap l1 xs∧Is m s.heap l2 ys∧R (.ok (.ret (.ref (z4 k m s.heap l1 l2).objs.size))) { s with heap:=z5 k m s.heap l1 l2 }):=
 .of_wp fun prog w A R s h=>by
  obtain ⟨hp,g,d,tk,os⟩:=s; obtain ⟨hl1,hl2,h⟩:=h; have hsub:=sub_zip
  have hL1:Is k (Shared.heap ⟨hp,g,d,tk,os⟩) l1 xs:=hl1
  have hL2:Is m (Shared.heap ⟨hp.push { cls:=.type (nm k),data:=.fields #[.ref l1,.int 0 0] },g,d,tk,os⟩) l2 ys:=hl2.move fun o e=>Heap.get?_push_of_some _ e
  wp_walk using iter hL1,iter hL2
  exact ⟨_,rfl,h⟩
section
variable {prog:Program} {w:World} {A:Around} {E:Value→Shared→Prop} {s:Shared}
theorem call_zip {k m:Bool} {l1 l2:Addr} {xs ys:Array Value} {Q:Value→Shared→Prop} (hl1:Is k s.heap l1 xs) (hl2:Is m s.heap l2 ys)
  (h:∀ h',IsZip h' (s.heap.objs.size + 4) (s.heap.objs.size + 2) (s.heap.objs.size + 3) .none→IsPair h' (s.heap.objs.size + 2) (.ref s.heap.objs.size) (.ref (s.heap.objs.size + 1))→
   IsPair h' (s.heap.objs.size + 3) .none .none→It k h' s.heap.objs.size l1 0→It m h' (s.heap.objs.size + 1) l2 0→h'.objs.size=s.heap.objs.size + 5→
   (∀ c o,s.heap.get? c=some o→h'.get? c=some o)→Q (.ref (s.heap.objs.size + 4)) { s with heap:=h' }):wpAny (model prog w) A (call (.type "zip") [.ref l1,.ref l2]) Q E s:=by
 refine callType_new F.called_zip (by decide) (F.typeCall_zip_2 _ _) (F.newCall_zip_2 _ _) (fun obj=>F.args_object_init_3 obj _ _) F.entry_zip_new (zip_meets k m l1 l2 xs ys) ⟨hl1,hl2,?_⟩
 have e1:(z1 k s.heap l1).objs.size=s.heap.objs.size + 1:=Heap.size_push ..
 have e2:(z2 k m s.heap l1 l2).objs.size=s.heap.objs.size + 2:=by rw [Heap.size_push,e1]
 have e3:(z3 k m s.heap l1 l2).objs.size=s.heap.objs.size + 3:=by rw [Heap.size_push,e2]
 have e4:(z4 k m s.heap l1 l2).objs.size=s.heap.objs.size + 4:=by rw [Heap.size_push,e3]
 have e5:(z5 k m s.heap l1 l2).objs.size=s.heap.objs.size + 5:=by rw [Heap.size_push,e4]
 have g5:(z5 k m s.heap l1 l2).get? (z4 k m s.heap l1 l2).objs.size=some _:=Heap.get?_push_size _ rfl
 have g4:(z5 k m s.heap l1 l2).get? (z3 k m s.heap l1 l2).objs.size=some _:=Heap.get?_push_of_some _ (Heap.get?_push_size _ rfl)
 have g3:(z5 k m s.heap l1 l2).get? (z2 k m s.heap l1 l2).objs.size=some _:=Heap.get?_push_of_some _ (Heap.get?_push_of_some _ (Heap.get?_push_size _ rfl))
 have g2:(z5 k m s.heap l1 l2).get? (z1 k s.heap l1).objs.size=some _:=Heap.get?_push_of_some _ (Heap.get?_push_of_some _ (Heap.get?_push_of_some _ (Heap.get?_push_size _ rfl)))
 have g1:(z5 k m s.heap l1 l2).get? s.heap.objs.size=some _:=Heap.get?_push_of_some _ (Heap.get?_push_of_some _ (Heap.get?_push_of_some _ (Heap.get?_push_of_some _ (Heap.get?_push_size _ rfl))))
 show _∧_; rw [e2,e3,e4] at g5; rw [e1,e2] at g3; rw [e3] at g4; rw [e1] at g2; rw [e4]
 exact ⟨⟨_,g5,rfl⟩,h _ g5 g3 g4 ⟨_,g1,rfl,rfl⟩ ⟨_,g2,rfl,rfl⟩ e5 fun c o x=>Heap.get?_push_of_some _ (Heap.get?_push_of_some _ (Heap.get?_push_of_some _ (Heap.get?_push_of_some _ (Heap.get?_push_of_some _ x))))⟩
end
section
variable {prog:Program} {w:World} {A:Around} {E:Value→Shared→Prop} {s:Shared}
end
end SQ
namespace L2
open PySem PySem.Spec PyProof.Rows
section
variable {X:Cx} {pins:List (Addr × Obj)} {σ:St} {H:Hp} {s:Shared} {h':Heap}
theorem Inv.turnedS {t':Nat} {fp:List Addr} (I:Inv X pins σ H s) (k:∀ b o,b ∉ fp→s.heap.get? b=some o→h'.get? b=some o) (hf:∀ b ∈ fp,FpOk X pins H b):Inv X pins σ H { s with heap:=h',toks:=t' }:=by
 refine I.step (g':=s.gens) (d':=s.drawn) (ch:=fp) (fun b hb=>?_) (fun b o _ _ hc e _=>k b o hc e) (fun b o _ _ hc e _=>⟨o.slots,k b o hc e⟩) (fun _ _ _ _ n=>n)
  (fun b o hc e=>⟨o,k b o hc e⟩) (fun _ _ e=>e) (fun _ _ _ e=>e) (fun b ps e=>⟨#[],by rw [e]; simp⟩) (fun m hm=>?_) (fun b u e=>?_) I.bare
 ·obtain ⟨f0,f1,f2,f3,f4,f5⟩:=hf b hb; exact ⟨f3,f1,f4,f5⟩
 ·obtain ⟨o,es,ep,ho,r⟩:=hm
  exact ⟨o,es,ep,k _ o (fun z=>(hf _ z).2.1 rfl) ho,r⟩
 ·refine (I.hok b u e).stay (fun c v hc q=>k c v (fun z=>?_) q) (fun _ q=>q) fun _ _ q=>q
  have hn:=(hf c z).1
  rcases hc with y | y
  ·rw [y,e] at hn; cases hn
  ·rw [y] at hn; cases hn
theorem Inv.turnedP {t':Nat} {fp:List Addr} {x y:V} {u v:Value} (I:Inv X pins σ H s) (hf:∀ b ∈ fp,FpOk X pins H b) (hlt:∀ b ∈ fp,b < s.heap.objs.size) (rx:RelV x u) (ry:RelV y v)
  (k:∀ b o,b ∉ fp→s.heap.get? b=some o→h'.get? b=some o) (hp:IsPair h' s.heap.objs.size u v):Inv X pins σ (upd H s.heap.objs.size (.tup [x,y])) { s with heap:=h',toks:=t' }:=by
 have I1:Inv X pins σ (upd H s.heap.objs.size (.tup [x,y])) { s with heap:=s.heap.push { cls:=.type "tuple",data:=.seq #[u,v] },toks:=t' }:=
  I.laid (t':=t') (fun b u e=>Heap.get?_push_of_some _ e) (Nat.le_refl _) ⟨by show 2≤sizeLine; decide,[u,v],.cons rx (.cons ry .nil),⟨_,Heap.get?_push_size _ rfl,rfl,_,rfl⟩⟩
 refine Inv.turnedS (s:={ s with heap:=s.heap.push { cls:=.type "tuple",data:=.seq #[u,v] },toks:=t' }) (fp:=fp) (t':=t') (h':=h') I1 (fun b o hb e=>?_) fun b hb=>?_
 ·rcases Heap.get?_push_cases e with ⟨rfl,rfl⟩ | e
  ·exact hp
  ·exact k b o hb e
 ·obtain ⟨f0,f1⟩:=hf b hb
  exact ⟨by rw [upd_ne (Nat.ne_of_lt (hlt b hb))]; exact f0,f1⟩
theorem fp_none {fp:List Addr} (hf:∀ b ∈ fp,FpOk X pins H b) (hlt:∀ b ∈ fp,b < s.heap.objs.size) {o:HO}:∀ b ∈ fp,upd H s.heap.objs.size o b=none:=fun b hb=>by
 rw [upd_ne (Nat.ne_of_lt (hlt b hb))]; exact (hf b hb).1
end
noncomputable def SqK (K:PySem.W.Frag):Bool→Hp→Addr→List V→Prop
 | true,H,a,xs=>SqT K H a xs
 | false,H,a,xs=>SqL K H a xs
theorem Inv.sqk {X:Cx} {pins:List (Addr × Obj)} {σ:St} {H:Hp} {s:Shared} {k:Bool} {a:Addr} {xs:List V} (I:Inv X pins σ H s) (h:SqK X.K k H a xs):∃ its:List Value,Vals xs its∧SQ.Is k s.heap a its.toArray∧xs.length≤sizeLine:=by
 cases k with
 | true=>obtain ⟨its,r,p,z⟩:=I.tuple h; exact ⟨its,r,show s.heap.IsTuple a its.toArray from p,z⟩
 | false=>obtain ⟨its,r,p,z⟩:=I.list h; exact ⟨its,r,p.isList,z⟩
theorem Inv.sqk_inj {X:Cx} {pins:List (Addr × Obj)} {σ:St} {H:Hp} {s:Shared} {k:Bool} {a:Addr} {xs ys:List V} (I:Inv X pins σ H s) (h:SqK X.K k H a xs) (h2:SqK X.K k H a ys):xs=ys:=by
 cases k with
 | true=>exact I.tuple_inj h h2
 | false=>exact I.list_inj h h2
noncomputable def Itz (K:PySem.W.Frag) (k m:Bool) (a b:Addr):It:=
  ⟨fun i H=>∃ xs ys x y,SqK K k H a xs∧SqK K m H b ys∧xs[i]?=some x∧ys[i]?=some y,
   fun i H v H'=>∃ p x y,v=.ref p∧H p=none∧H'=upd H p (.tup [x,y])∧∀ xs ys,SqK K k H a xs→SqK K m H b ys→xs[i]?=some x∧ys[i]?=some y,
   fun i H=>∃ xs ys,SqK K k H a xs∧SqK K m H b ys∧(xs.length≤i ∨ ys.length≤i)⟩
structure Zst (k m:Bool) (z TI TO i1 i2 a b:Addr) (i:Nat) (h:Heap):Prop where
 hz:IsZip h z TI TO .none
 hTI:IsPair h TI (.ref i1) (.ref i2)
 hTO:∃ u v,IsPair h TO u v
 h1:SQ.It k h i1 a i
 h2:SQ.It m h i2 b i
structure Znd (z TI TO i1 i2:Addr):Prop where
 a:TI ≠ z∧TO ≠ z∧i1 ≠ z∧i2 ≠ z∧TI ≠ TO∧TI ≠ i1∧TI ≠ i2
 b:TO ≠ i1∧TO ≠ i2∧i1 ≠ i2
theorem turn_zip {P:Program} {w:World} {K:PySem.W.Frag} {es:List Expr} {n:Nat} {pos:Pos} {k m:Bool} (z TI TO i1 i2 a b:Addr) (N:Znd z TI TO i1 i2) (na:a ∉ [z,TI,TO,i1,i2]) (nb:b ∉ [z,TI,TO,i1,i2]):
  Turn false P w K (.Tuple es n pos) (Itz K k m a b) [z,TI,TO,i1,i2] z (Zst k m z TI TO i1 i2 a b) where
 mem:=by simp
 obj:=fun i h st c hc=>by
  obtain ⟨hz,hTI,⟨u,v,hTO⟩,⟨o1,e1,c1,d1⟩,⟨o2,e2,c2,d2⟩⟩:=st
  simp only [List.mem_cons,List.not_mem_nil,or_false] at hc
  rcases hc with rfl | rfl | rfl | rfl | rfl
  ·exact ⟨_,hz,fun v z=>by cases z⟩
  ·exact ⟨_,hTI,fun v z=>by cases z⟩
  ·exact ⟨_,hTO,fun v z=>by cases z⟩
  ·exact ⟨_,e1,fun v z=>by rw [d1] at z; cases z⟩
  ·exact ⟨_,e2,fun v z=>by rw [d2] at z; cases z⟩
 keep:=fun i h h' ⟨hz,hTI,⟨u,v,hTO⟩,h1,h2⟩ q=>⟨q z (by simp) _ hz,q TI (by simp) _ hTI,⟨u,v,q TO (by simp) _ hTO⟩,h1.move fun o e=>q i1 (by simp) o e,h2.move fun o e=>q i2 (by simp) o e⟩
 item:=by
  intro X hP hw hK hc i pins s σ H E I hf st hg
  subst hP hw hK
  obtain ⟨xs,ys,x,y,hq,hr,hx,hy⟩:=hg
  obtain ⟨us,ru,pu,_⟩:=I.sqk hq
  obtain ⟨vs,rv,pv,_⟩:=I.sqk hr
  obtain ⟨u,hu,rxu⟩:=ru.get hx
  obtain ⟨v,hv,ryv⟩:=rv.get hy
  obtain ⟨hz,hTI,⟨u0,v0,hTO⟩,h1,h2⟩:=st
  simp only [List.mem_cons,List.not_mem_nil,or_false,not_or] at na nb
  have D:SQ.Apart z TI TO i1 i2 a b:=⟨N.a,N.b,⟨na.1,na.2.2.1,na.2.2.2.1,na.2.2.2.2⟩,⟨nb.1,nb.2.2.1,nb.2.2.2.1,nb.2.2.2.2⟩⟩
  have hlt:∀ c ∈ [z,TI,TO,i1,i2],c < s.heap.objs.size:=fun c hc=>by
   simp only [List.mem_cons,List.not_mem_nil,or_false] at hc
   rcases hc with rfl | rfl | rfl | rfl | rfl
   ·exact Heap.lt_size hz
   ·exact Heap.lt_size hTI
   ·exact Heap.lt_size hTO
   ·obtain ⟨_,e,_⟩:=h1; exact Heap.lt_size e
   ·obtain ⟨_,e,_⟩:=h2; exact Heap.lt_size e
  refine SQ.zip_next D hz hTI hTO h1 h2 pu pv (x:=u) (y:=v) (by simpa using hu) (by simpa using hv) fun h' a1 a2 a3 a4 a5 a6 a7 a8=>⟨_,rfl,?_⟩
  refine wpAny_letOwnedTupleGo_zip (s:={ s with heap:=h' }) a1 fun h2' hz' hs'=>?_
  have up:∀ c o,c ≠ z→h'.get? c=some o→h2'.get? c=some o:=fun c o n e=>SQ.sb hs' n e
  obtain ⟨⟨nTIz,nTOz,n1z,n2z,_⟩,_⟩:=id N
  refine ⟨.ref s.heap.objs.size,_,I.turnedP (t':=s.toks) (h':=h2') hf hlt rxu ryv (fun c o hc e=>up c o (fun q=>hc (by simp [q])) (a7 c o hc e)) (up _ _ (Nat.ne_of_gt (Heap.lt_size hz)) a5),rfl,
   ⟨_,x,y,rfl,I.fresh,rfl,fun xs' ys' q1 q2=>⟨by rw [I.sqk_inj q1 hq]; exact hx,by rw [I.sqk_inj q2 hr]; exact hy⟩⟩,
   ⟨hz',up _ _ nTIz a8,⟨_,_,up _ _ nTOz a2⟩,a3.move fun o e=>up _ o n1z e,a4.move fun o e=>up _ o n2z e⟩,fp_none hf hlt⟩
 done:=by
  intro X hP hw hK hc i pins s σ H E I hf st hg
  subst hP hw hK
  obtain ⟨xs,ys,hq,hr,hx⟩:=hg
  obtain ⟨us,ru,pu,_⟩:=I.sqk hq
  obtain ⟨vs,rv,pv,_⟩:=I.sqk hr
  obtain ⟨hz,hTI,⟨u0,v0,hTO⟩,h1,h2⟩:=st
  simp only [List.mem_cons,List.not_mem_nil,or_false,not_or] at na nb
  have D:SQ.Apart z TI TO i1 i2 a b:=⟨N.a,N.b,⟨na.1,na.2.2.1,na.2.2.2.1,na.2.2.2.2⟩,⟨nb.1,nb.2.2.1,nb.2.2.2.1,nb.2.2.2.2⟩⟩
  have l1:=ru.length
  have l2:=rv.length
  refine SQ.zip_stop (I.ok.hd hc.cm) D hz hTI hTO h1 h2 pu pv (hx.imp (fun q=>by simp; omega) fun q=>by simp; omega) fun h' kk=>⟨rfl,I.turnedS (t':=s.toks) kk hf⟩
 self:=fun _ _ _ _ _ st h=>wpAny_pyIter_zip st.hz h
end L2
namespace L2
open PySem PySem.Spec PyProof.Rows
section
variable {X:Cx} {es:List Expr} {n:Nat} {tp:Pos}
theorem boot_zip:bootBuiltins "zip" = some (.type "zip"):=by decide +kernel
theorem znd_of (n:Nat):Znd (n + 4) (n + 2) (n + 3) n (n + 1):=by
 have h:((n + 2 ≠ n + 4∧n + 3 ≠ n + 4∧n ≠ n + 4∧n + 1 ≠ n + 4∧n + 2 ≠ n + 3∧n + 2 ≠ n∧n + 2 ≠ n + 1)∧(n + 3 ≠ n∧n + 3 ≠ n + 1∧n ≠ n + 1)):=by omega
 exact ⟨h.1,h.2⟩
theorem zip_below (n a:Nat) (h:a < n):a ∉ [n + 4,n + 2,n + 3,n,n + 1]:=by
 intro hc
 simp only [List.mem_cons,List.not_mem_nil,or_false] at hc
 omega
theorem zip_above (n c:Nat) (hc:c ∈ [n + 4,n + 2,n + 3,n,n + 1]):n≤c:=by
 simp only [List.mem_cons,List.not_mem_nil,or_false] at hc
 omega
noncomputable def iZip (K:PySem.W.Frag) (ta:TA):TI:=fun σ H R=>ta σ H fun vs H1=>∃ a b k m,vs=[.ref a,.ref b]∧(∃ xs,SqK K k H1 a xs)∧(∃ ys,SqK K m H1 b ys)∧R (Itz K k m a b) H1
theorem pi_zip {a b:Expr} {ta:TA} {p pos:Pos} (hg:Gl X "zip") (hm:X.mg "zip" = none) (ha:PA X [a,b] ta) (hs:autoParam (starEach [a,b] X.env=[(false,eval a X.env),(false,eval b X.env)]) Au.h0._auto_1) (hs2:autoParam (starEach [b] X.env=[(false,eval b X.env)]) Au.h0._auto_1):
  PI X (.Tuple es n tp) (.Call (.Name "zip" p) [a,b] [] pos) (iZip X.K ta):=by
 intro pins s σ H R I h
 refine Call_ (ld_blt I hg hm boot_zip (PyProof.Rows.callWith_type1 (thn (ha pos pins s σ H _ I h) fun us s1 zq=>?_) (by rw [hs,hs2]) (by rw [hs2]; rfl)))
 obtain ⟨vs,H1,I1,r1,q1⟩:=zq
 obtain ⟨a,b,k,m,e,⟨xs,hx⟩,⟨ys,hy⟩,q⟩:=q1
 subst e
 cases r1 with
 | cons r rr=>
  cases rr with
  | cons r' rr=>
   cases rr
   cases r
   cases r'
   obtain ⟨us,ru,pu,_⟩:=I1.sqk hx
   obtain ⟨vs,rv,pv,_⟩:=I1.sqk hy
   refine SQ.call_zip pu pv fun h' a1 a2 a3 a4 a5 a6 a7=>?_
   have I2:Inv X pins σ H1 { s1 with heap:=h' }:=I1.kept (t':=s1.toks) a7
   obtain ⟨oa,ea,_⟩:=pu.obj
   obtain ⟨ob,eb,_⟩:=pv.obj
   have la:=Heap.lt_size ea
   have lb:=Heap.lt_size eb
   refine wpAny_pyIter_zip (s:={ s1 with heap:=h' }) a1 ⟨_,[s1.heap.objs.size + 4,s1.heap.objs.size + 2,s1.heap.objs.size + 3,s1.heap.objs.size,s1.heap.objs.size + 1],_,_,H1,rfl,I2,
    turn_zip (k:=k) (m:=m) _ _ _ _ _ a b (znd_of _) (zip_below _ a la) (zip_below _ b lb),⟨a1,a2,⟨_,_,a3⟩,a4,a5⟩,fun c hc=>?_,q⟩
   exact I1.fpOk (zip_above _ c hc) (I1.hok.fresh (zip_above _ c hc))
end
end L2
namespace PD
open PySem PySem.Spec PyProof.Rows L2
noncomputable def itOf:D→Option (List D)
 | .tup ds=>some ds
 | .lst ds=>some ds
 | .fz ds=>some ds
 | _=>none
noncomputable def zipD:List D→List D→List D
 | x :: xs,y :: ys=>.tup [x,y] :: zipD xs ys
 | _,_=>[]
noncomputable def aZip (t:AM):AM:=fun r S=>(t r S).bind fun xs S1=>match xs with
 | [a,b]=>match itOf a,itOf b with
  | some us,some vs=>.ok (zipD us vs) S1
  | _,_=>.bad
 | _=>.bad
theorem zipD_get:∀ (us vs:List D) (i:Nat),(i < (zipD us vs).length↔i < us.length∧i < vs.length)∧∀ x y,us[i]?=some x→vs[i]?=some y→(zipD us vs)[i]?=some (.tup [x,y])
 | [],vs,i=>by simp [zipD]
 | _ :: _,[],i=>by simp [zipD]
 | u :: us,v :: vs,0=>by simp [zipD]
 | u :: us,v :: vs,i + 1=>by
  have ih:=zipD_get us vs i
  simp only [zipD,List.length_cons,List.getElem?_cons_succ,Nat.add_lt_add_iff_right]
  exact ih
theorem seq_of {K:PySem.W.Frag} {w:Wd} {H:Hp} {d:D} {ds:List D} {v:V} (e:itOf d=some ds) (q:RD K w H d v):∃ p k vs,v=.ref p∧RDs K w H ds vs∧∀ w' H',Ext w H w' H'→SqK K k H' p vs:=by
 cases d with
 | tup us=>
  cases e
  unfold RD at q
  obtain ⟨p,vs,rfl,h1,q⟩:=q
  exact ⟨p,true,vs,rfl,q,fun w' H' x'=>SqT_of (h1.imp x'.at id)⟩
 | lst us=>
  cases e
  unfold RD at q
  obtain ⟨p,vs,rfl,h1,q⟩:=q
  exact ⟨p,false,vs,rfl,q,fun w' H' x'=>SqL.of (x'.at h1).1⟩
 | fz us=>
  cases e
  unfold RD at q
  obtain ⟨p,vs,rfl,h1,q⟩:=q
  exact ⟨p,false,vs,rfl,q,fun w' H' x'=>FzAt.sq (w:=w') (h1.imp (fun ⟨o,z⟩=>⟨o,x'.at z⟩) id)⟩
 | _=>cases e
section
variable {X:Cx} {E:XK} {a b:Expr} {pos:Pos}
theorem si_zip {es:List Expr} {n:Nat} {tp:Pos} {ms:AM} {p:Pos} (hg:Gl X "zip") (hm:X.mg "zip" = none) (ha:SA X E [a,b] ms) (hs:autoParam (starEach [a,b] X.env=[(false,eval a X.env),(false,eval b X.env)]) Au.h0._auto_1) (hs2:autoParam (starEach [b] X.env=[(false,eval b X.env)]) Au.h0._auto_1):
  SI X E (.Tuple es n tp) (.Call (.Name "zip" p) [a,b] [] pos) (aZip ms):=⟨
 pi_weak (pi_zip hg hm ha.out hs hs2) fun s H Q zq=>ex6 zq fun w r S hr hS hp=>⟨w,r,S,hr,hS,hp.bind hS fun ds S1 w1 H1 vs x1 q1 s1 p1=>by
  match ds,q1,p1 with
  | [d,e],q1,p1=>
   obtain ⟨v,u,rfl,q2,q3⟩:=q1.two_inv
   change Post X.K E (RI X.K) w1 H1 (match itOf d,itOf e with | some us,some vs=>R.ok (zipD us vs) S1 | _,_=>R.bad) Q at p1
   cases e1:itOf d with
   | none=>rw [e1] at p1; exact p1.elim
   | some us=>
    cases e2:itOf e with
    | none=>rw [e1,e2] at p1; exact p1.elim
    | some vs=>
     rw [e1,e2] at p1
     obtain ⟨pa,k,xs,rfl,ra,sa⟩:=seq_of e1 q2
     obtain ⟨pb,m,ys,rfl,rb,sbb⟩:=seq_of e2 q3
     refine ⟨pa,pb,k,m,rfl,⟨xs,sa _ _ (Ext.refl _ _)⟩,⟨ys,sbb _ _ (Ext.refl _ _)⟩,Post.ret p1 ?_ s1⟩
     intro i w' H' x'
     have ra':=RDs.ext x' _ _ ra
     have rb':=RDs.ext x' _ _ rb
     have la:=ra.length
     have lb:=rb.length
     refine ⟨fun hi=>?_,fun hi=>⟨xs,ys,sa _ _ x',sbb _ _ x',?_⟩⟩
     ·obtain ⟨h1,h2⟩:=(zipD_get us vs i).1.mp hi
      refine ⟨⟨xs,ys,xs[i]'(by omega),ys[i]'(by omega),sa _ _ x',sbb _ _ x',List.getElem?_eq_getElem _,List.getElem?_eq_getElem _⟩,fun v H'' y=>?_⟩
      obtain ⟨p,x,y,rfl,hp,rfl,q⟩:=y
      obtain ⟨qx,qy⟩:=q xs ys (sa _ _ x') (sbb _ _ x')
      obtain ⟨x0,ex,rx⟩:=ra'.get (List.getElem?_eq_getElem h1)
      obtain ⟨y0,ey,ry⟩:=rb'.get (List.getElem?_eq_getElem h2)
      rw [qx] at ex; cases ex
      rw [qy] at ey; cases ey
      refine ⟨.inr ⟨p,_,hp,rfl⟩,fun S hS=>⟨_,(zipD_get us vs i).2 _ _ (List.getElem?_eq_getElem h1) (List.getElem?_eq_getElem h2),?_⟩⟩
      unfold RD
      refine ⟨p,[x,y],rfl,.inl ⟨upd_same,hS.fresh hp⟩,?_⟩
      unfold RDs RDs RDs
      exact ⟨x,[y],rfl,RD.ext (Ext.new hp) _ _ rx,y,[],rfl,RD.ext (Ext.new hp) _ _ ry,rfl⟩
     ·have:=(zipD_get us vs i).1
      omega
  | [],_,p1=>exact p1.elim
  | [_],_,p1=>exact p1.elim
  | _ :: _ :: _ :: _,_,p1=>exact p1.elim⟩⟩
end
end PD
namespace PD
open PySem PySem.Spec PyProof.Rows L2
end PD
namespace SQ
open PySem PySem.Spec PyProof.Rows
section
variable {prog:Program} {w:World} {A:Around} {E:Value→Shared→Prop} {s:Shared}
end
end SQ
namespace PD
open PySem PySem.Spec PyProof.Rows L2
section
variable {X:Cx} {E:XK}
end
end PD
namespace PD
open PySem PySem.Spec PyProof.Rows L2
section
variable {X:Cx} {E:XK} {a b:Expr} {es:List Expr} {ms:AM} {x:Str} {p pos:Pos}
end
end PD
namespace PD
open PySem PySem.Spec PyProof.Rows L2
section
variable {M:Model} {A:Around} {E:Value→Shared→Prop} {s:Shared}
end
section
variable {X:Cx} {pins:List (Addr × Obj)} {σ:L2.St} {H:Hp} {s:Shared}
end
end PD
namespace PD
open PySem PySem.Spec PyProof.Rows L2
end PD
namespace PD
open PySem PySem.Spec PyProof.Rows L2
section
variable {K:PySem.W.Frag} {w:Wd} {H:Hp} {S:Sto}
end
section
variable {X:Cx} {E:XK}
end
end PD
namespace L2
open PySem PySem.Spec PyProof.Rows
end L2
namespace PD
open PySem PySem.Spec PyProof.Rows L2
section
variable {X:Cx} {E:XK}
end
end PD
namespace PD
open PySem PySem.Spec PyProof.Rows L2
section
variable {X:Cx} {E:XK}
end
section
variable {K:PySem.W.Frag} {w:Wd} {H:Hp}
end
section
variable {X:Cx} {E:XK} {pos:Pos}
end
end PD
namespace PD
open PySem PySem.Spec PyProof.Rows L2
section
variable {X:Cx} {E:XK}
end
end PD
namespace L2
open PySem PySem.Spec PyProof.Rows
section
variable {X:Cx} {tg:Expr}
end
end L2
namespace PD
open PySem PySem.Spec PyProof.Rows L2
section
variable {X:Cx} {E:XK} {a b c:Expr} {pos:Pos}
end
end PD
namespace PySem
open PyProof.Rows
namespace F
end F
section
variable {prog:Program} {w:World} {A:Around} {E:Value→Shared→Prop} {s:Shared}
end
end PySem
namespace L2
open PySem PySem.Spec PyProof.Rows
section
variable {X:Cx} {tg:Expr}
end
end L2
namespace PD
open PySem PySem.Spec PyProof.Rows L2
section
variable {X:Cx} {E:XK} {a:Expr} {pos:Pos}
end
end PD
namespace PD
open PySem PySem.Spec PyProof.Rows L2
section
variable {X:Cx} {E:XK} {pos:Pos}
end
end PD
namespace L2
open PySem PySem.Spec PyProof.Rows
section
variable {X:Cx} {tg:Expr}
end
end L2
namespace PD
open PySem PySem.Spec PyProof.Rows L2
section
variable {X:Cx} {E:XK}
end
end PD
namespace L2
open PySem PySem.Spec PyProof.Rows
end L2
namespace PD
open PySem PySem.Spec PyProof.Rows L2
section
variable {X:Cx} {E:XK}
end
end PD
namespace PySem
open PyProof.Rows
section
variable {prog:Program} {w:World} {A:Around} {E:Value→Shared→Prop} {s:Shared} {K:Type} [DecidableEq K] {knd:KeyKind prog w K}
end
end PySem
namespace PD
open PySem PySem.Spec PyProof.Rows L2
section
variable {X:Cx} {E:XK}
end
end PD
namespace PD
open PySem PySem.Spec PyProof.Rows L2
open AutoSeq1 (wpAny_loadPart')
open MeetsSeq MeetsSeq2 MeetsSeq3 SeqRoads2 PySem.SeqAt
end PD
namespace PD
open PySem PySem.Spec PyProof.Rows L2
section
variable {prog:Program} {w:World} {A:Around} {R:Result→Shared→Prop} {I:Addr} {fp wr:List Addr} {n:Nat} {P:Nat→Value→Prop} {St:Nat→Heap→Prop} {h0:Heap} {bt:Nat→Nat→Bool} {S:Addr} {kw:List (Str × Value)}
end
end PD
namespace PD
open PySem PySem.Spec PyProof.Rows L2
section
variable {X:Cx} {E:XK} {pins:List (Addr × Obj)} {σ:L2.St} {H:Hp} {s:Shared}
end
section
variable {prog:Program} {w:World} {A:Around} {E:Value→Shared→Prop} {s:Shared}
end
end PD
namespace PD
open PySem PySem.Spec PyProof.Rows L2
section
variable {prog:Program} {w:World} {A:Around} {E:Value→Shared→Prop} {s:Shared}
end
section
variable {X:Cx} {E:XK}
variable {a:Expr} {ms:AM} {x:Str} {p pos kp:Pos} {id:String} {nm:Str}
end
end PD
namespace SR
open PySem PyProof.Rows
noncomputable abbrev SM (α:Type):=StateT SortSt Sem α
section
variable {prog:Program} {w:World} {A:Around} {E:Value→Shared→Prop} {s:Shared}
end
section
variable {prog:Program} {w:World} {A:Around} {E:Value→Shared→Prop} {s:Shared}
end
end SR
namespace SR
open PySem PyProof.Rows
section
variable {a b o:Array Keyed} {i j k:Nat}
end
section
variable {prog:Program} {w:World} {A:Around} {E:Value→Shared→Prop} {s:Shared}
end
end SR
namespace SR
open PySem PyProof.Rows
section
variable {prog:Program} {w:World} {A:Around} {E:Value→Shared→Prop} {s:Shared}
end
end SR
namespace SR
open PySem PyProof.Rows
section
variable {a b o:Array Keyed} {i j k z:Nat}
end
section
variable {prog:Program} {w:World} {A:Around} {E:Value→Shared→Prop} {s:Shared}
end
end SR
namespace SR
open PySem PyProof.Rows
section
variable {prog:Program} {w:World} {A:Around} {E:Value→Shared→Prop} {s:Shared} {a0 A0:Array Keyed} {P:Array (Nat × Nat × Nat)} {lo:Nat}
end
end SR
namespace SR
open PySem PyProof.Rows
section
variable {prog:Program} {w:World} {A:Around} {E:Value→Shared→Prop} {s:Shared} {a0 A0:Array Keyed} {P:Array (Nat × Nat × Nat)} {lo:Nat}
end
end SR
namespace SR
open PySem PyProof.Rows
section
variable {prog:Program} {w:World} {A:Around} {E:Value→Shared→Prop} {s:Shared} {a0:Array Keyed}
end
end SR
namespace SR
open PySem PyProof.Rows
section
variable {prog:Program} {w:World} {A:Around} {E:Value→Shared→Prop} {s:Shared} {a0:Array Keyed}
end
end SR
namespace SR
open PySem PyProof.Rows
section
variable {prog:Program} {w:World} {A:Around} {E:Value→Shared→Prop} {s:Shared}
end
end SR
namespace SQ
open PySem PySem.Spec PyProof.Rows
section
variable {prog:Program} {w:World} {A:Around} {E:Value→Shared→Prop} {s:Shared}
end
end SQ
namespace PD
open PySem PySem.Spec PyProof.Rows L2
section
variable {X:Cx} {E:XK}
end
end PD
namespace PD
open PySem PySem.Spec PyProof.Rows L2
section
variable {prog:Program} {w:World} {A:Around} {R:Result→Shared→Prop} {I:Addr} {fp wr:List Addr} {n:Nat} {P:Nat→Value→Prop} {St:Nat→Heap→Prop} {h0:Heap} {bt:Nat→Nat→Bool} {S:Addr} {kw:List (Str × Value)}
end
section
variable {prog:Program} {w:World} {A:Around} {E:Value→Shared→Prop} {s:Shared}
end
section
variable {X:Cx} {E:XK}
end
end PD
namespace L2
open PySem PySem.Spec PyProof.Rows
section
variable {X:Cx} {tg:Expr}
end
end L2
namespace PD
open PySem PySem.Spec PyProof.Rows L2
section
variable {X:Cx} {E:XK}
end
end PD
namespace PD
open PySem PySem.Spec PyProof.Rows L2
section
variable {X:Cx} {E:XK}
end
end PD
namespace PD
open PySem PySem.Spec PyProof.Rows L2
noncomputable def fst1 (t:Str) (i:Int):Str:=Str.empty ++ t ++ (toString i:Str)
noncomputable def fOk (t:Str) (i:Int) (u:Str):Bool:=decide (i.natAbs.log2 < 1920) && decide ((fst1 t i).length≤sizeLine) && decide ((fst1 t i ++ u).length≤sizeLine)
noncomputable def oFmt (t u:Str) (b:Bool):Sto→D→Option D
 | _,.int i=>if fOk t i u then some (.str (if b then fst1 t i ++ u else fst1 t i)) else none
 | _,_=>none
section
variable {X:Cx} {E:XK} {a:Expr} {ma:EM}
theorem pe_fst3 {t u:Str} {k k2:Nat} {p0 p1 p2 pos:Pos} {ta:TE} (ha:PE X a ta) (hz:(Str.empty ++ t).length≤sizeLine):
  PE X (.JoinedStr [.Constant (.str t) k p0,.FormattedValue a (-1) none p1,.Constant (.str u) k2 p2] pos) (tUn (fun x H Q=>∃ i,x=.int i∧fOk t i u=true∧Q (.str (fst1 t i ++ u)) H) ta):=by
 intro pins s σ H Q I h
 refine JoinedStr_many (joinParts_cons (Calls.Constant_str ⟨hz,joinParts_cons (FormattedValue_plain (thn (ha pins _ σ H _ (I.tok _) h) fun v s1 hv=>?_))⟩))
 obtain ⟨x,H1,I1,r1,i,rfl,c,q⟩:=hv
 obtain ⟨tk,rfl⟩:=r1
 simp only [fOk,Bool.and_eq_true,decide_eq_true_eq] at c
 exact formatField_int_small c.1.1 ⟨c.1.2,joinParts_cons (Calls.Constant_str ⟨c.2,joinParts_nil ⟨.str (fst1 t i ++ u),H1,((I1.tok _).tok _).tok _,⟨_,rfl⟩,q⟩ c.2⟩)⟩
theorem oFmt_inv {t u:Str} {b:Bool} {S:Sto} {d z:D} (h:oFmt t u b S d=some z):∃ i,d=.int i∧fOk t i u=true∧z=.str (if b then fst1 t i ++ u else fst1 t i):=by
 unfold oFmt at h
 split at h
 ·rename_i i
  by_cases c:fOk t i u=true
  ·rw [if_pos c] at h; cases h; exact ⟨i,rfl,c,rfl⟩
  ·rw [if_neg c] at h; cases h
 ·cases h
theorem se_fst3 {t u:Str} {k k2:Nat} {p0 p1 p2 pos:Pos} (ha:SE X E a ma) (hz:autoParam ((Str.empty ++ t).length≤sizeLine) Au.h3._auto_1):SE X E (.JoinedStr [.Constant (.str t) k p0,.FormattedValue a (-1) none p1,.Constant (.str u) k2 p2] pos) (eUn (oFmt t u true) ma):=⟨
 pe_weak (pe_fst3 ha.out hz) fun s H Q zq=>ex6 zq fun w r S hr hS hp=>⟨w,r,S,hr,hS,hp.bind hS fun d S1 w1 H1 v x1 q1 s1 p1=>by
  obtain ⟨z,hz,p⟩:=p1.of
  obtain ⟨i,rfl,c,rfl⟩:=oFmt_inv hz
  exact ⟨i,q1.int,c,p.ret (by unfold RD; rfl) s1⟩⟩⟩
end
end PD
namespace PySem
open PyProof.Rows
namespace F
end F
section
variable {prog:Program} {w:World} {A:Around} {E:Value→Shared→Prop} {s:Shared}
open AutoSeq1 (wpAny_loadPart')
end
end PySem
namespace L2
open PySem PySem.Spec PyProof.Rows
section
variable {X:Cx}
end
end L2
namespace PD
open PySem PySem.Spec PyProof.Rows L2
section
variable {X:Cx} {E:XK} {a:Expr}
end
end PD
namespace L2
open PySem PySem.Spec PyProof.Rows
section
variable {X:Cx}
end
end L2
namespace PD
open PySem PySem.Spec PyProof.Rows L2
section
variable {X:Cx} {E:XK}
end
end PD
namespace PySem
section
variable {M:Model} {A:Around} {E:Value→Shared→Prop} {s:Shared} {env:Env}
theorem nameGoesC {n:Str} {pos:Pos} {c:Addr} {v:Option Value} {Q:Unit→Shared→Prop} (hk:env.scope.kind=.function) (hl:env.kindOf n=some .cell) (hc:env.cells.lookup n=some c) (hv:s.heap.IsCell c v)
  (k:∀ h' t',h'.IsCell c none→Heap.SameBut c s.heap h'→Q () { s with heap:=h',toks:=t' }):wpAny M A (do bindName env n .none; unbindBehindTheSuite env n pos) Q E s:=by
 refine wpAny_bind (wpAny_bindName (wpAny_storeName_cell hk hl hc hv fun g1 i1 s1=>?_))
 unfold unbindBehindTheSuite
 refine wpAny_onRaise ?_
 unfold unbindName
 refine wpAny_bind (wpAny_point (wpAny_bind ?_))
 unfold deleteName
 simp only [hl]
 refine wpAny_bind (wpAny_cellOf hc ?_)
 refine wpAny_bind (wpAny_cellGet i1 ?_)
 rw [if_pos (by rfl)]
 exact wpAny_cellSet i1 fun g2 i2 s2=>wpAny_point (k g2 _ i2 (s1.trans s2))
end
end PySem
namespace L2
open PySem PySem.Spec PyProof.Rows
section
variable {X:Cx} {pins:List (Addr × Obj)} {σ:St} {H:Hp} {s:Shared}
theorem Inv.forgetC {h':Heap} {t':Nat} {n:Str} {c:Addr} (I:Inv X pins σ H s) (hfn:X.fn n=true) (hc:X.env.cells.lookup n=some c) (hi:h'.IsCell c none) (hs:Heap.SameBut c s.heap h'):Inv X pins (List.replicate X.N.length none) H { s with heap:=h',toks:=t' }:=by
 have hca:X.s₀.heap.objs.size≤c:=I.ok.cab n c hfn hc
 have ne:∀ b o,X.s₀.heap.get? b=some o→b ≠ c:=fun b o e=>Nat.ne_of_lt (Nat.lt_of_lt_of_le (Heap.lt_size e) hca)
 have hcL:c ≠ X.env.locals:=I.cne n c hc
 obtain ⟨m,hn,_⟩:=id I.loc
 refine ⟨I.ok,I.os,I.bare,⟨fun b o e k hb hx=>(hs.2 b (ne b o e)).trans (I.base.keep b o e k hb hx),fun b o e k hb hx=>?_,I.base.free,fun b o e hx=>?_,I.base.tups,I.base.frzs,I.base.tbls⟩,⟨m,?_,fun i x v e1 e2 e3=>?_⟩,fun y d e=>?_,I.free,I.freeC,fun p hp=>?_,fun b ob e=>?_,by simp⟩
 ·obtain ⟨sl,e1⟩:=I.base.slot b o e k hb hx
  exact ⟨sl,(hs.2 b (ne b o e)).trans e1⟩
 ·obtain ⟨o',e1⟩:=I.base.there b o e hx
  exact ⟨o',(hs.2 b (ne b o e)).trans e1⟩
 ·obtain ⟨o,es,ep,ho,r⟩:=hn
  exact ⟨o,es,ep,(hs.2 _ (Ne.symm hcL)).trans ho,r⟩
 ·rw [List.getElem?_replicate] at e2
  split at e2 <;> cases e2
 ·by_cases z:d=c
  ·exact ⟨none,z ▸ hi⟩
  ·obtain ⟨w',q⟩:=I.cell y d e
   exact ⟨w',q.sameBut hs z⟩
 ·obtain ⟨e,k,n1,nf,d⟩:=I.pin p hp
  obtain ⟨v,o,ho,hd⟩:=I.cell n c hc
  exact ⟨(hs.2 p.1 (fun z=>by rw [z,ho] at e; cases e; exact d _ hd)).trans e,k,n1,nf,d⟩
 ·refine (I.hok b ob e).stay (fun d w' hd q=>(hs.2 d ?_).trans q) (fun _ q=>q) fun _ _ q=>q
  rintro rfl
  have f:=I.freeC n d hc
  rcases hd with rfl | hd
  ·rw [f] at e; cases e
  ·rw [f] at hd; cases hd
end
end L2
namespace PD
open PySem PySem.Spec PyProof.Rows L2
section
variable {X:Cx} {E:XK}
theorem ss_tryC {body:List Stmt} {b₀:Stmt} {suite:List Stmt} {x n:Str} {np hpos pos:Pos} {cs:List Str} {i nN:Nat} {mb mh:SM} {Cp:Value} (hex:X.ex=[]) (hf:X.stack=X.env :: X.outer∧X.env.frame=some X.env.locals)
  (hg:Gl X x) (hm:X.mg x=some Cp) (hcs:∀ y,cs.contains y=true→∀ c,PySem.W.nsIn X.K mainGlobals y=some (some c)→PySem.W.exmOne X.K c Cp=some true)
  (hN:X.N.Nodup) (hi:X.N[i]?=some n) (hn:nN=X.N.length) (hl:X.env.scope.names.lookup n=some .cell) (hfn:X.fn n=true)
  (hb:∀ (p:List (Addr × Obj)) (W:Value→Shared→Prop) (E1:XK),Passes (CX1 X.prog X.w) (X.with p W) E1→SSs (X.with p W) E1 body mb)
  (hh:∀ (ea:Addr) (o:Obj) (u:HO),ZO o→SSs (X.suite ea (.frz o u)) E0 (b₀ :: suite) mh) (hd:autoParam ((x == ("__debug__":Str))=false) Au.h3._auto_1):
  SS X E (.Try body [.ExceptHandler (some (.Name x np)) (some n) (b₀ :: suite) hpos] [] [] pos) (sTry cs i nN mb mh):=⟨by
 intro pins s σ H D I ⟨w,r,S,hr,hS,hp⟩
 have hfr:X.A.frames=some (X.env :: X.outer):=by rw [I.ok.frames,hf.1]
 refine wpAny_Try_except ?_
 let E1:XK:=fun c _ H1=>∃ w1 y S1,Ext w H w1 H1∧RS X.K w1 H1 S1∧PySem.W.nsIn X.K mainGlobals y.cls=some (some c)∧mb r S=.err y S1
 let W:Value→Shared→Prop:=fun e s'=>∃ σ1 H1 s1,Inv X pins σ1 H1 s1∧CX1 X.prog X.w X.stack H1 s1 E1 e s'
 have hW:Passes (CX1 X.prog X.w) (X.with (X.pn ++ pins) W) E1:=fun pins' σ1 H1 s1 e s' I1 c=>⟨σ1,H1,s1,I1.unwith I.ok,c⟩
 have hpb:Post X.K E1 (RF X.K) w H (mb r S) (FV.to D):=by
  have hp':Post X.K E (RF X.K) w H (sTry cs i nN mb mh r S) (FV.to D):=hp
  unfold sTry at hp'
  cases e:mb r S with
  | ok f S1=>rw [e] at hp'; exact hp'
  | err y S1=>exact fun w' H' c da y1 t q=>⟨w',y,S1,y1,t,q,e⟩
  | bad=>rw [e] at hp'; exact hp'.elim
 refine wpAny_mono ((hb (X.pn ++ pins) W E1 hW).out [] s σ H D I.with ⟨w,r,S,hr,hS,hpb⟩) (fun f s' q=>?_) fun e s' q=>?_
 ·cases f with
  | next=>obtain ⟨σ',H',J,q⟩:=q; exact pss_nil (X:=X) pins s' σ' H' D (J.unwith I.ok) q
  | brk=>obtain ⟨σ',H',J,q⟩:=q; exact ⟨σ',H',J.unwith I.ok,q⟩
  | cont=>obtain ⟨σ',H',J,q⟩:=q; exact ⟨σ',H',J.unwith I.ok,q⟩
  | ret u=>obtain ⟨v,σ',H',J,rr,q⟩:=q; exact ⟨v,σ',H',J.unwith I.ok,rr,q⟩
 ·obtain ⟨σ1,H1,s1,I1,ea,cls,H2,rfl,os,bare,un,hok,⟨B,a0,fl,old,tr,zt⟩,w1,y,S1,xe,hS1,hns,hmb⟩:=q
  obtain ⟨hnew,hnew'⟩:=fly_new (s':=s') fl old tr
  have fl':=fl
  rw [hf.1] at fl'
  refine looksZ hfr hf.2 fl' zt fun h4 held4 up4 zt4=>?_
  refine landsZ (s:={ s' with heap:=h4 }) held4 zt4 fun h5 fl5 up5 zt5=>?_
  rw [← hf.1] at fl5
  have up15:s'.heap.UpToSlots h5:=up4.trans up5
  have un5:=un.fly fl.1 fl5.1 old up15 (fly_frames fl)
  have hok5:=hok.fly fl.1 fl5.1 tr
  have J5:Inv X pins σ1 H2 { s' with heap:=h5 }:=I1.call' os un5 hok5 bare (fun b z=>nomatch z)
  -- what the plain program says
  have hp':Post X.K E (RF X.K) w H (sTry cs i nN mb mh r S) (FV.to D):=hp
  unfold sTry at hp'
  rw [hmb] at hp'
  simp only at hp'
  by_cases hc:cs.contains y.cls=true
  ·rw [if_pos hc] at hp'
   have hx:=hcs y.cls hc cls hns
   refine wpAny_handleBy_cons (codeAny_handlers_test (ld_glob (X:={ X with A:=X.A.mark (some (.ref ea)),calm:=false }) (pins:=pins) (σ:=σ1) (H:=H2) ⟨⟨J5.ok.mod,J5.ok.kind,J5.ok.glob,J5.ok.blt,J5.ok.above,J5.ok.inj,J5.ok.has,J5.ok.cab,(fun z=>by cases z),J5.ok.frames,J5.ok.stk,J5.ok.exf,J5.ok.bs,J5.ok.bsz,J5.ok.noex,J5.ok.exfs,J5.ok.funs,J5.ok.frf⟩,J5.os,J5.bare,J5.base,J5.loc,J5.cell,J5.free,J5.freeC,J5.pin,J5.hok,J5.len⟩ hg hm ?_ hd)) (by intro q; cases q)
   obtain ⟨ob,hob,hobc⟩:=fl5.there
   have LT:PySem.W.Looks (model X.prog X.w) h5 (typeOf (.ref ea)) cls:=by subst hobc; exact (PySem.W.Looks.ld hob).andThen .now
   refine (PySem.W.exm_one J5.kIn LT hx).here ?_
   refine codeAny_handlers_suite_as ?_
   refine landsAgainZ (s:={ s' with heap:=h5 }) fl5 zt5 fun h6 fl6 up6 zt6=>?_
   obtain ⟨oe,hoe,zo⟩:=zt6
   have up16:s'.heap.UpToSlots h6:=up15.trans up6
   have un6:=un.fly fl.1 fl6.1 old up16 (fly_frames fl)
   have hok6:=hok.fly fl.1 fl6.1 tr
   obtain ⟨un7,hok7⟩:=fly_track fl6 old tr hnew hnew' un6 hok6 hoe
   have J7:Inv X pins σ1 (upd H2 ea (.frz oe (.ext (ExcAt ea cls)))) { s' with heap:=h6 }:=I1.call' os un7 hok7 bare (fun b z=>nomatch z)
   refine store_ok J7 hN hi (.inr hl) (v:=.ref ea) rfl (fun s8 J8=>?_) (.inl hfn)
   have x7:Ext w1 H2 w1 (upd H2 ea (.frz oe (.ext (ExcAt ea cls)))):=Ext.new hnew'
   have hS7:RS X.K w1 (upd H2 ea (.frz oe (.ext (ExcAt ea cls)))) S1:=hS1.new hnew'
   have x17:=xe.trans' x7 hS hS1
   have p7:=Post.ext hp' x17 hS hS7
   have hat:At w1 (upd H2 ea (.frz oe (.ext (ExcAt ea cls)))) ea (.frz oe (.ext (ExcAt ea cls))):=⟨upd_same,hS1.fresh hnew'⟩
   have hiN:i < nN:=by rw [hn]; exact (List.getElem?_eq_some_iff.mp hi).1
   have hrh:RSt X.K w1 (upd H2 ea (.frz oe (.ext (ExcAt ea cls)))) ((List.replicate nN none).set i (some (.exc y.cls))) (σ1.set i (some (.ref ea))):=by
    refine ⟨by simp [J7.len,hn],fun j d e=>?_⟩
    by_cases hj:j=i
    ·subst hj
     rw [List.getElem?_set_self (by simpa using hiN)] at e
     cases e
     exact ⟨.ref ea,List.getElem?_set_self (by rw [J7.len,← hn]; exact hiN),by unfold RD; exact ⟨ea,cls,oe,rfl,hns,hat⟩⟩
    ·rw [List.getElem?_set_ne (Ne.symm hj),List.getElem?_replicate] at e
     split at e <;> cases e
   have n0:X.s₀.heap.get? ea=none:=by
    cases e9:X.s₀.heap.get? ea with
    | none=>rfl
    | some o9=>
     obtain ⟨o8,e8⟩:=I1.base.there ea o9 e9 (by rw [hex]; exact fun z=>nomatch z)
     rw [hnew] at e8; cases e8
   have n1:∀ v,X.H₀ ea=some v→(∀ xs,v ≠ .tup xs)∧(∀ q w,v ≠ .frz q w)∧∀ ps,v ≠ .tbl ps:=fun v e9=>⟨fun xs z=>(by rw [z] at e9; have:=J5.base.tups ea xs e9; rw [hnew'] at this; cases this),fun q w z=>(by rw [z] at e9; have:=J5.base.frzs ea q w e9; rw [hnew'] at this; cases this),fun ps z=>(by rw [z] at e9; obtain ⟨m,this⟩:=J5.base.tbls ea ps e9; rw [hnew'] at this; cases this)⟩
   have hsuite:=(hh ea oe _ zo).out pins s8 _ _ { nx:=fun _ _=>False,rt:=fun v H'=>D.rt v H' } (J8.suite n0 upd_same) ⟨w1,_,S1,hrh,hS7,Post.nx (E:=E) ?_⟩
   ·refine wpAny_noRaise (wpAny_mono hsuite (fun f s9 q=>?_) fun _ _ z=>z)
    show wpAny _ _ _ _ _ _
    cases f with
    | next=>obtain ⟨_,_,_,q⟩:=q; exact q.elim
    | brk=>obtain ⟨_,_,_,q⟩:=q; exact q.elim
    | cont=>obtain ⟨_,_,_,q⟩:=q; exact q.elim
    | ret u=>
     obtain ⟨v,σ',H',J,rr,q⟩:=q
     have J':=J.unsuite I.ok n0 n1
     obtain ⟨c9,hc9⟩:=J'.ok.has n (.inl hl)
     obtain ⟨v9,hv9⟩:=J'.cell n c9 hc9
     refine nameGoesC J'.ok.kind hl hc9 hv9 fun h10 t10 hi10 hs10=>?_
     exact ⟨v,_,H',J'.forgetC hfn hc9 hi10 hs10,rr,q⟩
   ·refine Post.bind (rel:=RF X.K) p7 hS7 fun f S2 w2 H3 fv x2 q2 s2 p2=>?_
    cases f with
    | nx r=>exact p2.elim
    | bk r=>exact p2.elim
    | ct r=>exact p2.elim
    | rt d=>obtain ⟨v,rfl,q⟩:=q2; have z:=Post.ret (Q:=FV.to D) (rel:=RF X.K) (a:=F.rt d) (b:=FV.rt v) p2 ⟨v,rfl,q⟩ s2; exact z
  ·rw [if_neg hc] at hp'; exact hp'.elim⟩
theorem ss_tryCT {cs:List Str} {body:List Stmt} {b₀:Stmt} {suite:List Stmt} {x n:Str} {np hpos pos:Pos} {i nN:Nat} {mb mh:SM} (h:TryAt X.K X.mg x cs) (hex:X.ex=[]) (hf:X.stack=X.env :: X.outer∧X.env.frame=some X.env.locals)
  (hg:Gl X x) (hN:X.N.Nodup) (hi:X.N[i]?=some n) (hn:nN=X.N.length) (hl:X.env.scope.names.lookup n=some .cell) (hfn:X.fn n=true)
  (hb:∀ (p:List (Addr × Obj)) (W:Value→Shared→Prop) (E1:XK),Passes (CX1 X.prog X.w) (X.with p W) E1→SSs (X.with p W) E1 body mb)
  (hh:∀ (ea:Addr) (o:Obj) (u:HO),ZO o→SSs (X.suite ea (.frz o u)) E0 (b₀ :: suite) mh) (hd:autoParam ((x == ("__debug__":Str))=false) Au.h3._auto_1):
  SS X E (.Try body [.ExceptHandler (some (.Name x np)) (some n) (b₀ :: suite) hpos] [] [] pos) (sTry cs i nN mb mh):=by
 obtain ⟨Cp,hm,hc⟩:=h
 refine ss_tryC hex hf hg hm (fun y hy c hcn=>?_) hN hi hn hl hfn hb hh hd
 obtain ⟨c',e1,e2⟩:=hc y (List.contains_iff_mem.mp hy)
 rw [hcn] at e1
 cases e1
 exact e2
end
end PD
namespace PD
open PySem PySem.Spec PyProof.Rows L2
section
variable {X:Cx} {E:XK}
theorem xo_eqPM {k:Nat} (hr:RoomM k X.A):OpR X (compareOp .Eq) (xO X.K E oEqP):=by
 rintro pins s σ H x y v u Q I rx ry ⟨w,S,d,e,hS,qd,qe,p⟩
 obtain ⟨z,hz,p⟩:=p.of
 unfold oEqP at hz
 cases h:eqP d e with
 | none=>rw [h] at hz; cases hz
 | some c=>
  rw [h] at hz; cases hz
  rcases eqP_cases h with h | ⟨a,b,e1,e2,s1,s2,rfl⟩
  ·exact xo_eq pins s σ H x y v u Q I rx ry ⟨w,S,d,e,hS,qd,qe,by unfold oEq; rw [h]; exact p⟩
  ·obtain ⟨as,r1,_⟩:=reads_ok I d x v a qd rx e1
   obtain ⟨bs,r2,_⟩:=reads_ok I e y u b qe ry e2
   exact eq_dataH r1 r2 s1 s2 (by have:=hr.un; omega) ⟨.bl _,H,I,rfl,p.ret RD.mkB hS⟩
end
end PD
namespace PD
open PySem PySem.Spec PyProof.Rows L2
section
variable {prog:Program} {w:World} {A:Around} {Ex:Value→Shared→Prop} {s:Shared}
theorem args_max3 (a b c:Value):argsOk "max" ⟨[a,b,c],[]⟩:=by unfold argsOk; kernel_rfl
theorem call_max_three {a b c:Value} {Q:Value→Shared→Prop}
  (h:wpAny (model prog w) A.in1 (pyIter (.ref s.heap.objs.size)) (fun it z=>∃ I fp wr n P St bt,it=.ref I∧Walks prog w A.in1 I fp wr n P St∧St 0 z.heap∧(∀ b ∈ fp,b < z.heap.objs.size)∧0 < n∧CmpOf prog w A.in1 .Gt P bt∧∀ v h' tk,P (argBest bt (n - 1)) v→(∀ b o,b ∉ wr→z.heap.get? b=some o→h'.get? b=some o)→Q v { z with heap:=h',toks:=tk }) Ex { s with heap:=s.heap.push { cls:=.type "tuple",data:=.seq #[a,b,c] } }):wpAny (model prog w) A (call (.builtin "max") [a,b,c]) Q Ex s:=by
 have nm:(toString "max" ++ toString ".loop":String) = "max.loop":=by decide
 refine call_function_tree F.kind_max F.plain_max F.entry_max (args_max3 _ _ _) ?_
 show wpAny _ A.in1 (Builtin.Builtins.bindParams "max" ["key","default"] 0 ⟨[],[]⟩ >>= _) _ Ex s
 refine wpAny_bind (wpAny_of_eq (show Builtin.Builtins.bindParams "max" ["key","default"] 0 ⟨[],[]⟩=(pure [none,none]) from rfl) ?_)
 show wpAny _ A.in1 (newTuple [a,b,c] >>= _) _ Ex s
 refine wpAny_bind (wpAny_newObj_type (wpAny_bind (wpAny_mono h (fun it z hz=>?_) fun _ _ e=>e)))
 obtain ⟨I,fp,wr,n,P,St,bt,rfl,W,hst,hfp,hn,hcmp,q⟩:=hz
 have hS:z.heap.objs.size ∉ fp:=fun hm=>Nat.lt_irrefl _ (hfp _ hm)
 refine wpAny_bind (wpAny_newObj_type ?_)
 rw [nm]
 exact wpAny_pure ⟨plainId_quiet F.plain_max_loop _,codeAny_max_loop_first W bt hcmp z.heap.objs.size hS hn (W.frame _ _ _ hst fun b _ o e=>Heap.get?_push_of_some _ e) (Heap.get?_push_size _ rfl) fun v h' tk hP hk=>q v h' tk hP fun b o hbw e=>hk b o hbw (Nat.ne_of_lt (Heap.lt_size e)) (Heap.get?_push_of_some _ e)⟩
theorem max_three_ints {a b c:Int} {t u x:Tok} {Q:Value→Shared→Prop} (hh:A.handled=none)
  (h:∀ h' tk y,(∀ d o,s.heap.get? d=some o→h'.get? d=some o)→Q (.int (let m:=if b > a then b else a; if c > m then c else m) y) { s with heap:=h',toks:=tk }):wpAny (model prog w) A (call (.builtin "max") [.int a t,.int b u,.int c x]) Q Ex s:=by
 have hT:(s.heap.push { cls:=.type "tuple",data:=.seq #[.int a t,.int b u,.int c x] }).IsTuple s.heap.objs.size (intItems #[(a,t),(b,u),(c,x)]):=⟨_,Heap.get?_push_size _ rfl,rfl,0,by simp [intItems]⟩
 refine call_max_three (wpAny_pyIter_tuple hT ?_)
 have hz:(s.heap.push { cls:=.type "tuple",data:=.seq #[.int a t,.int b u,.int c x] }).objs.size=s.heap.objs.size + 1:=Heap.size_push ..
 refine ⟨_,[_,s.heap.objs.size],[_],_,_,_,_,rfl,Walks.tuple (A:=A.in1) hh _ s.heap.objs.size (by rw [hz]; exact Nat.ne_of_lt (Nat.lt_succ_self _)) (intItems #[(a,t),(b,u),(c,x)]),⟨⟨_,Heap.get?_push_size _ rfl,rfl,rfl⟩,hT.push _⟩,fun d hd=>?_,by simp [intItems],CmpOf.ints_gt (numAt #[(a,t),(b,u),(c,x)]) (fun _ _=>intItems_at),fun v h' tk hP hk=>?_⟩
 ·show d < ((s.heap.push _).push _).objs.size
  rw [Heap.size_push,hz]
  simp only [List.mem_cons,List.not_mem_nil,or_false] at hd
  rcases hd with rfl | rfl
  ·rw [hz]; exact Nat.lt_succ_self _
  ·exact Nat.lt_succ_of_lt (Nat.lt_succ_self _)
 ·have ho:∀ d o,s.heap.get? d=some o→h'.get? d=some o:=fun d o e=>by
   refine hk d o (fun hm=>?_) (Heap.get?_push_of_some _ (Heap.get?_push_of_some _ e))
   have:=Heap.lt_size e
   rw [List.mem_singleton.mp hm,hz] at this
   exact Nat.lt_irrefl _ (Nat.lt_of_succ_lt this)
  have s3:(intItems #[(a,t),(b,u),(c,x)]).size - 1=2:=by simp [intItems]
  rw [s3] at hP
  obtain ⟨y,rfl⟩:=intItems_at (show (intItems #[(a,t),(b,u),(c,x)])[argBest (fun i j=>decide (numAt #[(a,t),(b,u),(c,x)] i > numAt #[(a,t),(b,u),(c,x)] j)) 2]?=some v from hP)
  have e:numAt #[(a,t),(b,u),(c,x)] (argBest (fun i j=>decide (numAt #[(a,t),(b,u),(c,x)] i > numAt #[(a,t),(b,u),(c,x)] j)) 2)=(let m:=if b > a then b else a; if c > m then c else m):=by
   have n0:numAt #[(a,t),(b,u),(c,x)] 0=a:=rfl
   have n1:numAt #[(a,t),(b,u),(c,x)] 1=b:=rfl
   have n2:numAt #[(a,t),(b,u),(c,x)] 2=c:=rfl
   generalize hN:numAt #[(a,t),(b,u),(c,x)]=N at *
   have e1:argBest (fun i j=>decide (N i > N j)) 1=if b > a then 1 else 0:=by
    show (if decide (N 1 > N 0)=true then 1 else 0)=_
    rw [n0,n1]
    by_cases hb:b > a
    ·rw [if_pos hb,if_pos (decide_eq_true hb)]
    ·rw [if_neg hb,if_neg (by rw [decide_eq_false hb]; exact Bool.false_ne_true)]
   have e2:argBest (fun i j=>decide (N i > N j)) 2=if decide (N 2 > N (argBest (fun i j=>decide (N i > N j)) 1))=true then 2 else argBest (fun i j=>decide (N i > N j)) 1:=rfl
   rw [e2,e1,n2]
   by_cases hb:b > a
   ·simp only [if_pos hb,n1]
    by_cases hc:c > b
    ·rw [if_pos hc,if_pos (decide_eq_true hc),n2]
    ·rw [if_neg hc,if_neg (by rw [decide_eq_false hc]; exact Bool.false_ne_true),n1]
   ·simp only [if_neg hb,n0]
    by_cases hc:c > a
    ·rw [if_pos hc,if_pos (decide_eq_true hc),n2]
    ·rw [if_neg hc,if_neg (by rw [decide_eq_false hc]; exact Bool.false_ne_true),n0]
  rw [e]
  exact h h' tk y ho
end
noncomputable def fMax3:Sto→List D→Option D
 | _,[.int i,.int j,.int k]=>some (.int (let m:=if j > i then j else i; if k > m then k else m))
 | _,_=>none
section
variable {X:Cx} {E:XK}
theorem xc_max3 (hc:X.calm=true):CallR X (.builtin "max") (xC X.K E fMax3):=by
 rintro pins s σ H xs us Q I r ⟨w,S,ds,hS,qs,p⟩
 obtain ⟨z,hz,p'⟩:=p.of
 clear p
 unfold fMax3 at hz
 split at hz
 ·cases hz
  rename_i i j k
  obtain ⟨x,r0,rfl,q1,qr⟩:=qs.cons_inv
  obtain ⟨y,z,rfl,q2,q3⟩:=qr.two_inv
  cases q1.int
  cases q2.int
  cases q3.int
  cases r with
  | cons r1 r2=>cases r2 with
   | cons r3 r4=>cases r4 with
    | cons r5 r6=>
     cases r6
     obtain ⟨t1,rfl⟩:=r1
     obtain ⟨t2,rfl⟩:=r3
     obtain ⟨t3,rfl⟩:=r5
     exact max_three_ints (I.ok.hd hc) fun h' tk y kk=>⟨.int _,H,I.kept kk,⟨y,rfl⟩,p'.ret RD.mkI hS⟩
 ·cases hz
end
end PD
namespace Lw
open PySem PySem.Spec PyProof.Rows L2 PD
noncomputable def raisedX:List Str:=["NoRow","NoSigns"]
noncomputable def askedX:List Str:=["Bare","Lacking","NoLine","NoNumber","NoRow","NoSigns","NoTable","NoText","PlusError","TooMany"]
noncomputable def isaX (c k:Str):Bool:=c == k || k == "PlusError"
noncomputable abbrev st__law_box:Stmt:=top 23
noncomputable def m__law_box:SM:=(sSeq (sSet 2 (eOp oAdd (eOp oMul (eC (.int 7919)) (eVar 1)) (eC (.int 13)))) (sSeq (sIf (tV (eOp oLt (eVar 1) (eB fLen (aCons (eVar 0) aNil)))) (sSet 2 (eOp oIx (eVar 0) (eVar 1))) sSkip) (sSeq (sIf (tV (eOp oEqP (eOp oMod (eVar 2) (eC (.int 2))) (eC (.int 0)))) (sRet (eNew (aCons (eOp oFdiv (eVar 2) (eC (.int 2))) aNil))) sSkip) (sSeq (sSet 3 (eC (.int 0))) (sSeq (sFor (aRange1 (aCons (eC (.int 16)) aNil)) (.nm 4) (sSeq (sSet 5 (eOp oMod (eOp oAdd (eOp oAdd (eOp oMul (eOp oMod (eVar 2) (eC (.int 2147483647))) (eC (.int 48271))) (eOp oMul (eC (.int 7919)) (eVar 4))) (eC (.int 1))) (eC (.int 2147483647)))) (sSeq (sSet 5 (eOp oMod (eOp oMul (eVar 5) (eVar 5)) (eC (.int 2147483629)))) (sSet 3 (eOp oAdd (eOp oMul (eVar 3) (eC (.int 2147483647))) (eOp oMod (eOp oMul (eVar 5) (eOp oAdd (eVar 5) (eC (.int 13)))) (eC (.int 2147483647)))))))) (sRet (eNew (aCons (eVar 3) aNil))))))))
noncomputable def F__law_box:FM:=fnM 6 m__law_box
noncomputable abbrev st__law_leaning:Stmt:=top 33
noncomputable def m__law_leaning:SM:=(sSeq (sPar 1 2 (aCons (eNew aNil) (aCons (eC (.int 0)) aNil))) (sSeq (sFor (aSeq (eVar 0) itSeq) (.nm 3) (sSeq (sDrop (eMtL mAppend (eVar 1) (aCons (eOp oIx (eLst (aCons (eC (.int 1)) (aCons (eUn oNeg (eC (.int 1))) aNil))) (eB fInt (aCons (eOp oGt (eVar 2) (eC (.int 0))) aNil))) aNil))) (sSet 2 (eOp oAdd (eVar 2) (eOp oMul (eOp oIx (eVar 1) (eUn oNeg (eC (.int 1)))) (eVar 3)))))) (sRet (eB fTuple (aCons (eVar 1) aNil)))))
noncomputable def F__law_leaning:FM:=fnM 4 m__law_leaning
noncomputable abbrev st__law_take:Stmt:=top 24
noncomputable def m__law_take:SM:=(sSeq (sAsg (.tp [(.nm 2),(.nm 3)]) (eB fDivmod (aCons (eOp oIx (eVar 0) (eC (.int 0))) (aCons (eVar 1) aNil)))) (sSeq (sPut fPut (eVar 2) (eVar 0) (eC (.int 0))) (sRet (eVar 3))))
noncomputable def F__law_take:FM:=fnM 4 m__law_take
noncomputable abbrev st__law_odd:Stmt:=top 27
noncomputable def m__law_odd:SM:=(sSeq (sSet 1 (eLst (aCons (eC .non) (aCons (eC (.bl true)) (aCons (eC (.bl false)) (aCons (eUn oNeg (eC (.int 1))) (aCons (eC (.int 2)) (aCons (eC (.str "")) (aCons (eC (.str "1")) (aCons (eTup (aCons (eC (.int 0)) aNil)) (aCons (eLst (aCons (eC (.int 1)) aNil)) (aCons (eDic [((eC (.str "a")),(eC (.int 1)))]) (aCons (eTup (aCons (eUn oNeg (eC (.int 1))) aNil)) (aCons (eTup (aCons (eC (.bl true)) aNil)) (aCons (eTup (aCons (eTup (aCons (eC (.int 1)) aNil)) aNil)) (aCons (eTup (aCons (eC .non) aNil)) (aCons (eOp oPow (eC (.int 10)) (eC (.int 29))) (aCons (eLst aNil) aNil)))))))))))))))))) (sRet (eOp oIx (eVar 1) (eCall F__law_take (aCons (eVar 0) (aCons (eC (.int 16)) aNil))))))
noncomputable def F__law_odd:FM:=fnM 2 m__law_odd
noncomputable abbrev st__law_row:Stmt:=top 26
noncomputable def m__law_row:SM:=(sSeq (sSet 2 (eCall F__law_take (aCons (eVar 0) (aCons (eOp oAdd (eVar 1) (eC (.int 1))) aNil)))) (sSeq (sSet 3 (eCall F__law_take (aCons (eVar 0) (aCons (eC (.int 6)) aNil)))) (sSeq (sSet 4 (eOp oAdd (eC (.int 1)) (eCall F__law_take (aCons (eVar 0) (aCons (eC (.int 9)) aNil))))) (sSeq (sSet 5 (eNew aNil)) (sSeq (sFor (aRange1 (aCons (eVar 2) aNil)) (.nm 6) (sSeq (sSet 7 (eOp oAdd (eC (.int 1)) (eCall F__law_take (aCons (eVar 0) (aCons (eC (.int 12)) aNil))))) (sDrop (eMtL mAppend (eVar 5) (aCons (eOp oIx (eLst (aCons (eVar 7) (aCons (eVar 7) (aCons (eVar 4) (aCons (eOp oShl (eC (.int 1)) (eVar 6)) (aCons (eOp oAdd (eVar 4) (eOp oMul (eVar 6) (eVar 7))) (aCons (eOp oAdd (eOp oMul (eOp oPow (eC (.int 10)) (eC (.int 12))) (eVar 7)) (eVar 4)) aNil))))))) (eVar 3)) aNil))))) (sRet (eB fTuple (aCons (eVar 5) aNil))))))))
noncomputable def F__law_row:FM:=fnM 8 m__law_row
noncomputable abbrev st__law_classes:Stmt:=top 31
noncomputable def m__law_classes:SM:=(sSeq (sSet 1 (eLst (aCons (eB (fIsX raisedX askedX isaX) (aCons (eVar 0) (aCons (eC (.cls "NoRow")) aNil))) (aCons (eB (fIsX raisedX askedX isaX) (aCons (eVar 0) (aCons (eC (.cls "NoNumber")) aNil))) (aCons (eB (fIsX raisedX askedX isaX) (aCons (eVar 0) (aCons (eC (.cls "NoSigns")) aNil))) (aCons (eB (fIsX raisedX askedX isaX) (aCons (eVar 0) (aCons (eC (.cls "TooMany")) aNil))) aNil)))))) (sSeq (sSet 1 (eOp oAdd (eVar 1) (eLst (aCons (eB (fIsX raisedX askedX isaX) (aCons (eVar 0) (aCons (eC (.cls "Lacking")) aNil))) (aCons (eB (fIsX raisedX askedX isaX) (aCons (eVar 0) (aCons (eC (.cls "Bare")) aNil))) (aCons (eB (fIsX raisedX askedX isaX) (aCons (eVar 0) (aCons (eC (.cls "NoTable")) aNil))) (aCons (eB (fIsX raisedX askedX isaX) (aCons (eVar 0) (aCons (eC (.cls "NoLine")) aNil))) aNil))))))) (sRet (eOp oAdd (eVar 1) (eLst (aCons (eB (fIsX raisedX askedX isaX) (aCons (eVar 0) (aCons (eC (.cls "NoText")) aNil))) aNil))))))
noncomputable def F__law_classes:FM:=fnM 2 m__law_classes
noncomputable abbrev st__law_only:Stmt:=top 32
noncomputable def m__law_only:SM:=(sSeq (sIf (PD.tOr (PD.tNot (tV (eB (fIsX raisedX askedX isaX) (aCons (eVar 0) (aCons (eC (.cls "PlusError")) aNil))))) (PD.tNot (tV (eB (fIsX raisedX askedX isaX) (aCons (eVar 0) (aCons (eC (.ty "ValueError")) aNil)))))) (sRet (eC (.bl false))) sSkip) (sRet (eOp oEqP (eCall F__law_classes (aCons (eVar 0) aNil)) (eComp (aRange1 (aCons (eC (.int 9)) aNil)) 1 [1] (.nm 0) tTrue (eOp oEq (eVar 0) (eVar 1))))))
noncomputable def F__law_only:FM:=fnM 2 m__law_only
noncomputable abbrev st_is_whole:Stmt:=top 13
noncomputable def m_is_whole:SM:=(sRet (eAnd (eB fIsi (aCons (eVar 0) (aCons (eC (.ty "int")) aNil))) (eNot (eB fIsi (aCons (eVar 0) (aCons (eC (.ty "bool")) aNil))))))
noncomputable def F_is_whole:FM:=fnM 1 m_is_whole
noncomputable abbrev st_is_row:Stmt:=top 15
noncomputable def m_is_row:SM:=(sSeq (sIf (PD.tOr (PD.tNot (tV (eB fIsi (aCons (eVar 0) (aCons (eC (.ty "tuple")) aNil))))) (tV (eOp oGt (eB fLen (aCons (eVar 0) aNil)) (eC (.int (16)))))) (sRet (eC (.bl false))) sSkip) (sRet (eB fAll (aCons (eComp (aSeq (eVar 0) itSeq) 1 [] (.nm 0) tTrue (eAnd (eCall F_is_whole (aCons (eVar 0) aNil)) (eOp oGe (eVar 0) (eC (.int 1))))) aNil))))
noncomputable def F_is_row:FM:=fnM 1 m_is_row
noncomputable abbrev st_need_row:Stmt:=top 16
noncomputable def m_need_row:SM:=(sIf (tNx (PD.tNot (tV (eCall F_is_row (aCons (eVar 0) aNil))))) (sRaise "NoRow" (aCons (eC (.str "a row is a tuple of 0 to 16 whole numbers from 1 on")) aNil)) sSkip)
noncomputable def F_need_row:FM:=fnM 1 m_need_row
noncomputable abbrev st_are_whole:Stmt:=top 14
noncomputable def m_are_whole:SM:=(sRet (eAnd (eB fIsi (aCons (eVar 0) (aCons (eC (.ty "tuple")) aNil))) (eAnd (eOp oEqP (eB fLen (aCons (eVar 0) aNil)) (eVar 1)) (eB fAll (aCons (eComp (aSeq (eVar 0) itSeq) 1 [] (.nm 0) tTrue (eCall F_is_whole (aCons (eVar 0) aNil))) aNil)))))
noncomputable def F_are_whole:FM:=fnM 2 m_are_whole
noncomputable abbrev st_are_so_many_signs:Stmt:=top 17
noncomputable def m_are_so_many_signs:SM:=(sRet (eAnd (eCall F_are_whole (aCons (eVar 0) (aCons (eVar 1) aNil))) (eB fAll (aCons (eComp (aSeq (eVar 0) itSeq) 1 [] (.nm 0) tTrue (eOp oEqP (eB fAbs (aCons (eVar 0) aNil)) (eC (.int 1)))) aNil))))
noncomputable def F_are_so_many_signs:FM:=fnM 2 m_are_so_many_signs
noncomputable abbrev st_need_so_many_signs:Stmt:=top 18
noncomputable def m_need_so_many_signs:SM:=(sIf (tNx (PD.tNot (tV (eCall F_are_so_many_signs (aCons (eVar 0) (aCons (eVar 1) aNil)))))) (sRaise "NoSigns" (aCons (eNx (eUn (oFmt "signs are here a tuple of 1 or -1, " " of them" true) (eVar 1))) aNil)) sSkip)
noncomputable def F_need_so_many_signs:FM:=fnM 2 m_need_so_many_signs
noncomputable abbrev st_swing:Stmt:=top 20
noncomputable def m_swing:SM:=(sSeq (sDrop (eCall F_need_row (aCons (eVar 0) aNil))) (sSeq (sDrop (eCall F_need_so_many_signs (aCons (eVar 1) (aCons (eNx (eB fLen (aCons (eVar 0) aNil))) aNil)))) (sSeq (sNx (sSet 2 (eC (.int 0)))) (sSeq (sNx (sSet 3 (eC (.int 0)))) (sSeq (sNx (sFor (aZip (aCons (eVar 0) (aCons (eVar 1) aNil))) (.tp [(.nm 4),(.nm 5)]) (sSeq (sSet 2 (eOp oAdd (eVar 2) (eOp oMul (eVar 5) (eVar 4)))) (sSet 3 (eB fMax (aCons (eVar 3) (aCons (eB fAbs (aCons (eVar 2) aNil)) aNil))))))) (sNx (sRet (eVar 3))))))))
noncomputable def F_swing:FM:=fnM 6 m_swing
noncomputable abbrev st__law_said:Stmt:=top 34
noncomputable def m__law_said:SM:=(sTry raisedX 2 3 (sRet (eCall F_swing (aCons (eVar 0) (aCons (eVar 1) aNil)))) (sRet (eOp oAdd (eLst (aCons (eC (.str "refused")) aNil)) (eComp (aRange1 (aCons (eC (.int 9)) aNil)) 1 [2] (.nm 0) (tV (eCall F__law_only (aCons (eVar 1) (aCons (eVar 0) aNil)))) (eVar 0)))))
noncomputable def F__law_said:FM:=fnM 3 m__law_said
noncomputable abbrev st__law_signs:Stmt:=top 28
noncomputable def m__law_signs:SM:=(sRet (eB fTuple (aCons (eComp (aRange1 (aCons (eVar 1) aNil)) 1 [0] (.nm 0) tTrue (eOp oSub (eOp oMul (eC (.int 2)) (eCall F__law_take (aCons (eVar 1) (aCons (eC (.int 2)) aNil)))) (eC (.int 1)))) aNil)))
noncomputable def F__law_signs:FM:=fnM 2 m__law_signs
noncomputable abbrev st__law_swing:Stmt:=top 30
noncomputable def m__law_swing:SM:=(sSeq (sAsg (.tp [(.nm 2),(.nm 3)]) (eTup (aCons (eC (.int 0)) (aCons (eC (.int 0)) aNil)))) (sSeq (sFor (aZip (aCons (eVar 0) (aCons (eVar 1) aNil))) (.tp [(.nm 4),(.nm 5)]) (sSeq (sSet 2 (eOp oAdd (eVar 2) (eOp oMul (eVar 4) (eVar 5)))) (sSet 3 (eB fMax3 (aCons (eVar 3) (aCons (eVar 2) (aCons (eOp oSub (eC (.int 0)) (eVar 2)) aNil))))))) (sRet (eVar 3))))
noncomputable def F__law_swing:FM:=fnM 6 m__law_swing
noncomputable abbrev st__law_whole:Stmt:=top 25
noncomputable def m__law_whole:SM:=(sRet (eAnd (eB fIsi (aCons (eVar 0) (aCons (eC (.ty "int")) aNil))) (eNot (eB fIsi (aCons (eVar 0) (aCons (eC (.ty "bool")) aNil))))))
noncomputable def F__law_whole:FM:=fnM 1 m__law_whole
noncomputable abbrev st_need_row_n:Stmt:=top 16
noncomputable def m_need_row_n:SM:=(sIf (PD.tNot (tV (eCall F_is_row (aCons (eVar 0) aNil)))) sBad sSkip)
noncomputable def F_need_row_n:FM:=fnM 1 m_need_row_n
noncomputable abbrev st_leaning_n:Stmt:=top 21
noncomputable def m_leaning_n:SM:=(sSeq (sDrop (eCall F_need_row_n (aCons (eVar 0) aNil))) (sSeq (sSet 1 (eNew aNil)) (sSeq (sSet 2 (eC (.int 0))) (sSeq (sFor (aSeq (eVar 0) itSeq) (.nm 3) (sSeq (sSet 4 (eIf (tV (eOp oGt (eVar 2) (eC (.int 0)))) (eUn oNeg (eC (.int 1))) (eC (.int 1)))) (sSeq (sDrop (eMtL mAppend (eVar 1) (aCons (eVar 4) aNil))) (sSet 2 (eOp oAdd (eVar 2) (eOp oMul (eVar 4) (eVar 3))))))) (sRet (eB fTuple (aCons (eVar 1) aNil)))))))
noncomputable def F_leaning_n:FM:=fnM 5 m_leaning_n
noncomputable abbrev st_law:Stmt:=top 35
noncomputable def m_law:SM:=(sSeq (sFor (aRange1 (aCons (eB fMax (aCons (eC (.int 1)) (aCons (eB fMin (aCons (eB fLen (aCons (eVar 0) aNil)) (aCons (eC (.int 4)) aNil))) aNil))) aNil)) (.nm 1) (sSeq (sSet 2 (eCall F__law_box (aCons (eVar 0) (aCons (eVar 1) aNil)))) (sSeq (sSet 3 (eCall F__law_row (aCons (eVar 2) (aCons (eC (.int 16)) aNil)))) (sSeq (sSet 4 (eB fLen (aCons (eVar 3) aNil))) (sSeq (sSet 5 (eB fTuple (aCons (eComp (aRange1 (aCons (eVar 4) aNil)) 1 [] (.nm 0) tTrue (eOp oSub (eC (.int 1)) (eOp oMul (eC (.int 2)) (eOp oMod (eVar 0) (eC (.int 2)))))) aNil))) (sSeq (sFor (aSeq (eLst (aCons (eCall F__law_signs (aCons (eVar 2) (aCons (eVar 4) aNil))) (aCons (eOp oMul (eTup (aCons (eC (.int 1)) aNil)) (eVar 4)) (aCons (eOp oMul (eTup (aCons (eUn oNeg (eC (.int 1))) aNil)) (eVar 4)) (aCons (eVar 5) (aCons (eCall F__law_leaning (aCons (eVar 3) aNil)) aNil)))))) itSeq) (.nm 6) (sSeq (sSet 9 (eCall F__law_said (aCons (eVar 3) (aCons (eVar 6) aNil)))) (sIf (PD.tOr (PD.tNot (tV (eCall F__law_whole (aCons (eVar 9) aNil)))) (tV (eOp oNeP (eVar 9) (eCall F__law_swing (aCons (eVar 3) (aCons (eVar 6) aNil)))))) (sRet (eC (.bl false))) sSkip))) (sSeq (sIf (tV (eOp oNeP (eB fRepr (aCons (eCall F_leaning_n (aCons (eVar 3) aNil)) aNil)) (eB fRepr (aCons (eCall F__law_leaning (aCons (eVar 3) aNil)) aNil)))) (sRet (eC (.bl false))) sSkip) (sSeq (sSet 7 (eLst (aCons (eOp oMul (eTup (aCons (eC (.int 1)) aNil)) (eOp oAdd (eVar 4) (eC (.int 1)))) (aCons (eB fList (aCons (eVar 5) aNil)) (aCons (eOp oAdd (eVar 5) (eTup (aCons (eC (.int 0)) aNil))) (aCons (eOp oAdd (eOp oMul (eTup (aCons (eC (.int 0)) aNil)) (eVar 4)) (eTup (aCons (eC (.int 1)) aNil))) (aCons (eCall F__law_odd (aCons (eVar 2) aNil)) (aCons (eOp oAdd (eTup (aCons (eC (.bl true)) aNil)) (eSl fSlT (eVar 5) (oPart (eC (.int 1))) oNo)) aNil)))))))) (sFor (aSeq (eOp oAdd (eVar 7) (eLst (aCons (eOp oAdd (eTup (aCons (eC (.int 2)) aNil)) (eSl fSlT (eVar 5) (oPart (eC (.int 1))) oNo)) (aCons (eOp oAdd (eTup (aCons (eC (.int 0)) aNil)) (eSl fSlT (eVar 5) (oPart (eC (.int 1))) oNo)) (aCons (eC .non) aNil))))) itSeq) (.nm 8) (sSeq (sSet 10 (eAnd (eB fIsi (aCons (eVar 8) (aCons (eC (.ty "tuple")) aNil))) (eOp oEqP (eB fLen (aCons (eVar 8) aNil)) (eVar 4)))) (sIf (PD.tOr (PD.tNot (tV (eVar 10))) (PD.tNot (tV (eB fAll (aCons (eComp (aSeq (eVar 8) itSeq) 1 [] (.nm 0) tTrue (eAnd (eCall F__law_whole (aCons (eVar 0) aNil)) (eOp oEqP (eOp oMul (eVar 0) (eVar 0)) (eC (.int 1))))) aNil))))) (sIf (tV (eOp oNeP (eCall F__law_said (aCons (eVar 3) (aCons (eVar 8) aNil))) (eLst (aCons (eC (.str "refused")) (aCons (eC (.int 2)) aNil))))) (sRet (eC (.bl false))) sSkip) sSkip))))))))))) (sRet (eC (.bl true))))
noncomputable def F_law:FM:=fnM 11 m_law
structure Gr (b:Nat) (S S':Sto):Prop where
 bx:∃ n,S'[b]?=some (.lst [.int n])
 oth:∀ i,i ≠ b→i < S.length→S'[i]?=S[i]?
 len:S.length≤S'.length
theorem Gr.trans {b:Nat} {S S1 S2:Sto} (x:Gr b S S1) (y:Gr b S1 S2):Gr b S S2:=
 ⟨y.bx,fun i h l=>(y.oth i h (Nat.lt_of_lt_of_le l x.len)).trans (x.oth i h l),Nat.le_trans x.len y.len⟩
theorem Gr.self {b:Nat} {S S1:Sto} (x:Gr b S S1):Gr b S1 S1:=⟨x.bx,fun _ _ _=>rfl,Nat.le_refl _⟩
theorem Gr.more {b:Nat} {S S1:Sto} (x:Gr b S S1) (l:Sto):Gr b S (S1 ++ l):=by
 obtain ⟨n,hn⟩:=x.bx
 have hb:b < S1.length:=(List.getElem?_eq_some_iff.mp hn).1
 refine ⟨⟨n,by rw [List.getElem?_append_left hb]; exact hn⟩,fun i h hl=>?_,by rw [List.length_append]; have:=x.len; omega⟩
 rw [List.getElem?_append_left (Nat.lt_of_lt_of_le hl x.len)]
 exact x.oth i h hl
theorem take_eq {S:Sto} {b:Nat} {n many:Int} (h:S[b]?=some (.lst [.int n])) (h0:0 < many) (h1:many < 1073741824):F__law_take [.ref b,.int many] S=.ok (.int (n % many)) (S.set b (.lst [.int (n / many)])):=by
 simp [F__law_take,fnM,m__law_take,sSeq,sAsg,sPut,sRet,eB,eOp,eVar,eC,aCons,aNil,R.bind,R.of,oIx,seqOf,h,atI,ixN,fDivmod,h0,h1,G.put,G.puts,fPut]
theorem take_ok {S:Sto} {b:Nat} (h:Gr b S S) {many:Int} (h0:0 < many) (h1:many < 1073741824):∃ q S',F__law_take [.ref b,.int many] S=.ok (.int q) S'∧0≤q∧q < many∧Gr b S S':=by
 obtain ⟨n,hn⟩:=h.bx
 have hb:b < S.length:=(List.getElem?_eq_some_iff.mp hn).1
 refine ⟨_,_,take_eq hn h0 h1,Int.emod_nonneg _ (by omega),Int.emod_lt_of_pos _ h0,⟨n / many,by simp [hb]⟩,fun i hi _=>?_,by simp⟩
 rw [List.getElem?_set_ne (Ne.symm hi)]
noncomputable abbrev boxBody:SM:=(sSeq (sSet 5 (eOp oMod (eOp oAdd (eOp oAdd (eOp oMul (eOp oMod (eVar 2) (eC (.int 2147483647))) (eC (.int 48271))) (eOp oMul (eC (.int 7919)) (eVar 4))) (eC (.int 1))) (eC (.int 2147483647)))) (sSeq (sSet 5 (eOp oMod (eOp oMul (eVar 5) (eVar 5)) (eC (.int 2147483629)))) (sSet 3 (eOp oAdd (eOp oMul (eVar 3) (eC (.int 2147483647))) (eOp oMod (eOp oMul (eVar 5) (eOp oAdd (eVar 5) (eC (.int 13)))) (eC (.int 2147483647)))))))
theorem box_turn (S:Sto) (a b:Option D) (h n j:Int) (r5:Option D):∃ (n':Int) (x:Int),boxBody [a,b,some (.int h),some (.int n),some (.int j),r5] S=.ok (.nx [a,b,some (.int h),some (.int n'),some (.int j),some (.int x)]) S:=by
 have s1:smallI 48271:=by decide
 have s2:smallI 7919:=by decide
 have s3:smallI 2147483647:=by decide
 have h1:∀ y:Int,smallI (y % 2147483647):=fun y=>by
  have:=Int.emod_nonneg y (show (2147483647:Int) ≠ 0 by decide)
  have:=Int.emod_lt_of_pos y (show (0:Int) < 2147483647 by decide)
  exact ⟨by omega,by omega⟩
 have h2:∀ y:Int,smallI (y % 2147483629):=fun y=>by
  have:=Int.emod_nonneg y (show (2147483629:Int) ≠ 0 by decide)
  have:=Int.emod_lt_of_pos y (show (0:Int) < 2147483629 by decide)
  exact ⟨by omega,by omega⟩
 refine ⟨n * 2147483647 + ((h % 2147483647 * 48271 + 7919 * j + 1) % 2147483647 * ((h % 2147483647 * 48271 + 7919 * j + 1) % 2147483647) % 2147483629) * ((h % 2147483647 * 48271 + 7919 * j + 1) % 2147483647 * ((h % 2147483647 * 48271 + 7919 * j + 1) % 2147483647) % 2147483629 + 13) % 2147483647,(h % 2147483647 * 48271 + 7919 * j + 1) % 2147483647 * ((h % 2147483647 * 48271 + 7919 * j + 1) % 2147483647) % 2147483629,?_⟩
 simp only [boxBody,sSeq,sSet,eOp,eVar,eC,R.bind,R.of,oMod,oAdd,List.getElem?_cons_zero,List.getElem?_cons_succ,List.set_cons_zero,List.set_cons_succ,oMul_i (.inr s1),oMul_i (.inl s2),oMul_i (.inr s3),oMul_i (.inl (h1 _)),oMul_i (.inl (h2 _)),Int.reduceLT,if_true]
theorem box_loop (h:Int):∀ (l:List Nat) (S:Sto) (a b:Option D) (n:Int) (j r5:Option D),∃ (n':Int) (j' r5':Option D),
  forL (.nm 4) boxBody (l.map fun (i:Nat)=>D.int i) [a,b,some (.int h),some (.int n),j,r5] S=.ok (.nx [a,b,some (.int h),some (.int n'),j',r5']) S
 | [],S,a,b,n,j,r5=>⟨n,j,r5,rfl⟩
 | i :: l,S,a,b,n,j,r5=>by
  obtain ⟨n1,x,e1⟩:=box_turn S a b h n i r5
  obtain ⟨n',j',r5',e⟩:=box_loop h l S a b n1 (some (.int i)) (some (.int x))
  refine ⟨n',j',r5',?_⟩
  rw [List.map_cons,forL]
  simp only [G.put,List.set_cons_zero,List.set_cons_succ,e1,R.bind_ok]
  exact e
theorem box_ok (ns:List Int) (k:Nat) (S:Sto):∃ v:Int,F__law_box [.fz (ns.map .int),.int k] S=.ok (.ref S.length) (S ++ [.lst [.int v]]):=by
 have hz:(1:Nat)≤sizeLine:=by decide
 have s2:smallI 7919:=by decide
 have rest:∀ c:Int,∃ v:Int,(sSeq (sIf (tV (eOp oEqP (eOp oMod (eVar 2) (eC (.int 2))) (eC (.int 0)))) (sRet (eNew (aCons (eOp oFdiv (eVar 2) (eC (.int 2))) aNil))) sSkip) (sSeq (sSet 3 (eC (.int 0))) (sSeq (sFor (aRange1 (aCons (eC (.int 16)) aNil)) (.nm 4) boxBody) (sRet (eNew (aCons (eVar 3) aNil)))))) [some (.fz (ns.map .int)),some (.int k),some (.int c),none,none,none] S=.ok (.rt (.ref S.length)) (S ++ [.lst [.int v]]):=fun c=>by
  by_cases hc:c % 2=0
  ·refine ⟨c / 2,?_⟩
   simp [sSeq,sSet,sIf,sRet,sSkip,tV,eNew,eB,eCall,eOp,eVar,eC,aCons,aNil,R.bind,R.of,oMod,oEqP,eqP,eqS,hc,oFdiv,hz]
  ·obtain ⟨n',j',r5',e⟩:=box_loop c (List.range 16) S (some (.fz (ns.map .int))) (some (.int k)) 0 none none
   refine ⟨n',?_⟩
   have hr:(16:Int).toNat=16:=rfl
   simp only [sSeq,sSet,sIf,sRet,sSkip,tV,eNew,eB,eCall,eOp,eVar,eC,aCons,aNil,R.bind,R.of,oMod,oEqP,eqP,eqS,hc,sFor,aRange1,hz,List.getElem?_cons_zero,List.getElem?_cons_succ,List.set_cons_zero,List.set_cons_succ,Int.reduceLT,if_true,decide_false,Option.map_some,Bool.false_eq_true,if_false,Int.reduceLE,and_self,Int.reducePow,Int.reduceNeg,hr,e,List.length_cons,List.length_nil,Nat.reduceAdd]
 by_cases hk:k < ns.length
 ·obtain ⟨v,e⟩:=rest (ns.getD k 0)
  refine ⟨v,?_⟩
  have hi:atI (ns.map D.int) (k:Int)=some (.int (ns.getD k 0)):=by simp [atI,ixN,hk]
  have hk':(k:Int) < (ns.length:Int):=by omega
  unfold F__law_box fnM m__law_box
  simp only [List.map_cons,List.map_nil,List.length_cons,List.length_nil,Nat.reduceAdd,Nat.reduceSub,List.replicate,List.cons_append,List.nil_append]
  rw [sSeq]
  simp only [sSet,eOp,eVar,eC,R.bind,R.of,oAdd,oMul_i (.inl s2),List.getElem?_cons_zero,List.getElem?_cons_succ,List.set_cons_zero,List.set_cons_succ]
  rw [sSeq]
  simp only [sIf,sSet,sSkip,tV,eB,eOp,eVar,eC,aCons,aNil,R.bind,R.of,oIx,seqOf,oCmp,fLen,List.length_map,hk',decide_true,if_true,hi,List.getElem?_cons_zero,List.getElem?_cons_succ,List.set_cons_zero,List.set_cons_succ,Option.map_some]
  rw [e]
 ·obtain ⟨v,e⟩:=rest (7919 * (k:Int) + 13)
  refine ⟨v,?_⟩
  have hk':¬ (k:Int) < (ns.length:Int):=by omega
  unfold F__law_box fnM m__law_box
  simp only [List.map_cons,List.map_nil,List.length_cons,List.length_nil,Nat.reduceAdd,Nat.reduceSub,List.replicate,List.cons_append,List.nil_append]
  rw [sSeq]
  simp only [sSet,eOp,eVar,eC,R.bind,R.of,oAdd,oMul_i (.inl s2),List.getElem?_cons_zero,List.getElem?_cons_succ,List.set_cons_zero,List.set_cons_succ]
  rw [sSeq]
  simp only [sIf,sSet,sSkip,tV,eB,eOp,eVar,eC,aCons,aNil,R.bind,R.of,oIx,seqOf,oCmp,fLen,List.length_map,hk',decide_false,Bool.false_eq_true,if_false,List.getElem?_cons_zero,List.getElem?_cons_succ,List.set_cons_zero,List.set_cons_succ,Option.map_some]
  rw [e]
theorem sFor_go {it:AM} {g:PD.G} {b:SM} {r:Rho} {S S1:Sto} {xs:List D} (h:it r S=.ok xs S1):sFor it g b r S=forL g b xs r S1:=by unfold sFor; rw [h,R.bind_ok]
theorem fnM_rt {n:Nat} {b:SM} {ds:List D} {ρ:Rho} {S S1:Sto} {d:D} (hρ:ds.map some ++ List.replicate (n - ds.length) none = ρ) (h:b ρ S=.ok (.rt d) S1):fnM n b ds S=.ok d S1:=by unfold fnM; rw [hρ,h,R.bind_ok]
theorem fnM_nx {n:Nat} {b:SM} {ds:List D} {ρ ρ':Rho} {S S1:Sto} (hρ:ds.map some ++ List.replicate (n - ds.length) none = ρ) (h:b ρ S=.ok (.nx ρ') S1):fnM n b ds S=.ok .non S1:=by unfold fnM; rw [hρ,h,R.bind_ok]
theorem sSet_go {i:Nat} {a:EM} {r:Rho} {S S1:Sto} {d:D} (h:a r S=.ok d S1):sSet i a r S=.ok (.nx (r.set i (some d))) S1:=by unfold sSet; rw [h,R.bind_ok]
theorem sRet_go {a:EM} {r:Rho} {S S1:Sto} {d:D} (h:a r S=.ok d S1):sRet a r S=.ok (.rt d) S1:=by unfold sRet; rw [h,R.bind_ok]
theorem sIf_t {t:TM} {a b:SM} {r:Rho} {S S1:Sto} (h:t r S=.ok true S1):sIf t a b r S=a r S1:=by unfold sIf; rw [h,R.bind_ok]; exact if_pos rfl
theorem sIf_f {t:TM} {a b:SM} {r:Rho} {S S1:Sto} (h:t r S=.ok false S1):sIf t a b r S=b r S1:=by unfold sIf; rw [h,R.bind_ok]; exact if_neg Bool.false_ne_true
theorem sDrop_go {a:EM} {r:Rho} {S S1:Sto} {d:D} (h:a r S=.ok d S1):sDrop a r S=.ok (.nx r) S1:=by unfold sDrop; rw [h,R.bind_ok]
theorem forL_cons {g:PD.G} {b:SM} {x:D} {xs:List D} {r r1 r2:Rho} {S S1:Sto} (hp:g.put x r=some r1) (h:b r1 S=.ok (.nx r2) S1):forL g b (x :: xs) r S=forL g b xs r2 S1:=by rw [forL]; simp only [hp,h,R.bind_ok]
theorem eCall_go {f:FM} {t:AM} {r:Rho} {S S1:Sto} {xs:List D} (h:t r S=.ok xs S1):eCall f t r S=f xs S1:=by unfold eCall; rw [h,R.bind_ok]
theorem sFor_seq {a:EM} {g:PD.G} {b:SM} {r:Rho} {S S1:Sto} {d:D} {xs:List D} (h:a r S=.ok d S1) (hi:itSeq S1 d=some xs):sFor (aSeq a itSeq) g b r S=forL g b xs r S1:=sFor_go (by unfold aSeq; rw [h,R.bind_ok,hi]; rfl)
theorem eOp_go {f:Sto→D→D→Option D} {a b:EM} {r:Rho} {S S1 S2:Sto} {x y z:D} (h1:a r S=.ok x S1) (h2:b r S1=.ok y S2) (h3:f S2 x y=some z):eOp f a b r S=.ok z S2:=by unfold eOp; rw [h1,R.bind_ok,h2,R.bind_ok,h3]; rfl
theorem eB_go {f:Sto→List D→Option D} {t:AM} {r:Rho} {S S1:Sto} {xs:List D} {z:D} (h1:t r S=.ok xs S1) (h3:f S1 xs=some z):eB f t r S=.ok z S1:=by unfold eB; rw [h1,R.bind_ok,h3]; rfl
theorem aCons_go {a:EM} {t:AM} {r:Rho} {S S1 S2:Sto} {x:D} {xs:List D} (h1:a r S=.ok x S1) (h2:t r S1=.ok xs S2):aCons a t r S=.ok (x :: xs) S2:=by unfold aCons; rw [h1,R.bind_ok,h2,R.bind_ok]
theorem tV_go {a:EM} {r:Rho} {S S1:Sto} {b:Bool} (h:a r S=.ok (.bl b) S1):tV a r S=.ok b S1:=by unfold tV; rw [h,R.bind_ok]
theorem tNot_go {a:TM} {r:Rho} {S S1:Sto} {b:Bool} (h:a r S=.ok b S1):PD.tNot a r S=.ok (!b) S1:=by unfold PD.tNot; rw [h,R.bind_ok]
theorem eMtL_go {f:Sto→D→List D→R D} {o:EM} {t:AM} {r:Rho} {S S1 S2:Sto} {x:D} {ys:List D} (h1:o r S=.ok x S1) (hl:isL S1 x=true) (h2:t r S1=.ok ys S2):eMtL f o t r S=f S2 x ys:=by unfold eMtL; rw [h1,R.bind_ok,if_pos hl,h2,R.bind_ok]
theorem eIf_t {t:TM} {a b:EM} {r:Rho} {S S1:Sto} (h:t r S=.ok true S1):eIf t a b r S=a r S1:=by unfold eIf; rw [h,R.bind_ok]; exact if_pos rfl
theorem eIf_f {t:TM} {a b:EM} {r:Rho} {S S1:Sto} (h:t r S=.ok false S1):eIf t a b r S=b r S1:=by unfold eIf; rw [h,R.bind_ok]; exact if_neg Bool.false_ne_true
theorem big62 {n:Int} (h0:0≤n) (h:n≤100000):n < 2 ^ 62∧-(2 ^ 62)≤n:=⟨by omega,by omega⟩
theorem aRange1_int {t:AM} {r:Rho} {S S1:Sto} {m:Int} (h:t r S=.ok [.int m] S1) (h0:0≤m) (h1:m≤100000):aRange1 t r S=.ok ((List.range m.toNat).map fun (i:Nat)=>D.int i) S1:=by
 have hr:=big62 h0 h1
 simp only [aRange1,h,R.bind,if_pos hr]
theorem aRange1_ok {t:AM} {r:Rho} {S S1:Sto} {n:Nat} (h:t r S=.ok [.int (n:Int)] S1) (hn:n≤100000):aRange1 t r S=.ok ((List.range n).map fun (i:Nat)=>D.int i) S1:=
 aRange1_int h (Int.natCast_nonneg n) (Int.ofNat_le.mpr hn)
theorem sSeq_go {a b:SM} {r r1:Rho} {S S1:Sto} (h:a r S=.ok (.nx r1) S1):sSeq a b r S=b r1 S1:=by unfold sSeq; rw [h,R.bind_ok]
theorem comp_map {A:Type} {enc out:A→D} {e:EM} {tl:Rho} {S:Sto}:∀ (xs:List A) (r0:Option D),(∀ x ∈ xs,e (some (enc x) :: tl) S=.ok (out x) S)→compL (.nm 0) tTrue e (xs.map enc) (r0 :: tl) S=.ok (xs.map out) S
 | [],_,_=>rfl
 | x :: xs,r0,h=>by
  have h1:=h x List.mem_cons_self
  have h2:=comp_map (out:=out) xs (some (enc x)) fun y hy=>h y (List.mem_cons_of_mem _ hy)
  rw [List.map_cons,compL]
  simp only [G.put,List.set_cons_zero,tTrue,R.bind_ok,if_true,h1,h2,List.map_cons]
theorem eComp_map {A:Type} {enc out:A→D} {e:EM} {it:AM} {caps:List Nat} {tl r:Rho} {S:Sto} (xs:List A) (hi:it r S=.ok (xs.map enc) S) (hl:xs.length≤sizeLine) (hc:caps.map (fun i=>(r[i]?).join)=tl) (h:∀ x ∈ xs,e (some (enc x) :: tl) S=.ok (out x) S):eComp it 1 caps (.nm 0) tTrue e r S=.ok (.lst (xs.map out)) S:=by
 unfold eComp
 rw [hi,R.bind_ok,if_pos (by rw [List.length_map]; exact hl)]
 have:capOf 1 caps r=none :: tl:=by unfold capOf; rw [hc]; rfl
 rw [this,comp_map (out:=out) xs none h,R.bind_ok]
theorem it_var {i:Nat} {r:Rho} {S:Sto} {d:D} {xs:List D} (h:r[i]?=some (some d)) (hx:itSeq S d=some xs):aSeq (eVar i) itSeq r S=.ok xs S:=by
 unfold aSeq eVar
 rw [h]
 show R.bind (.ok d S) _=_
 rw [R.bind_ok,hx]; rfl
theorem eVar_go {i:Nat} {r:Rho} {S:Sto} {d:D} (h:r[i]?=some (some d)):eVar i r S=.ok d S:=by
 unfold eVar; rw [h]
theorem eTup_go {t:AM} {r:Rho} {S S1:Sto} {xs:List D} (h:t r S=.ok xs S1) (hl:xs.length≤sizeLine):eTup t r S=.ok (.tup xs) S1:=by unfold eTup; rw [h,R.bind_ok,if_pos hl]
theorem eLst_go {t:AM} {r:Rho} {S S1:Sto} {xs:List D} (h:t r S=.ok xs S1) (hl:xs.length≤sizeLine):eLst t r S=.ok (.lst xs) S1:=by unfold eLst; rw [h,R.bind_ok,if_pos hl]
theorem eAnd_t {a b:EM} {r:Rho} {S S1:Sto} (h:a r S=.ok (.bl true) S1):eAnd a b r S=b r S1:=by unfold eAnd; rw [h,R.bind_ok]
theorem eAnd_f {a b:EM} {r:Rho} {S S1:Sto} (h:a r S=.ok (.bl false) S1):eAnd a b r S=.ok (.bl false) S1:=by unfold eAnd; rw [h,R.bind_ok]
theorem tOr_t {a b:TM} {r:Rho} {S S1:Sto} (h:a r S=.ok true S1):PD.tOr a b r S=.ok true S1:=by unfold PD.tOr; rw [h,R.bind_ok]; exact if_pos rfl
theorem tOr_f {a b:TM} {r:Rho} {S S1:Sto} (h:a r S=.ok false S1):PD.tOr a b r S=b r S1:=by unfold PD.tOr; rw [h,R.bind_ok]; exact if_neg Bool.false_ne_true
theorem boolsOf_map {A:Type} (f:A→Bool):∀ xs:List A,boolsOf (xs.map fun x=>D.bl (f x))=some (xs.map f)
 | []=>rfl
 | x :: xs=>by rw [List.map_cons,boolsOf,boolsOf_map f xs]; rfl
theorem fAll_map {A:Type} {S:Sto} {f:A→Bool} {xs:List A}:fAll S [.lst (xs.map fun x=>D.bl (f x))]=some (.bl (xs.all f)):=by
 show Option.map (fun bs=>D.bl (bs.all id)) (boolsOf (xs.map fun x=>D.bl (f x)))=_
 rw [boolsOf_map,Option.map_some,List.all_map]
 rfl
noncomputable def shal:D→Bool
 | .fz _=>false
 | .ref _=>false
 | .ty _=>false
 | .exc _=>false
 | .cls _=>false
 | _=>true
noncomputable def isI:D→Bool
 | .int _=>true
 | _=>false
theorem whole_eq {d:D} {S:Sto} (h:shal d=true):F_is_whole [d] S=.ok (.bl (isI d)) S:=by
 cases d <;> first | (cases h; done) | (simp [F_is_whole,fnM,m_is_whole,sRet,eAnd,eNot,eB,eVar,eC,aCons,aNil,R.bind,R.of,fIsi,tyD,isiTys,isI])
theorem lwhole_eq {d:D} {S:Sto} (h:shal d=true):F__law_whole [d] S=.ok (.bl (isI d)) S:=whole_eq h
noncomputable def Okay (d:D):Prop:=shal d=true∧∀ xs,d=.tup xs→(∀ x ∈ xs,shal x=true)∧xs.length≤1000
noncomputable def areP (n:Nat) (p:D→Bool):D→Bool
 | .tup xs=>decide (xs.length=n) && xs.all p
 | _=>false
theorem oNeP_i {S:Sto} {i j:Int}:oNeP S (.int i) (.int j)=some (.bl (!decide (i=j))):=rfl
theorem oEqP_i {S:Sto} {i j:Int}:oEqP S (.int i) (.int j)=some (.bl (decide (i=j))):=rfl
noncomputable def isT:D→Bool
 | .tup _=>true
 | _=>false
theorem isi_tup {d:D} {S:Sto} (h:shal d=true):fIsi S [d,.ty "tuple"]=some (.bl (isT d)):=by
 cases d <;> first | (cases h; done) | (simp [fIsi,tyD,isiTys,isT])
theorem whole_comp {W:FM} (hW:∀ (d:D) (S:Sto),shal d=true→W [d] S=.ok (.bl (isI d)) S) {xs:List D} {i:Nat} {r:Rho} {S:Sto} (hr:r[i]?=some (some (.tup xs))) (hs:∀ x ∈ xs,shal x=true) (hl:xs.length≤1000):
  eB fAll (aCons (eComp (aSeq (eVar i) itSeq) 1 [] (.nm 0) tTrue (eCall W (aCons (eVar 0) aNil))) aNil) r S=.ok (.bl (xs.all isI)) S:=by
 have hc:eComp (aSeq (eVar i) itSeq) 1 [] (.nm 0) tTrue (eCall W (aCons (eVar 0) aNil)) r S=.ok (.lst (xs.map fun x=>D.bl (isI x))) S:=
  eComp_map (enc:=fun x=>x) xs (by rw [List.map_id']; exact it_var hr rfl) (Nat.le_trans hl (by decide)) rfl fun x hx=>by
   rw [eCall_go (aCons_go (eVar_go rfl) rfl)]
   exact hW x S (hs x hx)
 exact eB_go (aCons_go hc rfl) fAll_map
theorem arew_eq {d:D} {n:Nat} {S:Sto} (h:Okay d):F_are_whole [d,.int n] S=.ok (.bl (areP n isI d)) S:=by
 have hi:eB fIsi (aCons (eVar 0) (aCons (eC (.ty "tuple")) aNil)) [some d,some (.int n)] S=.ok (.bl (isT d)) S:=eB_go (aCons_go (eVar_go rfl) (aCons_go rfl rfl)) (isi_tup h.1)
 refine fnM_rt (ρ:=[some d,some (.int n)]) rfl (sRet_go ?_)
 cases d with
 | tup xs=>
  obtain ⟨hs,hl⟩:=h.2 xs rfl
  rw [eAnd_t hi]
  have he:eOp oEqP (eB fLen (aCons (eVar 0) aNil)) (eVar 1) [some (.tup xs),some (.int n)] S=.ok (.bl (decide ((xs.length:Int)=n))) S:=eOp_go (eB_go (z:=.int xs.length) (aCons_go (eVar_go rfl) rfl) rfl) (eVar_go rfl) oEqP_i
  by_cases hn:xs.length=n
  ·rw [decide_eq_true (by omega)] at he
   rw [eAnd_t he,whole_comp (fun d S h=>whole_eq h) rfl hs hl]
   simp [areP,hn]
  ·rw [decide_eq_false (by omega)] at he
   rw [eAnd_f he]
   simp [areP,hn]
 | _=>exact eAnd_f hi
theorem tNx_ok {a:TM} {r:Rho} {S S1:Sto} {b:Bool} (h:a r S=.ok b S1):tNx a r S=.ok b S1:=by unfold tNx; rw [h]; rfl
theorem eNx_ok {a:EM} {r:Rho} {S S1:Sto} {b:D} (h:a r S=.ok b S1):eNx a r S=.ok b S1:=by unfold eNx; rw [h]; rfl
theorem sNx_ok {a:SM} {r:Rho} {S S1:Sto} {b:PD.F} (h:a r S=.ok b S1):sNx a r S=.ok b S1:=by unfold sNx; rw [h]; rfl
theorem sSeq_err {a b:SM} {r:Rho} {S S1:Sto} {x:XD} (h:a r S=.err x S1):sSeq a b r S=.err x S1:=by unfold sSeq; rw [h]; rfl
theorem sDrop_err {a:EM} {r:Rho} {S S1:Sto} {x:XD} (h:a r S=.err x S1):sDrop a r S=.err x S1:=by unfold sDrop; rw [h]; rfl
theorem sRet_err {a:EM} {r:Rho} {S S1:Sto} {x:XD} (h:a r S=.err x S1):sRet a r S=.err x S1:=by unfold sRet; rw [h]; rfl
theorem fnM_err {n:Nat} {b:SM} {ds:List D} {ρ:Rho} {S S1:Sto} {x:XD} (hρ:ds.map some ++ List.replicate (n - ds.length) none = ρ) (h:b ρ S=.err x S1):fnM n b ds S=.err x S1:=by unfold fnM; rw [hρ,h]; rfl
theorem sRaise_go {c:Str} {t:AM} {r:Rho} {S S1:Sto} {xs:List D} (h:t r S=.ok xs S1) (hl:xs.length≤sizeLine):sRaise c t r S=.err ⟨c,.tup xs⟩ S1:=by unfold sRaise; rw [h,R.bind_ok,if_pos hl]
theorem eUn_go {f:Sto→D→Option D} {a:EM} {r:Rho} {S S1:Sto} {x z:D} (h:a r S=.ok x S1) (hf:f S1 x=some z):eUn f a r S=.ok z S1:=by unfold eUn; rw [h,R.bind_ok,hf]; rfl
theorem z1:(1:Nat)≤sizeLine:=by decide
theorem oAdd_t {S:Sto} {a b:List D} (h:a.length + b.length≤sizeLine):oAdd S (.tup a) (.tup b)=some (.tup (a ++ b)):=if_pos h
theorem oAdd_l {S:Sto} {a b:List D} (h:a.length + b.length≤sizeLine):oAdd S (.lst a) (.lst b)=some (.lst (a ++ b)):=if_pos h
theorem sl_go {a:EM} {lo hi:OM} {r:Rho} {S S1 S2 S3:Sto} {x d:D} {l u:Option Int} (h1:a r S=.ok x S1) (h2:lo r S1=.ok l S2) (h3:hi r S2=.ok u S3) (h4:fSlT S3 x l u=some d):eSl fSlT a lo hi r S=.ok d S3:=by
 unfold eSl
 rw [h1,R.bind_ok,h2,R.bind_ok,h3,R.bind_ok,h4]; rfl
theorem oPart_go {a:EM} {r:Rho} {S S1:Sto} {i:Int} (h:a r S=.ok (.int i) S1):oPart a r S=.ok (some i) S1:=by unfold oPart; rw [h,R.bind_ok]
theorem sAsg_go {g:PD.G} {a:EM} {r r1:Rho} {S S1:Sto} {d:D} (h:a r S=.ok d S1) (hp:g.put d r=some r1):sAsg g a r S=.ok (.nx r1) S1:=by unfold sAsg; rw [h,R.bind_ok,hp]
noncomputable def okN (x:Int):Prop:=1≤x∧x < 1000000000000000
theorem append_go {S:Sto} {f:Nat} {xs:List D} {v:D} (h:S[f]?=some (.lst xs)) (hl:xs.length < sizeLine):mAppend S (.ref f) [v]=.ok .non (S.set f (.lst (xs ++ [v]))):=by
 unfold mAppend
 simp only [h,if_pos hl]
theorem isL_ref {S:Sto} {f:Nat} {xs:List D} (h:S[f]?=some (.lst xs)):isL S (.ref f)=true:=by
 unfold isL
 simp only [h]
noncomputable abbrev rowB:SM:=(sSeq (sSet 7 (eOp oAdd (eC (.int 1)) (eCall F__law_take (aCons (eVar 0) (aCons (eC (.int 12)) aNil))))) (sDrop (eMtL mAppend (eVar 5) (aCons (eOp oIx (eLst (aCons (eVar 7) (aCons (eVar 7) (aCons (eVar 4) (aCons (eOp oShl (eC (.int 1)) (eVar 6)) (aCons (eOp oAdd (eVar 4) (eOp oMul (eVar 6) (eVar 7))) (aCons (eOp oAdd (eOp oMul (eOp oPow (eC (.int 10)) (eC (.int 12))) (eVar 7)) (eVar 4)) aNil))))))) (eVar 3)) aNil))))
theorem row_turn {S0 S:Sto} {b f i:Nat} {kind base:Int} {xs:List Int} {r1 r2 r7:Option D} (hi:i < 16) (hk:0≤kind∧kind < 6) (hb:1≤base∧base < 10) (g:Gr b S0 S) (hf:S[f]?=some (.lst (xs.map .int))) (hfb:f ≠ b) (hf0:S0.length≤f) (hl:xs.length < 1000):
  ∃ (y:Int) (S':Sto) (r7':Option D),rowB [some (.ref b),r1,r2,some (.int kind),some (.int base),some (.ref f),some (.int i),r7] S=.ok (.nx [some (.ref b),r1,r2,some (.int kind),some (.int base),some (.ref f),some (.int i),r7']) S'∧
   okN y∧S'[f]?=some (.lst ((xs ++ [y]).map .int))∧Gr b S0 S':=by
 obtain ⟨q,S1,e1,q0,q1,g1⟩:=take_ok g.self (many:=12) (by decide) (by decide)
 have hfl:f < S.length:=(List.getElem?_eq_some_iff.mp hf).1
 have hf1:S1[f]?=some (.lst (xs.map .int)):=by rw [g1.oth f hfb hfl]; exact hf
 have hfl1:f < S1.length:=(List.getElem?_eq_some_iff.mp hf1).1
 generalize hG:(1:Int) + q=G
 have hG0:1≤G∧G≤12:=by omega
 have sG:smallI G:=⟨by omega,by omega⟩
 have sI:smallI (i:Int):=⟨by omega,by omega⟩
 have m1:(i:Int) * G≤15 * 12:=Int.mul_le_mul (by omega) hG0.2 (by omega) (by omega)
 have m1':0≤(i:Int) * G:=Int.mul_nonneg (by omega) (by omega)
 have m4:(2:Int) ^ i≤32768:=by
  have h:=Nat.pow_le_pow_right (n:=2) (by decide) (show i≤15 by omega)
  have h':((2 ^ i:Nat):Int)≤((2 ^ 15:Nat):Int):=by exact_mod_cast h
  simpa using h'
 have m4':1≤(2:Int) ^ i:=by
  have h:=Nat.one_le_two_pow (n:=i)
  have h':(1:Int)≤((2 ^ i:Nat):Int):=by exact_mod_cast h
  simpa using h'
 have z6:(6:Nat)≤sizeLine:=by decide
 have hix:∃ y:Int,okN y∧atI [D.int G,D.int G,D.int base,D.int (2 ^ i),D.int (base + (i:Int) * G),D.int (1000000000000 * G + base)] kind=some (.int y):=by
  have h:kind=0 ∨ kind=1 ∨ kind=2 ∨ kind=3 ∨ kind=4 ∨ kind=5:=by omega
  rcases h with h | h | h | h | h | h <;> subst h
  ·exact ⟨_,⟨by omega,by omega⟩,rfl⟩
  ·exact ⟨_,⟨by omega,by omega⟩,rfl⟩
  ·exact ⟨_,⟨by omega,by omega⟩,rfl⟩
  ·exact ⟨_,⟨m4',by omega⟩,rfl⟩
  ·exact ⟨_,⟨by omega,by omega⟩,rfl⟩
  ·exact ⟨_,⟨by omega,by omega⟩,rfl⟩
 obtain ⟨y,hy,hix⟩:=hix
 obtain ⟨n,hn⟩:=g1.bx
 have g01:=g.trans g1
 refine ⟨y,S1.set f (.lst (xs.map .int ++ [.int y])),some (.int G),?_,hy,by rw [List.map_append]; simp [hfl1],⟨n,by rw [List.getElem?_set_ne hfb]; exact hn⟩,fun j hj hl=>?_,by simp; exact g01.len⟩
 ·have hG1:eOp oAdd (eC (.int 1)) (eCall F__law_take (aCons (eVar 0) (aCons (eC (.int 12)) aNil))) [some (.ref b),r1,r2,some (.int kind),some (.int base),some (.ref f),some (.int i),r7] S=.ok (.int G) S1:=eOp_go rfl ((eCall_go (aCons_go (eVar_go rfl) (aCons_go rfl rfl))).trans e1) (congrArg (fun z=>some (D.int z)) hG)
  have hL:(eLst (aCons (eVar 7) (aCons (eVar 7) (aCons (eVar 4) (aCons (eOp oShl (eC (.int 1)) (eVar 6)) (aCons (eOp oAdd (eVar 4) (eOp oMul (eVar 6) (eVar 7))) (aCons (eOp oAdd (eOp oMul (eOp oPow (eC (.int 10)) (eC (.int 12))) (eVar 7)) (eVar 4)) aNil))))))) [some (.ref b),r1,r2,some (.int kind),some (.int base),some (.ref f),some (.int i),some (.int G)] S1=.ok (.lst [D.int G,D.int G,D.int base,D.int (2 ^ i),D.int (base + (i:Int) * G),D.int (1000000000000 * G + base)]) S1:=
   eLst_go (aCons_go (eVar_go rfl) (aCons_go (eVar_go rfl) (aCons_go (eVar_go rfl) (aCons_go (eOp_go rfl (eVar_go rfl) (oShl_i (by omega))) (aCons_go (eOp_go (eVar_go rfl) (eOp_go (eVar_go rfl) (eVar_go rfl) (oMul_i (.inl sI))) rfl) (aCons_go (eOp_go (eOp_go (eOp_go rfl rfl oPow_10_12) (eVar_go rfl) (oMul_i (.inr sG))) (eVar_go rfl) rfl) rfl)))))) z6
  exact (sSeq_go (sSet_go hG1)).trans (sDrop_go ((eMtL_go (eVar_go rfl) (isL_ref hf1) (aCons_go (eOp_go hL (eVar_go rfl) hix) rfl)).trans (append_go hf1 (by rw [List.length_map]; exact Nat.lt_trans hl (by decide)))))
 ·rw [List.getElem?_set_ne (by omega)]
  exact g01.oth j hj hl
theorem row_loop {S0:Sto} {b f:Nat} {kind base:Int} {r1 r2:Option D} (hk:0≤kind∧kind < 6) (hb:1≤base∧base < 10) (hfb:f ≠ b) (hf0:S0.length≤f):∀ (l:List Nat) (S:Sto) (xs:List Int) (r6 r7:Option D),(∀ i ∈ l,i < 16)→Gr b S0 S→S[f]?=some (.lst (xs.map .int))→xs.length + l.length < 1000→(∀ x ∈ xs,okN x)→
  ∃ (ys:List Int) (S':Sto) (r6' r7':Option D),forL (.nm 6) rowB (l.map fun (i:Nat)=>D.int i) [some (.ref b),r1,r2,some (.int kind),some (.int base),some (.ref f),r6,r7] S=.ok (.nx [some (.ref b),r1,r2,some (.int kind),some (.int base),some (.ref f),r6',r7']) S'∧
   ys.length=xs.length + l.length∧(∀ y ∈ ys,okN y)∧S'[f]?=some (.lst (ys.map .int))∧Gr b S0 S'
 | [],S,xs,r6,r7,_,g,hf,_,hx=>⟨xs,S,r6,r7,rfl,rfl,hx,hf,g⟩
 | i :: l,S,xs,r6,r7,hl,g,hf,hz,hx=>by
  rw [List.length_cons] at hz
  obtain ⟨y,S1,r7',e,hy,hf1,g1⟩:=row_turn (r1:=r1) (r2:=r2) (r7:=r7) (hl i List.mem_cons_self) hk hb g hf hfb hf0 (by omega)
  obtain ⟨ys,S2,a6,a7,e2,h1,h2,h3,h4⟩:=row_loop hk hb hfb hf0 l S1 (xs ++ [y]) (some (.int i)) r7' (fun j hj=>hl j (List.mem_cons_of_mem _ hj)) g1 hf1 (by rw [List.length_append,List.length_cons,List.length_nil]; omega) (fun x h=>by
   rcases List.mem_append.mp h with h | h
   ·exact hx x h
   ·rw [List.mem_singleton.mp h]; exact hy)
  exact ⟨ys,S2,a6,a7,(forL_cons (r1:=[some (.ref b),r1,r2,some (.int kind),some (.int base),some (.ref f),some (.int i),r7]) rfl e).trans e2,by rw [h1,List.length_append,List.length_cons,List.length_nil,List.length_cons]; omega,h2,h3,h4⟩
theorem row_ok {S:Sto} {b:Nat} {most:Int} (g:Gr b S S) (hm:0≤most∧most≤16):∃ (xs:List Int) (S':Sto),F__law_row [.ref b,.int most] S=.ok (.tup (xs.map .int)) S'∧(xs.length:Int)≤most∧(∀ x ∈ xs,okN x)∧Gr b S S':=by
 obtain ⟨many,S1,e1,a0,a1,g1⟩:=take_ok g (many:=most + 1) (by omega) (by omega)
 obtain ⟨kind,S2,e2,b0,b1,g2⟩:=take_ok g1.self (many:=6) (by decide) (by decide)
 obtain ⟨bs,S3,e3,c0,c1,g3⟩:=take_ok g2.self (many:=9) (by decide) (by decide)
 have gs:=(g1.trans g2).trans g3
 obtain ⟨n0,hn0⟩:=gs.bx
 have hb3:b < S3.length:=(List.getElem?_eq_some_iff.mp hn0).1
 obtain ⟨ys,S4,r6,r7,e4,h1,h2,h3,h4⟩:=row_loop (S0:=S) (b:=b) (f:=S3.length) (kind:=kind) (base:=1 + bs) (r1:=some (.int most)) (r2:=some (.int many)) ⟨b0,b1⟩ ⟨by omega,by omega⟩ (by omega) gs.len (List.range many.toNat) (S3 ++ [.lst []]) [] none none (fun i hi=>by have:=List.mem_range.mp hi; omega) (gs.more _) (by simp) (by simp; omega) (fun x h=>nomatch h)
 refine ⟨ys,S4,?_,by rw [h1]; simp; omega,h2,h4⟩
 have z0:(0:Nat)≤sizeLine:=Nat.zero_le _
 have hN:eNew aNil [some (.ref b),some (.int most),some (.int many),some (.int kind),some (.int (1 + bs)),none,none,none] S3=.ok (.ref S3.length) (S3 ++ [.lst []]):=by
  unfold eNew
  show (if 0≤sizeLine then R.ok (D.ref S3.length) (S3 ++ [SO.lst []]) else R.bad)=_
  exact if_pos z0
 have ht:fTuple S4 [.ref S3.length]=some (.tup (ys.map .int)):=by
  show (seqOf S4 (.ref S3.length)).map D.tup=_
  unfold seqOf
  simp only [h3,Option.map_some]
 exact fnM_rt (ρ:=[some (.ref b),some (.int most),none,none,none,none,none,none]) rfl ((sSeq_go (sSet_go ((eCall_go (aCons_go (eVar_go rfl) (aCons_go (eOp_go (eVar_go rfl) rfl rfl) rfl))).trans e1))).trans ((sSeq_go (sSet_go ((eCall_go (aCons_go (eVar_go rfl) (aCons_go rfl rfl))).trans e2))).trans ((sSeq_go (sSet_go (eOp_go rfl ((eCall_go (aCons_go (eVar_go rfl) (aCons_go rfl rfl))).trans e3) rfl))).trans ((sSeq_go (sSet_go hN)).trans ((sSeq_go ((sFor_go (aRange1_int (aCons_go (eVar_go rfl) rfl) a0 (by omega))).trans e4)).trans (sRet_go (eB_go (aCons_go (eVar_go rfl) rfl) ht)))))))
theorem pow_29 {S:Sto}:oPow S (.int 10) (.int 29)=some (.int 100000000000000000000000000000):=by
 rw [oPow_i ⟨by decide,by decide,by decide⟩]
 have e:(10:Int) ^ (29:Int).toNat=100000000000000000000000000000:=by decide
 rw [e]
noncomputable abbrev oddL:List D:=[.non,.bl true,.bl false,.int (-1),.int 2,.str "",.str "1",.tup [.int 0],.lst [.int 1],.dic [(.inr "a",.int 1)],.tup [.int (-1)],.tup [.bl true],.tup [.tup [.int 1]],.tup [.non],
 .int 100000000000000000000000000000,.lst []]
theorem dodd_ok {S:Sto} {b:Nat} (g:Gr b S S):∃ (d:D) (S':Sto),F__law_odd [.ref b] S=.ok d S'∧d ∈ oddL∧Gr b S S':=by
 obtain ⟨q,S',e,q0,q1,g'⟩:=take_ok g (many:=16) (by decide) (by decide)
 obtain ⟨n,rfl⟩:∃ n:Nat,q=n:=⟨q.toNat,by omega⟩
 have hn:n < oddL.length:=by show n < 16; omega
 refine ⟨oddL[n],S',?_,List.getElem_mem hn,g'⟩
 have hix:atI oddL (n:Int)=some oddL[n]:=atI_nat' hn
 have h16:(16:Nat)≤sizeLine:=by decide
 have h1:(1:Nat)≤sizeLine:=by decide
 have h0:(0:Nat)≤sizeLine:=by decide
 have h15:(1:Nat)≤15:=by decide
 simp only [F__law_odd,fnM,m__law_odd,sSeq,sSet,sRet,eLst,eTup,eDic,pM,keysD,keyD,mergeD,List.foldl,putD,eUn,oNeg,eOp,eCall,eVar,eC,aCons,aNil,R.bind,R.of,pow_29,oAdd,List.map_cons,List.map_nil,List.length_cons,List.length_nil,List.replicate,List.cons_append,List.nil_append,Nat.reduceAdd,Nat.reduceSub,List.getElem?_cons_zero,List.getElem?_cons_succ,List.set_cons_zero,List.set_cons_succ,h16,h1,h0,h15,if_true,List.any_nil,Bool.false_eq_true,if_false,e]
 have hix2:oIx S' (D.lst oddL) (D.int (n:Int))=some oddL[n]:=hix
 rw [hix2]
noncomputable abbrev sgE:EM:=(eOp oSub (eOp oMul (eC (.int 2)) (eCall F__law_take (aCons (eVar 1) (aCons (eC (.int 2)) aNil)))) (eC (.int 1)))
theorem sg_loop {b:Nat}:∀ (l:List Nat) (S:Sto) (r0:Option D),Gr b S S→∃ (ss:List Int) (S':Sto),compL (.nm 0) tTrue sgE (l.map fun (i:Nat)=>D.int i) [r0,some (.ref b)] S=.ok (ss.map .int) S'∧ss.length=l.length∧(∀ s ∈ ss,s=1 ∨ s = -1)∧Gr b S S'
 | [],S,r0,g=>⟨[],S,rfl,rfl,fun s h=>(by cases h),g⟩
 | i :: l,S,r0,g=>by
  obtain ⟨q,S1,e1,q0,q1,g1⟩:=take_ok g (many:=2) (by decide) (by decide)
  obtain ⟨ss,S2,e2,h1,h2,g2⟩:=sg_loop l S1 (some (.int i)) g1.self
  refine ⟨(2 * q - 1) :: ss,S2,?_,by rw [List.length_cons,List.length_cons,h1],fun s hs=>?_,g1.trans g2⟩
  ·have he:sgE [some (.int i),some (.ref b)] S=.ok (.int (2 * q - 1)) S1:=eOp_go (eOp_go rfl ((eCall_go (aCons_go (eVar_go rfl) (aCons_go rfl rfl))).trans e1) (oMul_i (.inl (by decide)))) rfl rfl
   rw [List.map_cons,compL]
   simp only [G.put,List.set_cons_zero,tTrue,R.bind_ok,if_true,he,e2,List.map_cons]
  ·rcases List.mem_cons.mp hs with rfl | hs
   ·omega
   ·exact h2 s hs
theorem signs_ok {S:Sto} {b n:Nat} (g:Gr b S S) (hn:n≤100):∃ (ss:List Int) (S':Sto),F__law_signs [.ref b,.int n] S=.ok (.tup (ss.map .int)) S'∧ss.length=n∧(∀ s ∈ ss,s=1 ∨ s = -1)∧Gr b S S':=by
 obtain ⟨ss,S',e,h1,h2,g'⟩:=sg_loop (List.range n) S none g
 rw [List.length_range] at h1
 refine ⟨ss,S',?_,h1,h2,g'⟩
 have z:(100:Nat)≤sizeLine:=by decide
 have hr:aRange1 (aCons (eVar 1) aNil) [some (.ref b),some (.int n)] S=.ok ((List.range n).map fun (i:Nat)=>D.int i) S:=aRange1_ok (aCons_go (eVar_go rfl) rfl) (by omega)
 have hc:eComp (aRange1 (aCons (eVar 1) aNil)) 1 [0] (.nm 0) tTrue sgE [some (.ref b),some (.int n)] S=.ok (.lst (ss.map .int)) S':=by
  unfold eComp
  rw [hr,R.bind_ok,if_pos (by rw [List.length_map,List.length_range]; omega)]
  have:capOf 1 [0] [some (D.ref b),some (.int n)]=[none,some (.ref b)]:=rfl
  rw [this,e,R.bind_ok]
 exact fnM_rt (ρ:=[some (.ref b),some (.int n)]) rfl (sRet_go (eB_go (aCons_go hc rfl) rfl))
noncomputable def rowOk:D→Bool
 | .int i=>decide (1≤i)
 | _=>false
theorem comp_bool {e:EM} {f:D→Bool} {tl:Rho}:∀ (xs:List D) (r0:Option D) (S:Sto),(∀ x ∈ xs,e (some x :: tl) S=.ok (.bl (f x)) S)→compL (.nm 0) tTrue e xs (r0 :: tl) S=.ok (xs.map fun x=>D.bl (f x)) S
 | [],_,_,_=>rfl
 | x :: xs,r0,S,h=>by
  have h1:=h x List.mem_cons_self
  have h2:=comp_bool xs (some x) S fun y hy=>h y (List.mem_cons_of_mem _ hy)
  rw [compL]
  simp only [G.put,List.set_cons_zero,tTrue,R.bind_ok,if_true,h1,h2,List.map_cons]
noncomputable def isRow:D→Bool
 | .tup xs=>decide (xs.length≤16) && xs.all rowOk
 | _=>false
theorem row_el {x:D} {S:Sto} (h:shal x=true):(eAnd (eCall F_is_whole (aCons (eVar 0) aNil)) (eOp oGe (eVar 0) (eC (.int 1)))) [some x] S=.ok (.bl (rowOk x)) S:=by
 have:=whole_eq (S:=S) h
 cases x <;> first | (cases h; done) | (simp [eAnd,eCall,eOp,eVar,eC,aCons,aNil,R.bind,R.of,this,isI,rowOk,oCmp])
theorem isrow_eq {d:D} {S:Sto} (h:Okay d):F_is_row [d] S=.ok (.bl (isRow d)) S:=by
 cases d with
 | tup xs=>
  obtain ⟨hs,hl⟩:=h.2 xs rfl
  have hc:=comp_bool (tl:=[]) (f:=rowOk) xs none S fun x hx=>row_el (hs x hx)
  have z:xs.length≤sizeLine:=Nat.le_trans hl (by decide)
  by_cases h16:xs.length≤16
  ·have h16':¬ (16:Int) < (xs.length:Int):=by omega
   simp only [F_is_row,fnM,m_is_row,sSeq,sIf,sRet,sSkip,PD.tOr,PD.tNot,tV,eB,eComp,aSeq,itSeq,capOf,eOp,eVar,eC,aCons,aNil,R.bind,R.of,fIsi,tyD,fLen,seqOf,oCmp,fAll,List.map_cons,List.map_nil,List.length_cons,List.length_nil,List.replicate,List.cons_append,List.nil_append,List.append_nil,Nat.reduceAdd,Nat.reduceSub,List.getElem?_cons_zero,h16',decide_false,Bool.false_eq_true,if_false,z,if_true,hc,boolsOf_map,Option.map_some,isRow,h16,decide_true,Bool.true_and]
   simp [isiTys]
   simp [z,hc,boolsOf_map,fAll,R.of,R.bind,sRet,eB,aCons]
  ·have h16':(16:Int) < (xs.length:Int):=by omega
   simp [F_is_row,fnM,m_is_row,sSeq,sIf,sRet,sSkip,PD.tOr,PD.tNot,tV,eB,eOp,eVar,eC,aCons,aNil,R.bind,R.of,fIsi,tyD,fLen,seqOf,oCmp,isiTys,isRow,h16,h16']
 | _=>first | (cases h.1; done) | (simp [F_is_row,fnM,m_is_row,sSeq,sIf,sRet,sSkip,PD.tOr,PD.tNot,tV,eB,eOp,eVar,eC,aCons,aNil,R.bind,R.of,fIsi,tyD,isiTys,isRow])
noncomputable def Row (xs:List Int):Prop:=(∀ x ∈ xs,1≤x)∧xs.length≤16
theorem ints_okay {xs:List Int} (h:xs.length≤1000):Okay (.tup (xs.map .int)):=⟨rfl,fun ys e=>by
 cases e
 refine ⟨fun x hx=>?_,by rw [List.length_map]; exact h⟩
 obtain ⟨i,_,rfl⟩:=List.mem_map.mp hx
 rfl⟩
theorem Row.okay {xs:List Int} (h:Row xs):Okay (.tup (xs.map .int)):=ints_okay (by have:=h.2; omega)
theorem Row.is {xs:List Int} (h:Row xs):isRow (.tup (xs.map .int))=true:=by
 unfold isRow
 rw [Bool.and_eq_true]
 refine ⟨by rw [List.length_map]; exact decide_eq_true h.2,List.all_eq_true.mpr fun x hx=>?_⟩
 obtain ⟨i,hi,rfl⟩:=List.mem_map.mp hx
 exact decide_eq_true (h.1 i hi)
noncomputable def sgn:D→Bool
 | .int i=>decide (i=1 ∨ i = -1)
 | _=>false
noncomputable def Gd (d:D):Prop:=Okay d∧∀ xs,d=.tup xs→∀ i,D.int i ∈ xs→smallI i
theorem sgn_isI {x:D} (h:sgn x=true):isI x=true:=by cases x <;> first | rfl | cases h
theorem sgn_no {d:D} {n:Nat} (h:areP n isI d=false):areP n sgn d=false:=by
 cases d with
 | tup xs=>
  have h':(decide (xs.length=n) && xs.all isI)=false:=h
  show (decide (xs.length=n) && xs.all sgn)=false
  by_cases hn:xs.length=n
  ·rw [decide_eq_true hn,Bool.true_and] at h' ⊢
   cases ha:xs.all sgn with
   | false=>rfl
   | true=>
    rw [List.all_eq_true] at ha
    have:xs.all isI=true:=List.all_eq_true.mpr fun x hx=>sgn_isI (ha x hx)
    rw [this] at h'
    cases h'
  ·rw [decide_eq_false hn,Bool.false_and]
 | _=>rfl
theorem many_eq {d:D} {n:Nat} {S:Sto} (h:Okay d):F_are_so_many_signs [d,.int n] S=.ok (.bl (areP n sgn d)) S:=by
 have e:=arew_eq (n:=n) (S:=S) h
 refine fnM_rt (ρ:=[some d,some (.int n)]) rfl (sRet_go ?_)
 cases hb:areP n isI d with
 | false=>
  rw [hb] at e
  rw [sgn_no hb]
  exact eAnd_f ((eCall_go (aCons_go (eVar_go rfl) (aCons_go (eVar_go rfl) rfl))).trans e)
 | true=>
  rw [hb] at e
  rw [eAnd_t ((eCall_go (aCons_go (eVar_go rfl) (aCons_go (eVar_go rfl) rfl))).trans e)]
  cases d with
  | tup xs=>
   have hh:(decide (xs.length=n) && xs.all isI)=true:=hb
   obtain ⟨h1,h2⟩:=Bool.and_eq_true_iff.mp hh
   have hc:eComp (aSeq (eVar 0) itSeq) 1 [] (.nm 0) tTrue (eOp oEqP (eB fAbs (aCons (eVar 0) aNil)) (eC (.int 1))) [some (.tup xs),some (.int n)] S=.ok (.lst (xs.map fun x=>D.bl (sgn x))) S:=
    eComp_map (enc:=fun x=>x) xs (by rw [List.map_id']; exact it_var rfl rfl) (Nat.le_trans (h.2 xs rfl).2 (by decide)) rfl fun x hx=>by
     have hi:=List.all_eq_true.mp h2 x hx
     cases x with
     | int i=>
      have ha:fAbs S [.int i]=some (.int (if i < 0 then -i else i)):=rfl
      refine (eOp_go (eB_go (aCons_go (eVar_go rfl) rfl) ha) rfl oEqP_i).trans ?_
      have:decide ((if i < 0 then -i else i)=1)=decide (i=1 ∨ i = -1):=by
       rw [decide_eq_decide]
       split <;> omega
      rw [this]
      rfl
     | _=>cases hi
   refine (eB_go (aCons_go hc rfl) fAll_map).trans ?_
   show R.ok (D.bl (xs.all sgn)) S=R.ok (D.bl (decide (xs.length=n) && xs.all sgn)) S
   rw [h1,Bool.true_and]
  | _=>cases hb
theorem fmt16:∀ n:Fin 17,fOk "signs are here a tuple of 1 or -1, " (n.val:Int) " of them" = true:=by decide +kernel
theorem fmt_n {n:Nat} (h:n≤16) (S:Sto):∃ t,oFmt "signs are here a tuple of 1 or -1, " " of them" true S (.int n)=some (.str t):=by
 have c:=fmt16 ⟨n,by omega⟩
 refine ⟨fst1 "signs are here a tuple of 1 or -1, " n ++ " of them",?_⟩
 unfold oFmt
 dsimp only
 rw [if_pos c]
 rfl
theorem needs_no {d:D} {n:Nat} (hn:n≤16) (h:Okay d) (hb:areP n sgn d=false) (S:Sto):∃ a,F_need_so_many_signs [d,.int n] S=.err ⟨"NoSigns",a⟩ S:=by
 obtain ⟨t,ht⟩:=fmt_n hn S
 have e:=many_eq (n:=n) (S:=S) h
 rw [hb] at e
 exact ⟨_,fnM_err (ρ:=[some d,some (.int n)]) rfl ((sIf_t (tNx_ok (tNot_go (tV_go ((eCall_go (aCons_go (eVar_go rfl) (aCons_go (eVar_go rfl) rfl))).trans e))))).trans (sRaise_go (aCons_go (eNx_ok (eUn_go (eVar_go rfl) ht)) rfl) z1))⟩
theorem needs_ok {d:D} {n:Nat} (h:Okay d) (hb:areP n sgn d=true) (S:Sto):F_need_so_many_signs [d,.int n] S=.ok .non S:=by
 have e:=many_eq (n:=n) (S:=S) h
 rw [hb] at e
 exact fnM_nx (ρ:=[some d,some (.int n)]) rfl ((sIf_f (tNx_ok (tNot_go (tV_go ((eCall_go (aCons_go (eVar_go rfl) (aCons_go (eVar_go rfl) rfl))).trans e))))).trans rfl)
theorem needr_ok {xs:List Int} (h:Row xs) (S:Sto):F_need_row [.tup (xs.map .int)] S=.ok .non S:=by
 have e:=isrow_eq (S:=S) h.okay
 rw [h.is] at e
 exact fnM_nx (ρ:=[some (.tup (xs.map .int))]) rfl ((sIf_f (tNx_ok (tNot_go (tV_go ((eCall_go (aCons_go (eVar_go rfl) rfl)).trans e))))).trans rfl)
theorem needrn_ok {xs:List Int} (h:Row xs) (S:Sto):F_need_row_n [.tup (xs.map .int)] S=.ok .non S:=by
 have e:=isrow_eq (S:=S) h.okay
 rw [h.is] at e
 exact fnM_nx (ρ:=[some (.tup (xs.map .int))]) rfl ((sIf_f (tNot_go (tV_go ((eCall_go (aCons_go (eVar_go rfl) rfl)).trans e)))).trans rfl)
theorem said_signs (S:Sto):sRet (eOp oAdd (eLst (aCons (eC (.str "refused")) aNil)) (eComp (aRange1 (aCons (eC (.int 9)) aNil)) 1 [2] (.nm 0) (tV (eCall F__law_only (aCons (eVar 1) (aCons (eVar 0) aNil)))) (eVar 0))) [none,none,some (.exc "NoSigns")] S=.ok (.rt (.lst [.str "refused",.int 2])) S:=by kernel_rfl
theorem raisedS:raisedX.contains "NoSigns" = true:=by decide +kernel
theorem len_t {S:Sto} (xs:List Int):fLen S [.tup (xs.map .int)]=some (.int xs.length):=by
 show some (D.int ((xs.map D.int).length:Int))=_
 rw [List.length_map]
theorem said_bad {xs:List Int} (hx:Row xs) {d:D} (h:Okay d) (hb:areP xs.length sgn d=false) (S:Sto):F__law_said [.tup (xs.map .int),d] S=.ok (.lst [.str "refused",.int 2]) S:=by
 obtain ⟨a,e⟩:=needs_no hx.2 h hb S
 have ew:F_swing [.tup (xs.map .int),d] S=.err ⟨"NoSigns",a⟩ S:=fnM_err (ρ:=[some (.tup (xs.map .int)),some d,none,none,none,none]) rfl ((sSeq_go (sDrop_go ((eCall_go (aCons_go (eVar_go rfl) rfl)).trans (needr_ok hx S)))).trans (sSeq_err (sDrop_err ((eCall_go (aCons_go (eVar_go rfl) (aCons_go (eNx_ok (eB_go (aCons_go (eVar_go rfl) rfl) (len_t xs))) rfl))).trans e))))
 refine fnM_rt (ρ:=[some (.tup (xs.map .int)),some d,none]) rfl ?_
 show sTry raisedX 2 3 (sRet (eCall F_swing (aCons (eVar 0) (aCons (eVar 1) aNil)))) _ _ _=_
 unfold sTry
 rw [sRet_err ((eCall_go (aCons_go (eVar_go rfl) (aCons_go (eVar_go rfl) rfl))).trans ew)]
 show (if raisedX.contains "NoSigns" = true then _ else _)=_
 rw [if_pos raisedS]
 show ((sRet _ [none,none,some (.exc "NoSigns")] S).nx.bind _)=_
 rw [said_signs S]; rfl
noncomputable def mx (g h:Int):Int:=if (if h < 0 then -h else h) > g then (if h < 0 then -h else h) else g
noncomputable def swg:List (Int × Int)→Int→Int→Int
 | [],_,g=>g
 | z :: zs,a,g=>swg zs (a + z.1 * z.2) (mx g (a + z.1 * z.2))
theorem mx3 (g h:Int):(let m:=if h > g then h else g; if 0 - h > m then 0 - h else m)=mx g h:=by
 unfold mx
 dsimp only
 split <;> split <;> split <;> first | omega | (split <;> omega)
noncomputable abbrev swB:SM:=(sSeq (sSet 2 (eOp oAdd (eVar 2) (eOp oMul (eVar 5) (eVar 4)))) (sSet 3 (eB fMax (aCons (eVar 3) (aCons (eB fAbs (aCons (eVar 2) aNil)) aNil)))))
noncomputable abbrev swL:SM:=(sSeq (sSet 2 (eOp oAdd (eVar 2) (eOp oMul (eVar 4) (eVar 5)))) (sSet 3 (eB fMax3 (aCons (eVar 3) (aCons (eVar 2) (aCons (eOp oSub (eC (.int 0)) (eVar 2)) aNil))))))
theorem sw_loop (r0 r1:Option D) (S:Sto):∀ (zs:List (Int × Int)) (a g:Int) (r4 r5:Option D),(∀ z ∈ zs,smallI z.2)→∃ (a':Int) (b4 b5:Option D),forL (.tp [.nm 4,.nm 5]) swB (zs.map fun z=>D.tup [.int z.1,.int z.2]) [r0,r1,some (.int a),some (.int g),r4,r5] S=.ok (.nx [r0,r1,some (.int a'),some (.int (swg zs a g)),b4,b5]) S
 | [],a,g,r4,r5,_=>⟨a,r4,r5,rfl⟩
 | z :: zs,a,g,r4,r5,h=>by
  obtain ⟨a',b4,b5,e⟩:=sw_loop r0 r1 S zs (a + z.1 * z.2) (mx g (a + z.1 * z.2)) (some (.int z.1)) (some (.int z.2)) fun y hy=>h y (.tail _ hy)
  have hm:oMul S (.int z.2) (.int z.1)=some (.int (z.1 * z.2)):=by rw [oMul_i (.inl (h z (.head _))),Int.mul_comm]
  exact ⟨a',b4,b5,(forL_cons (r1:=[r0,r1,some (.int a),some (.int g),some (.int z.1),some (.int z.2)]) rfl ((sSeq_go (sSet_go (eOp_go (eVar_go rfl) (eOp_go (eVar_go rfl) (eVar_go rfl) hm) rfl))).trans (sSet_go (eB_go (z:=.int (mx g (a + z.1 * z.2))) (aCons_go (eVar_go rfl) (aCons_go (eB_go (aCons_go (eVar_go rfl) rfl) rfl) rfl)) rfl)))).trans e⟩
theorem swl_loop (r0 r1:Option D) (S:Sto):∀ (zs:List (Int × Int)) (a g:Int) (r4 r5:Option D),(∀ z ∈ zs,smallI z.2)→∃ (a':Int) (b4 b5:Option D),forL (.tp [.nm 4,.nm 5]) swL (zs.map fun z=>D.tup [.int z.1,.int z.2]) [r0,r1,some (.int a),some (.int g),r4,r5] S=.ok (.nx [r0,r1,some (.int a'),some (.int (swg zs a g)),b4,b5]) S
 | [],a,g,r4,r5,_=>⟨a,r4,r5,rfl⟩
 | z :: zs,a,g,r4,r5,h=>by
  obtain ⟨a',b4,b5,e⟩:=swl_loop r0 r1 S zs (a + z.1 * z.2) (mx g (a + z.1 * z.2)) (some (.int z.1)) (some (.int z.2)) fun y hy=>h y (.tail _ hy)
  have hq:fMax3 S [.int g,.int (a + z.1 * z.2),.int (0 - (a + z.1 * z.2))]=some (.int (mx g (a + z.1 * z.2))):=congrArg (fun z=>some (D.int z)) (mx3 g (a + z.1 * z.2))
  exact ⟨a',b4,b5,(forL_cons (r1:=[r0,r1,some (.int a),some (.int g),some (.int z.1),some (.int z.2)]) rfl ((sSeq_go (sSet_go (eOp_go (eVar_go rfl) (eOp_go (eVar_go rfl) (eVar_go rfl) (oMul_i (.inr (h z (.head _))))) rfl))).trans (sSet_go (eB_go (aCons_go (eVar_go rfl) (aCons_go (eVar_go rfl) (aCons_go (eOp_go rfl (eVar_go rfl) rfl) rfl))) hq)))).trans e⟩
theorem zipD_i:∀ (xs ss:List Int),zipD (xs.map .int) (ss.map .int)=(xs.zip ss).map fun z=>D.tup [.int z.1,.int z.2]
 | [],_=>rfl
 | _ :: _,[]=>rfl
 | x :: xs,s :: ss=>by
  have ih:=zipD_i xs ss
  show D.tup [.int x,.int s] :: zipD (xs.map .int) (ss.map .int)=_
  rw [ih]; rfl
theorem zip_go {xs ss:List Int} {i j:Nat} {r:Rho} {S:Sto} (hi:r[i]?=some (some (.tup (xs.map .int)))) (hj:r[j]?=some (some (.tup (ss.map .int)))):aZip (aCons (eVar i) (aCons (eVar j) aNil)) r S=.ok ((xs.zip ss).map fun z=>D.tup [.int z.1,.int z.2]) S:=by
 unfold aZip
 rw [aCons_go (eVar_go hi) (aCons_go (eVar_go hj) rfl),R.bind_ok]
 show R.ok (zipD (xs.map .int) (ss.map .int)) S=_
 rw [zipD_i]
noncomputable def Sg (n:Nat) (ss:List Int):Prop:=ss.length=n∧∀ s ∈ ss,s=1 ∨ s = -1
theorem Sg.small {n:Nat} {ss xs:List Int} (h:Sg n ss):∀ z ∈ xs.zip ss,smallI z.2:=fun x hx=>by
 rcases h.2 x.2 (List.of_mem_zip hx).2 with e | e <;> (rw [e]; decide)
theorem Sg.is {n:Nat} {ss:List Int} (h:Sg n ss):areP n sgn (.tup (ss.map .int))=true:=by
 show (decide ((ss.map D.int).length=n) && (ss.map D.int).all sgn)=true
 rw [decide_eq_true (by rw [List.length_map]; exact h.1),Bool.true_and,List.all_eq_true]
 intro x hx
 obtain ⟨i,hi,rfl⟩:=List.mem_map.mp hx
 exact decide_eq_true (h.2 i hi)
theorem said_good {xs ss:List Int} (hx:Row xs) (h:Sg xs.length ss) (S:Sto):F__law_said [.tup (xs.map .int),.tup (ss.map .int)] S=.ok (.int (swg (xs.zip ss) 0 0)) S:=by
 have hn:=needs_ok (d:=.tup (ss.map .int)) (n:=xs.length) (ints_okay (by have:=h.1; have:=hx.2; omega)) h.is S
 obtain ⟨a',b4,b5,el⟩:=sw_loop (some (.tup (xs.map .int))) (some (.tup (ss.map .int))) S (xs.zip ss) 0 0 none none h.small
 have ew:F_swing [.tup (xs.map .int),.tup (ss.map .int)] S=.ok (.int (swg (xs.zip ss) 0 0)) S:=
  fnM_rt (ρ:=[some (.tup (xs.map .int)),some (.tup (ss.map .int)),none,none,none,none]) rfl ((sSeq_go (sDrop_go ((eCall_go (aCons_go (eVar_go rfl) rfl)).trans (needr_ok hx S)))).trans ((sSeq_go (sDrop_go ((eCall_go (aCons_go (eVar_go rfl) (aCons_go (eNx_ok (eB_go (aCons_go (eVar_go rfl) rfl) (len_t xs))) rfl))).trans hn))).trans ((sSeq_go (sNx_ok (sSet_go rfl))).trans ((sSeq_go (sNx_ok (sSet_go rfl))).trans ((sSeq_go (sNx_ok ((sFor_go (zip_go rfl rfl)).trans el))).trans (sNx_ok (sRet_go (eVar_go rfl))))))))
 refine fnM_rt (ρ:=[some (.tup (xs.map .int)),some (.tup (ss.map .int)),none]) rfl ?_
 show sTry raisedX 2 3 (sRet (eCall F_swing (aCons (eVar 0) (aCons (eVar 1) aNil)))) _ _ _=_
 unfold sTry
 rw [sRet_go ((eCall_go (aCons_go (eVar_go rfl) (aCons_go (eVar_go rfl) rfl))).trans ew)]
theorem lswing_eq {xs ss:List Int} (h:Sg xs.length ss) (S:Sto):F__law_swing [.tup (xs.map .int),.tup (ss.map .int)] S=.ok (.int (swg (xs.zip ss) 0 0)) S:=by
 obtain ⟨a',b4,b5,el⟩:=swl_loop (some (.tup (xs.map .int))) (some (.tup (ss.map .int))) S (xs.zip ss) 0 0 none none h.small
 have z2:(2:Nat)≤sizeLine:=by decide
 exact fnM_rt (ρ:=[some (.tup (xs.map .int)),some (.tup (ss.map .int)),none,none,none,none]) rfl ((sSeq_go (sAsg_go (eTup_go (xs:=[.int 0,.int 0]) rfl z2) rfl)).trans ((sSeq_go ((sFor_go (zip_go rfl rfl)).trans el)).trans (sRet_go (eVar_go rfl))))
noncomputable def lsg (a:Int):Int:=if 0 < a then -1 else 1
noncomputable def lean:List Int→Int→List Int
 | [],_=>[]
 | x :: xs,a=>lsg a :: lean xs (a + lsg a * x)
theorem lean_len:∀ (xs:List Int) (a:Int),(lean xs a).length=xs.length
 | [],_=>rfl
 | x :: xs,a=>by show (lean xs _).length + 1=xs.length + 1; rw [lean_len]
theorem lsg_sg (a:Int):lsg a=1 ∨ lsg a = -1:=by unfold lsg; split <;> simp
theorem lsg_small (a:Int):smallI (lsg a):=by rcases lsg_sg a with e | e <;> (rw [e]; decide)
theorem lean_sg:∀ (xs:List Int) (a:Int),∀ s ∈ lean xs a,s=1 ∨ s = -1
 | [],_,s,h=>by cases h
 | x :: xs,a,s,h=>by
  rcases List.mem_cons.mp h with rfl | h
  ·exact lsg_sg a
  ·exact lean_sg xs _ s h
theorem last_at (S:Sto) (o:SO):(S ++ [o])[S.length]?=some o:=by simp
theorem last_set (S:Sto) (o p:SO):(S ++ [o]).set S.length p=S ++ [p]:=by simp
noncomputable abbrev leB:SM:=(sSeq (sSet 4 (eIf (tV (eOp oGt (eVar 2) (eC (.int 0)))) (eUn oNeg (eC (.int 1))) (eC (.int 1)))) (sSeq (sDrop (eMtL mAppend (eVar 1) (aCons (eVar 4) aNil))) (sSet 2 (eOp oAdd (eVar 2) (eOp oMul (eVar 4) (eVar 3))))))
theorem le_loop (S:Sto) (r0:Option D):∀ (xs:List Int) (a:Int) (acc:List Int) (r3 r4:Option D),acc.length + xs.length≤1000→∃ (a':Int) (b3 b4:Option D),forL (.nm 3) leB (xs.map .int) [r0,some (.ref S.length),some (.int a),r3,r4] (S ++ [.lst (acc.map .int)])=.ok (.nx [r0,some (.ref S.length),some (.int a'),b3,b4]) (S ++ [.lst ((acc ++ lean xs a).map .int)])
 | [],a,acc,r3,r4,_=>⟨a,r3,r4,by show R.ok _ _=_; rw [show lean [] a=[] from rfl,List.append_nil]⟩
 | x :: xs,a,acc,r3,r4,hl=>by
  rw [List.length_cons] at hl
  obtain ⟨a',b3,b4,e⟩:=le_loop S r0 xs (a + lsg a * x) (acc ++ [lsg a]) (some (.int x)) (some (.int (lsg a))) (by rw [List.length_append,List.length_singleton]; omega)
  have hi:∀ S1:Sto,eIf (tV (eOp oGt (eVar 2) (eC (.int 0)))) (eUn oNeg (eC (.int 1))) (eC (.int 1)) [r0,some (.ref S.length),some (.int a),some (.int x),r4] S1=.ok (.int (lsg a)) S1:=fun S1=>by
   have ht:tV (eOp oGt (eVar 2) (eC (.int 0))) [r0,some (.ref S.length),some (.int a),some (.int x),r4] S1=.ok (decide (0 < a)) S1:=tV_go (eOp_go (eVar_go rfl) rfl rfl)
   unfold lsg
   by_cases h:0 < a
   ·rw [decide_eq_true h] at ht
    rw [eIf_t ht,if_pos h]; rfl
   ·rw [decide_eq_false h] at ht
    rw [eIf_f ht,if_neg h]; rfl
  have z:(1000:Nat) < sizeLine:=by decide
  have ha:=append_go (v:=.int (lsg a)) (last_at S (.lst (acc.map .int))) (by rw [List.length_map]; omega)
  rw [last_set] at ha
  have eL:(acc ++ lean (x :: xs) a)=(acc ++ [lsg a]) ++ lean xs (a + lsg a * x):=by
   show acc ++ (lsg a :: lean xs (a + lsg a * x))=_
   rw [List.append_assoc]; rfl
  have eM:(acc.map D.int ++ [.int (lsg a)])=(acc ++ [lsg a]).map D.int:=by rw [List.map_append]; rfl
  rw [eM] at ha
  rw [eL]
  exact ⟨a',b3,b4,(forL_cons (r1:=[r0,some (.ref S.length),some (.int a),some (.int x),r4]) rfl ((sSeq_go (sSet_go (hi _))).trans ((sSeq_go (sDrop_go ((eMtL_go (eVar_go rfl) (isL_ref (last_at S _)) (aCons_go (eVar_go rfl) rfl)).trans ha))).trans (sSet_go (eOp_go (eVar_go rfl) (eOp_go (eVar_go rfl) (eVar_go rfl) (oMul_i (.inl (lsg_small a)))) rfl))))).trans e⟩
theorem tup_ref {S:Sto} {f:Nat} {xs:List D} (h:S[f]?=some (.lst xs)):fTuple S [.ref f]=some (.tup xs):=by
 show (seqOf S (.ref f)).map D.tup=_
 unfold seqOf
 simp only [h,Option.map_some]
theorem new_nil (r:Rho) (S:Sto):eNew aNil r S=.ok (.ref S.length) (S ++ [.lst []]):=by
 have z0:(0:Nat)≤sizeLine:=Nat.zero_le _
 unfold eNew
 show (if 0≤sizeLine then R.ok (D.ref S.length) (S ++ [SO.lst []]) else R.bad)=_
 exact if_pos z0
theorem lean_eq {xs:List Int} (h:Row xs) (S:Sto):F_leaning_n [.tup (xs.map .int)] S=.ok (.tup ((lean xs 0).map .int)) (S ++ [.lst ((lean xs 0).map .int)]):=by
 obtain ⟨a',b3,b4,e⟩:=le_loop S (some (.tup (xs.map .int))) xs 0 [] none none (by have:=h.2; show 0 + xs.length≤1000; omega)
 rw [List.nil_append] at e
 exact fnM_rt (ρ:=[some (.tup (xs.map .int)),none,none,none,none]) rfl ((sSeq_go (sDrop_go ((eCall_go (aCons_go (eVar_go rfl) rfl)).trans (needrn_ok h S)))).trans ((sSeq_go (sSet_go (new_nil _ S))).trans ((sSeq_go (sSet_go rfl)).trans ((sSeq_go ((sFor_seq (eVar_go rfl) rfl).trans e)).trans (sRet_go (eB_go (aCons_go (eVar_go rfl) rfl) (tup_ref (last_at S _))))))))
noncomputable abbrev llB:SM:=(sSeq (sDrop (eMtL mAppend (eVar 1) (aCons (eOp oIx (eLst (aCons (eC (.int 1)) (aCons (eUn oNeg (eC (.int 1))) aNil))) (eB fInt (aCons (eOp oGt (eVar 2) (eC (.int 0))) aNil))) aNil))) (sSet 2 (eOp oAdd (eVar 2) (eOp oMul (eOp oIx (eVar 1) (eUn oNeg (eC (.int 1)))) (eVar 3)))))
theorem last_ix {S1:Sto} {f:Nat} {acc:List Int} {x:Int} (h:S1[f]?=some (.lst ((acc ++ [x]).map .int))):oIx S1 (.ref f) (.int (-1))=some (.int x):=by
 unfold oIx seqOf
 simp only [h]
 have hl:((acc ++ [x]).map D.int).length=acc.length + 1:=by simp
 have e:ixN ((acc ++ [x]).map D.int).length (-1)=some acc.length:=by
  rw [hl]
  unfold ixN
  rw [if_neg (by decide),if_pos (by omega)]
  congr 1
  omega
 unfold atI
 rw [e]
 show ((acc ++ [x]).map D.int)[acc.length]?=some (.int x)
 simp
theorem ll_loop (S:Sto) (r0:Option D):∀ (xs:List Int) (a:Int) (acc:List Int) (r3:Option D),acc.length + xs.length≤1000→∃ (a':Int) (b3:Option D),forL (.nm 3) llB (xs.map .int) [r0,some (.ref S.length),some (.int a),r3] (S ++ [.lst (acc.map .int)])=.ok (.nx [r0,some (.ref S.length),some (.int a'),b3]) (S ++ [.lst ((acc ++ lean xs a).map .int)])
 | [],a,acc,r3,_=>⟨a,r3,by show R.ok _ _=_; rw [show lean [] a=[] from rfl,List.append_nil]⟩
 | x :: xs,a,acc,r3,hl=>by
  rw [List.length_cons] at hl
  obtain ⟨a',b3,e⟩:=ll_loop S r0 xs (a + lsg a * x) (acc ++ [lsg a]) (some (.int x)) (by rw [List.length_append,List.length_singleton]; omega)
  have z2:(2:Nat)≤sizeLine:=by decide
  have hi:∀ S1:Sto,eOp oIx (eLst (aCons (eC (.int 1)) (aCons (eUn oNeg (eC (.int 1))) aNil))) (eB fInt (aCons (eOp oGt (eVar 2) (eC (.int 0))) aNil)) [r0,some (.ref S.length),some (.int a),some (.int x)] S1=.ok (.int (lsg a)) S1:=fun S1=>by
   have ht:eOp oGt (eVar 2) (eC (.int 0)) [r0,some (.ref S.length),some (.int a),some (.int x)] S1=.ok (.bl (decide (0 < a))) S1:=eOp_go (eVar_go rfl) rfl rfl
   have hl:eLst (aCons (eC (.int 1)) (aCons (eUn oNeg (eC (.int 1))) aNil)) [r0,some (.ref S.length),some (.int a),some (.int x)] S1=.ok (.lst [.int 1,.int (-1)]) S1:=eLst_go (xs:=[.int 1,.int (-1)]) rfl z2
   unfold lsg
   by_cases h:0 < a
   ·rw [decide_eq_true h] at ht
    rw [if_pos h]
    exact eOp_go hl (eB_go (z:=.int 1) (aCons_go ht rfl) rfl) rfl
   ·rw [decide_eq_false h] at ht
    rw [if_neg h]
    exact eOp_go hl (eB_go (z:=.int 0) (aCons_go ht rfl) rfl) rfl
  have z:(1000:Nat) < sizeLine:=by decide
  have ha:=append_go (v:=.int (lsg a)) (last_at S (.lst (acc.map .int))) (by rw [List.length_map]; omega)
  rw [last_set] at ha
  have eL:(acc ++ lean (x :: xs) a)=(acc ++ [lsg a]) ++ lean xs (a + lsg a * x):=by
   show acc ++ (lsg a :: lean xs (a + lsg a * x))=_
   rw [List.append_assoc]; rfl
  have eM:(acc.map D.int ++ [.int (lsg a)])=(acc ++ [lsg a]).map D.int:=by rw [List.map_append]; rfl
  rw [eM] at ha
  rw [eL]
  have hx:=last_ix (last_at S (.lst ((acc ++ [lsg a]).map .int)))
  exact ⟨a',b3,(forL_cons (r1:=[r0,some (.ref S.length),some (.int a),some (.int x)]) rfl ((sSeq_go (sDrop_go ((eMtL_go (eVar_go rfl) (isL_ref (last_at S _)) (aCons_go (hi _) rfl)).trans ha))).trans (sSet_go (eOp_go (eVar_go rfl) (eOp_go (eOp_go (eVar_go rfl) rfl hx) (eVar_go rfl) (oMul_i (.inl (lsg_small a)))) rfl)))).trans e⟩
theorem sPar_go {i j:Nat} {t:AM} {r:Rho} {S S1:Sto} {x y:D} (h:t r S=.ok [x,y] S1):sPar i j t r S=.ok (.nx ((r.set i (some x)).set j (some y))) S1:=by unfold sPar; rw [h,R.bind_ok]
theorem llean_eq {xs:List Int} (h:Row xs) (S:Sto):F__law_leaning [.tup (xs.map .int)] S=.ok (.tup ((lean xs 0).map .int)) (S ++ [.lst ((lean xs 0).map .int)]):=by
 obtain ⟨a',b3,e⟩:=ll_loop S (some (.tup (xs.map .int))) xs 0 [] none (by have:=h.2; show 0 + xs.length≤1000; omega)
 rw [List.nil_append] at e
 exact fnM_rt (ρ:=[some (.tup (xs.map .int)),none,none,none]) rfl ((sSeq_go (sPar_go (aCons_go (new_nil _ S) (aCons_go rfl rfl)))).trans ((sSeq_go ((sFor_seq (eVar_go rfl) rfl).trans e)).trans (sRet_go (eB_go (aCons_go (eVar_go rfl) rfl) (tup_ref (last_at S _))))))
theorem laps_le (ns:List Int) (c:Nat) (hn:ns.length≤63) (hc:1≤c∧c≤63) (r:Rho) (hr:r[0]?=some (some (.fz (ns.map .int)))) (S:Sto):∃ n:Nat,aRange1 (aCons (eB fMax (aCons (eC (.int 1)) (aCons (eB fMin (aCons (eB fLen (aCons (eVar 0) aNil)) (aCons (eC (.int c)) aNil))) aNil))) aNil) r S=.ok ((List.range n).map (fun (i:Nat)=>D.int i)) S∧n≤c:=by
 refine ⟨max 1 (min ns.length c),aRange1_ok ?_ (by omega),by omega⟩
 have e:(if (1:Int) < (if (c:Int) < (ns.length:Int) then (c:Int) else (ns.length:Int)) then (if (c:Int) < (ns.length:Int) then (c:Int) else (ns.length:Int)) else 1)=((max 1 (min ns.length c):Nat):Int):=by
  split <;> split <;> omega
 rw [← e]
 simp [aCons,aNil,eB,eC,eVar,R.bind,R.of,hr,fLen,seqOf,fMin,fMax]
theorem ne_self {S:Sto} {t:Str}:oNeP S (.str t) (.str t)=some (.bl false):=by simp [oNeP,eqP,eqS]
theorem ne_r2 (S:Sto):oNeP S (.lst [.str "refused",.int 2]) (.lst [.str "refused",.int 2])=some (.bl false):=by kernel_rfl
theorem z2':(2:Nat)≤sizeLine:=by decide
noncomputable abbrev sgB:SM:=(sSeq (sSet 9 (eCall F__law_said (aCons (eVar 3) (aCons (eVar 6) aNil)))) (sIf (PD.tOr (PD.tNot (tV (eCall F__law_whole (aCons (eVar 9) aNil)))) (tV (eOp oNeP (eVar 9) (eCall F__law_swing (aCons (eVar 3) (aCons (eVar 6) aNil)))))) (sRet (eC (.bl false))) sSkip))
theorem sg_loop' {xs:List Int} (hx:Row xs) (r0 r1 r2 r4 r5 r7 r8 r10:Option D) (S:Sto):∀ (l:List (List Int)) (r6 r9:Option D),(∀ ss ∈ l,Sg xs.length ss)→∃ a6 a9:Option D,forL (.nm 6) sgB (l.map fun ss=>D.tup (ss.map .int)) [r0,r1,r2,some (.tup (xs.map .int)),r4,r5,r6,r7,r8,r9,r10] S=.ok (.nx [r0,r1,r2,some (.tup (xs.map .int)),r4,r5,a6,r7,r8,a9,r10]) S
 | [],r6,r9,_=>⟨r6,r9,rfl⟩
 | ss :: l,r6,r9,h=>by
  obtain ⟨a6,a9,e⟩:=sg_loop' hx r0 r1 r2 r4 r5 r7 r8 r10 S l (some (.tup (ss.map .int))) (some (.int (swg (xs.zip ss) 0 0))) fun y hy=>h y (.tail _ hy)
  have hs:=h ss (.head _)
  have hw:F__law_whole [.int (swg (xs.zip ss) 0 0)] S=.ok (.bl true) S:=lwhole_eq rfl
  have hne:oNeP S (.int (swg (xs.zip ss) 0 0)) (.int (swg (xs.zip ss) 0 0))=some (.bl false):=by rw [oNeP_i,decide_eq_true rfl]; rfl
  exact ⟨a6,a9,(forL_cons (r1:=[r0,r1,r2,some (.tup (xs.map .int)),r4,r5,some (.tup (ss.map .int)),r7,r8,r9,r10]) rfl ((sSeq_go (sSet_go ((eCall_go (aCons_go (eVar_go rfl) (aCons_go (eVar_go rfl) rfl))).trans (said_good hx hs S)))).trans ((sIf_f ((tOr_f (tNot_go (tV_go ((eCall_go (aCons_go (eVar_go rfl) rfl)).trans hw)))).trans (tV_go (eOp_go (eVar_go rfl) ((eCall_go (aCons_go (eVar_go rfl) (aCons_go (eVar_go rfl) rfl))).trans (lswing_eq hs S)) hne)))).trans rfl))).trans e⟩
noncomputable abbrev bdB:SM:=(sSeq (sSet 10 (eAnd (eB fIsi (aCons (eVar 8) (aCons (eC (.ty "tuple")) aNil))) (eOp oEqP (eB fLen (aCons (eVar 8) aNil)) (eVar 4)))) (sIf (PD.tOr (PD.tNot (tV (eVar 10))) (PD.tNot (tV (eB fAll (aCons (eComp (aSeq (eVar 8) itSeq) 1 [] (.nm 0) tTrue (eAnd (eCall F__law_whole (aCons (eVar 0) aNil)) (eOp oEqP (eOp oMul (eVar 0) (eVar 0)) (eC (.int 1))))) aNil))))) (sIf (tV (eOp oNeP (eCall F__law_said (aCons (eVar 3) (aCons (eVar 8) aNil))) (eLst (aCons (eC (.str "refused")) (aCons (eC (.int 2)) aNil))))) (sRet (eC (.bl false))) sSkip) sSkip))
theorem sq_one (i:Int):decide (i * i=1)=decide (i=1 ∨ i = -1):=by
 rw [decide_eq_decide]
 constructor
 ·intro h
  have h1:i ∣ 1:=⟨i,h.symm⟩
  have h2:=Int.natAbs_dvd_natAbs.mpr h1
  have h3:i.natAbs=1:=Nat.dvd_one.mp h2
  omega
 ·rintro (rfl | rfl) <;> rfl
theorem bd_turn {xs:List Int} (hx:Row xs) {d:D} (h:Gd d) (r0 r1 r2 r5 r6 r7 r9 r10:Option D) (S:Sto):∃ a10:Option D,bdB [r0,r1,r2,some (.tup (xs.map .int)),some (.int xs.length),r5,r6,r7,some d,r9,r10] S=.ok (.nx [r0,r1,r2,some (.tup (xs.map .int)),some (.int xs.length),r5,r6,r7,some d,r9,a10]) S:=by
 have hi:eB fIsi (aCons (eVar 8) (aCons (eC (.ty "tuple")) aNil)) [r0,r1,r2,some (.tup (xs.map .int)),some (.int xs.length),r5,r6,r7,some d,r9,r10] S=.ok (.bl (isT d)) S:=eB_go (aCons_go (eVar_go rfl) (aCons_go rfl rfl)) (isi_tup h.1.1)
 have fin:∀ a10:Option D,areP xs.length sgn d=false→(sIf (tV (eOp oNeP (eCall F__law_said (aCons (eVar 3) (aCons (eVar 8) aNil))) (eLst (aCons (eC (.str "refused")) (aCons (eC (.int 2)) aNil))))) (sRet (eC (.bl false))) sSkip) [r0,r1,r2,some (.tup (xs.map .int)),some (.int xs.length),r5,r6,r7,some d,r9,a10] S=.ok (.nx [r0,r1,r2,some (.tup (xs.map .int)),some (.int xs.length),r5,r6,r7,some d,r9,a10]) S:=fun a10 hb=>
  (sIf_f (tV_go (eOp_go ((eCall_go (aCons_go (eVar_go rfl) (aCons_go (eVar_go rfl) rfl))).trans (said_bad hx h.1 hb S)) (eLst_go (xs:=[.str "refused",.int 2]) rfl z2') (ne_r2 S)))).trans rfl
 cases d with
 | tup ys=>
  have he:eOp oEqP (eB fLen (aCons (eVar 8) aNil)) (eVar 4) [r0,r1,r2,some (.tup (xs.map .int)),some (.int xs.length),r5,r6,r7,some (.tup ys),r9,r10] S=.ok (.bl (decide ((ys.length:Int)=xs.length))) S:=eOp_go (eB_go (z:=.int ys.length) (aCons_go (eVar_go rfl) rfl) rfl) (eVar_go rfl) oEqP_i
  have hg:=(eAnd_t (b:=eOp oEqP (eB fLen (aCons (eVar 8) aNil)) (eVar 4)) hi).trans he
  by_cases hn:ys.length=xs.length
  ·rw [decide_eq_true (show (ys.length:Int)=xs.length by omega)] at hg
   refine ⟨some (.bl true),?_⟩
   have hc:eComp (aSeq (eVar 8) itSeq) 1 [] (.nm 0) tTrue (eAnd (eCall F__law_whole (aCons (eVar 0) aNil)) (eOp oEqP (eOp oMul (eVar 0) (eVar 0)) (eC (.int 1)))) [r0,r1,r2,some (.tup (xs.map .int)),some (.int xs.length),r5,r6,r7,some (.tup ys),r9,some (.bl true)] S=.ok (.lst (ys.map fun x=>D.bl (sgn x))) S:=
    eComp_map (enc:=fun x=>x) ys (by rw [List.map_id']; exact it_var rfl rfl) (Nat.le_trans (h.1.2 ys rfl).2 (by decide)) rfl fun x hx'=>by
     have hw:F__law_whole [x] S=.ok (.bl (isI x)) S:=lwhole_eq ((h.1.2 ys rfl).1 x hx')
     cases x with
     | int i=>
      refine (eAnd_t ((eCall_go (aCons_go (eVar_go rfl) rfl)).trans hw)).trans ((eOp_go (eOp_go (eVar_go rfl) (eVar_go rfl) (oMul_i (.inl (h.2 ys rfl i hx')))) rfl oEqP_i).trans ?_)
      rw [sq_one]; rfl
     | _=>exact eAnd_f ((eCall_go (aCons_go (eVar_go rfl) rfl)).trans hw)
   have ha:eB fAll (aCons (eComp (aSeq (eVar 8) itSeq) 1 [] (.nm 0) tTrue (eAnd (eCall F__law_whole (aCons (eVar 0) aNil)) (eOp oEqP (eOp oMul (eVar 0) (eVar 0)) (eC (.int 1))))) aNil) [r0,r1,r2,some (.tup (xs.map .int)),some (.int xs.length),r5,r6,r7,some (.tup ys),r9,some (.bl true)] S=.ok (.bl (ys.all sgn)) S:=eB_go (aCons_go hc rfl) fAll_map
   have ep:areP xs.length sgn (.tup ys)=ys.all sgn:=by show (decide (ys.length=xs.length) && ys.all sgn)=_; rw [decide_eq_true hn,Bool.true_and]
   refine (sSeq_go (sSet_go hg)).trans ?_
   cases hb:ys.all sgn with
   | true=>
    rw [hb] at ha
    exact (sIf_f ((tOr_f (tNot_go (b:=true) (tV_go (eVar_go rfl)))).trans (tNot_go (tV_go ha)))).trans rfl
   | false=>
    rw [hb] at ha
    exact (sIf_t ((tOr_f (tNot_go (b:=true) (tV_go (eVar_go rfl)))).trans (tNot_go (tV_go ha)))).trans (fin _ (ep.trans hb))
  ·rw [decide_eq_false (show ¬ (ys.length:Int)=xs.length by omega)] at hg
   have ep:areP xs.length sgn (.tup ys)=false:=by show (decide (ys.length=xs.length) && ys.all sgn)=_; rw [decide_eq_false hn]; rfl
   exact ⟨some (.bl false),(sSeq_go (sSet_go hg)).trans ((sIf_t (tOr_t (tNot_go (b:=false) (tV_go (eVar_go rfl))))).trans (fin _ ep))⟩
 | _=>exact ⟨some (.bl false),(sSeq_go (sSet_go (eAnd_f hi))).trans ((sIf_t (tOr_t (tNot_go (b:=false) (tV_go (eVar_go rfl))))).trans (fin _ rfl))⟩
theorem bd_loop {xs:List Int} (hx:Row xs) (r0 r1 r2 r5 r6 r7 r9:Option D) (S:Sto):∀ (l:List D) (r8 r10:Option D),(∀ d ∈ l,Gd d)→∃ a8 a10:Option D,forL (.nm 8) bdB l [r0,r1,r2,some (.tup (xs.map .int)),some (.int xs.length),r5,r6,r7,r8,r9,r10] S=.ok (.nx [r0,r1,r2,some (.tup (xs.map .int)),some (.int xs.length),r5,r6,r7,a8,r9,a10]) S
 | [],r8,r10,_=>⟨r8,r10,rfl⟩
 | d :: l,r8,r10,h=>by
  obtain ⟨b10,e1⟩:=bd_turn hx (h d (.head _)) r0 r1 r2 r5 r6 r7 r9 r10 S
  obtain ⟨a8,a10,e⟩:=bd_loop hx r0 r1 r2 r5 r6 r7 r9 S l (some d) b10 fun y hy=>h y (.tail _ hy)
  exact ⟨a8,a10,(forL_cons (r1:=[r0,r1,r2,some (.tup (xs.map .int)),some (.int xs.length),r5,r6,r7,some d,r9,r10]) rfl e1).trans e⟩
theorem odd_gd:∀ d ∈ oddL,Gd d:=fun d hd=>by
 simp only [oddL,List.mem_cons,List.not_mem_nil,or_false] at hd
 have one:∀ {e:D},shal e=true→(∀ i,e=.int i→smallI i)→Gd (.tup [e]):=fun h k=>⟨⟨rfl,fun ys e=>by
  cases e
  exact ⟨fun x hx=>by rw [List.mem_singleton.mp hx]; exact h,by show 1≤1000; decide⟩⟩,fun ys e i hi=>by
  cases e
  exact k i (List.mem_singleton.mp hi).symm⟩
 have no:∀ {e:D},shal e=true→(∀ ys,e ≠ .tup ys)→Gd e:=fun h k=>⟨⟨h,fun ys e=>absurd e (k ys)⟩,fun ys e=>absurd e (k ys)⟩
 rcases hd with rfl | rfl | rfl | rfl | rfl | rfl | rfl | rfl | rfl | rfl | rfl | rfl | rfl | rfl | rfl | rfl
 ·exact no rfl fun ys e=>by cases e
 ·exact no rfl fun ys e=>by cases e
 ·exact no rfl fun ys e=>by cases e
 ·exact no rfl fun ys e=>by cases e
 ·exact no rfl fun ys e=>by cases e
 ·exact no rfl fun ys e=>by cases e
 ·exact no rfl fun ys e=>by cases e
 ·exact one rfl fun i e=>by cases e; decide
 ·exact no rfl fun ys e=>by cases e
 ·exact no rfl fun ys e=>by cases e
 ·exact one rfl fun i e=>by cases e; decide
 ·exact one rfl fun i e=>by cases e
 ·exact one rfl fun i e=>by cases e
 ·exact one rfl fun i e=>by cases e
 ·exact no rfl fun ys e=>by cases e
 ·exact no rfl fun ys e=>by cases e
noncomputable def Sm (d:D):Prop:=shal d=true∧∀ i,d=.int i→smallI i
theorem gd_tup {ys:List D} (hl:ys.length≤1000) (h:∀ y ∈ ys,Sm y):Gd (.tup ys):=⟨⟨rfl,fun zs e=>by
 cases e
 exact ⟨fun x hx=>(h x hx).1,hl⟩⟩,fun zs e i hi=>by
 cases e
 exact (h _ hi).2 i rfl⟩
theorem sm_int {i:Int} (h:smallI i):Sm (.int i):=⟨rfl,fun j e=>by cases e; exact h⟩
theorem rep_go {S:Sto} {v:Int} {n:Nat} (h:n≤1000):oMul S (.tup [.int v]) (.int n)=some (.tup ((List.replicate n v).map .int)):=by
 have z:(1000:Nat)≤sizeLine:=by decide
 have e:(List.replicate n v).map D.int=(List.replicate ((n:Int)).toNat [D.int v]).flatten:=by simp
 rw [e]
 exact oMul_t ⟨by omega,by omega,by rw [Int.toNat_natCast]; show 1 * n≤sizeLine; omega⟩
theorem sg_rep {n:Nat} {v:Int} (h:v=1 ∨ v = -1):Sg n (List.replicate n v):=⟨List.length_replicate,fun s hs=>by rw [(List.mem_replicate.mp hs).2]; exact h⟩
noncomputable def trn (n:Nat):List Int:=(List.range n).map fun (i:Nat)=>1 - 2 * ((i:Int) % 2)
theorem trn_sg (n:Nat):Sg n (trn n):=⟨by unfold trn; rw [List.length_map,List.length_range],fun s hs=>by
 obtain ⟨i,_,rfl⟩:=List.mem_map.mp hs
 omega⟩
theorem sg_sm {n:Nat} {ss:List Int} (h:Sg n ss):∀ y ∈ ss.map D.int,Sm y:=fun y hy=>by
 obtain ⟨i,hi,rfl⟩:=List.mem_map.mp hy
 rcases h.2 i hi with e | e <;> (rw [e]; exact sm_int (by decide))
theorem cut_sm {S:Sto} {ys:List D} (h:∀ y ∈ ys,Sm y):∃ zs,fSlT S (.tup ys) (some 1) none=some (.tup zs)∧zs.length≤ys.length∧∀ z ∈ zs,Sm z:=by
 refine ⟨PD.cutD ys (some 1) none,rfl,?_,fun y hy=>?_⟩
 ·unfold PD.cutD
  rw [List.length_take,List.length_drop]
  omega
 ·unfold PD.cutD at hy
  exact h y (List.mem_of_mem_drop (List.mem_of_mem_take hy))
noncomputable abbrev lawB:SM:=(sSeq (sSet 2 (eCall F__law_box (aCons (eVar 0) (aCons (eVar 1) aNil)))) (sSeq (sSet 3 (eCall F__law_row (aCons (eVar 2) (aCons (eC (.int 16)) aNil)))) (sSeq (sSet 4 (eB fLen (aCons (eVar 3) aNil))) (sSeq (sSet 5 (eB fTuple (aCons (eComp (aRange1 (aCons (eVar 4) aNil)) 1 [] (.nm 0) tTrue (eOp oSub (eC (.int 1)) (eOp oMul (eC (.int 2)) (eOp oMod (eVar 0) (eC (.int 2)))))) aNil))) (sSeq (sFor (aSeq (eLst (aCons (eCall F__law_signs (aCons (eVar 2) (aCons (eVar 4) aNil))) (aCons (eOp oMul (eTup (aCons (eC (.int 1)) aNil)) (eVar 4)) (aCons (eOp oMul (eTup (aCons (eUn oNeg (eC (.int 1))) aNil)) (eVar 4)) (aCons (eVar 5) (aCons (eCall F__law_leaning (aCons (eVar 3) aNil)) aNil)))))) itSeq) (.nm 6) sgB) (sSeq (sIf (tV (eOp oNeP (eB fRepr (aCons (eCall F_leaning_n (aCons (eVar 3) aNil)) aNil)) (eB fRepr (aCons (eCall F__law_leaning (aCons (eVar 3) aNil)) aNil)))) (sRet (eC (.bl false))) sSkip) (sSeq (sSet 7 (eLst (aCons (eOp oMul (eTup (aCons (eC (.int 1)) aNil)) (eOp oAdd (eVar 4) (eC (.int 1)))) (aCons (eB fList (aCons (eVar 5) aNil)) (aCons (eOp oAdd (eVar 5) (eTup (aCons (eC (.int 0)) aNil))) (aCons (eOp oAdd (eOp oMul (eTup (aCons (eC (.int 0)) aNil)) (eVar 4)) (eTup (aCons (eC (.int 1)) aNil))) (aCons (eCall F__law_odd (aCons (eVar 2) aNil)) (aCons (eOp oAdd (eTup (aCons (eC (.bl true)) aNil)) (eSl fSlT (eVar 5) (oPart (eC (.int 1))) oNo)) aNil)))))))) (sFor (aSeq (eOp oAdd (eVar 7) (eLst (aCons (eOp oAdd (eTup (aCons (eC (.int 2)) aNil)) (eSl fSlT (eVar 5) (oPart (eC (.int 1))) oNo)) (aCons (eOp oAdd (eTup (aCons (eC (.int 0)) aNil)) (eSl fSlT (eVar 5) (oPart (eC (.int 1))) oNo)) (aCons (eC .non) aNil))))) itSeq) (.nm 8) bdB))))))))
theorem law_turn (ns:List Int) (k:Nat) (S:Sto) (r2 r3 r4 r5 r6 r7 r8 r9 r10:Option D):∃ (S':Sto) (a2 a3 a4 a5 a6 a7 a8 a9 a10:Option D),lawB [some (.fz (ns.map .int)),some (.int k),r2,r3,r4,r5,r6,r7,r8,r9,r10] S=.ok (.nx [some (.fz (ns.map .int)),some (.int k),a2,a3,a4,a5,a6,a7,a8,a9,a10]) S':=by
 obtain ⟨v,e0⟩:=box_ok ns k S
 have g0:Gr S.length (S ++ [.lst [.int v]]) (S ++ [.lst [.int v]]):=⟨⟨v,by simp⟩,fun _ _ _=>rfl,Nat.le_refl _⟩
 obtain ⟨xs,S1,e1,l1,hx,g1⟩:=row_ok (most:=16) g0 ⟨by decide,by decide⟩
 have hr:Row xs:=⟨fun x h=>(hx x h).1,by omega⟩
 have l16:xs.length≤16:=hr.2
 obtain ⟨ss,S2,e2,ls,hs,g2⟩:=signs_ok (n:=xs.length) g1.self (by omega)
 have z0:(0:Nat)≤sizeLine:=Nat.zero_le _
 have z3:(3:Nat)≤sizeLine:=by decide
 have z5:(5:Nat)≤sizeLine:=by decide
 have z6:(6:Nat)≤sizeLine:=by decide
 have z100:(100:Nat)≤sizeLine:=by decide
 have ht:eB fTuple (aCons (eComp (aRange1 (aCons (eVar 4) aNil)) 1 [] (.nm 0) tTrue (eOp oSub (eC (.int 1)) (eOp oMul (eC (.int 2)) (eOp oMod (eVar 0) (eC (.int 2)))))) aNil) [some (.fz (ns.map .int)),some (.int k),some (.ref S.length),some (.tup (xs.map .int)),some (.int xs.length),r5,r6,r7,r8,r9,r10] S1=.ok (.tup ((trn xs.length).map .int)) S1:=by
  have hc:=eComp_map (enc:=fun (i:Nat)=>D.int i) (out:=fun (i:Nat)=>D.int (1 - 2 * ((i:Int) % 2))) (e:=eOp oSub (eC (.int 1)) (eOp oMul (eC (.int 2)) (eOp oMod (eVar 0) (eC (.int 2))))) (it:=aRange1 (aCons (eVar 4) aNil)) (caps:=[]) (tl:=[]) (r:=[some (.fz (ns.map .int)),some (.int k),some (.ref S.length),some (.tup (xs.map .int)),some (.int xs.length),r5,r6,r7,r8,r9,r10]) (S:=S1) (List.range xs.length) (aRange1_ok (aCons_go (eVar_go rfl) rfl) (by omega)) (by rw [List.length_range]; omega) rfl fun i hi=>
   eOp_go rfl (eOp_go rfl (eOp_go (eVar_go rfl) rfl (oMod_i (by decide))) (oMul_i (.inl (by decide)))) rfl
  have et:(trn xs.length).map D.int=(List.range xs.length).map fun (i:Nat)=>D.int (1 - 2 * ((i:Int) % 2)):=by unfold trn; rw [List.map_map]; rfl
  rw [et]
  exact eB_go (aCons_go hc rfl) rfl
 generalize hS3:S2 ++ [SO.lst ((lean xs 0).map .int)]=S3
 have g3:Gr S.length S2 S3:=by rw [← hS3]; exact g2.self.more _
 have eL:=llean_eq hr S2
 rw [hS3] at eL
 have tg:=trn_sg xs.length
 have hL:(eLst (aCons (eCall F__law_signs (aCons (eVar 2) (aCons (eVar 4) aNil))) (aCons (eOp oMul (eTup (aCons (eC (.int 1)) aNil)) (eVar 4)) (aCons (eOp oMul (eTup (aCons (eUn oNeg (eC (.int 1))) aNil)) (eVar 4)) (aCons (eVar 5) (aCons (eCall F__law_leaning (aCons (eVar 3) aNil)) aNil)))))) [some (.fz (ns.map .int)),some (.int k),some (.ref S.length),some (.tup (xs.map .int)),some (.int xs.length),some (.tup ((trn xs.length).map .int)),r6,r7,r8,r9,r10] S1=.ok (.lst ([ss,List.replicate xs.length 1,List.replicate xs.length (-1),trn xs.length,lean xs 0].map fun ss=>D.tup (ss.map .int))) S3:=
  eLst_go (aCons_go ((eCall_go (aCons_go (eVar_go rfl) (aCons_go (eVar_go rfl) rfl))).trans e2) (aCons_go (eOp_go (eTup_go (xs:=[.int 1]) rfl z1) (eVar_go rfl) (rep_go (by omega))) (aCons_go (eOp_go (eTup_go (xs:=[.int (-1)]) rfl z1) (eVar_go rfl) (rep_go (by omega))) (aCons_go (eVar_go rfl) (aCons_go ((eCall_go (aCons_go (eVar_go rfl) rfl)).trans eL) rfl))))) z5
 obtain ⟨a6,a9,e3⟩:=sg_loop' hr (some (.fz (ns.map .int))) (some (.int k)) (some (.ref S.length)) (some (.int xs.length)) (some (.tup ((trn xs.length).map .int))) r7 r8 r10 S3 [ss,List.replicate xs.length 1,List.replicate xs.length (-1),trn xs.length,lean xs 0] r6 r9 (fun s hs'=>by
  simp only [List.mem_cons,List.not_mem_nil,or_false] at hs'
  rcases hs' with rfl | rfl | rfl | rfl | rfl
  ·exact ⟨ls,hs⟩
  ·exact sg_rep (.inl rfl)
  ·exact sg_rep (.inr rfl)
  ·exact tg
  ·exact ⟨lean_len xs 0,lean_sg xs 0⟩)
 generalize hS4:S3 ++ [SO.lst ((lean xs 0).map .int)]=S4
 generalize hS5:S4 ++ [SO.lst ((lean xs 0).map .int)]=S5
 have eL4:=lean_eq hr S3
 rw [hS4] at eL4
 have eL5:=llean_eq hr S4
 rw [hS5] at eL5
 have g5:Gr S.length S3 S5:=by rw [← hS5,← hS4]; exact (g3.self.more _).more _
 have shw:∀ x ∈ (lean xs 0).map D.int,Sh false x:=fun x hx'=>by
  obtain ⟨i,hi,rfl⟩:=List.mem_map.mp hx'
  rcases lean_sg xs 0 i hi with e | e <;> (rw [e]; exact sh_int (by decide +kernel))
 obtain ⟨t,hT4⟩:=shows_tup (S:=S4) (nl:=false) (by rw [List.length_map,lean_len]; omega) shw
 have hT5:fRepr S5 [.tup ((lean xs 0).map .int)]=some (.str t):=hT4
 obtain ⟨odd,S6,e6,ho,g6⟩:=dodd_ok g5.self
 obtain ⟨zs,hz,lz,hzs⟩:=cut_sm (S:=S6) (sg_sm tg)
 have lt:((trn xs.length).map D.int).length=xs.length:=by rw [List.length_map,tg.1]
 have hB1:(eLst (aCons (eOp oMul (eTup (aCons (eC (.int 1)) aNil)) (eOp oAdd (eVar 4) (eC (.int 1)))) (aCons (eB fList (aCons (eVar 5) aNil)) (aCons (eOp oAdd (eVar 5) (eTup (aCons (eC (.int 0)) aNil))) (aCons (eOp oAdd (eOp oMul (eTup (aCons (eC (.int 0)) aNil)) (eVar 4)) (eTup (aCons (eC (.int 1)) aNil))) (aCons (eCall F__law_odd (aCons (eVar 2) aNil)) (aCons (eOp oAdd (eTup (aCons (eC (.bl true)) aNil)) (eSl fSlT (eVar 5) (oPart (eC (.int 1))) oNo)) aNil))))))) [some (.fz (ns.map .int)),some (.int k),some (.ref S.length),some (.tup (xs.map .int)),some (.int xs.length),some (.tup ((trn xs.length).map .int)),a6,r7,r8,a9,r10] S5=.ok (.lst [.tup ((List.replicate (xs.length + 1) 1).map .int),.lst ((trn xs.length).map .int),.tup ((trn xs.length).map .int ++ [.int 0]),.tup ((List.replicate xs.length 0).map .int ++ [.int 1]),odd,.tup ([.bl true] ++ zs)]) S6:=
  eLst_go (aCons_go (eOp_go (eTup_go (xs:=[.int 1]) rfl z1) (eOp_go (z:=.int ((xs.length + 1:Nat):Int)) (eVar_go rfl) rfl rfl) (rep_go (by omega))) (aCons_go (eB_go (aCons_go (eVar_go rfl) rfl) rfl) (aCons_go (eOp_go (eVar_go rfl) (eTup_go (xs:=[.int 0]) rfl z1) (oAdd_t (by rw [lt]; show xs.length + 1≤sizeLine; omega))) (aCons_go (eOp_go (eOp_go (eTup_go (xs:=[.int 0]) rfl z1) (eVar_go rfl) (rep_go (by omega))) (eTup_go (xs:=[.int 1]) rfl z1) (oAdd_t (by rw [List.length_map,List.length_replicate]; show xs.length + 1≤sizeLine; omega))) (aCons_go ((eCall_go (aCons_go (eVar_go rfl) rfl)).trans e6) (aCons_go (eOp_go (eTup_go (xs:=[.bl true]) rfl z1) (sl_go (eVar_go rfl) (oPart_go rfl) rfl hz) (oAdd_t (by show 1 + zs.length≤sizeLine; omega))) rfl)))))) z6
 have hB2:(eOp oAdd (eVar 7) (eLst (aCons (eOp oAdd (eTup (aCons (eC (.int 2)) aNil)) (eSl fSlT (eVar 5) (oPart (eC (.int 1))) oNo)) (aCons (eOp oAdd (eTup (aCons (eC (.int 0)) aNil)) (eSl fSlT (eVar 5) (oPart (eC (.int 1))) oNo)) (aCons (eC .non) aNil))))) [some (.fz (ns.map .int)),some (.int k),some (.ref S.length),some (.tup (xs.map .int)),some (.int xs.length),some (.tup ((trn xs.length).map .int)),a6,some (.lst [.tup ((List.replicate (xs.length + 1) 1).map .int),.lst ((trn xs.length).map .int),.tup ((trn xs.length).map .int ++ [.int 0]),.tup ((List.replicate xs.length 0).map .int ++ [.int 1]),odd,.tup ([.bl true] ++ zs)]),r8,a9,r10] S6=.ok (.lst ([.tup ((List.replicate (xs.length + 1) 1).map .int),.lst ((trn xs.length).map .int),.tup ((trn xs.length).map .int ++ [.int 0]),.tup ((List.replicate xs.length 0).map .int ++ [.int 1]),odd,.tup ([.bl true] ++ zs)] ++ [.tup ([.int 2] ++ zs),.tup ([.int 0] ++ zs),.non])) S6:=
  eOp_go (eVar_go rfl) (eLst_go (aCons_go (eOp_go (eTup_go (xs:=[.int 2]) rfl z1) (sl_go (eVar_go rfl) (oPart_go rfl) rfl hz) (oAdd_t (by show 1 + zs.length≤sizeLine; omega))) (aCons_go (eOp_go (eTup_go (xs:=[.int 0]) rfl z1) (sl_go (eVar_go rfl) (oPart_go rfl) rfl hz) (oAdd_t (by show 1 + zs.length≤sizeLine; omega))) (aCons_go rfl rfl))) z3) (oAdd_l (by show 6 + 3≤sizeLine; omega))
 have rp:∀ (n:Nat) (v:Int),smallI v→∀ y ∈ (List.replicate n v).map D.int,Sm y:=fun n v h y hy=>by
  obtain ⟨i,hi,rfl⟩:=List.mem_map.mp hy
  rw [(List.mem_replicate.mp hi).2]
  exact sm_int h
 have ap:∀ {a b:List D},(∀ y ∈ a,Sm y)→(∀ y ∈ b,Sm y)→∀ y ∈ a ++ b,Sm y:=fun h k y hy=>(List.mem_append.mp hy).elim (h y) (k y)
 have on:∀ {a:D},Sm a→∀ y ∈ [a],Sm y:=fun h y hy=>by rw [List.mem_singleton.mp hy]; exact h
 obtain ⟨a8,a10,e8⟩:=bd_loop hr (some (.fz (ns.map .int))) (some (.int k)) (some (.ref S.length)) (some (.tup ((trn xs.length).map .int))) a6 (some (.lst [.tup ((List.replicate (xs.length + 1) 1).map .int),.lst ((trn xs.length).map .int),.tup ((trn xs.length).map .int ++ [.int 0]),.tup ((List.replicate xs.length 0).map .int ++ [.int 1]),odd,.tup ([.bl true] ++ zs)])) a9 S6 ([.tup ((List.replicate (xs.length + 1) 1).map .int),.lst ((trn xs.length).map .int),.tup ((trn xs.length).map .int ++ [.int 0]),.tup ((List.replicate xs.length 0).map .int ++ [.int 1]),odd,.tup ([.bl true] ++ zs)] ++ [.tup ([.int 2] ++ zs),.tup ([.int 0] ++ zs),.non]) r8 r10 (fun d hd=>by
  simp only [List.cons_append,List.nil_append,List.mem_cons,List.not_mem_nil,or_false] at hd
  rcases hd with rfl | rfl | rfl | rfl | rfl | rfl | rfl | rfl | rfl
  ·exact gd_tup (by rw [List.length_map,List.length_replicate]; omega) (rp _ _ (by decide))
  ·exact ⟨⟨rfl,fun ys e=>by cases e⟩,fun ys e=>by cases e⟩
  ·exact gd_tup (by rw [List.length_append,lt]; show xs.length + 1≤1000; omega) (ap (sg_sm tg) (on (sm_int (by decide))))
  ·exact gd_tup (by rw [List.length_append,List.length_map,List.length_replicate]; show xs.length + 1≤1000; omega) (ap (rp _ _ (by decide)) (on (sm_int (by decide))))
  ·exact odd_gd _ ho
  ·exact gd_tup (by show zs.length + 1≤1000; omega) (ap (on ⟨rfl,fun i e=>by cases e⟩) hzs)
  ·exact gd_tup (by show zs.length + 1≤1000; omega) (ap (on (sm_int (by decide))) hzs)
  ·exact gd_tup (by show zs.length + 1≤1000; omega) (ap (on (sm_int (by decide))) hzs)
  ·exact ⟨⟨rfl,fun ys e=>by cases e⟩,fun ys e=>by cases e⟩)
 refine ⟨S6,some (.ref S.length),some (.tup (xs.map .int)),some (.int xs.length),some (.tup ((trn xs.length).map .int)),a6,some (.lst [.tup ((List.replicate (xs.length + 1) 1).map .int),.lst ((trn xs.length).map .int),.tup ((trn xs.length).map .int ++ [.int 0]),.tup ((List.replicate xs.length 0).map .int ++ [.int 1]),odd,.tup ([.bl true] ++ zs)]),a8,a9,a10,?_⟩
 refine (sSeq_go (sSet_go ((eCall_go (aCons_go (eVar_go rfl) (aCons_go (eVar_go rfl) rfl))).trans e0))).trans ((sSeq_go (sSet_go ((eCall_go (aCons_go (eVar_go rfl) (aCons_go rfl rfl))).trans e1))).trans ((sSeq_go (sSet_go (eB_go (aCons_go (eVar_go rfl) rfl) (len_t xs)))).trans ((sSeq_go (sSet_go ht)).trans ?_)))
 refine (sSeq_go ((sFor_seq hL rfl).trans e3)).trans ?_
 refine (sSeq_go ((sIf_f (tV_go (eOp_go (eB_go (aCons_go ((eCall_go (aCons_go (eVar_go rfl) rfl)).trans eL4) rfl) hT4) (eB_go (aCons_go ((eCall_go (aCons_go (eVar_go rfl) rfl)).trans eL5) rfl) hT5) ne_self))).trans rfl)).trans ?_
 exact (sSeq_go (sSet_go hB1)).trans ((sFor_seq hB2 rfl).trans e8)
theorem law_loop (ns:List Int):∀ (l:List Nat) (S:Sto) (r1 r2 r3 r4 r5 r6 r7 r8 r9 r10:Option D),∃ (S':Sto) (ρ:Rho),forL (.nm 1) lawB (l.map fun (i:Nat)=>D.int i) [some (.fz (ns.map .int)),r1,r2,r3,r4,r5,r6,r7,r8,r9,r10] S=.ok (.nx ρ) S'
 | [],S,r1,r2,r3,r4,r5,r6,r7,r8,r9,r10=>⟨S,_,rfl⟩
 | k :: l,S,r1,r2,r3,r4,r5,r6,r7,r8,r9,r10=>by
  obtain ⟨S1,a2,a3,a4,a5,a6,a7,a8,a9,a10,e1⟩:=law_turn ns k S r2 r3 r4 r5 r6 r7 r8 r9 r10
  obtain ⟨S2,ρ,e2⟩:=law_loop ns l S1 (some (.int k)) a2 a3 a4 a5 a6 a7 a8 a9 a10
  exact ⟨S2,ρ,(forL_cons (r1:=[some (.fz (ns.map .int)),some (.int k),r2,r3,r4,r5,r6,r7,r8,r9,r10]) rfl e1).trans e2⟩
theorem law_true (ns:List Int) (hn:ns.length≤63):∃ S,F_law [.fz (ns.map .int)] []=.ok (.bl true) S:=by
 obtain ⟨n,hg,hn3⟩:=laps_le ns 4 hn (by decide) [some (.fz (ns.map .int)),none,none,none,none,none,none,none,none,none,none] rfl []
 obtain ⟨S,ρ,e⟩:=law_loop ns (List.range n) [] none none none none none none none none none none
 exact ⟨S,fnM_rt (ρ:=[some (.fz (ns.map .int)),none,none,none,none,none,none,none,none,none,none]) rfl ((sSeq_go ((sFor_go hg).trans e)).trans (sRet_go rfl))⟩
set_option maxHeartbeats 4000000
theorem boo_ValueError:bootBuiltins "ValueError" = some (.type "ValueError"):=by decide +kernel
theorem boo_abs:bootBuiltins "abs" = some (.builtin "abs"):=by decide +kernel
theorem boo_all:bootBuiltins "all" = some (.builtin "all"):=by decide +kernel
theorem boo_bool:bootBuiltins "bool" = some (.type "bool"):=by decide +kernel
theorem boo_divmod:bootBuiltins "divmod" = some (.builtin "divmod"):=by decide +kernel
theorem boo_int:bootBuiltins "int" = some (.type "int"):=by decide +kernel
theorem boo_isinstance:bootBuiltins "isinstance" = some (.builtin "isinstance"):=by decide +kernel
theorem boo_len:bootBuiltins "len" = some (.builtin "len"):=by decide +kernel
theorem boo_list:bootBuiltins "list" = some (.type "list"):=by decide +kernel
theorem boo_max:bootBuiltins "max" = some (.builtin "max"):=by decide +kernel
theorem boo_min:bootBuiltins "min" = some (.builtin "min"):=by decide +kernel
theorem boo_repr:bootBuiltins "repr" = some (.builtin "repr"):=by decide +kernel
theorem boo_tuple:bootBuiltins "tuple" = some (.type "tuple"):=by decide +kernel
structure Txt (K:PySem.W.Frag) (mg:Str→Option Value):Prop where
 cl:Cls K raisedX askedX isaX
 x_NoRow:XC K mg "NoRow"
 x_NoSigns:XC K mg "NoSigns"
 v_Bare:ClsAt K mg "Bare"
 v_Lacking:ClsAt K mg "Lacking"
 v_NoLine:ClsAt K mg "NoLine"
 v_NoNumber:ClsAt K mg "NoNumber"
 v_NoRow:ClsAt K mg "NoRow"
 v_NoSigns:ClsAt K mg "NoSigns"
 v_NoTable:ClsAt K mg "NoTable"
 v_NoText:ClsAt K mg "NoText"
 v_PlusError:ClsAt K mg "PlusError"
 v_TooMany:ClsAt K mg "TooMany"
 tr:TryAt K mg "PlusError" raisedX
 b_ValueError:mg "ValueError" = none
 b_abs:mg "abs" = none
 b_all:mg "all" = none
 b_bool:mg "bool" = none
 b_divmod:mg "divmod" = none
 b_int:mg "int" = none
 b_isinstance:mg "isinstance" = none
 b_len:mg "len" = none
 b_list:mg "list" = none
 b_max:mg "max" = none
 b_min:mg "min" = none
 b_range:mg "range" = none
 b_repr:mg "repr" = none
 b_tuple:mg "tuple" = none
 b_zip:mg "zip" = none
 c_LONGEST_ROW:∃ t,mg "LONGEST_ROW" = some (.int 16 t)
section
variable {P:Program} {w:World} {K:PySem.W.Frag} {mg:Str→Option Value} {base:Heap}
theorem sc__law_box:FnScope ["script","k","here","number","j","part"] ["script","k"] (defScope st__law_box):=⟨by kernel_rfl,by kernel_rfl,by kernel_rfl,by decide +kernel,rfl,by decide +kernel,by decide +kernel⟩
theorem ok__law_box {f:Addr} {fd:FuncData} (F:Fun K "_law_box" "_law_box" st__law_box f fd) (hm:mg "_law_box" = some (.ref f)) (hb:Binds K fd ["script","k"] []) (T:Txt K mg) :DefN P w K mg base "_law_box" 1 2 F__law_box:=
 def_ofN ["script","k","here","number","j","part"] ["script","k"] 0 1 2 6 rfl rfl rfl F hm hb sc__law_box (m:=m__law_box) fun cdv A outer s H E hr=>(ss_cons (ss_set sc__law_box.nd (by kernel_rfl) (Or.inl (by kernel_rfl)) (se_op xo_add (se_op xo_mul se_int (se_var 1 (by kernel_rfl) (Or.inl (by kernel_rfl)))) se_int)) (ss_cons (ss_if (st_cmp xo_lt (se_var 1 (by kernel_rfl) (Or.inl (by kernel_rfl))) (se_callB xc_len (by unfold Gl; kernel_rfl) T.b_len boo_len (sa_cons (se_var 0 (by kernel_rfl) (Or.inl (by kernel_rfl))) sa_nil))) (ss_one (ss_set sc__law_box.nd (by kernel_rfl) (Or.inl (by kernel_rfl)) (se_ix xi_ix (se_var 0 (by kernel_rfl) (Or.inl (by kernel_rfl))) (se_var 1 (by kernel_rfl) (Or.inl (by kernel_rfl)))))) ss_nil) (ss_cons (ss_if (st_cmp (xo_eqP hr) (se_op xo_mod (se_var 2 (by kernel_rfl) (Or.inl (by kernel_rfl))) se_int) se_int) (ss_one (ss_ret (se_new (sa_cons (se_op xo_fdiv (se_var 2 (by kernel_rfl) (Or.inl (by kernel_rfl))) se_int) sa_nil)))) ss_nil) (ss_cons (ss_set sc__law_box.nd (by kernel_rfl) (Or.inl (by kernel_rfl)) se_int) (ss_cons (ss_for PassesOwn.never rfl (si_range1 (by unfold Gl; kernel_rfl) T.b_range (sa_cons se_int sa_nil)) (sg_name sc__law_box.nd (by kernel_rfl) (Or.inl (by kernel_rfl))) (ss_cons (ss_set sc__law_box.nd (by kernel_rfl) (Or.inl (by kernel_rfl)) (se_op xo_mod (se_op xo_add (se_op xo_add (se_op xo_mul (se_op xo_mod (se_var 2 (by kernel_rfl) (Or.inl (by kernel_rfl))) se_int) se_int) (se_op xo_mul se_int (se_var 4 (by kernel_rfl) (Or.inl (by kernel_rfl))))) se_int) se_int)) (ss_cons (ss_set sc__law_box.nd (by kernel_rfl) (Or.inl (by kernel_rfl)) (se_op xo_mod (se_op xo_mul (se_var 5 (by kernel_rfl) (Or.inl (by kernel_rfl))) (se_var 5 (by kernel_rfl) (Or.inl (by kernel_rfl)))) se_int)) (ss_one (ss_set sc__law_box.nd (by kernel_rfl) (Or.inl (by kernel_rfl)) (se_op xo_add (se_op xo_mul (se_var 3 (by kernel_rfl) (Or.inl (by kernel_rfl))) se_int) (se_op xo_mod (se_op xo_mul (se_var 5 (by kernel_rfl) (Or.inl (by kernel_rfl))) (se_op xo_add (se_var 5 (by kernel_rfl) (Or.inl (by kernel_rfl))) se_int)) se_int))))))) (ss_one (ss_ret (se_new (sa_cons (se_var 3 (by kernel_rfl) (Or.inl (by kernel_rfl))) sa_nil)))))))))
theorem sc__law_leaning:FnScope ["row","found","here","number"] ["row"] (defScope st__law_leaning):=⟨by kernel_rfl,by kernel_rfl,by kernel_rfl,by decide +kernel,rfl,by decide +kernel,by decide +kernel⟩
theorem ok__law_leaning {f:Addr} {fd:FuncData} (F:Fun K "_law_leaning" "_law_leaning" st__law_leaning f fd) (hm:mg "_law_leaning" = some (.ref f)) (hb:Binds K fd ["row"] []) (T:Txt K mg) :DefN P w K mg base "_law_leaning" 1 1 F__law_leaning:=
 def_ofN ["row","found","here","number"] ["row"] 0 1 1 4 rfl rfl rfl F hm hb sc__law_leaning (m:=m__law_leaning) fun cdv A outer s H E hr=>(ss_cons (ss_par rfl sc__law_leaning.nd (by kernel_rfl) (by kernel_rfl) (by decide) (by kernel_rfl) (by kernel_rfl) (sa_cons (se_new sa_nil) (sa_cons se_int sa_nil))) (ss_cons (ss_for PassesOwn.never rfl (si_seq (se_var 0 (by kernel_rfl) (Or.inl (by kernel_rfl)))) (sg_name sc__law_leaning.nd (by kernel_rfl) (Or.inl (by kernel_rfl))) (ss_cons (ss_expr (se_mtL PySem.F.plainAttrs_list PySem.F.slot_list_append PySem.F.type_list_append xm_append (se_var 1 (by kernel_rfl) (Or.inl (by kernel_rfl))) (sa_cons (se_ix xi_ix (se_lst (sa_cons se_int (sa_cons (se_un xu_neg se_int) sa_nil))) (se_callTy xc_int (by unfold Gl; kernel_rfl) T.b_int boo_int (sa_cons (se_cmp xo_gt (se_var 2 (by kernel_rfl) (Or.inl (by kernel_rfl))) se_int) sa_nil))) sa_nil))) (ss_one (ss_set sc__law_leaning.nd (by kernel_rfl) (Or.inl (by kernel_rfl)) (se_op xo_add (se_var 2 (by kernel_rfl) (Or.inl (by kernel_rfl))) (se_op xo_mul (se_ix xi_ix (se_var 1 (by kernel_rfl) (Or.inl (by kernel_rfl))) (se_un xu_neg se_int)) (se_var 3 (by kernel_rfl) (Or.inl (by kernel_rfl))))))))) (ss_one (ss_ret (se_callTy xc_tuple (by unfold Gl; kernel_rfl) T.b_tuple boo_tuple (sa_cons (se_var 1 (by kernel_rfl) (Or.inl (by kernel_rfl))) sa_nil))))))
theorem sc__law_take:FnScope ["box","many","left","digit"] ["box","many"] (defScope st__law_take):=⟨by kernel_rfl,by kernel_rfl,by kernel_rfl,by decide +kernel,rfl,by decide +kernel,by decide +kernel⟩
theorem ok__law_take {f:Addr} {fd:FuncData} (F:Fun K "_law_take" "_law_take" st__law_take f fd) (hm:mg "_law_take" = some (.ref f)) (hb:Binds K fd ["box","many"] []) (T:Txt K mg) :DefN P w K mg base "_law_take" 1 2 F__law_take:=
 def_ofN ["box","many","left","digit"] ["box","many"] 0 1 2 4 rfl rfl rfl F hm hb sc__law_take (m:=m__law_take) fun cdv A outer s H E hr=>(ss_cons (ss_asg (se_callB xc_divmod (by unfold Gl; kernel_rfl) T.b_divmod boo_divmod (sa_cons (se_ix xi_ix (se_var 0 (by kernel_rfl) (Or.inl (by kernel_rfl))) se_int) (sa_cons (se_var 1 (by kernel_rfl) (Or.inl (by kernel_rfl))) sa_nil))) (sg_tup rfl (sgs_cons (sg_name sc__law_take.nd (by kernel_rfl) (Or.inl (by kernel_rfl))) (sgs_cons (sg_name sc__law_take.nd (by kernel_rfl) (Or.inl (by kernel_rfl))) sgs_nil)))) (ss_cons (ss_put xs_put (se_var 2 (by kernel_rfl) (Or.inl (by kernel_rfl))) (se_var 0 (by kernel_rfl) (Or.inl (by kernel_rfl))) se_int) (ss_one (ss_ret (se_var 3 (by kernel_rfl) (Or.inl (by kernel_rfl)))))))
theorem sc__law_odd:FnScope ["box","some"] ["box"] (defScope st__law_odd):=⟨by kernel_rfl,by kernel_rfl,by kernel_rfl,by decide +kernel,rfl,by decide +kernel,by decide +kernel⟩
theorem ok__law_odd {f:Addr} {fd:FuncData} (F:Fun K "_law_odd" "_law_odd" st__law_odd f fd) (hm:mg "_law_odd" = some (.ref f)) (hb:Binds K fd ["box"] []) (T:Txt K mg) (d__law_take:DefN P w K mg base "_law_take" 1 2 F__law_take):DefN P w K mg base "_law_odd" 2 1 F__law_odd:=
 def_ofN ["box","some"] ["box"] 1 2 1 2 rfl rfl rfl F hm hb sc__law_odd (m:=m__law_odd) fun cdv A outer s H E hr=>(ss_cons (ss_set sc__law_odd.nd (by kernel_rfl) (Or.inl (by kernel_rfl)) (se_lst (sa_cons se_non (sa_cons se_bl (sa_cons se_bl (sa_cons (se_un xu_neg se_int) (sa_cons se_int (sa_cons se_str (sa_cons se_str (sa_cons (se_tup (sa_cons se_int sa_nil)) (sa_cons (se_lst (sa_cons se_int sa_nil)) (sa_cons (se_dic (sps_cons se_str se_int sps_nil)) (sa_cons (se_tup (sa_cons (se_un xu_neg se_int) sa_nil)) (sa_cons (se_tup (sa_cons se_bl sa_nil)) (sa_cons (se_tup (sa_cons (se_tup (sa_cons se_int sa_nil)) sa_nil)) (sa_cons (se_tup (sa_cons se_non sa_nil)) (sa_cons (se_op xo_pow se_int se_int) (sa_cons (se_lst sa_nil) sa_nil)))))))))))))))))) (ss_one (ss_ret (se_ix xi_ix (se_var 1 (by kernel_rfl) (Or.inl (by kernel_rfl))) (se_fnN d__law_take (hr.mono (by decide)) (by unfold Gl; kernel_rfl) (sa_cons (se_var 0 (by kernel_rfl) (Or.inl (by kernel_rfl))) (sa_cons se_int sa_nil)) (alen_cons (alen_cons alen_nil)))))))
theorem sc__law_row:FnScope ["box","most","many","kind","base","found","k","given"] ["box","most"] (defScope st__law_row):=⟨by kernel_rfl,by kernel_rfl,by kernel_rfl,by decide +kernel,rfl,by decide +kernel,by decide +kernel⟩
theorem ok__law_row {f:Addr} {fd:FuncData} (F:Fun K "_law_row" "_law_row" st__law_row f fd) (hm:mg "_law_row" = some (.ref f)) (hb:Binds K fd ["box","most"] []) (T:Txt K mg) (d__law_take:DefN P w K mg base "_law_take" 1 2 F__law_take):DefN P w K mg base "_law_row" 2 2 F__law_row:=
 def_ofN ["box","most","many","kind","base","found","k","given"] ["box","most"] 1 2 2 8 rfl rfl rfl F hm hb sc__law_row (m:=m__law_row) fun cdv A outer s H E hr=>(ss_cons (ss_set sc__law_row.nd (by kernel_rfl) (Or.inl (by kernel_rfl)) (se_fnN d__law_take (hr.mono (by decide)) (by unfold Gl; kernel_rfl) (sa_cons (se_var 0 (by kernel_rfl) (Or.inl (by kernel_rfl))) (sa_cons (se_op xo_add (se_var 1 (by kernel_rfl) (Or.inl (by kernel_rfl))) se_int) sa_nil)) (alen_cons (alen_cons alen_nil)))) (ss_cons (ss_set sc__law_row.nd (by kernel_rfl) (Or.inl (by kernel_rfl)) (se_fnN d__law_take (hr.mono (by decide)) (by unfold Gl; kernel_rfl) (sa_cons (se_var 0 (by kernel_rfl) (Or.inl (by kernel_rfl))) (sa_cons se_int sa_nil)) (alen_cons (alen_cons alen_nil)))) (ss_cons (ss_set sc__law_row.nd (by kernel_rfl) (Or.inl (by kernel_rfl)) (se_op xo_add se_int (se_fnN d__law_take (hr.mono (by decide)) (by unfold Gl; kernel_rfl) (sa_cons (se_var 0 (by kernel_rfl) (Or.inl (by kernel_rfl))) (sa_cons se_int sa_nil)) (alen_cons (alen_cons alen_nil))))) (ss_cons (ss_set sc__law_row.nd (by kernel_rfl) (Or.inl (by kernel_rfl)) (se_new sa_nil)) (ss_cons (ss_for PassesOwn.never rfl (si_range1 (by unfold Gl; kernel_rfl) T.b_range (sa_cons (se_var 2 (by kernel_rfl) (Or.inl (by kernel_rfl))) sa_nil)) (sg_name sc__law_row.nd (by kernel_rfl) (Or.inl (by kernel_rfl))) (ss_cons (ss_set sc__law_row.nd (by kernel_rfl) (Or.inl (by kernel_rfl)) (se_op xo_add se_int (se_fnN d__law_take (hr.mono (by decide)) (by unfold Gl; kernel_rfl) (sa_cons (se_var 0 (by kernel_rfl) (Or.inl (by kernel_rfl))) (sa_cons se_int sa_nil)) (alen_cons (alen_cons alen_nil))))) (ss_one (ss_expr (se_mtL PySem.F.plainAttrs_list PySem.F.slot_list_append PySem.F.type_list_append xm_append (se_var 5 (by kernel_rfl) (Or.inl (by kernel_rfl))) (sa_cons (se_ix xi_ix (se_lst (sa_cons (se_var 7 (by kernel_rfl) (Or.inl (by kernel_rfl))) (sa_cons (se_var 7 (by kernel_rfl) (Or.inl (by kernel_rfl))) (sa_cons (se_var 4 (by kernel_rfl) (Or.inl (by kernel_rfl))) (sa_cons (se_op xo_shl se_int (se_var 6 (by kernel_rfl) (Or.inl (by kernel_rfl)))) (sa_cons (se_op xo_add (se_var 4 (by kernel_rfl) (Or.inl (by kernel_rfl))) (se_op xo_mul (se_var 6 (by kernel_rfl) (Or.inl (by kernel_rfl))) (se_var 7 (by kernel_rfl) (Or.inl (by kernel_rfl))))) (sa_cons (se_op xo_add (se_op xo_mul (se_op xo_pow se_int se_int) (se_var 7 (by kernel_rfl) (Or.inl (by kernel_rfl)))) (se_var 4 (by kernel_rfl) (Or.inl (by kernel_rfl)))) sa_nil))))))) (se_var 3 (by kernel_rfl) (Or.inl (by kernel_rfl)))) sa_nil)))))) (ss_one (ss_ret (se_callTy xc_tuple (by unfold Gl; kernel_rfl) T.b_tuple boo_tuple (sa_cons (se_var 5 (by kernel_rfl) (Or.inl (by kernel_rfl))) sa_nil)))))))))
theorem sc__law_classes:FnScope ["e","found"] ["e"] (defScope st__law_classes):=⟨by kernel_rfl,by kernel_rfl,by kernel_rfl,by decide +kernel,rfl,by decide +kernel,by decide +kernel⟩
theorem ok__law_classes {f:Addr} {fd:FuncData} (F:Fun K "_law_classes" "_law_classes" st__law_classes f fd) (hm:mg "_law_classes" = some (.ref f)) (hb:Binds K fd ["e"] []) (T:Txt K mg) :DefM P w K mg base "_law_classes" 1 1 F__law_classes:=
 def_ofM ["e","found"] ["e"] 0 1 1 2 rfl rfl rfl F hm hb sc__law_classes (m:=m__law_classes) fun cdv A outer s H hr hq=>(ss_cons (ss_set sc__law_classes.nd (by kernel_rfl) (Or.inl (by kernel_rfl)) (se_lst (sa_cons (se_callB (xc_isx T.cl) (by unfold Gl; kernel_rfl) T.b_isinstance boo_isinstance (sa_cons (se_var 0 (by kernel_rfl) (Or.inl (by kernel_rfl))) (sa_cons (se_cls T.v_NoRow (by unfold Gl; kernel_rfl)) sa_nil))) (sa_cons (se_callB (xc_isx T.cl) (by unfold Gl; kernel_rfl) T.b_isinstance boo_isinstance (sa_cons (se_var 0 (by kernel_rfl) (Or.inl (by kernel_rfl))) (sa_cons (se_cls T.v_NoNumber (by unfold Gl; kernel_rfl)) sa_nil))) (sa_cons (se_callB (xc_isx T.cl) (by unfold Gl; kernel_rfl) T.b_isinstance boo_isinstance (sa_cons (se_var 0 (by kernel_rfl) (Or.inl (by kernel_rfl))) (sa_cons (se_cls T.v_NoSigns (by unfold Gl; kernel_rfl)) sa_nil))) (sa_cons (se_callB (xc_isx T.cl) (by unfold Gl; kernel_rfl) T.b_isinstance boo_isinstance (sa_cons (se_var 0 (by kernel_rfl) (Or.inl (by kernel_rfl))) (sa_cons (se_cls T.v_TooMany (by unfold Gl; kernel_rfl)) sa_nil))) sa_nil)))))) (ss_cons (ss_set sc__law_classes.nd (by kernel_rfl) (Or.inl (by kernel_rfl)) (se_op xo_add (se_var 1 (by kernel_rfl) (Or.inl (by kernel_rfl))) (se_lst (sa_cons (se_callB (xc_isx T.cl) (by unfold Gl; kernel_rfl) T.b_isinstance boo_isinstance (sa_cons (se_var 0 (by kernel_rfl) (Or.inl (by kernel_rfl))) (sa_cons (se_cls T.v_Lacking (by unfold Gl; kernel_rfl)) sa_nil))) (sa_cons (se_callB (xc_isx T.cl) (by unfold Gl; kernel_rfl) T.b_isinstance boo_isinstance (sa_cons (se_var 0 (by kernel_rfl) (Or.inl (by kernel_rfl))) (sa_cons (se_cls T.v_Bare (by unfold Gl; kernel_rfl)) sa_nil))) (sa_cons (se_callB (xc_isx T.cl) (by unfold Gl; kernel_rfl) T.b_isinstance boo_isinstance (sa_cons (se_var 0 (by kernel_rfl) (Or.inl (by kernel_rfl))) (sa_cons (se_cls T.v_NoTable (by unfold Gl; kernel_rfl)) sa_nil))) (sa_cons (se_callB (xc_isx T.cl) (by unfold Gl; kernel_rfl) T.b_isinstance boo_isinstance (sa_cons (se_var 0 (by kernel_rfl) (Or.inl (by kernel_rfl))) (sa_cons (se_cls T.v_NoLine (by unfold Gl; kernel_rfl)) sa_nil))) sa_nil))))))) (ss_one (ss_ret (se_op xo_add (se_var 1 (by kernel_rfl) (Or.inl (by kernel_rfl))) (se_lst (sa_cons (se_callB (xc_isx T.cl) (by unfold Gl; kernel_rfl) T.b_isinstance boo_isinstance (sa_cons (se_var 0 (by kernel_rfl) (Or.inl (by kernel_rfl))) (sa_cons (se_cls T.v_NoText (by unfold Gl; kernel_rfl)) sa_nil))) sa_nil)))))))
theorem sc__law_only:FnScope ["e","place"] ["e","place"] (defScope st__law_only):=⟨by kernel_rfl,by kernel_rfl,by kernel_rfl,by decide +kernel,rfl,by decide +kernel,by decide +kernel⟩
theorem ok__law_only {f:Addr} {fd:FuncData} (F:Fun K "_law_only" "_law_only" st__law_only f fd) (hm:mg "_law_only" = some (.ref f)) (hb:Binds K fd ["e","place"] []) (T:Txt K mg) (d__law_classes:DefM P w K mg base "_law_classes" 1 1 F__law_classes):DefM P w K mg base "_law_only" 2 2 F__law_only:=
 def_ofM ["e","place"] ["e","place"] 1 2 2 2 rfl rfl rfl F hm hb sc__law_only (m:=m__law_only) fun cdv A outer s H hr hq=>(ss_cons (ss_if (sw_st (sw_or (st_not (st_val (se_callB (xc_isx T.cl) (by unfold Gl; kernel_rfl) T.b_isinstance boo_isinstance (sa_cons (se_var 0 (by kernel_rfl) (Or.inl (by kernel_rfl))) (sa_cons (se_cls T.v_PlusError (by unfold Gl; kernel_rfl)) sa_nil))))) (sw_or1 (st_not (st_val (se_callB (xc_isx T.cl) (by unfold Gl; kernel_rfl) T.b_isinstance boo_isinstance (sa_cons (se_var 0 (by kernel_rfl) (Or.inl (by kernel_rfl))) (sa_cons (se_ty (by unfold Gl; kernel_rfl) T.b_ValueError boo_ValueError) sa_nil)))))))) (ss_one (ss_ret se_bl)) ss_nil) (ss_one (ss_ret (se_cmp (xo_eqPM hr) (se_fnM d__law_classes (hr.mono (by decide)) hq (by unfold Gl; kernel_rfl) (sa_cons (se_var 0 (by kernel_rfl) (Or.inl (by kernel_rfl))) sa_nil) (alen_cons alen_nil)) (se_compQ (qb:=true) (N:=["k","place"]) (k:=1) (caps:=[1]) (.inr ⟨rfl,hq⟩) (fun _ _ z=>z) (cs_mk (by kernel_rfl) (by kernel_rfl) (by kernel_rfl) (by kernel_rfl) rfl (by kernel_rfl)) (si_range1 (by unfold Gl; kernel_rfl) T.b_range (sa_cons se_int sa_nil)) (fun _ _ _ _ cq=>(sg_name (show (["k","place"]:List Str).Nodup by decide +kernel) (by kernel_rfl) (Or.inl (by kernel_rfl)))) (fun _ _ _ _ cq=>sif_nil) (fun _ _ _ _ cq=>(se_cmp xo_eq (se_var 0 (by kernel_rfl) (Or.inl (by kernel_rfl))) (se_var 1 (by kernel_rfl) (Or.inr (Or.inl (by kernel_rfl)))))))))))
theorem sc_is_whole:FnScope ["thing"] ["thing"] (defScope st_is_whole):=⟨by kernel_rfl,by kernel_rfl,by kernel_rfl,by decide +kernel,rfl,by decide +kernel,by decide +kernel⟩
theorem ok_is_whole {f:Addr} {fd:FuncData} (F:Fun K "is_whole" "is_whole" st_is_whole f fd) (hm:mg "is_whole" = some (.ref f)) (hb:Binds K fd ["thing"] []) (T:Txt K mg) :DefN P w K mg base "is_whole" 1 1 F_is_whole:=
 def_ofN ["thing"] ["thing"] 0 1 1 1 rfl rfl rfl F hm hb sc_is_whole (m:=m_is_whole) fun cdv A outer s H E hr=>(ss_one (ss_ret (se_and (se_callB xc_isi (by unfold Gl; kernel_rfl) T.b_isinstance boo_isinstance (sa_cons (se_var 0 (by kernel_rfl) (Or.inl (by kernel_rfl))) (sa_cons (se_ty (by unfold Gl; kernel_rfl) T.b_int boo_int) sa_nil))) (se_one (se_not (se_callB xc_isi (by unfold Gl; kernel_rfl) T.b_isinstance boo_isinstance (sa_cons (se_var 0 (by kernel_rfl) (Or.inl (by kernel_rfl))) (sa_cons (se_ty (by unfold Gl; kernel_rfl) T.b_bool boo_bool) sa_nil))))))))
theorem sc_is_row:FnScope ["thing"] ["thing"] (defScope st_is_row):=⟨by kernel_rfl,by kernel_rfl,by kernel_rfl,by decide +kernel,rfl,by decide +kernel,by decide +kernel⟩
theorem ok_is_row {f:Addr} {fd:FuncData} (F:Fun K "is_row" "is_row" st_is_row f fd) (hm:mg "is_row" = some (.ref f)) (hb:Binds K fd ["thing"] []) (T:Txt K mg) (d_is_whole:DefN P w K mg base "is_whole" 1 1 F_is_whole):DefN P w K mg base "is_row" 2 1 F_is_row:=
 def_ofN ["thing"] ["thing"] 1 2 1 1 rfl rfl rfl F hm hb sc_is_row (m:=m_is_row) fun cdv A outer s H E hr=>(ss_cons (ss_if (sw_st (sw_or (st_not (st_val (se_callB xc_isi (by unfold Gl; kernel_rfl) T.b_isinstance boo_isinstance (sa_cons (se_var 0 (by kernel_rfl) (Or.inl (by kernel_rfl))) (sa_cons (se_ty (by unfold Gl; kernel_rfl) T.b_tuple boo_tuple) sa_nil))))) (sw_or1 (st_cmp xo_gt (se_callB xc_len (by unfold Gl; kernel_rfl) T.b_len boo_len (sa_cons (se_var 0 (by kernel_rfl) (Or.inl (by kernel_rfl))) sa_nil)) (se_gi T.c_LONGEST_ROW (by unfold Gl; kernel_rfl)))))) (ss_one (ss_ret se_bl)) ss_nil) (ss_one (ss_ret (se_callB (xc_all rfl) (by unfold Gl; kernel_rfl) T.b_all boo_all (sa_cons (se_comp (N:=["number"]) (k:=1) (caps:=[]) rfl (fun _ _ z=>z) (cs_mk (by kernel_rfl) (by kernel_rfl) (by kernel_rfl) (by kernel_rfl) rfl (by kernel_rfl)) (si_seq (se_var 0 (by kernel_rfl) (Or.inl (by kernel_rfl)))) (fun _ _ _ _=>(sg_name (show (["number"]:List Str).Nodup by decide +kernel) (by kernel_rfl) (Or.inl (by kernel_rfl)))) (fun _ _ _ _=>sif_nil) (fun _ _ _ _=>(se_and (se_fnN d_is_whole (hr.mono (by decide)) (by unfold Gl; kernel_rfl) (sa_cons (se_var 0 (by kernel_rfl) (Or.inl (by kernel_rfl))) sa_nil) (alen_cons alen_nil)) (se_one (se_cmp xo_ge (se_var 0 (by kernel_rfl) (Or.inl (by kernel_rfl))) se_int))))) sa_nil)))))
theorem sc_need_row:FnScope ["thing"] ["thing"] (defScope st_need_row):=⟨by kernel_rfl,by kernel_rfl,by kernel_rfl,by decide +kernel,rfl,by decide +kernel,by decide +kernel⟩
theorem ok_need_row {f:Addr} {fd:FuncData} (F:Fun K "need_row" "need_row" st_need_row f fd) (hm:mg "need_row" = some (.ref f)) (hb:Binds K fd ["thing"] []) (T:Txt K mg) (d_is_row:DefN P w K mg base "is_row" 2 1 F_is_row):DefR P w K mg base "need_row" 3 1 F_need_row:=
 def_ofR ["thing"] ["thing"] 2 3 1 1 rfl rfl rfl F hm hb sc_need_row (m:=m_need_row) fun cdv A outer s H E hr=>(ss_one (ss_if (st_nx (st_not (st_val (se_fnN d_is_row (hr.mono (by decide)) (by unfold Gl; kernel_rfl) (sa_cons (se_var 0 (by kernel_rfl) (Or.inl (by kernel_rfl))) sa_nil) (alen_cons alen_nil))))) (ss_one (ss_raise T.x_NoRow raises_cx hr.hd (by unfold Gl; kernel_rfl) (sa_cons se_str sa_nil))) ss_nil))
theorem sc_are_whole:FnScope ["thing","many"] ["thing","many"] (defScope st_are_whole):=⟨by kernel_rfl,by kernel_rfl,by kernel_rfl,by decide +kernel,rfl,by decide +kernel,by decide +kernel⟩
theorem ok_are_whole {f:Addr} {fd:FuncData} (F:Fun K "are_whole" "are_whole" st_are_whole f fd) (hm:mg "are_whole" = some (.ref f)) (hb:Binds K fd ["thing","many"] []) (T:Txt K mg) (d_is_whole:DefN P w K mg base "is_whole" 1 1 F_is_whole):DefN P w K mg base "are_whole" 2 2 F_are_whole:=
 def_ofN ["thing","many"] ["thing","many"] 1 2 2 2 rfl rfl rfl F hm hb sc_are_whole (m:=m_are_whole) fun cdv A outer s H E hr=>(ss_one (ss_ret (se_and (se_callB xc_isi (by unfold Gl; kernel_rfl) T.b_isinstance boo_isinstance (sa_cons (se_var 0 (by kernel_rfl) (Or.inl (by kernel_rfl))) (sa_cons (se_ty (by unfold Gl; kernel_rfl) T.b_tuple boo_tuple) sa_nil))) (se_and (se_cmp (xo_eqP hr) (se_callB xc_len (by unfold Gl; kernel_rfl) T.b_len boo_len (sa_cons (se_var 0 (by kernel_rfl) (Or.inl (by kernel_rfl))) sa_nil)) (se_var 1 (by kernel_rfl) (Or.inl (by kernel_rfl)))) (se_one (se_callB (xc_all rfl) (by unfold Gl; kernel_rfl) T.b_all boo_all (sa_cons (se_comp (N:=["number"]) (k:=1) (caps:=[]) rfl (fun _ _ z=>z) (cs_mk (by kernel_rfl) (by kernel_rfl) (by kernel_rfl) (by kernel_rfl) rfl (by kernel_rfl)) (si_seq (se_var 0 (by kernel_rfl) (Or.inl (by kernel_rfl)))) (fun _ _ _ _=>(sg_name (show (["number"]:List Str).Nodup by decide +kernel) (by kernel_rfl) (Or.inl (by kernel_rfl)))) (fun _ _ _ _=>sif_nil) (fun _ _ _ _=>(se_fnN d_is_whole (hr.mono (by decide)) (by unfold Gl; kernel_rfl) (sa_cons (se_var 0 (by kernel_rfl) (Or.inl (by kernel_rfl))) sa_nil) (alen_cons alen_nil)))) sa_nil)))))))
theorem sc_are_so_many_signs:FnScope ["thing","many"] ["thing","many"] (defScope st_are_so_many_signs):=⟨by kernel_rfl,by kernel_rfl,by kernel_rfl,by decide +kernel,rfl,by decide +kernel,by decide +kernel⟩
theorem ok_are_so_many_signs {f:Addr} {fd:FuncData} (F:Fun K "are_so_many_signs" "are_so_many_signs" st_are_so_many_signs f fd) (hm:mg "are_so_many_signs" = some (.ref f)) (hb:Binds K fd ["thing","many"] []) (T:Txt K mg) (d_are_whole:DefN P w K mg base "are_whole" 2 2 F_are_whole):DefN P w K mg base "are_so_many_signs" 3 2 F_are_so_many_signs:=
 def_ofN ["thing","many"] ["thing","many"] 2 3 2 2 rfl rfl rfl F hm hb sc_are_so_many_signs (m:=m_are_so_many_signs) fun cdv A outer s H E hr=>(ss_one (ss_ret (se_and (se_fnN d_are_whole (hr.mono (by decide)) (by unfold Gl; kernel_rfl) (sa_cons (se_var 0 (by kernel_rfl) (Or.inl (by kernel_rfl))) (sa_cons (se_var 1 (by kernel_rfl) (Or.inl (by kernel_rfl))) sa_nil)) (alen_cons (alen_cons alen_nil))) (se_one (se_callB (xc_all rfl) (by unfold Gl; kernel_rfl) T.b_all boo_all (sa_cons (se_comp (N:=["sign"]) (k:=1) (caps:=[]) rfl (fun _ _ z=>z) (cs_mk (by kernel_rfl) (by kernel_rfl) (by kernel_rfl) (by kernel_rfl) rfl (by kernel_rfl)) (si_seq (se_var 0 (by kernel_rfl) (Or.inl (by kernel_rfl)))) (fun _ _ _ _=>(sg_name (show (["sign"]:List Str).Nodup by decide +kernel) (by kernel_rfl) (Or.inl (by kernel_rfl)))) (fun _ _ _ _=>sif_nil) (fun _ _ _ _=>(se_cmp (xo_eqP hr) (se_callB xc_abs (by unfold Gl; kernel_rfl) T.b_abs boo_abs (sa_cons (se_var 0 (by kernel_rfl) (Or.inl (by kernel_rfl))) sa_nil)) se_int))) sa_nil))))))
theorem sc_need_so_many_signs:FnScope ["thing","many"] ["thing","many"] (defScope st_need_so_many_signs):=⟨by kernel_rfl,by kernel_rfl,by kernel_rfl,by decide +kernel,rfl,by decide +kernel,by decide +kernel⟩
theorem ok_need_so_many_signs {f:Addr} {fd:FuncData} (F:Fun K "need_so_many_signs" "need_so_many_signs" st_need_so_many_signs f fd) (hm:mg "need_so_many_signs" = some (.ref f)) (hb:Binds K fd ["thing","many"] []) (T:Txt K mg) (d_are_so_many_signs:DefN P w K mg base "are_so_many_signs" 3 2 F_are_so_many_signs):DefR P w K mg base "need_so_many_signs" 4 2 F_need_so_many_signs:=
 def_ofR ["thing","many"] ["thing","many"] 3 4 2 2 rfl rfl rfl F hm hb sc_need_so_many_signs (m:=m_need_so_many_signs) fun cdv A outer s H E hr=>(ss_one (ss_if (st_nx (st_not (st_val (se_fnN d_are_so_many_signs (hr.mono (by decide)) (by unfold Gl; kernel_rfl) (sa_cons (se_var 0 (by kernel_rfl) (Or.inl (by kernel_rfl))) (sa_cons (se_var 1 (by kernel_rfl) (Or.inl (by kernel_rfl))) sa_nil)) (alen_cons (alen_cons alen_nil)))))) (ss_one (ss_raise T.x_NoSigns raises_cx hr.hd (by unfold Gl; kernel_rfl) (sa_cons (se_nx (se_fst3 (se_var 1 (by kernel_rfl) (Or.inl (by kernel_rfl))))) sa_nil))) ss_nil))
theorem sc_swing:FnScope ["row","signs","reached","greatest","step","sign"] ["row","signs"] (defScope st_swing):=⟨by kernel_rfl,by kernel_rfl,by kernel_rfl,by decide +kernel,rfl,by decide +kernel,by decide +kernel⟩
theorem ok_swing {f:Addr} {fd:FuncData} (F:Fun K "swing" "swing" st_swing f fd) (hm:mg "swing" = some (.ref f)) (hb:Binds K fd ["row","signs"] []) (T:Txt K mg) (d_need_row:DefR P w K mg base "need_row" 3 1 F_need_row) (d_need_so_many_signs:DefR P w K mg base "need_so_many_signs" 4 2 F_need_so_many_signs):DefR P w K mg base "swing" 5 2 F_swing:=
 def_ofR ["row","signs","reached","greatest","step","sign"] ["row","signs"] 4 5 2 6 rfl rfl rfl F hm hb sc_swing (m:=m_swing) fun cdv A outer s H E hr=>(ss_cons (ss_expr (se_fnR d_need_row passes_cx (hr.mono (by decide)) (by unfold Gl; kernel_rfl) (sa_cons (se_var 0 (by kernel_rfl) (Or.inl (by kernel_rfl))) sa_nil) (alen_cons alen_nil))) (ss_cons (ss_expr (se_fnR d_need_so_many_signs passes_cx (hr.mono (by decide)) (by unfold Gl; kernel_rfl) (sa_cons (se_var 1 (by kernel_rfl) (Or.inl (by kernel_rfl))) (sa_cons (se_nx (se_callB xc_len (by unfold Gl; kernel_rfl) T.b_len boo_len (sa_cons (se_var 0 (by kernel_rfl) (Or.inl (by kernel_rfl))) sa_nil))) sa_nil)) (alen_cons (alen_cons alen_nil)))) (ss_cons (ss_nx (ss_set sc_swing.nd (by kernel_rfl) (Or.inl (by kernel_rfl)) se_int)) (ss_cons (ss_nx (ss_set sc_swing.nd (by kernel_rfl) (Or.inl (by kernel_rfl)) se_int)) (ss_cons (ss_nx (ss_for PassesOwn.never rfl (si_zip (by unfold Gl; kernel_rfl) T.b_zip (sa_cons (se_var 0 (by kernel_rfl) (Or.inl (by kernel_rfl))) (sa_cons (se_var 1 (by kernel_rfl) (Or.inl (by kernel_rfl))) sa_nil))) (sg_tup rfl (sgs_cons (sg_name sc_swing.nd (by kernel_rfl) (Or.inl (by kernel_rfl))) (sgs_cons (sg_name sc_swing.nd (by kernel_rfl) (Or.inl (by kernel_rfl))) sgs_nil))) (ss_cons (ss_set sc_swing.nd (by kernel_rfl) (Or.inl (by kernel_rfl)) (se_op xo_add (se_var 2 (by kernel_rfl) (Or.inl (by kernel_rfl))) (se_op xo_mul (se_var 5 (by kernel_rfl) (Or.inl (by kernel_rfl))) (se_var 4 (by kernel_rfl) (Or.inl (by kernel_rfl)))))) (ss_one (ss_set sc_swing.nd (by kernel_rfl) (Or.inl (by kernel_rfl)) (se_callB (xc_max rfl) (by unfold Gl; kernel_rfl) T.b_max boo_max (sa_cons (se_var 3 (by kernel_rfl) (Or.inl (by kernel_rfl))) (sa_cons (se_callB xc_abs (by unfold Gl; kernel_rfl) T.b_abs boo_abs (sa_cons (se_var 2 (by kernel_rfl) (Or.inl (by kernel_rfl))) sa_nil)) sa_nil)))))))) (ss_one (ss_nx (ss_ret (se_var 3 (by kernel_rfl) (Or.inl (by kernel_rfl)))))))))))
theorem sc__law_said:FnScope ["row","signs","e"] ["row","signs"] (defScope st__law_said):=⟨by kernel_rfl,by kernel_rfl,by kernel_rfl,by decide +kernel,rfl,by decide +kernel,by decide +kernel⟩
theorem ok__law_said {f:Addr} {fd:FuncData} (F:Fun K "_law_said" "_law_said" st__law_said f fd) (hm:mg "_law_said" = some (.ref f)) (hb:Binds K fd ["row","signs"] []) (T:Txt K mg) (d__law_only:DefM P w K mg base "_law_only" 2 2 F__law_only) (d_swing:DefR P w K mg base "swing" 5 2 F_swing):DefN P w K mg base "_law_said" 6 2 F__law_said:=
 def_ofN ["row","signs","e"] ["row","signs"] 5 6 2 3 rfl rfl rfl F hm hb sc__law_said (m:=m__law_said) fun cdv A outer s H E hr=>(ss_one (ss_tryCT T.tr rfl ⟨rfl,rfl⟩ (by unfold Gl; kernel_rfl) sc__law_said.nd (by kernel_rfl) rfl (by kernel_rfl) rfl (fun p W E1 hP=>(ss_one (ss_ret (se_fnR d_swing hP (hr.mono (by decide)) (by unfold Gl; kernel_rfl) (sa_cons (se_var 0 (by kernel_rfl) (Or.inl (by kernel_rfl))) (sa_cons (se_var 1 (by kernel_rfl) (Or.inl (by kernel_rfl))) sa_nil)) (alen_cons (alen_cons alen_nil)))))) (fun ea oe ue zo=>(ss_one (ss_ret (se_op xo_add (se_lst (sa_cons se_str sa_nil)) (se_compQ (qb:=true) (N:=["place","e"]) (k:=1) (caps:=[2]) (.inr ⟨rfl,(Or.inr ⟨ea,oe,ue,rfl,upd_same,zo⟩)⟩) (fun _ _ z=>z) (cs_mk (by kernel_rfl) (by kernel_rfl) (by kernel_rfl) (by kernel_rfl) rfl (by kernel_rfl)) (si_range1 (by unfold Gl; kernel_rfl) T.b_range (sa_cons se_int sa_nil)) (fun _ _ _ _ cq=>(sg_name (show (["place","e"]:List Str).Nodup by decide +kernel) (by kernel_rfl) (Or.inl (by kernel_rfl)))) (fun _ _ _ _ cq=>(sif_one (st_val (se_fnM d__law_only ((hr.mono (by decide)).m.mark _) (cq.qt rfl) (by unfold Gl; kernel_rfl) (sa_cons (se_var 1 (by kernel_rfl) (Or.inr (Or.inl (by kernel_rfl)))) (sa_cons (se_var 0 (by kernel_rfl) (Or.inl (by kernel_rfl))) sa_nil)) (alen_cons (alen_cons alen_nil)))))) (fun _ _ _ _ cq=>(se_var 0 (by kernel_rfl) (Or.inl (by kernel_rfl)))))))))))
theorem sc__law_signs:FnScope ["box","many"] ["box","many"] (defScope st__law_signs):=⟨by kernel_rfl,by kernel_rfl,by kernel_rfl,by decide +kernel,rfl,by decide +kernel,by decide +kernel⟩
theorem ok__law_signs {f:Addr} {fd:FuncData} (F:Fun K "_law_signs" "_law_signs" st__law_signs f fd) (hm:mg "_law_signs" = some (.ref f)) (hb:Binds K fd ["box","many"] []) (T:Txt K mg) (d__law_take:DefN P w K mg base "_law_take" 1 2 F__law_take):DefN P w K mg base "_law_signs" 2 2 F__law_signs:=
 def_ofN ["box","many"] ["box","many"] 1 2 2 2 rfl rfl rfl F hm hb sc__law_signs (m:=m__law_signs) fun cdv A outer s H E hr=>(ss_one (ss_ret (se_callTy xc_tuple (by unfold Gl; kernel_rfl) T.b_tuple boo_tuple (sa_cons (se_comp (N:=["one","box"]) (k:=1) (caps:=[0]) rfl (fun _ _ z=>z) (cs_mk (by kernel_rfl) (by kernel_rfl) (by kernel_rfl) (by kernel_rfl) rfl (by kernel_rfl)) (si_range1 (by unfold Gl; kernel_rfl) T.b_range (sa_cons (se_var 1 (by kernel_rfl) (Or.inl (by kernel_rfl))) sa_nil)) (fun _ _ _ _=>(sg_name (show (["one","box"]:List Str).Nodup by decide +kernel) (by kernel_rfl) (Or.inl (by kernel_rfl)))) (fun _ _ _ _=>sif_nil) (fun _ _ _ _=>(se_op xo_sub (se_op xo_mul se_int (se_fnN d__law_take (hr.mono (by decide)) (by unfold Gl; kernel_rfl) (sa_cons (se_var 1 (by kernel_rfl) (Or.inr (Or.inl (by kernel_rfl)))) (sa_cons se_int sa_nil)) (alen_cons (alen_cons alen_nil)))) se_int))) sa_nil))))
theorem sc__law_swing:FnScope ["row","signs","here","found","number","sign"] ["row","signs"] (defScope st__law_swing):=⟨by kernel_rfl,by kernel_rfl,by kernel_rfl,by decide +kernel,rfl,by decide +kernel,by decide +kernel⟩
theorem ok__law_swing {f:Addr} {fd:FuncData} (F:Fun K "_law_swing" "_law_swing" st__law_swing f fd) (hm:mg "_law_swing" = some (.ref f)) (hb:Binds K fd ["row","signs"] []) (T:Txt K mg) :DefN P w K mg base "_law_swing" 1 2 F__law_swing:=
 def_ofN ["row","signs","here","found","number","sign"] ["row","signs"] 0 1 2 6 rfl rfl rfl F hm hb sc__law_swing (m:=m__law_swing) fun cdv A outer s H E hr=>(ss_cons (ss_asg (se_tup (sa_cons se_int (sa_cons se_int sa_nil))) (sg_tup rfl (sgs_cons (sg_name sc__law_swing.nd (by kernel_rfl) (Or.inl (by kernel_rfl))) (sgs_cons (sg_name sc__law_swing.nd (by kernel_rfl) (Or.inl (by kernel_rfl))) sgs_nil)))) (ss_cons (ss_for PassesOwn.never rfl (si_zip (by unfold Gl; kernel_rfl) T.b_zip (sa_cons (se_var 0 (by kernel_rfl) (Or.inl (by kernel_rfl))) (sa_cons (se_var 1 (by kernel_rfl) (Or.inl (by kernel_rfl))) sa_nil))) (sg_tup rfl (sgs_cons (sg_name sc__law_swing.nd (by kernel_rfl) (Or.inl (by kernel_rfl))) (sgs_cons (sg_name sc__law_swing.nd (by kernel_rfl) (Or.inl (by kernel_rfl))) sgs_nil))) (ss_cons (ss_set sc__law_swing.nd (by kernel_rfl) (Or.inl (by kernel_rfl)) (se_op xo_add (se_var 2 (by kernel_rfl) (Or.inl (by kernel_rfl))) (se_op xo_mul (se_var 4 (by kernel_rfl) (Or.inl (by kernel_rfl))) (se_var 5 (by kernel_rfl) (Or.inl (by kernel_rfl)))))) (ss_one (ss_set sc__law_swing.nd (by kernel_rfl) (Or.inl (by kernel_rfl)) (se_callB (xc_max3 rfl) (by unfold Gl; kernel_rfl) T.b_max boo_max (sa_cons (se_var 3 (by kernel_rfl) (Or.inl (by kernel_rfl))) (sa_cons (se_var 2 (by kernel_rfl) (Or.inl (by kernel_rfl))) (sa_cons (se_op xo_sub se_int (se_var 2 (by kernel_rfl) (Or.inl (by kernel_rfl)))) sa_nil)))))))) (ss_one (ss_ret (se_var 3 (by kernel_rfl) (Or.inl (by kernel_rfl)))))))
theorem sc__law_whole:FnScope ["thing"] ["thing"] (defScope st__law_whole):=⟨by kernel_rfl,by kernel_rfl,by kernel_rfl,by decide +kernel,rfl,by decide +kernel,by decide +kernel⟩
theorem ok__law_whole {f:Addr} {fd:FuncData} (F:Fun K "_law_whole" "_law_whole" st__law_whole f fd) (hm:mg "_law_whole" = some (.ref f)) (hb:Binds K fd ["thing"] []) (T:Txt K mg) :DefN P w K mg base "_law_whole" 1 1 F__law_whole:=
 def_ofN ["thing"] ["thing"] 0 1 1 1 rfl rfl rfl F hm hb sc__law_whole (m:=m__law_whole) fun cdv A outer s H E hr=>(ss_one (ss_ret (se_and (se_callB xc_isi (by unfold Gl; kernel_rfl) T.b_isinstance boo_isinstance (sa_cons (se_var 0 (by kernel_rfl) (Or.inl (by kernel_rfl))) (sa_cons (se_ty (by unfold Gl; kernel_rfl) T.b_int boo_int) sa_nil))) (se_one (se_not (se_callB xc_isi (by unfold Gl; kernel_rfl) T.b_isinstance boo_isinstance (sa_cons (se_var 0 (by kernel_rfl) (Or.inl (by kernel_rfl))) (sa_cons (se_ty (by unfold Gl; kernel_rfl) T.b_bool boo_bool) sa_nil))))))))
theorem sc_need_row_n:FnScope ["thing"] ["thing"] (defScope st_need_row_n):=⟨by kernel_rfl,by kernel_rfl,by kernel_rfl,by decide +kernel,rfl,by decide +kernel,by decide +kernel⟩
theorem ok_need_row_n {f:Addr} {fd:FuncData} (F:Fun K "need_row" "need_row" st_need_row_n f fd) (hm:mg "need_row" = some (.ref f)) (hb:Binds K fd ["thing"] []) (T:Txt K mg) (d_is_row:DefN P w K mg base "is_row" 2 1 F_is_row):DefN P w K mg base "need_row" 3 1 F_need_row_n:=
 def_ofN ["thing"] ["thing"] 2 3 1 1 rfl rfl rfl F hm hb sc_need_row_n (m:=m_need_row_n) fun cdv A outer s H E hr=>(ss_one (ss_if (st_not (st_val (se_fnN d_is_row (hr.mono (by decide)) (by unfold Gl; kernel_rfl) (sa_cons (se_var 0 (by kernel_rfl) (Or.inl (by kernel_rfl))) sa_nil) (alen_cons alen_nil)))) (ss_one ss_never) ss_nil))
theorem sc_leaning_n:FnScope ["row","signs","reached","step","sign"] ["row"] (defScope st_leaning_n):=⟨by kernel_rfl,by kernel_rfl,by kernel_rfl,by decide +kernel,rfl,by decide +kernel,by decide +kernel⟩
theorem ok_leaning_n {f:Addr} {fd:FuncData} (F:Fun K "leaning" "leaning" st_leaning_n f fd) (hm:mg "leaning" = some (.ref f)) (hb:Binds K fd ["row"] []) (T:Txt K mg) (d_need_row_n:DefN P w K mg base "need_row" 3 1 F_need_row_n):DefN P w K mg base "leaning" 4 1 F_leaning_n:=
 def_ofN ["row","signs","reached","step","sign"] ["row"] 3 4 1 5 rfl rfl rfl F hm hb sc_leaning_n (m:=m_leaning_n) fun cdv A outer s H E hr=>(ss_cons (ss_expr (se_fnN d_need_row_n (hr.mono (by decide)) (by unfold Gl; kernel_rfl) (sa_cons (se_var 0 (by kernel_rfl) (Or.inl (by kernel_rfl))) sa_nil) (alen_cons alen_nil))) (ss_cons (ss_set sc_leaning_n.nd (by kernel_rfl) (Or.inl (by kernel_rfl)) (se_new sa_nil)) (ss_cons (ss_set sc_leaning_n.nd (by kernel_rfl) (Or.inl (by kernel_rfl)) se_int) (ss_cons (ss_for PassesOwn.never rfl (si_seq (se_var 0 (by kernel_rfl) (Or.inl (by kernel_rfl)))) (sg_name sc_leaning_n.nd (by kernel_rfl) (Or.inl (by kernel_rfl))) (ss_cons (ss_set sc_leaning_n.nd (by kernel_rfl) (Or.inl (by kernel_rfl)) (se_if (st_cmp xo_gt (se_var 2 (by kernel_rfl) (Or.inl (by kernel_rfl))) se_int) (se_un xu_neg se_int) se_int)) (ss_cons (ss_expr (se_mtL PySem.F.plainAttrs_list PySem.F.slot_list_append PySem.F.type_list_append xm_append (se_var 1 (by kernel_rfl) (Or.inl (by kernel_rfl))) (sa_cons (se_var 4 (by kernel_rfl) (Or.inl (by kernel_rfl))) sa_nil))) (ss_one (ss_set sc_leaning_n.nd (by kernel_rfl) (Or.inl (by kernel_rfl)) (se_op xo_add (se_var 2 (by kernel_rfl) (Or.inl (by kernel_rfl))) (se_op xo_mul (se_var 4 (by kernel_rfl) (Or.inl (by kernel_rfl))) (se_var 3 (by kernel_rfl) (Or.inl (by kernel_rfl)))))))))) (ss_one (ss_ret (se_callTy xc_tuple (by unfold Gl; kernel_rfl) T.b_tuple boo_tuple (sa_cons (se_var 1 (by kernel_rfl) (Or.inl (by kernel_rfl))) sa_nil))))))))
theorem sc_law:FnScope ["script","k","box","row","many","turns","signs","bad","thing","found","good"] ["script"] (defScope st_law):=⟨by kernel_rfl,by kernel_rfl,by kernel_rfl,by decide +kernel,rfl,by decide +kernel,by decide +kernel⟩
end
/-! what the top has written -/
theorem cls_mk {K:PySem.W.Frag} {C_Bare:Addr} {C_Lacking:Addr} {C_NoLine:Addr} {C_NoNumber:Addr} {C_NoRow:Addr} {C_NoSigns:Addr} {C_NoTable:Addr} {C_NoText:Addr} {C_PlusError:Addr} {C_TooMany:Addr} {cd_NoRow:ClassData} {cd_NoSigns:ClassData}
  (gt:PySem.W.specialIn K (.builtin "object.__class__") "__get__" = some (some (.builtin "getset_descriptor.__get__")))
  (tk:PySem.W.takesIn K (.builtin "object.__class__")=some true)
  (n_Bare:PySem.W.nsIn K mainGlobals "Bare" = some (some (.ref C_Bare)))
  (n_Lacking:PySem.W.nsIn K mainGlobals "Lacking" = some (some (.ref C_Lacking)))
  (n_NoLine:PySem.W.nsIn K mainGlobals "NoLine" = some (some (.ref C_NoLine)))
  (n_NoNumber:PySem.W.nsIn K mainGlobals "NoNumber" = some (some (.ref C_NoNumber)))
  (n_NoRow:PySem.W.nsIn K mainGlobals "NoRow" = some (some (.ref C_NoRow)))
  (n_NoSigns:PySem.W.nsIn K mainGlobals "NoSigns" = some (some (.ref C_NoSigns)))
  (n_NoTable:PySem.W.nsIn K mainGlobals "NoTable" = some (some (.ref C_NoTable)))
  (n_NoText:PySem.W.nsIn K mainGlobals "NoText" = some (some (.ref C_NoText)))
  (n_PlusError:PySem.W.nsIn K mainGlobals "PlusError" = some (some (.ref C_PlusError)))
  (n_TooMany:PySem.W.nsIn K mainGlobals "TooMany" = some (some (.ref C_TooMany)))
  (q_NoRow:PySem.W.excIn K C_NoRow veMro "ValueError.__new__" = true)
  (g1_NoRow:PySem.W.findIn K (.ref C_NoRow) "__getattribute__" = some (some (.builtin "BaseException.__getattribute__")))
  (g2_NoRow:PySem.W.findIn K (.ref C_NoRow) "__getattr__" = some none)
  (g3_NoRow:PySem.W.findIn K (.ref C_NoRow) "__class__" = some (some (.builtin "object.__class__")))
  (m1_NoRow:PySem.W.mroIn K C_NoRow (.type "BaseException")=some true)
  (m2_NoRow:PySem.W.mroIn K C_NoRow (.type "object")=some true)
  (cc_NoRow:PySem.W.clsIn K C_NoRow=some cd_NoRow)
  (kv_NoRow:PySem.W.kitOne K (.ref C_NoRow) (.type "ValueError")=some true)
  (ex_NoRow:PySem.W.exmOne K (.ref C_NoRow) (.ref C_PlusError)=some true)
  (is_NoRow_Bare:PySem.W.kitOne K (.ref C_NoRow) (.ref C_Bare)=some false)
  (is_NoRow_Lacking:PySem.W.kitOne K (.ref C_NoRow) (.ref C_Lacking)=some false)
  (is_NoRow_NoLine:PySem.W.kitOne K (.ref C_NoRow) (.ref C_NoLine)=some false)
  (is_NoRow_NoNumber:PySem.W.kitOne K (.ref C_NoRow) (.ref C_NoNumber)=some false)
  (is_NoRow_NoRow:PySem.W.kitOne K (.ref C_NoRow) (.ref C_NoRow)=some true)
  (is_NoRow_NoSigns:PySem.W.kitOne K (.ref C_NoRow) (.ref C_NoSigns)=some false)
  (is_NoRow_NoTable:PySem.W.kitOne K (.ref C_NoRow) (.ref C_NoTable)=some false)
  (is_NoRow_NoText:PySem.W.kitOne K (.ref C_NoRow) (.ref C_NoText)=some false)
  (is_NoRow_PlusError:PySem.W.kitOne K (.ref C_NoRow) (.ref C_PlusError)=some true)
  (is_NoRow_TooMany:PySem.W.kitOne K (.ref C_NoRow) (.ref C_TooMany)=some false)
  (q_NoSigns:PySem.W.excIn K C_NoSigns veMro "ValueError.__new__" = true)
  (g1_NoSigns:PySem.W.findIn K (.ref C_NoSigns) "__getattribute__" = some (some (.builtin "BaseException.__getattribute__")))
  (g2_NoSigns:PySem.W.findIn K (.ref C_NoSigns) "__getattr__" = some none)
  (g3_NoSigns:PySem.W.findIn K (.ref C_NoSigns) "__class__" = some (some (.builtin "object.__class__")))
  (m1_NoSigns:PySem.W.mroIn K C_NoSigns (.type "BaseException")=some true)
  (m2_NoSigns:PySem.W.mroIn K C_NoSigns (.type "object")=some true)
  (cc_NoSigns:PySem.W.clsIn K C_NoSigns=some cd_NoSigns)
  (kv_NoSigns:PySem.W.kitOne K (.ref C_NoSigns) (.type "ValueError")=some true)
  (ex_NoSigns:PySem.W.exmOne K (.ref C_NoSigns) (.ref C_PlusError)=some true)
  (is_NoSigns_Bare:PySem.W.kitOne K (.ref C_NoSigns) (.ref C_Bare)=some false)
  (is_NoSigns_Lacking:PySem.W.kitOne K (.ref C_NoSigns) (.ref C_Lacking)=some false)
  (is_NoSigns_NoLine:PySem.W.kitOne K (.ref C_NoSigns) (.ref C_NoLine)=some false)
  (is_NoSigns_NoNumber:PySem.W.kitOne K (.ref C_NoSigns) (.ref C_NoNumber)=some false)
  (is_NoSigns_NoRow:PySem.W.kitOne K (.ref C_NoSigns) (.ref C_NoRow)=some false)
  (is_NoSigns_NoSigns:PySem.W.kitOne K (.ref C_NoSigns) (.ref C_NoSigns)=some true)
  (is_NoSigns_NoTable:PySem.W.kitOne K (.ref C_NoSigns) (.ref C_NoTable)=some false)
  (is_NoSigns_NoText:PySem.W.kitOne K (.ref C_NoSigns) (.ref C_NoText)=some false)
  (is_NoSigns_PlusError:PySem.W.kitOne K (.ref C_NoSigns) (.ref C_PlusError)=some true)
  (is_NoSigns_TooMany:PySem.W.kitOne K (.ref C_NoSigns) (.ref C_TooMany)=some false):Cls K raisedX askedX isaX:=
 ⟨gt,tk,fun c hc=>by
   simp only [raisedX,List.mem_cons,List.not_mem_nil,or_false] at hc
   rcases hc with rfl | rfl
   ·exact ⟨C_NoRow,n_NoRow,exk_mk g1_NoRow g2_NoRow g3_NoRow m1_NoRow m2_NoRow cc_NoRow,kv_NoRow⟩
   ·exact ⟨C_NoSigns,n_NoSigns,exk_mk g1_NoSigns g2_NoSigns g3_NoSigns m1_NoSigns m2_NoSigns cc_NoSigns,kv_NoSigns⟩,
  fun c hc k hk=>by
   simp only [raisedX,askedX,List.mem_cons,List.not_mem_nil,or_false] at hc hk
   rcases hc with rfl | rfl <;> rcases hk with rfl | rfl | rfl | rfl | rfl | rfl | rfl | rfl | rfl | rfl
   ·exact ⟨_,_,n_NoRow,n_Bare,is_NoRow_Bare.trans (by decide +kernel)⟩
   ·exact ⟨_,_,n_NoRow,n_Lacking,is_NoRow_Lacking.trans (by decide +kernel)⟩
   ·exact ⟨_,_,n_NoRow,n_NoLine,is_NoRow_NoLine.trans (by decide +kernel)⟩
   ·exact ⟨_,_,n_NoRow,n_NoNumber,is_NoRow_NoNumber.trans (by decide +kernel)⟩
   ·exact ⟨_,_,n_NoRow,n_NoRow,is_NoRow_NoRow.trans (by decide +kernel)⟩
   ·exact ⟨_,_,n_NoRow,n_NoSigns,is_NoRow_NoSigns.trans (by decide +kernel)⟩
   ·exact ⟨_,_,n_NoRow,n_NoTable,is_NoRow_NoTable.trans (by decide +kernel)⟩
   ·exact ⟨_,_,n_NoRow,n_NoText,is_NoRow_NoText.trans (by decide +kernel)⟩
   ·exact ⟨_,_,n_NoRow,n_PlusError,is_NoRow_PlusError.trans (by decide +kernel)⟩
   ·exact ⟨_,_,n_NoRow,n_TooMany,is_NoRow_TooMany.trans (by decide +kernel)⟩
   ·exact ⟨_,_,n_NoSigns,n_Bare,is_NoSigns_Bare.trans (by decide +kernel)⟩
   ·exact ⟨_,_,n_NoSigns,n_Lacking,is_NoSigns_Lacking.trans (by decide +kernel)⟩
   ·exact ⟨_,_,n_NoSigns,n_NoLine,is_NoSigns_NoLine.trans (by decide +kernel)⟩
   ·exact ⟨_,_,n_NoSigns,n_NoNumber,is_NoSigns_NoNumber.trans (by decide +kernel)⟩
   ·exact ⟨_,_,n_NoSigns,n_NoRow,is_NoSigns_NoRow.trans (by decide +kernel)⟩
   ·exact ⟨_,_,n_NoSigns,n_NoSigns,is_NoSigns_NoSigns.trans (by decide +kernel)⟩
   ·exact ⟨_,_,n_NoSigns,n_NoTable,is_NoSigns_NoTable.trans (by decide +kernel)⟩
   ·exact ⟨_,_,n_NoSigns,n_NoText,is_NoSigns_NoText.trans (by decide +kernel)⟩
   ·exact ⟨_,_,n_NoSigns,n_PlusError,is_NoSigns_PlusError.trans (by decide +kernel)⟩
   ·exact ⟨_,_,n_NoSigns,n_TooMany,is_NoSigns_TooMany.trans (by decide +kernel)⟩⟩
theorem try_mk {K:PySem.W.Frag} {h:Heap} {mg:Str→Option Value} (X:K.In h) (G:h.Ns mainGlobals mg) {C_Bare:Addr} {C_Lacking:Addr} {C_NoLine:Addr} {C_NoNumber:Addr} {C_NoRow:Addr} {C_NoSigns:Addr} {C_NoTable:Addr} {C_NoText:Addr} {C_PlusError:Addr} {C_TooMany:Addr} {cd_NoRow:ClassData} {cd_NoSigns:ClassData}
  (gt:PySem.W.specialIn K (.builtin "object.__class__") "__get__" = some (some (.builtin "getset_descriptor.__get__")))
  (tk:PySem.W.takesIn K (.builtin "object.__class__")=some true)
  (n_Bare:PySem.W.nsIn K mainGlobals "Bare" = some (some (.ref C_Bare)))
  (n_Lacking:PySem.W.nsIn K mainGlobals "Lacking" = some (some (.ref C_Lacking)))
  (n_NoLine:PySem.W.nsIn K mainGlobals "NoLine" = some (some (.ref C_NoLine)))
  (n_NoNumber:PySem.W.nsIn K mainGlobals "NoNumber" = some (some (.ref C_NoNumber)))
  (n_NoRow:PySem.W.nsIn K mainGlobals "NoRow" = some (some (.ref C_NoRow)))
  (n_NoSigns:PySem.W.nsIn K mainGlobals "NoSigns" = some (some (.ref C_NoSigns)))
  (n_NoTable:PySem.W.nsIn K mainGlobals "NoTable" = some (some (.ref C_NoTable)))
  (n_NoText:PySem.W.nsIn K mainGlobals "NoText" = some (some (.ref C_NoText)))
  (n_PlusError:PySem.W.nsIn K mainGlobals "PlusError" = some (some (.ref C_PlusError)))
  (n_TooMany:PySem.W.nsIn K mainGlobals "TooMany" = some (some (.ref C_TooMany)))
  (q_NoRow:PySem.W.excIn K C_NoRow veMro "ValueError.__new__" = true)
  (g1_NoRow:PySem.W.findIn K (.ref C_NoRow) "__getattribute__" = some (some (.builtin "BaseException.__getattribute__")))
  (g2_NoRow:PySem.W.findIn K (.ref C_NoRow) "__getattr__" = some none)
  (g3_NoRow:PySem.W.findIn K (.ref C_NoRow) "__class__" = some (some (.builtin "object.__class__")))
  (m1_NoRow:PySem.W.mroIn K C_NoRow (.type "BaseException")=some true)
  (m2_NoRow:PySem.W.mroIn K C_NoRow (.type "object")=some true)
  (cc_NoRow:PySem.W.clsIn K C_NoRow=some cd_NoRow)
  (kv_NoRow:PySem.W.kitOne K (.ref C_NoRow) (.type "ValueError")=some true)
  (ex_NoRow:PySem.W.exmOne K (.ref C_NoRow) (.ref C_PlusError)=some true)
  (is_NoRow_Bare:PySem.W.kitOne K (.ref C_NoRow) (.ref C_Bare)=some false)
  (is_NoRow_Lacking:PySem.W.kitOne K (.ref C_NoRow) (.ref C_Lacking)=some false)
  (is_NoRow_NoLine:PySem.W.kitOne K (.ref C_NoRow) (.ref C_NoLine)=some false)
  (is_NoRow_NoNumber:PySem.W.kitOne K (.ref C_NoRow) (.ref C_NoNumber)=some false)
  (is_NoRow_NoRow:PySem.W.kitOne K (.ref C_NoRow) (.ref C_NoRow)=some true)
  (is_NoRow_NoSigns:PySem.W.kitOne K (.ref C_NoRow) (.ref C_NoSigns)=some false)
  (is_NoRow_NoTable:PySem.W.kitOne K (.ref C_NoRow) (.ref C_NoTable)=some false)
  (is_NoRow_NoText:PySem.W.kitOne K (.ref C_NoRow) (.ref C_NoText)=some false)
  (is_NoRow_PlusError:PySem.W.kitOne K (.ref C_NoRow) (.ref C_PlusError)=some true)
  (is_NoRow_TooMany:PySem.W.kitOne K (.ref C_NoRow) (.ref C_TooMany)=some false)
  (q_NoSigns:PySem.W.excIn K C_NoSigns veMro "ValueError.__new__" = true)
  (g1_NoSigns:PySem.W.findIn K (.ref C_NoSigns) "__getattribute__" = some (some (.builtin "BaseException.__getattribute__")))
  (g2_NoSigns:PySem.W.findIn K (.ref C_NoSigns) "__getattr__" = some none)
  (g3_NoSigns:PySem.W.findIn K (.ref C_NoSigns) "__class__" = some (some (.builtin "object.__class__")))
  (m1_NoSigns:PySem.W.mroIn K C_NoSigns (.type "BaseException")=some true)
  (m2_NoSigns:PySem.W.mroIn K C_NoSigns (.type "object")=some true)
  (cc_NoSigns:PySem.W.clsIn K C_NoSigns=some cd_NoSigns)
  (kv_NoSigns:PySem.W.kitOne K (.ref C_NoSigns) (.type "ValueError")=some true)
  (ex_NoSigns:PySem.W.exmOne K (.ref C_NoSigns) (.ref C_PlusError)=some true)
  (is_NoSigns_Bare:PySem.W.kitOne K (.ref C_NoSigns) (.ref C_Bare)=some false)
  (is_NoSigns_Lacking:PySem.W.kitOne K (.ref C_NoSigns) (.ref C_Lacking)=some false)
  (is_NoSigns_NoLine:PySem.W.kitOne K (.ref C_NoSigns) (.ref C_NoLine)=some false)
  (is_NoSigns_NoNumber:PySem.W.kitOne K (.ref C_NoSigns) (.ref C_NoNumber)=some false)
  (is_NoSigns_NoRow:PySem.W.kitOne K (.ref C_NoSigns) (.ref C_NoRow)=some false)
  (is_NoSigns_NoSigns:PySem.W.kitOne K (.ref C_NoSigns) (.ref C_NoSigns)=some true)
  (is_NoSigns_NoTable:PySem.W.kitOne K (.ref C_NoSigns) (.ref C_NoTable)=some false)
  (is_NoSigns_NoText:PySem.W.kitOne K (.ref C_NoSigns) (.ref C_NoText)=some false)
  (is_NoSigns_PlusError:PySem.W.kitOne K (.ref C_NoSigns) (.ref C_PlusError)=some true)
  (is_NoSigns_TooMany:PySem.W.kitOne K (.ref C_NoSigns) (.ref C_TooMany)=some false):TryAt K mg "PlusError" raisedX:=
 ⟨_,PySem.W.mg_of X G n_PlusError,fun c hc=>by
   simp only [raisedX,List.mem_cons,List.not_mem_nil,or_false] at hc
   rcases hc with rfl | rfl
   ·exact ⟨_,n_NoRow,ex_NoRow⟩
   ·exact ⟨_,n_NoSigns,ex_NoSigns⟩⟩
theorem us1 {p:List Value → Prop} (h:∀ a,p [a]) (us:List Value) (e:us.length=1):p us:=by
 rcases us with _ | ⟨a,_ | ⟨b,r⟩⟩
 · simp at e
 · exact h a
 · simp at e
theorem us2 {p:List Value → Prop} (h:∀ a b,p [a,b]) (us:List Value) (e:us.length=2):p us:=by
 rcases us with _ | ⟨a,_ | ⟨b,_ | ⟨c,r⟩⟩⟩
 · simp at e
 · simp at e
 · exact h a b
 · simp at e
theorem us3 {p:List Value → Prop} (h:∀ a b c,p [a,b,c]) (us:List Value) (e:us.length=3):p us:=by
 rcases us with _ | ⟨a,_ | ⟨b,_ | ⟨c,_ | ⟨d,r⟩⟩⟩⟩
 · simp at e
 · simp at e
 · simp at e
 · exact h a b c
 · simp at e
theorem all_mk {P:Program} {w:World} {K:PySem.W.Frag} {h:Heap} {mg:Str→Option Value} {fa:Addr} (X:K.In h) (G:h.Ns mainGlobals mg) (hfa:mg "law" = some (.ref fa)) {f0:Addr} {od0 an0:Option Addr} {sl0:Array (Option Value)} {oc0 kV0 dc0 pm0 cd0 ct0:Value} {f1:Addr} {od1 an1:Option Addr} {sl1:Array (Option Value)} {oc1 kV1 dc1 pm1 cd1 ct1:Value} {f2:Addr} {od2 an2:Option Addr} {sl2:Array (Option Value)} {oc2 kV2 dc2 pm2 cd2 ct2:Value} {f3:Addr} {od3 an3:Option Addr} {sl3:Array (Option Value)} {oc3 kV3 dc3 pm3 cd3 ct3:Value} {f4:Addr} {od4 an4:Option Addr} {sl4:Array (Option Value)} {oc4 kV4 dc4 pm4 cd4 ct4:Value} {f5:Addr} {od5 an5:Option Addr} {sl5:Array (Option Value)} {oc5 kV5 dc5 pm5 cd5 ct5:Value} {f6:Addr} {od6 an6:Option Addr} {sl6:Array (Option Value)} {oc6 kV6 dc6 pm6 cd6 ct6:Value} {f7:Addr} {od7 an7:Option Addr} {sl7:Array (Option Value)} {oc7 kV7 dc7 pm7 cd7 ct7:Value} {f8:Addr} {od8 an8:Option Addr} {sl8:Array (Option Value)} {oc8 kV8 dc8 pm8 cd8 ct8:Value} {f9:Addr} {od9 an9:Option Addr} {sl9:Array (Option Value)} {oc9 kV9 dc9 pm9 cd9 ct9:Value} {f10:Addr} {od10 an10:Option Addr} {sl10:Array (Option Value)} {oc10 kV10 dc10 pm10 cd10 ct10:Value} {f11:Addr} {od11 an11:Option Addr} {sl11:Array (Option Value)} {oc11 kV11 dc11 pm11 cd11 ct11:Value} {f12:Addr} {od12 an12:Option Addr} {sl12:Array (Option Value)} {oc12 kV12 dc12 pm12 cd12 ct12:Value} {f13:Addr} {od13 an13:Option Addr} {sl13:Array (Option Value)} {oc13 kV13 dc13 pm13 cd13 ct13:Value} {f14:Addr} {od14 an14:Option Addr} {sl14:Array (Option Value)} {oc14 kV14 dc14 pm14 cd14 ct14:Value} {f15:Addr} {od15 an15:Option Addr} {sl15:Array (Option Value)} {oc15 kV15 dc15 pm15 cd15 ct15:Value} {f16:Addr} {od16 an16:Option Addr} {sl16:Array (Option Value)} {oc16 kV16 dc16 pm16 cd16 ct16:Value} {f17:Addr} {od17 an17:Option Addr} {sl17:Array (Option Value)} {oc17 kV17 dc17 pm17 cd17 ct17:Value} {f18:Addr} {od18 an18:Option Addr} {sl18:Array (Option Value)} {oc18 kV18 dc18 pm18 cd18 ct18:Value} {f19:Addr} {od19 an19:Option Addr} {sl19:Array (Option Value)} {oc19 kV19 dc19 pm19 cd19 ct19:Value} {t_LONGEST_ROW:Tok} {C_Bare:Addr} {C_Lacking:Addr} {C_NoLine:Addr} {C_NoNumber:Addr} {C_NoRow:Addr} {C_NoSigns:Addr} {C_NoTable:Addr} {C_NoText:Addr} {C_PlusError:Addr} {C_TooMany:Addr} {cd_NoRow:ClassData} {cd_NoSigns:ClassData}
  (a0:PySem.W.nsIn K mainGlobals "_law_box" = some (some (.ref f0))) (l0:K.lookup f0=some ⟨oc0,od0,.func (PySem.W.fnOf "_law_box" "_law_box" (defArgs st__law_box) (defBody st__law_box) (defScope st__law_box) .none kV0 dc0 pm0 an0 cd0 ct0),sl0⟩) (c0:PySem.W.codeIn K cd0 "_law_box" = true) (k0:PySem.W.keepIn K (.ref f0)=true)
  (a1:PySem.W.nsIn K mainGlobals "_law_leaning" = some (some (.ref f1))) (l1:K.lookup f1=some ⟨oc1,od1,.func (PySem.W.fnOf "_law_leaning" "_law_leaning" (defArgs st__law_leaning) (defBody st__law_leaning) (defScope st__law_leaning) .none kV1 dc1 pm1 an1 cd1 ct1),sl1⟩) (c1:PySem.W.codeIn K cd1 "_law_leaning" = true) (k1:PySem.W.keepIn K (.ref f1)=true)
  (a2:PySem.W.nsIn K mainGlobals "_law_take" = some (some (.ref f2))) (l2:K.lookup f2=some ⟨oc2,od2,.func (PySem.W.fnOf "_law_take" "_law_take" (defArgs st__law_take) (defBody st__law_take) (defScope st__law_take) .none kV2 dc2 pm2 an2 cd2 ct2),sl2⟩) (c2:PySem.W.codeIn K cd2 "_law_take" = true) (k2:PySem.W.keepIn K (.ref f2)=true)
  (a3:PySem.W.nsIn K mainGlobals "_law_odd" = some (some (.ref f3))) (l3:K.lookup f3=some ⟨oc3,od3,.func (PySem.W.fnOf "_law_odd" "_law_odd" (defArgs st__law_odd) (defBody st__law_odd) (defScope st__law_odd) .none kV3 dc3 pm3 an3 cd3 ct3),sl3⟩) (c3:PySem.W.codeIn K cd3 "_law_odd" = true) (k3:PySem.W.keepIn K (.ref f3)=true)
  (a4:PySem.W.nsIn K mainGlobals "_law_row" = some (some (.ref f4))) (l4:K.lookup f4=some ⟨oc4,od4,.func (PySem.W.fnOf "_law_row" "_law_row" (defArgs st__law_row) (defBody st__law_row) (defScope st__law_row) .none kV4 dc4 pm4 an4 cd4 ct4),sl4⟩) (c4:PySem.W.codeIn K cd4 "_law_row" = true) (k4:PySem.W.keepIn K (.ref f4)=true)
  (a5:PySem.W.nsIn K mainGlobals "_law_classes" = some (some (.ref f5))) (l5:K.lookup f5=some ⟨oc5,od5,.func (PySem.W.fnOf "_law_classes" "_law_classes" (defArgs st__law_classes) (defBody st__law_classes) (defScope st__law_classes) .none kV5 dc5 pm5 an5 cd5 ct5),sl5⟩) (c5:PySem.W.codeIn K cd5 "_law_classes" = true) (k5:PySem.W.keepIn K (.ref f5)=true)
  (a6:PySem.W.nsIn K mainGlobals "_law_only" = some (some (.ref f6))) (l6:K.lookup f6=some ⟨oc6,od6,.func (PySem.W.fnOf "_law_only" "_law_only" (defArgs st__law_only) (defBody st__law_only) (defScope st__law_only) .none kV6 dc6 pm6 an6 cd6 ct6),sl6⟩) (c6:PySem.W.codeIn K cd6 "_law_only" = true) (k6:PySem.W.keepIn K (.ref f6)=true)
  (a7:PySem.W.nsIn K mainGlobals "is_whole" = some (some (.ref f7))) (l7:K.lookup f7=some ⟨oc7,od7,.func (PySem.W.fnOf "is_whole" "is_whole" (defArgs st_is_whole) (defBody st_is_whole) (defScope st_is_whole) .none kV7 dc7 pm7 an7 cd7 ct7),sl7⟩) (c7:PySem.W.codeIn K cd7 "is_whole" = true) (k7:PySem.W.keepIn K (.ref f7)=true)
  (a8:PySem.W.nsIn K mainGlobals "is_row" = some (some (.ref f8))) (l8:K.lookup f8=some ⟨oc8,od8,.func (PySem.W.fnOf "is_row" "is_row" (defArgs st_is_row) (defBody st_is_row) (defScope st_is_row) .none kV8 dc8 pm8 an8 cd8 ct8),sl8⟩) (c8:PySem.W.codeIn K cd8 "is_row" = true) (k8:PySem.W.keepIn K (.ref f8)=true)
  (a9:PySem.W.nsIn K mainGlobals "need_row" = some (some (.ref f9))) (l9:K.lookup f9=some ⟨oc9,od9,.func (PySem.W.fnOf "need_row" "need_row" (defArgs st_need_row) (defBody st_need_row) (defScope st_need_row) .none kV9 dc9 pm9 an9 cd9 ct9),sl9⟩) (c9:PySem.W.codeIn K cd9 "need_row" = true) (k9:PySem.W.keepIn K (.ref f9)=true)
  (a10:PySem.W.nsIn K mainGlobals "are_whole" = some (some (.ref f10))) (l10:K.lookup f10=some ⟨oc10,od10,.func (PySem.W.fnOf "are_whole" "are_whole" (defArgs st_are_whole) (defBody st_are_whole) (defScope st_are_whole) .none kV10 dc10 pm10 an10 cd10 ct10),sl10⟩) (c10:PySem.W.codeIn K cd10 "are_whole" = true) (k10:PySem.W.keepIn K (.ref f10)=true)
  (a11:PySem.W.nsIn K mainGlobals "are_so_many_signs" = some (some (.ref f11))) (l11:K.lookup f11=some ⟨oc11,od11,.func (PySem.W.fnOf "are_so_many_signs" "are_so_many_signs" (defArgs st_are_so_many_signs) (defBody st_are_so_many_signs) (defScope st_are_so_many_signs) .none kV11 dc11 pm11 an11 cd11 ct11),sl11⟩) (c11:PySem.W.codeIn K cd11 "are_so_many_signs" = true) (k11:PySem.W.keepIn K (.ref f11)=true)
  (a12:PySem.W.nsIn K mainGlobals "need_so_many_signs" = some (some (.ref f12))) (l12:K.lookup f12=some ⟨oc12,od12,.func (PySem.W.fnOf "need_so_many_signs" "need_so_many_signs" (defArgs st_need_so_many_signs) (defBody st_need_so_many_signs) (defScope st_need_so_many_signs) .none kV12 dc12 pm12 an12 cd12 ct12),sl12⟩) (c12:PySem.W.codeIn K cd12 "need_so_many_signs" = true) (k12:PySem.W.keepIn K (.ref f12)=true)
  (a13:PySem.W.nsIn K mainGlobals "swing" = some (some (.ref f13))) (l13:K.lookup f13=some ⟨oc13,od13,.func (PySem.W.fnOf "swing" "swing" (defArgs st_swing) (defBody st_swing) (defScope st_swing) .none kV13 dc13 pm13 an13 cd13 ct13),sl13⟩) (c13:PySem.W.codeIn K cd13 "swing" = true) (k13:PySem.W.keepIn K (.ref f13)=true)
  (a14:PySem.W.nsIn K mainGlobals "_law_said" = some (some (.ref f14))) (l14:K.lookup f14=some ⟨oc14,od14,.func (PySem.W.fnOf "_law_said" "_law_said" (defArgs st__law_said) (defBody st__law_said) (defScope st__law_said) .none kV14 dc14 pm14 an14 cd14 ct14),sl14⟩) (c14:PySem.W.codeIn K cd14 "_law_said" = true) (k14:PySem.W.keepIn K (.ref f14)=true)
  (a15:PySem.W.nsIn K mainGlobals "_law_signs" = some (some (.ref f15))) (l15:K.lookup f15=some ⟨oc15,od15,.func (PySem.W.fnOf "_law_signs" "_law_signs" (defArgs st__law_signs) (defBody st__law_signs) (defScope st__law_signs) .none kV15 dc15 pm15 an15 cd15 ct15),sl15⟩) (c15:PySem.W.codeIn K cd15 "_law_signs" = true) (k15:PySem.W.keepIn K (.ref f15)=true)
  (a16:PySem.W.nsIn K mainGlobals "_law_swing" = some (some (.ref f16))) (l16:K.lookup f16=some ⟨oc16,od16,.func (PySem.W.fnOf "_law_swing" "_law_swing" (defArgs st__law_swing) (defBody st__law_swing) (defScope st__law_swing) .none kV16 dc16 pm16 an16 cd16 ct16),sl16⟩) (c16:PySem.W.codeIn K cd16 "_law_swing" = true) (k16:PySem.W.keepIn K (.ref f16)=true)
  (a17:PySem.W.nsIn K mainGlobals "_law_whole" = some (some (.ref f17))) (l17:K.lookup f17=some ⟨oc17,od17,.func (PySem.W.fnOf "_law_whole" "_law_whole" (defArgs st__law_whole) (defBody st__law_whole) (defScope st__law_whole) .none kV17 dc17 pm17 an17 cd17 ct17),sl17⟩) (c17:PySem.W.codeIn K cd17 "_law_whole" = true) (k17:PySem.W.keepIn K (.ref f17)=true)
  (a18:PySem.W.nsIn K mainGlobals "leaning" = some (some (.ref f18))) (l18:K.lookup f18=some ⟨oc18,od18,.func (PySem.W.fnOf "leaning" "leaning" (defArgs st_leaning_n) (defBody st_leaning_n) (defScope st_leaning_n) .none kV18 dc18 pm18 an18 cd18 ct18),sl18⟩) (c18:PySem.W.codeIn K cd18 "leaning" = true) (k18:PySem.W.keepIn K (.ref f18)=true)
  (a19:PySem.W.nsIn K mainGlobals "law" = some (some (.ref f19))) (l19:K.lookup f19=some ⟨oc19,od19,.func (PySem.W.fnOf "law" "law" (defArgs st_law) (defBody st_law) (defScope st_law) .none kV19 dc19 pm19 an19 cd19 ct19),sl19⟩) (c19:PySem.W.codeIn K cd19 "law" = true) (k19:PySem.W.keepIn K (.ref f19)=true)
  (z_ValueError:PySem.W.nsIn K mainGlobals "ValueError" = some none)
  (z_abs:PySem.W.nsIn K mainGlobals "abs" = some none)
  (z_all:PySem.W.nsIn K mainGlobals "all" = some none)
  (z_bool:PySem.W.nsIn K mainGlobals "bool" = some none)
  (z_divmod:PySem.W.nsIn K mainGlobals "divmod" = some none)
  (z_int:PySem.W.nsIn K mainGlobals "int" = some none)
  (z_isinstance:PySem.W.nsIn K mainGlobals "isinstance" = some none)
  (z_len:PySem.W.nsIn K mainGlobals "len" = some none)
  (z_list:PySem.W.nsIn K mainGlobals "list" = some none)
  (z_max:PySem.W.nsIn K mainGlobals "max" = some none)
  (z_min:PySem.W.nsIn K mainGlobals "min" = some none)
  (z_range:PySem.W.nsIn K mainGlobals "range" = some none)
  (z_repr:PySem.W.nsIn K mainGlobals "repr" = some none)
  (z_tuple:PySem.W.nsIn K mainGlobals "tuple" = some none)
  (z_zip:PySem.W.nsIn K mainGlobals "zip" = some none)
  (z_LONGEST_ROW:PySem.W.nsIn K mainGlobals "LONGEST_ROW" = some (some (.int 16 t_LONGEST_ROW)))
  (gt:PySem.W.specialIn K (.builtin "object.__class__") "__get__" = some (some (.builtin "getset_descriptor.__get__")))
  (tk:PySem.W.takesIn K (.builtin "object.__class__")=some true)
  (n_Bare:PySem.W.nsIn K mainGlobals "Bare" = some (some (.ref C_Bare)))
  (n_Lacking:PySem.W.nsIn K mainGlobals "Lacking" = some (some (.ref C_Lacking)))
  (n_NoLine:PySem.W.nsIn K mainGlobals "NoLine" = some (some (.ref C_NoLine)))
  (n_NoNumber:PySem.W.nsIn K mainGlobals "NoNumber" = some (some (.ref C_NoNumber)))
  (n_NoRow:PySem.W.nsIn K mainGlobals "NoRow" = some (some (.ref C_NoRow)))
  (n_NoSigns:PySem.W.nsIn K mainGlobals "NoSigns" = some (some (.ref C_NoSigns)))
  (n_NoTable:PySem.W.nsIn K mainGlobals "NoTable" = some (some (.ref C_NoTable)))
  (n_NoText:PySem.W.nsIn K mainGlobals "NoText" = some (some (.ref C_NoText)))
  (n_PlusError:PySem.W.nsIn K mainGlobals "PlusError" = some (some (.ref C_PlusError)))
  (n_TooMany:PySem.W.nsIn K mainGlobals "TooMany" = some (some (.ref C_TooMany)))
  (q_NoRow:PySem.W.excIn K C_NoRow veMro "ValueError.__new__" = true)
  (g1_NoRow:PySem.W.findIn K (.ref C_NoRow) "__getattribute__" = some (some (.builtin "BaseException.__getattribute__")))
  (g2_NoRow:PySem.W.findIn K (.ref C_NoRow) "__getattr__" = some none)
  (g3_NoRow:PySem.W.findIn K (.ref C_NoRow) "__class__" = some (some (.builtin "object.__class__")))
  (m1_NoRow:PySem.W.mroIn K C_NoRow (.type "BaseException")=some true)
  (m2_NoRow:PySem.W.mroIn K C_NoRow (.type "object")=some true)
  (cc_NoRow:PySem.W.clsIn K C_NoRow=some cd_NoRow)
  (kv_NoRow:PySem.W.kitOne K (.ref C_NoRow) (.type "ValueError")=some true)
  (ex_NoRow:PySem.W.exmOne K (.ref C_NoRow) (.ref C_PlusError)=some true)
  (is_NoRow_Bare:PySem.W.kitOne K (.ref C_NoRow) (.ref C_Bare)=some false)
  (is_NoRow_Lacking:PySem.W.kitOne K (.ref C_NoRow) (.ref C_Lacking)=some false)
  (is_NoRow_NoLine:PySem.W.kitOne K (.ref C_NoRow) (.ref C_NoLine)=some false)
  (is_NoRow_NoNumber:PySem.W.kitOne K (.ref C_NoRow) (.ref C_NoNumber)=some false)
  (is_NoRow_NoRow:PySem.W.kitOne K (.ref C_NoRow) (.ref C_NoRow)=some true)
  (is_NoRow_NoSigns:PySem.W.kitOne K (.ref C_NoRow) (.ref C_NoSigns)=some false)
  (is_NoRow_NoTable:PySem.W.kitOne K (.ref C_NoRow) (.ref C_NoTable)=some false)
  (is_NoRow_NoText:PySem.W.kitOne K (.ref C_NoRow) (.ref C_NoText)=some false)
  (is_NoRow_PlusError:PySem.W.kitOne K (.ref C_NoRow) (.ref C_PlusError)=some true)
  (is_NoRow_TooMany:PySem.W.kitOne K (.ref C_NoRow) (.ref C_TooMany)=some false)
  (q_NoSigns:PySem.W.excIn K C_NoSigns veMro "ValueError.__new__" = true)
  (g1_NoSigns:PySem.W.findIn K (.ref C_NoSigns) "__getattribute__" = some (some (.builtin "BaseException.__getattribute__")))
  (g2_NoSigns:PySem.W.findIn K (.ref C_NoSigns) "__getattr__" = some none)
  (g3_NoSigns:PySem.W.findIn K (.ref C_NoSigns) "__class__" = some (some (.builtin "object.__class__")))
  (m1_NoSigns:PySem.W.mroIn K C_NoSigns (.type "BaseException")=some true)
  (m2_NoSigns:PySem.W.mroIn K C_NoSigns (.type "object")=some true)
  (cc_NoSigns:PySem.W.clsIn K C_NoSigns=some cd_NoSigns)
  (kv_NoSigns:PySem.W.kitOne K (.ref C_NoSigns) (.type "ValueError")=some true)
  (ex_NoSigns:PySem.W.exmOne K (.ref C_NoSigns) (.ref C_PlusError)=some true)
  (is_NoSigns_Bare:PySem.W.kitOne K (.ref C_NoSigns) (.ref C_Bare)=some false)
  (is_NoSigns_Lacking:PySem.W.kitOne K (.ref C_NoSigns) (.ref C_Lacking)=some false)
  (is_NoSigns_NoLine:PySem.W.kitOne K (.ref C_NoSigns) (.ref C_NoLine)=some false)
  (is_NoSigns_NoNumber:PySem.W.kitOne K (.ref C_NoSigns) (.ref C_NoNumber)=some false)
  (is_NoSigns_NoRow:PySem.W.kitOne K (.ref C_NoSigns) (.ref C_NoRow)=some false)
  (is_NoSigns_NoSigns:PySem.W.kitOne K (.ref C_NoSigns) (.ref C_NoSigns)=some true)
  (is_NoSigns_NoTable:PySem.W.kitOne K (.ref C_NoSigns) (.ref C_NoTable)=some false)
  (is_NoSigns_NoText:PySem.W.kitOne K (.ref C_NoSigns) (.ref C_NoText)=some false)
  (is_NoSigns_PlusError:PySem.W.kitOne K (.ref C_NoSigns) (.ref C_PlusError)=some true)
  (is_NoSigns_TooMany:PySem.W.kitOne K (.ref C_NoSigns) (.ref C_TooMany)=some false):
  ∃ fd:FuncData,(∀ (s:Shared) (v:Value),BindsTo s fd ⟨[v],[]⟩ [("script",v)])∧∀ base:Heap,K.In base→base.Ns mainGlobals mg→FnOk P w K mg base (CX1 P w) 7 fa fd ["script"] (spN K 1 F_law):=by
 have e:=hfa.symm.trans (PySem.W.mg_of X G a19)
 cases e
 have T:Txt K mg:=⟨cls_mk gt tk n_Bare n_Lacking n_NoLine n_NoNumber n_NoRow n_NoSigns n_NoTable n_NoText n_PlusError n_TooMany q_NoRow g1_NoRow g2_NoRow g3_NoRow m1_NoRow m2_NoRow cc_NoRow kv_NoRow ex_NoRow is_NoRow_Bare is_NoRow_Lacking is_NoRow_NoLine is_NoRow_NoNumber is_NoRow_NoRow is_NoRow_NoSigns is_NoRow_NoTable is_NoRow_NoText is_NoRow_PlusError is_NoRow_TooMany q_NoSigns g1_NoSigns g2_NoSigns g3_NoSigns m1_NoSigns m2_NoSigns cc_NoSigns kv_NoSigns ex_NoSigns is_NoSigns_Bare is_NoSigns_Lacking is_NoSigns_NoLine is_NoSigns_NoNumber is_NoSigns_NoRow is_NoSigns_NoSigns is_NoSigns_NoTable is_NoSigns_NoText is_NoSigns_PlusError is_NoSigns_TooMany,⟨_,PySem.W.mg_of X G n_NoRow,n_NoRow,q_NoRow⟩,⟨_,PySem.W.mg_of X G n_NoSigns,n_NoSigns,q_NoSigns⟩,⟨_,PySem.W.mg_of X G n_Bare,n_Bare⟩,⟨_,PySem.W.mg_of X G n_Lacking,n_Lacking⟩,⟨_,PySem.W.mg_of X G n_NoLine,n_NoLine⟩,⟨_,PySem.W.mg_of X G n_NoNumber,n_NoNumber⟩,⟨_,PySem.W.mg_of X G n_NoRow,n_NoRow⟩,⟨_,PySem.W.mg_of X G n_NoSigns,n_NoSigns⟩,⟨_,PySem.W.mg_of X G n_NoTable,n_NoTable⟩,⟨_,PySem.W.mg_of X G n_NoText,n_NoText⟩,⟨_,PySem.W.mg_of X G n_PlusError,n_PlusError⟩,⟨_,PySem.W.mg_of X G n_TooMany,n_TooMany⟩,try_mk X G gt tk n_Bare n_Lacking n_NoLine n_NoNumber n_NoRow n_NoSigns n_NoTable n_NoText n_PlusError n_TooMany q_NoRow g1_NoRow g2_NoRow g3_NoRow m1_NoRow m2_NoRow cc_NoRow kv_NoRow ex_NoRow is_NoRow_Bare is_NoRow_Lacking is_NoRow_NoLine is_NoRow_NoNumber is_NoRow_NoRow is_NoRow_NoSigns is_NoRow_NoTable is_NoRow_NoText is_NoRow_PlusError is_NoRow_TooMany q_NoSigns g1_NoSigns g2_NoSigns g3_NoSigns m1_NoSigns m2_NoSigns cc_NoSigns kv_NoSigns ex_NoSigns is_NoSigns_Bare is_NoSigns_Lacking is_NoSigns_NoLine is_NoSigns_NoNumber is_NoSigns_NoRow is_NoSigns_NoSigns is_NoSigns_NoTable is_NoSigns_NoText is_NoSigns_PlusError is_NoSigns_TooMany,PySem.W.mg_none_of X G z_ValueError,PySem.W.mg_none_of X G z_abs,PySem.W.mg_none_of X G z_all,PySem.W.mg_none_of X G z_bool,PySem.W.mg_none_of X G z_divmod,PySem.W.mg_none_of X G z_int,PySem.W.mg_none_of X G z_isinstance,PySem.W.mg_none_of X G z_len,PySem.W.mg_none_of X G z_list,PySem.W.mg_none_of X G z_max,PySem.W.mg_none_of X G z_min,PySem.W.mg_none_of X G z_range,PySem.W.mg_none_of X G z_repr,PySem.W.mg_none_of X G z_tuple,PySem.W.mg_none_of X G z_zip,⟨_,PySem.W.mg_of X G z_LONGEST_ROW⟩⟩
 have F0:=fun_mk (st:=st__law_box) l0 c0 k0
 have b0:=F0.binds (ps:=["script","k"]) fun _ _ _ _ _ _=>us2 fun _ _=>rfl
 have F1:=fun_mk (st:=st__law_leaning) l1 c1 k1
 have b1:=F1.binds (ps:=["row"]) fun _ _ _ _ _ _=>us1 fun _=>rfl
 have F2:=fun_mk (st:=st__law_take) l2 c2 k2
 have b2:=F2.binds (ps:=["box","many"]) fun _ _ _ _ _ _=>us2 fun _ _=>rfl
 have F3:=fun_mk (st:=st__law_odd) l3 c3 k3
 have b3:=F3.binds (ps:=["box"]) fun _ _ _ _ _ _=>us1 fun _=>rfl
 have F4:=fun_mk (st:=st__law_row) l4 c4 k4
 have b4:=F4.binds (ps:=["box","most"]) fun _ _ _ _ _ _=>us2 fun _ _=>rfl
 have F5:=fun_mk (st:=st__law_classes) l5 c5 k5
 have b5:=F5.binds (ps:=["e"]) fun _ _ _ _ _ _=>us1 fun _=>rfl
 have F6:=fun_mk (st:=st__law_only) l6 c6 k6
 have b6:=F6.binds (ps:=["e","place"]) fun _ _ _ _ _ _=>us2 fun _ _=>rfl
 have F7:=fun_mk (st:=st_is_whole) l7 c7 k7
 have b7:=F7.binds (ps:=["thing"]) fun _ _ _ _ _ _=>us1 fun _=>rfl
 have F8:=fun_mk (st:=st_is_row) l8 c8 k8
 have b8:=F8.binds (ps:=["thing"]) fun _ _ _ _ _ _=>us1 fun _=>rfl
 have F9:=fun_mk (st:=st_need_row) l9 c9 k9
 have b9:=F9.binds (ps:=["thing"]) fun _ _ _ _ _ _=>us1 fun _=>rfl
 have F10:=fun_mk (st:=st_are_whole) l10 c10 k10
 have b10:=F10.binds (ps:=["thing","many"]) fun _ _ _ _ _ _=>us2 fun _ _=>rfl
 have F11:=fun_mk (st:=st_are_so_many_signs) l11 c11 k11
 have b11:=F11.binds (ps:=["thing","many"]) fun _ _ _ _ _ _=>us2 fun _ _=>rfl
 have F12:=fun_mk (st:=st_need_so_many_signs) l12 c12 k12
 have b12:=F12.binds (ps:=["thing","many"]) fun _ _ _ _ _ _=>us2 fun _ _=>rfl
 have F13:=fun_mk (st:=st_swing) l13 c13 k13
 have b13:=F13.binds (ps:=["row","signs"]) fun _ _ _ _ _ _=>us2 fun _ _=>rfl
 have F14:=fun_mk (st:=st__law_said) l14 c14 k14
 have b14:=F14.binds (ps:=["row","signs"]) fun _ _ _ _ _ _=>us2 fun _ _=>rfl
 have F15:=fun_mk (st:=st__law_signs) l15 c15 k15
 have b15:=F15.binds (ps:=["box","many"]) fun _ _ _ _ _ _=>us2 fun _ _=>rfl
 have F16:=fun_mk (st:=st__law_swing) l16 c16 k16
 have b16:=F16.binds (ps:=["row","signs"]) fun _ _ _ _ _ _=>us2 fun _ _=>rfl
 have F17:=fun_mk (st:=st__law_whole) l17 c17 k17
 have b17:=F17.binds (ps:=["thing"]) fun _ _ _ _ _ _=>us1 fun _=>rfl
 have F18:=fun_mk (st:=st_leaning_n) l18 c18 k18
 have b18:=F18.binds (ps:=["row"]) fun _ _ _ _ _ _=>us1 fun _=>rfl
 have F19:=fun_mk (st:=st_law) l19 c19 k19
 have b19:=F19.binds (ps:=["script"]) fun _ _ _ _ _ _=>us1 fun _=>rfl
 refine ⟨PySem.W.fnOf "law" "law" (defArgs st_law) (defBody st_law) (defScope st_law) .none kV19 dc19 pm19 an19 cd19 ct19,fun s v=>.of_eq rfl,fun base _ _=>?_⟩
 have d__law_box:DefN P w K mg base "_law_box" 1 2 F__law_box:=ok__law_box F0 (PySem.W.mg_of X G a0) b0 T
 have d__law_leaning:DefN P w K mg base "_law_leaning" 1 1 F__law_leaning:=ok__law_leaning F1 (PySem.W.mg_of X G a1) b1 T
 have d__law_take:DefN P w K mg base "_law_take" 1 2 F__law_take:=ok__law_take F2 (PySem.W.mg_of X G a2) b2 T
 have d__law_odd:DefN P w K mg base "_law_odd" 2 1 F__law_odd:=ok__law_odd F3 (PySem.W.mg_of X G a3) b3 T d__law_take
 have d__law_row:DefN P w K mg base "_law_row" 2 2 F__law_row:=ok__law_row F4 (PySem.W.mg_of X G a4) b4 T d__law_take
 have d__law_classes:DefM P w K mg base "_law_classes" 1 1 F__law_classes:=ok__law_classes F5 (PySem.W.mg_of X G a5) b5 T
 have d__law_only:DefM P w K mg base "_law_only" 2 2 F__law_only:=ok__law_only F6 (PySem.W.mg_of X G a6) b6 T d__law_classes
 have d_is_whole:DefN P w K mg base "is_whole" 1 1 F_is_whole:=ok_is_whole F7 (PySem.W.mg_of X G a7) b7 T
 have d_is_row:DefN P w K mg base "is_row" 2 1 F_is_row:=ok_is_row F8 (PySem.W.mg_of X G a8) b8 T d_is_whole
 have d_need_row:DefR P w K mg base "need_row" 3 1 F_need_row:=ok_need_row F9 (PySem.W.mg_of X G a9) b9 T d_is_row
 have d_are_whole:DefN P w K mg base "are_whole" 2 2 F_are_whole:=ok_are_whole F10 (PySem.W.mg_of X G a10) b10 T d_is_whole
 have d_are_so_many_signs:DefN P w K mg base "are_so_many_signs" 3 2 F_are_so_many_signs:=ok_are_so_many_signs F11 (PySem.W.mg_of X G a11) b11 T d_are_whole
 have d_need_so_many_signs:DefR P w K mg base "need_so_many_signs" 4 2 F_need_so_many_signs:=ok_need_so_many_signs F12 (PySem.W.mg_of X G a12) b12 T d_are_so_many_signs
 have d_swing:DefR P w K mg base "swing" 5 2 F_swing:=ok_swing F13 (PySem.W.mg_of X G a13) b13 T d_need_row d_need_so_many_signs
 have d__law_said:DefN P w K mg base "_law_said" 6 2 F__law_said:=ok__law_said F14 (PySem.W.mg_of X G a14) b14 T d__law_only d_swing
 have d__law_signs:DefN P w K mg base "_law_signs" 2 2 F__law_signs:=ok__law_signs F15 (PySem.W.mg_of X G a15) b15 T d__law_take
 have d__law_swing:DefN P w K mg base "_law_swing" 1 2 F__law_swing:=ok__law_swing F16 (PySem.W.mg_of X G a16) b16 T
 have d__law_whole:DefN P w K mg base "_law_whole" 1 1 F__law_whole:=ok__law_whole F17 (PySem.W.mg_of X G a17) b17 T
 have d_need_row_n:DefN P w K mg base "need_row" 3 1 F_need_row_n:=ok_need_row_n F9 (PySem.W.mg_of X G a9) b9 T d_is_row
 have d_leaning_n:DefN P w K mg base "leaning" 4 1 F_leaning_n:=ok_leaning_n F18 (PySem.W.mg_of X G a18) b18 T d_need_row_n
 exact law_ofN ["script","k","box","row","many","turns","signs","bad","thing","found","good"] ["script"] 6 7 1 11 rfl rfl rfl (m:=m_law) F19 sc_law fun cdv A outer s H E hr=>(ss_cons (ss_for PassesOwn.never rfl (si_range1 (by unfold Gl; kernel_rfl) T.b_range (sa_cons (se_callB (xc_max rfl) (by unfold Gl; kernel_rfl) T.b_max boo_max (sa_cons se_int (sa_cons (se_callB (xc_min rfl) (by unfold Gl; kernel_rfl) T.b_min boo_min (sa_cons (se_callB xc_len (by unfold Gl; kernel_rfl) T.b_len boo_len (sa_cons (se_var 0 (by kernel_rfl) (Or.inl (by kernel_rfl))) sa_nil)) (sa_cons se_int sa_nil))) sa_nil))) sa_nil)) (sg_name sc_law.nd (by kernel_rfl) (Or.inl (by kernel_rfl))) (ss_cons (ss_set sc_law.nd (by kernel_rfl) (Or.inl (by kernel_rfl)) (se_fnN d__law_box (hr.mono (by decide)) (by unfold Gl; kernel_rfl) (sa_cons (se_var 0 (by kernel_rfl) (Or.inl (by kernel_rfl))) (sa_cons (se_var 1 (by kernel_rfl) (Or.inl (by kernel_rfl))) sa_nil)) (alen_cons (alen_cons alen_nil)))) (ss_cons (ss_set sc_law.nd (by kernel_rfl) (Or.inl (by kernel_rfl)) (se_fnN d__law_row (hr.mono (by decide)) (by unfold Gl; kernel_rfl) (sa_cons (se_var 2 (by kernel_rfl) (Or.inl (by kernel_rfl))) (sa_cons se_int sa_nil)) (alen_cons (alen_cons alen_nil)))) (ss_cons (ss_set sc_law.nd (by kernel_rfl) (Or.inl (by kernel_rfl)) (se_callB xc_len (by unfold Gl; kernel_rfl) T.b_len boo_len (sa_cons (se_var 3 (by kernel_rfl) (Or.inl (by kernel_rfl))) sa_nil))) (ss_cons (ss_set sc_law.nd (by kernel_rfl) (Or.inl (by kernel_rfl)) (se_callTy xc_tuple (by unfold Gl; kernel_rfl) T.b_tuple boo_tuple (sa_cons (se_comp (N:=["at"]) (k:=1) (caps:=[]) rfl (fun _ _ z=>z) (cs_mk (by kernel_rfl) (by kernel_rfl) (by kernel_rfl) (by kernel_rfl) rfl (by kernel_rfl)) (si_range1 (by unfold Gl; kernel_rfl) T.b_range (sa_cons (se_var 4 (by kernel_rfl) (Or.inl (by kernel_rfl))) sa_nil)) (fun _ _ _ _=>(sg_name (show (["at"]:List Str).Nodup by decide +kernel) (by kernel_rfl) (Or.inl (by kernel_rfl)))) (fun _ _ _ _=>sif_nil) (fun _ _ _ _=>(se_op xo_sub se_int (se_op xo_mul se_int (se_op xo_mod (se_var 0 (by kernel_rfl) (Or.inl (by kernel_rfl))) se_int))))) sa_nil))) (ss_cons (ss_for PassesOwn.never rfl (si_seq (se_lst (sa_cons (se_fnN d__law_signs (hr.mono (by decide)) (by unfold Gl; kernel_rfl) (sa_cons (se_var 2 (by kernel_rfl) (Or.inl (by kernel_rfl))) (sa_cons (se_var 4 (by kernel_rfl) (Or.inl (by kernel_rfl))) sa_nil)) (alen_cons (alen_cons alen_nil))) (sa_cons (se_op xo_mul (se_tup (sa_cons se_int sa_nil)) (se_var 4 (by kernel_rfl) (Or.inl (by kernel_rfl)))) (sa_cons (se_op xo_mul (se_tup (sa_cons (se_un xu_neg se_int) sa_nil)) (se_var 4 (by kernel_rfl) (Or.inl (by kernel_rfl)))) (sa_cons (se_var 5 (by kernel_rfl) (Or.inl (by kernel_rfl))) (sa_cons (se_fnN d__law_leaning (hr.mono (by decide)) (by unfold Gl; kernel_rfl) (sa_cons (se_var 3 (by kernel_rfl) (Or.inl (by kernel_rfl))) sa_nil) (alen_cons alen_nil)) sa_nil))))))) (sg_name sc_law.nd (by kernel_rfl) (Or.inl (by kernel_rfl))) (ss_cons (ss_set sc_law.nd (by kernel_rfl) (Or.inl (by kernel_rfl)) (se_fnN d__law_said (hr.mono (by decide)) (by unfold Gl; kernel_rfl) (sa_cons (se_var 3 (by kernel_rfl) (Or.inl (by kernel_rfl))) (sa_cons (se_var 6 (by kernel_rfl) (Or.inl (by kernel_rfl))) sa_nil)) (alen_cons (alen_cons alen_nil)))) (ss_one (ss_if (sw_st (sw_or (st_not (st_val (se_fnN d__law_whole (hr.mono (by decide)) (by unfold Gl; kernel_rfl) (sa_cons (se_var 9 (by kernel_rfl) (Or.inl (by kernel_rfl))) sa_nil) (alen_cons alen_nil)))) (sw_or1 (st_cmp (xo_neP hr) (se_var 9 (by kernel_rfl) (Or.inl (by kernel_rfl))) (se_fnN d__law_swing (hr.mono (by decide)) (by unfold Gl; kernel_rfl) (sa_cons (se_var 3 (by kernel_rfl) (Or.inl (by kernel_rfl))) (sa_cons (se_var 6 (by kernel_rfl) (Or.inl (by kernel_rfl))) sa_nil)) (alen_cons (alen_cons alen_nil))))))) (ss_one (ss_ret se_bl)) ss_nil)))) (ss_cons (ss_if (st_cmp (xo_neP hr) (se_callB (xc_repr hr) (by unfold Gl; kernel_rfl) T.b_repr boo_repr (sa_cons (se_fnN d_leaning_n (hr.mono (by decide)) (by unfold Gl; kernel_rfl) (sa_cons (se_var 3 (by kernel_rfl) (Or.inl (by kernel_rfl))) sa_nil) (alen_cons alen_nil)) sa_nil)) (se_callB (xc_repr hr) (by unfold Gl; kernel_rfl) T.b_repr boo_repr (sa_cons (se_fnN d__law_leaning (hr.mono (by decide)) (by unfold Gl; kernel_rfl) (sa_cons (se_var 3 (by kernel_rfl) (Or.inl (by kernel_rfl))) sa_nil) (alen_cons alen_nil)) sa_nil))) (ss_one (ss_ret se_bl)) ss_nil) (ss_cons (ss_set sc_law.nd (by kernel_rfl) (Or.inl (by kernel_rfl)) (se_lst (sa_cons (se_op xo_mul (se_tup (sa_cons se_int sa_nil)) (se_op xo_add (se_var 4 (by kernel_rfl) (Or.inl (by kernel_rfl))) se_int)) (sa_cons (se_callTy xc_list (by unfold Gl; kernel_rfl) T.b_list boo_list (sa_cons (se_var 5 (by kernel_rfl) (Or.inl (by kernel_rfl))) sa_nil)) (sa_cons (se_op xo_add (se_var 5 (by kernel_rfl) (Or.inl (by kernel_rfl))) (se_tup (sa_cons se_int sa_nil))) (sa_cons (se_op xo_add (se_op xo_mul (se_tup (sa_cons se_int sa_nil)) (se_var 4 (by kernel_rfl) (Or.inl (by kernel_rfl)))) (se_tup (sa_cons se_int sa_nil))) (sa_cons (se_fnN d__law_odd (hr.mono (by decide)) (by unfold Gl; kernel_rfl) (sa_cons (se_var 2 (by kernel_rfl) (Or.inl (by kernel_rfl))) sa_nil) (alen_cons alen_nil)) (sa_cons (se_op xo_add (se_tup (sa_cons se_bl sa_nil)) (se_sl xl_tup (se_var 5 (by kernel_rfl) (Or.inl (by kernel_rfl))) (so_some se_int) so_none)) sa_nil)))))))) (ss_one (ss_for PassesOwn.never rfl (si_seq (se_op xo_add (se_var 7 (by kernel_rfl) (Or.inl (by kernel_rfl))) (se_lst (sa_cons (se_op xo_add (se_tup (sa_cons se_int sa_nil)) (se_sl xl_tup (se_var 5 (by kernel_rfl) (Or.inl (by kernel_rfl))) (so_some se_int) so_none)) (sa_cons (se_op xo_add (se_tup (sa_cons se_int sa_nil)) (se_sl xl_tup (se_var 5 (by kernel_rfl) (Or.inl (by kernel_rfl))) (so_some se_int) so_none)) (sa_cons se_non sa_nil)))))) (sg_name sc_law.nd (by kernel_rfl) (Or.inl (by kernel_rfl))) (ss_cons (ss_set sc_law.nd (by kernel_rfl) (Or.inl (by kernel_rfl)) (se_and (se_callB xc_isi (by unfold Gl; kernel_rfl) T.b_isinstance boo_isinstance (sa_cons (se_var 8 (by kernel_rfl) (Or.inl (by kernel_rfl))) (sa_cons (se_ty (by unfold Gl; kernel_rfl) T.b_tuple boo_tuple) sa_nil))) (se_one (se_cmp (xo_eqP hr) (se_callB xc_len (by unfold Gl; kernel_rfl) T.b_len boo_len (sa_cons (se_var 8 (by kernel_rfl) (Or.inl (by kernel_rfl))) sa_nil)) (se_var 4 (by kernel_rfl) (Or.inl (by kernel_rfl))))))) (ss_one (ss_if (sw_st (sw_or (st_not (st_val (se_var 10 (by kernel_rfl) (Or.inl (by kernel_rfl))))) (sw_or1 (st_not (st_val (se_callB (xc_all rfl) (by unfold Gl; kernel_rfl) T.b_all boo_all (sa_cons (se_comp (N:=["one"]) (k:=1) (caps:=[]) rfl (fun _ _ z=>z) (cs_mk (by kernel_rfl) (by kernel_rfl) (by kernel_rfl) (by kernel_rfl) rfl (by kernel_rfl)) (si_seq (se_var 8 (by kernel_rfl) (Or.inl (by kernel_rfl)))) (fun _ _ _ _=>(sg_name (show (["one"]:List Str).Nodup by decide +kernel) (by kernel_rfl) (Or.inl (by kernel_rfl)))) (fun _ _ _ _=>sif_nil) (fun _ _ _ _=>(se_and (se_fnN d__law_whole (hr.mono (by decide)) (by unfold Gl; kernel_rfl) (sa_cons (se_var 0 (by kernel_rfl) (Or.inl (by kernel_rfl))) sa_nil) (alen_cons alen_nil)) (se_one (se_cmp (xo_eqP hr) (se_op xo_mul (se_var 0 (by kernel_rfl) (Or.inl (by kernel_rfl))) (se_var 0 (by kernel_rfl) (Or.inl (by kernel_rfl)))) se_int))))) sa_nil))))))) (ss_one (ss_if (st_cmp (xo_neP hr) (se_fnN d__law_said (hr.mono (by decide)) (by unfold Gl; kernel_rfl) (sa_cons (se_var 3 (by kernel_rfl) (Or.inl (by kernel_rfl))) (sa_cons (se_var 8 (by kernel_rfl) (Or.inl (by kernel_rfl))) sa_nil)) (alen_cons (alen_cons alen_nil))) (se_lst (sa_cons se_str (sa_cons se_int sa_nil)))) (ss_one (ss_ret se_bl)) ss_nil)) ss_nil))))))))))))) (ss_one (ss_ret se_bl)))
theorem walk {l:PySem.W.OpenLaw} {q:Program} {loose:List Str} {XP:(Str→Option Value)→Heap→Prop} {YP:World→Heap→Prop} {d:DefRec} {K:Params→PySem.W.Frag} (hn:l.most=some 63) (hdf:d.params.defaults=[])
  (hY:∀ (w:World) (h:Heap),YP w h→(K w.params).In h)
  (F:∀ (w:World) (mg:Str→Option Value) (fa:Addr) (h:Heap),(K w.params).In h→h.Ns mainGlobals mg→mg d.name=some (.ref fa)→
   ∃ fd:FuncData,(∀ (s:Shared) (u:Value),BindsTo s fd ⟨[u],[]⟩ [("script",u)])∧∀ base:Heap,(K w.params).In base→base.Ns mainGlobals mg→FnOk l.prog w (K w.params) mg base (CX1 l.prog w) 7 fa fd ["script"] (spN (K w.params) 1 F_law)):
  PySem.W.WalkO q loose XP YP l.row.toRowW d [] (fun f vs=>PySem.call f vs):=
 L2.walk_of (n:=63) (k:=7) (x:="script") (CX:=fun w=>CX1 l.prog w) (sp:=fun w=>spN (K w.params) 1 F_law) hn (by decide) hdf ⟨rfl,by decide,by decide,rfl⟩ hY F (fun w H a ns hl ho hS=>law_spN law_true (K w.params) H a ns hl ho hS) fun _ _ _ _ _ z=>cx1_no z
end Lw
open PySem PySem.W PyProof.Rows
set_option maxRecDepth 100000 in
set_option maxHeartbeats 0 in
theorem PySem.Challenge.cw_plusless_k51_swings_holds : PySem.Challenge.rw_plusless_k51_swings.Holds := by
  w_on; o_law
  refine holds_open (q := Lw.hV) (loose := []) (Xt := Lw.hX) (XP := XL Lw.hV []) (Yf := Hook.obs (kHook Lw.hK Lw.hA Lw.hKA)) (Ya := Hook.val (kHook Lw.hK Lw.hA Lw.hKA)) (YP := Hook.says (kHook Lw.hK Lw.hA Lw.hKA)) (N := 9400) Lw.left (Hook.of (kHook Lw.hK Lw.hA Lw.hKA)) (Hook.keeps (kHook Lw.hK Lw.hA Lw.hKA)) (fun s e => xl_of s (Bool.and_eq_true_iff.mp e).1) XL.keeps (by rfl) (by rfl) (by rfl) (fun s e => recFacts_of (Bool.and_eq_true_iff.mp e).2) (by rfl) (by first | assumption | decide +kernel) (by decide +kernel) ⟨rfl, rfl, rfl, rfl, rfl, by decide +kernel⟩ ?hw ?hc
  case hw => w_witness2
  k_fill
  refine Lw.walk (l := PySem.Challenge.rw_plusless_k51_swings) rfl rfl (fun w h Y => PySem.W.kIn_of Y) ?F
  case F =>
    intro w mg fa h KX G hmg
    refine' Lw.all_mk KX G hmg ?a0 ?l0 ?c0 ?k0 ?a1 ?l1 ?c1 ?k1 ?a2 ?l2 ?c2 ?k2 ?a3 ?l3 ?c3 ?k3 ?a4 ?l4 ?c4 ?k4 ?a5 ?l5 ?c5 ?k5 ?a6 ?l6 ?c6 ?k6 ?a7 ?l7 ?c7 ?k7 ?a8 ?l8 ?c8 ?k8 ?a9 ?l9 ?c9 ?k9 ?a10 ?l10 ?c10 ?k10 ?a11 ?l11 ?c11 ?k11 ?a12 ?l12 ?c12 ?k12 ?a13 ?l13 ?c13 ?k13 ?a14 ?l14 ?c14 ?k14 ?a15 ?l15 ?c15 ?k15 ?a16 ?l16 ?c16 ?k16 ?a17 ?l17 ?c17 ?k17 ?a18 ?l18 ?c18 ?k18 ?a19 ?l19 ?c19 ?k19 ?z_ValueError ?z_abs ?z_all ?z_bool ?z_divmod ?z_int ?z_isinstance ?z_len ?z_list ?z_max ?z_min ?z_range ?z_repr ?z_tuple ?z_zip ?z_LONGEST_ROW ?gt ?tk ?n_Bare ?n_Lacking ?n_NoLine ?n_NoNumber ?n_NoRow ?n_NoSigns ?n_NoTable ?n_NoText ?n_PlusError ?n_TooMany ?q_NoRow ?g1_NoRow ?g2_NoRow ?g3_NoRow ?m1_NoRow ?m2_NoRow ?cc_NoRow ?kv_NoRow ?ex_NoRow ?is_NoRow_Bare ?is_NoRow_Lacking ?is_NoRow_NoLine ?is_NoRow_NoNumber ?is_NoRow_NoRow ?is_NoRow_NoSigns ?is_NoRow_NoTable ?is_NoRow_NoText ?is_NoRow_PlusError ?is_NoRow_TooMany ?q_NoSigns ?g1_NoSigns ?g2_NoSigns ?g3_NoSigns ?m1_NoSigns ?m2_NoSigns ?cc_NoSigns ?kv_NoSigns ?ex_NoSigns ?is_NoSigns_Bare ?is_NoSigns_Lacking ?is_NoSigns_NoLine ?is_NoSigns_NoNumber ?is_NoSigns_NoRow ?is_NoSigns_NoSigns ?is_NoSigns_NoTable ?is_NoSigns_NoText ?is_NoSigns_PlusError ?is_NoSigns_TooMany
    (case a0 => k_is)
    (case l0 => k_is)
    (case c0 => k_is)
    (case k0 => k_is)
    (case a1 => k_is)
    (case l1 => k_is)
    (case c1 => k_is)
    (case k1 => k_is)
    (case a2 => k_is)
    (case l2 => k_is)
    (case c2 => k_is)
    (case k2 => k_is)
    (case a3 => k_is)
    (case l3 => k_is)
    (case c3 => k_is)
    (case k3 => k_is)
    (case a4 => k_is)
    (case l4 => k_is)
    (case c4 => k_is)
    (case k4 => k_is)
    (case a5 => k_is)
    (case l5 => k_is)
    (case c5 => k_is)
    (case k5 => k_is)
    (case a6 => k_is)
    (case l6 => k_is)
    (case c6 => k_is)
    (case k6 => k_is)
    (case a7 => k_is)
    (case l7 => k_is)
    (case c7 => k_is)
    (case k7 => k_is)
    (case a8 => k_is)
    (case l8 => k_is)
    (case c8 => k_is)
    (case k8 => k_is)
    (case a9 => k_is)
    (case l9 => k_is)
    (case c9 => k_is)
    (case k9 => k_is)
    (case a10 => k_is)
    (case l10 => k_is)
    (case c10 => k_is)
    (case k10 => k_is)
    (case a11 => k_is)
    (case l11 => k_is)
    (case c11 => k_is)
    (case k11 => k_is)
    (case a12 => k_is)
    (case l12 => k_is)
    (case c12 => k_is)
    (case k12 => k_is)
    (case a13 => k_is)
    (case l13 => k_is)
    (case c13 => k_is)
    (case k13 => k_is)
    (case a14 => k_is)
    (case l14 => k_is)
    (case c14 => k_is)
    (case k14 => k_is)
    (case a15 => k_is)
    (case l15 => k_is)
    (case c15 => k_is)
    (case k15 => k_is)
    (case a16 => k_is)
    (case l16 => k_is)
    (case c16 => k_is)
    (case k16 => k_is)
    (case a17 => k_is)
    (case l17 => k_is)
    (case c17 => k_is)
    (case k17 => k_is)
    (case a18 => k_is)
    (case l18 => k_is)
    (case c18 => k_is)
    (case k18 => k_is)
    (case a19 => k_is)
    (case l19 => k_is)
    (case c19 => k_is)
    (case k19 => k_is)
    (case z_ValueError => k_is)
    (case z_abs => k_is)
    (case z_all => k_is)
    (case z_bool => k_is)
    (case z_divmod => k_is)
    (case z_int => k_is)
    (case z_isinstance => k_is)
    (case z_len => k_is)
    (case z_list => k_is)
    (case z_max => k_is)
    (case z_min => k_is)
    (case z_range => k_is)
    (case z_repr => k_is)
    (case z_tuple => k_is)
    (case z_zip => k_is)
    (case z_LONGEST_ROW => k_is)
    (case gt => k_is)
    (case tk => k_is)
    (case n_Bare => k_is)
    (case n_Lacking => k_is)
    (case n_NoLine => k_is)
    (case n_NoNumber => k_is)
    (case n_NoRow => k_is)
    (case n_NoSigns => k_is)
    (case n_NoTable => k_is)
    (case n_NoText => k_is)
    (case n_PlusError => k_is)
    (case n_TooMany => k_is)
    (case q_NoRow => k_exc)
    (case g1_NoRow => k_is)
    (case g2_NoRow => k_is)
    (case g3_NoRow => k_is)
    (case m1_NoRow => k_is)
    (case m2_NoRow => k_is)
    (case cc_NoRow => k_is)
    (case kv_NoRow => kit_is)
    (case ex_NoRow => kts_exm)
    (case is_NoRow_Bare => kit_is)
    (case is_NoRow_Lacking => kit_is)
    (case is_NoRow_NoLine => kit_is)
    (case is_NoRow_NoNumber => kit_is)
    (case is_NoRow_NoRow => kit_is)
    (case is_NoRow_NoSigns => kit_is)
    (case is_NoRow_NoTable => kit_is)
    (case is_NoRow_NoText => kit_is)
    (case is_NoRow_PlusError => kit_is)
    (case is_NoRow_TooMany => kit_is)
    (case q_NoSigns => k_exc)
    (case g1_NoSigns => k_is)
    (case g2_NoSigns => k_is)
    (case g3_NoSigns => k_is)
    (case m1_NoSigns => k_is)
    (case m2_NoSigns => k_is)
    (case cc_NoSigns => k_is)
    (case kv_NoSigns => kit_is)
    (case ex_NoSigns => kts_exm)
    (case is_NoSigns_Bare => kit_is)
    (case is_NoSigns_Lacking => kit_is)
    (case is_NoSigns_NoLine => kit_is)
    (case is_NoSigns_NoNumber => kit_is)
    (case is_NoSigns_NoRow => kit_is)
    (case is_NoSigns_NoSigns => kit_is)
    (case is_NoSigns_NoTable => kit_is)
    (case is_NoSigns_NoText => kit_is)
    (case is_NoSigns_PlusError => kit_is)
    (case is_NoSigns_TooMany => kit_is)
