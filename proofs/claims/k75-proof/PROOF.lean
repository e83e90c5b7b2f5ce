import PyProof.Rows.All
import Wide.All
import OpenK.AllK
import Wide.FinOn
import PyProof.EqAt
import PyProof.EqKinds
import PyProof.TupleCall
import PyProof.ZipIter
import PyProof.EnumMake
import PyProof.Draws
import PyProof.LayNew
import PyProof.Rows.SortShell
import PyProof.IsRules
import PyProof.ListIndex
import PyProof.Cells
import PyProof.CompUse
import PyProof.DictItems
import PyProof.DictItemsLoops
import PyProof.Rows.MinMaxN
import PyProof.Rows.Range3
import KE.KRevIter
import PyProof.DictWalks
import PyProof.NeKinds
import PyProof.DictList
import PyProof.DictUpdate
import PyProof.Rows.Tup
import PyProof.FactsAll.tuple_2
import PyProof.Rows.CallKwBuiltin
import KE.KDictSum
import Lean
import PySem.Challenge.RW_plusless_k75_whole_rows_and_tables
set_option Elab.async false
set_option linter.all false
set_option maxRecDepth 100000
noncomputable section
namespace Lw
open PySem
def top (i:Nat):Stmt:=PySem.Challenge.pw_plusless_k75_whole_rows_and_tables.main.body.getD i (.Pass ⟨0,0,0,0⟩)
def hdI (s:Stmt) (j:Nat):Stmt:=match s with
 | .ClassDef _ _ _ body _ _ _ _ _ _ _=>body.getD j (.Pass ⟨0,0,0,0⟩)
 | _=>.Pass ⟨0,0,0,0⟩
def hdA (s:Stmt):Arguments:=match s with
 | .FunctionDef _ a _ _ _ _ _ _ _ _=>a
 | _=>{posonlyargs:=[],args:=[],vararg:=none,kwonlyargs:=[],kw_defaults:=[],kwarg:=none,defaults:=[]}
def hdB (s:Stmt):List Stmt:=match s with
 | .FunctionDef _ _ b _ _ _ _ _ _ _=>b
 | _=>[]
def hdS (s:Stmt):Scope:=match s with
 | .FunctionDef _ _ _ _ _ _ sc _ _ _=>sc
 | _=>{kind:=.function,names:=[],isGenerator:=false,isCoroutine:=false}
def hE (P:Params) (n:Str) (t:Tok) (v:Value):DictEntry:={hash:=PyData.keyHash P n,key:=.str n t,val:=v}
def hFQ (n:Str) (i:Nat) (m:Str) (t:Tok) (c:Addr):Obj:={cls:=.type "function",data:=.func {name:=n,qualname:=n,params:=hdA (top i),body:=.stmts (hdB (top i)),scope:=hdS (top i),globals:=3,closure:=[],defaults:=.none,kwdefaults:=.none,pyModule:=.str m t,code:=.ref c}}
def hCQ (n:Str) (t0 t1 t2:Tok) (a b c d e:Int) (r0:Value) (f:Int) (r1 r2 r3 r4 r5:Value) (g h:Int) (t3:Tok):Obj:={cls:=.type "code",data:=.fields #[.str n t0,.str n t1,.str "/claim/cut.py" t2,.int a 0,.int b 0,.int c 0,.int d 0,.int e 0,r0,.bool true,.int f 0,r1,r2,r3,r4,r5,.int g 0,.int h 0,.str "/claim/cut.py" t3]}
def hMQ (n q:Str) (i j:Nat) (m:Str) (t:Tok) (c:Addr):Obj:={cls:=.type "function",data:=.func {name:=n,qualname:=q,params:=hdA (hdI (top i) j),body:=.stmts (hdB (hdI (top i) j)),scope:=hdS (hdI (top i) j),globals:=3,closure:=[],defaults:=.none,kwdefaults:=.none,pyModule:=.str m t,code:=.ref c}}
def hC2 (q n:Str) (t0 t1 t2:Tok) (a b c d e:Int) (r0:Value) (f:Int) (r1 r2 r3 r4 r5:Value) (g h:Int) (t3:Tok):Obj:={cls:=.type "code",data:=.fields #[.str n t0,.str q t1,.str "/claim/cut.py" t2,.int a 0,.int b 0,.int c 0,.int d 0,.int e 0,r0,.bool true,.int f 0,r1,r2,r3,r4,r5,.int g 0,.int h 0,.str "/claim/cut.py" t3]}
def hGQ (n:Str) (i:Nat):Obj:={cls:=.none,data:=.func {name:=n,qualname:=n,params:=hdA (top i),body:=.stmts (hdB (top i)),scope:=hdS (top i),globals:=0,closure:=[],defaults:=.none,kwdefaults:=.none}}
def hG2 (n q:Str) (i j:Nat):Obj:={cls:=.none,data:=.func {name:=n,qualname:=q,params:=hdA (hdI (top i) j),body:=.stmts (hdB (hdI (top i) j)),scope:=hdS (hdI (top i) j),globals:=0,closure:=[],defaults:=.none,kwdefaults:=.none}}
def hq0Q:Obj:={cls:=.type "tuple",data:=.seq #[]}
def hq1Q:Obj:={cls:=.none,data:=.fields #[]}
def hq2Q (x1 x2 x3:Nat) (y0:Str):Obj:={cls:=.type "code",data:=.fields #[.str y0 x1,.str y0 (x1+1),.str "/claim/cut.py" (x1+2),.int (.ofNat x2) 0,.int 0 0,.int 0 0,.int 0 0,.int 0 0,.ref x3,.bool false,.int 181 0,.ref (x3+1),.none,.none,.none,.none,.int (.ofNat (x1+3)) 0,.int (.ofNat x2) 0,.str "/claim/cut.py" (x1+4)]}
def hq3Q (x0 x1 x3:Nat) (y2:Str):Obj:={cls:=.type "frame",slots:=#[some (.ref x0),some (.ref 3),some (.ref x1),none,some (.str y2 x3),none,some (.ref 0)]}
def hq4:Obj:={cls:=.type "builtin_function_or_method",data:=.fields #[.builtin "type.__prepare__",.type "type"]}
def hq5 (P:Params) (x0 x2 x3:Nat) (y1:Str):Obj:={cls:=.type "dict",data:=.dict #[hE P "__module__" x0 (.str "plusless.errors" 187),hE P "__qualname__" (x0+2) (.str y1 (x0+1)),hE P "__firstlineno__" (x0+4) (.int (.ofNat x2) (x0+3)),hE P "__static_attributes__" (x0+5) (.ref x3)] 4}
def hq6Q (x0:Nat):Obj:={cls:=.type "super",data:=.fields #[.ref x0,.ref x0,.ref x0]}
def hq7 (x0:Nat):Obj:={cls:=.type "builtin_function_or_method",data:=.fields #[.builtin "object.__init_subclass__",.ref x0]}
def hq8:Obj:={cls:=.type "tuple",data:=.seq #[.ref 24]}
def hq9 (P:Params) (x0 x1 x2:Nat):Obj:={cls:=.type "dict",data:=.dict #[hE P "__module__" x0 (.str "plusless.errors" 187),hE P "__firstlineno__" (x0+4) (.int (.ofNat x1) (x0+3)),hE P "__static_attributes__" (x0+5) (.ref x2),hE P "__doc__" (x0+6) .none] 2}
def hq10 (x1 x2:Nat) (y0:Str):Obj:={cls:=.type "type",data:=.cls {name:=y0,bases:=[.ref 24],mro:=[.ref (x1+9),.ref 24,.type "ValueError",.type "Exception",.type "BaseException",.type "object"],ns:=(x1+8),qualname:=y0},slots:=#[some (.ref x1),none,some (.str y0 x2),some (.str y0 (x2+8)),some (.builtin "ValueError.__new__"),some (.bool true)]}
def hq11 (x1 x2 x3 x4 x5:Nat) (y0:Str):Obj:=hCQ y0 x1 (x1+1) (x1+2) (.ofNat x2) (.ofNat x3) 0 0 3 (.ref x4) 181 (.ref (x4+1)) .none (.ref (x4+2)) (.ref (x4+3)) (.ref (x4+4)) (.ofNat x5) (.ofNat x2) (x5+1)
def hq12 (x1 x2 x3 x4:Nat) (y0:Str):Obj:=hCQ y0 x1 (x1+1) (x1+2) (.ofNat x2) (.ofNat x3) 0 0 3 (.ref x4) 181 (.ref (x4+1)) .none .none .none (.ref (x4+2)) (.ofNat (x1+3)) (.ofNat x2) (x1+4)
def hK:Params→PySem.W.Frag:=fun P=>(nat_lit 2,{cls:=.none,data:=.dict #[]})::
 (nat_lit 3,{cls:=.type "dict",data:=.dict #[hE P "__name__" 165 (.str "law_plusless_k75_whole_rows_and_tables" 551),hE P "__doc__" 166 .none,hE P "__package__" 167 .none,hE P "__loader__" 168 (.builtin "__main__.__loader__#opaque"),hE P "__spec__" 169 .none,hE P "__annotations__" 170 (.ref 6),hE P "__builtins__" 171 (.ref 4),hE P "__file__" 173 (.str "/claim/cut.py" 172),hE P "__cached__" 174 .none,hE P "PlusError" 206 (.ref 24),hE P "NoRow" 222 (.ref 37),hE P "NoNumber" 238 (.ref 49),hE P "NoSigns" 254 (.ref 61),hE P "TooMany" 270 (.ref 73),hE P "NoTable" 286 (.ref 85),hE P "LONGEST_ROW" 290 (.int 16 289),hE P "is_whole" 297 (.ref 94),hE P "are_whole" 303 (.ref 99),hE P "is_row" 309 (.ref 104),hE P "need_row" 316 (.ref 111),hE P "need_number" 323 (.ref 118),hE P "need_number_from" 331 (.ref 125),hE P "need_row_and_number" 339 (.ref 132),hE P "joined" 349 (.ref 139),hE P "grown" 355 (.ref 144),hE P "is_order" 363 (.ref 151),hE P "mixed" 369 (.ref 156),hE P "without" 377 (.ref 163),hE P "is_table" 383 (.ref 168),hE P "need_table" 390 (.ref 175),hE P "multiplied" 404 (.ref 182),hE P "shifted" 410 (.ref 187),hE P "need_table_and_number" 418 (.ref 194),hE P "divided" 432 (.ref 201),hE P "taken_out" 440 (.ref 208),hE P "part_taken_out" 448 (.ref 215),hE P "LONGEST_TABLED" 452 (.int 10 451),hE P "SIGNS" 456 (.ref 216),hE P "PARTS" 461 (.ref 217),hE P "need_few" 468 (.ref 224),hE P "stepped" 482 (.ref 231),hE P "table_of" 492 (.ref 238),hE P "sign_table" 499 (.ref 245),hE P "part_table" 506 (.ref 252),hE P "halves_of" 516 (.ref 259),hE P "half_worths" 522 (.ref 264),hE P "walk" 535 (.ref 271),hE P "above" 541 (.ref 276),hE P "unevenness" 550 (.ref 283),hE P "_law_box" 564 (.ref 290),hE P "_law_take" 574 (.ref 297),hE P "_law_row" 588 (.ref 304),hE P "_law_order" 594 (.ref 309),hE P "_law_place_right" 607 (.ref 316),hE P "law" 613 (.ref 321)] 55})::
 (nat_lit 93,hq11 291 16 1 88 295 "is_whole")::
 (nat_lit 94,hFQ "is_whole" 9 "plusless.rows" 287 93)::
 (nat_lit 98,hq12 298 18 2 95 "are_whole")::
 (nat_lit 99,hFQ "are_whole" 10 "plusless.rows" 287 98)::
 (nat_lit 103,hq12 304 20 1 100 "is_row")::
 (nat_lit 104,hFQ "is_row" 11 "plusless.rows" 287 103)::
 (nat_lit 110,hq11 310 24 1 105 314 "need_row")::
 (nat_lit 111,hFQ "need_row" 12 "plusless.rows" 287 110)::
 (nat_lit 117,hq11 317 27 1 112 321 "need_number")::
 (nat_lit 118,hFQ "need_number" 13 "plusless.rows" 287 117)::
 (nat_lit 124,hq11 324 30 2 119 329 "need_number_from")::
 (nat_lit 125,hFQ "need_number_from" 14 "plusless.rows" 287 124)::
 (nat_lit 131,hq11 332 34 2 126 337 "need_row_and_number")::
 (nat_lit 132,hFQ "need_row_and_number" 15 "plusless.rows" 287 131)::
 (nat_lit 138,hq11 342 38 2 133 347 "joined")::
 (nat_lit 139,hFQ "joined" 17 "plusless.changes" 340 138)::
 (nat_lit 143,hq12 350 44 2 140 "grown")::
 (nat_lit 144,hFQ "grown" 18 "plusless.changes" 340 143)::
 (nat_lit 150,hq11 356 48 2 145 361 "is_order")::
 (nat_lit 151,hFQ "is_order" 19 "plusless.changes" 340 150)::
 (nat_lit 155,hq12 364 50 2 152 "mixed")::
 (nat_lit 156,hFQ "mixed" 20 "plusless.changes" 340 155)::
 (nat_lit 162,hq11 370 55 2 157 375 "without")::
 (nat_lit 163,hFQ "without" 21 "plusless.changes" 340 162)::
 (nat_lit 167,hq12 378 61 1 164 "is_table")::
 (nat_lit 168,hFQ "is_table" 22 "plusless.changes" 340 167)::
 (nat_lit 174,hq11 384 65 1 169 388 "need_table")::
 (nat_lit 175,hFQ "need_table" 23 "plusless.changes" 340 174)::
 (nat_lit 181,hq11 391 68 2 176 402 "multiplied")::
 (nat_lit 182,hFQ "multiplied" 24 "plusless.changes" 340 181)::
 (nat_lit 186,hq12 405 77 2 183 "shifted")::
 (nat_lit 187,hFQ "shifted" 25 "plusless.changes" 340 186)::
 (nat_lit 193,hq11 411 81 2 188 416 "need_table_and_number")::
 (nat_lit 194,hFQ "need_table_and_number" 26 "plusless.changes" 340 193)::
 (nat_lit 200,hq11 419 84 3 195 430 "divided")::
 (nat_lit 201,hFQ "divided" 27 "plusless.changes" 340 200)::
 (nat_lit 207,hq11 433 96 2 202 438 "taken_out")::
 (nat_lit 208,hFQ "taken_out" 28 "plusless.changes" 340 207)::
 (nat_lit 214,hq11 441 99 2 209 446 "part_taken_out")::
 (nat_lit 215,hFQ "part_taken_out" 29 "plusless.changes" 340 214)::
 (nat_lit 216,{cls:=.type "tuple",data:=.seq #[.int (-1) 454,.int 1 455]})::
 (nat_lit 217,{cls:=.type "tuple",data:=.seq #[.int (-1) 458,.int 0 459,.int 1 460]})::
 (nat_lit 223,hq11 462 106 1 218 466 "need_few")::
 (nat_lit 224,hFQ "need_few" 34 "plusless.tables" 449 223)::
 (nat_lit 230,hq11 469 110 3 225 480 "stepped")::
 (nat_lit 231,hFQ "stepped" 35 "plusless.tables" 449 230)::
 (nat_lit 237,hq11 483 117 2 232 490 "table_of")::
 (nat_lit 238,hFQ "table_of" 36 "plusless.tables" 449 237)::
 (nat_lit 244,hq11 493 122 1 239 497 "sign_table")::
 (nat_lit 245,hFQ "sign_table" 37 "plusless.tables" 449 244)::
 (nat_lit 251,hq11 500 125 1 246 504 "part_table")::
 (nat_lit 252,hFQ "part_table" 38 "plusless.tables" 449 251)::
 (nat_lit 258,hq11 509 129 1 253 514 "halves_of")::
 (nat_lit 259,hFQ "halves_of" 40 "plusless.halves" 507 258)::
 (nat_lit 263,hq12 517 132 1 260 "half_worths")::
 (nat_lit 264,hFQ "half_worths" 41 "plusless.halves" 507 263)::
 (nat_lit 270,hq11 523 135 2 265 533 "walk")::
 (nat_lit 271,hFQ "walk" 42 "plusless.halves" 507 270)::
 (nat_lit 275,hq12 536 148 2 272 "above")::
 (nat_lit 276,hFQ "above" 43 "plusless.halves" 507 275)::
 (nat_lit 282,hq11 544 152 1 277 548 "unevenness")::
 (nat_lit 283,hFQ "unevenness" 45 "plusless.evenness" 542 282)::
 (nat_lit 289,hq11 553 155 2 284 562 "_law_box")::
 (nat_lit 290,hFQ "_law_box" 47 "law_plusless_k75_whole_rows_and_tables" 551 289)::
 (nat_lit 296,hq11 565 167 2 291 572 "_law_take")::
 (nat_lit 297,hFQ "_law_take" 48 "law_plusless_k75_whole_rows_and_tables" 551 296)::
 (nat_lit 303,hq11 575 171 2 298 586 "_law_row")::
 (nat_lit 304,hFQ "_law_row" 49 "law_plusless_k75_whole_rows_and_tables" 551 303)::
 (nat_lit 308,hq12 589 180 2 305 "_law_order")::
 (nat_lit 309,hFQ "_law_order" 50 "law_plusless_k75_whole_rows_and_tables" 551 308)::
 (nat_lit 315,hq11 595 183 2 310 605 "_law_place_right")::
 (nat_lit 316,hFQ "_law_place_right" 51 "law_plusless_k75_whole_rows_and_tables" 551 315)::
 (nat_lit 320,hq12 608 194 1 317 "law")::
 (nat_lit 321,hFQ "law" 52 "law_plusless_k75_whole_rows_and_tables" 551 320)::[]
def hA:List Addr:=[2,3,93,94,98,99,103,104,110,111,117,118,124,125,131,132,138,139,143,144,150,151,155,156,162,163,167,168,174,175,181,182,186,187,193,194,200,201,207,208,214,215,216,217,223,224,230,231,237,238,244,245,251,252,258,259,263,264,270,271,275,276,282,283,289,290,296,297,303,304,308,309,315,316,320,321]
def hV:Program:={PySem.Challenge.pw_plusless_k75_whole_rows_and_tables with main:={PySem.Challenge.pw_plusless_k75_whole_rows_and_tables.main with body:=[top 1,top 2,top 3,top 4,top 5,top 6,top 8,top 9,top 10,top 11,top 12,top 13,top 14,top 15,top 17,top 18,top 19,top 20,top 21,top 22,top 23,top 24,top 25,top 26,top 27,top 28,top 29,top 31,top 32,top 33,top 34,top 35,top 36,top 37,top 38,top 40,top 41,top 42,top 43,top 45,top 47,top 48,top 49,top 50,top 51,top 52]}}
theorem hKA (P:Params):hA=(hK P).map (·.1):=by kernel_rfl
abbrev hX (s:Shared):Bool:=PySem.W.xlAt hV [] s && PySem.W.recOk (PySem.W.RowW.records PySem.Challenge.rw_plusless_k75_whole_rows_and_tables.row.toRowW) s
def hNQ:=@PySem.W.BT.node
def hzQ:=PySem.W.BT.nil
def hLQ (o:Obj):=PySem.W.BT.node o .nil .nil
def q2Q (P:Params):Obj:=hq2Q 182 1 11 "<module>"
def q3Q (P:Params):Obj:=hq3Q 13 3 164 "__main__"
def t0T (P:Params):PySem.W.BT:=(hNQ (PySem.W.boot_o_0 P) (hNQ (PySem.W.boot_o_1 P) (hNQ (PySem.W.boot_o_3 P) (hLQ (PySem.W.boot_o_7 P)) (hLQ hq0Q)) (hNQ (PySem.W.boot_o_5 P) (hLQ (PySem.W.boot_o_9 P)) (hLQ (q2Q P)))) (hNQ (PySem.W.boot_o_2 P) (hNQ (PySem.W.boot_o_4 P) (hLQ (PySem.W.boot_o_8 P)) (hLQ hq1Q)) (hNQ (PySem.W.boot_o_6 P) (hLQ (PySem.W.boot_o_10 P)) (hLQ (q3Q P)))))
def t1T (P:Params):PySem.W.BT:=(hNQ (PySem.W.boot_o_0 P) (hNQ (PySem.W.boot_o_1 P) (hNQ {cls:=.type "dict",data:=.dict #[hE P "__name__" 165 (.str "plusless.errors" 187),hE P "__doc__" 166 .none,hE P "__package__" 167 .none,hE P "__loader__" 168 (.builtin "__main__.__loader__#opaque"),hE P "__spec__" 169 .none,hE P "__annotations__" 170 (.ref 6),hE P "__builtins__" 171 (.ref 4),hE P "__file__" 173 (.str "/claim/cut.py" 172),hE P "__cached__" 174 .none,hE P "PlusError" 206 (.ref 24),hE P "NoRow" 222 (.ref 37),hE P "NoNumber" 238 (.ref 49),hE P "NoSigns" 254 (.ref 61),hE P "TooMany" 270 (.ref 73)] 14} (hNQ (PySem.W.boot_o_7 P) (hNQ {cls:=.type "tuple",data:=.seq #[.type "ValueError"]} (hNQ hq0Q (hLQ (hq7 61)) hzQ) (hLQ hq0Q)) (hNQ {cls:=.type "dict",data:=.dict #[hE P "__module__" 196 (.str "plusless.errors" 187),hE P "__firstlineno__" 200 (.int 2 199),hE P "__static_attributes__" 201 (.ref 22),hE P "__weakref__" 203 (.ref 25),hE P "__doc__" 204 .none] 3} (hNQ (hq7 37) (hLQ hq0Q) hzQ) (hLQ hq0Q))) (hNQ hq0Q (hNQ hq1Q (hNQ hq0Q (hLQ hq0Q) hzQ) (hLQ (hq7 49))) (hNQ (hq7 24) (hNQ hq0Q (hLQ (hq7 73)) hzQ) (hLQ hq0Q)))) (hNQ (PySem.W.boot_o_5 P) (hNQ (PySem.W.boot_o_9 P) (hNQ (hq5 P 196 2 22 "PlusError") (hNQ (hq2Q 209 4 31 "NoRow") (hLQ hq4) hzQ) (hLQ (hq10 40 223 "NoNumber"))) (hNQ {cls:=.type "getset_descriptor",data:=.fields #[.str "__weakref__" 202,.ref 24,.builtin "ExceptionGroup.__weakref__",.none]} (hNQ hq4 (hLQ (hq10 64 255 "TooMany")) hzQ) (hLQ (hq2Q 241 8 55 "NoSigns")))) (hNQ (q2Q P) (hNQ (hq3Q 20 17 187 "plusless.errors") (hNQ (hq10 28 207 "NoRow") (hLQ (hq2Q 257 10 67 "TooMany")) hzQ) (hLQ hq4)) (hNQ hq4 (hLQ (hq2Q 225 6 43 "NoNumber")) (hLQ (hq10 52 239 "NoSigns")))))) (hNQ (PySem.W.boot_o_2 P) (hNQ (PySem.W.boot_o_4 P) (hNQ (PySem.W.boot_o_8 P) (hNQ hq4 (hNQ hq1Q (hLQ hq8) hzQ) (hLQ (hq9 P 230 6 47))) (hNQ {cls:=.type "type",data:=.cls {name:="PlusError",bases:=[.type "ValueError"],mro:=[.ref 24,.type "ValueError",.type "Exception",.type "BaseException",.type "object"],ns:=23,qualname:="PlusError",subclasses:=[.ref 37,.ref 49,.ref 61,.ref 73]},slots:=#[some (.ref 15),none,some (.str "PlusError" 189),some (.str "PlusError" 197),some (.builtin "ValueError.__new__"),some (.bool true)]} (hNQ hq8 (hLQ (hq9 P 262 10 71)) hzQ) (hLQ hq1Q))) (hNQ {cls:=.none,data:=.fields #[.int 2 0,.int 0 0,.ref 20,.int 4 0,.int 0 0,.ref 33,.int 6 0,.int 0 0,.ref 45,.int 8 0,.int 0 0,.ref 57,.int 10 0,.int 0 0,.ref 69]} (hNQ (hq2Q 191 2 18 "PlusError") (hNQ (hq9 P 214 4 35) (hLQ hq1Q) hzQ) (hLQ hq8)) (hNQ hq8 (hLQ hq1Q) (hLQ (hq9 P 246 8 59))))) (hNQ (PySem.W.boot_o_6 P) (hNQ (PySem.W.boot_o_10 P) (hNQ hq0Q (hNQ (hq3Q 33 30 187 "plusless.errors") (hLQ (hq5 P 262 10 71 "TooMany")) hzQ) (hLQ (hq6Q 49))) (hNQ (hq6Q 24) (hNQ (hq5 P 230 6 47 "NoNumber") (hLQ (hq6Q 73)) hzQ) (hLQ (hq3Q 57 54 187 "plusless.errors")))) (hNQ (q3Q P) (hNQ hq0Q (hNQ (hq6Q 37) (hLQ (hq3Q 69 66 187 "plusless.errors")) hzQ) (hLQ (hq5 P 246 8 59 "NoSigns"))) (hNQ (hq5 P 214 4 35 "NoRow") (hLQ (hq3Q 45 42 187 "plusless.errors")) (hLQ (hq6Q 61)))))))
abbrev hpQ:Program:=PySem.Challenge.rw_plusless_k75_whole_rows_and_tables.row.prog
def hEnv:Env:={scope:=hpQ.main.scope,locals:=mainNs,globals:=mainNs,cells:=[],code:=.ref 13,frame:=some 14}
def hBQ:List Stmt:=PySem.W.behindTheImports hpQ
def hCd:Code:=Code.body hBQ hEnv
def hp0Q:Pos:=⟨0,0,0,0⟩
def hsT (t:PySem.W.BT) (n k:Nat) (os:OsState):PySem.W.SharedT:={tree:=t,n:=n,life:={},gens:=#[],drawn:={},toks:=k,os:=os}
set_option maxHeartbeats 0 in
theorem htg (w:World) (os:OsState):PySem.W.topGo treeTable hpQ w 11 (some (.ref 6)) 12 {heap:=PySem.W.boot_heap w.params,gens:=#[],drawn:=PySem.W.boot_drawn,toks:=PySem.W.boot_toks,os:=os} (PySem.W.topStub hpQ)=some ((hsT (t0T w.params) 15 187 os).abs,{cur:=denote treeTable (Code.body hBQ hEnv),code:=hCd,pos:=hp0Q,stack:=[PySem.W.topFrame hp0Q]}):=by kernel_rfl
set_option maxHeartbeats 0 in
theorem htb (w:World) (os:OsState):PySem.W.segRun treeTable hpQ w 11 (some (.ref 6)) 1 1 (hsT (t0T w.params) 15 187 os).abs (PySem.W.blockOf hBQ hEnv hCd hp0Q [PySem.W.topFrame hp0Q])=some (Flow.next,(hsT (t0T w.params) 15 187 os).abs,hCd,hp0Q):=by kernel_rfl
abbrev hsQ (s:Shared):=PySem.W.openSeen hV [] (importedModules hpQ.main.body) hX true s
abbrev hgQ:=PySem.W.openGood hV []
def hlaQ (w:World) (s:Shared):=(PySem.W.staticsOk (importedModules hpQ.main.body) (PySem.W.boot_heap w.params) s.heap && PySem.W.namesBound hpQ s.heap && PySem.W.gensDone s && PySem.W.laidKept (PySem.W.boot_heap w.params) s.heap,PySem.W.Hook.obs (PySem.W.kHook hK hA hKA) s,(hsQ s).1)
def hlb (w:World) (s:Shared):=((hsQ s).2.1,(hsQ s).2.2.1)
def hlc (w:World) (s:Shared):=(hsQ s).2.2.2
set_option maxHeartbeats 0 in
theorem pc0 (w:World) (os:OsState):PySem.W.segRunT treeTable hpQ w 11 (some (.ref 6)) 1 3100 (hsT (t0T w.params) 15 187 os) (PySem.W.piecesOf ((hBQ.drop 0).take 6) hEnv hCd hp0Q [PySem.W.topFrame hp0Q])=some (Flow.next,hsT (t1T w.params) 76 271 os,hCd,⟨10,0,11,8⟩):=by kernel_rfl
def hrQ (w:World) (os:OsState):=PySem.W.segRunT treeTable hpQ w 11 (some (.ref 6)) 1 2500 (hsT (t1T w.params) 76 271 os) (PySem.W.piecesOf ((hBQ.drop 6).take 47) hEnv hCd ⟨10,0,11,8⟩ [PySem.W.topFrame hp0Q])
def hSa (w:World):Prop:=∀ os,Option.map (fun x=>(x.1,x.2.2.1,x.2.2.2,hlaQ w x.2.1.abs)) (hrQ w os)=some (Flow.next,hCd,⟨194,0,213,15⟩,(true,PySem.W.Hook.val (PySem.W.kHook hK hA hKA) w,hgQ.1))
set_option maxHeartbeats 0 in
theorem pc1a (w:World):hSa w:=fun os=>by kernel_rfl
def hSb (w:World):Prop:=∀ os,Option.map (fun x=>(x.1,x.2.2.1,x.2.2.2,hlb w x.2.1.abs)) (hrQ w os)=some (Flow.next,hCd,⟨194,0,213,15⟩,(hgQ.2.1,hgQ.2.2.1))
set_option maxHeartbeats 0 in
theorem pc1b (w:World):hSb w:=fun os=>by kernel_rfl
def hSc (w:World):Prop:=∀ os,Option.map (fun x=>(x.1,x.2.2.1,x.2.2.2,hlc w x.2.1.abs)) (hrQ w os)=some (Flow.next,hCd,⟨194,0,213,15⟩,hgQ.2.2.2)
set_option maxHeartbeats 0 in
theorem pc1c (w:World):hSc w:=fun os=>by kernel_rfl
theorem htz (w:World) (s:Shared):PySem.W.topRun treeTable hpQ w 11 (some (.ref 6)) 2 s (PySem.W.restOf [] hEnv hCd ⟨194,0,213,15⟩ [PySem.W.topFrame hp0Q])=some s:=by kernel_rfl
set_option maxHeartbeats 0 in
theorem hspQ:hBQ=((hBQ.drop 0).take 6++((hBQ.drop 6).take 47++[])):=by kernel_rfl
theorem left:PySem.W.LeftO hpQ hV [] hX (PySem.W.Hook.obs (PySem.W.kHook hK hA hKA)) (PySem.W.Hook.val (PySem.W.kHook hK hA hKA)) 7600:=fun w=>by
 have o:=PySem.W.boot_open (p:=hpQ) (N:=7600) (by kernel_rfl) (by decide) (fun s=>by kernel_rfl) w
 rcases fo:PySem.W.fencedOpening treeTable hpQ w 7600 with _|⟨b0,b1,b2,b3,os⟩ <;> rw [fo] at o
 ·cases o
 obtain ⟨o1,o⟩:=Prod.mk.inj (Option.some.inj o)
 obtain ⟨o2,o⟩:=Prod.mk.inj o
 obtain ⟨o3,o4⟩:=Prod.mk.inj o
 subst o1 o2 o3 o4
 rcases ru:hrQ w os with _|⟨fl,s,cd,po⟩
 ·have u:=pc1a w os
  rw [ru] at u
  cases u
 have u:=pc1a w os
 rw [ru] at u
 obtain ⟨g1,u⟩:=Prod.mk.inj (Option.some.inj u)
 obtain ⟨g2,u⟩:=Prod.mk.inj u
 obtain ⟨g3,u⟩:=Prod.mk.inj u
 obtain ⟨l1,u⟩:=Prod.mk.inj u
 obtain ⟨l3,j1⟩:=Prod.mk.inj u
 have u:=pc1b w os
 rw [ru] at u
 obtain ⟨g1,u⟩:=Prod.mk.inj (Option.some.inj u)
 obtain ⟨g2,u⟩:=Prod.mk.inj u
 obtain ⟨g3,u⟩:=Prod.mk.inj u
 obtain ⟨j2,j3⟩:=Prod.mk.inj u
 have j4:=pc1c w os
 rw [ru] at j4
 obtain ⟨g1,j4⟩:=Prod.mk.inj (Option.some.inj j4)
 obtain ⟨g2,j4⟩:=Prod.mk.inj j4
 obtain ⟨g3,j4⟩:=Prod.mk.inj j4
 have l2:hsQ s.abs=hgQ:=Prod.ext j1 (Prod.ext j2 (Prod.ext j3 j4))
 subst g1 g2 g3
 have go:∀ b,b=((hBQ.drop 0).take 6++((hBQ.drop 6).take 47++[]))→PySem.W.topRun treeTable hpQ w 11 (some (.ref 6)) (3100+(2500+2)) (hsT (t0T w.params) 15 187 os).abs (PySem.W.restOf b hEnv hCd hp0Q [PySem.W.topFrame hp0Q])=some s.abs:=fun b z=>by
  subst z
  exact (PySem.W.piece_app (PySem.W.segRun_of (pc0 w os)) (PySem.W.piece_app (PySem.W.segRun_of ru) (htz w s.abs)))
 have r:PySem.W.topRun treeTable hpQ w 11 (some (.ref 6)) 7600 {heap:=PySem.W.boot_heap w.params,gens:=#[],drawn:=PySem.W.boot_drawn,toks:=PySem.W.boot_toks,os:=os} (PySem.W.topStub hpQ)=some s.abs:=PySem.W.topRun_mono 1985 _ _ _ _ (PySem.W.go_top (n:=12) (N:=1+(3100+(2500+2))) (htg w os) (PySem.W.piece_block (n:=1) (N:=(3100+(2500+2))) (htb w os) (go hBQ hspQ)))
 have z1:((PySem.W.boot_heap w.params).isNs mainGlobals && (#[]:Array GenState).size==0)=true:=by kernel_rfl
 have z2:(PySem.W.boot_heap w.params).objs.size=11:=by kernel_rfl
 have z3:(PySem.W.boot_heap w.params).nsMap mainGlobals "__annotations__"=some (.ref 6):=by kernel_rfl
 have tf:PySem.W.topFrom treeTable hpQ w 7600 {heap:=PySem.W.boot_heap w.params,gens:=#[],drawn:=PySem.W.boot_drawn,toks:=PySem.W.boot_toks,os:=os}=some s.abs:=by simp only [PySem.W.topFrom,z1,z2,z3,r,Option.bind_some,l1]
 unfold PySem.W.openEnds
 rw [fo,Option.bind_some,tf]
 have l4:PySem.W.openSeen hV [] (importedModules hpQ.main.body) hX true s.abs=PySem.W.openGood hV []:=l2
 show some (_,_)=some _
 rw [l4,show PySem.W.Hook.obs (PySem.W.kHook hK hA hKA) s.abs=_ from l3]
end Lw
section
set_option Elab.async false
set_option linter.all false
set_option maxRecDepth 100000
set_option genSizeOf false
theorem Au.h2 (h:True:=by decide):True:=h
theorem Au.h5 (h:True:=by intro _; rfl):True:=h
theorem Au.h1 (h:True:=by rfl):True:=h
theorem Au.h8 (h:True:=by intro _ _ z; cases z):True:=h
theorem Au.h0 (h:True:=by kernel_rfl):True:=h
theorem Au.h3 (h:True:=by decide +kernel):True:=h
theorem Au.h9 (h:True:=by first | exact L2.BH _ | kernel_rfl):True:=h
theorem Au.h4 (h:True:=by intro _; kernel_rfl):True:=h
theorem Au.h7 (h:True:=by first | left; rfl | right; kernel_rfl):True:=h
theorem ex5 {α β:Type} {a b c:α→β→Prop} {P:Prop} (z:∃ x y,a x y∧b x y∧c x y) (f:∀ x y,a x y→b x y→c x y→P):P:=by
 obtain ⟨x,y,u,v,w⟩:=z
 exact f x y u v w
namespace PySem
def ZO (o:Obj):Prop:=∃ fs:Array Value,o.data=.fields fs∧fs[2]?=some .none
def Heap.Zat (h:Heap) (e:Addr):Prop:=∃ o,h.get? e=some o∧ZO o
section
variable {M:Model} {A:Around} {E:Value→Shared→Prop} {s:Shared} {bs:Heap} {en:Env} {out:List Env} {L e:Addr} {cl a0:Value}
end
end PySem
namespace PySem
open PyProof.Rows
theorem mN:entryFor table "proto.unchain" = some Builtin.«proto.unchain»:=entryFor_of_tree (by kernel_rfl)
theorem mO:plainId "proto.unchain" = true:=by decide +kernel
section
variable {prog:Program} {w:World} {A:Around} {E:Value→Shared→Prop} {s:Shared}
theorem wG {ea ha:Addr} {Q:Value→Shared→Prop} (z:s.heap.Zat ha) (h:Q .none s):wpAny (model prog w) A (runValue (.builtin "proto.unchain" ⟨[.ref ea,.ref ha,.ref ha,.bool false],[]⟩)) Q E s:=by
 obtain ⟨o,ho,fs,hd,h2⟩:=z
 refine wpAny_runValue (codeAny_builtin mN ?_)
 rw [Around.under_plainId mO _]
 unfold Builtin.«proto.unchain»
 refine wpAny_bind (wpAny_field ho hd h2 ?_)
 rw [if_pos (by rfl)]
 refine wpAny_bind (wpAny_pure ?_)
 exact wpAny_pure h
theorem vx {α:Type} {ea ha:Addr} {o:Obj} {fs:Array Value} {Q:α→Shared→Prop} (hh:A.handled=some (.ref ha)) (z:s.heap.Zat ha) (ne:ha ≠ ea) (he:s.heap.get? ea=some o) (hd:o.data=.fields fs) (hs:2 < fs.size)
  (h:E (.ref ea) { s with heap:=s.heap.update ea (Obj.mapFields (fun y=>y.setIfInBounds 2 (.ref ha))) }):wpAny (model prog w) A (raiseNew (.ref ea):Sem α) Q E s:=by
 unfold raiseNew
 refine wpAny_bind (wpAny_handled ?_)
 rw [hh]
 dsimp only
 rw [if_pos (by simpa using ne)]
 refine wpAny_bind (wpAny_holding (wG z ?_))
 refine wpAny_bind ?_
 show wpAny _ _ (setField (.ref ea) 2 (.ref ha)) _ _ s
 exact wpAny_setField he hd hs (wpAny_throw h)
theorem vA {it ha:Addr} {x left step:Int} {Q:Option Value→Shared→Prop} (hh:A.handled=some (.ref ha)) (z:s.heap.Zat ha) (hit:IsRangeIter s.heap it x left step) (hl:left≤0)
  (k:∀ h',Heap.ExtBut it s.heap h'→Q none { s with heap:=h' }):wpAny (model prog w) A (pyNext (.ref it)) Q E s:=by
 have ty:s.TypeIs (.ref it) "range_iterator":=⟨_,hit,rfl⟩
 have lta:ha < s.heap.objs.size:=let ⟨o,q,_⟩:=z; Heap.lt_size q
 unfold pyNext
 refine wpAny_bind (wpAny_attempt (wpAny_callSpecial?_slot (name:=Str.ofString "__next__") ty F.slot_range_iterator_next (wpAny_call_entry F.slot_range_iterator_next ty F.entry_range_iterator_next ?_ (F.args_range_iterator_next_1 _))))
 show wpAny _ _ (field (.ref it) 0 >>= _) _ _ s
 refine wpAny_bind (wpAny_field hit rfl (x:=rawInt x) rfl ?_)
 show wpAny _ _ (field (.ref it) 1 >>= _) _ _ s
 refine wpAny_bind (wpAny_field hit rfl (x:=rawInt left) rfl ?_)
 show wpAny _ _ (field (.ref it) 2 >>= _) _ _ s
 refine wpAny_bind (wpAny_field hit rfl (x:=rawInt step) rfl ?_)
 show wpAny _ _ (if left≤0 then _ else _) _ _ s
 rw [if_pos hl]
 refine wpAny_bind (wpAny_rule ?_)
 refine wpAny_bind ?_
 show wpAny _ _ (newExc (.type "StopIteration") [] >>= _) _ _ _
 refine wpAny_bind ?_
 simp only [newExc,newTuple]
 refine wpAny_bind (wpAny_newObj_type ?_ (by size_fits))
 refine wpAny_bind (m:=firstArgMember _ _) (wpAny_of_eq (a:=Value.none) (by first | rfl | (simp only [firstArgMember]; rfl)) ?_)
 refine wpAny_newObj_type ?_ (by size_fits)
 refine vx (ha:=ha) (by first | exact hh | (show A.in1.handled=_; exact hh)) ?_ ?_ (Heap.get?_push_size _ rfl) rfl ?_ ?_
 ·obtain ⟨o,q,r⟩:=z
  exact ⟨o,Heap.get?_push_of_some _ (Heap.get?_push_of_some _ q),r⟩
 ·exact Nat.ne_of_lt (Nat.lt_of_lt_of_le lta (by rw [Heap.size_push]; exact Nat.le_succ _))
 ·rw [Array.size_append]; exact Nat.lt_of_lt_of_le (show 2 < 6 by decide) (Nat.le_add_right _ _)
 ·dsimp only
  generalize hfn:Obj.mapFields (fun y=>y.setIfInBounds 2 (Value.ref ha))=fn
  generalize hg:s.heap.push { cls:=Value.type "tuple",data:=Data.seq #[] }=g
  generalize hex:({ cls:=Value.type "StopIteration",data:=Data.fields (#[Value.ref s.heap.objs.size,Value.none,Value.none,Value.none,Value.bool false,Value.none] ++ ownMembersOf (Value.type "StopIteration") []) }:Obj)=ex
  have c0:ex.cls=.type "StopIteration":=by rw [← hex]
  have d0:∃ fs,ex.data=.fields fs:=⟨_,by rw [← hex]⟩
  obtain ⟨fs,d0⟩:=d0
  have p0:(g.push ex).get? g.objs.size=some ex:=Heap.get?_push_size g (Obj.isFreed_of_fields d0)
  have d1:(fn ex).data=.fields (fs.setIfInBounds 2 (.ref ha)):=by rw [← hfn]; exact Obj.data_mapFields d0 _
  have c1:(fn ex).cls=.type "StopIteration":=by rw [← hfn]; exact (Obj.cls_mapFields _ _).trans c0
  have e1:((g.push ex).update g.objs.size fn).get? g.objs.size=some (fn ex):=Heap.get?_update_self fn p0 (Obj.isFreed_of_fields d1)
  refine wpAny_bind (wpAny_isInstance (T:="StopIteration") (b:=true) ⟨fn ex,e1,c1⟩ isSubtype_stop ?_)
  refine wpAny_pure (k _ fun b o _ q=>?_)
  have q1:g.get? b=some o:=by rw [← hg]; exact Heap.get?_push_of_some _ q
  rw [Heap.get?_update_other (g.push ex) fn (Nat.ne_of_gt (Heap.lt_size q1))]
  exact Heap.get?_push_of_some ex q1
end
end PySem
namespace L2
open PySem PySem.Spec PyProof.Rows
abbrev Key:=Sum Int Str
def kR:Key→Value→Bool
 | .inl k,v=>Value.isInt k v
 | .inr x,v=>Value.isStrOf x v
def D0 (w:World):Key→Int
 | .inl k=>hashInt k
 | .inr x=>hashStr w x
theorem bN:∀ {k:Key} {v:Value},kR k v=true→(∃ i t,k=Sum.inl i∧v=Value.int i t) ∨ (∃ x t,k=Sum.inr x∧v=Value.str x t)
 | .inl i,v,h=>by
  obtain ⟨t,e⟩:=Value.isInt_shape (k:=i) (v:=v) h
  exact .inl ⟨i,t,rfl,e⟩
 | .inr x,v,h=>by
  obtain ⟨t,e⟩:=Value.isStrOf_shape (x:=x) (v:=v) h
  exact .inr ⟨x,t,rfl,e⟩
theorem vB (i:Int) (t:Tok):kR (.inl i) (.int i t)=true:=by simp [kR,Value.isInt]
theorem vC (x:Str) (t:Tok):kR (.inr x) (.str x t)=true:=by simp [kR,Value.isStrOf]
theorem A7 (a b:Int):decide ((Sum.inl a:Key)=Sum.inl b)=(a == b):=by
 by_cases e:a=b
 ·subst e; simp
 ·have h:¬ (Sum.inl a:Key)=Sum.inl b:=fun q=>e (Sum.inl.inj q)
  rw [decide_eq_false h]
  exact (beq_eq_false_iff_ne.mpr e).symm
theorem A8 (a b:Str):decide ((Sum.inr a:Key)=Sum.inr b)=decide (a=b):=by
 by_cases e:a=b
 ·subst e; simp
 ·have h:¬ (Sum.inr a:Key)=Sum.inr b:=fun q=>e (Sum.inr.inj q)
  rw [decide_eq_false h,decide_eq_false e]
theorem A9 (a:Int) (b:Str):decide ((Sum.inl a:Key)=Sum.inr b)=false:=decide_eq_false (fun q=>nomatch q)
theorem Ba (a:Str) (b:Int):decide ((Sum.inr a:Key)=Sum.inl b)=false:=decide_eq_false (fun q=>nomatch q)
def aX (prog:Program) (w:World):PySem.KeyKind prog w Key where
 is:=kR
 hash:=D0 w
 inj:=fun v a b ha hb=>by
  rcases bN ha with ⟨i,t,rfl,rfl⟩ | ⟨x,t,rfl,rfl⟩
  ·rcases bN hb with ⟨j,u,rfl,e⟩ | ⟨y,u,rfl,e⟩
   ·injection e with e1 _; rw [e1]
   ·exact nomatch e
  ·rcases bN hb with ⟨j,u,rfl,e⟩ | ⟨y,u,rfl,e⟩
   ·exact nomatch e
   ·injection e with e1 _; rw [e1]
 byValue:=fun k v h=>by
  rcases bN h with ⟨i,t,rfl,rfl⟩ | ⟨x,t,rfl,rfl⟩ <;> rfl
 pyHash:=fun hv h=>by
  rcases bN hv with ⟨i,t,rfl,rfl⟩ | ⟨x,t,rfl,rfl⟩
  ·exact wpAny_pyHash_int h
  ·exact wpAny_pyHash_str h
 eqBool:=fun hu hv h=>by
  rcases bN hu with ⟨i,t,rfl,rfl⟩ | ⟨x,t,rfl,rfl⟩
  ·rcases bN hv with ⟨j,u,rfl,rfl⟩ | ⟨y,u,rfl,rfl⟩
   ·rw [A7] at h; exact wpAny_eqBool_int h
   ·rw [A9] at h; exact SeqAt.EqAt.int_str i t y u _ _ _ _ h
  ·rcases bN hv with ⟨j,u,rfl,rfl⟩ | ⟨y,u,rfl,rfl⟩
   ·rw [Ba] at h; exact SeqAt.EqAt.str_int x t j u _ _ _ _ h
   ·rw [A8] at h; exact wpAny_eqBool_str h
 «strs»:=fun k x t v h=>by
  rcases bN h with ⟨i,u,rfl,e⟩ | ⟨y,u,rfl,e⟩
  ·exact nomatch e
  ·injection e with e1 _
   subst e1
   cases v <;> rfl
theorem si (prog:Program) (w:World) (k:Key) (v:Value):(aX prog w).is k v=kR k v:=rfl
theorem ql (prog:Program) (w:World) (i:Int) (t:Tok):(aX prog w).is (.inl i) (.int i t)=true:=vB i t
theorem qm (prog:Program) (w:World) (x:Str) (t:Tok):(aX prog w).is (.inr x) (.str x t)=true:=vC x t
end L2
namespace L2
open PySem PySem.Spec PyProof.Rows
inductive V where
 | non | bl (b:Bool) | int (i:Int) | str (x:Str) | byt (b:Array UInt8) | flt (b:UInt64) | ref (a:Addr) | ty (n:String)
 deriving DecidableEq
def RelV:V→Value→Prop
 | .non,u=>u=Value.none
 | .bl b,u=>u=Value.bool b
 | .int i,u=>∃ t,u=Value.int i t
 | .str x,u=>∃ t,u=Value.str x t
 | .byt b,u=>∃ t,u=Value.bytes b t
 | .flt b,u=>∃ t,u=Value.float b t
 | .ref a,u=>u=Value.ref a
 | .ty n,u=>u=Value.type n
abbrev Vals:List V→List Value→Prop:=Paired RelV
theorem Vals.length {xs:List V} {us:List Value} (r:Vals xs us):xs.length=us.length:=Paired.length r
theorem Vals.get:∀ {xs:List V} {us:List Value} {i:Nat} {x:V},Vals xs us→xs[i]?=some x→∃ u,us[i]?=some u∧RelV x u
 | _,_,_,_,.nil,e=>by simp at e
 | _,_,0,_,.cons r _,e=>by simp at e; subst e; exact ⟨_,rfl,r⟩
 | _,_,i + 1,x,.cons _ t,e=>by
  obtain ⟨u,h1,h2⟩:=Vals.get (i:=i) (x:=x) t (by simpa using e)
  exact ⟨u,by simpa using h1,h2⟩
theorem Vals.set {x:V} {u:Value} (r:RelV x u):∀ {xs:List V} {us:List Value} (i:Nat),Vals xs us→Vals (xs.set i x) (us.set i u)
 | _,_,_,.nil=>.nil
 | _,_,0,.cons _ t=>.cons r t
 | _,_,i + 1,.cons q t=>.cons q (Vals.set r i t)
theorem Vals.append:∀ {xs ys:List V} {us ws:List Value},Vals xs us→Vals ys ws→Vals (xs ++ ys) (us ++ ws)
 | _,_,_,_,.nil,s=>s
 | _,_,_,_,.cons r t,s=>.cons r (Vals.append t s)
theorem Vals.take:∀ {xs:List V} {us:List Value} (n:Nat),Vals xs us→Vals (xs.take n) (us.take n)
 | _,_,0,_=>.nil
 | _,_,_ + 1,.nil=>.nil
 | _,_,n + 1,.cons r t=>.cons r (Vals.take n t)
theorem Vals.drop:∀ {xs:List V} {us:List Value} (n:Nat),Vals xs us→Vals (xs.drop n) (us.drop n)
 | _,_,0,r=>r
 | _,_,_ + 1,.nil=>.nil
 | _,_,n + 1,.cons _ t=>Vals.drop n t
def jI:Option V→Option Value→Prop
 | some v,some u=>RelV v u
 | none,none=>True
 | _,_=>False
def KV {κ:Type}:List (κ × V)→List (κ × Value)→Prop:=Paired fun (p:κ × V) (q:κ × Value)=>p.1=q.1∧RelV p.2 q.2
def kV:Key→V
 | .inl i=>.int i
 | .inr x=>.str x
set_option genInjectivity false in
inductive HO where
 /-- a list -/
 | lst (xs:List V)
 /-- a tuple (never changes) -/
 | tup (xs:List V)
 /-- a dict whose keys are ints and texts; one whose keys are tuples of ints and texts (the empty one is both) -/
 | dK (kvs:List (Key × V)) | dT (kvs:List (List Key × V))
 /-- a set of ints: its members,its size -/
 | set (S:Int→Bool) (n:Nat)
 /-- an instance of the class at C,its dict at dx,its attributes -/
 | ins (C dx:Addr) (fs:List (Str × V))
 /-- the dict of the instance at x -/
 | own (x:Addr)
 /-- the dict of an exception -/
 | xd (fs:List (Str × V))
 /-- a bound method,f of x -/
 | met (f x:Addr)
 /-- a range object lo,lo + 1,.. below hi -/
 | rng (lo hi:Int)
 /-- a thing that is known to the object (the script; a dict while a loop walks it): read,never written while it is so -/
 | frz (o:Obj) (u:HO)
 /-- a code object's table -/
 | tbl (ps:Array Value)
 /-- any other thing,by what is true of its one object (a def of one's own: SetO a S n:=HO.ext fun h=>..) -/
 | ext (φ:Heap→Prop)
abbrev Hp:=Addr→Option HO
def upd (H:Hp) (a:Addr) (o:HO):Hp:=fun b=>if b=a then some o else H b
theorem aI {H:Hp} {a:Addr} {o:HO}:upd H a o a=some o:=by unfold upd; rw [if_pos rfl]
theorem aG {H:Hp} {a b:Addr} {o:HO} (h:b ≠ a):upd H a o b=H b:=by unfold upd; rw [if_neg h]
theorem CW {H:Hp} {a b:Addr} {o u:HO} (h:H a=some o) (h':H b=some u) (d:o ≠ u):a ≠ b:=by
 intro e; subst e; rw [h] at h'; exact d (Option.some.inj h')
theorem aQ {H:Hp} {a b:Addr} {o:HO} (h:H a=some o) (h':H b=none):a ≠ b:=by
 intro e; subst e; rw [h] at h'; cases h'
section
variable (P:Program) (w:World)
def bF (H:Hp) (h:Heap) (a:Addr):HO→Prop
 | .lst xs=>xs.length≤sizeLine∧∃ (its:List Value) (n:Nat),Vals xs its∧h.get? a=some { cls:=.type "list",data:=.seq its.toArray n }
 | .tup xs=>xs.length≤sizeLine∧∃ its:List Value,Vals xs its∧IsTup h a its.toArray
 | .dK kvs=>kvs.length≤sizeLine∧(a == sysModules)=false∧∃ vs,KV kvs vs∧h.DictOf (aX P w) a vs
 | .dT kvs=>kvs.length≤sizeLine∧(a == sysModules)=false∧∃ xs:List (List Key × Addr × Value),
   Paired (fun (p:List Key × V) (q:List Key × Addr × Value)=>p.1=q.1∧H q.2.1=some (.tup (p.1.map kV))∧RelV p.2 q.2.2) kvs xs∧
   ∃ o es ep,h.get? a=some o∧o.ExactDict∧o.data=.dict es ep∧es.toList=xs.map (entryOfKey (tupleKind (aX P w)))∧(xs.map (·.1)).Nodup
 | .set S n=>h.SetOf (intKind P w) a S n
 | .ins C dx fs=>H dx=some (.own a)∧fs.length≤1000∧dx ≠ a∧h.get? a=some (PySem.W.instObj C dx)∧
   ∃ mA,h.Ns1 dx mA∧(∀ f,jI (fs.lookup f) (mA f))∧PySem.Within mA (fs.map (·.1))
 | .own _=>∃ o,h.get? a=some o
 | .xd fs=>∃ mA,h.Ns1 a mA∧∀ f,jI (fs.lookup f) (mA f)
 | .rng lo hi=>∃ t u v,h.get? a=some { cls:=.type "range",data:=.fields #[.int lo t,.int hi u,.int 1 v] }
 | .frz o u=>h.get? a=some o∧bF H h a u
 | .tbl ps=>h.get? a=some { cls:=.none,data:=.fields ps }
 | .met f x=>h.get? a=some (PySem.W.methodObj (.ref f) (.ref x))
 | .ext φ=>φ h∧(∃ o,h.get? a=some o)∧∀ h1 h2:Heap,φ h1→(∀ o,h1.get? a=some o→h2.get? a=some o)→φ h2
def HOk (H:Hp) (h:Heap):Prop:=∀ a o,H a=some o→bF P w H h a o
end
section
variable {P:Program} {w:World} {H H':Hp} {h h':Heap} {a:Addr} {o:HO}
theorem bF.lt (x:bF P w H h a o):a < h.objs.size:=by
 cases o with
 | lst xs=>obtain ⟨_,_,_,_,e⟩:=x; exact Heap.lt_size e
 | tup xs=>obtain ⟨_,_,_,p⟩:=x; exact p.lt
 | dK kvs=>obtain ⟨_,_,_,_,o,_,_,e,_⟩:=x; exact Heap.lt_size e
 | dT kvs=>obtain ⟨_,_,_,_,o,_,_,e,_⟩:=x; exact Heap.lt_size e
 | set S n=>obtain ⟨o,_,_,_,e,_⟩:=x; exact Heap.lt_size e
 | ins C dx fs=>obtain ⟨_,_,_,e,_⟩:=x; exact Heap.lt_size e
 | own y=>obtain ⟨_,e⟩:=x; exact Heap.lt_size e
 | xd fs=>obtain ⟨_,⟨_,_,_,e,_⟩,_⟩:=x; exact Heap.lt_size e
 | rng lo hi=>obtain ⟨_,_,_,e⟩:=x; exact Heap.lt_size e
 | frz ob u=>obtain ⟨e,_⟩:=x; exact Heap.lt_size e
 | tbl ps=>exact Heap.lt_size (show h.get? a=some _ from x)
 | met f y=>exact Heap.lt_size (show h.get? a=some _ from x)
 | ext φ=>obtain ⟨_,⟨_,e⟩,_⟩:=x; exact Heap.lt_size e
theorem Paired.mapP {α β:Type} {F G:α→β→Prop}:∀ {l₁:List α} {l₂:List β},Paired F l₁ l₂→(∀ a b,F a b→G a b)→Paired G l₁ l₂
 | _,_,.nil,_=>.nil
 | _,_,.cons r t,f=>.cons (f _ _ r) (Paired.mapP t f)
theorem bF.stay (x:bF P w H h a o) (k:∀ b u,(b=a ∨ H b=some (.own a))→h.get? b=some u→h'.get? b=some u)
  (ho:∀ b,H b=some (.own a)→H' b=some (.own a)) (ht:∀ b xs,H b=some (.tup xs)→H' b=some (.tup xs)):bF P w H' h' a o:=by
 induction o with
 | lst xs=>obtain ⟨z,its,n,r,e⟩:=x; exact ⟨z,its,n,r,k _ _ (.inl rfl) e⟩
 | tup xs=>obtain ⟨z,its,r,ob,e,c⟩:=x; exact ⟨z,its,r,ob,k _ _ (.inl rfl) e,c⟩
 | dK kvs=>obtain ⟨z,y,vs,r,ob,es,ep,e,c⟩:=x; exact ⟨z,y,vs,r,ob,es,ep,k _ _ (.inl rfl) e,c⟩
 | dT kvs=>
  obtain ⟨z,y,xs,r,ob,es,ep,e,c⟩:=x
  exact ⟨z,y,xs,Paired.mapP r fun p q z=>⟨z.1,ht _ _ z.2.1,z.2.2⟩,ob,es,ep,k _ _ (.inl rfl) e,c⟩
 | set S n=>obtain ⟨ob,es,ep,t,e,c⟩:=x; exact ⟨ob,es,ep,t,k _ _ (.inl rfl) e,c⟩
 | ins C dx fs=>
  obtain ⟨d,z,ne,e,mA,⟨od,es,ep,e2,c⟩,r⟩:=x
  exact ⟨ho _ d,z,ne,k _ _ (.inl rfl) e,mA,⟨od,es,ep,k _ _ (.inr d) e2,c⟩,r⟩
 | own y=>obtain ⟨ob,e⟩:=x; exact ⟨ob,k _ _ (.inl rfl) e⟩
 | xd fs=>obtain ⟨mA,⟨od,es,ep,e,c⟩,r⟩:=x; exact ⟨mA,⟨od,es,ep,k _ _ (.inl rfl) e,c⟩,r⟩
 | rng lo hi=>obtain ⟨t,u,v,e⟩:=x; exact ⟨t,u,v,k _ _ (.inl rfl) e⟩
 | frz ob u ih=>obtain ⟨e,q⟩:=x; exact ⟨k _ _ (.inl rfl) e,ih q⟩
 | tbl ps=>
  have e:h.get? a=some { cls:=.none,data:=.fields ps }:=x
  show h'.get? a=some { cls:=.none,data:=.fields ps }
  exact k a _ (.inl rfl) e
 | met f y=>
  have e:h.get? a=some (PySem.W.methodObj (.ref f) (.ref y)):=x
  show h'.get? a=some (PySem.W.methodObj (.ref f) (.ref y))
  exact k a _ (.inl rfl) e
 | ext φ=>obtain ⟨p,⟨o,e⟩,st⟩:=x; exact ⟨st _ _ p fun o q=>k _ _ (.inl rfl) q,⟨o,k _ _ (.inl rfl) e⟩,st⟩
theorem HOk.lt (x:HOk P w H h) (e:H a=some o):a < h.objs.size:=(x a o e).lt
theorem HOk.fresh (x:HOk P w H h) (e:h.objs.size≤a):H a=none:=by
 cases q:H a with
 | none=>rfl
 | some u=>exact absurd (Nat.lt_of_lt_of_le (x.lt q) e) (Nat.lt_irrefl _)
theorem HOk.kept (x:HOk P w H h) (k:∀ b u,h.get? b=some u→h'.get? b=some u):HOk P w H h':=fun a o e=>
 (x a o e).stay (fun b u _ q=>k b u q) (fun _ q=>q) fun _ _ q=>q
theorem HOk.laid (x:HOk P w H h) (k:∀ b u,h.get? b=some u→h'.get? b=some u) (hp:h.objs.size≤a) (new:bF P w (upd H a o) h' a o):HOk P w (upd H a o) h':=fun b u e=>by
 have hn:=x.fresh hp
 by_cases hb:b=a
 ·subst hb; rw [aI] at e; cases e; exact new
 ·rw [aG hb] at e
  exact (x b u e).stay (fun c v _ q=>k c v q) (fun c q=>by rw [aG (aQ q hn)]; exact q) fun c xs q=>by rw [aG (aQ q hn)]; exact q
end
def Rd (H:Hp) (a:Addr) (u:HO):Prop:=H a=some u ∨ ∃ o,H a=some (.frz o u)
theorem Rd.ok {P:Program} {w:World} {H:Hp} {h:Heap} {a:Addr} {u:HO} (r:Rd H a u) (x:HOk P w H h):bF P w H h a u:=by
 rcases r with r | ⟨o,r⟩
 ·exact x a u r
 ·obtain ⟨_,q⟩:=x a _ r
  exact q
def Mut:Option HO→Prop
 | some (.lst _)=>True
 | some (.dK _)=>True
 | some (.dT _)=>True
 | some (.set _ _)=>True
 | some (.ins _ _ _)=>True
 | some (.ext _)=>True
 | _=>False
section
variable {P:Program} {w:World} {H:Hp} {h h':Heap} {x e:Addr} {o':HO}
theorem HOk.write (ok:HOk P w H h) (mu:Mut (H x)) (he:e=x ∨ H e=some (.own x)) (k:∀ b u,b ≠ e→h.get? b=some u→h'.get? b=some u) (heo:∃ u,h'.get? e=some u)
  (new:bF P w (upd H x o') h' x o'):HOk P w (upd H x o') h':=fun b u q=>by
 have nown:∀ c y,H c=some (.own y)→c ≠ x:=fun c y r z=>by subst z; rw [r] at mu; exact mu
 have ntup:∀ c xs,H c=some (.tup xs)→c ≠ x:=fun c xs r z=>by subst z; rw [r] at mu; exact mu
 by_cases hb:b=x
 ·subst hb; rw [aI] at q; cases q; exact new
 ·rw [aG hb] at q
  by_cases hbe:b=e
  ·have q':H b=some (.own x):=by
    rcases he with z | z
    ·exact absurd (hbe.trans z) hb
    ·rw [hbe]; exact z
   rw [q] at q'; cases q'
   obtain ⟨v,hv⟩:=heo
   exact ⟨v,by rw [hbe]; exact hv⟩
  ·refine (ok b u q).stay (fun c v hc r=>k c v ?_ r) (fun c r=>by rw [aG (nown c b r)]; exact r) fun c xs r=>by rw [aG (ntup c xs r)]; exact r
   rcases hc with rfl | hc
   ·exact hbe
   ·rintro rfl
    rcases he with z | z
    ·exact nown c b hc z
    ·rw [hc] at z; cases z; exact hb rfl
end
structure Un (fs ex:List Addr) (H H':Hp) (h h':Heap):Prop where
 keep:∀ b o,h.get? b=some o→H b=none→b ∉ fs→b ∉ ex→h'.get? b=some o
 slot:∀ b o,h.get? b=some o→H b=none→b ∈ fs→b ∉ ex→∃ sl,h'.get? b=some { o with slots:=sl }
 free:∀ b o,h.get? b=some o→H b=none→b ∉ ex→H' b=none
 there:∀ b o,h.get? b=some o→b ∉ ex→∃ o',h'.get? b=some o'
 tups:∀ b xs,H b=some (.tup xs)→H' b=some (.tup xs)
 frzs:∀ b o u,H b=some (.frz o u)→H' b=some (.frz o u)
 tbls:∀ b ps,H b=some (.tbl ps)→∃ more,H' b=some (.tbl (ps ++ more))
section
variable {fs fs' ex ex':List Addr} {H H1 H2:Hp} {h h1 h2 h':Heap} {a x e:Addr} {o:HO}
theorem Un.any (u:Un fs ex H H1 h h1) {b:Addr} {ob:Obj} (q:h.get? b=some ob) (n:H b=none) (hx:b ∉ ex):∃ sl,h1.get? b=some { ob with slots:=sl }:=by
 by_cases hb:b ∈ fs
 ·exact u.slot b ob q n hb hx
 ·exact ⟨ob.slots,u.keep b ob q n hb hx⟩
theorem Un.trans (a:Un fs ex H H1 h h1) (b:Un fs ex H1 H2 h1 h2):Un fs ex H H2 h h2 where
 keep:=fun c ob q n hc hx=>b.keep c ob (a.keep c ob q n hc hx) (a.free c ob q n hx) hc hx
 slot:=fun c ob q n hc hx=>by
  obtain ⟨sl,e1⟩:=a.slot c ob q n hc hx
  obtain ⟨sl',e2⟩:=b.slot c _ e1 (a.free c ob q n hx) hc hx
  exact ⟨sl',e2⟩
 free:=fun c ob q n hx=>by
  obtain ⟨o',e1⟩:=a.there c ob q hx
  exact b.free c o' e1 (a.free c ob q n hx) hx
 there:=fun c ob q hx=>by
  obtain ⟨o',e1⟩:=a.there c ob q hx
  exact b.there c o' e1 hx
 tups:=fun c xs q=>b.tups c xs (a.tups c xs q)
 frzs:=fun c ob xs q=>b.frzs c ob xs (a.frzs c ob xs q)
 tbls:=fun c ps q=>by
  obtain ⟨m1,e1⟩:=a.tbls c ps q
  obtain ⟨m2,e2⟩:=b.tbls c _ e1
  exact ⟨m1 ++ m2,by rw [e2,Array.append_assoc]⟩
theorem Un.kept (k:∀ b u,h.get? b=some u→h'.get? b=some u):Un fs ex H H h h':=
 ⟨fun b ob q _ _ _=>k b ob q,fun b ob q _ _ _=>⟨ob.slots,k b ob q⟩,fun _ _ _ n _=>n,fun b ob q _=>⟨ob,k b ob q⟩,fun _ _ q=>q,fun _ _ _ q=>q,fun _ ps q=>⟨#[],by rw [q]; simp⟩⟩
theorem Un.refl:Un fs ex H H h h:=Un.kept fun _ _ q=>q
theorem Un.laid (k:∀ b u,h.get? b=some u→h'.get? b=some u) (hp:h.objs.size≤a) (hn:H a=none):Un fs ex H (upd H a o) h h' where
 keep:=fun b u q _ _ _=>k b u q
 slot:=fun b u q _ _ _=>⟨u.slots,k b u q⟩
 free:=fun b u q n _=>by rw [aG (Nat.ne_of_lt (Nat.lt_of_lt_of_le (Heap.lt_size q) hp))]; exact n
 there:=fun b u q _=>⟨u,k b u q⟩
 tups:=fun b xs q=>by rw [aG (aQ q hn)]; exact q
 frzs:=fun b u xs q=>by rw [aG (aQ q hn)]; exact q
 tbls:=fun b ps q=>⟨#[],by rw [aG (aQ q hn),q]; simp⟩
theorem Un.write (mu:Mut (H x)) (he:e=x ∨ H e=some (.own x)) (k:∀ b u,b ≠ e→h.get? b=some u→h'.get? b=some u) (heo:∃ u,h'.get? e=some u):Un fs ex H (upd H x o) h h':=by
 have hx:∀ b,H b=none→b ≠ x:=fun b n z=>by subst z; rw [n] at mu; exact mu
 have hb:∀ b,H b=none→b ≠ e:=fun b n z=>by
  subst z
  rcases he with r | r
  ·exact hx b n r
  ·rw [n] at r; cases r
 have hm:∀ b u,H b=some u→¬ Mut (some u)→b ≠ x:=fun b u q nm z=>by subst z; rw [q] at mu; exact nm mu
 refine ⟨fun b u q n _ _=>k b u (hb b n) q,fun b u q n _ _=>⟨u.slots,k b u (hb b n) q⟩,fun b u q n _=>by rw [aG (hx b n)]; exact n,fun b u q _=>?_,
  fun b xs q=>by rw [aG (hm b _ q fun z=>z)]; exact q,fun b u xs q=>by rw [aG (hm b _ q fun z=>z)]; exact q,fun b ps q=>⟨#[],by rw [aG (hm b _ q fun z=>z),q]; simp⟩⟩
 by_cases hbe:b=e
 ·subst hbe; exact heo
 ·exact ⟨u,k b u hbe q⟩
end
def trk (h:Heap) (H:Hp):List Addr:=(List.range h.objs.size).filter fun a=>(H a).isSome
def ot (h:Heap) (H:Hp):Heap:=PySem.W.hideAll h (trk h H)
theorem vD (h:Heap) (H:Hp):(ot h H).objs.size=h.objs.size:=PySem.W.hideAll_size _ _
theorem wH {h:Heap} {H:Hp} {b:Addr} {o:Obj} (e:h.get? b=some o) (n:H b=none):(ot h H).get? b=some o:=
 PySem.W.hideAll_get _ e fun hm=>by
  have q:(H b).isSome=true:=(List.mem_filter.mp hm).2
  rw [n] at q; simp at q
theorem yQ {h:Heap} {H:Hp} {b:Addr} {o:Obj} (e:(ot h H).get? b=some o):h.get? b=some o∧H b=none:=by
 have e':h.get? b=some o:=PySem.W.of_hideAll (trk h H) e
 refine ⟨e',?_⟩
 cases q:H b with
 | none=>rfl
 | some x=>
  have hm:b ∈ trk h H:=List.mem_filter.mpr ⟨List.mem_range.mpr (Heap.lt_size e'),by simp [q]⟩
  have z:(ot h H).get? b=none:=PySem.W.hideAll_none (trk h H) hm
  rw [z] at e; cases e
end L2
namespace L2
open PySem PySem.Spec PyProof.Rows
structure Mod (K:PySem.W.Frag) (mg:Str→Option Value) (base:Heap):Prop where
 kin:K.In base
 glob:base.Ns mainGlobals mg
 blt:∃ mb,base.Ns builtinsNs mb∧∀ x:Str,x ≠ "__name__"→mb x=bootBuiltins x
 nolimit:base.NoLimit
structure Cx where
 prog:Program
 w:World
 K:PySem.W.Frag
 mg:Str→Option Value
 base:Heap
 A:Around
 N:List Str
 s₀:Shared
 H₀:Hp
 env:Env
 outer:List Env
 stack:List Env
 ex:List Addr
 fn:Str→Bool
 calm:Bool
 pn:List (Addr × Obj)
 xe:Value→Shared→Prop
def frs (l:List Env):List Addr:=l.filterMap (·.frame)
abbrev Cx.fs (X:Cx):List Addr:=frs X.outer
def Vis (sc:Scope) (x:Str):Prop:=sc.names.lookup x=some .local ∨ sc.names.lookup x=some .cell ∨ sc.names.lookup x=some .free
def Loc (sc:Scope) (x:Str):Prop:=sc.names.lookup x=some .local ∨ sc.names.lookup x=some .cell
def Look (env:Env) (h:Heap) (m:Str→Option Value) (x:Str) (u:Value):Prop:=
 (env.kindOf x=some .local∧m x=some u) ∨ ((env.kindOf x=some .cell ∨ env.kindOf x=some .free)∧∃ c,env.cells.lookup x=some c∧h.IsCell c (some u))
structure Cx.Ok (X:Cx):Prop where
 mod:Mod X.K X.mg X.base
 kind:X.env.scope.kind=.function
 glob:X.env.globals=mainGlobals
 blt:X.env.builtins=builtinsNs
 above:X.s₀.heap.objs.size≤X.env.locals
 inj:∀ x y c,X.env.cells.lookup x=some c→X.env.cells.lookup y=some c→x=y
 has:∀ x,(X.env.kindOf x=some .cell ∨ X.env.kindOf x=some .free)→∃ c,X.env.cells.lookup x=some c
 cab:∀ x c,X.fn x=true→X.env.cells.lookup x=some c→X.s₀.heap.objs.size≤c
 hd:X.calm=true→X.A.handled=none
 frames:X.A.frames=some X.stack
 stk:X.stack=X.outer ∨ (X.stack=X.env :: X.outer∧X.env.frame=some X.env.locals)
 exf:∀ b ∈ X.ex,b ≠ X.env.locals∧∀ x c,X.env.cells.lookup x=some c→c ≠ b
 bs:∀ b o,X.base.get? b=some o→X.s₀.heap.get? b=some o∧X.H₀ b=none
 bsz:X.base.objs.size≤X.s₀.heap.objs.size
 noex:∀ b o,X.base.get? b=some o→b ∉ X.ex
 exfs:∀ b ∈ X.ex,b ∉ X.fs
 funs:X.s₀.heap.FunFrames X.base X.outer
 frf:∀ b ∈ X.fs,X.H₀ b=none
structure Inv (X:Cx) (pins:List (Addr × Obj)) (σ:List (Option V)) (H:Hp) (s:Shared):Prop where
 ok:X.Ok
 os:s.os=X.s₀.os
 bare:AllBare s.gens
 base:Un X.fs X.ex X.H₀ H X.s₀.heap s.heap
 loc:∃ m,s.heap.Ns X.env.locals m∧∀ (i:Nat) (x:Str) (v:V),X.N[i]?=some x→σ[i]?=some (some v)→Vis X.env.scope x→∃ u,RelV v u∧Look X.env s.heap m x u
 cell:∀ x c,X.env.cells.lookup x=some c→∃ v,s.heap.IsCell c v
 free:H X.env.locals=none
 freeC:∀ x c,X.env.cells.lookup x=some c→H c=none
 pin:∀ p ∈ X.pn ++ pins,s.heap.get? p.1=some p.2∧H p.1=none∧p.1 ≠ X.env.locals∧p.1 ∉ X.fs∧∀ v,p.2.data ≠ .cell v
 hok:HOk X.prog X.w H s.heap
 len:σ.length=X.N.length
section
variable {X:Cx} {pins:List (Addr × Obj)} {σ:List (Option V)} {H H':Hp} {s:Shared} {h':Heap}
theorem Cx.Ok.nofr (ok:X.Ok) {b:Addr} {o:Obj} (e:X.base.get? b=some o):b ∉ X.fs:=fun hb=>by
 have:=(ok.funs.mem hb).1
 rw [e] at this; cases this
theorem Inv.bs (I:Inv X pins σ H s):∀ b o,X.base.get? b=some o→s.heap.get? b=some o∧H b=none:=fun b o e=>
 ⟨I.base.keep b o (I.ok.bs b o e).1 (I.ok.bs b o e).2 (I.ok.nofr e) (I.ok.noex b o e),I.base.free b o (I.ok.bs b o e).1 (I.ok.bs b o e).2 (I.ok.noex b o e)⟩
theorem Inv.bk (I:Inv X pins σ H s):∀ b o,X.base.get? b=some o→s.heap.get? b=some o:=fun b o e=>(I.bs b o e).1
theorem Inv.mod (I:Inv X pins σ H s):Mod X.K X.mg X.base:=I.ok.mod
theorem Inv.kIn (I:Inv X pins σ H s):X.K.In s.heap:=I.ok.mod.kin.keeps I.bk
theorem Inv.lt (I:Inv X pins σ H s):X.env.locals < s.heap.objs.size:=let ⟨_,hn,_⟩:=I.loc; hn.lt
theorem Inv.sz (I:Inv X pins σ H s):X.s₀.heap.objs.size≤s.heap.objs.size:=Nat.le_trans I.ok.above (Nat.le_of_lt I.lt)
theorem Inv.nofs (I:Inv X pins σ H s) {a:Addr} (h:s.heap.objs.size≤a):a ∉ X.fs:=fun hb=>by
 obtain ⟨_,o,ho,_⟩:=I.ok.funs.mem hb
 exact absurd (Nat.lt_of_lt_of_le (Heap.lt_size ho) (Nat.le_trans I.sz h)) (Nat.lt_irrefl _)
theorem Inv.cne (I:Inv X pins σ H s):∀ x c,X.env.cells.lookup x=some c→c ≠ X.env.locals:=fun x c e z=>by
 obtain ⟨v,o,ho,hd⟩:=I.cell x c e
 obtain ⟨m,⟨o',es,ep,ho',hd',_⟩,_⟩:=I.loc
 rw [z,ho'] at ho; cases ho; rw [hd'] at hd; cases hd
theorem Inv.funs (I:Inv X pins σ H s):s.heap.FunFrames X.base X.outer:=by
 have all:∀ (l:List Env),(∀ b ∈ frs l,b ∈ X.fs)→X.s₀.heap.FunFrames X.base l→s.heap.FunFrames X.base l:=by
  intro l
  induction l with
  | nil=>intro _ _; trivial
  | cons env r ih=>
   intro hs hl
   obtain ⟨hk,⟨L,o,hf,hn,ho,hd⟩,hr⟩:=hl
   have hL:L ∈ X.fs:=hs L (by unfold frs; rw [List.filterMap_cons,hf]; exact List.mem_cons_self)
   obtain ⟨sl,e⟩:=I.base.slot L o ho (I.ok.frf L hL) hL fun z=>I.ok.exfs L z hL
   exact ⟨hk,⟨L,_,hf,hn,e,hd⟩,ih (fun b hb=>hs b (by unfold frs; rw [List.filterMap_cons,hf]; exact List.mem_cons_of_mem _ hb)) hr⟩
 exact all X.outer (fun _ hb=>hb) I.ok.funs
theorem Inv.stack (I:Inv X pins σ H s):s.heap.FunFrames X.base X.stack:=by
 rcases I.ok.stk with e | ⟨e,hf⟩
 ·rw [e]; exact I.funs
 ·rw [e]
  obtain ⟨m,hn,_⟩:=I.loc
  refine .cons (by rw [I.ok.kind]; decide) hf hn ?_ I.funs
  exact Heap.get?_none_of_le (Nat.le_trans I.ok.bsz I.ok.above)
theorem Inv.stkSub (I:Inv X pins σ H s):∀ b ∈ frs X.stack,b ∈ X.env.locals :: X.fs:=fun b hb=>by
 rcases I.ok.stk with e | ⟨e,hf⟩
 ·rw [e] at hb; exact List.mem_cons_of_mem _ hb
 ·rw [e] at hb
  unfold frs at hb
  rw [List.filterMap_cons,hf] at hb
  exact hb
theorem Inv.stkFree (I:Inv X pins σ H s):∀ b ∈ frs X.stack,H b=none:=fun b hb=>by
 rcases List.mem_cons.mp (I.stkSub b hb) with e | hb
 ·rw [e]; exact I.free
 ·obtain ⟨_,o,ho,_⟩:=I.ok.funs.mem hb
  exact I.base.free b o ho (I.ok.frf b hb) fun z=>I.ok.exfs b z hb
theorem Inv.step {g':Array GenState} {t':Nat} {d':Drawn} {ch:List Addr} (I:Inv X pins σ H s)
  (hch:∀ b ∈ ch,(b ∈ X.ex ∨ X.s₀.heap.objs.size≤b)∧b ≠ X.env.locals∧(∀ x c,X.env.cells.lookup x=some c→c ≠ b)∧∀ p ∈ X.pn ++ pins,p.1 ≠ b)
  (keep:∀ b o,b ≠ X.env.locals→b ∉ X.fs→b ∉ ch→s.heap.get? b=some o→H b=none→h'.get? b=some o)
  (slot:∀ b o,b ≠ X.env.locals→b ∈ X.fs→b ∉ ch→s.heap.get? b=some o→H b=none→∃ sl,h'.get? b=some { o with slots:=sl }) (free:∀ b o,b ∉ ch→s.heap.get? b=some o→H b=none→H' b=none)
  (there:∀ b o,b ∉ ch→s.heap.get? b=some o→∃ o',h'.get? b=some o')
  (tups:∀ b xs,H b=some (.tup xs)→H' b=some (.tup xs)) (frzs:∀ b o u,H b=some (.frz o u)→H' b=some (.frz o u)) (tbls:∀ b ps,H b=some (.tbl ps)→∃ more,H' b=some (.tbl (ps ++ more)))
  (ns:∀ m,s.heap.Ns X.env.locals m→h'.Ns X.env.locals m) (hok:HOk X.prog X.w H' h') (hg:AllBare g'):
  Inv X pins σ H' { s with heap:=h',gens:=g',drawn:=d',toks:=t' }:=by
 have neL:∀ b o,X.s₀.heap.get? b=some o→b ≠ X.env.locals:=fun b o e=>Nat.ne_of_lt (Nat.lt_of_lt_of_le (Heap.lt_size e) I.ok.above)
 have neC:∀ b o,X.s₀.heap.get? b=some o→b ∉ X.ex→b ∉ ch:=fun b o e hx hb=>by
  rcases (hch b hb).1 with z | z
  ·exact hx z
  ·exact absurd (Nat.lt_of_lt_of_le (Heap.lt_size e) z) (Nat.lt_irrefl _)
 have cellK:∀ x c,X.env.cells.lookup x=some c→∀ v,s.heap.IsCell c v→h'.IsCell c v:=fun x c e v ⟨o,ho,hd⟩=>by
  have nch:c ∉ ch:=fun z=>(hch c z).2.2.1 x c e rfl
  by_cases hc:c ∈ X.fs
  ·obtain ⟨sl,q⟩:=slot c o (I.cne x c e) hc nch ho (I.freeC x c e)
   exact ⟨_,q,hd⟩
  ·exact ⟨o,keep c o (I.cne x c e) hc nch ho (I.freeC x c e),hd⟩
 refine ⟨I.ok,I.os,hg,⟨fun b o e n hb hx=>?_,fun b o e n hb hx=>?_,fun b o e n hx=>?_,fun b o e hx=>?_,fun b xs e=>tups b xs (I.base.tups b xs e),fun b o xs e=>frzs b o xs (I.base.frzs b o xs e),fun b ps e=>?_⟩,?_,fun x c e=>?_,?_,fun x c e=>?_,fun p hp=>?_,hok,I.len⟩
 ·exact keep b o (neL b o e) hb (neC b o e hx) (I.base.keep b o e n hb hx) (I.base.free b o e n hx)
 ·obtain ⟨sl,e1⟩:=I.base.slot b o e n hb hx
  obtain ⟨sl',e2⟩:=slot b _ (neL b o e) hb (neC b o e hx) e1 (I.base.free b o e n hx)
  exact ⟨sl',e2⟩
 ·obtain ⟨o',e1⟩:=I.base.there b o e hx
  exact free b o' (neC b o e hx) e1 (I.base.free b o e n hx)
 ·obtain ⟨o',e1⟩:=I.base.there b o e hx
  exact there b o' (neC b o e hx) e1
 ·obtain ⟨m1,e1⟩:=I.base.tbls b ps e
  obtain ⟨m2,e2⟩:=tbls b _ e1
  exact ⟨m1 ++ m2,by rw [e2,Array.append_assoc]⟩
 ·obtain ⟨m,hn,hl⟩:=I.loc
  refine ⟨m,ns m hn,fun i x v e1 e2 e3=>?_⟩
  obtain ⟨u,r,l⟩:=hl i x v e1 e2 e3
  refine ⟨u,r,?_⟩
  rcases l with l | ⟨k,c,e,z⟩
  ·exact .inl l
  ·exact .inr ⟨k,c,e,cellK x c e _ z⟩
 ·obtain ⟨v,z⟩:=I.cell x c e
  exact ⟨v,cellK x c e v z⟩
 ·obtain ⟨m,⟨o,_,_,ho,_⟩,_⟩:=I.loc
  exact free _ o (fun z=>(hch _ z).2.1 rfl) ho I.free
 ·obtain ⟨v,o,ho,hd⟩:=I.cell x c e
  exact free c o (fun z=>(hch c z).2.2.1 x c e rfl) ho (I.freeC x c e)
 ·obtain ⟨e,n,ne,nf,d⟩:=I.pin p hp
  have nch:p.1 ∉ ch:=fun z=>(hch p.1 z).2.2.2 p hp rfl
  exact ⟨keep p.1 p.2 ne nf nch e n,free p.1 p.2 nch e n,ne,nf,d⟩
theorem Inv.un {t':Nat} (I:Inv X pins σ H s) (u:Un X.fs [] H H' s.heap h') (hok:HOk X.prog X.w H' h'):Inv X pins σ H' { s with heap:=h',toks:=t' }:=by
 obtain ⟨m,⟨o,es,ep,ho,r⟩,_⟩:=id I.loc
 obtain ⟨sl,hL⟩:=u.any ho I.free (by simp)
 exact I.step (g':=s.gens) (d':=s.drawn) (ch:=[]) (fun _ z=>nomatch z) (fun b o _ hb _ e n=>u.keep b o e n hb (by simp)) (fun b o _ hb _ e n=>u.slot b o e n hb (by simp)) (fun b o _ e n=>u.free b o e n (by simp)) (fun b o _ e=>u.there b o e (by simp)) u.tups u.frzs u.tbls (fun m' hm=>by
  obtain ⟨o',es',ep',ho',r'⟩:=hm
  rw [ho] at ho'; cases ho'
  exact ⟨_,es',ep',hL,r'⟩) hok I.bare
theorem Inv.call {g':Array GenState} {t':Nat} {d':Drawn} {ch:List Addr} (I:Inv X pins σ H s) (u:Un (frs X.stack) ch H H' s.heap h') (hok:HOk X.prog X.w H' h') (hg:AllBare g')
  (hch:∀ b ∈ ch,(b ∈ X.ex ∨ X.s₀.heap.objs.size≤b)∧b ≠ X.env.locals∧(∀ x c,X.env.cells.lookup x=some c→c ≠ b)∧∀ p ∈ X.pn ++ pins,p.1 ≠ b):
  Inv X pins σ H' { s with heap:=h',gens:=g',drawn:=d',toks:=t' }:=by
 obtain ⟨m,⟨o,es,ep,ho,r⟩,_⟩:=id I.loc
 obtain ⟨sl,hL⟩:=u.any ho I.free fun z=>(hch _ z).2.1 rfl
 exact I.step (ch:=ch) hch (fun b o hL hb hc e n=>u.keep b o e n (fun z=>(List.mem_cons.mp (I.stkSub b z)).elim hL hb) hc) (fun b o _ _ hc e n=>u.any e n hc) (fun b o hc e n=>u.free b o e n hc) (fun b o hc e=>u.there b o e hc) u.tups u.frzs u.tbls (fun m' hm=>by
  obtain ⟨o',es',ep',ho',r'⟩:=hm
  rw [ho] at ho'; cases ho'
  exact ⟨_,es',ep',hL,r'⟩) hok hg
theorem Inv.turned {t':Nat} {it:Addr} (I:Inv X pins σ H s) (k:∀ b o,b ≠ it→s.heap.get? b=some o→h'.get? b=some o) (hn:H it=none) (hL:it ≠ X.env.locals)
  (h1:it ∈ X.ex ∨ X.s₀.heap.objs.size≤it) (h2:∀ x c,X.env.cells.lookup x=some c→c ≠ it) (h3:∀ p ∈ X.pn ++ pins,p.1 ≠ it):Inv X pins σ H { s with heap:=h',toks:=t' }:=by
 have nit:∀ b u,H b=some u→b ≠ it:=fun b u e z=>by rw [z,hn] at e; cases e
 refine I.step (g':=s.gens) (d':=s.drawn) (ch:=[it]) (fun b hb=>?_) (fun b o _ _ hc e _=>k b o (fun z=>hc (by simp [z])) e) (fun b o _ _ hc e _=>⟨o.slots,k b o (fun z=>hc (by simp [z])) e⟩) (fun _ _ _ _ n=>n)
  (fun b o hc e=>⟨o,k b o (fun z=>hc (by simp [z])) e⟩) (fun _ _ e=>e) (fun _ _ _ e=>e) (fun b ps e=>⟨#[],by rw [e]; simp⟩) (fun m hm=>?_) (fun b u e=>?_) I.bare
 ·have e:b=it:=by simpa using hb
  subst e
  exact ⟨h1,hL,h2,h3⟩
 ·obtain ⟨o,es,ep,ho,r⟩:=hm
  exact ⟨o,es,ep,k _ o (Ne.symm hL) ho,r⟩
 ·refine (I.hok b u e).stay (fun c v hc q=>k c v ?_ q) (fun _ q=>q) fun _ _ q=>q
  rcases hc with z | z
  ·rw [z]; exact nit b u e
  ·exact nit c _ z
theorem Inv.tok (I:Inv X pins σ H s) (t:Nat):Inv X pins σ H { s with toks:=t }:=I.un (h':=s.heap) (t':=t) Un.refl I.hok
theorem Inv.kept {t':Nat} (I:Inv X pins σ H s) (k:∀ b u,s.heap.get? b=some u→h'.get? b=some u):Inv X pins σ H { s with heap:=h',toks:=t' }:=I.un (Un.kept k) (I.hok.kept k)
theorem Inv.laid {a:Addr} {o:HO} {t':Nat} (I:Inv X pins σ H s) (k:∀ b u,s.heap.get? b=some u→h'.get? b=some u) (hp:s.heap.objs.size≤a) (new:bF X.prog X.w (upd H a o) h' a o):
 Inv X pins σ (upd H a o) { s with heap:=h',toks:=t' }:=I.un (Un.laid k hp (I.hok.fresh hp)) (I.hok.laid k hp new)
theorem Inv.write {x e:Addr} {o:HO} {t':Nat} (I:Inv X pins σ H s) (mu:Mut (H x)) (he:e=x ∨ H e=some (.own x)) (k:∀ b u,b ≠ e→s.heap.get? b=some u→h'.get? b=some u) (heo:∃ u,h'.get? e=some u)
 (new:bF X.prog X.w (upd H x o) h' x o):Inv X pins σ (upd H x o) { s with heap:=h',toks:=t' }:=I.un (Un.write mu he k heo) (I.hok.write mu he k heo new)
theorem Inv.pins_of {pins':List (Addr × Obj)} (I:Inv X pins σ H s) (h:∀ p ∈ pins',s.heap.get? p.1=some p.2∧H p.1=none∧p.1 ≠ X.env.locals∧p.1 ∉ X.fs∧∀ v,p.2.data ≠ .cell v):Inv X pins' σ H s:=
 ⟨I.ok,I.os,I.bare,I.base,I.loc,I.cell,I.free,I.freeC,fun p hp=>(List.mem_append.mp hp).elim (fun z=>I.pin p (List.mem_append_left _ z)) (h p),I.hok,I.len⟩
theorem qo {N:List Str} (hN:N.Nodup) {i j:Nat} {x:Str} (a:N[i]?=some x) (b:N[j]?=some x):i=j:=by
 obtain ⟨h1,e1⟩:=List.getElem?_eq_some_iff.mp a
 obtain ⟨h2,e2⟩:=List.getElem?_eq_some_iff.mp b
 exact (List.getElem_inj hN).mp (e1.trans e2.symm)
theorem vE {M:Model} {A:Around} {E:Value→Shared→Prop} {i:Nat} {x:Str} {v:V} {u:Value} {Q:Unit→Shared→Prop} (I:Inv X pins σ H s) (hN:X.N.Nodup) (hi:X.N[i]?=some x) (hx:Loc X.env.scope x) (r:RelV v u)
  (h:∀ s',Inv X pins (σ.set i (some v)) H s'→(∃ a,Heap.SameBut a s.heap s'.heap∧(a=X.env.locals ∨ X.env.cells.lookup x=some a))→Q () s') (hf:X.fn x=true ∨ X.env.scope.names.lookup x=some .local):wpAny M A (storeName X.env x u) Q E s:=by
 obtain ⟨m,hn,hl⟩:=id I.loc
 have hcls:(X.env.scope.kind == .class || (X.env.scope.kind == .module && X.env.locals != X.env.globals))=false:=by rw [I.ok.kind]; rfl
 have hiσ:i < σ.length:=by rw [I.len]; exact (List.getElem?_eq_some_iff.mp hi).1
 have cne:=I.cne
 have tracked:∀ {a:Addr} {h':Heap},(∃ o,s.heap.get? a=some o∧H a=none)→Heap.SameBut a s.heap h'→HOk X.prog X.w H h':=fun {a h'} ha hs b ob e=>by
  obtain ⟨_,_,hfree⟩:=ha
  refine (I.hok b ob e).stay (fun c w' hc q=>(hs.2 c ?_).trans q) (fun _ q=>q) fun _ _ q=>q
  rintro rfl
  rcases hc with rfl | hc
  ·rw [hfree] at e; cases e
  ·rw [hfree] at hc; cases hc
 rcases hx with hk | hk
 ·refine wpAny_storeName_local hk hn (fun h' hn' hs=>?_) hcls
  obtain ⟨oL,_,_,hoL,_⟩:=id hn
  refine h _ ⟨I.ok,I.os,I.bare,⟨fun b o e n hb hx=>?_,fun b o e n hb hx=>?_,I.base.free,fun b o e hx=>?_,I.base.tups,I.base.frzs,I.base.tbls⟩,⟨_,hn',fun j y v' e1 e2 e3=>?_⟩,fun y c e=>?_,I.free,I.freeC,fun p hp=>?_,tracked ⟨oL,hoL,I.free⟩ hs,by simpa using I.len⟩ ⟨_,hs,.inl rfl⟩
  ·exact (hs.2 b (Nat.ne_of_lt (Nat.lt_of_lt_of_le (Heap.lt_size e) I.ok.above))).trans (I.base.keep b o e n hb hx)
  ·obtain ⟨sl,e1⟩:=I.base.slot b o e n hb hx
   exact ⟨sl,(hs.2 b (Nat.ne_of_lt (Nat.lt_of_lt_of_le (Heap.lt_size e) I.ok.above))).trans e1⟩
  ·obtain ⟨o',e1⟩:=I.base.there b o e hx
   exact ⟨o',(hs.2 b (Nat.ne_of_lt (Nat.lt_of_lt_of_le (Heap.lt_size e) I.ok.above))).trans e1⟩
  ·by_cases hj:j=i
   ·subst hj
    rw [hi] at e1; cases e1
    rw [List.getElem?_set_self hiσ] at e2
    cases e2
    exact ⟨u,r,.inl ⟨hk,by simp⟩⟩
   ·rw [List.getElem?_set_ne (Ne.symm hj)] at e2
    obtain ⟨u',r',q⟩:=hl j y v' e1 e2 e3
    refine ⟨u',r',?_⟩
    rcases q with ⟨k,e⟩ | ⟨k,c,e,z⟩
    ·refine .inl ⟨k,?_⟩
     have:y ≠ x:=fun e=>hj (qo hN e1 (e ▸ hi))
     simp [this,e]
    ·exact .inr ⟨k,c,e,z.sameBut hs (cne y c e)⟩
  ·obtain ⟨w',z⟩:=I.cell y c e
   exact ⟨w',z.sameBut hs (cne y c e)⟩
  ·obtain ⟨e,n,ne,nf,d⟩:=I.pin p hp
   exact ⟨(hs.2 p.1 ne).trans e,n,ne,nf,d⟩
 ·have hfn:X.fn x=true:=by
   rcases hf with z | z
   ·exact z
   ·rw [z] at hk; cases hk
  obtain ⟨c,hc⟩:=I.ok.has x (.inl hk)
  obtain ⟨w',z⟩:=I.cell x c hc
  refine wpAny_storeName_cell I.ok.kind hk hc z (fun h' hc' hs=>?_)
  obtain ⟨oc,hoc,hocd⟩:=id z
  refine h { s with heap:=h' } ⟨I.ok,I.os,I.bare,⟨fun b o e n hb hx=>?_,fun b o e n hb hx=>?_,I.base.free,fun b o e hx=>?_,I.base.tups,I.base.frzs,I.base.tbls⟩,⟨m,hn.sameBut hs (Ne.symm (cne x c hc)),fun j y v' e1 e2 e3=>?_⟩,fun y c' e=>?_,I.free,I.freeC,fun p hp=>?_,tracked ⟨oc,hoc,I.freeC x c hc⟩ hs,by simpa using I.len⟩ ⟨c,hs,.inr hc⟩
  ·exact (hs.2 b (Nat.ne_of_lt (Nat.lt_of_lt_of_le (Heap.lt_size e) (I.ok.cab x c hfn hc)))).trans (I.base.keep b o e n hb hx)
  ·obtain ⟨sl,e1⟩:=I.base.slot b o e n hb hx
   exact ⟨sl,(hs.2 b (Nat.ne_of_lt (Nat.lt_of_lt_of_le (Heap.lt_size e) (I.ok.cab x c hfn hc)))).trans e1⟩
  ·obtain ⟨o',e1⟩:=I.base.there b o e hx
   exact ⟨o',(hs.2 b (Nat.ne_of_lt (Nat.lt_of_lt_of_le (Heap.lt_size e) (I.ok.cab x c hfn hc)))).trans e1⟩
  ·by_cases hj:j=i
   ·subst hj
    rw [hi] at e1; cases e1
    rw [List.getElem?_set_self hiσ] at e2
    cases e2
    exact ⟨u,r,.inr ⟨.inl hk,c,hc,hc'⟩⟩
   ·rw [List.getElem?_set_ne (Ne.symm hj)] at e2
    obtain ⟨u',r',q⟩:=hl j y v' e1 e2 e3
    refine ⟨u',r',?_⟩
    rcases q with q | ⟨k,c',e,z'⟩
    ·exact .inl q
    ·refine .inr ⟨k,c',e,z'.sameBut hs ?_⟩
     rintro rfl
     exact hj (qo hN e1 (I.ok.inj _ _ _ e hc ▸ hi))
  ·by_cases hcc:c'=c
   ·subst hcc; exact ⟨_,hc'⟩
   ·obtain ⟨w2,z2⟩:=I.cell y c' e
    exact ⟨w2,z2.sameBut hs hcc⟩
  ·obtain ⟨e,n,ne,nf,d⟩:=I.pin p hp
   refine ⟨(hs.2 p.1 ?_).trans e,n,ne,nf,d⟩
   intro q
   rw [q,hoc] at e
   have q':oc=p.2:=Option.some.inj e
   exact d w' (by rw [← q']; exact hocd)
theorem jd {M:Model} {A:Around} {E:Value→Shared→Prop} {i:Nat} {x:Str} {v:V} {u:Value} {Q:Unit→Shared→Prop} (I:Inv X pins σ H s) (hN:X.N.Nodup) (hi:X.N[i]?=some x) (hx:Loc X.env.scope x) (r:RelV v u)
  (h:∀ s',Inv X pins (σ.set i (some v)) H s'→Q () s') (hf:X.fn x=true ∨ X.env.scope.names.lookup x=some .local):wpAny M A (storeName X.env x u) Q E s:=
 vE I hN hi hx r (fun s' I' _=>h s' I') hf
theorem Inv.call' {s':Shared} {ch:List Addr} (I:Inv X pins σ H s) (ho:s'.os=s.os) (u:Un (frs X.stack) ch H H' s.heap s'.heap) (hok:HOk X.prog X.w H' s'.heap) (hg:AllBare s'.gens)
  (hch:∀ b ∈ ch,(b ∈ X.ex ∨ X.s₀.heap.objs.size≤b)∧b ≠ X.env.locals∧(∀ x c,X.env.cells.lookup x=some c→c ≠ b)∧∀ p ∈ X.pn ++ pins,p.1 ≠ b):Inv X pins σ H' s':=by
 obtain ⟨h',g',d',t',o'⟩:=s'
 have e:o'=s.os:=ho
 subst e
 exact I.call (g':=g') (t':=t') (d':=d') u hok hg hch
end
abbrev XK:=Value→Option Addr→Hp→Prop
abbrev St:=List (Option V)
abbrev VK:=V→Hp→Prop
abbrev TE:=St→Hp→VK→Prop
abbrev TT:=St→Hp→(Bool→Hp→Prop)→Prop
abbrev TA:=St→Hp→(List V→Hp→Prop)→Prop
set_option genInjectivity false in
structure Ends where
 nx:St→Hp→Prop
 rt:VK
 bk:St→Hp→Prop:=fun _ _=>False
 ct:St→Hp→Prop:=fun _ _=>False
abbrev TS:=Ends→St→Hp→Prop
def EP (X:Cx) (pins:List (Addr × Obj)) (σ:St) (Q:VK) (u:Value) (s':Shared):Prop:=∃ v H',Inv X pins σ H' s'∧RelV v u∧Q v H'
def TP (X:Cx) (pins:List (Addr × Obj)) (σ:St) (Q:Bool→Hp→Prop) (b:Bool) (s':Shared):Prop:=∃ H',Inv X pins σ H' s'∧Q b H'
def AP (X:Cx) (pins:List (Addr × Obj)) (σ:St) (Q:List V→Hp→Prop) (us:List Value) (s':Shared):Prop:=∃ vs H',Inv X pins σ H' s'∧Vals vs us∧Q vs H'
def SP (X:Cx) (pins:List (Addr × Obj)) (D:Ends) (f:Flow) (s':Shared):Prop:=
 match f with
 | .next=>∃ σ' H',Inv X pins σ' H' s'∧D.nx σ' H'
 | .brk=>∃ σ' H',Inv X pins σ' H' s'∧D.bk σ' H'
 | .cont=>∃ σ' H',Inv X pins σ' H' s'∧D.ct σ' H'
 | .ret u=>∃ v σ' H',Inv X pins σ' H' s'∧RelV v u∧D.rt v H'
def PE (X:Cx) (e:Expr) (t:TE):Prop:=
 ∀ (pins:List (Addr × Obj)) (s:Shared) (σ:St) (H:Hp) (Q:VK),Inv X pins σ H s→t σ H Q→wpAny (model X.prog X.w) X.A (eval e X.env) (EP X pins σ Q) X.xe s
def PT (X:Cx) (e:Expr) (t:TT):Prop:=
 ∀ (pins:List (Addr × Obj)) (s:Shared) (σ:St) (H:Hp) (Q:Bool→Hp→Prop),Inv X pins σ H s→t σ H Q→wpAny (model X.prog X.w) X.A (isTrue e X.env (eval e X.env)) (TP X pins σ Q) X.xe s
def PW (X:Cx) (e:Expr) (t:TT):Prop:=
 ∀ (whole:Sem Value) (pins:List (Addr × Obj)) (s:Shared) (σ:St) (H:Hp) (Q:Bool→Hp→Prop),Inv X pins σ H s→t σ H Q→wpAny (model X.prog X.w) X.A (isTrue e X.env whole) (TP X pins σ Q) X.xe s
theorem PW.pt {X:Cx} {e:Expr} {t:TT} (h:PW X e t):PT X e t:=h _
def PA (X:Cx) (es:List Expr) (t:TA):Prop:=
 ∀ (pos:Pos) (pins:List (Addr × Obj)) (s:Shared) (σ:St) (H:Hp) (Q:List V→Hp→Prop),Inv X pins σ H s→t σ H Q→wpAny (model X.prog X.w) X.A (spliced (backTo pos (starEach es X.env))) (AP X pins σ Q) X.xe s
def PS (X:Cx) (st:Stmt) (t:TS):Prop:=
 ∀ (pins:List (Addr × Obj)) (s:Shared) (σ:St) (H:Hp) (D:Ends),Inv X pins σ H s→t D σ H→wpAny (model X.prog X.w) X.A (exec st X.env) (SP X pins D) X.xe s
def PSs (X:Cx) (st:List Stmt) (t:TS):Prop:=
 ∀ (pins:List (Addr × Obj)) (s:Shared) (σ:St) (H:Hp) (D:Ends),Inv X pins σ H s→t D σ H→wpAny (model X.prog X.w) X.A (execs st X.env) (SP X pins D) X.xe s
theorem thn {α:Type} {t:Sem α} {Q Q':α→Shared→Prop} {M:Model} {A:Around} {E:Value→Shared→Prop} {s:Shared} (h:wpAny M A t Q E s) (hQ:∀ a s,Q a s→Q' a s):wpAny M A t Q' E s:=wpAny_mono h hQ fun _ _ x=>x
end L2
namespace L2
open PySem PySem.Spec PyProof.Rows
section
variable {X:Cx}
def CY (i:Nat):TE:=fun σ H Q=>∃ v,σ[i]?=some (some v)∧Q v H
def tC (v:V):TE:=fun _ H Q=>Q v H
theorem Bb {i:Nat} {x:Str} {pos:Pos} (hN:X.N[i]?=some x) (hv:Vis X.env.scope x) (hd:autoParam ((x == ("__debug__":Str))=false) Au.h2._auto_1) (hcd:autoParam ((x == ("__classdict__":Str))=false) Au.h2._auto_1):PE X (.Name x pos) (CY i):=by
 intro pins s σ H Q I h
 obtain ⟨v,e,h⟩:=h
 obtain ⟨m,hn,hl⟩:=I.loc
 obtain ⟨u,r,l⟩:=hl i x v hN e hv
 have fin:EP X pins σ Q u s:=⟨v,H,I,r,h⟩
 rcases l with ⟨hk,hm⟩ | ⟨hk,c,hc,hcell⟩
 ·exact wpAny_Name (wpAny_loadName_local I.ok.kind hk hn hm fin) hd
 ·rcases hk with hk | hk
  ·exact wpAny_Name (wpAny_loadName_cell I.ok.kind hk hc hcell fin) hd
  ·exact wpAny_Name (wpAny_loadName_free I.ok.kind hk hc hcell fin hcd) hd
theorem Bc {i j pos}:PE X (.Constant (.int i) j pos) (tC (.int i)):=fun _ _ _ H _ I h=>wpAny_Constant_int ⟨.int i,H,I.tok _,⟨_,rfl⟩,h⟩
theorem CZ {b j pos}:PE X (.Constant (.bool b) j pos) (tC (.bl b)):=fun _ _ _ H _ I h=>Constant_bool ⟨.bl b,H,I,rfl,h⟩
theorem Bd {j pos}:PE X (.Constant .none j pos) (tC .non):=fun _ _ _ H _ I h=>Constant_none ⟨.non,H,I,rfl,h⟩
def Gl (X:Cx) (x:Str):Prop:=X.env.kindOf x=some .globalImplicit
theorem uc {E:Value→Shared→Prop} {pins:List (Addr × Obj)} {s:Shared} {σ:St} {H:Hp} {x:Str} {u:Value} {pos:Pos} {Q:Value→Shared→Prop} (I:Inv X pins σ H s) (hg:Gl X x) (hm:X.mg x=some u) (h:Q u s)
  (hd:autoParam ((x == ("__debug__":Str))=false) Au.h2._auto_1):wpAny (model X.prog X.w) X.A (eval (.Name x pos) X.env) Q E s:=
 Calls.Name_function_global I.ok.kind hg (Calls.loadGlobal_global (by rw [I.ok.glob]; exact I.mod.glob.keeps I.bk) hm h) hd
theorem iS {E:Value→Shared→Prop} {pins:List (Addr × Obj)} {s:Shared} {σ:St} {H:Hp} {x:Str} {u:Value} {pos:Pos} {Q:Value→Shared→Prop} (I:Inv X pins σ H s) (hg:Gl X x) (hm:X.mg x=none) (hv:bootBuiltins x=some u) (h:Q u s)
  (hn:autoParam (x ≠ "__name__") Au.h2._auto_1) (hd:autoParam ((x == ("__debug__":Str))=false) Au.h2._auto_1):wpAny (model X.prog X.w) X.A (eval (.Name x pos) X.env) Q E s:=by
 obtain ⟨mb,h1,h2⟩:=I.mod.blt
 exact Calls.Name_function_global I.ok.kind hg (Calls.loadGlobal_builtin (by rw [I.ok.glob]; exact I.mod.glob.keeps I.bk) hm (by rw [I.ok.blt]; exact h1.keeps I.bk) ((h2 x hn).trans hv) h) hd
theorem ud {x:Str} {v:V} {u:Value} {pos:Pos} (hg:Gl X x) (hm:X.mg x=some u) (r:RelV v u) (hd:autoParam ((x == ("__debug__":Str))=false) Au.h2._auto_1):PE X (.Name x pos) (tC v):=
 fun _ _ _ H _ I h=>uc I hg hm ⟨v,H,I,r,h⟩ hd
theorem yR {x:Str} {v:V} {u:Value} {pos:Pos} (hg:Gl X x) (hm:X.mg x=none) (hv:bootBuiltins x=some u) (r:RelV v u) (hn:autoParam (x ≠ "__name__") Au.h2._auto_1) (hd:autoParam ((x == ("__debug__":Str))=false) Au.h2._auto_1):PE X (.Name x pos) (tC v):=
 fun _ _ _ H _ I h=>iS I hg hm hv ⟨v,H,I,r,h⟩ hn hd
variable {a b:Expr} {ta tb:TE} {pos:Pos}
def tB (t:TE):TT:=fun σ H Q=>t σ H fun x H1=>∃ c,x=.bl c∧Q c H1
theorem Be {e:Expr} {t:TE} (h:PE X e t) (he:autoParam (∀ whole,isTrue e X.env whole=(do let v ← whole; standAt e.pos; holding [v] (truthy v))) Au.h5._auto_1):PT X e (tB t):=by
 intro pins s σ H Q I hw
 refine isTrue_plain (thn (h pins s σ H _ I hw) fun v s1 zq=>?_) (he _)
 obtain ⟨x,H1,I1,r1,q1⟩:=zq
 obtain ⟨d,rfl,q⟩:=q1
 cases r1
 exact wpAny_truthy_bool ⟨H1,I1,q⟩
variable {tA tB':TT} {rest:List Expr}
def gY (t u:TT):TT:=fun σ H Q=>t σ H fun c H1=>if c=true then u σ H1 Q else Q false H1
def tOr (t u:TT):TT:=fun σ H Q=>t σ H fun c H1=>if c=true then Q true H1 else u σ H1 Q
def gp (t:TT):TT:=fun σ H Q=>t σ H fun c H1=>Q (!c) H1
theorem yS (ha:PT X a tA):PW X (.BoolOp .And [a] pos) tA:=by
 intro wh pins s σ H Q I h
 refine isTrue_and (thn (ha pins s σ H Q I h) fun c s1 e=>?_)
 cases c with
 | true=>exact isTrue_and_nil e
 | false=>exact e
theorem Bf (ha:PT X a tA):PW X (.BoolOp .Or [a] pos) tA:=by
 intro wh pins s σ H Q I h
 refine isTrue_or (thn (ha pins s σ H Q I h) fun c s1 e=>?_)
 cases c with
 | false=>exact isTrue_or_nil e
 | true=>exact e
theorem Bg (ha:PT X a tA) (hb:PW X (.BoolOp .And (b :: rest) pos) tB'):PW X (.BoolOp .And (a :: b :: rest) pos) (gY tA tB'):=by
 intro wh pins s σ H Q I h
 refine isTrue_and (thn (ha pins s σ H _ I h) fun c s1 zq=>?_)
 obtain ⟨H1,I1,q1⟩:=zq
 cases c with
 | true=>exact hb wh pins s1 σ H1 Q I1 q1
 | false=>exact ⟨H1,I1,q1⟩
theorem C0 (ha:PT X a tA) (hb:PW X (.BoolOp .Or (b :: rest) pos) tB'):PW X (.BoolOp .Or (a :: b :: rest) pos) (tOr tA tB'):=by
 intro wh pins s σ H Q I h
 refine isTrue_or (thn (ha pins s σ H _ I h) fun c s1 zq=>?_)
 obtain ⟨H1,I1,q1⟩:=zq
 cases c with
 | true=>exact ⟨H1,I1,q1⟩
 | false=>exact hb wh pins s1 σ H1 Q I1 q1
theorem Bh (ha:PT X a tA):PT X (.UnaryOp .Not a pos) (gp tA):=by
 intro pins s σ H Q I h
 exact isTrue_not (ha pins s σ H (fun c H1=>Q (!c) H1) I h)
def C1 (ta tb:TE):TE:=fun σ H Q=>ta σ H fun x H1=>∃ c,x=.bl c∧if c=true then tb σ H1 Q else Q (.bl false) H1
def C2 (ta:TE):TE:=fun σ H Q=>ta σ H fun x H1=>∃ c,x=.bl c∧Q (.bl (!c)) H1
theorem Bi {op} {t:TE} (h:PE X a t):PE X (.BoolOp op [a] pos) t:=fun pins s σ H Q I hw=>BoolOp_one (h pins s σ H Q I hw)
theorem Bj (ha:PE X a ta) (hb:PE X (.BoolOp .And (b :: rest) pos) tb):PE X (.BoolOp .And (a :: b :: rest) pos) (C1 ta tb):=by
 intro pins s σ H Q I h
 refine BoolOp_and (thn (ha pins s σ H _ I h) fun v s1 zq=>?_)
 obtain ⟨x,H1,I1,r1,q1⟩:=zq
 obtain ⟨c,rfl,q1⟩:=q1
 cases r1
 refine wpAny_truthy_bool ?_
 cases c with
 | true=>exact hb pins s1 σ H1 Q I1 q1
 | false=>exact ⟨.bl false,H1,I1,rfl,q1⟩
theorem Bk (ha:PE X a ta):PE X (.UnaryOp .Not a pos) (C2 ta):=by
 intro pins s σ H Q I h
 refine UnaryOp_ (thn (ha pins s σ H _ I h) fun v s1 zq=>?_)
 obtain ⟨x,H1,I1,r1,q1⟩:=zq
 obtain ⟨c,rfl,q1⟩:=q1
 cases r1
 exact not_of (wpAny_truthy_bool ⟨.bl (!c),H1,I1,rfl,q1⟩)
end
end L2
namespace L2
open PySem PySem.Spec PyProof.Rows
def SqL (K:PySem.W.Frag) (H:Hp) (a:Addr) (xs:List V):Prop:=
 Rd H a (.lst xs) ∨
  ∃ (o:Obj) (its:Array Value) (n:Nat),K.lookup a=some o∧o.cls=.type "list"∧o.dict=none∧o.data=.seq its n∧its.size≤sizeLine∧Vals xs its.toList
def SqT (K:PySem.W.Frag) (H:Hp) (a:Addr) (xs:List V):Prop:=
 Rd H a (.tup xs) ∨
  ∃ (o:Obj) (its:Array Value) (n:Nat),K.lookup a=some o∧o.cls=.type "tuple"∧o.data=.seq its n∧its.size≤sizeLine∧Vals xs its.toList
def D2:Value→Option V
 | .none=>some .non
 | .bool b=>some (.bl b)
 | .int i _=>some (.int i)
 | .str x _=>some (.str x)
 | .bytes b _=>some (.byt b)
 | .float b _=>some (.flt b)
 | .ref a=>some (.ref a)
 | .type n=>some (.ty n)
 | _=>none
theorem RelV.abs {x:V} {u:Value} (r:RelV x u):D2 u=some x:=by
 cases x with
 | non=>cases r; rfl
 | bl _=>cases r; rfl
 | int _=>obtain ⟨t,rfl⟩:=r; rfl
 | str _=>obtain ⟨t,rfl⟩:=r; rfl
 | byt _=>obtain ⟨t,rfl⟩:=r; rfl
 | flt _=>obtain ⟨t,rfl⟩:=r; rfl
 | ref _=>cases r; rfl
 | ty _=>cases r; rfl
theorem RelV.inj {x y:V} {u:Value} (r:RelV x u) (q:RelV y u):x=y:=Option.some.inj (r.abs.symm.trans q.abs)
theorem Vals.inj:∀ {xs ys:List V} {us:List Value},Vals xs us→Vals ys us→xs=ys
 | _,_,_,.nil,.nil=>rfl
 | _,_,_,.cons r t,.cons r' t'=>by rw [r.inj r',Vals.inj t t']
section
variable {X:Cx} {pins:List (Addr × Obj)} {σ:St} {H:Hp} {s:Shared} {a:Addr} {xs ys:List V}
theorem SqL.of {K:PySem.W.Frag} (h:H a=some (.lst xs)):SqL K H a xs:=.inl (.inl h)
theorem SqT.of {K:PySem.W.Frag} (h:H a=some (.tup xs)):SqT K H a xs:=.inl (.inl h)
theorem Inv.list (I:Inv X pins σ H s) (h:SqL X.K H a xs):∃ its:List Value,Vals xs its∧PlainL s.heap a its.toArray∧xs.length≤sizeLine:=by
 rcases h with h | ⟨o,its,n,hk,hc,hd,hs,hz,r⟩
 ·obtain ⟨z,its,n,r,e⟩:=h.ok I.hok
  exact ⟨its,r,⟨_,n,e,rfl,rfl,rfl⟩,z⟩
 ·refine ⟨its.toList,r,⟨o,n,I.kIn a o hk,hc,hd,by simpa using hs⟩,?_⟩
  have e:=r.length
  simp only [Array.length_toList] at e
  omega
theorem Inv.tuple (I:Inv X pins σ H s) (h:SqT X.K H a xs):∃ its:List Value,Vals xs its∧IsTup s.heap a its.toArray∧xs.length≤sizeLine:=by
 rcases h with h | ⟨o,its,n,hk,hc,hs,hz,r⟩
 ·obtain ⟨z,its,r,p⟩:=h.ok I.hok
  exact ⟨its,r,p,z⟩
 ·refine ⟨its.toList,r,⟨o,I.kIn a o hk,hc,n,by simpa using hs⟩,?_⟩
  have e:=r.length
  simp only [Array.length_toList] at e
  omega
theorem Inv.list_inj (I:Inv X pins σ H s) (h:SqL X.K H a xs) (h':SqL X.K H a ys):xs=ys:=by
 obtain ⟨its,r,⟨o,n,e,_,_,d⟩,_⟩:=I.list h
 obtain ⟨its',r',⟨o',n',e',_,_,d'⟩,_⟩:=I.list h'
 rw [e] at e'; cases e'
 rw [d] at d'
 injection d' with d1 _
 have:its=its':=by simpa using congrArg Array.toList d1
 subst this
 exact r.inj r'
theorem Inv.tuple_inj (I:Inv X pins σ H s) (h:SqT X.K H a xs) (h':SqT X.K H a ys):xs=ys:=by
 obtain ⟨its,r,⟨o,e,_,n,d⟩,_⟩:=I.tuple h
 obtain ⟨its',r',⟨o',e',_,n',d'⟩,_⟩:=I.tuple h'
 rw [e] at e'; cases e'
 rw [d] at d'
 injection d' with d1 _
 have:its=its':=by simpa using congrArg Array.toList d1
 subst this
 exact r.inj r'
end
abbrev Cx.wish (X:Cx) (E:Value→Shared→Prop):Cx:={ X with xe:=E }
abbrev Cx.nox (X:Cx):Cx:=X.wish fun _ _=>False
theorem Cx.Ok.wish {X:Cx} (ok:X.Ok) (E:Value→Shared→Prop):(X.wish E).Ok:=
 ⟨ok.mod,ok.kind,ok.glob,ok.blt,ok.above,ok.inj,ok.has,ok.cab,ok.hd,ok.frames,ok.stk,ok.exf,ok.bs,ok.bsz,ok.noex,ok.exfs,ok.funs,ok.frf⟩
theorem Cx.Ok.unwish {X:Cx} {E:Value→Shared→Prop} (ok:(X.wish E).Ok):X.Ok:=
 ⟨ok.mod,ok.kind,ok.glob,ok.blt,ok.above,ok.inj,ok.has,ok.cab,ok.hd,ok.frames,ok.stk,ok.exf,ok.bs,ok.bsz,ok.noex,ok.exfs,ok.funs,ok.frf⟩
section
variable {X:Cx} {pins:List (Addr × Obj)} {σ:St} {H:Hp} {s:Shared} {E:Value→Shared→Prop}
theorem Inv.wish (I:Inv X pins σ H s) (E:Value→Shared→Prop):Inv (X.wish E) pins σ H s:=⟨I.ok.wish E,I.os,I.bare,I.base,I.loc,I.cell,I.free,I.freeC,I.pin,I.hok,I.len⟩
theorem Inv.unwish (I:Inv (X.wish E) pins σ H s):Inv X pins σ H s:=⟨I.ok.unwish,I.os,I.bare,I.base,I.loc,I.cell,I.free,I.freeC,I.pin,I.hok,I.len⟩
theorem SP.unwish {D:Ends} {f:Flow} {s':Shared} (h:SP (X.wish E) pins D f s'):SP X pins D f s':=by
 cases f with
 | next=>obtain ⟨σ',H',I,q⟩:=h; exact ⟨σ',H',I.unwish,q⟩
 | brk=>obtain ⟨σ',H',I,q⟩:=h; exact ⟨σ',H',I.unwish,q⟩
 | cont=>obtain ⟨σ',H',I,q⟩:=h; exact ⟨σ',H',I.unwish,q⟩
 | ret u=>obtain ⟨v,σ',H',I,r,q⟩:=h; exact ⟨v,σ',H',I.unwish,r,q⟩
theorem PSs.nox {st:List Stmt} {t:TS} (h:PSs X.nox st t):PSs X st t:=fun pins s σ H D I hw=>
 wpAny_mono (h pins s σ H D (I.wish _) hw) (fun _ _ q=>q.unwish) fun _ _ z=>False.elim z
end
section
variable {X:Cx} {st:Stmt} {rest:List Stmt} {t u:TS} {e:Expr} {te:TE} {pos:Pos}
def C3:TS:=fun D σ H=>D.nx σ H
def D3 (t u:TS):TS:=fun D σ H=>t { D with nx:=u D } σ H
theorem yT:PSs X [] C3:=fun _ _ σ H _ I h=>wpAny_execs_nil ⟨σ,H,I,h⟩
theorem wI (h1:PS X st t) (h2:PSs X rest u):PSs X (st :: rest) (D3 t u):=by
 intro pins s σ H D I h
 refine wpAny_execs_cons (thn (h1 pins s σ H { D with nx:=u D } I h) fun f s1 q=>?_)
 cases f with
 | next=>
  obtain ⟨σ',H',I',q⟩:=q
  exact h2 pins s1 σ' H' D I' q
 | ret v=>exact q
 | brk=>exact q
 | cont=>exact q
theorem yU (h1:PS X st t):PSs X [st] t:=by
 intro pins s σ H D I h
 refine wpAny_execs_cons (thn (h1 pins s σ H D I h) fun f s1 q=>?_)
 cases f with
 | next=>exact wpAny_execs_nil q
 | ret v=>exact q
 | brk=>exact q
 | cont=>exact q
theorem Inv.quiet {pins:List (Addr × Obj)} {σ:St} {H:Hp} {s:Shared} (I:Inv X pins σ H s):interactive X.env=false:=by simp [interactive,I.ok.kind]
def C4 (te:TE):TS:=fun D σ H=>te σ H fun _ H1=>D.nx σ H1
theorem yV (he:PE X e te) (hs:autoParam (swapsWith e none pos.line X.env=pure false) Au.h1._auto_1):PS X (.Expr e pos) (C4 te):=by
 intro pins s σ H D I h
 exact wpAny_Expr_any (thn (he pins s σ H _ I h) fun v s1 zq=>ex5 zq fun x H1 I1 r1 q1=>⟨σ,H1,I1,q1⟩) I.quiet hs
def D4 (te:TE):TS:=fun D σ H=>te σ H D.rt
theorem Bl (he:PE X e te):PS X (.Return (some e) pos) (D4 te):=by
 intro pins s σ H D I h
 exact wpAny_Return_some (thn (he pins s σ H _ I h) fun v s1 zq=>ex5 zq fun x H1 I1 r1 q1=>⟨x,σ,H1,I1,r1,q1⟩)
def D5 (c:TT) (t u:TS):TS:=fun D σ H=>c σ H fun b H1=>if b=true then t D σ H1 else u D σ H1
theorem C5 {c:Expr} {a b:List Stmt} {tc:TT} (hc:PT X c tc) (ha:PSs X a t) (hb:PSs X b u):PS X (.If c a b pos) (D5 tc t u):=by
 intro pins s σ H D I h
 refine wpAny_If (thn (hc pins s σ H _ I h) fun d s1 zq=>?_)
 obtain ⟨H1,I1,q1⟩:=zq
 cases d with
 | true=>exact ha pins s1 σ H1 D I1 q1
 | false=>exact hb pins s1 σ H1 D I1 q1
def Bm:TS:=fun _ _ _=>False
theorem wJ:PS X st Bm:=fun _ _ _ _ _ _ h=>h.elim
end
abbrev TG:=V→St→Hp→(St→Hp→Prop)→Prop
abbrev TGs:=List V→St→Hp→(St→Hp→Prop)→Prop
def PG (X:Cx) (target:Expr) (t:TG):Prop:=
 ∀ (pins:List (Addr × Obj)) (s:Shared) (σ:St) (H:Hp) (v:V) (u:Value) (Q:St→Hp→Prop),Inv X pins σ H s→RelV v u→t v σ H Q→
  wpAny (model X.prog X.w) X.A (assign target X.env u) (fun _ s'=>∃ σ' H',Inv X pins σ' H' s'∧Q σ' H') X.xe s
def PGs (X:Cx) (ts:List Expr) (t:TGs):Prop:=
 ∀ (pins:List (Addr × Obj)) (s:Shared) (σ:St) (H:Hp) (vs:List V) (us:List Value) (Q:St→Hp→Prop),Inv X pins σ H s→Vals vs us→t vs σ H Q→
  wpAny (model X.prog X.w) X.A (assignInOrder ((assignEach ts X.env).map (·.2)) us) (fun _ s'=>∃ σ' H',Inv X pins σ' H' s'∧Q σ' H') X.xe s
abbrev yW:=V→V→V→Hp→(Hp→Prop)→Prop
def ou (X:Cx) (t:yW):Prop:=
 ∀ (pins:List (Addr × Obj)) (s:Shared) (σ:St) (H:Hp) (o i v:V) (ov iv u:Value) (Q:Hp→Prop),Inv X pins σ H s→RelV o ov→RelV i iv→RelV v u→t o i v H Q→
  wpAny (model X.prog X.w) X.A (setItem ov iv u) (fun _ s'=>∃ H',Inv X pins σ H' s'∧Q H') X.xe s
section
variable {X:Cx} {pos:Pos}
def AU (i:Nat):TG:=fun v σ H Q=>Q (σ.set i (some v)) H
theorem yX {i:Nat} {x:Str} (hN:X.N.Nodup) (hi:X.N[i]?=some x) (hx:Loc X.env.scope x) (hf:X.fn x=true ∨ X.env.scope.names.lookup x=some .local):PG X (.Name x pos) (AU i):=by
 intro pins s σ H v u Q I r h
 exact wpAny_assign_Name (jd I hN hi hx r (fun s' I'=>⟨_,H,I',h⟩) hf)
def D6:TGs:=fun vs σ H Q=>vs=[]∧Q σ H
def C6 (t:TG) (u:TGs):TGs:=fun vs σ H Q=>∃ v r,vs=v :: r∧t v σ H fun σ' H'=>u r σ' H' Q
theorem yY:PGs X [] D6:=by
 intro pins s σ H vs us Q I r h
 obtain ⟨e,h⟩:=h
 subst e
 cases r
 exact assignInOrder_nil ⟨σ,H,I,h⟩
theorem wK {e:Expr} {es:List Expr} {t:TG} {u:TGs} (h1:PG X e t) (h2:PGs X es u)
  (hs:autoParam ((assignEach (e :: es) X.env).map (·.2)=assign e X.env :: (assignEach es X.env).map (·.2)) Au.h1._auto_1):PGs X (e :: es) (C6 t u):=by
 intro pins s σ H vs us Q I r h
 obtain ⟨v,vr,e1,h⟩:=h
 subst e1
 cases r with
 | cons r rr=>
  rw [hs]
  refine assignInOrder_cons (thn (h1 pins s σ H _ _ _ I r h) fun _ s1 zq=>?_)
  obtain ⟨σ1,H1,I1,q1⟩:=zq
  exact h2 pins s1 σ1 H1 _ _ Q I1 rr q1
def D7 (K:PySem.W.Frag) (n:Nat) (t:TGs):TG:=fun v σ H Q=>∃ a xs,v=.ref a∧SqT K H a xs∧xs.length=n∧t xs σ H Q
theorem Bn {es:List Expr} {k:Nat} {t:TGs} {n:Nat} (hc:X.calm=true) (h:PGs X es t)
  (hn:autoParam ((assignEach es X.env).length=n) Au.h1._auto_1) (hst:autoParam ((assignEach es X.env).findIdx? (·.1)=none) Au.h1._auto_1):PG X (.Tuple es k pos) (D7 X.K n t):=by
 intro pins s σ H v u Q I r hw
 obtain ⟨a,xs,e1,hq,hl,hw⟩:=hw
 subst e1
 cases r
 obtain ⟨its,rv,ht,hz⟩:=I.tuple hq
 refine assign_Tuple_tuple (I.ok.hd hc) ht (by simp [hn,← hl,rv.length]) hst fun h' hx=>?_
 have I1:Inv X pins σ H { s with heap:=h' }:=I.kept (t':=s.toks) fun b o e=>hx b o (Nat.ne_of_lt (Heap.lt_size e)) e
 exact h pins _ σ H xs _ Q I1 (by simpa using rv) hw
def D8 (to ti:TE) (t:yW):TG:=fun v σ H Q=>to σ H fun o H1=>ti σ H1 fun i H2=>t o i v H2 fun H3=>Q σ H3
theorem Bo {o i:Expr} {to ti:TE} {t:yW} (ho:PE X o to) (hi:PE X i ti) (hs:ou X t)
  (ha:autoParam (∀ v,assign (.Subscript o i pos) X.env v=(do
   let ov ← holding [v] (eval o X.env)
   let iv ← holding [v,ov] (eval i X.env)
   standAt pos
   holding [v,ov,iv] (setItem ov iv v)
   release [v,ov,iv] [])) Au.h5._auto_1):PG X (.Subscript o i pos) (D8 to ti t):=by
 intro pins s σ H v u Q I r h
 rw [ha]
 refine wpAny_bind (wpAny_holding (thn (ho pins s σ H _ I h) fun ov s1 zq=>?_))
 obtain ⟨x,H1,I1,r1,q1⟩:=zq
 refine wpAny_bind (wpAny_holding (thn (hi pins s1 σ H1 _ I1 q1) fun iv s2 zq=>?_))
 obtain ⟨y,H2,I2,r2,q2⟩:=zq
 refine wpAny_bind (wpAny_standAt (wpAny_bind (wpAny_holding (thn (hs pins s2 σ H2 x y v ov iv u _ I2 r1 r2 r q2) fun _ s3 zq=>?_))))
 obtain ⟨H3,I3,q3⟩:=zq
 exact wpAny_release ⟨σ,H3,I3,q3⟩
def C7 (te:TE) (g:TG):TS:=fun D σ H=>te σ H fun x H1=>g x σ H1 D.nx
theorem wL {tg e:Expr} {te:TE} {g:TG} (he:PE X e te) (hg:PG X tg g) (hs:autoParam (swapsWithSole [tg] e pos.line X.env=pure false) Au.h1._auto_1) (hw:autoParam (swappedStores [tg] e X.env=pure none) Au.h1._auto_1)
  (h1:autoParam ((assignEach [tg] X.env).map (·.2)=[assign tg X.env]) Au.h1._auto_1):PS X (.Assign [tg] e pos) (C7 te g):=by
 intro pins s σ H D I h
 refine wpAny_Assign_stores (thn (he pins s σ H _ I h) fun v s1 zq=>?_) hs hw
 obtain ⟨x,H1,I1,r1,q1⟩:=zq
 rw [h1]
 exact thn (hg pins s1 σ H1 x v _ I1 r1 q1) fun _ s2 q=>q
theorem Bp {i:Nat} {x:Str} {e:Expr} {te:TE} {pos':Pos} (hN:X.N.Nodup) (hi:X.N[i]?=some x) (hx:Loc X.env.scope x) (he:PE X e te) (hs:autoParam (swapsWith e (some (.Name x pos')) pos.line X.env=pure false) Au.h1._auto_1) (hf:X.fn x=true ∨ X.env.scope.names.lookup x=some .local):
  PS X (.Assign [.Name x pos'] e pos) (C7 te (AU i)):=by
 intro pins s σ H D I h
 refine wpAny_Assign_Name (thn (he pins s σ H _ I h) fun v s1 zq=>?_) hs
 obtain ⟨y,H1,I1,r1,q1⟩:=zq
 exact jd I1 hN hi hx r1 (fun s2 I2=>⟨_,H1,I2,q1⟩) hf
def D9 (i j:Nat) (ta:TA):TS:=fun D σ H=>ta σ H fun vs H1=>∃ v w,vs=[v,w]∧D.nx ((σ.set i (some v)).set j (some w)) H1
theorem Bq {i j:Nat} {x y:Str} {a b:Expr} {ta:TA} {px py pt:Pos} {kt k2 pt2} (hc:X.calm=true) (hN:X.N.Nodup) (hi:X.N[i]?=some x) (hj:X.N[j]?=some y) (hij:i ≠ j)
  (hx:X.env.scope.names.lookup x=some .local) (hy:X.env.scope.names.lookup y=some .local) (ha:PA X [a,b] ta)
  (hw:swappedStores [.Tuple [.Name x px,.Name y py] kt pt] (.Tuple [a,b] k2 pt2) X.env=pure (some [x,y]))
  (hs:autoParam (swapsWithSole [.Tuple [.Name x px,.Name y py] kt pt] (.Tuple [a,b] k2 pt2) pos.line X.env=pure false) Au.h1._auto_1):
  PS X (.Assign [.Tuple [.Name x px,.Name y py] kt pt] (.Tuple [a,b] k2 pt2) pos) (D9 i j ta):=by
 intro pins s σ H D I h
 rw [exec_Assign_arm]
 refine wpAny_bind (wpAny_standAt ?_)
 rw [hs]
 refine wpAny_bind (wpAny_pure ?_)
 rw [if_neg (by decide)]
 refine wpAny_bind (Tuple_ (thn (ha _ pins s σ H _ I h) fun us s1 zq=>?_))
 obtain ⟨vs,H1,I1,r1,q1⟩:=zq
 obtain ⟨v,w,e1,q1⟩:=q1
 subst e1
 obtain ⟨u1,u2,rfl,rv,rw'⟩:∃ u1 u2,us=[u1,u2]∧RelV v u1∧RelV w u2:=by
  cases r1 with
  | cons p q=>
   cases q with
   | cons p' q'=>
    cases q'
    exact ⟨_,_,rfl,p,p'⟩
 refine wpAny_newObj_type ?_ (by show 2≤sizeLine; decide)
 have I2:Inv X pins σ H1 { s1 with heap:=s1.heap.push { cls:=.type "tuple",data:=.seq [u1,u2].toArray } }:=I1.kept (t':=s1.toks) fun b o e=>Heap.get?_push_of_some _ e
 rw [hw]
 refine wpAny_bind (wpAny_pure ?_)
 show wpAny (model X.prog X.w) X.A (do rule "assign.swapped-stores"; let items ← unpackItems (.ref s1.heap.objs.size) 2 none; assignInOrder [fun v=>bindName X.env y v,fun v=>bindName X.env x v] items.reverse; pure Flow.next) _ _ _
 refine wpAny_bind (wpAny_rule (wpAny_bind (unpackItems_tuple (items:=#[u1,u2]) (I.ok.hd hc) (IsTup.new s1.heap _) fun h' hx'=>?_)))
 have I3:=I2.kept (h':=h') (t':=s1.toks) fun b o e=>hx' b o (Nat.ne_of_lt (Heap.lt_size e)) e
 show wpAny _ _ (assignInOrder [fun v=>bindName X.env y v,fun v=>bindName X.env x v] [u2,u1] >>= fun _=>pure Flow.next) _ _ _
 refine wpAny_bind (assignInOrder_cons (wpAny_bindName (jd I3 hN hj (.inl hy) rw' (fun s2 I4=>?_) (.inr hy))))
 refine assignInOrder_cons (wpAny_bindName (jd I4 hN hi (.inl hx) rv (fun s3 I5=>assignInOrder_nil (wpAny_pure ?_)) (.inr hx)))
 rw [List.set_comm _ _ (Ne.symm hij)] at I5
 exact ⟨_,H1,I5,q1⟩
end
section
variable {X:Cx} {pos:Pos}
def Br (c:TT) (tb:TS):TS:=fun D σ H=>∃ W:Nat→St→Hp→Prop,(∃ m,W m σ H)∧∀ m σ H,W m σ H→
 c σ H fun b H1=>if b=true then ∃ N:St→Hp→Prop,(∀ σ' H',N σ' H'→∃ m',m' < m∧W m' σ' H')∧tb { D with nx:=N,ct:=N,bk:=D.nx } σ H1 else D.nx σ H1
theorem wM {c:Expr} {body:List Stmt} {tc:TT} {tb:TS} (hp:PassesOwn (model X.prog X.w) X.A X.env X.xe) (hc:PT X c tc) (hb:PSs X body tb):PS X (.While c body [] pos) (Br tc tb):=by
 intro pins s σ H D I h
 obtain ⟨W,⟨m0,w0⟩,turn⟩:=h
 refine wpAny_While (codeAny_whileLoop (fun n s'=>∃ σ' H',Inv X pins σ' H' s'∧W n σ' H') ?_ m0 ⟨σ,H,I,w0⟩)
 rintro n s1 ⟨σ1,H1,I1,w1⟩
 refine wpAny_passesOwn hp (thn (hc pins s1 σ1 H1 _ I1 (turn n σ1 H1 w1)) fun b s2 zq=>?_)
 obtain ⟨H2,I2,q2⟩:=zq
 cases b with
 | true=>
  obtain ⟨N,hN,q2⟩:=q2
  rw [if_pos rfl]
  refine wpAny_passesOwn hp (thn (hb pins s2 σ1 H2 _ I2 q2) fun f s3 q3=>?_)
  cases f with
  | next=>
   obtain ⟨σ3,H3,I3,n3⟩:=q3
   obtain ⟨m',hm,w3⟩:=hN σ3 H3 n3
   exact ⟨m',hm,σ3,H3,I3,w3⟩
  | cont=>
   obtain ⟨σ3,H3,I3,n3⟩:=q3
   obtain ⟨m',hm,w3⟩:=hN σ3 H3 n3
   exact ⟨m',hm,σ3,H3,I3,w3⟩
  | brk=>exact q3
  | ret v=>exact q3
 | false=>
  rw [if_neg Bool.false_ne_true]
  exact wpAny_execs_nil ⟨σ1,H2,I2,q2⟩
end
set_option genInjectivity false in
structure It where
 go:Nat→Hp→Prop
 yld:Nat→Hp→V→Hp→Prop
 stop:Nat→Hp→Prop
def FpOk (X:Cx) (pins:List (Addr × Obj)) (H:Hp) (b:Addr):Prop:=
 H b=none∧b ≠ X.env.locals∧b ∉ X.fs∧(b ∈ X.ex ∨ X.s₀.heap.objs.size≤b)∧(∀ x c,X.env.cells.lookup x=some c→c ≠ b)∧∀ p ∈ X.pn ++ pins,p.1 ≠ b
theorem Inv.fpOk {X:Cx} {pins:List (Addr × Obj)} {σ:St} {H H':Hp} {s:Shared} {b:Addr} (I:Inv X pins σ H s) (hb:s.heap.objs.size≤b) (hn:H' b=none):FpOk X pins H' b:=by
 refine ⟨hn,Nat.ne_of_gt (Nat.lt_of_lt_of_le I.lt hb),I.nofs hb,.inr (Nat.le_trans I.sz hb),fun x c e z=>?_,fun p hp z=>?_⟩
 ·obtain ⟨v,q⟩:=I.cell x c e
  exact absurd (Nat.lt_of_lt_of_le q.lt (by rw [z]; exact hb)) (Nat.lt_irrefl _)
 ·exact absurd (Nat.lt_of_lt_of_le (Heap.lt_size (I.pin p hp).1) (by rw [z]; exact hb)) (Nat.lt_irrefl _)
def QtH (X:Cx):Prop:=X.A.handled=none ∨ ∃ a o u,X.A.handled=some (.ref a)∧X.H₀ a=some (.frz o u)∧ZO o
def Cd (qb:Bool) (X:Cx):Prop:=X.calm=true ∨ (qb=true∧QtH X)
theorem Cd.cm {X:Cx} (h:Cd false X):X.calm=true:=h.elim id fun z=>nomatch z.1
theorem Inv.qt {X:Cx} {pins:List (Addr × Obj)} {σ:List (Option V)} {H:Hp} {s:Shared} {qb:Bool} (I:Inv X pins σ H s) (h:Cd qb X):X.A.handled=none ∨ ∃ a,X.A.handled=some (.ref a)∧s.heap.Zat a:=by
 rcases h with h | ⟨_,h | ⟨a,o,u,e,q,z⟩⟩
 ·exact .inl (I.ok.hd h)
 ·exact .inl h
 ·exact .inr ⟨a,e,o,(I.hok a _ (I.base.frzs a o u q)).1,z⟩
structure Turn (qb:Bool) (P:Program) (w:World) (K:PySem.W.Frag) (tg:Expr) (J:It) (fp:List Addr) (it:Addr) (tn:Nat→Heap→Prop):Prop where
 mem:it ∈ fp
 obj:∀ i h,tn i h→∀ b ∈ fp,∃ o,h.get? b=some o∧∀ v,o.data ≠ .cell v
 keep:∀ i h h',tn i h→(∀ b ∈ fp,∀ o,h.get? b=some o→h'.get? b=some o)→tn i h'
 item:∀ (X:Cx),X.prog=P→X.w=w→X.K=K→Cd qb X→∀ (i:Nat) (pins:List (Addr × Obj)) (s:Shared) (σ:St) (H:Hp) (E:Value→Shared→Prop),Inv X pins σ H s→(∀ b ∈ fp,FpOk X pins H b)→tn i s.heap→J.go i H→
  wpAny (model P w) X.A (pyNext (.ref it)) (fun r s1=>∃ u,r=some u∧
   wpAny (model P w) X.A (letOwnedTupleGo tg (.ref it) u) (fun _ s2=>∃ x H',Inv X pins σ H' s2∧RelV x u∧J.yld i H x H'∧tn (i + 1) s2.heap∧∀ b ∈ fp,H' b=none) E s1) E s
 done:∀ (X:Cx),X.prog=P→X.w=w→X.K=K→Cd qb X→∀ (i:Nat) (pins:List (Addr × Obj)) (s:Shared) (σ:St) (H:Hp) (E:Value→Shared→Prop),Inv X pins σ H s→(∀ b ∈ fp,FpOk X pins H b)→tn i s.heap→J.stop i H→
  wpAny (model P w) X.A (pyNext (.ref it)) (fun r s1=>r=none∧Inv X pins σ H s1) E s
 self:∀ (A:Around) (i:Nat) (s:Shared) (Q:Value→Shared→Prop) (E:Value→Shared→Prop),tn i s.heap→Q (.ref it) s→wpAny (model P w) A (pyIter (.ref it)) Q E s
abbrev TI:=St→Hp→(It→Hp→Prop)→Prop
def Bt (qb:Bool) (X:Cx) (pins:List (Addr × Obj)) (σ:St) (tg:Expr) (R:It→Hp→Prop) (itv:Value) (s2:Shared):Prop:=
 ∃ (it:Addr) (fp:List Addr) (tn:Nat→Heap→Prop) (J:It) (H':Hp),itv=.ref it∧Inv X pins σ H' s2∧Turn qb X.prog X.w X.K tg J fp it tn∧tn 0 s2.heap∧(∀ b ∈ fp,FpOk X pins H' b)∧R J H'
def PIb (qb:Bool) (X:Cx) (tg iter:Expr) (wi:TI):Prop:=
 ∀ (pins:List (Addr × Obj)) (s:Shared) (σ:St) (H:Hp) (R:It→Hp→Prop),Inv X pins σ H s→wi σ H R→
  wpAny (model X.prog X.w) X.A (eval iter X.env) (fun v s1=>wpAny (model X.prog X.w) X.A (pyIter v) (Bt qb X pins σ tg R) X.xe s1) X.xe s
abbrev PIE:=Bt false
abbrev PI:=PIb false
theorem ue {M:Model} {A:Around} {E:Value→Shared→Prop} {s:Shared} {tg:Expr} {it:Addr} {u:Value} {o:Obj} {n:String} {vs:Array Value} {Q:Unit→Shared→Prop} (ho:s.heap.get? it=some o) (hc:o.cls=.type n) (hd:o.data=.fields vs)
    (hn:["enumerate","zip","dict_itemiterator","dict_reverseitemiterator","odict_iterator","itertools.zip_longest","itertools.pairwise"].contains n=false) (hQ:Q () s):wpAny M A (letOwnedTupleGo tg (.ref it) u) Q E s:=by
  unfold letOwnedTupleGo
  cases tg <;> first
    | exact wpAny_pure hQ
    | (cases u <;> first
        | exact wpAny_pure hQ
        | (refine wpAny_bind (wpAny_load ho ?_)
           rw [hc,hd]
           show wpAny M A (if (["enumerate","zip","dict_itemiterator","dict_reverseitemiterator","odict_iterator","itertools.zip_longest","itertools.pairwise"].contains n && vs[0]? == some (rawInt _))=true then _ else _) Q E s
           rw [if_neg (by intro h; rw [hn,Bool.false_and] at h; cases h)]
           exact wpAny_pure hQ))
def Itl (K:PySem.W.Frag) (a:Addr):It:=
 ⟨fun i H=>∃ xs x,SqL K H a xs∧xs[i]?=some x,fun i H x H'=>H'=H∧∀ xs,SqL K H a xs→xs[i]?=some x,fun i H=>∃ xs,SqL K H a xs∧xs.length≤i⟩
def Itt (K:PySem.W.Frag) (a:Addr):It:=
 ⟨fun i H=>∃ xs x,SqT K H a xs∧xs[i]?=some x,fun i H x H'=>H'=H∧∀ xs,SqT K H a xs→xs[i]?=some x,fun i H=>∃ xs,SqT K H a xs∧xs.length≤i⟩
def Itr (lo:Int) (n:Nat):It:=⟨fun i _=>i < n,fun i H x H'=>H'=H∧x=.int (lo + i),fun i _=>n≤i⟩
theorem m8 {P:Program} {w:World} {K:PySem.W.Frag} {tg:Expr} (a it:Addr):Turn false P w K tg (Itl K a) [it] it (fun i h=>h.IsListIter it a i) where
 mem:=by simp
 obj:=fun i h st b hb=>by
  have e:b=it:=by simpa using hb
  subst e
  obtain ⟨o,e,c,d⟩:=st
  exact ⟨o,e,fun v z=>by rw [d] at z; cases z⟩
 keep:=fun i h h' st k=>st.at fun o e=>k it (by simp) o e
 item:=by
  intro X hP hw hK hc i pins s σ H E I hf st hg
  subst hP hw hK
  obtain ⟨xs,x,hq,hx⟩:=hg
  obtain ⟨its,rv,p,hz⟩:=I.list hq
  obtain ⟨u,hu,ru⟩:=rv.get hx
  obtain ⟨f0,f1,f2,f3,f4,f5⟩:=hf it (by simp)
  refine wpAny_pyNext_list_item st p.isList (x:=u) (by simpa using hu) fun h' st' sb=>?_
  have I1:Inv X pins σ H { s with heap:=h' }:=I.turned (t':=s.toks) (fun b o hb e=>(sb.2 b hb).trans e) f0 f1 f3 f4 f5
  obtain ⟨o,e,c,d⟩:=id st'
  exact ⟨u,rfl,ue (s:={ s with heap:=h' }) e c d (by decide) ⟨x,H,I1,ru,⟨rfl,fun ys hy=>by rw [I.list_inj hy hq]; exact hx⟩,st',fun b hb=>(hf b hb).1⟩⟩
 done:=by
  intro X hP hw hK hc i pins s σ H E I hf st hg
  subst hP hw hK
  obtain ⟨xs,hq,hx⟩:=hg
  obtain ⟨its,rv,p,hz⟩:=I.list hq
  obtain ⟨f0,f1,f2,f3,f4,f5⟩:=hf it (by simp)
  have hl:=rv.length
  exact wpAny_pyNext_list_end (I.ok.hd hc.cm) st p.isList (by simp; omega) fun h' eb=>⟨rfl,I.turned (t':=s.toks) (fun b o hb e=>eb b o hb e) f0 f1 f3 f4 f5⟩
 self:=fun _ _ _ _ _ st h=>wpAny_pyIter_listiter st h
theorem sj {P:Program} {w:World} {K:PySem.W.Frag} {tg:Expr} (a it:Addr):Turn false P w K tg (Itt K a) [it] it (fun i h=>h.IsTupleIter it a i) where
 mem:=by simp
 obj:=fun i h st b hb=>by
  have e:b=it:=by simpa using hb
  subst e
  obtain ⟨o,e,c,d⟩:=st
  exact ⟨o,e,fun v z=>by rw [d] at z; cases z⟩
 keep:=fun i h h' st k=>st.at fun o e=>k it (by simp) o e
 item:=by
  intro X hP hw hK hc i pins s σ H E I hf st hg
  subst hP hw hK
  obtain ⟨xs,x,hq,hx⟩:=hg
  obtain ⟨its,rv,p,hz⟩:=I.tuple hq
  obtain ⟨u,hu,ru⟩:=rv.get hx
  obtain ⟨f0,f1,f2,f3,f4,f5⟩:=hf it (by simp)
  refine wpAny_pyNext_tuple_item st (show s.heap.IsTuple a its.toArray from p) (x:=u) (by simpa using hu) fun h' st' sb=>?_
  have I1:Inv X pins σ H { s with heap:=h' }:=I.turned (t':=s.toks) (fun b o hb e=>(sb.2 b hb).trans e) f0 f1 f3 f4 f5
  obtain ⟨o,e,c,d⟩:=id st'
  exact ⟨u,rfl,ue (s:={ s with heap:=h' }) e c d (by decide) ⟨x,H,I1,ru,⟨rfl,fun ys hy=>by rw [I.tuple_inj hy hq]; exact hx⟩,st',fun b hb=>(hf b hb).1⟩⟩
 done:=by
  intro X hP hw hK hc i pins s σ H E I hf st hg
  subst hP hw hK
  obtain ⟨xs,hq,hx⟩:=hg
  obtain ⟨its,rv,p,hz⟩:=I.tuple hq
  obtain ⟨f0,f1,f2,f3,f4,f5⟩:=hf it (by simp)
  have hl:=rv.length
  exact wpAny_pyNext_tuple_end (I.ok.hd hc.cm) st (show s.heap.IsTuple a its.toArray from p) (by simp; omega) fun h' eb=>⟨rfl,I.turned (t':=s.toks) (fun b o hb e=>eb b o hb e) f0 f1 f3 f4 f5⟩
 self:=fun _ _ _ _ _ st h=>wpAny_pyIter_tupleiter st h
theorem sk {qb:Bool} {P:Program} {w:World} {K:PySem.W.Frag} {tg:Expr} (it:Addr) (lo:Int) (n:Nat):Turn qb P w K tg (Itr lo n) [it] it (fun i h=>IsRangeIter h it (lo + (i:Nat) * 1) ((n:Int) - (i:Nat)) 1) where
 mem:=by simp
 obj:=fun i h st b hb=>by
  have e:b=it:=by simpa using hb
  subst e
  exact ⟨_,st,fun v z=>by
   have z':Data.fields _=Data.cell v:=z
   cases z'⟩
 keep:=fun i h h' st k=>k it (by simp) _ st
 item:=by
  intro X hP hw hK hc i pins s σ H E I hf st hg
  subst hP hw hK
  obtain ⟨f0,f1,f2,f3,f4,f5⟩:=hf it (by simp)
  have hg':(i:Nat) < n:=hg
  refine wpAny_pyNext_range_item st (by omega) fun h' st' kk=>?_
  have I1:Inv X pins σ H { s with heap:=h',toks:=s.toks + 1 }:=I.turned (fun b o hb e=>(kk.2 b hb).trans e) f0 f1 f3 f4 f5
  have st2:IsRangeIter h' it (lo + ((i + 1:Nat):Int) * 1) ((n:Int) - ((i + 1:Nat):Int)) 1:=by
   have e1:lo + ((i + 1:Nat):Int) * 1=lo + (i:Nat) * 1 + 1:=by omega
   have e2:(n:Int) - ((i + 1:Nat):Int)=(n:Int) - (i:Nat) - 1:=by omega
   rw [e1,e2]; exact st'
  refine ⟨_,rfl,ue (s:={ s with heap:=h',toks:=s.toks + 1 }) (n:="range_iterator") st2 rfl rfl (by decide) ⟨.int (lo + i),H,I1,⟨s.toks,?_⟩,⟨rfl,rfl⟩,st2,fun b hb=>(hf b hb).1⟩⟩
  rw [Int.mul_one]
 done:=by
  intro X hP hw hK hc i pins s σ H E I hf st hg
  subst hP hw hK
  obtain ⟨f0,f1,f2,f3,f4,f5⟩:=hf it (by simp)
  have hg':n≤i:=hg
  rcases I.qt hc with hh | ⟨ha,hh,z⟩
  ·exact wpAny_pyNext_range_end hh st (by omega) fun h' eb=>⟨rfl,I.turned (t':=s.toks) (fun b o hb e=>eb b o hb e) f0 f1 f3 f4 f5⟩
  ·exact vA hh z st (by omega) fun h' eb=>⟨rfl,I.turned (t':=s.toks) (fun b o hb e=>eb b o hb e) f0 f1 f3 f4 f5⟩
 self:=fun _ _ _ _ _ st h=>wpAny_pyIter_rangeiter st h
end L2
namespace L2
open PySem PySem.Spec PyProof.Rows
section
variable {X:Cx} {tg:Expr}
def C8 (K:PySem.W.Frag) (tl:TE):TI:=fun σ H R=>tl σ H fun x H1=>∃ a,x=.ref a∧(∃ xs,SqL K H1 a xs)∧R (Itl K a) H1
def Ea (K:PySem.W.Frag) (tl:TE):TI:=fun σ H R=>tl σ H fun x H1=>∃ a,x=.ref a∧(∃ xs,SqT K H1 a xs)∧R (Itt K a) H1
theorem yZ {l:Expr} {tl:TE} (hl:PE X l tl):PI X tg l (C8 X.K tl):=by
 intro pins s σ H R I h
 refine thn (hl pins s σ H _ I h) fun v s1 zq=>?_
 obtain ⟨x,H1,I1,r1,q1⟩:=zq
 obtain ⟨a,e,⟨xs,hq⟩,q⟩:=q1
 subst e
 cases r1
 obtain ⟨its,rv,p,hz⟩:=I1.list hq
 refine wpAny_pyIter_list p.isList ?_
 refine ⟨s1.heap.objs.size,[s1.heap.objs.size],_,_,H1,rfl,I1.kept (t':=s1.toks) fun b o e=>Heap.get?_push_of_some _ e,m8 a _,⟨_,Heap.get?_push_size _ rfl,rfl,rfl⟩,fun b hb=>?_,q⟩
 have e:b=s1.heap.objs.size:=by simpa using hb
 subst e
 exact I1.fpOk (Nat.le_refl _) (I1.hok.fresh (Nat.le_refl _))
theorem Bu {l:Expr} {tl:TE} (hl:PE X l tl):PI X tg l (Ea X.K tl):=by
 intro pins s σ H R I h
 refine thn (hl pins s σ H _ I h) fun v s1 zq=>?_
 obtain ⟨x,H1,I1,r1,q1⟩:=zq
 obtain ⟨a,e,⟨xs,hq⟩,q⟩:=q1
 subst e
 cases r1
 obtain ⟨its,rv,p,hz⟩:=I1.tuple hq
 refine wpAny_pyIter_tuple (show s1.heap.IsTuple a its.toArray from p) ?_
 refine ⟨s1.heap.objs.size,[s1.heap.objs.size],_,_,H1,rfl,I1.kept (t':=s1.toks) fun b o e=>Heap.get?_push_of_some _ e,sj a _,⟨_,Heap.get?_push_size _ rfl,rfl,rfl⟩,fun b hb=>?_,q⟩
 have e:b=s1.heap.objs.size:=by simpa using hb
 subst e
 exact I1.fpOk (Nat.le_refl _) (I1.hok.fresh (Nat.le_refl _))
theorem wN {qb:Bool} {pins:List (Addr × Obj)} {σ:St} {H:Hp} {s:Shared} {R:It→Hp→Prop} {E:Value→Shared→Prop} {lo hi:Int} {t u v:Tok} {tk:Nat} (I:Inv X pins σ H s) (h1:-(2 ^ 62)≤lo) (h2:lo < 2 ^ 62) (h3:-(2 ^ 62)≤hi) (h4:hi < 2 ^ 62)
  (q:R (Itr lo (hi - lo).toNat) H):wpAny (model X.prog X.w) X.A (pyIter (.ref s.heap.objs.size)) (Bt qb X pins σ tg R) E { s with heap:=s.heap.push { cls:=.type "range",data:=.fields #[.int lo t,.int hi u,.int 1 v] },toks:=tk }:=by
 refine wpAny_pyIter_range (IsRange.new ..) (small_one h1 h2 h3 h4) ?_
 have I1:Inv X pins σ H { s with heap:=s.heap.push { cls:=.type "range",data:=.fields #[.int lo t,.int hi u,.int 1 v] },toks:=tk }:=I.kept fun b o e=>Heap.get?_push_of_some _ e
 refine ⟨(s.heap.push { cls:=.type "range",data:=.fields #[.int lo t,.int hi u,.int 1 v] }).objs.size,[(s.heap.push { cls:=.type "range",data:=.fields #[.int lo t,.int hi u,.int 1 v] }).objs.size],_,_,H,rfl,
  I1.kept (t':=tk) fun b o e=>Heap.get?_push_of_some _ e,sk _ lo (hi - lo).toNat,?_,fun b hb=>?_,q⟩
 ·have e1:lo + ((0:Nat):Int) * 1=lo:=by simp
  have e2:(((hi - lo).toNat:Nat):Int) - ((0:Nat):Int)=Builtin.Range.rangeSize lo hi 1:=by rw [rangeSize_one]; split <;> omega
  show IsRangeIter _ _ (lo + ((0:Nat):Int) * 1) ((((hi - lo).toNat:Nat):Int) - ((0:Nat):Int)) 1
  rw [e1,e2]
  exact Heap.get?_push_size _ rfl
 ·have e:b=(s.heap.push { cls:=.type "range",data:=.fields #[.int lo t,.int hi u,.int 1 v] }).objs.size:=by simpa using hb
  subst e
  exact I1.fpOk (Nat.le_refl _) (I1.hok.fresh (Nat.le_refl _))
def C9 (ta:TA):TI:=fun σ H R=>ta σ H fun vs H1=>∃ j:Int,vs=[.int j]∧-(2 ^ 62)≤j∧j < 2 ^ 62∧R (Itr 0 j.toNat) H1
theorem vF {qb:Bool} {a:Expr} {ta:TA} {p pos:Pos} (hg:Gl X "range") (hm:X.mg "range" = none) (ha:PA X [a] ta) (hs:autoParam (starEach [a] X.env=[(false,eval a X.env)]) Au.h1._auto_1):PIb qb X tg (.Call (.Name "range" p) [a] [] pos) (C9 ta):=by
 intro pins s σ H R I h
 refine Call_ (iS I hg hm boot_range (PyProof.Rows.callWith_type1 (thn (ha pos pins s σ H _ I h) fun us s1 zq=>?_) hs rfl))
 obtain ⟨vs,H1,I1,r1,q1⟩:=zq
 obtain ⟨j,e,q1,q2,q⟩:=q1
 subst e
 cases r1 with
 | cons r rr=>
  cases rr
  obtain ⟨t,rfl⟩:=r
  exact call_range_1 (wN I1 (by omega) (by omega) q1 q2 (by simpa using q))
def Eb (wi:TI) (g:TG) (tb:TS):TS:=fun D σ H=>wi σ H fun J H1=>∃ W:Nat→Nat→St→Hp→Prop,(∃ m,W 0 m σ H1)∧∀ i m σ H,W i m σ H→
 (J.stop i H∧D.nx σ H) ∨ (J.go i H∧∃ N:St→Hp→Prop,(∀ σ' H',N σ' H'→∃ m',m' < m∧W (i + 1) m' σ' H')∧∀ x H',J.yld i H x H'→g x σ H' fun σ2 H2=>tb { D with nx:=N,ct:=N,bk:=D.nx } σ2 H2)
def kS (fp:List Addr) (h:Heap):List (Addr × Obj):=fp.filterMap fun b=>(h.get? b).map fun o=>(b,o)
theorem gq {fp:List Addr} {h:Heap} {b:Addr} {o:Obj} (hb:b ∈ fp) (e:h.get? b=some o):(b,o) ∈ kS fp h:=List.mem_filterMap.mpr ⟨b,hb,by rw [e]; rfl⟩
theorem vG {fp:List Addr} {h:Heap} {p:Addr × Obj} (hp:p ∈ kS fp h):p.1 ∈ fp∧h.get? p.1=some p.2:=by
 obtain ⟨b,hb,e⟩:=List.mem_filterMap.mp hp
 cases q:h.get? b with
 | none=>rw [q] at e; cases e
 | some o=>
  rw [q] at e
  have e':(b,o)=p:=Option.some.inj e
  subst e'
  exact ⟨hb,q⟩
theorem Inv.pinned {pins:List (Addr × Obj)} {σ:St} {H:Hp} {s:Shared} {fp:List Addr} (I:Inv X pins σ H s) (hf:∀ b ∈ fp,FpOk X pins H b) (ho:∀ b ∈ fp,∃ o,s.heap.get? b=some o∧∀ v,o.data ≠ .cell v):Inv X (pins ++ kS fp s.heap) σ H s:=
 I.pins_of fun p hp=>(List.mem_append.mp hp).elim (fun z=>I.pin p (List.mem_append_right _ z)) fun z=>by
  obtain ⟨hb,e⟩:=vG z
  obtain ⟨f0,f1,f2,_⟩:=hf p.1 hb
  obtain ⟨o,e',d⟩:=ho p.1 hb
  rw [e] at e'; cases e'
  exact ⟨e,f0,f1,f2,d⟩
theorem Inv.unpinned {pins pl:List (Addr × Obj)} {σ:St} {H:Hp} {s:Shared} (I:Inv X (pins ++ pl) σ H s):Inv X pins σ H s:=I.pins_of fun p hp=>I.pin p (List.mem_append_right _ (List.mem_append_left _ hp))
theorem Bv {iter:Expr} {body:List Stmt} {wi:TI} {g:TG} {tb:TS} {pos:Pos} (hp:PassesOwn (model X.prog X.w) X.A X.env X.xe) (hc:X.calm=true) (hi:PI X tg iter wi) (hg:PG X tg g) (hb:PSs X body tb)
  (hs:autoParam (∀ x,foldedSetIterable iter X.env x=pure x) Au.h5._auto_1):PS X (.For tg iter body [] pos) (Eb wi g tb):=by
 intro pins s σ H D I h
 refine wpAny_For (thn (hi pins s σ H _ I h) fun v s1 h1=>thn h1 fun itv s2 h2=>?_) hs
 obtain ⟨it,fp,tn,J,H2,e,I2,T,st2,f2,W,⟨m0,w0⟩,turn⟩:=h2
 subst e
 -- what stays true of the iterator's objects through the loop
 have stat:∀ {H':Hp},(∀ b ∈ fp,H' b=none)→∀ b ∈ fp,FpOk X pins H' b:=fun hn b hb=>⟨hn b hb,(f2 b hb).2⟩
 refine codeAny_forLoop_any (fun n s'=>∃ i σ' H',Inv X pins σ' H' s'∧tn i s'.heap∧(∀ b ∈ fp,H' b=none)∧W i n σ' H') ?_ m0 ⟨0,σ,H2,I2,st2,fun b hb=>(f2 b hb).1,w0⟩
 rintro n s3 ⟨i,σ3,H3,I3,st3,fr3,w3⟩
 rcases turn i n σ3 H3 w3 with ⟨stop,qn⟩ | ⟨go,N,hN,step⟩
 ·refine wpAny_passesOwn hp (thn (T.done X rfl rfl rfl (.inl hc) i pins s3 σ3 H3 X.xe I3 (stat fr3) st3 stop) fun r s4 zq=>?_)
  obtain ⟨hr,I4⟩:=zq
  subst hr
  exact wpAny_execs_nil ⟨σ3,H3,I4,qn⟩
 ·refine wpAny_passesOwn hp (thn (T.item X rfl rfl rfl (.inl hc) i pins s3 σ3 H3 X.xe I3 (stat fr3) st3 go) fun r s4 zq=>?_)
  obtain ⟨u,hr,h4⟩:=zq
  subst hr
  refine wpAny_passesOwn hp (thn h4 fun _ s5 zq=>?_)
  obtain ⟨x,H5,I5,r5,y5,st5,fr5⟩:=zq
  have I5':=I5.pinned (stat fr5) (T.obj _ _ st5)
  refine wpAny_passesOwn hp (thn (hg _ s5 σ3 H5 x u _ I5' r5 (step x H5 y5)) fun _ s6 zq=>?_)
  obtain ⟨σ6,H6,I6,q6⟩:=zq
  refine wpAny_passesOwn hp (thn (hb _ s6 σ6 H6 _ I6 q6) fun f s7 q7=>?_)
  have again:∀ {σ7:St} {H7:Hp},Inv X (pins ++ kS fp s5.heap) σ7 H7 s7→N σ7 H7→∃ m,m < n∧∃ i σ' H',Inv X pins σ' H' s7∧tn i s7.heap∧(∀ b ∈ fp,H' b=none)∧W i m σ' H':=fun {σ7 H7} I7 n7=>by
   obtain ⟨m',hm,w7⟩:=hN σ7 H7 n7
   refine ⟨m',hm,i + 1,σ7,H7,I7.unpinned,T.keep _ _ _ st5 fun b hb o e=>(I7.pin (b,o) (List.mem_append_right _ (List.mem_append_right _ (gq hb e)))).1,fun b hb=>?_,w7⟩
   obtain ⟨o,e,d⟩:=T.obj _ _ st5 b hb
   exact (I7.pin (b,o) (List.mem_append_right _ (List.mem_append_right _ (gq hb e)))).2.1
  cases f with
  | next=>obtain ⟨σ7,H7,I7,n7⟩:=q7; exact again I7 n7
  | cont=>obtain ⟨σ7,H7,I7,n7⟩:=q7; exact again I7 n7
  | brk=>obtain ⟨σ7,H7,I7,q7⟩:=q7; exact ⟨σ7,H7,I7.unpinned,q7⟩
  | ret v=>obtain ⟨x7,σ7,H7,I7,r7,q7⟩:=q7; exact ⟨x7,σ7,H7,I7.unpinned,r7,q7⟩
end
end L2
namespace L2
open PySem PySem.Spec PyProof.Rows
abbrev R2:=V→V→Hp→VK→Prop
def OpR (X:Cx) (f:Value→Value→Sem Value) (r:R2):Prop:=
 ∀ (pins:List (Addr × Obj)) (s:Shared) (σ:St) (H:Hp) (x y:V) (v u:Value) (Q:VK),Inv X pins σ H s→RelV x v→RelV y u→r x y H Q→
  wpAny (model X.prog X.w) X.A (f v u) (EP X pins σ Q) X.xe s
def cI (X:Cx) (f:Value) (r:List V→Hp→VK→Prop):Prop:=
 ∀ (pins:List (Addr × Obj)) (s:Shared) (σ:St) (H:Hp) (xs:List V) (us:List Value) (Q:VK),Inv X pins σ H s→Vals xs us→r xs H Q→
  wpAny (model X.prog X.w) X.A (call f us) (EP X pins σ Q) X.xe s
def tOp (r:R2) (ta tb:TE):TE:=fun σ H Q=>ta σ H fun x H1=>tb σ H1 fun y H2=>r x y H2 Q
def rI (C:Int→Int→Prop) (g:Int→Int→V):R2:=fun x y H Q=>∃ i j,x=.int i∧y=.int j∧C i j∧Q (g i j) H
def rI0 (g:Int→Int→V):R2:=fun x y H Q=>∃ i j,x=.int i∧y=.int j∧Q (g i j) H
section
variable {X:Cx} {a b c:Expr} {ta tb tc:TE} {pos:Pos}
theorem Bw (ha:PE X a ta) (hb:PE X b tb) {pins:List (Addr × Obj)} {s:Shared} {σ:St} {H:Hp} {R:V→V→Hp→Prop} (I:Inv X pins σ H s)
  (h:ta σ H fun x H1=>tb σ H1 fun y H2=>R x y H2) {Q:Value→Shared→Prop} {f:Value→Value→Sem Value}
  (hf:∀ v u s2 x y H2,Inv X pins σ H2 s2→RelV x v→RelV y u→R x y H2→wpAny (model X.prog X.w) X.A (f v u) Q X.xe s2):
  wpAny (model X.prog X.w) X.A (eval a X.env) (fun v s₁=>wpAny (model X.prog X.w) X.A (eval b X.env) (fun u s₂=>wpAny (model X.prog X.w) X.A (f v u) Q X.xe s₂) X.xe s₁) X.xe s:=by
 refine thn (ha pins s σ H _ I h) fun v s1 zq=>?_
 obtain ⟨x,H1,I1,r1,q1⟩:=zq
 refine thn (hb pins s1 σ H1 _ I1 q1) fun u s2 zq=>?_
 obtain ⟨y,H2,I2,r2,q2⟩:=zq
 exact hf v u s2 x y H2 I2 r1 r2 q2
theorem Dc {op:Operator} {r:R2} (ho:OpR X (binaryOp op) r) (ha:PE X a ta) (hb:PE X b tb):PE X (.BinOp a op b pos) (tOp r ta tb):=by
 intro pins s σ H Q I h
 exact wpAny_BinOp (Bw ha hb I h fun v u s2 x y H2 I2 rx ry q=>ho pins s2 σ H2 x y v u Q I2 rx ry q)
theorem opI {f:Value→Value→Sem Value} {C:Int→Int→Prop} {g:Int→Int→Int}
  (rule:∀ (i j:Int) (t u:Tok) (s:Shared) (Q:Value→Shared→Prop) (E:Value→Shared→Prop),C i j→Q (.int (g i j) s.toks) { s with toks:=s.toks + 1 }→wpAny (model X.prog X.w) X.A (f (.int i t) (.int j u)) Q E s):
  OpR X f (rI C fun i j=>.int (g i j)):=by
 intro pins s σ H x y v u Q I rx ry h
 obtain ⟨i,j,rfl,rfl,hc,q⟩:=h
 obtain ⟨t,rfl⟩:=rx
 obtain ⟨t',rfl⟩:=ry
 exact rule i j t t' s _ _ hc ⟨.int (g i j),H,I.tok _,⟨_,rfl⟩,q⟩
theorem Dd {f:Value→Value→Sem Value} {g:Int→Int→Int}
  (rule:∀ (i j:Int) (t u:Tok) (s:Shared) (Q:Value→Shared→Prop) (E:Value→Shared→Prop),Q (.int (g i j) s.toks) { s with toks:=s.toks + 1 }→wpAny (model X.prog X.w) X.A (f (.int i t) (.int j u)) Q E s):
  OpR X f (rI0 fun i j=>.int (g i j)):=by
 intro pins s σ H x y v u Q I rx ry h
 obtain ⟨i,j,rfl,rfl,q⟩:=h
 obtain ⟨t,rfl⟩:=rx
 obtain ⟨t',rfl⟩:=ry
 exact rule i j t t' s _ _ ⟨.int (g i j),H,I.tok _,⟨_,rfl⟩,q⟩
theorem By {f:Value→Value→Sem Value} {g:Int→Int→Bool}
  (rule:∀ (i j:Int) (t u:Tok) (s:Shared) (Q:Value→Shared→Prop) (E:Value→Shared→Prop),Q (.bool (g i j)) s→wpAny (model X.prog X.w) X.A (f (.int i t) (.int j u)) Q E s):
  OpR X f (rI0 fun i j=>.bl (g i j)):=by
 intro pins s σ H x y v u Q I rx ry h
 obtain ⟨i,j,rfl,rfl,q⟩:=h
 obtain ⟨t,rfl⟩:=rx
 obtain ⟨t',rfl⟩:=ry
 exact rule i j t t' s _ _ ⟨.bl (g i j),H,I,rfl,q⟩
def De (i j:Int):Prop:=0 < j∧j < 1073741824
def Df (i j:Int):Prop:=0≤j∧j≤1000000∧i.natAbs < 2 ^ 64
def Bz (i j:Int):Prop:=(-(2 ^ 64) < i∧i < 2 ^ 64) ∨ (-(2 ^ 64) < j∧j < 2 ^ 64)
theorem Bz.ok {i j:Int} (h:Bz i j):IntMulOk i j:=by
 rcases h with ⟨h1,h2⟩ | ⟨h1,h2⟩
 ·exact .of_left (intBits_le_64 h1 h2)
 ·exact .of_right (intBits_le_64 h1 h2)
theorem BA:OpR X (binaryOp .Add) (rI0 fun i j=>.int (i + j)):=Dd fun _ _ _ _ _ _ _ q=>add_int q
theorem BB:OpR X (binaryOp .Sub) (rI0 fun i j=>.int (i - j)):=Dd fun _ _ _ _ _ _ _ q=>sub_int q
theorem BC:OpR X (binaryOp .Mult) (rI Bz fun i j=>.int (i * j)):=opI fun _ _ _ _ _ _ _ hc q=>mul_int q hc.ok
theorem y0:OpR X (binaryOp .FloorDiv) (rI De fun i j=>.int (i / j)):=opI fun i j _ _ _ _ _ hc q=>by
 have h1:(0:Int) < j:=hc.1
 have h2:j < 1073741824:=hc.2
 exact floordiv_int (by omega) (by rw [Int.fdiv_eq_ediv_of_nonneg i (by omega)]; exact q) (.inl (PyProof.noPylong_small (by omega)))
theorem BD:OpR X (binaryOp .Mod) (rI (fun _ j=>0 < j) fun i j=>.int (i % j)):=opI fun i j _ _ _ _ _ hc q=>by
 have h1:(0:Int) < j:=hc
 exact mod_int' (by omega) (by rw [Int.fmod_eq_emod_of_nonneg i (by omega)]; exact q)
theorem BE:OpR X (binaryOp .Pow) (rI Df fun i j=>.int (i ^ j.toNat)):=opI fun _ _ _ _ _ _ _ hc q=>pow_int_small hc.1 hc.2.1 hc.2.2 q
theorem BF:OpR X (binaryOp .LShift) (rI Df fun i j=>.int (i * 2 ^ j.toNat)):=opI fun _ _ _ _ _ _ _ hc q=>lshift_int_small hc.1 hc.2.1 hc.2.2 q
end
def BG:V→V→Bool
 | .non,.non=>true | .non,.int _=>true | .int _,.non=>true | .non,.bl _=>true | .bl _,.non=>true | .non,.str _=>true | .str _,.non=>true
 | .int _,.int _=>true | .bl _,.bl _=>true | .str _,.str _=>true | .byt _,.byt _=>true
 | .int _,.str _=>true | .str _,.int _=>true | .bl _,.str _=>true | .str _,.bl _=>true
 | _,_=>false
def rEq:R2:=fun x y H Q=>BG x y=true∧Q (.bl (decide (x=y))) H
def rNe:R2:=fun x y H Q=>BG x y=true∧Q (.bl (!decide (x=y))) H
theorem uf {i j:Int}:decide (V.int i=V.int j)=(i == j):=by
 rw [Bool.eq_iff_iff]
 simp
theorem wO {i j:Bool}:decide (V.bl i=V.bl j)=(i == j):=by
 rw [Bool.eq_iff_iff]
 simp
theorem ug {i j:Str}:decide (V.str i=V.str j)=(i == j):=by
 rw [Bool.eq_iff_iff]
 simp
theorem uh {i j:Array UInt8}:decide (V.byt i=V.byt j)=(i.toList == j.toList):=by
 rw [Bool.eq_iff_iff]
 cases i
 cases j
 simp
section
variable {X:Cx} {a b c:Expr} {ta tb tc:TE} {pos:Pos}
theorem bD {pins:List (Addr × Obj)} {σ:St} {H:Hp} {s:Shared} {Q:VK} {k k':Bool} (I:Inv X pins σ H s) (q:Q (.bl k) H) (e:k=k'):EP X pins σ Q (.bool k') s:=by
 subst e
 exact ⟨.bl k,H,I,rfl,q⟩
theorem Dg:OpR X (compareOp .Eq) rEq:=by
 intro pins s σ H x y v u Q I rx ry h
 obtain ⟨hs,q⟩:=h
 cases x with
 | non=>
  cases rx
  cases y with
  | non=>cases ry; exact PySem.EqNone.eq_none_none (bD I q (by simp))
  | bl j=>cases ry; exact PySem.EqNone.eq_none_bool (bD I q (by simp))
  | int j=>obtain ⟨t',rfl⟩:=ry; exact PySem.EqNone.eq_none_int (bD I q (by simp))
  | str j=>obtain ⟨t',rfl⟩:=ry; exact PySem.EqNone.eq_none_str (bD I q (by simp))
  | _=>exact absurd (show false=true from hs) Bool.false_ne_true
 | bl i=>
  cases rx
  cases y with
  | non=>cases ry; exact PySem.EqNone.eq_bool_none (bD I q (by simp))
  | bl j=>cases ry; exact eq_bool (bD I q wO)
  | str j=>obtain ⟨t',rfl⟩:=ry; exact PySem.EqMixed.eq_bool_str (bD I q (by simp))
  | _=>exact absurd (show false=true from hs) Bool.false_ne_true
 | int i=>
  obtain ⟨t,rfl⟩:=rx
  cases y with
  | non=>cases ry; exact PySem.EqNone.eq_int_none (bD I q (by simp))
  | int j=>obtain ⟨t',rfl⟩:=ry; exact eq_int (bD I q uf)
  | str j=>obtain ⟨t',rfl⟩:=ry; exact PySem.EqMixed.eq_int_str (bD I q (by simp))
  | _=>exact absurd (show false=true from hs) Bool.false_ne_true
 | str i=>
  obtain ⟨t,rfl⟩:=rx
  cases y with
  | non=>cases ry; exact PySem.EqNone.eq_str_none (bD I q (by simp))
  | bl j=>cases ry; exact PySem.EqMixed.eq_str_bool (bD I q (by simp))
  | int j=>obtain ⟨t',rfl⟩:=ry; exact PySem.EqMixed.eq_str_int (bD I q (by simp))
  | str j=>obtain ⟨t',rfl⟩:=ry; exact eq_str (bD I q ug)
  | _=>exact absurd (show false=true from hs) Bool.false_ne_true
 | byt i=>
  obtain ⟨t,rfl⟩:=rx
  cases y with
  | byt j=>obtain ⟨t',rfl⟩:=ry; exact PySem.W.eq_bytes (bD I q uh)
  | _=>exact absurd (show false=true from hs) Bool.false_ne_true
 | _=>cases y <;> exact absurd (show false=true from hs) Bool.false_ne_true
theorem Dh:OpR X (compareOp .NotEq) rNe:=by
 intro pins s σ H x y v u Q I rx ry h
 obtain ⟨hs,q⟩:=h
 cases x with
 | non=>
  cases rx
  cases y with
  | non=>cases ry; exact PySem.EqNone.ne_none_none (bD I q (by simp))
  | bl j=>cases ry; exact PySem.EqNone.ne_none_bool (bD I q (by simp))
  | int j=>obtain ⟨t',rfl⟩:=ry; exact PySem.EqNone.ne_none_int (bD I q (by simp))
  | str j=>obtain ⟨t',rfl⟩:=ry; exact PySem.EqNone.ne_none_str (bD I q (by simp))
  | _=>exact absurd (show false=true from hs) Bool.false_ne_true
 | bl i=>
  cases rx
  cases y with
  | non=>cases ry; exact PySem.EqNone.ne_bool_none (bD I q (by simp))
  | bl j=>cases ry; exact ne_bool (bD I q (congrArg not wO))
  | str j=>obtain ⟨t',rfl⟩:=ry; exact PySem.EqMixed.ne_bool_str (bD I q (by simp))
  | _=>exact absurd (show false=true from hs) Bool.false_ne_true
 | int i=>
  obtain ⟨t,rfl⟩:=rx
  cases y with
  | non=>cases ry; exact PySem.EqNone.ne_int_none (bD I q (by simp))
  | int j=>obtain ⟨t',rfl⟩:=ry; exact ne_int (bD I q (congrArg not uf))
  | str j=>obtain ⟨t',rfl⟩:=ry; exact PySem.EqMixed.ne_int_str (bD I q (by simp))
  | _=>exact absurd (show false=true from hs) Bool.false_ne_true
 | str i=>
  obtain ⟨t,rfl⟩:=rx
  cases y with
  | non=>cases ry; exact PySem.EqNone.ne_str_none (bD I q (by simp))
  | bl j=>cases ry; exact PySem.EqMixed.ne_str_bool (bD I q (by simp))
  | int j=>obtain ⟨t',rfl⟩:=ry; exact PySem.EqMixed.ne_str_int (bD I q (by simp))
  | str j=>obtain ⟨t',rfl⟩:=ry; exact ne_str (bD I q (congrArg not ug))
  | _=>exact absurd (show false=true from hs) Bool.false_ne_true
 | byt i=>
  obtain ⟨t,rfl⟩:=rx
  cases y with
  | byt j=>obtain ⟨t',rfl⟩:=ry; exact PySem.W.ne_bytes (bD I q (congrArg not uh))
  | _=>exact absurd (show false=true from hs) Bool.false_ne_true
 | _=>cases y <;> exact absurd (show false=true from hs) Bool.false_ne_true
theorem Di:OpR X (compareOp .Lt) (rI0 fun i j=>.bl (decide (i < j))):=By fun _ _ _ _ _ _ _ q=>lt_int q
theorem Dj:OpR X (compareOp .Gt) (rI0 fun i j=>.bl (decide (j < i))):=By fun _ _ _ _ _ _ _ q=>gt_int q
theorem Dk:OpR X (compareOp .GtE) (rI0 fun i j=>.bl (decide (j≤i))):=By fun _ _ _ _ _ _ _ q=>ge_int q
theorem BH (b:Expr) {op:CmpOp} (h:autoParam (op ≠ .In) Au.h2._auto_1) (h2:autoParam (op ≠ .NotIn) Au.h2._auto_1):behindInMarks op b=false:=by
 have e1:(op == CmpOp.In)=false:=by cases op <;> first | rfl | exact absurd rfl h
 have e2:(op == CmpOp.NotIn)=false:=by cases op <;> first | rfl | exact absurd rfl h2
 cases b <;> simp [behindInMarks,e1,e2]
theorem y6 {op:CmpOp} {r:R2} (ho:OpR X (compareOp op) r) (ha:PE X a ta) (hb:PE X b tb) (hm:behindInMarks op b=false):PE X (.Compare a [op] [b] pos) (tOp r ta tb):=by
 intro pins s σ H Q I h
 exact wpAny_Compare1 (Bw ha hb I h fun v u s2 x y H2 I2 rx ry q=>ho pins s2 σ H2 x y v u Q I2 rx ry q) hm
def Dl (t:TE):TT:=fun σ H Q=>t σ H fun x H'=>∃ k,x=.bl k∧Q k H'
theorem y8 {op:CmpOp} {r:R2} (ho:OpR X (compareOp op) r) (ha:PE X a ta) (hb:PE X b tb) (hm:behindInMarks op b=false):PT X (.Compare a [op] [b] pos) (Dl (tOp r ta tb)):=by
 intro pins s σ H Q I h
 refine wpAny_isTrue_Compare1 (thn (ha pins s σ H _ I h) fun v s1 zq=>ex5 zq fun x H1 I1 r1 q1=>thn (hb pins s1 σ H1 _ I1 q1) fun u s2 zq=>ex5 zq fun y H2 I2 r2 q2=>
  thn (ho pins s2 σ H2 x y v u _ I2 r1 r2 q2) fun c s3 ⟨z,H3,I3,r3,k,e,q3⟩=>?_) hm
 subst e
 cases r3
 exact wpAny_truthy_bool ⟨H3,I3,q3⟩
theorem jJ:(sizeLine:Nat) < 2 ^ 63:=by rw [sizeLine_eq]; decide
theorem sm:OpR X (binaryOp .Add) (fun x y H Q=>∃ i j,x=.str i∧y=.str j∧i.length + j.length≤sizeLine∧Q (.str (i ++ j)) H):=by
 intro pins s σ H x y v u Q I rx ry h
 obtain ⟨i,j,rfl,rfl,hz,q⟩:=h
 obtain ⟨t,rfl⟩:=rx
 obtain ⟨t',rfl⟩:=ry
 exact add_str (fun t' tk=>⟨.str (i ++ j),H,I.tok _,⟨_,rfl⟩,q⟩) hz
theorem vals1 {x:V} {us:List Value} (r:Vals [x] us):∃ u,us=[u]∧RelV x u:=by
 cases r with
 | cons r1 r2=>cases r2; exact ⟨_,rfl,r1⟩
theorem vals2 {x y:V} {us:List Value} (r:Vals [x,y] us):∃ u w',us=[u,w']∧RelV x u∧RelV y w':=by
 cases r with
 | cons r1 r2=>
  cases r2 with
  | cons r3 r4=>cases r4; exact ⟨_,_,rfl,r1,r3⟩
theorem vH (hc:X.calm=true):cI X (.builtin "max") (fun xs H Q=>∃ i j,xs=[.int i,.int j]∧Q (.int (if j > i then j else i)) H):=by
 intro pins s σ H xs us Q I r h
 obtain ⟨i,j,rfl,q⟩:=h
 obtain ⟨u,w',rfl,⟨t,rfl⟩,⟨t',rfl⟩⟩:=vals2 r
 refine max_two_ints (I.ok.hd hc) fun h' tk k=>⟨_,H,I.kept k,?_,q⟩
 by_cases hj:j > i
 ·rw [if_pos hj,if_pos hj]; exact ⟨_,rfl⟩
 ·rw [if_neg hj,if_neg hj]; exact ⟨_,rfl⟩
theorem vI (hc:X.calm=true):cI X (.builtin "min") (fun xs H Q=>∃ i j,xs=[.int i,.int j]∧Q (.int (if j < i then j else i)) H):=by
 intro pins s σ H xs us Q I r h
 obtain ⟨i,j,rfl,q⟩:=h
 obtain ⟨u,w',rfl,⟨t,rfl⟩,⟨t',rfl⟩⟩:=vals2 r
 refine min_two_ints (I.ok.hd hc) fun h' tk k=>⟨_,H,I.kept k,?_,q⟩
 by_cases hj:j < i
 ·rw [if_pos hj,if_pos hj]; exact ⟨_,rfl⟩
 ·rw [if_neg hj,if_neg hj]; exact ⟨_,rfl⟩
theorem qp:cI X (.builtin "divmod") (fun xs H Q=>∃ i j,xs=[.int i,.int j]∧De i j∧∀ p,H p=none→Q (.ref p) (upd H p (.tup [.int (i / j),.int (i % j)]))):=by
 intro pins s σ H xs us Q I r h
 obtain ⟨i,j,rfl,⟨h1,h2⟩,q⟩:=h
 obtain ⟨u,w',rfl,⟨t,rfl⟩,⟨t',rfl⟩⟩:=vals2 r
 refine divmod_int (by omega) ?_ (.inl (PyProof.noPylong_small (by omega)))
 rw [Int.fdiv_eq_ediv_of_nonneg i (by omega),Int.fmod_eq_emod_of_nonneg i (by omega)]
 have hn:H s.heap.objs.size=none:=I.hok.fresh (Nat.le_refl _)
 refine ⟨.ref s.heap.objs.size,_,?_,rfl,q _ hn⟩
 refine I.laid (fun b o e=>Heap.get?_push_of_some _ e) (Nat.le_refl _) ⟨by simp only [List.length_cons,List.length_nil]; rw [sizeLine_eq]; decide,[.int (i / j) s.toks,.int (i % j) (s.toks + 1)],.cons ⟨_,rfl⟩ (.cons ⟨_,rfl⟩ .nil),?_⟩
 exact ⟨_,Heap.get?_push_size s.heap rfl,rfl,0,rfl⟩
end
end L2
namespace L2
open PySem PySem.Spec PyProof.Rows
structure ObjM (h:Heap) (x dx C:Addr) (mA:Str→Option Value):Prop where
 obj:h.get? x=some (PySem.W.instObj C dx)
 ns:h.Ns1 dx mA
 ne:dx ≠ x
theorem vJ {h:Heap} {dx:Addr} {mA:Str→Option Value} (n:h.Ns1 dx mA):∃ od,h.get? dx=some od∧∀ name,PySem.W.lookIn name od=some (mA name):=by
 obtain ⟨o,es,ep,ho,hd,hk,_,hm⟩:=n
 refine ⟨o,ho,fun name=>?_⟩
 have e:=hm name
 unfold nsFind findBy at e
 rw [← Array.find?_toList] at e
 unfold PySem.W.lookIn
 rw [hd]
 dsimp only
 split
 ·rename_i y q
  rw [q] at e
  exact congrArg some e
 ·rename_i q
  rw [q] at e
  have a:es.toList.any (·.refKey)=false:=by
   rw [List.any_eq_false]
   intro y hy
   obtain ⟨z,t,hkey⟩:=hk y (Array.mem_toList_iff.mp hy)
   simp [DictEntry.refKey,hkey]
  have a':¬ es.toList.any (·.refKey)=true:=by rw [a]; exact Bool.false_ne_true
  rw [if_neg a']
  exact congrArg some e
theorem ObjM.look {h:Heap} {x dx C:Addr} {mA:Str→Option Value} (I:ObjM h x dx C mA):∃ od,PySem.W.InstAt h x (PySem.W.instObj C dx) C (some od)∧∀ name,PySem.W.lookIn name od=some (mA name):=
 let ⟨od,ho,hl⟩:=vJ I.ns
 ⟨od,⟨I.obj,rfl,rfl,ho⟩,hl⟩
section
variable {prog:Program} {w:World} {A:Around} {E:Value→Shared→Prop} {s:Shared} {K:PySem.W.Frag} {x dx C f:Addr} {mA:Str→Option Value} {name:Str} {v:Value}
end
theorem jI.some_of {v:V} {o:Option Value} (r:jI (some v) o):∃ u,o=some u∧RelV v u:=by
 cases o with
 | none=>exact (show False from r).elim
 | some u=>exact ⟨u,rfl,r⟩
section
variable {P:Program} {w:World} {H H':Hp} {h h':Heap} {a C dx:Addr} {fs fs':List (Str × V)}
theorem zc (hok:HOk P w H h) (e:H a=some (.ins C dx fs)):∃ mA,ObjM h a dx C mA∧(∀ f,jI (fs.lookup f) (mA f))∧PySem.Within mA (fs.map (·.1))∧fs.length≤1000∧H dx=some (.own a):=by
 obtain ⟨d,z,ne,ob,mA,n,r,q⟩:=(show bF P w H h a (.ins C dx fs) from hok a _ e)
 exact ⟨mA,⟨ob,n,ne⟩,r,q,z,d⟩
end
structure Cls (K:PySem.W.Frag) (C:Addr):Prop where
 pg:PySem.W.plainGet K C Str.empty=true
 hd:PySem.W.hasDictIn K C=true
 po:PySem.W.plainOver K C=true
 sa:PySem.W.findIn K (.ref C) "__setattr__" = some (some (.builtin "object.__setattr__"))
theorem Cls.get {K:PySem.W.Frag} {C:Addr} (c:Cls K C) (f:Str):PySem.W.plainGet K C f=true:=c.pg
section
variable {X:Cx} {pins:List (Addr × Obj)} {σ:St} {H:Hp} {s:Shared} {a C dx:Addr} {fs:List (Str × V)} {f:Str} {v:V} {A:Around} {E:Value→Shared→Prop}
end
section
variable {X:Cx} {o e value:Expr} {f:Str} {pos pos' tpos:Pos} {ta tv:TE}
end
section
variable {X:Cx} {pins:List (Addr × Obj)} {σ:St} {H:Hp} {s:Shared} {A:Around} {E:Value→Shared→Prop} {Q:Value→Shared→Prop} {c:Value} {b:Bool}
inductive TyOf (K:PySem.W.Frag) (H:Hp):V→Value→Prop where
 | non:TyOf K H .non (.type "NoneType")
 | bl (x:Bool):TyOf K H (.bl x) (.type "bool")
 | int (i:Int):TyOf K H (.int i) (.type "int")
 | str (x:Str):TyOf K H (.str x) (.type "str")
 | flt (x:UInt64):TyOf K H (.flt x) (.type "float")
 | lst {a:Addr} {xs:List V} (e:H a=some (.lst xs)):TyOf K H (.ref a) (.type "list")
 | frz {a:Addr} {o:Obj} {xs:List V} (e:H a=some (.frz o (.lst xs))):TyOf K H (.ref a) (.type "list")
 | tup {a:Addr} {xs:List V} (e:H a=some (.tup xs)):TyOf K H (.ref a) (.type "tuple")
 | dK {a:Addr} {kvs:List (Key × V)} (e:H a=some (.dK kvs)):TyOf K H (.ref a) (.type "dict")
 | dT {a:Addr} {kvs:List (List Key × V)} (e:H a=some (.dT kvs)):TyOf K H (.ref a) (.type "dict")
 | ins {a C dx:Addr} {fs:List (Str × V)} (e:H a=some (.ins C dx fs)) (cl:Cls K C) (ha:PySem.W.findIn K (.ref C) "__class__" = some (some (.builtin "object.__class__")))
   (hn:PySem.W.specialIn K (.builtin "object.__class__") "__get__" = some (some (.builtin "getset_descriptor.__get__"))) (htk:PySem.W.takesIn K (.builtin "object.__class__")=some true)
   (hm:PySem.W.mroIn K C (.type "object")=some true):TyOf K H (.ref a) (.ref C)
theorem vK {x:V} {u t:Value} (I:Inv X pins σ H s) (rx:RelV x u) (ty:TyOf X.K H x t) (e:PySem.W.kitOne X.K t c=some b) (h:∀ tk,Q (.bool b) { s with toks:=tk }):
  wpAny (model X.prog X.w) A (call (.builtin "isinstance") [u,c]) Q E s:=by
 cases ty with
 | non=>cases (show u=Value.none from rx); exact PySem.W.kia_one PySem.W.kitx_none I.kIn True.intro e (fun z=>nomatch z) h
 | bl y=>cases (show u=Value.bool y from rx); exact PySem.W.kia_one PySem.W.kitx_bool I.kIn True.intro e (fun z=>nomatch z) h
 | int i=>obtain ⟨t,q⟩:=(show ∃ t,u=Value.int i t from rx); cases q; exact PySem.W.kia_one PySem.W.kitx_int I.kIn True.intro e (fun z=>nomatch z) h
 | str y=>obtain ⟨t,q⟩:=(show ∃ t,u=Value.str y t from rx); cases q; exact PySem.W.kia_one PySem.W.kitx_str I.kIn True.intro e (fun z=>nomatch z) h
 | flt y=>obtain ⟨t,q⟩:=(show ∃ t,u=Value.float y t from rx); cases q; exact PySem.W.kia_one PySem.W.kitx_float I.kIn True.intro e (fun z=>nomatch z) h
 | @lst a xs ea=>
  cases (show u=Value.ref a from rx)
  obtain ⟨_,_,n,_,h1⟩:=(show bF X.prog X.w H s.heap a (.lst xs) from I.hok a _ ea)
  exact PySem.W.kia_one PySem.W.kitx_list I.kIn ⟨_,h1,rfl⟩ e (fun z=>nomatch z) h
 | @frz a ob xs ea=>
  cases (show u=Value.ref a from rx)
  obtain ⟨_,_,_,n,_,h1⟩:=(show bF X.prog X.w H s.heap a (.frz ob (.lst xs)) from I.hok a _ ea)
  exact PySem.W.kia_one PySem.W.kitx_list I.kIn ⟨_,h1,rfl⟩ e (fun z=>nomatch z) h
 | @tup a xs ea=>
  cases (show u=Value.ref a from rx)
  obtain ⟨_,_,_,p⟩:=(show bF X.prog X.w H s.heap a (.tup xs) from I.hok a _ ea)
  obtain ⟨o,h1,h2,_⟩:=p
  exact PySem.W.kia_one PySem.W.kitx_tuple I.kIn ⟨o,h1,h2⟩ e (fun z=>nomatch z) h
 | @dK a kvs ea=>
  cases (show u=Value.ref a from rx)
  obtain ⟨_,_,vs,_,p⟩:=(show bF X.prog X.w H s.heap a (.dK kvs) from I.hok a _ ea)
  obtain ⟨o,es,ep,h1,h2,_⟩:=p
  exact PySem.W.kia_one PySem.W.kitx_dict I.kIn ⟨o,h1,h2.1⟩ e (fun z=>nomatch z) h
 | @dT a kvs ea=>
  cases (show u=Value.ref a from rx)
  obtain ⟨_,_,xs,_,o,es,ep,h1,h2,_⟩:=(show bF X.prog X.w H s.heap a (.dT kvs) from I.hok a _ ea)
  exact PySem.W.kia_one PySem.W.kitx_dict I.kIn ⟨o,h1,h2.1⟩ e (fun z=>nomatch z) h
 | @ins a C dx fs ea cl ha hn htk hm=>
  cases (show u=Value.ref a from rx)
  obtain ⟨mA,O,_⟩:=zc I.hok ea
  obtain ⟨od,J,_⟩:=O.look
  exact PySem.W.kia_one (PySem.W.kitx_own (cl.get _) cl.hd ha hn htk hm) I.kIn J e (fun z=>nomatch z) h
end
end L2
namespace L2
open PySem PySem.Spec PyProof.Rows
structure Room (k:Nat) (A:Around):Prop where
 hd:A.handled=none
 dp:A.depth + 3 * k + 5 < recursionLimit
 un:A.units + 16 * k + 200 < cLine
 gd:A.guards=some []
theorem Room.mono {j k:Nat} {A:Around} (r:Room k A) (h:j≤k):Room j A:=⟨r.hd,by have:=r.dp; omega,by have:=r.un; omega,r.gd⟩
theorem Room.deeper {k:Nat} {A:Around} (r:Room (k + 1) A) (env:Env):Room k (A.deeper env):=
 ⟨r.hd,by have:=r.dp; show A.depth + 1 + 3 * k + 5 < _; omega,by have:=r.un; show A.units + 3 + 16 * k + 200 < _; omega,r.gd⟩
theorem Room.depth {k:Nat} {A:Around} (r:Room k A):A.depth < recursionLimit:=by have:=r.dp; omega
theorem Room.units {k:Nat} {A:Around} (r:Room k A):A.units + 64 < cLine:=by have:=r.un; omega
def Ec:TA:=fun _ H Q=>Q [] H
def Dm (ta:TE) (tr:TA):TA:=fun σ H Q=>ta σ H fun x H1=>tr σ H1 fun xs H2=>Q (x :: xs) H2
section
variable {X:Cx} {e:Expr} {es:List Expr} {te:TE} {t:TA} {pos:Pos}
theorem BI:PA X [] Ec:=fun _ _ _ _ H Q I h=>Calls.spliced_nil ⟨[],H,I,.nil,h⟩
theorem zd (ha:PE X e te) (hr:PA X es t) (hs:autoParam (starEach (e :: es) X.env=(false,eval e X.env) :: starEach es X.env) Au.h1._auto_1):PA X (e :: es) (Dm te t):=by
 intro pos pins s σ H Q I h
 rw [hs]
 show wpAny _ _ (spliced ((false,eval e X.env) :: backTo pos (starEach es X.env))) _ _ s
 refine Calls.spliced_cons (thn (ha pins s σ H _ I h) fun u s1 zq=>?_)
 obtain ⟨x,H1,I1,r1,q1⟩:=zq
 exact thn (hr pos pins s1 σ H1 _ I1 q1) fun us s2 zq=>ex5 zq fun xs H2 I2 r2 q2=>⟨x :: xs,H2,I2,.cons r1 r2,q2⟩
def Ed (t:TA):TE:=fun σ H Q=>t σ H fun xs H1=>xs.length≤sizeLine∧∀ p,H1 p=none→Q (.ref p) (upd H1 p (.tup xs))
def Ee (t:TA):TE:=fun σ H Q=>t σ H fun xs H1=>xs.length≤sizeLine∧∀ p,H1 p=none→Q (.ref p) (upd H1 p (.lst xs))
theorem BJ {x1} (h:PA X es t):PE X (.Tuple es x1 pos) (Ed t):=by
 intro pins s σ H Q I hq
 refine wpAny_Tuple_spliced (thn (h pos pins s σ H _ I hq) fun us s1 ⟨xs,H1,I1,r,z,q⟩=>⟨by rw [← r.length]; exact z,?_⟩)
 have hf:H1 s1.heap.objs.size=none:=I1.hok.fresh (Nat.le_refl _)
 refine ⟨.ref s1.heap.objs.size,upd H1 s1.heap.objs.size (.tup xs),I1.laid (t':=s1.toks) (fun b u e=>Heap.get?_push_of_some _ e) (Nat.le_refl _) ?_,rfl,q _ hf⟩
 exact ⟨z,us,r,⟨_,Heap.get?_push_size _ rfl,rfl,_,rfl⟩⟩
theorem wQ (h:PA X es t):PE X (.List es pos) (Ee t):=by
 intro pins s σ H Q I hq
 refine wpAny_List_spliced (thn (h pos pins s σ H _ I hq) fun us s1 ⟨xs,H1,I1,r,z,q⟩=>⟨by rw [← r.length]; exact z,?_⟩)
 have hf:H1 s1.heap.objs.size=none:=I1.hok.fresh (Nat.le_refl _)
 refine ⟨.ref s1.heap.objs.size,upd H1 s1.heap.objs.size (.lst xs),I1.laid (t':=s1.toks) (fun b u e=>Heap.get?_push_of_some _ e) (Nat.le_refl _) ?_,rfl,q _ hf⟩
 exact ⟨z,us,0,r,Heap.get?_push_size _ rfl⟩
end
abbrev Sp:=List V→Hp→VK→XK→Prop
abbrev CXT:=List Env→Hp→Shared→XK→Value→Shared→Prop
structure Env0 (P:Program) (w:World) (K:PySem.W.Frag) (mg:Str→Option Value) (base:Heap) (A:Around) (outer:List Env) (s:Shared) (H:Hp):Prop where
 frames:A.frames=some outer
 mod:Mod K mg base
 bs:∀ b o,base.get? b=some o→s.heap.get? b=some o∧H b=none
 bsz:base.objs.size≤s.heap.objs.size
 funs:s.heap.FunFrames base outer
 frf:∀ b ∈ frs outer,H b=none
 hok:HOk P w H s.heap
 bare:AllBare s.gens
def CE (outer:List Env) (P:Program) (w:World) (H:Hp) (s:Shared) (Q:VK) (u:Value) (s':Shared):Prop:=
 ∃ v H',s'.os=s.os∧AllBare s'.gens∧Un (frs outer) [] H H' s.heap s'.heap∧HOk P w H' s'.heap∧RelV v u∧Q v H'
def CR (CX:CXT) (outer:List Env) (P:Program) (w:World) (H:Hp) (s:Shared) (Q:VK) (E:XK) (r:Result) (s':Shared):Prop:=
 match r with
 | .ok (.ret u)=>CE outer P w H s Q u s'
 | .ok _=>False
 | .error e=>CX outer H s E e s'
structure FnOk (P:Program) (w:World) (K:PySem.W.Frag) (mg:Str→Option Value) (base:Heap) (CX:CXT) (k:Nat) (f:Addr) (fd:FuncData) (ps:List Str) (sp:Sp):Prop where
 len:∀ vs H Q E,sp vs H Q E→vs.length=ps.length
 run:∀ (A:Around) (outer:List Env) (s:Shared) (H:Hp) (args:Args) (us:List Value) (vs:List V) (Q:VK) (E:XK),Room k A→Env0 P w K mg base A outer s H→BindsTo s fd args (ps.zip us)→Vals vs us→sp vs H Q E→
  codeAny (model P w) A (.call (.ref f) args) (CR CX outer P w H s Q E) s
section
variable {X:Cx} {pins:List (Addr × Obj)} {σ:St} {H:Hp} {s s':Shared}
theorem Inv.env0 (I:Inv X pins σ H s):Env0 X.prog X.w X.K X.mg X.base X.A X.stack s H:=
 ⟨I.ok.frames,I.ok.mod,I.bs,Nat.le_trans I.ok.bsz I.sz,I.stack,I.stkFree,I.hok,I.bare⟩
theorem Inv.after {Q:VK} {u:Value} (I:Inv X pins σ H s) (h:CE X.stack X.prog X.w H s Q u s'):EP X pins σ Q u s':=by
 obtain ⟨v,H',os,bare,un,hok,r,q⟩:=h
 obtain ⟨hh,g,d,t,os'⟩:=s'
 obtain rfl:os'=s.os:=os
 exact ⟨v,H',I.call (h':=hh) (g':=g) (d':=d) (t':=t) (ch:=[]) un hok bare (fun b z=>absurd z (by simp)),r,q⟩
end
def Dp (sp:Sp) (dvs:List V) (E:XK) (t:TA):TE:=fun σ H Q=>t σ H fun vs H1=>sp (vs ++ dvs) H1 Q E
def Binds (K:PySem.W.Frag) (fd:FuncData) (ps:List Str) (ds:List Value):Prop:=
 ∀ (s:Shared) (us:List Value),K.In s.heap→(us ++ ds).length=ps.length→BindsTo s fd ⟨us,[]⟩ (ps.zip (us ++ ds))
theorem Binds.all {K:PySem.W.Frag} {fd:FuncData} {ps:List Str} (h:∀ us:List Value,us.length=ps.length→bindArgs fd ⟨us,[]⟩=pure (ps.zip us)):Binds K fd ps []:=fun s us _ hl=>by
 rw [List.append_nil] at hl ⊢
 exact .of_eq (h us hl)
def Passes (CX:CXT) (X:Cx) (E:XK):Prop:=∀ (pins:List (Addr × Obj)) (σ:St) (H:Hp) (s:Shared) (e:Value) (s':Shared),Inv X pins σ H s→CX X.stack H s E e s'→X.xe e s'
section
variable {X:Cx} {CX:CXT} {k:Nat} {f C:Addr} {fd:FuncData} {ps:List Str} {sp:Sp} {dvs:List V} {ds:List Value} {E:XK} {x m:Str} {p pos apos:Pos} {e o:Expr} {es:List Expr} {ta:TE} {t:TA}
theorem BK {pins:List (Addr × Obj)} {σ:St} {H:Hp} {s:Shared} {Q:VK} {us:List Value} {vs:List V} (F:FnOk X.prog X.w X.K X.mg X.base CX k f fd ps sp) (hr:Room k X.A) (hb:Binds X.K fd ps ds) (hd:Vals dvs ds) (hx:Passes CX X E)
  (I:Inv X pins σ H s) (r:Vals vs us) (h:sp (vs ++ dvs) H Q E):wpAny (model X.prog X.w) X.A (call (.ref f) us) (EP X pins σ Q) X.xe s:=by
 have r2:Vals (vs ++ dvs) (us ++ ds):=r.append hd
 have hl:(us ++ ds).length=ps.length:=by rw [← r2.length]; exact F.len _ _ _ _ h
 refine wpAny_call (codeAny_mono (F.run X.A X.stack s H ⟨us,[]⟩ (us ++ ds) (vs ++ dvs) Q E hr I.env0 (hb s us I.kIn hl) r2 h) fun r s' hq=>?_)
 cases r with
 | error e=>exact hx pins σ H s e s' I hq
 | ok fl=>
  cases fl with
  | ret u=>exact I.after hq
  | next=>exact False.elim hq
  | brk=>exact False.elim hq
  | cont=>exact False.elim hq
theorem ze (F:FnOk X.prog X.w X.K X.mg X.base CX k f fd ps sp) (hr:Room k X.A) (hg:Gl X x) (hm:X.mg x=some (.ref f)) (hk:PySem.W.keepIn X.K (.ref f)=true) (hb:Binds X.K fd ps ds) (hd:Vals dvs ds) (hx:Passes CX X E)
  (ha:PA X (e :: es) t) (hdb:autoParam ((x == ("__debug__":Str))=false) Au.h2._auto_1) (he:autoParam (starEach (e :: es) X.env=(false,eval e X.env) :: starEach es X.env) Au.h1._auto_1) (hpl:autoParam ((backTo pos (starEach es X.env)).any (·.1)=false) Au.h1._auto_1):
  PE X (.Call (.Name x p) (e :: es) [] pos) (Dp sp dvs E t):=by
 intro pins s σ H Q I h
 refine wpAny_Call_Name_kw (uc I hg hm ?_ hdb)
 refine PySem.W.callWith_K (h₀:=X.base) I.ok.mod.kin hk (thn (ha pos pins s σ H _ I h) fun us s1 zq=>ex5 zq fun vs H1 I1 r q=>⟨I1.kIn,?_⟩) he hpl
 exact BK F hr hb hd hx I1 r q
end
section
variable {X:Cx} {CX:CXT} {k:Nat} {f C:Addr} {fd:FuncData} {ps ks:List Str} {sp:Sp} {E:XK} {x m:Str} {p pos apos kpos:Pos} {e o:Expr} {es:List Expr} {kws:List Keyword} {te ta:TE} {t tk:TA} {nm:Option Str}
variable {g:List Value→List Value→List Value} {gV:List V→List V→List V}
end
structure FnScope (N P:List Str) (sc:Scope):Prop where
 kind:sc.kind=.function
 co:sc.isCoroutine=false
 gen:sc.isGenerator=false
 nd:N.Nodup
 pre:N.take P.length=P
 par:∀ x ∈ P,sc.names.lookup x=some .local ∨ sc.names.lookup x=some .cell
 nofree:∀ y ∈ sc.names,y.2 ≠ .free
theorem m9 {kindOf:Str→Option NameKind} {x:Str}:∀ {binds:List (Str × Value)} {m:Str→Option Value},(∀ v,(x,v) ∉ binds)→bindL kindOf binds m x=m x
 | [],_,_=>rfl
 | (n,v) :: r,m,h=>by
  unfold bindL
  rw [m9 fun w hw=>h w (List.mem_cons_of_mem _ hw)]
  split
  ·have:x ≠ n:=by rintro rfl; exact h v List.mem_cons_self
   simp [this]
  ·rfl
theorem nc {kindOf:Str→Option NameKind} {x:Str}:∀ {binds:List (Str × Value)} {m:Str→Option Value},(∀ v,(x,v) ∉ binds)→bindC kindOf binds m x=m x
 | [],_,_=>rfl
 | (n,v) :: r,m,h=>by
  unfold bindC
  rw [nc fun w hw=>h w (List.mem_cons_of_mem _ hw)]
  split
  ·rfl
  ·have:x ≠ n:=by rintro rfl; exact h v List.mem_cons_self
   simp [this]
theorem ng {kindOf:Str→Option NameKind} {x:Str} {v:Value}:∀ {P:List Str} {vs:List Value} {i:Nat} {m:Str→Option Value},P.Nodup→P[i]?=some x→vs[i]?=some v→kindOf x=some .local→
  bindL kindOf (P.zip vs) m x=some v
 | [],_,_,_,_,h,_,_=>by simp at h
 | _ :: _,[],_,_,_,_,h,_=>by simp at h
 | p :: P,w :: vs,0,m,nd,h1,h2,hk=>by
  simp at h1 h2; subst h1; subst h2
  show bindL kindOf ((p,w) :: P.zip vs) m p=_
  unfold bindL
  rw [m9 fun v hv=>(List.nodup_cons.mp nd).1 (List.of_mem_zip hv).1,if_pos hk]
  simp
 | p :: P,w :: vs,i + 1,m,nd,h1,h2,hk=>by
  show bindL kindOf ((p,w) :: P.zip vs) m x=_
  unfold bindL
  exact ng (i:=i) (List.nodup_cons.mp nd).2 (by simpa using h1) (by simpa using h2) hk
theorem nh {kindOf:Str→Option NameKind} {x:Str} {v:Value}:∀ {P:List Str} {vs:List Value} {i:Nat} {m:Str→Option Value},P.Nodup→P[i]?=some x→vs[i]?=some v→kindOf x ≠ some .local→
  bindC kindOf (P.zip vs) m x=some v
 | [],_,_,_,_,h,_,_=>by simp at h
 | _ :: _,[],_,_,_,_,h,_=>by simp at h
 | p :: P,w :: vs,0,m,nd,h1,h2,hk=>by
  simp at h1 h2; subst h1; subst h2
  show bindC kindOf ((p,w) :: P.zip vs) m p=_
  unfold bindC
  rw [nc fun v hv=>(List.nodup_cons.mp nd).1 (List.of_mem_zip hv).1,if_neg hk]
  simp
 | p :: P,w :: vs,i + 1,m,nd,h1,h2,hk=>by
  show bindC kindOf ((p,w) :: P.zip vs) m x=_
  unfold bindC
  exact nh (i:=i) (List.nodup_cons.mp nd).2 (by simpa using h1) (by simpa using h2) hk
def start (N:List Str) (vs:List V):St:=vs.map some ++ List.replicate (N.length - vs.length) none
def qq (CX:CXT) (P:Program) (w:World) (K:PySem.W.Frag) (mg:Str→Option Value) (base:Heap) (N:List Str) (qual:Str) (scope:Scope) (f:Addr) (cd:Value) (A:Around) (outer:List Env) (s:Shared) (H:Hp) (E:XK):Cx where
 prog:=P
 w:=w
 K:=K
 mg:=mg
 base:=base
 A:=A.deeper (envOfC qual scope s.heap.objs.size f cd)
 N:=N
 s₀:=s
 H₀:=H
 env:=envOfC qual scope s.heap.objs.size f cd
 outer:=outer
 stack:=envOfC qual scope s.heap.objs.size f cd :: outer
 ex:=[]
 calm:=true
 fn:=fun _=>true
 pn:=[]
 xe:=fun e s'=>wpAny (model P w) (A.deeper (envOfC qual scope s.heap.objs.size f cd)) (leaving (envOfC qual scope s.heap.objs.size f cd) e) (fun _ s''=>CX outer H s E e s'') (fun e' s''=>CX outer H s E e' s'') s'
theorem qr {sc:Scope} {n:Nat} {x:Str} (h:sc.names.lookup x=some .cell):∃ c,(cellsFrom n sc.names []).lookup x=some c:=by
 have q:=PySem.W.cellsFrom_some sc.names n [] (.inl h)
 exact Option.isSome_iff_exists.mp q
theorem vL {CX:CXT} {P:Program} {w:World} {K:PySem.W.Frag} {mg:Str→Option Value} {base:Heap} {N ps:List Str} {qual:Str} {scope:Scope} {f:Addr} {cd:Value} {A:Around} {outer:List Env} {s s1:Shared} {H:Hp} {E:XK} {us:List Value} {vs:List V}
  (S:FnScope N ps scope) (hd:A.handled=none) (e0:Env0 P w K mg base A outer s H) (hl:vs.length=ps.length) (r:Vals vs us)
  (x:InCallC s s.heap.objs.size (bindL (envOfC qual scope s.heap.objs.size f cd).kindOf (ps.zip us) fun _=>none) (cellsFrom (s.heap.objs.size + 1) scope.names []) (bindC (envOfC qual scope s.heap.objs.size f cd).kindOf (ps.zip us) fun _=>none) s1):
  Inv (qq CX P w K mg base N qual scope f cd A outer s H E) [] (start N vs) H s1:=by
 have hpl:ps.length≤N.length:=by have:=congrArg List.length S.pre; rw [List.length_take] at this; omega
 obtain ⟨h1,tk,rfl,hk⟩:=x.done
 have noA:∀ b:Addr,b ∉ (qq CX P w K mg base N qual scope f cd A outer s H E).ex:=fun b z=>absurd (show b ∈ ([]:List Addr) from z) (by simp)
 refine ⟨⟨e0.mod,S.kind,rfl,rfl,Nat.le_refl _,fun y z c h1 h2=>?_,fun y hy=>?_,fun y c _ h=>?_,fun _=>hd,Around.frames_deeper e0.frames,.inr ⟨rfl,rfl⟩,fun b z=>absurd z (noA b),e0.bs,e0.bsz,fun b _ _=>noA b,fun b z=>absurd z (noA b),e0.funs,e0.frf⟩,
  rfl,e0.bare,Un.kept hk,⟨_,x.toInCall.ns,fun i y v h1 h2 h3=>?_⟩,fun y c h=>⟨_,x.cell y c h⟩,e0.hok.fresh (Nat.le_refl _),fun y c h=>?_,fun p hp=>absurd (show p ∈ ([]:List (Addr × Obj)) from hp) (by simp),e0.hok.kept hk,?_⟩
 ·exact name_of_addr x.apart (PySem.mem_of_lookup h1) (PySem.mem_of_lookup h2)
 ·have hy:scope.names.lookup y=some .cell ∨ scope.names.lookup y=some .free:=hy
  rcases hy with hy | hy
  ·exact qr hy
  ·exact absurd rfl (S.nofree _ (PySem.mem_of_lookup hy))
 ·exact Nat.le_of_lt (x.above y c (PySem.mem_of_lookup h))
 ·have hi:i < vs.length:=by
   unfold start at h2
   by_cases hi:i < vs.length
   ·exact hi
   ·rw [List.getElem?_append_right (by simpa using hi)] at h2
    rw [List.getElem?_replicate] at h2
    split at h2 <;> cases h2
  have ha:vs[i]?=some v:=by
   unfold start at h2
   rw [List.getElem?_append_left (by simpa using hi),List.getElem?_map] at h2
   cases e:vs[i]? with
   | none=>rw [e] at h2; cases h2
   | some a=>rw [e] at h2; cases h2; rfl
  obtain ⟨u,hu,rv⟩:=r.get ha
  have hp:ps[i]?=some y:=by
   rw [← S.pre,List.getElem?_take_of_lt (by omega)]; exact h1
  have ndP:ps.Nodup:=by rw [← S.pre]; exact S.nd.sublist (List.take_sublist _ _)
  refine ⟨u,rv,?_⟩
  rcases S.par y (List.mem_of_getElem? hp) with k | k
  ·exact .inl ⟨k,ng ndP hp hu k⟩
  ·obtain ⟨c,e⟩:=qr (n:=s.heap.objs.size + 1) k
   refine .inr ⟨.inl k,c,e,?_⟩
   have q:=x.cell y c e
   rw [nh ndP hp hu (by show scope.names.lookup y ≠ _; rw [k]; decide)] at q
   exact q
 ·exact e0.hok.fresh (Nat.le_of_lt (x.above y c (PySem.mem_of_lookup h)))
 ·unfold start
  show _=N.length
  rw [List.length_append,List.length_map,List.length_replicate]
  omega
theorem Dq {CX:CXT} {P:Program} {w:World} {K:PySem.W.Frag} {mg:Str→Option Value} {base:Heap} {k:Nat} {f:Addr} {name qual:Str} {params:Arguments} {body:List Stmt} {scope:Scope} {dV kV doc pm cdv ct oc:Value} {an od:Option Addr}
  {osl:Array (Option Value)} {N ps:List Str} {sp:Sp} (lk:K.lookup f=some ⟨oc,od,.func (PySem.W.fnOf name qual params body scope dV kV doc pm an cdv ct),osl⟩) (hcd:PySem.W.codeIn K cdv qual=true) (S:FnScope N ps scope)
  (len:∀ vs H Q E,sp vs H Q E→vs.length=ps.length)
  (hbody:∀ (A:Around) (outer:List Env) (s:Shared) (H:Hp) (vs:List V) (Q:VK) (E:XK),Room k (A.deeper (envOfC qual scope s.heap.objs.size f cdv))→sp vs H Q E→
   ∃ t,PSs (qq CX P w K mg base N qual scope f cdv A outer s H E) body t∧t { nx:=fun _ H'=>Q .non H',rt:=Q } (start N vs) H):
  FnOk P w K mg base CX (k + 1) f (PySem.W.fnOf name qual params body scope dV kV doc pm an cdv ct) ps sp:=by
 refine ⟨len,fun A outer s H args us vs Q E hr e0 hb r hsp=>?_⟩
 have hl:=len _ _ _ _ hsp
 have KX:K.In s.heap:=e0.mod.kin.keeps fun b o e=>(e0.bs b o e).1
 have lim:s.heap.NoLimit:=e0.mod.nolimit.keeps fun b o e=>(e0.bs b o e).1
 have hkind:∀ y ∈ ps.zip us,scope.names.lookup y.1=some .local ∨ (scope.names.lookup y.1=some .cell∧((cellsFrom (s.heap.objs.size + 1) scope.names []).lookup y.1).isSome=true):=fun ⟨n,v⟩ hy=>by
  rcases S.par n (List.of_mem_zip hy).1 with q | q
  ·exact .inl q
  ·exact .inr ⟨q,PySem.W.cellsFrom_some _ _ _ (.inl q)⟩
 refine codeAny_call_function hr.depth (KX _ _ lk) rfl S.co S.gen rfl (PySem.W.codeRec_of KX hcd) (hb _ _ _ _ ?_)
 refine wpAny_newFunctionEnv_cells S.kind hkind fun env he s1 x=>?_
 subst he
 refine ⟨lim.keeps x.toInCall.keep,codeAny_func ?_⟩
 obtain ⟨t,ht,hq⟩:=hbody A outer s H vs Q E (hr.deeper _) hsp
 have I:Inv (qq CX P w K mg base N qual scope f cdv A outer s H E) [] (start N vs) H s1:=vL S hr.hd e0 hl r x
 refine wpAny_mono (ht [] s1 (start N vs) H _ I hq) (fun fl s' hs=>?_) fun e s' hs=>hs
 have fin:∀ {σ':St} {H':Hp} {v:V} {u:Value},Inv (qq CX P w K mg base N qual scope f cdv A outer s H E) [] σ' H' s'→RelV v u→Q v H'→CE outer P w H s Q u s':=
  fun {σ' H' v u} J rv q=>⟨v,H',J.os,J.bare,J.base,J.hok,rv,q⟩
 cases fl with
 | ret u=>
  obtain ⟨v,σ',H',J,rv,q⟩:=hs
  exact fin J rv q
 | next=>
  obtain ⟨σ',H',J,q⟩:=hs
  exact fin (v:=V.non) (u:=Value.none) J rfl q
 | brk=>
  obtain ⟨_,_,_,q⟩:=hs
  exact False.elim q
 | cont=>
  obtain ⟨_,_,_,q⟩:=hs
  exact False.elim q
end L2
namespace L2
open PySem PySem.Spec PyProof.Rows
section
variable {X:Cx} {x:Str} {p pos:Pos} {e:Expr} {es:List Expr} {t:TA} {id T:String} {r:List V→Hp→VK→Prop}
def tCB (r:List V→Hp→VK→Prop) (t:TA):TE:=fun σ H Q=>t σ H fun vs H1=>r vs H1 Q
theorem wR (hc:cI X (.builtin id) r) (hg:Gl X x) (hm:X.mg x=none) (hv:bootBuiltins x=some (.builtin id)) (ha:PA X (e :: es) t) (hn:autoParam (x ≠ "__name__") Au.h2._auto_1) (hdb:autoParam ((x == ("__debug__":Str))=false) Au.h2._auto_1)
  (he:autoParam (starEach (e :: es) X.env=(false,eval e X.env) :: starEach es X.env) Au.h1._auto_1) (hpl:autoParam ((backTo pos (starEach es X.env)).any (·.1)=false) Au.h1._auto_1):PE X (.Call (.Name x p) (e :: es) [] pos) (tCB r t):=by
 intro pins s σ H Q I h
 refine wpAny_Call_Name_kw (iS I hg hm hv ?_ hn hdb)
 exact PyProof.Rows.callWith_builtin1 (thn (ha pos pins s σ H _ I h) fun us s1 zq=>ex5 zq fun vs H1 I1 r1 q1=>hc pins s1 σ H1 vs us Q I1 r1 q1) he hpl
theorem ni (hc:cI X (.type T) r) (hg:Gl X x) (hm:X.mg x=none) (hv:bootBuiltins x=some (.type T)) (ha:PA X (e :: es) t) (hn:autoParam (x ≠ "__name__") Au.h2._auto_1) (hdb:autoParam ((x == ("__debug__":Str))=false) Au.h2._auto_1)
  (he:autoParam (starEach (e :: es) X.env=(false,eval e X.env) :: starEach es X.env) Au.h1._auto_1) (hpl:autoParam ((backTo pos (starEach es X.env)).any (·.1)=false) Au.h1._auto_1):PE X (.Call (.Name x p) (e :: es) [] pos) (tCB r t):=by
 intro pins s σ H Q I h
 refine wpAny_Call_Name_kw (iS I hg hm hv ?_ hn hdb)
 exact PyProof.Rows.callWith_type1 (thn (ha pos pins s σ H _ I h) fun us s1 zq=>ex5 zq fun vs H1 I1 r1 q1=>hc pins s1 σ H1 vs us Q I1 r1 q1) he hpl
end
end L2
namespace HT
open PySem PyProof.Rows
section
open PySem.SeqAt
open PySem.AutoSeq1 (wpAny_loadPart')
open PySem.MeetsSeq PySem.MeetsSeq2 PySem.MeetsSeq3
end
section
variable {prog:Program} {w:World} {A:Around} {E:Value→Shared→Prop} {s:Shared}
theorem cat_tup {t b:Addr} {vs ws:List Value} {Q:Value→Shared→Prop} (ht:IsTup s.heap t vs.toArray) (hb:IsTup s.heap b ws.toArray) (hv:vs ≠ [])
  (h1:ws=[]→Q (.ref t) s) (h2:ws ≠ []→Q (.ref s.heap.objs.size) { s with heap:=s.heap.push { cls:=.type "tuple",data:=.seq (vs ++ ws).toArray } })
  (hsz:vs.length + ws.length≤sizeLine):wpAny (model prog w) A (binaryOp .Add (.ref t) (.ref b)) Q E s:=by
 obtain ⟨⟨cls,dd,data,sl⟩,ho,hc,n,hd⟩:=id ht
 obtain ⟨⟨cls2,dd2,data2,sl2⟩,ho2,hc2,n2,hd2⟩:=id hb
 simp only at hc hd hc2 hd2
 subst hc hd hc2 hd2
 have e:vs.toArray ++ ws.toArray=(vs ++ ws).toArray:=by simp
 by_cases hw:ws=[]
 ·exact concat_meets ⟨_,ho,rfl⟩ ⟨_,ho2,rfl⟩ noFill_tuple_add seq_tuple_add PySem.F.slot_tuple_add PySem.F.entry_tuple_add (PySem.F.args_tuple_add_2 _ _)
   (tuple_addW1 t b vs.toArray ws.toArray n n2 dd dd2 sl sl2 (by simpa using hv) (by simp [hw])) ⟨ho,ho2,h1 hw⟩
 ·refine concat_meets ⟨_,ho,rfl⟩ ⟨_,ho2,rfl⟩ noFill_tuple_add seq_tuple_add PySem.F.slot_tuple_add PySem.F.entry_tuple_add (PySem.F.args_tuple_add_2 _ _)
   (tuple_addW2 t b vs.toArray ws.toArray n n2 dd dd2 sl sl2 (by simpa using hv) (by simpa using hw) (by rw [List.size_toArray,List.size_toArray]; exact hsz)) ⟨ho,ho2,?_⟩
  rw [e]
  exact h2 hw
def sIx (n d:Nat):Option Int→Nat
 | none=>d
 | some v=>if v < 0 then (v + (n:Int)).toNat else min v.toNat n
theorem sIx_nat (n d k:Nat):sIx n d (some (k:Int))=min k n:=by
 show (if (k:Int) < 0 then ((k:Int) + (n:Int)).toNat else min (k:Int).toNat n)=min k n
 rw [if_neg (by omega),Int.toNat_natCast]
theorem BL (n d:Nat) (hd:d≤n) (o:Option Int):sIx n d o≤n:=by
 cases o with
 | none=>exact hd
 | some v=>
  show (if v < 0 then (v + (n:Int)).toNat else min v.toNat n)≤n
  by_cases hv:v < 0
  ·rw [if_pos hv]; omega
  ·rw [if_neg hv]; exact Nat.min_le_right _ _
theorem ui (v:Int) (n d:Nat):(if v < 0 then max (v + (n:Int)) 0 else min v (n:Int))=((sIx n d (some v):Nat):Int):=by
 show (if v < 0 then max (v + (n:Int)) 0 else min v (n:Int))=(((if v < 0 then (v + (n:Int)).toNat else min v.toNat n):Nat):Int)
 by_cases hv:v < 0
 ·simp only [if_pos hv]; omega
 ·simp only [if_neg hv]; omega
theorem sr (lo hi:Option Int) (n:Nat):Builtin.Slice.sliceAdjust lo hi 1 (n:Int)=(((sIx n 0 lo:Nat):Int),((sIx n n hi:Nat):Int)):=by
 have h1:¬ ((1:Int) < 0):=by omega
 unfold Builtin.Slice.sliceAdjust
 simp only [h1,if_false]
 refine Prod.ext ?_ ?_
 ·cases lo with
  | none=>rfl
  | some v=>exact ui v n 0
 ·cases hi with
  | none=>rfl
  | some v=>exact ui v n n
theorem su (i j:Nat):Builtin.Slice.slicePlaces (i:Int) (j:Int) 1=j - i:=by
 unfold Builtin.Slice.slicePlaces
 have h1:(1:Int) > 0:=by omega
 simp only [h1,if_true,Int.ediv_one]
 split <;> omega
theorem kT {v:Value} {o:Option Int} {Q:Option Int→Shared→Prop} (p:IsPart v o) (h:Q o s):wpAny (model prog w) A (Builtin.Slice.slicePartIndex v) Q E s:=by
 cases p with
 | none=>exact slicePart_none h
 | int i t=>exact slicePart_int h
theorem fZ {sl:Addr} {vl vu:Value} {lo hi:Option Int} {n:Nat} {Q:Int × Int × Nat→Shared→Prop} (hs:s.heap.IsSliceOf sl vl vu .none) (pl:IsPart vl lo) (pu:IsPart vu hi)
  (h:Q (((sIx n 0 lo:Nat):Int),1,sIx n n hi - sIx n 0 lo) s):wpAny (model prog w) A (Builtin.Slice.sliceApplied (.ref sl) (pure (n:Int))) Q E s:=by
 obtain ⟨os,hos,hcs,hds⟩:=id hs
 unfold Builtin.Slice.sliceApplied Builtin.Slice.sliceFields
 refine wpAny_bind (wpAny_bind (wpAny_field hos hds (x:=vl) rfl (wpAny_bind (wpAny_field hos hds (x:=vu) rfl (wpAny_bind (wpAny_field hos hds (x:=.none) rfl (wpAny_pure ?_)))))))
 refine wpAny_bind (slicePart_none ?_)
 show wpAny _ _ (if ((1:Int) == 0)=true then _ else _) _ _ s
 rw [if_neg (by decide)]
 refine wpAny_bind (kT pl (wpAny_bind (kT pu (wpAny_bind (wpAny_pure ?_)))))
 show wpAny _ _ (match Builtin.Slice.sliceAdjust lo hi 1 (n:Int) with | (lo,hi)=>pure (lo,(1:Int),Builtin.Slice.slicePlaces lo hi 1)) _ _ s
 rw [sr lo hi n]
 show wpAny _ _ (pure (((sIx n 0 lo:Nat):Int),(1:Int),Builtin.Slice.slicePlaces ((sIx n 0 lo:Nat):Int) ((sIx n n hi:Nat):Int) 1)) _ _ s
 rw [su]
 exact wpAny_pure h
theorem wU (xs:Array Value) (i k:Nat):((List.range k).filterMap fun (m:Nat)=>xs[((i:Int) + (m:Int) * 1).toNat]?).toArray=((xs.toList.drop i).take k).toArray:=by
 have e:(fun (m:Nat)=>xs[((i:Int) + (m:Int) * 1).toNat]?)=fun m=>xs[i + m]?:=by
  funext m
  have:((i:Int) + (m:Int) * 1).toNat=i + m:=by omega
  rw [this]
 rw [e]
 have:=pick_run xs i k
 rw [List.filterMap_map] at this
 have e2:((fun x=>xs[x]?) ∘ fun x=>i + x)=fun m=>xs[i + m]?:=rfl
 rw [e2] at this
 rw [this]
theorem getItem_tuple_cut {t sl:Addr} {items:Array Value} {vl vu:Value} {lo hi:Option Int} {Q:Value→Shared→Prop} (ht:IsTup s.heap t items) (hs:s.heap.IsSliceOf sl vl vu .none) (pl:IsPart vl lo) (pu:IsPart vu hi)
  (hw:¬ (sIx items.size 0 lo=0∧sIx items.size items.size hi=items.size))
  (h:Q (.ref s.heap.objs.size) { s with heap:=s.heap.push { cls:=.type "tuple",data:=.seq ((items.toList.drop (sIx items.size 0 lo)).take (sIx items.size items.size hi - sIx items.size 0 lo)).toArray } })
  (hsz:items.size≤sizeLine):wpAny (model prog w) A (getItem (.ref t) (.ref sl)) Q E s:=by
 have htake:sizeOk (.seq ((items.toList.drop (sIx items.size 0 lo)).take (sIx items.size items.size hi - sIx items.size 0 lo)).toArray):=by
  show ((items.toList.drop (sIx items.size 0 lo)).take (sIx items.size items.size hi - sIx items.size 0 lo)).toArray.size≤sizeLine
  rw [List.size_toArray,List.length_take,List.length_drop,Array.length_toList]
  omega
 have hj:sIx items.size items.size hi≤items.size:=BL _ _ (Nat.le_refl _) hi
 obtain ⟨os,hos,hcs,hds⟩:=id hs
 have hTs:s.TypeIs (.ref sl) "slice":=⟨os,hos,hcs⟩
 unfold getItem
 try with_reducible refine wpAny_holding ?_
 first | refine wpAny_bind (wpAny_pure ?_) | skip
 refine wpAny_bind (wpAny_sequenceKey ht.typeIs (by decide) ?_)
 refine wpAny_bind (wpAny_callSpecial?_slot (name:=Str.ofString "__getitem__") ht.typeIs PyProof.Rows.slot_tuple_getitem
  (wpAny_call_entry PyProof.Rows.slot_tuple_getitem ht.typeIs entry_tuple_getitem ?_ (args_tuple_getitem _ _)))
 show wpAny _ _ (Builtin.Tuple.tupleItemsOf (.ref t) >>= _) _ _ s
 refine wpAny_bind (tupleItemsOf_ ht ?_)
 refine wpAny_bind (wpAny_typeOf hTs ?_)
 rw [if_pos (by decide)]
 refine wpAny_bind (fZ hs pl pu ?_)
 have hno:¬ ((((sIx items.size 0 lo:Nat):Int) == 0 && (1:Int) == 1 && (sIx items.size items.size hi - sIx items.size 0 lo) == items.size)=true):=by
  intro q
  rw [Bool.and_eq_true,Bool.and_eq_true] at q
  have q1:((sIx items.size 0 lo:Nat):Int)=0:=eq_of_beq q.1.1
  have q2:sIx items.size items.size hi - sIx items.size 0 lo=items.size:=eq_of_beq q.2
  exact hw ⟨by omega,by omega⟩
 show wpAny _ _ (if (((sIx items.size 0 lo:Nat):Int) == 0 && (1:Int) == 1 && (sIx items.size items.size hi - sIx items.size 0 lo) == items.size)=true then _ else _) _ _ s
 rw [if_neg hno,wU]
 first
  | exact wpAny_bind (m:=Builtin.Tuple.tupleExact _) (wpAny_newObj_type (wpAny_pure ⟨_,rfl,wpAny_pure h⟩) htake)
  | exact wpAny_bind (m:=Builtin.Tuple.tupleExact _) (wpAny_newObj_type (wpAny_bind (wpAny_pure (wpAny_pure ⟨_,rfl,wpAny_pure h⟩))) htake)
  | exact wpAny_bind (wpAny_bind (m:=Builtin.Tuple.tupleExact _) (wpAny_newObj_type (wpAny_pure (wpAny_pure ⟨_,rfl,wpAny_pure h⟩)) htake))
  | exact wpAny_bind (wpAny_bind (m:=Builtin.Tuple.tupleExact _) (wpAny_newObj_type (wpAny_pure ⟨_,rfl,wpAny_pure h⟩) htake))
end
end HT
namespace L2
open PySem PySem.Spec PyProof.Rows
abbrev TO:=St→Hp→(Option Int→Hp→Prop)→Prop
def PO (X:Cx) (e:Option Expr) (t:TO):Prop:=
 ∀ (pins:List (Addr × Obj)) (s:Shared) (σ:St) (H:Hp) (Q:Option Int→Hp→Prop),Inv X pins σ H s→t σ H Q→
  wpAny (model X.prog X.w) X.A (evalPart e X.env) (fun u s'=>∃ o H',Inv X pins σ H' s'∧IsPart u o∧Q o H') X.xe s
def zf:TO:=fun _ H Q=>Q none H
def Dr (t:TE):TO:=fun σ H Q=>t σ H fun x H1=>∃ i,x=.int i∧Q (some i) H1
section
variable {X:Cx} {e:Expr} {te:TE} {lo hi:Option Expr} {tl th:TO} {pos p2:Pos}
theorem zg:PO X none zf:=by
 intro pins s σ H Q I h
 rw [evalPart_none]
 exact wpAny_pure ⟨none,H,I,.none,h⟩
theorem zh (h:PE X e te):PO X (some e) (Dr te):=by
 intro pins s σ H Q I hw
 rw [evalPart_some]
 refine thn (h pins s σ H _ I hw) fun u s1 zq=>?_
 obtain ⟨x,H1,I1,r1,q1⟩:=zq
 obtain ⟨i,rfl,q⟩:=q1
 obtain ⟨t,rfl⟩:=r1
 exact ⟨some i,H1,I1,.int i t,q⟩
def SlR (X:Cx) (r:V→Option Int→Option Int→Hp→VK→Prop):Prop:=
 ∀ (pins:List (Addr × Obj)) (s:Shared) (σ:St) (H:Hp) (x:V) (v vl vu:Value) (lo hi:Option Int) (sl:Addr) (Q:VK),Inv X pins σ H s→RelV x v→s.heap.IsSliceOf sl vl vu .none→IsPart vl lo→IsPart vu hi→r x lo hi H Q→
  ∃ T id,typeLookup (.type T) "__getitem__" = pure (some (.builtin id))∧s.TypeIs v T∧wpAny (model X.prog X.w) X.A (getItem v (.ref sl)) (EP X pins σ Q) X.xe s
def tSl (r:V→Option Int→Option Int→Hp→VK→Prop) (te:TE) (tl th:TO):TE:=fun σ H Q=>te σ H fun x H1=>tl σ H1 fun l H2=>th σ H2 fun u H3=>r x l u H3 Q
theorem wV {r:V→Option Int→Option Int→Hp→VK→Prop} (hr:SlR X r) (he:PE X e te) (hl:PO X lo tl) (hu:PO X hi th):PE X (.Subscript e (.Slice lo hi none p2) pos) (tSl r te tl th):=by
 intro pins s σ H Q I h
 refine Subscript_ (thn (he pins s σ H _ I h) fun v s1 zq=>?_)
 obtain ⟨x,H1,I1,r1,q1⟩:=zq
 refine wpAny_Slice (thn (hl pins s1 σ H1 _ I1 q1) fun vl s2 zq=>ex5 zq fun l H2 I2 pl q2=>thn (hu pins s2 σ H2 _ I2 q2) fun vu s3 zq=>?_)
 obtain ⟨u,H3,I3,pu,q3⟩:=zq
 rw [evalPart_none]
 refine wpAny_pure ?_
 have I4:Inv X pins σ H3 { s3 with heap:=s3.heap.push { cls:=.type "slice",data:=.fields #[vl,vu,.none] } }:=I3.kept (t':=s3.toks) fun b ob q=>Heap.get?_push_of_some _ q
 obtain ⟨T,id,hT,ht,hg⟩:=hr pins { s3 with heap:=s3.heap.push { cls:=.type "slice",data:=.fields #[vl,vu,.none] } } σ H3 x v vl vu l u s3.heap.objs.size Q I4 r1 (Heap.IsSliceOf.new ..) pl pu q3
 show wpAny (model X.prog X.w) X.A (subscriptTail e (.Slice lo hi none p2) v (.ref s3.heap.objs.size)) (EP X pins σ Q) X.xe { s3 with heap:=s3.heap.push { cls:=.type "slice",data:=.fields #[vl,vu,.none] } }
 exact tail_any (ops:=[.ref s3.heap.objs.size,v]) ht hT hg (by with_unfolding_all rfl)
def qu (xs:List V) (lo hi:Option Int):List V:=(xs.drop (HT.sIx xs.length 0 lo)).take (HT.sIx xs.length xs.length hi - HT.sIx xs.length 0 lo)
theorem j6 (xs:List V) (lo hi:Option Int):(qu xs lo hi).length≤xs.length:=by
 unfold qu
 rw [List.length_take,List.length_drop]
 omega
def Ef (K:PySem.W.Frag):V→Option Int→Option Int→Hp→VK→Prop:=fun x lo hi H Q=>∃ a xs,x=.ref a∧SqT K H a xs∧
 ¬ (HT.sIx xs.length 0 lo=0∧HT.sIx xs.length xs.length hi=xs.length)∧∀ p,H p=none→Q (.ref p) (upd H p (.tup (qu xs lo hi)))
theorem BM:SlR X (Ef X.K):=by
 intro pins s σ H x v vl vu lo hi sl Q I rx hs pl pu h
 obtain ⟨a,xs,rfl,hx,hw,q⟩:=h
 cases rx
 obtain ⟨its,r,ht,hz⟩:=I.tuple hx
 have hlen:its.toArray.size=xs.length:=by rw [List.size_toArray]; exact r.length.symm
 refine ⟨"tuple",_,PyProof.Rows.slot_tuple_getitem.lookup,ht.typeIs,?_⟩
 refine HT.getItem_tuple_cut ht hs pl pu (by rw [hlen]; exact hw) ?_ (by rw [hlen]; exact hz)
 rw [hlen]
 refine ⟨.ref s.heap.objs.size,_,I.laid (t':=s.toks) (o:=.tup (qu xs lo hi)) (fun b ob q=>Heap.get?_push_of_some _ q) (Nat.le_refl _) ?_,rfl,q _ (I.hok.fresh (Nat.le_refl _))⟩
 exact ⟨Nat.le_trans (j6 xs lo hi) hz,_,(r.drop (HT.sIx xs.length 0 lo)).take (HT.sIx xs.length xs.length hi - HT.sIx xs.length 0 lo),IsTup.new _ _⟩
def Ds (K:PySem.W.Frag):R2:=fun x y H Q=>∃ a b xs ys,x=.ref a∧y=.ref b∧SqT K H a xs∧SqT K H b ys∧xs ≠ []∧xs.length + ys.length≤sizeLine∧
 (ys=[]→Q (.ref a) H)∧(ys ≠ []→∀ p,H p=none→Q (.ref p) (upd H p (.tup (xs ++ ys))))
theorem Vals.nil_iff {xs:List V} {us:List Value} (r:Vals xs us):us=[]↔xs=[]:=by
 cases r with
 | nil=>simp
 | cons _ _=>simp
theorem zi:OpR X (binaryOp .Add) (Ds X.K):=by
 intro pins s σ H x y v u Q I rx ry h
 obtain ⟨a,b,xs,ys,rfl,rfl,ha,hb,hx,hz,q1,q2⟩:=h
 cases rx
 cases ry
 obtain ⟨its,r1,p1,_⟩:=I.tuple ha
 obtain ⟨its2,r2,p2,_⟩:=I.tuple hb
 refine HT.cat_tup p1 p2 (fun z=>hx (r1.nil_iff.mp z)) (fun z=>⟨.ref a,H,I,rfl,q1 (r2.nil_iff.mp z)⟩) (fun z=>?_) (by rw [← r1.length,← r2.length]; exact hz)
 refine ⟨.ref s.heap.objs.size,_,I.laid (t':=s.toks) (o:=.tup (xs ++ ys)) (fun b ob q=>Heap.get?_push_of_some _ q) (Nat.le_refl _) ?_,rfl,q2 (fun w=>z (r2.nil_iff.mpr w)) _ (I.hok.fresh (Nat.le_refl _))⟩
 exact ⟨by rw [List.length_append]; exact hz,_,r1.append r2,IsTup.new _ _⟩
end
end L2
namespace L2
open PySem PySem.Spec PyProof.Rows
def ixN (n:Nat) (i:Int):Option Nat:=if 0≤i then (if i < n then some i.toNat else none) else if -(n:Int)≤i then some (i + n).toNat else none
def atI {α:Type} (xs:List α) (i:Int):Option α:=(ixN xs.length i).bind fun j=>xs[j]?
theorem uj {n:Nat} {i:Int} {j:Nat} (h:ixN n i=some j):seqIndex? i n=some j∧j < n∧-(n:Int)≤i∧i < n:=by
 unfold ixN at h
 by_cases h0:0≤i
 ·rw [if_pos h0] at h
  by_cases h1:i < n
  ·rw [if_pos h1] at h
   have e:i.toNat=j:=Option.some.inj h
   exact ⟨by rw [seqIndex_of h0 h1,e],by omega,by omega,h1⟩
  ·rw [if_neg h1] at h; cases h
 ·rw [if_neg h0] at h
  by_cases h1:-(n:Int)≤i
  ·rw [if_pos h1] at h
   have e:(i + n).toNat=j:=Option.some.inj h
   exact ⟨by rw [seqIndex_neg (by omega) h1,e],by omega,h1,by omega⟩
  ·rw [if_neg h1] at h; cases h
theorem ow {α:Type} {xs:List α} {i:Int} {v:α} (h:atI xs i=some v):∃ j,seqIndex? i xs.length=some j∧xs[j]?=some v∧j < xs.length∧-(xs.length:Int)≤i∧i < xs.length:=by
 unfold atI at h
 cases e:ixN xs.length i with
 | none=>rw [e] at h; cases h
 | some j=>
  rw [e] at h
  obtain ⟨h1,h2,h3,h4⟩:=uj e
  exact ⟨j,h1,h,h2,h3,h4⟩
theorem zj {α:Type} {xs:List α} {j:Nat} {v:α} (h:xs[j]?=some v):atI xs (j:Int)=some v:=by
 have hj:j < xs.length:=(List.getElem?_eq_some_iff.mp h).1
 have e:ixN xs.length (j:Int)=some j:=by
  unfold ixN
  rw [if_pos (by omega),if_pos (by omega)]; simp
 unfold atI; rw [e]; exact h
def um (b:Expr):Prop:=∀ o i,subscripted b false o i=operate [o,i] (getItem o i)
def IxR (X:Cx) (r:R2):Prop:=
 ∀ (value slice:Expr) (pins:List (Addr × Obj)) (s:Shared) (σ:St) (H:Hp) (x y:V) (v u:Value) (Q:VK),Inv X pins σ H s→RelV x v→RelV y u→r x y H Q→
  subscripted slice false v u=operate [v,u] (getItem v u)→wpAny (model X.prog X.w) X.A (subscriptTail value slice v u) (EP X pins σ Q) X.xe s
def MtR (X:Cx) (id:String) (r:V→List V→Hp→VK→Prop):Prop:=
 ∀ (pins:List (Addr × Obj)) (s:Shared) (σ:St) (H:Hp) (x:V) (xs:List V) (v:Value) (us:List Value) (Q:VK),Inv X pins σ H s→RelV x v→Vals xs us→r x xs H Q→
  wpAny (model X.prog X.w) X.A (call (.builtin id) (v :: us)) (EP X pins σ Q) X.xe s
section
variable {X:Cx} {a b:Expr} {ta tb:TE} {pos:Pos}
theorem IxR.or {r r':R2} (h:IxR X r) (h':IxR X r'):IxR X (fun x y H Q=>r x y H Q ∨ r' x y H Q):=by
 intro value slice pins s σ H x y v u Q I rx ry q hs
 rcases q with q | q
 ·exact h value slice pins s σ H x y v u Q I rx ry q hs
 ·exact h' value slice pins s σ H x y v u Q I rx ry q hs
theorem Dt {r:R2} (hr:IxR X r) (ha:PE X a ta) (hb:PE X b tb) (hs:um b):PE X (.Subscript a b pos) (tOp r ta tb):=by
 intro pins s σ H Q I h
 exact Subscript_ (Bw ha hb I h fun v u s2 x y H2 I2 rx ry q=>hr a b pins s2 σ H2 x y v u Q I2 rx ry q (hs _ _))
def Du (K:PySem.W.Frag):R2:=fun x y H Q=>∃ p xs i v,x=.ref p∧y=.int i∧SqL K H p xs∧atI xs i=some v∧Q v H
def Dv (K:PySem.W.Frag):R2:=fun x y H Q=>∃ p xs i v,x=.ref p∧y=.int i∧SqT K H p xs∧atI xs i=some v∧Q v H
def Dw:R2:=fun x y H Q=>∃ z i c,x=.str z∧y=.int i∧z.length≤sizeLine∧atI z.cps.toList i=some c∧Q (.str ⟨#[c]⟩) H
theorem zk:IxR X (Du X.K):=by
 intro value slice pins s σ H x y v u Q I rx ry h hs
 obtain ⟨p,xs,i,z,rfl,rfl,hq,he,q⟩:=h
 cases rx
 obtain ⟨t,rfl⟩:=ry
 obtain ⟨its,r,pl,hz⟩:=I.list hq
 obtain ⟨j,h1,h2,h3,h4,h5⟩:=ow he
 obtain ⟨w,ew,rw'⟩:=r.get h2
 have hl:=r.length
 have hn:=jJ
 have fin:EP X pins σ Q w s:=⟨z,H,I,rw',q⟩
 by_cases h0:0≤i
 ·have hj:i.toNat=j:=by
   rw [seqIndex_of h0 h5] at h1
   exact Option.some.inj h1
  exact item_listR pl.isList h0 (by omega) (by rw [hj]; simpa using ew) fin hs
 ·have hj:(i + (its.toArray.size:Int)).toNat=j:=by
   rw [seqIndex_neg (by omega) h4] at h1
   rw [List.size_toArray,← hl]
   exact Option.some.inj h1
  exact subscriptTail_builtinR (x:=w) pl.isList.typeIs slot_list_getitem.lookup
   (wpAny_getItem_list_neg (Q:=fun r s'=>r=w∧EP X pins σ Q r s') pl.isList (by omega) (by rw [List.size_toArray] <;> omega) (by omega) (by rw [hj]; simpa using ew) ⟨rfl,fin⟩) hs
theorem oy:IxR X (Dv X.K):=by
 intro value slice pins s σ H x y v u Q I rx ry h hs
 obtain ⟨p,xs,i,z,rfl,rfl,hq,he,q⟩:=h
 cases rx
 obtain ⟨t,rfl⟩:=ry
 obtain ⟨its,r,pl,hz⟩:=I.tuple hq
 obtain ⟨j,h1,h2,h3,h4,h5⟩:=ow he
 obtain ⟨w,ew,rw'⟩:=r.get h2
 have hl:=r.length
 have hn:=jJ
 have fin:EP X pins σ Q w s:=⟨z,H,I,rw',q⟩
 exact subscriptTail_builtinR (x:=w) pl.typeIs slot_tuple_getitem.lookup
  (getItem_tuple (j:=j) (Q:=fun r s'=>r=w∧EP X pins σ Q r s') pl (by omega) (by omega) (by rw [List.size_toArray,← hl]; exact h1) (by simpa using ew) ⟨rfl,fin⟩) hs
theorem BN:IxR X Dw:=by
 intro value slice pins s σ H x y v u Q I rx ry h hs
 obtain ⟨z,i,c,rfl,rfl,hz,he,q⟩:=h
 obtain ⟨t,rfl⟩:=rx
 obtain ⟨t',rfl⟩:=ry
 obtain ⟨j,h1,h2,h3,h4,h5⟩:=ow he
 have hl:z.cps.toList.length=z.length:=by simp [Str.length]
 rw [hl] at h1 h4 h5
 have hn:=jJ
 exact tail_any (typeIs_str s z t) slot_str_getitem.lookup (getItem_str (c:=c) (by
  have e1:decide (i < -(2 ^ 63:Int))=false:=decide_eq_false (by omega)
  have e2:decide (i ≥ 2 ^ 63)=false:=decide_eq_false (by omega)
  rw [e1,e2,Bool.or_false]) (by rw [h1]; simpa using h2) ⟨.str ⟨#[c]⟩,H,I.tok _,⟨_,rfl⟩,q⟩) hs
def rIx (K:PySem.W.Frag):R2:=fun x y H Q=>Du K x y H Q ∨ Dv K x y H Q ∨ Dw x y H Q
theorem BO:IxR X (rIx X.K):=zk.or (oy.or BN)
theorem sv (its:List Value) (n j:Nat) (u:Value):Obj.mapSeq (·.setIfInBounds j u) { cls:=.type "list",data:=.seq its.toArray n }={ cls:=.type "list",data:=.seq (its.set j u).toArray n }:=by
 simp [Obj.mapSeq]
theorem Inv.lst {pins:List (Addr × Obj)} {σ:St} {H:Hp} {s:Shared} {p:Addr} {xs:List V} (I:Inv X pins σ H s) (h:H p=some (.lst xs)):
  ∃ (its:List Value) (n:Nat),Vals xs its∧s.heap.get? p=some { cls:=.type "list",data:=.seq its.toArray n }∧xs.length≤sizeLine:=by
 obtain ⟨z,its,n,r,e⟩:=I.hok p _ h
 exact ⟨its,n,r,e,z⟩
theorem Inv.lstUpd {pins:List (Addr × Obj)} {σ:St} {H:Hp} {s:Shared} {p:Addr} {xs ys:List V} {its its':List Value} {n n':Nat} {f:Obj→Obj} (I:Inv X pins σ H s) (h:H p=some (.lst xs))
  (ho:s.heap.get? p=some { cls:=.type "list",data:=.seq its.toArray n }) (hf:f { cls:=.type "list",data:=.seq its.toArray n }={ cls:=.type "list",data:=.seq its'.toArray n' }) (r:Vals ys its') (hz:ys.length≤sizeLine) (t:Nat):
  Inv X pins σ (upd H p (.lst ys)) { s with heap:=s.heap.update p f,toks:=t }:=by
 have e:(s.heap.update p f).get? p=some { cls:=.type "list",data:=.seq its'.toArray n' }:=by
  rw [Heap.get?_update_self f ho (by rw [hf] <;> rfl),hf]
 refine I.write (x:=p) (e:=p) (by rw [h]; trivial) (.inl rfl) (fun b u hb q=>(Heap.get?_update_other _ _ (Ne.symm hb)).trans q) ⟨_,e⟩ ?_
 exact ⟨hz,its',n',r,e⟩
def Dx:V→V→V→Hp→(Hp→Prop)→Prop:=fun o i v H Q=>∃ p xs k j,o=.ref p∧i=.int k∧H p=some (.lst xs)∧ixN xs.length k=some j∧Q (upd H p (.lst (xs.set j v)))
theorem set_list:ou X Dx:=by
 intro pins s σ H o i v ov iv u Q I ro ri rv h
 obtain ⟨p,xs,k,j,rfl,rfl,hp,hj,q⟩:=h
 cases ro
 obtain ⟨t,rfl⟩:=ri
 obtain ⟨its,n,r,ho,hz⟩:=I.lst hp
 obtain ⟨h1,h2,h3,h4⟩:=uj hj
 have hl:=r.length
 have hn:=jJ
 have I':Inv X pins σ (upd H p (.lst (xs.set j v))) { s with heap:=s.heap.update p (Obj.mapSeq (·.setIfInBounds j u)) }:=
  I.lstUpd hp ho (sv its n j u) (r.set rv j) (by rw [List.length_set]; exact hz) s.toks
 by_cases h0:0≤k
 ·have hk:k.toNat=j:=by
   rw [seqIndex_of h0 h4] at h1
   exact Option.some.inj h1
  exact PySem.W.ki_setAt ho h0 (by omega) (by rw [List.size_toArray,← hl]; exact h4) (by rw [hk]; exact ⟨_,I',q⟩)
 ·have hk:(k + (its.toArray.size:Int)).toNat=j:=by
   rw [seqIndex_neg (by omega) h3] at h1
   rw [List.size_toArray,← hl]
   exact Option.some.inj h1
  exact PySem.W.ki_setBack ho (by omega) (by rw [List.size_toArray,← hl]; exact h3) (by omega) (by rw [hk]; exact ⟨_,I',q⟩)
theorem oz (lo hi:Option Int) (n:Nat):(sliceBounds lo hi none n).1=((HT.sIx n 0 lo:Nat):Int)∧(sliceBounds lo hi none n).2.1=((HT.sIx n n hi:Nat):Int)∧(sliceBounds lo hi none n).2.2=1:=by
 refine ⟨?_,?_,rfl⟩
 ·cases lo with
  | none=>simp [sliceBounds,HT.sIx]
  | some i=>
   simp only [sliceBounds,HT.sIx,Option.getD_none,show (1:Int) > 0 by decide,if_true]
   by_cases h:i < 0
   ·simp only [h,if_true] <;> omega
   ·simp only [h,if_false] <;> omega
 ·cases hi with
  | none=>simp [sliceBounds,HT.sIx]
  | some i=>
   simp only [sliceBounds,HT.sIx,Option.getD_none,show (1:Int) > 0 by decide,if_true]
   by_cases h:i < 0
   ·simp only [h,if_true] <;> omega
   ·simp only [h,if_false] <;> omega
theorem mP (its:List Value) (lo hi:Option Int):slicePick its.toArray lo hi none=((its.drop (HT.sIx its.length 0 lo)).take (HT.sIx its.length its.length hi - HT.sIx its.length 0 lo)).toArray:=by
 obtain ⟨h1,h2,h3⟩:=oz lo hi its.toArray.size
 unfold slicePick
 rw [h1,h2,h3]
 simp only [sliceRange_one,pick_run,List.size_toArray] <;> rfl
def Eg (K:PySem.W.Frag):V→Option Int→Option Int→Hp→VK→Prop:=fun x lo hi H Q=>∃ a xs,x=.ref a∧SqL K H a xs∧∀ p,H p=none→Q (.ref p) (upd H p (.lst (qu xs lo hi)))
theorem zm:SlR X (Eg X.K):=by
 intro pins s σ H x v vl vu lo hi sl Q I rx hs pl pu h
 obtain ⟨a,xs,rfl,hx,q⟩:=h
 cases rx
 obtain ⟨its,r,ht,hz⟩:=I.list hx
 have hlen:=r.length
 refine ⟨"list",_,slot_list_getitem.lookup,ht.isList.typeIs,?_⟩
 refine wpAny_getItem_list_slice ht.isList hs pl pu .none (by simp) ?_ (by rw [List.size_toArray] <;> omega)
 rw [mP,← hlen]
 refine ⟨.ref s.heap.objs.size,_,I.laid (t':=s.toks) (o:=.lst (qu xs lo hi)) (fun b ob q=>Heap.get?_push_of_some _ q) (Nat.le_refl _) ?_,rfl,q _ (I.hok.fresh (Nat.le_refl _))⟩
 exact ⟨Nat.le_trans (j6 xs lo hi) hz,_,0,(r.drop (HT.sIx xs.length 0 lo)).take (HT.sIx xs.length xs.length hi - HT.sIx xs.length 0 lo),Heap.get?_push_size _ rfl⟩
theorem oA:cI X (.builtin "len") (fun xs H Q=>∃ p ys,xs=[.ref p]∧(SqL X.K H p ys ∨ SqT X.K H p ys)∧Q (.int ys.length) H):=by
 intro pins s σ H xs us Q I r h
 obtain ⟨p,ys,rfl,hq,q⟩:=h
 obtain ⟨u,rfl,rx⟩:=vals1 r
 cases rx
 have hn:=jJ
 rcases hq with hq | hq
 ·obtain ⟨its,r',pl,hz⟩:=I.list hq
  have hlen:=r'.length
  exact Calls.call_len_list pl.isList (by simp only [List.size_toArray] <;> omega) ⟨.int ys.length,H,I.tok _,⟨s.toks + 1,by rw [List.size_toArray,hlen]⟩,q⟩
 ·obtain ⟨its,r',pl,hz⟩:=I.tuple hq
  have hlen:=r'.length
  exact len_tuple pl (by simp only [List.size_toArray] <;> omega) ⟨.int ys.length,H,I.tok _,⟨s.toks + 1,by rw [List.size_toArray,hlen]⟩,q⟩
theorem oB:cI X (.builtin "len") (fun xs H Q=>∃ z,xs=[.str z]∧z.length≤sizeLine∧Q (.int z.length) H):=by
 intro pins s σ H xs us Q I r h
 obtain ⟨z,rfl,hz,q⟩:=h
 obtain ⟨u,rfl,t,rfl⟩:=vals1 r
 have hn:=jJ
 exact len_str (by omega) ⟨.int z.length,H,I.tok _,⟨_,rfl⟩,q⟩
theorem iL:cI X (.type "tuple") (fun xs H Q=>∃ p ys,xs=[.ref p]∧((SqL X.K H p ys∧∀ l,H l=none→Q (.ref l) (upd H l (.tup ys))) ∨ (SqT X.K H p ys∧Q (.ref p) H))):=by
 intro pins s σ H xs us Q I r h
 obtain ⟨p,ys,rfl,h⟩:=h
 obtain ⟨u,rfl,rx⟩:=vals1 r
 cases rx
 rcases h with ⟨hq,q⟩ | ⟨hq,q⟩
 ·obtain ⟨its,r',pl,hz⟩:=I.list hq
  have hlen:=r'.length
  refine call_tuple_list pl.isList (fun h' kp=>?_) (by simp only [List.size_toArray] <;> omega)
  have I1:Inv X pins σ H { s with heap:=h' }:=I.kept (t':=s.toks) kp
  have I2:Inv X pins σ (upd H h'.objs.size (.tup ys)) { s with heap:=h'.push { cls:=.type "tuple",data:=.seq its.toArray } }:=
   I1.laid (t':=s.toks) (fun b o e=>Heap.get?_push_of_some _ e) (Nat.le_refl _) (show bF X.prog X.w _ _ _ (.tup ys) from ⟨hz,its,r',IsTup.new _ _⟩)
  exact ⟨.ref h'.objs.size,_,I2,rfl,q _ (I1.hok.fresh (Nat.le_refl _))⟩
 ·obtain ⟨its,r',pl,hz⟩:=I.tuple hq
  exact call_tuple_same pl ⟨.ref p,H,I,rfl,q⟩
def tyV (K:PySem.W.Frag) (T:String) (x:V) (H:Hp):Prop:=match x with
 | .str _=>T = "str"
 | .int _=>T = "int"
 | .ref p=>(T = "list"∧∃ xs,SqL K H p xs) ∨ (T = "tuple"∧∃ o,K.lookup p=some o∧o.cls=.type "tuple"∧o.dict=none) ∨
   (T = "dict"∧((∃ kvs,H p=some (.dK kvs)) ∨ ∃ kvs,H p=some (.dT kvs))) ∨ (T = "set"∧∃ S n,H p=some (.set S n))
 | _=>False
theorem BP {pins:List (Addr × Obj)} {σ:St} {H:Hp} {s:Shared} {T:String} {x:V} {v:Value} (I:Inv X pins σ H s) (r:RelV x v) (ty:tyV X.K T x H):
  s.TypeIs v T∧∀ a,v=.ref a→∃ ob,s.heap.get? a=some ob∧ob.dict=none:=by
 cases x with
 | str z=>
  obtain ⟨t,rfl⟩:=r
  cases (show T = "str" from ty)
  exact ⟨typeIs_str s z t,fun _ e=>nomatch e⟩
 | int i=>
  obtain ⟨t,rfl⟩:=r
  cases (show T = "int" from ty)
  exact ⟨typeIs_int s i t,fun _ e=>nomatch e⟩
 | ref p=>
  cases r
  rcases ty with ⟨rfl,xs,hq⟩ | ⟨rfl,o,hk,hc,hd⟩ | ⟨rfl,hk⟩ | ⟨rfl,S,n,hk⟩
  ·obtain ⟨its,_,pl,_⟩:=I.list hq
   refine ⟨pl.isList.typeIs,fun a e=>?_⟩
   cases e
   obtain ⟨o,n,e,c,hd,_⟩:=pl
   exact ⟨o,e,hd⟩
  ·refine ⟨⟨o,I.kIn p o hk,hc⟩,fun a e=>?_⟩
   cases e
   exact ⟨o,I.kIn _ o hk,hd⟩
  ·have z:∃ o,s.heap.get? p=some o∧o.ExactDict:=by
    rcases hk with ⟨kvs,hk⟩ | ⟨kvs,hk⟩
    ·obtain ⟨_,_,_,_,o,_,_,e,ex,_⟩:=I.hok p _ hk
     exact ⟨o,e,ex⟩
    ·obtain ⟨_,_,_,_,o,_,_,e,ex,_⟩:=I.hok p _ hk
     exact ⟨o,e,ex⟩
   obtain ⟨o,e,ex⟩:=z
   refine ⟨⟨o,e,ex.1⟩,fun a e2=>?_⟩
   cases e2
   exact ⟨o,e,ex.2.1⟩
  ·obtain ⟨o,_,_,_,e,ex,_⟩:=I.hok p _ hk
   refine ⟨⟨o,e,ex.1⟩,fun a e2=>?_⟩
   cases e2
   exact ⟨o,e,ex.2.1⟩
 | _=>exact False.elim ty
def tBM (K:PySem.W.Frag) (T:String) (r:V→List V→Hp→VK→Prop) (to:TE) (t:TA):TE:=fun σ H Q=>to σ H fun x H1=>tyV K T x H1∧t σ H1 fun xs H2=>r x xs H2 Q
variable {o e:Expr} {es:List Expr} {to:TE} {t:TA} {name:Str} {apos cpos:Pos} {T id:String} {r:V→List V→Hp→VK→Prop}
theorem Dy (pa:PlainAttrs T) (slot:Slot T name id) (hty:typeOf (.builtin id)=pure (.type "method_descriptor")) (hm:MtR X id r) (ho:PE X o to) (ha:PA X (e :: es) t)
  (hbase:autoParam (attributeBase o name X.env (eval o X.env)=eval o X.env) Au.h1._auto_1)
  (hfew:autoParam (((backTo cpos (starEach (e :: es) X.env)).all (fun x=>!x.1) && (backToKw cpos (keywordEach [] X.env)).all (fun x=>x.1.isSome)
   && decide ((e :: es).length + ([]:List Keyword).length + (if ([]:List Keyword).isEmpty then 0 else 1) < 30))=true) Au.h1._auto_1)
  (hline:autoParam ((apos.endLine == cpos.line)=true) Au.h1._auto_1) (hs:autoParam (starEach (e :: es) X.env=(false,eval e X.env) :: starEach es X.env) Au.h1._auto_1) (hplain:autoParam ((backTo cpos (starEach es X.env)).any (·.1)=false) Au.h1._auto_1):
  PE X (.Call (.Attribute o name apos) (e :: es) [] cpos) (tBM X.K T r to t):=by
 intro pins s σ H Q I h
 refine wpAny_Call_method_late hbase hfew hline rfl (thn (ho pins s σ H _ I h) fun v s1 zq=>?_)
 obtain ⟨x,H1,I1,r1,ty,q1⟩:=zq
 obtain ⟨h1,h2⟩:=BP I1 r1 ty
 refine ⟨T,id,pa,slot,hty,h1,h2,?_⟩
 have hA:=ha cpos pins s1 σ H1 _ I1 q1
 rw [hs] at hA ⊢
 refine Calls.callWith_builtin (by show (false || (backTo cpos (starEach es X.env)).any (·.1))=false; rw [hplain] <;> rfl) (Calls.evalArgs_plain ?_)
 exact thn hA fun us s2 zq=>ex5 zq fun vs H2 I2 r2 q2=>hm pins s2 σ H2 x vs v us Q I2 r1 r2 q2
end
end L2
namespace L2
open PySem PySem.Spec PyProof.Rows
def MtM (X:Cx) (id:String) (r:V→List V→Hp→VK→Prop):Prop:=
 ∀ (pins:List (Addr × Obj)) (s:Shared) (σ:St) (H:Hp) (x:V) (xs:List V) (v:Value) (us:List Value) (Q:VK),Inv X pins σ H s→RelV x v→Vals xs us→r x xs H Q→
  wpAny (model X.prog X.w) X.A (call (.builtin id) (v :: us)) (EP X pins σ Q) X.xe s
theorem Vals.one:∀ {x:V} {us:List Value},Vals [x] us→∃ u,us=[u]∧RelV x u
 | _,_,.cons r .nil=>⟨_,rfl,r⟩
theorem Vals.eraseIdx:∀ {xs:List V} {us:List Value} (i:Nat),Vals xs us→Vals (xs.eraseIdx i) (us.eraseIdx i)
 | _,_,_,.nil=>.nil
 | _,_,0,.cons _ t=>t
 | _,_,i + 1,.cons r t=>.cons r (Vals.eraseIdx i t)
theorem Vals.rep {xs:List V} {us:List Value} (h:Vals xs us):∀ k:Nat,Vals (List.replicate k xs).flatten (List.replicate k us).flatten
 | 0=>.nil
 | k + 1=>by
  rw [List.replicate_succ,List.replicate_succ,List.flatten_cons,List.flatten_cons]
  exact Vals.append h (Vals.rep h k)
theorem nj {α:Type}:∀ (l:List α) (i:Nat),(l.eraseIdx i).length≤l.length
 | [],_=>Nat.le_refl _
 | _ :: _,0=>Nat.le_succ _
 | _ :: r,i + 1=>Nat.succ_le_succ (nj r i)
theorem foldl_rep (its:List Value):∀ (k:Nat) (acc:List Value),
  List.foldl (fun x1 x2=>x1 ++ x2) acc.toArray (List.replicate k its.toArray)=(acc ++ (List.replicate k its).flatten).toArray
 | 0,acc=>by simp
 | k + 1,acc=>by
  have e:acc.toArray ++ its.toArray=(acc ++ its).toArray:=by simp
  have e2:(acc ++ its) ++ (List.replicate k its).flatten=acc ++ (List.replicate (k + 1) its).flatten:=by
   rw [List.replicate_succ,List.flatten_cons,List.append_assoc]
  rw [← e2,← foldl_rep its k (acc ++ its),← e,List.replicate_succ,List.foldl_cons]
section
variable {X:Cx} {pins:List (Addr × Obj)} {σ:St} {H:Hp} {s:Shared} {l b:Addr} {xs ys zs:List V}
theorem Inv.lset {its its':List Value} {n:Nat} {f:Array Value→Array Value} {t':Nat} (I:Inv X pins σ H s) (hH:H l=some (.lst xs))
  (e:s.heap.get? l=some { cls:=.type "list",data:=.seq its.toArray n }) (hf:f its.toArray=its'.toArray) (hv:Vals ys its') (hz:ys.length≤sizeLine):
  Inv X pins σ (upd H l (.lst ys)) { s with heap:=s.heap.update l (Obj.mapSeq f),toks:=t' }:=by
 have q:=PySem.IsL.update e f
 rw [hf] at q
 refine I.write (x:=l) (e:=l) (by rw [hH]; exact trivial) (.inl rfl) (fun b' u hb hu=>(Heap.get?_update_other s.heap (Obj.mapSeq f) (Ne.symm hb)).trans hu) ⟨_,q⟩ ?_
 exact ⟨hz,its',_,hv,q⟩
theorem Inv.lnew {its:List Value} {t':Nat} (I:Inv X pins σ H s) (hv:Vals ys its) (hz:ys.length≤sizeLine):
  Inv X pins σ (upd H s.heap.objs.size (.lst ys)) { s with heap:=s.heap.push { cls:=.type "list",data:=.seq its.toArray },toks:=t' }:=
 I.laid (fun _ _ q=>Heap.get?_push_of_some _ q) (Nat.le_refl _) ⟨hz,its,0,hv,Heap.get?_push_size _ rfl⟩
theorem Inv.fresh (I:Inv X pins σ H s):H s.heap.objs.size=none:=I.hok.fresh (Nat.le_refl _)
theorem Inv.lstM (I:Inv X pins σ H s) (hH:H l=some (.lst xs)):xs.length≤sizeLine∧∃ (its:List Value) (n:Nat),Vals xs its∧xs.length=its.length∧s.heap.get? l=some { cls:=.type "list",data:=.seq its.toArray n }:=by
 obtain ⟨z,its,n,r,e⟩:=I.hok l _ hH
 exact ⟨z,its,n,r,r.length,e⟩
theorem wW {n:Nat} (h:n≤sizeLine):Builtin.List.listTooLong n=false:=by
 unfold Builtin.List.listTooLong
 exact decide_eq_false (by omega)
end
section
variable {X:Cx}
def zo:V→List V→Hp→VK→Prop:=fun x vs H Q=>∃ l xs y,x=.ref l∧vs=[y]∧H l=some (.lst xs)∧xs.length < sizeLine∧Q .non (upd H l (.lst (xs ++ [y])))
theorem nq:MtM X "list.append" zo:=by
 intro pins s σ H x vs v us Q I rx rv h
 obtain ⟨l,xs,y,rfl,rfl,hH,hz,q⟩:=h
 cases rx
 obtain ⟨u,rfl,ru⟩:=rv.one
 obtain ⟨z,its,n,r,hl,e⟩:=I.lstM hH
 refine call_meets F.slot_list_append ⟨_,e,rfl⟩ F.entry_list_append (F.args_list_append_2 _ _) (PySem.list_append l its.toArray n u (by rw [List.size_toArray]; omega)) ⟨e,?_⟩
 refine ⟨.non,_,I.lset (its':=its ++ [u]) hH e (by simp) (r.append (.cons ru .nil)) ?_,rfl,q⟩
 rw [List.length_append,List.length_singleton]
 omega
def BQ:V→List V→Hp→VK→Prop:=fun x vs H Q=>∃ l xs i k y,x=.ref l∧vs=[.int i]∧H l=some (.lst xs)∧-(2 ^ 63)≤i∧i < 2 ^ 63∧seqIndex? i xs.length=some k∧xs[k]?=some y∧Q y (upd H l (.lst (xs.eraseIdx k)))
theorem wX:MtM X "list.pop" BQ:=by
 intro pins s σ H x vs v us Q I rx rv h
 obtain ⟨l,xs,i,k,y,rfl,rfl,hH,h1,h2,hk,hy,q⟩:=h
 cases rx
 obtain ⟨u,rfl,ru⟩:=rv.one
 obtain ⟨t,rfl⟩:=ru
 obtain ⟨z,its,n,r,hl,e⟩:=I.lstM hH
 obtain ⟨w,hw,rw'⟩:=r.get hy
 refine call_meets F.slot_list_pop ⟨_,e,rfl⟩ F.entry_list_pop (F.args_list_pop_2 _ _)
  (MeetsSeq.list_pop_at l its.toArray n i t k w (fitsIndex_both h1 h2) (by rw [List.size_toArray,← hl]; exact hk) (by rw [← Array.getElem?_toList]; exact hw) (by rw [List.size_toArray]; omega)) ⟨e,?_⟩
 refine ⟨y,_,I.lset (its':=its.eraseIdx k) hH e ?_ (r.eraseIdx k) ?_,rw',q⟩
 ·show its.toArray.eraseIdxIfInBounds k=(its.eraseIdx k).toArray
  rw [List.eraseIdxIfInBounds_toArray]
 ·have:=nj xs k
  omega
def Eh:R2:=fun x y H Q=>∃ l b xs zs,x=.ref l∧y=.ref b∧H l=some (.lst xs)∧H b=some (.lst zs)∧xs.length + zs.length≤sizeLine∧∀ p,H p=none→Q (.ref p) (upd H p (.lst (xs ++ zs)))
theorem BR:OpR X (binaryOp .Add) Eh:=by
 intro pins s σ H x y v u Q I rx ry h
 obtain ⟨l,b,xs,zs,rfl,rfl,hH,hB,hz,q⟩:=h
 cases rx
 cases ry
 obtain ⟨z,its,n,r,hl,e⟩:=I.lstM hH
 obtain ⟨z2,its2,n2,r2,hl2,e2⟩:=I.lstM hB
 refine PySem.P.add_list e e2 ?_ (by rw [List.size_toArray,List.size_toArray]; omega)
 have ea:its.toArray ++ its2.toArray=(its ++ its2).toArray:=by simp
 rw [ea]
 exact ⟨.ref _,_,I.lnew (t':=s.toks) (r.append r2) (by rw [List.length_append]; omega),rfl,q _ I.fresh⟩
def Ei:R2:=fun x y H Q=>∃ l k xs,x=.ref l∧y=.int k∧H l=some (.lst xs)∧-(2 ^ 63)≤k∧k < 2 ^ 63∧xs.length * k.toNat≤sizeLine∧
 ∀ p,H p=none→Q (.ref p) (upd H p (.lst (List.replicate k.toNat xs).flatten))
theorem len_rep {α:Type} (xs:List α) (k:Nat):(List.replicate k xs).flatten.length=k * xs.length:=by
 induction k with
 | zero=>simp
 | succ k ih=>rw [List.replicate_succ,List.flatten_cons,List.length_append,ih,Nat.succ_mul,Nat.add_comm]
theorem BS:OpR X (binaryOp .Mult) Ei:=by
 intro pins s σ H x y v u Q I rx ry h
 obtain ⟨l,k,xs,rfl,rfl,hH,h1,h2,hz,q⟩:=h
 cases rx
 obtain ⟨t,rfl⟩:=ry
 obtain ⟨z,its,n,r,hl,e⟩:=I.lstM hH
 have hlen:its.toArray.size * k.toNat≤sizeLine:=by rw [List.size_toArray,← hl]; exact hz
 have hcap:¬ its.toArray.size * k.toNat > (2 ^ 63 - 1) / 8:=by
  have:(sizeLine:Nat)≤(2 ^ 63 - 1) / 8:=by decide
  omega
 have hfit:¬ (!Builtin.List.listFitsIndex k)=true:=by
  rw [fitsIndex_both h1 h2]
  exact Bool.false_ne_true
 have hlong:¬ Builtin.List.listTooLong (its.toArray.size * k.toNat)=true:=by
  rw [wW hlen]
  exact Bool.false_ne_true
 have hnew:List.foldl (fun x1 x2=>x1 ++ x2) #[] (List.replicate (if its.toArray.isEmpty=true then 0 else k.toNat) its.toArray)=(List.replicate k.toNat its).flatten.toArray:=by
  have f0:∀ m:Nat,List.foldl (fun x1 x2=>x1 ++ x2) #[] (List.replicate m its.toArray)=(List.replicate m its).flatten.toArray:=fun m=>by
   have:=foldl_rep its m []
   rw [List.nil_append] at this
   exact this
  rw [f0]
  cases its with
  | nil=>simp
  | cons a r'=>rw [if_neg (by simp)]
 refine wpAny_binaryOp_repeat_ref (T:="list") (U:="int") (by decide) ⟨_,e,rfl⟩ (fun s'=>typeIs_int s' k t) noFill_list_mul F.fills_int_mul F.slot_int_rmul repeat_list F.slot_int_index.lookup
  (call_meets F.slot_int_rmul (typeIs_int s k t) F.entry_int_rmul (F.args_int_rmul_2 _ _) (int___rmul___int_list k t l its.toArray n)
   ⟨e,rfl,⟨_,e,rfl⟩,call_meets F.slot_list_mul ⟨_,e,rfl⟩ F.entry_list_mul (F.args_list_mul_2 _ _) (AutoListH.list___mul___list_int_3 l its.toArray n k t hfit hcap hlong) ⟨e,?_⟩⟩)
 rw [hnew]
 exact ⟨.ref _,_,I.lnew (t':=s.toks) (r.rep k.toNat) (by rw [len_rep,Nat.mul_comm]; exact hz),rfl,q _ I.fresh⟩
end
section
variable {prog:Program} {w:World} {A:Around} {E:Value→Shared→Prop} {s:Shared}
end
section
variable {X:Cx}
end
end L2
namespace L2
open PySem PySem.Spec PyProof.Rows
section
variable {κ:Type} [DecidableEq κ]
def gQ (kvs:List (κ × V)) (k:κ):Option V:=(kvs.find? fun kv=>decide (kv.1=k)).map (·.2)
def putK (kvs:List (κ × V)) (k:κ) (v:V):List (κ × V):=
 if (kvs.any fun kv=>decide (kv.1=k))=true then kvs.map (fun kv=>if kv.1=k then (kv.1,v) else kv) else kvs ++ [(k,v)]
theorem kU {p:κ × V} {r:List (κ × V)} {k:κ} (e:p.1=k):gQ (p :: r) k=some p.2:=by simp [gQ,List.find?_cons,e]
theorem kW {p:κ × V} {r:List (κ × V)} {k:κ} (e:¬ p.1=k):gQ (p :: r) k=gQ r k:=by simp [gQ,List.find?_cons,e]
theorem qw (k:κ):∀ kvs:List (κ × V),(kvs.any fun kv=>decide (kv.1=k))=(gQ kvs k).isSome
 | []=>rfl
 | p :: r=>by
  rw [List.any_cons]
  by_cases e:p.1=k
  ·simp only [kU e,decide_eq_true e,Bool.true_or,Option.isSome_some]
  ·rw [kW e,decide_eq_false e,Bool.false_or]; exact qw k r
theorem gZ (kvs:List (κ × V)) (k:κ) (v:V):(putK kvs k v).length≤kvs.length + 1:=by
 unfold putK
 split
 ·rw [List.length_map]; omega
 ·rw [List.length_append,List.length_cons,List.length_nil]; omega
theorem jI.isSome_eq {o:Option V} {u:Option Value} (r:jI o u):o.isSome=u.isSome:=by
 cases o with
 | none=>cases u with
  | none=>rfl
  | some _=>exact (show False from r).elim
 | some _=>cases u with
  | none=>exact (show False from r).elim
  | some _=>rfl
theorem jI.getD {o:Option V} {u:Option Value} {d:V} {d':Value} (r:jI o u) (rd:RelV d d'):RelV (o.getD d) (u.getD d'):=by
 cases o with
 | none=>cases u with
  | none=>exact rd
  | some _=>exact (show False from r).elim
 | some _=>cases u with
  | none=>exact (show False from r).elim
  | some _=>exact r
theorem KV.val {kvs:List (κ × V)} {vs:List (κ × Value)} (r:KV kvs vs) (k:κ):jI (gQ kvs k) (valueAt vs k):=by
 unfold KV at r
 induction r with
 | nil=>exact True.intro
 | @cons p q ps qs h t ih=>
  obtain ⟨h1,h2⟩:=h
  by_cases e:p.1=k
  ·have e':q.1=k:=h1.symm.trans e
   have b:valueAt (q :: qs) k=some q.2:=by simp [valueAt,List.find?_cons,e']
   rw [kU e,b]; exact h2
  ·have e':¬ q.1=k:=fun z=>e (h1.trans z)
   have b:valueAt (q :: qs) k=valueAt qs k:=by simp [valueAt,List.find?_cons,e']
   rw [kW e,b]; exact ih
theorem KV.any {kvs:List (κ × V)} {vs:List (κ × Value)} (r:KV kvs vs) (k:κ):(kvs.any fun kv=>decide (kv.1=k))=vs.any fun kv=>decide (kv.1=k):=by
 unfold KV at r
 induction r with
 | nil=>rfl
 | cons h t ih=>rw [List.any_cons,List.any_cons,ih,h.1]
theorem KV.repl {kvs:List (κ × V)} {vs:List (κ × Value)} (r:KV kvs vs) (k:κ) {y:V} {u:Value} (ry:RelV y u):
  KV (kvs.map fun kv=>if kv.1=k then (kv.1,y) else kv) (vs.map fun kv=>if kv.1=k then (kv.1,u) else kv):=by
 unfold KV at r ⊢
 induction r with
 | nil=>exact .nil
 | @cons p q ps qs h t ih=>
  rw [List.map_cons,List.map_cons]
  refine .cons ?_ ih
  obtain ⟨h1,h2⟩:=h
  by_cases e:p.1=k
  ·rw [if_pos e,if_pos (h1.symm.trans e)]; exact ⟨h1,ry⟩
  ·rw [if_neg e,if_neg (fun z=>e (h1.trans z))]; exact ⟨h1,h2⟩
theorem KV.put {kvs:List (κ × V)} {vs:List (κ × Value)} (r:KV kvs vs) (k:κ) {y:V} {u:Value} (ry:RelV y u):KV (putK kvs k y) (stored vs k u):=by
 unfold putK stored
 rw [r.any k]
 by_cases e:(vs.any fun kv=>decide (kv.1=k))=true
 ·rw [if_pos e,if_pos e]; exact r.repl k ry
 ·rw [if_neg e,if_neg e]; exact Paired.snoc r ⟨rfl,ry⟩
theorem KV.keys {kvs:List (κ × V)} {vs:List (κ × Value)} (r:KV kvs vs):kvs.map (·.1)=vs.map (·.1):=by
 unfold KV at r
 induction r with
 | nil=>rfl
 | cons h t ih=>rw [List.map_cons,List.map_cons,ih,h.1]
theorem KV.length {kvs:List (κ × V)} {vs:List (κ × Value)} (r:KV kvs vs):kvs.length=vs.length:=Paired.length r
end
theorem nr {P:Program} {w:World} {k:Key} {u:Value} (r:RelV (kV k) u):(aX P w).is k u=true:=by
 cases k with
 | inl i=>obtain ⟨t,e⟩:=(show ∃ t,u=Value.int i t from r); subst e; exact ql P w i t
 | inr x=>obtain ⟨t,e⟩:=(show ∃ t,u=Value.str x t from r); subst e; exact qm P w x t
theorem nt {P:Program} {w:World}:∀ {ks:List Key} {us:List Value},Vals (ks.map kV) us→ItemsAre (aX P w) ks us
 | [],_,r=>by rw [List.map_nil] at r; cases r; exact .nil
 | k :: ks,_,r=>by
  rw [List.map_cons] at r
  cases r with
  | cons h t=>exact .cons (nr h) (nt t)
abbrev KT (H:Hp):List (List Key × V)→List (List Key × Addr × Value)→Prop:=Paired fun p q=>p.1=q.1∧H q.2.1=some (.tup (p.1.map kV))∧RelV p.2 q.2.2
theorem KT.val {H:Hp} {kvs:List (List Key × V)} {xs:List (List Key × Addr × Value)} (r:KT H kvs xs) (k:List Key):jI (gQ kvs k) ((atKey xs k).map (·.2)):=by
 induction r with
 | nil=>exact True.intro
 | @cons p q ps qs h t ih=>
  obtain ⟨h1,_,h2⟩:=h
  by_cases e:p.1=k
  ·have e':q.1=k:=h1.symm.trans e
   have b:atKey (q :: qs) k=some q.2:=by simp [atKey,List.find?_cons,e']
   rw [kU e,b]; exact h2
  ·have e':¬ q.1=k:=fun z=>e (h1.trans z)
   have b:atKey (q :: qs) k=atKey qs k:=by simp [atKey,List.find?_cons,e']
   rw [kW e,b]; exact ih
theorem KT.repl {H:Hp} {kvs:List (List Key × V)} {xs:List (List Key × Addr × Value)} (r:KT H kvs xs) (k:List Key) {y:V} {u:Value} (ry:RelV y u):
  KT H (kvs.map fun kv=>if kv.1=k then (kv.1,y) else kv) (xs.map (putAt k u)):=by
 induction r with
 | nil=>exact .nil
 | @cons p q ps qs h t ih=>
  rw [List.map_cons,List.map_cons]
  refine .cons ?_ ih
  obtain ⟨h1,h2,h3⟩:=h
  unfold putAt
  by_cases e:p.1=k
  ·rw [if_pos e,if_pos (h1.symm.trans e)]; exact ⟨h1,h2,ry⟩
  ·rw [if_neg e,if_neg (fun z=>e (h1.trans z))]; exact ⟨h1,h2,h3⟩
theorem KT.put {H:Hp} {kvs:List (List Key × V)} {xs:List (List Key × Addr × Value)} (r:KT H kvs xs) (k:List Key) {b:Addr} {y:V} {u:Value} (hb:H b=some (.tup (k.map kV))) (ry:RelV y u):
  KT H (putK kvs k y) (storedH xs k b u):=by
 have e:(kvs.any fun kv=>decide (kv.1=k))=(atKey xs k).isSome:=by
  rw [qw,(r.val k).isSome_eq,Option.isSome_map]
 unfold putK storedH
 rw [e]
 by_cases q:(atKey xs k).isSome=true
 ·rw [if_pos q,if_pos q]; exact r.repl k ry
 ·rw [if_neg q,if_neg q]; exact Paired.snoc r ⟨rfl,hb,ry⟩
theorem KT.keeps {H H':Hp} {kvs:List (List Key × V)} {xs:List (List Key × Addr × Value)} (r:KT H kvs xs) (ht:∀ b ys,H b=some (.tup ys)→H' b=some (.tup ys)):KT H' kvs xs:=
 Paired.mapP r fun _ _ z=>⟨z.1,ht _ _ z.2.1,z.2.2⟩
section
variable {P:Program} {w:World} {H:Hp} {h:Heap} {a:Addr}
theorem AV {u:HO} (ok:HOk P w H h) (e:Rd H a u):bF P w H h a u:=e.ok ok
theorem je {kvs:List (Key × V)} (ok:HOk P w H h) (e:Rd H a (.dK kvs)):kvs.length≤sizeLine∧(a == sysModules)=false∧∃ vs,KV kvs vs∧h.DictOf (aX P w) a vs:=
 show bF P w H h a (.dK kvs) from AV ok e
theorem AW {kvs:List (Key × V)} (ok:HOk P w H h) (e:H a=some (.dK kvs)):kvs.length≤sizeLine∧(a == sysModules)=false∧∃ vs,KV kvs vs∧h.DictOf (aX P w) a vs:=je ok (.inl e)
theorem oD {ks:List Key} (ok:HOk P w H h) (e:H a=some (.tup (ks.map kV))):(tupleKind (aX P w)).is h ks a:=by
 obtain ⟨_,its,r,o,h1,h2,n,h3⟩:=(show bF P w H h a (.tup (ks.map kV)) from ok a _ e)
 exact ⟨o,its.toArray,n,h1,h2,h3,by simpa using nt r⟩
theorem qA {kvs:List (List Key × V)} (ok:HOk P w H h) (e:Rd H a (.dT kvs)):kvs.length≤sizeLine∧(a == sysModules)=false∧
  ∃ xs,KT H kvs xs∧h.DictOfH (tupleKind (aX P w)) a xs:=by
 obtain ⟨z,y,xs,r,o,es,ep,h1,h2,h3,h4,h5⟩:=(show bF P w H h a (.dT kvs) from AV ok e)
 refine ⟨z,y,xs,r,o,es,ep,h1,h2,h3,h4,fun x hx=>?_,h5⟩
 have all:∀ {l:List (List Key × V)} {m:List (List Key × Addr × Value)},KT H l m→∀ x ∈ m,(tupleKind (aX P w)).is h x.1 x.2.1:=by
  intro l m q
  induction q with
  | nil=>intro x hx; exact nomatch hx
  | @cons p q ps qs hq t ih=>
   intro x hx
   rcases List.mem_cons.mp hx with e | hx
   ·subst e
    exact oD ok (by rw [← hq.1]; exact hq.2.1)
   ·exact ih x hx
 exact all r x hx
theorem Dz {kvs:List (List Key × V)} (ok:HOk P w H h) (e:H a=some (.dT kvs)):kvs.length≤sizeLine∧(a == sysModules)=false∧
 ∃ xs,KT H kvs xs∧h.DictOfH (tupleKind (aX P w)) a xs:=qA ok (.inl e)
end
def wY (H:Hp) (a:Addr) (y:V) (r:Option V):Prop:=
 (∃ kvs k,Rd H a (.dK kvs)∧y=kV k∧r=gQ kvs k) ∨ ∃ kvs k b,Rd H a (.dT kvs)∧y=.ref b∧H b=some (.tup (k.map kV))∧r=gQ kvs k
def zp (H:Hp) (a:Addr) (y v:V) (H':Hp):Prop:=
 (∃ kvs k,H a=some (.dK kvs)∧y=kV k∧kvs.length < sizeLine∧H'=upd H a (.dK (putK kvs k v))) ∨
 ∃ kvs k b,H a=some (.dT kvs)∧y=.ref b∧H b=some (.tup (k.map kV))∧kvs.length < sizeLine∧H'=upd H a (.dT (putK kvs k v))
theorem zp.k {H:Hp} {a:Addr} {kvs:List (Key × V)} {k:Key} {v:V} (e:H a=some (.dK kvs)) (hl:kvs.length < sizeLine):zp H a (kV k) v (upd H a (.dK (putK kvs k v))):=.inl ⟨kvs,k,e,rfl,hl,rfl⟩
section
variable {X:Cx} {pins:List (Addr × Obj)} {σ:St} {H:Hp} {s:Shared} {a:Addr} {y v:V} {u r:Value} {o:Option V} {A:Around} {E:Value→Shared→Prop}
theorem Inv.big (I:Inv X pins σ H s):sysModules < s.heap.objs.size:=by
 have h:mainGlobals < s.heap.objs.size:=(I.mod.glob.keeps I.bk).lt
 exact Nat.lt_trans (by decide) h
theorem vM {Q:Value→Shared→Prop} (hu:A.units + 1 < cLine) (I:Inv X pins σ H s) (g:wY H a y (some v)) (ry:RelV y u) (h:∀ w' s',Inv X pins σ H s'→RelV v w'→Q w' s'):
  wpAny (model X.prog X.w) A (getItem (.ref a) u) Q E s:=by
 rcases g with ⟨kvs,k,e,ey,l⟩ | ⟨kvs,k,b,e,ey,eb,l⟩
 ·subst ey
  obtain ⟨z,hd,vs,rel,dd⟩:=je I.hok e
  obtain ⟨w',hw,rw'⟩:=jI.some_of (v:=v) (o:=valueAt vs k) (by rw [l]; exact rel.val k)
  exact wpAny_getItem_of (nr ry) dd.mapOf hw (h w' _ (I.tok _) rw')
 ·subst ey
  cases (show u=Value.ref b from ry)
  obtain ⟨z,hd,xs,rel,dd⟩:=qA I.hok e
  obtain ⟨w',hw,rw'⟩:=jI.some_of (v:=v) (o:=(atKey xs k).map (·.2)) (by rw [l]; exact rel.val k)
  obtain ⟨p,hp,hp2⟩:=Option.map_eq_some_iff.mp hw
  refine wpAny_getItem_heap (tupleKind_room_in1 hu) (oD I.hok eb) dd hp ?_
  rw [hp2]
  exact h w' _ (I.tok _) rw'
theorem oE {h':Heap} {t':Nat} {ob:HO} (I:Inv X pins σ H s) (mu:Mut (H a)) (hs:Heap.SameBut a s.heap h') (he:∃ q,h'.get? a=some q) (new:bF X.prog X.w (upd H a ob) h' a ob):
  Inv X pins σ (upd H a ob) { s with heap:=h',toks:=t' }:=
 I.write (x:=a) (e:=a) mu (.inl rfl) (fun b q hb z=>(hs.2 b hb).trans z) he new
theorem sA {P:Program} {w:World} {H':Hp} {h':Heap} {kvs:List (Key × V)} {vs:List (Key × Value)} (z:kvs.length≤sizeLine) (hd:(a == sysModules)=false) (rel:KV kvs vs) (dd:h'.DictOf (aX P w) a vs):
 bF P w H' h' a (.dK kvs):=⟨z,hd,vs,rel,dd⟩
theorem vN {H':Hp} {Q:Unit→Shared→Prop} (hu:A.units + 1 < cLine) (I:Inv X pins σ H s) (g:zp H a y v H') (ry:RelV y u) (rv:RelV v r) (h:∀ s',Inv X pins σ H' s'→Q () s'):
  wpAny (model X.prog X.w) A (setItem (.ref a) u r) Q E s:=by
 rcases g with ⟨kvs,k,e,ey,l,eH⟩ | ⟨kvs,k,b,e,ey,eb,l,eH⟩
 ·subst ey eH
  obtain ⟨z,hd,vs,rel,dd⟩:=AW I.hok e
  have hz:vs.length≤sizeLine:=by rw [← rel.length]; exact z
  have hl:(putK kvs k v).length≤sizeLine:=by have:=gZ kvs k v; omega
  refine wpAny_setItem_pairs (hsz:=hz) (nr ry) dd fun h' dd' hs=>h _ ?_
  have he:∃ q,h'.get? a=some q:=let ⟨q,_,_,hq,_⟩:=dd'; ⟨q,hq⟩
  exact oE I (by rw [e]; exact True.intro) hs he (sA hl hd (rel.put k rv) dd')
 ·subst ey eH
  cases (show u=Value.ref b from ry)
  obtain ⟨z,hd,xs,rel,dd⟩:=Dz I.hok e
  have hz:xs.length≤sizeLine:=by rw [← Paired.length rel]; exact z
  have hl:(putK kvs k v).length≤sizeLine:=by have:=gZ kvs k v; omega
  refine wpAny_setItem_heap (hsz:=hz) (tupleKind_room_in1 hu) (oD I.hok eb) dd fun h' dd' hs=>h _ ?_
  obtain ⟨q,es,ep,hq,h2,h3,h4,_,h5⟩:=dd'
  refine oE I (by rw [e]; exact True.intro) hs ⟨q,hq⟩ ⟨hl,hd,_,(rel.put k eb rv).keeps fun c ys ec=>?_,q,es,ep,hq,h2,h3,h4,h5⟩
  rw [aG (CW ec e (fun z=>nomatch z))]
  exact ec
end
section
variable {X:Cx} {pins:List (Addr × Obj)} {σ:St} {H:Hp} {s:Shared} {a:Addr} {kvs:List (Key × V)} {k:Key} {u:Value} {A:Around} {E:Value→Shared→Prop}
theorem DA {Q:Value→Shared→Prop} (I:Inv X pins σ H s) (e:Rd H a (.dK kvs)) (h:∀ t s',Inv X pins σ H s'→Q (.int kvs.length t) s'):wpAny (model X.prog X.w) A (call (.builtin "len") [.ref a]) Q E s:=by
 obtain ⟨z,hd,vs,rel,dd⟩:=je I.hok e
 refine call_len_dict hd dd (by rw [← rel.length]; rw [sizeLine_eq] at z; omega) ?_
 rw [← rel.length]
 exact h _ _ (I.tok _)
end
theorem qD {X:Cx} {pins:List (Addr × Obj)} {σ:St} {H:Hp} {s:Shared} {a:Addr} {y:V} {o:Option V} (I:Inv X pins σ H s) (g:wY H a y o):s.TypeIs (.ref a) "dict":=by
 rcases g with ⟨kvs,k,e,_,_⟩ | ⟨kvs,k,b,e,_,_,_⟩
 ·obtain ⟨_,_,vs,_,dd⟩:=je I.hok e
  exact dd.typeIs
 ·obtain ⟨_,_,xs,_,dd⟩:=qA I.hok e
  exact dd.typeIs
section
variable {X:Cx} {o i e value:Expr} {pos pos' tpos:Pos} {td ty tv:TE}
end
theorem qE {P:Program} {w:World} {H:Hp} (h:Heap) (hb:sysModules < h.objs.size):bF P w H (h.push { cls:=.type "dict",data:=.dict #[] }) h.objs.size (.dK []):=
 ⟨Nat.zero_le _,beq_eq_false_iff_ne.mpr (Ne.symm (Nat.ne_of_lt hb)),[],.nil,Heap.DictOf.new h⟩
def BU:TE:=fun _ H Q=>∀ p,H p=none→Q (.ref p) (upd H p (.dK []))
section
variable {X:Cx} {pos:Pos}
theorem qF:PE X (.Dict [] [] pos) BU:=fun pins s σ H Q I h=>
 wpAny_Dict_empty ⟨.ref s.heap.objs.size,_,I.laid (a:=s.heap.objs.size) (o:=.dK []) (t':=s.toks) (fun _ _ q=>Heap.get?_push_of_some _ q) (Nat.le_refl _) (qE s.heap I.big),rfl,h _ (I.hok.fresh (Nat.le_refl _))⟩
end
def oF:List (TE × TE)→St→Hp→(List (V × V)→Hp→Prop)→Prop
 | [],_,H,Q=>Q [] H
 | (tk,tv) :: r,σ,H,Q=>tk σ H fun x H1=>tv σ H1 fun y H2=>oF r σ H2 fun ps H3=>Q ((x,y) :: ps) H3
abbrev VV:List (V × V)→List (Value × Value)→Prop:=Paired fun p q=>RelV p.1 q.1∧RelV p.2 q.2
def PPs (X:Cx) (pos:Pos) (keys:List (Option Expr)) (values:List Expr) (trs:List (TE × TE)):Prop:=
 ∀ (pins:List (Addr × Obj)) (s:Shared) (σ:St) (H:Hp) (Q:List (V × V)→Hp→Prop),Inv X pins σ H s→oF trs σ H Q→
  wpAny (model X.prog X.w) X.A (evalPairs (pairTrees keys values X.env pos)) (fun vs s'=>∃ ps H',Inv X pins σ H' s'∧VV ps vs∧Q ps H') X.xe s
theorem zr {X:Cx} {pos:Pos}:PPs X pos [] [] []:=fun pins s σ H Q I h=>pairTrees_nil_walk ⟨[],H,I,.nil,h⟩
theorem wZ {X:Cx} {pos:Pos} {k v:Expr} {ks:List (Option Expr)} {vs:List Expr} {tk tv:TE} {trs:List (TE × TE)} (hk:PE X k tk) (hv:PE X v tv) (hr:PPs X pos ks vs trs):
  PPs X pos (some k :: ks) (v :: vs) ((tk,tv) :: trs):=fun pins s σ H Q I h=>
 pairTrees_cons_walk (thn (hk pins s σ H _ I h) fun u s1 zq=>ex5 zq fun x H1 I1 rx q1=>thn (hv pins s1 σ H1 _ I1 q1) fun w2 s2 zq=>ex5 zq fun y H2 I2 ry q2=>
  thn (hr pins s2 σ H2 _ I2 q2) fun ws s3 zq=>ex5 zq fun ps H3 I3 rel q3=>⟨(x,y) :: ps,H3,I3,.cons ⟨rx,ry⟩ rel,q3⟩)
def eJ (kvs more:List (Key × V)):List (Key × V):=more.foldl (fun acc kv=>putK acc kv.1 kv.2) kvs
theorem KV.merge:∀ {more:List (Key × V)} {rs:List (Key × Value)} {kvs:List (Key × V)} {vs:List (Key × Value)},KV more rs→KV kvs vs→KV (eJ kvs more) (merged vs rs):=by
 intro more rs kvs vs r
 unfold KV at r
 induction r generalizing kvs vs with
 | nil=>intro q; exact q
 | @cons p q ps qs h t ih=>
  intro r0
  have e:KV (putK kvs p.1 p.2) (stored vs q.1 q.2):=by
   have:=r0.put p.1 h.2
   rw [← h.1]; exact this
  exact ih e
theorem iM:∀ (more kvs:List (Key × V)),(eJ kvs more).length≤kvs.length + more.length
 | [],kvs=>by show kvs.length≤kvs.length + 0; omega
 | p :: r,kvs=>by
  have h1:=iM r (putK kvs p.1 p.2)
  have h2:=gZ kvs p.1 p.2
  show (eJ (putK kvs p.1 p.2) r).length≤_
  rw [List.length_cons]; omega
theorem kX {P:Program} {w:World}:∀ {kvs:List (Key × V)} {ws:List (Value × Value)},VV (kvs.map fun kv=>(kV kv.1,kv.2)) ws→∃ rs,Carries (aX P w) ws rs∧KV kvs rs
 | [],_,r=>by rw [List.map_nil] at r; cases r; exact ⟨[],True.intro,.nil⟩
 | p :: kvs,_,r=>by
  rw [List.map_cons] at r
  cases r with
  | @cons a b as bs h t=>
   obtain ⟨rs,c,q⟩:=kX (P:=P) (w:=w) t
   obtain ⟨b1,b2⟩:=b
   exact ⟨(p.1,b2) :: rs,⟨nr h.1,rfl,c⟩,.cons ⟨rfl,h.2⟩ q⟩
def AX (trs:List (TE × TE)):TE:=fun σ H Q=>∀ p,H p=none→oF trs σ (upd H p (.dK [])) fun ps H2=>H2 p=some (.dK [])∧∃ kvs:List (Key × V),ps=kvs.map (fun kv=>(kV kv.1,kv.2))∧kvs.length≤15∧Q (.ref p) (upd H2 p (.dK (eJ [] kvs)))
theorem zt {X:Cx} {pos:Pos} {keys:List (Option Expr)} {values:List Expr} {trs:List (TE × TE)} (h:PPs X pos keys values trs) (hall:keys.all (·.isSome)=true) (hl:keys.length=values.length) (h0:keys ≠ [])
  (h15:keys.length≤15):PE X (.Dict keys values pos) (AX trs):=by
 intro pins s σ H Q I q
 have hn:=I.hok.fresh (Nat.le_refl s.heap.objs.size)
 have I1:=I.laid (a:=s.heap.objs.size) (o:=.dK []) (h':=s.heap.push { cls:=.type "dict",data:=.dict #[] }) (t':=s.toks) (fun _ _ q=>Heap.get?_push_of_some _ q) (Nat.le_refl _) (qE s.heap I.big)
 refine wpAny_Dict_walk (knd:=aX X.prog X.w) hall hl h0 h15 (thn (h pins _ σ _ _ I1 (q _ hn)) fun ws s2 zq=>?_)
 obtain ⟨ps,H2,I2,rel,e,kvs,ep,lk,q2⟩:=zq
 subst ep
 obtain ⟨rs,c,rk⟩:=kX (P:=X.prog) (w:=X.w) rel
 obtain ⟨z,hd,vs0,r0,dd⟩:=AW I2.hok e
 cases r0
 refine ⟨rs,c,dd,fun h' dd' hs=>⟨.ref s.heap.objs.size,_,?_,rfl,q2⟩⟩
 have hz:(eJ [] kvs).length≤sizeLine:=by
  have h1:=iM kvs []
  rw [List.length_nil] at h1
  rw [sizeLine_eq]; omega
 have he:∃ q,h'.get? s.heap.objs.size=some q:=let ⟨q,_,_,hq,_⟩:=dd'; ⟨q,hq⟩
 exact oE I2 (by rw [e]; exact True.intro) hs he (sA hz hd (rk.merge .nil) dd')
structure M2 (X:Cx) (o:Expr) (m:Str) (apos:Pos) (e f:Expr) (cpos:Pos):Prop where
 base:attributeBase o m X.env (eval o X.env)=eval o X.env
 few:((backTo cpos (starEach [e,f] X.env)).all (fun x=>!x.1) && (backToKw cpos (keywordEach [] X.env)).all (fun x=>x.1.isSome)
  && decide (([e,f]:List Expr).length + ([]:List Keyword).length + (if ([]:List Keyword).isEmpty then 0 else 1) < 30))=true
 line:(apos.endLine == cpos.line)=true
 trees:backTo cpos (starEach [e,f] X.env)=[(false,eval e X.env),(false,eval f X.env)]
def IsD (H:Hp) (a:Addr):Prop:=(∃ kvs,Rd H a (.dK kvs)) ∨ ∃ kvs,Rd H a (.dT kvs)
theorem w8 {X:Cx} {pins:List (Addr × Obj)} {σ:St} {H:Hp} {s:Shared} {a:Addr} (I:Inv X pins σ H s) (d:IsD H a):
  s.TypeIs (.ref a) "dict"∧(∀ b,Value.ref a=.ref b→∃ ob,s.heap.get? b=some ob∧ob.dict=none)∧(a == sysModules)=false:=by
 rcases d with ⟨kvs,e⟩ | ⟨kvs,e⟩
 ·obtain ⟨_,hd,vs,_,dd⟩:=je I.hok e
  refine ⟨dd.typeIs,fun b q=>?_,hd⟩
  cases q
  obtain ⟨ob,_,_,h1,h2,_⟩:=dd
  exact ⟨ob,h1,h2.2.1⟩
 ·obtain ⟨_,hd,xs,_,dd⟩:=qA I.hok e
  refine ⟨dd.typeIs,fun b q=>?_,hd⟩
  cases q
  obtain ⟨ob,_,_,h1,h2,_⟩:=dd
  exact ⟨ob,h1,h2.2.1⟩
section
variable {X:Cx} {pins:List (Addr × Obj)} {σ:St} {H:Hp} {s:Shared} {a:Addr} {y d:V} {u r:Value} {o:Option V} {A:Around} {E:Value→Shared→Prop}
theorem BV {Q:Value→Shared→Prop} (hu:A.units + 1 < cLine) (I:Inv X pins σ H s) (g:wY H a y o) (ry:RelV y u) (rd:RelV d r) (h:∀ w' s',Inv X pins σ H s'→RelV (o.getD d) w'→Q w' s'):
  wpAny (model X.prog X.w) A (call (.builtin "dict.get") [.ref a,u,r]) Q E s:=by
 rcases g with ⟨kvs,k,e,ey,l⟩ | ⟨kvs,k,b,e,ey,eb,l⟩
 ·subst ey
  obtain ⟨z,hd,vs,rel,dd⟩:=je I.hok e
  refine call_meetsIn PySem.F.slot_dict_get dd.typeIs PySem.F.entry_dict_get (PySem.F.args_dict_get_3 _ _ _) (meets_dict_get_default (aX X.prog X.w) a (nr ry) hd r) ⟨_,dd.mapOf,h _ _ (I.tok _) ?_⟩
  rw [l]
  exact (rel.val k).getD rd
 ·subst ey
  cases (show u=Value.ref b from ry)
  obtain ⟨z,hd,xs,rel,dd⟩:=qA I.hok e
  refine call_meetsIn PySem.F.slot_dict_get dd.typeIs PySem.F.entry_dict_get (PySem.F.args_dict_get_3 _ _ _) (meetsH_dict_get_default (tupleKind (aX X.prog X.w)) a b hd r) ⟨tupleKind_room_in1 hu,k,xs,oD I.hok eb,dd,h _ _ (I.tok _) ?_⟩
  rw [l]
  exact (rel.val k).getD rd
end
def BW (td ty tx:TE):TE:=fun σ H Q=>td σ H fun x H1=>∃ a,x=.ref a∧IsD H1 a∧ty σ H1 fun y H2=>tx σ H2 fun z H3=>∃ o,wY H3 a y o∧Q (o.getD z) H3
section
variable {X:Cx} {o e f:Expr} {apos cpos:Pos} {td ty tx:TE}
theorem w9 (hu:X.A.units + 1 < cLine) (ho:PE X o td) (he:PE X e ty) (hf:PE X f tx) (m:M2 X o "get" apos e f cpos):PE X (.Call (.Attribute o "get" apos) [e,f] [] cpos) (BW td ty tx):=by
 intro pins s σ H Q I h
 refine wpAny_Call_method m.base m.few m.line PySem.F.plainAttrs_dict PySem.F.slot_dict_get PySem.F.type_dict_get (thn (ho pins s σ H _ I h) fun u s1 zq=>?_)
 obtain ⟨x,H1,I1,rx,a,ex,d,q1⟩:=zq
 subst ex
 obtain rfl:u=Value.ref a:=rx
 obtain ⟨t1,t2,_⟩:=w8 I1 d
 refine ⟨t1,t2,?_⟩
 rw [m.trees]
 refine Calls.callWith_builtin rfl (Calls.evalArgs_plain (Calls.spliced_cons (thn (he pins s1 σ H1 _ I1 q1) fun iv s2 zq=>ex5 zq fun y H2 I2 ry q2=>
  Calls.spliced_cons (thn (hf pins s2 σ H2 _ I2 q2) fun fv s3 ⟨z,H3,I3,rz,ov,g,q3⟩=>Calls.spliced_nil ?_))))
 exact BV hu I3 g ry rz fun w' s4 I4 rw'=>⟨_,H3,I4,rw',q3⟩
end
section
variable {X:Cx} {pins:List (Addr × Obj)} {σ:St} {H:Hp} {s:Shared} {a:Addr} {kvs:List (Key × V)} {A:Around} {E:Value→Shared→Prop}
end
section
variable {X:Cx} {pins:List (Addr × Obj)} {σ:St} {H:Hp} {s:Shared} {a:Addr} {y:V} {u:Value} {A:Around} {E:Value→Shared→Prop}
end
end L2
namespace Att
open PySem PySem.W PySem.Calls PyProof.Rows
theorem kj {P:Params} {h:Heap}:∀ (ns:List Int) (vs:List Value),WellAll P h vs (ns.map WData.int)→IntsAre vs ns:=by
 intro ns
 induction ns with
 | nil=>
  intro vs w
  rw [List.map_nil] at w
  cases w
  exact .nil
 | cons n ns ih=>
  intro vs w
  rw [List.map_cons] at w
  cases w with
  | cons a b=>
   cases a
   exact .cons _ _ (ih _ b)
theorem vO {l:OpenLaw} {n:Nat} (hn:l.most=some n) {P:Params} {h:Heap} {args:List WData} {vals:List Value}
  (hpre:l.row.toRowW.claim.pre args=true) (hwl:WellAll P h vals args):
  ∃ a vs ns,vals=[Value.ref a]∧args=[WData.list (ns.map WData.int)]∧h.get? a=some { cls:=.type "list",data:=.seq vs.toArray }∧IntsAre vs ns∧ns.length≤n:=by
 have hsh:WShape.hasAll [] args [.list .int]=true:=(pre_splitW hpre).1
 have hc:l.pre.holds [] { args:=args }=true:=(pre_splitW hpre).2
 obtain ⟨d,r,rfl,h1,h2⟩:=hasAllW_cons hsh
 obtain rfl:=hasAllW_nil h2
 obtain ⟨xs,rfl,h3⟩:=hasW_list h1
 obtain ⟨ns,rfl⟩:=items_int h3
 have hlen:ns.length≤n:=by
  unfold OpenLaw.pre at hc
  have h4:(WTm.not (.lt (.lit (.int (n:Int))) (.len (.arg 0)))).holds [] { args:=[.list (ns.map .int)] }=true:=by
   have h4:=(holds_andW hc).1
   rw [hn] at h4
   exact h4
  have h5:=condW_of h4 (w_not (w_lt w_lit (w_len_list (w_arg rfl))))
  rw [List.length_map] at h5
  refine Nat.le_of_not_lt fun q=>?_
  have q':(n:Int) < ((ns.length:Nat):Int):=by omega
  first
   | (rw [decide_eq_true q'] at h5; exact absurd h5 (by decide))
   | (simp at h5; omega)
 cases hwl with
 | cons w1 w2=>
  cases w2
  cases w1 with
  | list ho hall=>exact ⟨_,_,ns,rfl,rfl,ho,kj ns _ hall,hlen⟩
theorem vP (l:OpenLaw) (args:List WData):l.row.toRowW.claim.post args (.bool true) args=true:=
 postW_of (r:=l.row.toRowW) (X:=(true == true))
  (show WShape.has [] (.bool true) .bool=true by first | rfl | decide | simp [WShape.has,WShape.arms,WShape.armsAll])
  (show (WTm.eq .res (.lit (.bool true))).value [] { args:=args,res:=some (.bool true),after:=args }=some (.bool (true == true)) from w_eq_bool (w_res rfl) w_lit) rfl
theorem attach_call {l:OpenLaw} {n:Nat} {q:Program} {loose:List Str} {XP:(Str→Option Value)→Heap→Prop} {YP:World→Heap→Prop} {d:DefRec}
  (hn:l.most=some n) (hdf:d.params.defaults=[])
  (call:∀ (w:World) (s₀ s₁:Shared) (mg mb:Str→Option Value) (fa:Addr) (o:Obj) (pm cd doc:Value) (a:Addr) (vs:List Value) (ns:List Int),
   Ground q loose [] XP w s₀ mg mb s₁.heap→YP w s₁.heap→
   s₁.heap.get? fa=some o→o.data=.func (docDef d.name d.params d.body d.scope pm cd doc)→s₁.heap.CodeRec cd d.name→mg d.name=some (.ref fa)→
   s₁.heap.get? a=some { cls:=.type "list",data:=.seq vs.toArray }→IntsAre vs ns→ns.length≤n→s₁.gens = #[]→
   codeAny (model l.prog w) callerA (.call (.ref fa) ⟨[.ref a],[]⟩) (fun r s'=>r=.ok (.ret (.bool true))∧OldK s₁.heap s'.heap∧s'.os=s₁.os∧AllBare s'.gens) s₁):
  WalkO q loose XP YP l.row.toRowW d [] (fun f vs=>PySem.call f vs):=by
 intro w s₀ s₁ mg mb G Y fa o pm cd doc dV kV ho hd hcd hD hmg hg args vals as hpre hlay hrd hwl hlo
 obtain rfl:dV=.none:=Dflts.none hD hdf
 obtain rfl:kV=.none:=Dflts.noKw hD
 obtain ⟨a,vs,ns,rfl,rfl,hobj,hints,hlen⟩:=vO hn hpre hwl
 refine enter_call (codeAny_mono (call w s₀ s₁ mg mb fa o pm cd doc a vs ns G Y ho (fd_plain hd) hcd hmg hobj hints hlen hg) fun r s' hq=>?_)
 obtain ⟨rfl,h2,h3,h4⟩:=hq
 exact ⟨.inl ⟨.bool true,.bool true,[],rfl,fun _=>rfl,.bool true,vP l _,fun _=>⟨List.Pairwise.nil,fun _ hm=>(nomatch hm)⟩⟩,h2,h3,h4⟩
section
variable {prog:Program} {w:World} {A:Around} {E:Value→Shared→Prop} {s:Shared} {K:Frag}
end
end Att
namespace L2
open PySem PySem.Spec PyProof.Rows
theorem nu:∀ {vs:List Value} {ns:List Int},IntsAre vs ns→Vals (ns.map V.int) vs
 | _,_,.nil=>.nil
 | _,_,.cons n t h=>.cons ⟨t,rfl⟩ (nu h)
def xc (H:Hp):Prop:=∀ b,H b=none ∨ ∃ o xs,H b=some (.frz o (.lst xs))
theorem xf {P:Program} {w:World} {K:PySem.W.Frag} {mg mb:Str→Option Value} {CX:CXT} {k:Nat} {fa a:Addr} {fd:FuncData} {x:Str} {sp:Sp} {s₁:Shared} {vs:List Value} {ns:List Int}
  (KX:K.In s₁.heap) (hns:s₁.heap.Ns mainGlobals mg) (hb:s₁.heap.Ns builtinsNs mb) (hbb:∀ x:Str,x ≠ "__name__"→mb x=bootBuiltins x) (hlim:s₁.heap.NoLimit) (hg:s₁.gens = #[])
  (ha:s₁.heap.get? a=some { cls:=.type "list",data:=.seq vs.toArray }) (hi:IntsAre vs ns) (hl:ns.length≤sizeLine) (hr:Room k callerA)
  (F:∀ base:Heap,K.In base→base.Ns mainGlobals mg→FnOk P w K mg base CX k fa fd [x] sp) (hbind:∀ (s:Shared) (u:Value),BindsTo s fd ⟨[u],[]⟩ [(x,u)])
  (hsp:∀ H:Hp,xc H→SqL K H a (ns.map V.int)→sp [.ref a] H (fun v _=>v=.bl true) fun _ _ _=>False)
  (hCX:∀ H e s',CX [] H s₁ (fun _ _ _=>False) e s'→False):
  codeAny (model P w) callerA (.call (.ref fa) ⟨[.ref a],[]⟩) (fun r s'=>r=.ok (.ret (.bool true))∧OldK s₁.heap s'.heap∧s'.os=s₁.os∧AllBare s'.gens) s₁:=by
 have rv:=nu hi
 have lenV:=hi.length
 -- from an abstract heap in which nothing but the script may be tracked
 have core:∀ H:Hp,xc H→SqL K H a (ns.map V.int)→HOk P w H s₁.heap→(∀ b,H b ≠ none→b=a)→(H a ≠ none→K.lookup a=none)→
   codeAny (model P w) callerA (.call (.ref fa) ⟨[.ref a],[]⟩) (fun r s'=>r=.ok (.ret (.bool true))∧OldK s₁.heap s'.heap∧s'.os=s₁.os∧AllBare s'.gens) s₁:=by
  intro H hO hS hok hA hK
  have base_of:∀ {b:Addr} {o:Obj},s₁.heap.get? b=some o→H b=none→(ot s₁.heap H).get? b=some o:=fun e n=>wH e n
  have noA:∀ {b:Addr} {o:Obj} {es:Array DictEntry} {ep:Nat},s₁.heap.get? b=some o→o.data=.dict es ep→H b=none:=fun {b o es ep} e d=>by
   cases q:H b with
   | none=>rfl
   | some u=>
    have e':b=a:=hA b (by rw [q]; simp)
    subst e'
    rw [ha] at e; cases e
    have d':Data.seq vs.toArray _=Data.dict es ep:=d
    cases d'
  have nsK:∀ {b:Addr} {m:Str→Option Value},s₁.heap.Ns b m→(ot s₁.heap H).Ns b m:=fun {b m} ⟨o,es,ep,e,d,r⟩=>⟨o,es,ep,base_of e (noA e d),d,r⟩
  have hKb:K.In (ot s₁.heap H):=fun b o e=>base_of (KX b o e) (by
   cases q:H b with
   | none=>rfl
   | some u=>
    have e':b=a:=hA b (by rw [q]; simp)
    subst e'
    rw [hK (by rw [q]; simp)] at e; cases e)
  have hM:Mod K mg (ot s₁.heap H):=⟨hKb,nsK hns,⟨mb,nsK hb,hbb⟩,let ⟨mc,h1,h2⟩:=hlim; ⟨mc,nsK h1,h2⟩⟩
  have e0:Env0 P w K mg (ot s₁.heap H) callerA [] s₁ H:=⟨rfl,hM,fun b o e=>yQ e,Nat.le_of_eq (vD _ _),trivial,fun b hb=>absurd (show b ∈ ([]:List Addr) from hb) (by simp),hok,.of_eq hg⟩
  refine codeAny_mono ((F _ hKb (nsK hns)).run callerA [] s₁ H ⟨[.ref a],[]⟩ [.ref a] [.ref a] _ _ hr e0 (hbind s₁ (.ref a)) (.cons rfl .nil) (hsp H hO hS)) fun r s' h=>?_
  cases r with
  | error e=>exact (hCX H e s' h).elim
  | ok fl=>
   cases fl with
   | next=>exact False.elim h
   | brk=>exact False.elim h
   | cont=>exact False.elim h
   | ret u=>
    obtain ⟨v,H',os,bare,un,hok',r',q⟩:=h
    have q':v=.bl true:=q
    subst q'
    obtain rfl:u=Value.bool true:=r'
    refine ⟨rfl,OldK.of_keep fun b o e=>?_,os,bare⟩
    cases q:H b with
    | none=>exact un.keep b o e q (by intro z; exact absurd (show b ∈ ([]:List Addr) from z) (by simp)) (by simp)
    | some u=>
     rcases hO b with z | ⟨ob,xs,z⟩
     ·rw [q] at z; cases z
     ·have z2:=un.frzs b ob _ z
      obtain ⟨e1,_⟩:=hok b _ z
      obtain ⟨e2,_⟩:=hok' b _ z2
      rw [e] at e1; cases e1
      exact e2
 cases hk:K.lookup a with
 | some o=>
  -- the script is one of the module's own objects
  have e:=KX a o hk
  rw [ha] at e
  cases e
  refine core (fun _=>none) (fun _=>.inl rfl) (.inr ⟨_,vs.toArray,_,hk,rfl,rfl,rfl,by rw [List.size_toArray,lenV]; exact hl,by simpa using rv⟩) (fun b u z=>by have z':(none:Option HO)=some u:=z; cases z') (fun b z=>absurd rfl z) fun z=>absurd rfl z
 | none=>
  refine core (fun b=>if b=a then some (.frz { cls:=.type "list",data:=.seq vs.toArray } (.lst (ns.map V.int))) else none) (fun b=>?_) (.inl (.inr ⟨{ cls:=.type "list",data:=.seq vs.toArray },if_pos rfl⟩)) (fun b u z=>?_) (fun b z=>?_) fun _=>hk
  ·by_cases hb:b=a
   ·exact .inr ⟨_,_,if_pos hb⟩
   ·exact .inl (if_neg hb)
  ·by_cases hb:b=a
   ·have z':=(if_pos hb).symm.trans z
    cases z'
    subst hb
    exact ⟨ha,by rw [List.length_map]; exact hl,vs,_,rv,ha⟩
   ·have z':=(if_neg hb).symm.trans z
    cases z'
  ·by_cases hb:b=a
   ·exact hb
   ·exact absurd (if_neg hb) z
end L2
namespace L2
open PySem PySem.Spec PyProof.Rows
theorem zu {l:PySem.W.OpenLaw} {n k:Nat} {q:Program} {loose:List Str} {XP:(Str→Option Value)→Heap→Prop} {YP:World→Heap→Prop} {d:DefRec} {K:Params→PySem.W.Frag} {CX:World→CXT} {sp:World→Sp} {x:Str}
  (hn:l.most=some n) (hn2:n≤sizeLine) (hdf:d.params.defaults=[]) (hr:Room k callerA)
  (hY:∀ (w:World) (h:Heap),YP w h→(K w.params).In h)
  (F:∀ (w:World) (mg:Str→Option Value) (fa:Addr) (h:Heap),(K w.params).In h→h.Ns mainGlobals mg→mg d.name=some (.ref fa)→
   ∃ fd:FuncData,(∀ (s:Shared) (u:Value),BindsTo s fd ⟨[u],[]⟩ [(x,u)])∧
    ∀ base:Heap,(K w.params).In base→base.Ns mainGlobals mg→FnOk l.prog w (K w.params) mg base (CX w) k fa fd [x] (sp w))
  (hsp:∀ (w:World) (H:Hp) (a:Addr) (ns:List Int),ns.length≤n→xc H→SqL (K w.params) H a (ns.map V.int)→sp w [.ref a] H (fun v _=>v=.bl true) fun _ _ _=>False)
  (hCX:∀ (w:World) (H:Hp) (s:Shared) (e:Value) (s':Shared),CX w [] H s (fun _ _ _=>False) e s'→False):
  PySem.W.WalkO q loose XP YP l.row.toRowW d [] (fun f vs=>PySem.call f vs):=by
 refine Att.attach_call hn hdf fun w s₀ s₁ mg mb fa o pm cd doc a vs ns G Y ho hd hcd hmg hobj hints hlen hg=>?_
 have KX:=hY w _ Y
 obtain ⟨fd,hb,hF⟩:=F w mg fa _ KX G.T.g hmg
 exact xf KX G.T.g G.T.b G.T.builtins G.T.nolimit hg hobj hints (Nat.le_trans hlen hn2) hr hF hb (fun H hO hS=>hsp w H a ns hlen hO hS) fun H e s'=>hCX w H s₁ e s'
end L2
namespace L2
open PySem PySem.Spec PyProof.Rows
def defArgs (s:Stmt):Arguments:=match s with
 | .FunctionDef _ a _ _ _ _ _ _ _ _=>a
 | _=>{ posonlyargs:=[],args:=[],vararg:=none,kwonlyargs:=[],kw_defaults:=[],kwarg:=none,defaults:=[] }
def defBody (s:Stmt):List Stmt:=match s with
 | .FunctionDef _ _ b _ _ _ _ _ _ _=>b
 | _=>[]
def defScope (s:Stmt):Scope:=match s with
 | .FunctionDef _ _ _ _ _ _ sc _ _ _=>sc
 | _=>{ kind:=.function,names:=[],isGenerator:=false,isCoroutine:=false }
abbrev E0:XK:=fun _ _ _=>False
structure Fun (K:PySem.W.Frag) (x qual:Str) (st:Stmt) (f:Addr) (fd:FuncData):Prop where
 ex:∃ (oc:Value) (od:Option Addr) (kV doc pm:Value) (an:Option Addr) (cdv ct:Value) (osl:Array (Option Value)),
  fd=PySem.W.fnOf x qual (defArgs st) (defBody st) (defScope st) .none kV doc pm an cdv ct∧K.lookup f=some ⟨oc,od,.func fd,osl⟩∧PySem.W.codeIn K cdv qual=true
 kp:PySem.W.keepIn K (.ref f)=true
section
variable {P:Program} {w:World} {K:PySem.W.Frag} {mg:Str→Option Value} {base:Heap}
theorem Fun.binds {x qual:Str} {st:Stmt} {f:Addr} {fd:FuncData} {ps:List Str} (F:Fun K x qual st f fd)
  (h:∀ (kV doc pm:Value) (an:Option Addr) (cdv ct:Value) (us:List Value),us.length=ps.length→bindArgs (PySem.W.fnOf x qual (defArgs st) (defBody st) (defScope st) .none kV doc pm an cdv ct) ⟨us,[]⟩=pure (ps.zip us)):Binds K fd ps []:=by
 obtain ⟨oc,od,kV,doc,pm,an,cdv,ct,osl,rfl,lk,hcd⟩:=F.ex
 exact .all (h kV doc pm an cdv ct)
theorem ba {x qual:Str} {st:Stmt} {f:Addr} {oc:Value} {od an:Option Addr} {osl:Array (Option Value)} {kV doc pm cdv ct:Value} (l:K.lookup f=some ⟨oc,od,.func (PySem.W.fnOf x qual (defArgs st) (defBody st) (defScope st) .none kV doc pm an cdv ct),osl⟩)
 (c:PySem.W.codeIn K cdv qual=true) (k:PySem.W.keepIn K (.ref f)=true):Fun K x qual st f (PySem.W.fnOf x qual (defArgs st) (defBody st) (defScope st) .none kV doc pm an cdv ct):=⟨⟨oc,od,kV,doc,pm,an,cdv,ct,osl,rfl,l,c⟩,k⟩
end
section
variable {X:Cx}
theorem pv (i:Nat) {x:Str} {pos:Pos} (hN:autoParam (X.N[i]?=some x) Au.h1._auto_1) (hv:Vis X.env.scope x) (hd:autoParam ((x == ("__debug__":Str))=false) Au.h2._auto_1)
 (hcd:autoParam ((x == ("__classdict__":Str))=false) Au.h2._auto_1):PE X (.Name x pos) (CY i):=Bb hN hv hd hcd
end
theorem vQ {A B:Prop} (h:B):if false=true then A else B:=by
 rw [if_neg Bool.false_ne_true]
 exact h
theorem vR {A B:Prop} (h:A):if true=true then A else B:=by
 rw [if_pos rfl]
 exact h
end L2
namespace L2
open PySem PySem.Spec PyProof.Rows
section
variable {X:Cx}
theorem nv:cI X (.builtin "len") (fun xs H Q=>∃ a kvs,xs=[V.ref a]∧H a=some (.dK kvs)∧Q (.int kvs.length) H):=by
 intro pins s σ H xs us Q I r h
 obtain ⟨a,kvs,rfl,ha,q⟩:=h
 obtain ⟨u,rfl,ru⟩:=vals1 r
 cases ru
 exact DA I (.inl ha) fun t s' I'=>⟨.int kvs.length,H,I',⟨t,rfl⟩,q⟩
end
section
variable {κ:Type} [DecidableEq κ]
end
end L2
end
set_option autoImplicit false
namespace PD
open PySem
inductive D where
 | non | bl (b:Bool) | int (i:Int) | str (x:Str)
 | tup (xs:List D) | lst (xs:List D) | fz (xs:List D) | dic (kvs:List (Sum Int Str × D)) | ref (n:Nat) | ty (n:String)
 /-- a caught exception of an own class; an own class -/
 | exc (c:Str) | cls (c:Str)
 deriving Inhabited
inductive SO where
 | lst (xs:List D) | dic (kvs:List (Sum Int Str × D)) | ins (c:Str) (fs:List (Str × D))
 /-- a dict that has been walked: read,changed no more -/
 | fdic (kvs:List (Sum Int Str × D))
 /-- a list that has been walked: read,changed no more -/
 | flst (xs:List D)
 deriving Inhabited
abbrev Sto:=List SO
set_option genInjectivity false in
structure XD where
 cls:Str
 arg:D
 deriving Inhabited
inductive R (A:Type) where
 | ok (a:A) (S:Sto) | err (x:XD) (S:Sto) | bad
def R.bind {A B:Type} (r:R A) (f:A→Sto→R B):R B:=match r with
 | .ok a S=>f a S | .err x S=>.err x S | .bad=>.bad
theorem R.bind_ok {A B:Type} (a:A) (S:Sto) (f:A→Sto→R B):(R.ok a S).bind f=f a S:=rfl
theorem R.bind_err {A B:Type} (x:XD) (S:Sto) (f:A→Sto→R B):(R.err (A:=A) x S).bind f=.err x S:=rfl
theorem R.bind_bad {A B:Type} (f:A→Sto→R B):(R.bad (A:=A)).bind f=.bad:=rfl
def R.of {A:Type} (S:Sto):Option A→R A
 | some a=>.ok a S | none=>.bad
theorem R.of_some {A:Type} (S:Sto) (a:A):R.of S (some a)=.ok a S:=rfl
abbrev Rho:=List (Option D)
abbrev EM:=Rho→Sto→R D
abbrev TM:=Rho→Sto→R Bool
abbrev AM:=Rho→Sto→R (List D)
set_option genInjectivity false in
inductive F where
 | nx (r:Rho) | rt (d:D) | bk (r:Rho) | ct (r:Rho)
abbrev SM:=Rho→Sto→R F
abbrev FM:=List D→Sto→R D
def ag (i:Nat):EM:=fun r S=>match r[i]? with
 | some (some d)=>.ok d S
 | _=>.bad
def eC (d:D):EM:=fun _ S=>.ok d S
def eUn (f:Sto→D→Option D) (a:EM):EM:=fun r S=>(a r S).bind fun x S1=>R.of S1 (f S1 x)
def eOp (f:Sto→D→D→Option D) (a b:EM):EM:=fun r S=>(a r S).bind fun x S1=>(b r S1).bind fun y S2=>R.of S2 (f S2 x y)
def Ej (f g:Sto→D→D→Option D) (a b c:EM):EM:=fun r S=>(a r S).bind fun x S1=>(b r S1).bind fun y S2=>match f S2 x y with
 | some (.bl true)=>(c r S2).bind fun z S3=>R.of S3 (g S3 y z)
 | some (.bl false)=>.ok (.bl false) S2
 | _=>.bad
def g4 (a b:EM):EM:=fun r S=>(a r S).bind fun x S1=>match x with
 | .bl true=>b r S1
 | .bl false=>.ok (.bl false) S1
 | _=>.bad
def eOr (a b:EM):EM:=fun r S=>(a r S).bind fun x S1=>match x with
 | .bl true=>.ok (.bl true) S1
 | .bl false=>b r S1
 | _=>.bad
def BX (a:EM):EM:=fun r S=>(a r S).bind fun x S1=>match x with
 | .bl b=>.ok (.bl (!b)) S1
 | _=>.bad
def eIf (t:TM) (a b:EM):EM:=fun r S=>(t r S).bind fun c S1=>if c=true then a r S1 else b r S1
def ak:AM:=fun _ S=>.ok [] S
def ab (a:EM) (t:AM):AM:=fun r S=>(a r S).bind fun x S1=>(t r S1).bind fun xs S2=>.ok (x :: xs) S2
def gu (t:AM):EM:=fun r S=>(t r S).bind fun xs S1=>if xs.length≤sizeLine then .ok (.tup xs) S1 else .bad
def vS (t:AM):EM:=fun r S=>(t r S).bind fun xs S1=>if xs.length≤sizeLine then .ok (.lst xs) S1 else .bad
def eNew (t:AM):EM:=fun r S=>(t r S).bind fun xs S1=>if xs.length≤sizeLine then .ok (.ref S1.length) (S1 ++ [.lst xs]) else .bad
def ar (f:FM) (t:AM):EM:=fun r S=>(t r S).bind fun xs S1=>f xs S1
def eB (f:Sto→List D→Option D) (t:AM):EM:=fun r S=>(t r S).bind fun xs S1=>R.of S1 (f S1 xs)
def eBN (f:Sto→List D→Option SO) (t:AM):EM:=fun r S=>(t r S).bind fun xs S1=>match f S1 xs with
 | some o=>.ok (.ref S1.length) (S1 ++ [o])
 | none=>.bad
def tV (a:EM):TM:=fun r S=>(a r S).bind fun x S1=>match x with
 | .bl b=>.ok b S1
 | _=>.bad
def gY (a b:TM):TM:=fun r S=>(a r S).bind fun c S1=>if c=true then b r S1 else .ok false S1
def tOr (a b:TM):TM:=fun r S=>(a r S).bind fun c S1=>if c=true then .ok true S1 else b r S1
def gp (a:TM):TM:=fun r S=>(a r S).bind fun c S1=>.ok (!c) S1
def R.nx {A:Type}:R A→R A
 | .err _ _=>.bad
 | r=>r
def eNx (a:EM):EM:=fun r S=>(a r S).nx
def tNx (a:TM):TM:=fun r S=>(a r S).nx
def aNx (a:AM):AM:=fun r S=>(a r S).nx
def bw:SM:=fun r S=>.ok (.nx r) S
def oG:SM:=fun _ _=>.bad
def aB (a b:SM):SM:=fun r S=>(a r S).bind fun f S1=>match f with
 | .nx r1=>b r1 S1
 | g=>.ok g S1
def bz (a:EM):SM:=fun r S=>(a r S).bind fun x S1=>.ok (.rt x) S1
def Et:SM:=fun _ S=>.ok (.rt .non) S
def bR (a:EM):SM:=fun r S=>(a r S).bind fun _ S1=>.ok (.nx r) S1
def sIf (t:TM) (a b:SM):SM:=fun r S=>(t r S).bind fun c S1=>if c=true then a r S1 else b r S1
def Ek:SM:=fun r S=>.ok (.bk r) S
def Eu:SM:=fun r S=>.ok (.ct r) S
set_option genInjectivity false in
inductive G where
 | nm (i:Nat) | tp (gs:List G)
mutual
def G.put:G→D→Rho→Option Rho
 | .nm i,d,r=>some (r.set i (some d))
 | .tp gs,d,r=>match d with
  | .tup xs=>G.puts gs xs r
  | _=>none
def G.puts:List G→List D→Rho→Option Rho
 | [],[],r=>some r
 | g :: gs,x :: xs,r=>match G.put g x r with
  | some r1=>G.puts gs xs r1
  | none=>none
 | _,_,_=>none
end
def bh (i:Nat) (a:EM):SM:=fun r S=>(a r S).bind fun x S1=>.ok (.nx (r.set i (some x))) S1
def BY (g:G) (a:EM):SM:=fun r S=>(a r S).bind fun x S1=>match g.put x r with
 | some r1=>.ok (.nx r1) S1
 | none=>.bad
def sC (i j:Nat) (t:AM):SM:=fun r S=>(t r S).bind fun xs S1=>match xs with
 | [x,y]=>.ok (.nx ((r.set i (some x)).set j (some y))) S1
 | _=>.bad
def gR (f:Sto→D→D→D→Option Sto) (e o i:EM):SM:=fun r S=>(e r S).bind fun v S1=>(o r S1).bind fun x S2=>(i r S2).bind fun y S3=>match f S3 x y v with
 | some S4=>.ok (.nx r) S4
 | none=>.bad
def Ew (f:Sto→D→List D→Option Sto) (o:EM) (t:AM):SM:=fun r S=>(o r S).bind fun x S1=>(t r S1).bind fun ys S2=>match f S2 x ys with
 | some S3=>.ok (.nx r) S3
 | none=>.bad
def sNx (a:SM):SM:=fun r S=>(a r S).nx
def El (c:Str) (t:AM):SM:=fun r S=>(t r S).bind fun xs S1=>if xs.length≤sizeLine then .err ⟨c,.tup xs⟩ S1 else .bad
def Ey (cs:List Str) (i n:Nat) (b h:SM):SM:=fun r S=>match b r S with
 | .err x S1=>if cs.contains x.cls=true then (h ((List.replicate n none).set i (some (.exc x.cls))) S1).nx.bind fun f S2=>match f with
   | .rt d=>.ok (.rt d) S2
   | _=>.bad
  else .bad
 | .ok f S1=>.ok f S1
 | .bad=>.bad
def forL (g:G) (b:SM):List D→SM
 | []=>fun r S=>.ok (.nx r) S
 | x :: xs=>fun r S=>match g.put x r with
  | none=>.bad
  | some r1=>(b r1 S).bind fun f S1=>match f with
   | .nx r2=>forL g b xs r2 S1
   | .ct r2=>forL g b xs r2 S1
   | .bk r2=>.ok (.nx r2) S1
   | .rt d=>.ok (.rt d) S1
def gw (it:AM) (g:G) (b:SM):SM:=fun r S=>(it r S).bind fun xs S1=>forL g b xs r S1
def cP (t:TM) (b:SM):Nat→SM
 | 0=>fun _ _=>.bad
 | n + 1=>fun r S=>(t r S).bind fun c S1=>if c=true then (b r S1).bind fun f S2=>match f with
   | .nx r2=>cP t b n r2 S2
   | .ct r2=>cP t b n r2 S2
   | .bk r2=>.ok (.nx r2) S2
   | .rt d=>.ok (.rt d) S2
  else .ok (.nx r) S1
def fy (k:Nat) (caps:List Nat) (r:Rho):Rho:=List.replicate k none ++ caps.map fun i=>(r[i]?).join
def eu (g:G) (t:TM) (e:EM):List D→Rho→Sto→R (List D)
 | [],_,S=>.ok [] S
 | x :: xs,r,S=>match g.put x r with
  | none=>.bad
  | some r1=>(t r1 S).bind fun c S1=>if c=true then (e r1 S1).bind fun y S2=>(eu g t e xs r1 S2).bind fun ys S3=>.ok (y :: ys) S3
    else eu g t e xs r1 S1
def bJ (it:AM) (k:Nat) (caps:List Nat) (g:G) (t:TM) (e:EM):EM:=fun r S=>(it r S).bind fun xs S1=>
 if xs.length≤sizeLine then (eu g t e xs (fy k caps r) S1).bind fun ys S2=>.ok (.lst ys) S2 else .bad
def bO:TM:=fun _ S=>.ok true S
def fnM (n:Nat) (b:SM):FM:=fun ds S=>(b (ds.map some ++ List.replicate (n - ds.length) none) S).bind fun f S1=>match f with
 | .rt d=>.ok d S1
 | .nx _=>.ok .non S1
 | _=>.bad
end PD
namespace PD
open PySem PySem.Spec PyProof.Rows L2
set_option genInjectivity false in
structure Wd where
 st:List Addr
 hid:List Addr
def Wd.no (w:Wd) (a:Addr):Prop:=a ∉ w.st∧a ∉ w.hid
def Wd.add (w:Wd) (p:Addr):Wd:=⟨w.st ++ [p],w.hid⟩
def Wd.hide (w:Wd) (p:Addr):Wd:=⟨w.st,p :: w.hid⟩
def At (w:Wd) (H:Hp) (a:Addr) (o:HO):Prop:=H a=some o∧w.no a
def qG (K:PySem.W.Frag) (a:Addr) (vs:List V):Prop:=
 ∃ (o:Obj) (its:Array Value) (n:Nat),K.lookup a=some o∧o.cls=.type "tuple"∧o.data=.seq its n∧its.size≤sizeLine∧Vals vs its.toList
def Em (K:PySem.W.Frag) (a:Addr) (vs:List V):Prop:=
 ∃ (o:Obj) (its:Array Value) (n:Nat),K.lookup a=some o∧o.cls=.type "list"∧o.dict=none∧o.data=.seq its n∧its.size≤sizeLine∧Vals vs its.toList
def vT (K:PySem.W.Frag) (w:Wd) (H:Hp) (a:Addr) (vs:List V):Prop:=(∃ o,At w H a (.frz o (.lst vs))) ∨ Em K a vs
theorem vT.sq {K:PySem.W.Frag} {w:Wd} {H:Hp} {a:Addr} {vs:List V} (h:vT K w H a vs):SqL K H a vs:=h.elim (fun ⟨o,z⟩=>.inl (.inr ⟨o,z.1⟩)) .inr
def ExcAt (a:Addr) (C:Value):Heap→Prop:=fun h=>∃ o,h.get? a=some o∧o.cls=C
mutual
def RD (K:PySem.W.Frag) (w:Wd) (H:Hp):D→V→Prop
 | .non,v=>v=.non
 | .bl b,v=>v=.bl b
 | .int i,v=>v=.int i
 | .str x,v=>v=.str x
 | .tup ds,v=>∃ a vs,v=.ref a∧(At w H a (.tup vs) ∨ qG K a vs)∧RDs K w H ds vs
 | .lst ds,v=>∃ a vs,v=.ref a∧At w H a (.lst vs)∧RDs K w H ds vs
 | .fz ds,v=>∃ a vs,v=.ref a∧vT K w H a vs∧RDs K w H ds vs
 | .dic kvs,v=>∃ a us,v=.ref a∧At w H a (.dK us)∧RDk K w H kvs us
 | .ref n,v=>∃ a,v=.ref a∧w.st[n]?=some a
 | .ty n,v=>v=.ty n
 | .exc c,v=>∃ a C o,v=.ref a∧PySem.W.nsIn K mainGlobals c=some (some C)∧At w H a (.frz o (.ext (ExcAt a C)))
 | .cls c,v=>∃ C,PySem.W.nsIn K mainGlobals c=some (some (.ref C))∧v=.ref C
def RDs (K:PySem.W.Frag) (w:Wd) (H:Hp):List D→List V→Prop
 | [],vs=>vs=[]
 | d :: ds,vs=>∃ v r,vs=v :: r∧RD K w H d v∧RDs K w H ds r
def RDk (K:PySem.W.Frag) (w:Wd) (H:Hp):List (Sum Int Str × D)→List (Key × V)→Prop
 | [],us=>us=[]
 | (k,d) :: ds,us=>∃ v r,us=(k,v) :: r∧RD K w H d v∧RDk K w H ds r
end
structure Ext (w:Wd) (H:Hp) (w':Wd) (H':Hp):Prop where
 keep:∀ a o,H a=some o→a ∉ w.st→H' a=some o
 sub:∃ l,w'.st=w.st ++ l∧∀ a ∈ l,H a=none
 hid:∀ a,a ∈ w.hid→a ∈ w'.hid
 hnew:∀ a,a ∈ w'.hid→a ∈ w.hid ∨ H a=none
 frz:∀ a o u,H a=some (.frz o u)→H' a=some (.frz o u)
theorem Ext.refl (w:Wd) (H:Hp):Ext w H w H:=⟨fun _ _ h _=>h,⟨[],by simp,fun _ h=>nomatch h⟩,fun _ h=>h,fun _ h=>.inl h,fun _ _ _ h=>h⟩
theorem Ext.out {w w':Wd} {H H':Hp} (x:Ext w H w' H') {a:Addr} {o:HO} (h:H a=some o) (n:a ∉ w.st):a ∉ w'.st:=by
 obtain ⟨l,e,f⟩:=x.sub
 rw [e]
 intro z
 rcases List.mem_append.mp z with z | z
 ·exact n z
 ·rw [f a z] at h; cases h
theorem Ext.at {w w':Wd} {H H':Hp} (x:Ext w H w' H') {a:Addr} {o:HO} (h:At w H a o):At w' H' a o:=⟨x.keep a o h.1 h.2.1,x.out h.1 h.2.1,fun z=>(x.hnew a z).elim h.2.2 fun e=>by rw [h.1] at e; cases e⟩
theorem Ext.get {w w':Wd} {H H':Hp} (x:Ext w H w' H') {n:Nat} {a:Addr} (h:w.st[n]?=some a):w'.st[n]?=some a:=by
 obtain ⟨l,e,f⟩:=x.sub
 rw [e,List.getElem?_append_left (List.getElem?_eq_some_iff.mp h).1]
 exact h
theorem Ext.trans {w w1 w2:Wd} {H H1 H2:Hp} (x:Ext w H w1 H1) (y:Ext w1 H1 w2 H2) (fr:∀ a ∈ w.st,∃ o,H a=some o∧∃ o',H1 a=some o'):Ext w H w2 H2:=by
 have hno:∀ a,H1 a=none→H a=none:=fun a z=>by
  cases e:H a with
  | none=>rfl
  | some o=>
   by_cases hw:a ∈ w.st
   ·obtain ⟨_,_,o',e'⟩:=fr a hw
    rw [z] at e'; cases e'
   ·have:=x.keep a o e hw
    rw [z] at this; cases this
 refine ⟨fun a o h n=>y.keep a o (x.keep a o h n) (x.out h n),?_,fun a h=>y.hid a (x.hid a h),fun a h=>(y.hnew a h).elim (x.hnew a) fun z=>.inr (hno a z),fun a o u h=>y.frz a o u (x.frz a o u h)⟩
 obtain ⟨l,e1,f⟩:=x.sub
 obtain ⟨l2,e2,f2⟩:=y.sub
 refine ⟨l ++ l2,by rw [e2,e1]; simp,fun a ha=>?_⟩
 rcases List.mem_append.mp ha with z | z
 ·exact f a z
 ·exact hno a (f2 a z)
section
variable {K:PySem.W.Frag} {w w':Wd} {H H':Hp}
mutual
theorem RD.ext (x:Ext w H w' H'):∀ (d:D) (v:V),RD K w H d v→RD K w' H' d v
 | .non,_,h=>h
 | .bl _,_,h=>h
 | .int _,_,h=>h
 | .str _,_,h=>h
 | .tup ds,v,h=>by
  unfold RD at h ⊢
  obtain ⟨a,vs,e,p,r⟩:=h
  exact ⟨a,vs,e,p.imp x.at id,RDs.ext x ds vs r⟩
 | .lst ds,v,h=>by
  unfold RD at h ⊢
  obtain ⟨a,vs,e,p,r⟩:=h
  exact ⟨a,vs,e,x.at p,RDs.ext x ds vs r⟩
 | .fz ds,v,h=>by
  unfold RD at h ⊢
  obtain ⟨a,vs,e,p,r⟩:=h
  exact ⟨a,vs,e,p.imp (fun ⟨o,z⟩=>⟨o,x.at z⟩) id,RDs.ext x ds vs r⟩
 | .dic kvs,v,h=>by
  unfold RD at h ⊢
  obtain ⟨a,us,e,p,r⟩:=h
  exact ⟨a,us,e,x.at p,RDk.ext x kvs us r⟩
 | .ref n,v,h=>by
  unfold RD at h ⊢
  obtain ⟨a,e,p⟩:=h
  exact ⟨a,e,x.get p⟩
 | .ty _,_,h=>h
 | .exc c,v,h=>by
  unfold RD at h ⊢
  obtain ⟨a,C,o,e,q,p⟩:=h
  exact ⟨a,C,o,e,q,x.at p⟩
 | .cls _,_,h=>h
theorem RDs.ext (x:Ext w H w' H'):∀ (ds:List D) (vs:List V),RDs K w H ds vs→RDs K w' H' ds vs
 | [],_,h=>h
 | d :: ds,vs,h=>by
  unfold RDs at h ⊢
  obtain ⟨v,r,e,p,q⟩:=h
  exact ⟨v,r,e,RD.ext x d v p,RDs.ext x ds r q⟩
theorem RDk.ext (x:Ext w H w' H'):∀ (ds:List (Sum Int Str × D)) (vs:List (Key × V)),RDk K w H ds vs→RDk K w' H' ds vs
 | [],_,h=>h
 | (k,d) :: ds,vs,h=>by
  unfold RDk at h ⊢
  obtain ⟨v,r,e,p,q⟩:=h
  exact ⟨v,r,e,RD.ext x d v p,RDk.ext x ds r q⟩
end
end
def RDf (K:PySem.W.Frag) (w:Wd) (H:Hp) (fs:List (Str × D)) (us:List (Str × V)):Prop:=fs.map (·.1)=us.map (·.1)∧RDs K w H (fs.map (·.2)) (us.map (·.2))
def RO (K:PySem.W.Frag) (w:Wd) (H:Hp) (a:Addr):SO→Prop
 | .lst ds=>∃ vs,H a=some (.lst vs)∧RDs K w H ds vs
 | .dic kvs=>∃ us,H a=some (.dK us)∧RDk K w H kvs us
 | .fdic kvs=>∃ o us,H a=some (.frz o (.dK us))∧RDk K w H kvs us
 | .ins c fs=>∃ C dx us,PySem.W.nsIn K mainGlobals c=some (some (.ref C))∧H a=some (.ins C dx us)∧RDf K w H fs us
 | .flst ds=>∃ o vs,H a=some (.frz o (.lst vs))∧RDs K w H ds vs
structure RS (K:PySem.W.Frag) (w:Wd) (H:Hp) (S:Sto):Prop where
 nd:w.st.Nodup
 len:w.st.length=S.length
 obj:∀ (n:Nat) (o:SO),S[n]?=some o→∃ a:Addr,w.st[n]?=some a∧RO K w H a o
 hid:∀ a ∈ w.hid,a ∉ w.st∧∃ o,H a=some o
section
variable {K:PySem.W.Frag} {w w':Wd} {H H':Hp} {S:Sto}
theorem RS.there (s:RS K w H S) {a:Addr} (ha:a ∈ w.st):∃ o,H a=some o:=by
 obtain ⟨n,hn⟩:=List.mem_iff_getElem?.mp ha
 have hl:n < S.length:=by rw [← s.len]; exact (List.getElem?_eq_some_iff.mp hn).1
 obtain ⟨b,hb,r⟩:=s.obj n S[n] (List.getElem?_eq_getElem hl)
 rw [hn] at hb; cases hb
 revert r
 cases S[n] with
 | lst ds=>rintro ⟨vs,e,_⟩; exact ⟨_,e⟩
 | dic kvs=>rintro ⟨vs,e,_⟩; exact ⟨_,e⟩
 | fdic kvs=>rintro ⟨o,vs,e,_⟩; exact ⟨_,e⟩
 | ins c fs=>rintro ⟨C,dx,us,_,e,_⟩; exact ⟨_,e⟩
 | flst ds=>rintro ⟨o,vs,e,_⟩; exact ⟨_,e⟩
theorem RS.freshS (s:RS K w H S) {a:Addr} (h:H a=none):a ∉ w.st:=fun z=>by
 obtain ⟨o,e⟩:=s.there z
 rw [h] at e; cases e
theorem RS.fresh (s:RS K w H S) {a:Addr} (h:H a=none):w.no a:=⟨s.freshS h,fun z=>by
 obtain ⟨_,o,e⟩:=s.hid a z
 rw [h] at e; cases e⟩
theorem Ext.trans' {w1 w2:Wd} {H1 H2:Hp} {S1:Sto} (x:Ext w H w1 H1) (y:Ext w1 H1 w2 H2) (s:RS K w H S) (s1:RS K w1 H1 S1):Ext w H w2 H2:=
 x.trans y fun a ha=>by
  obtain ⟨o,e⟩:=s.there ha
  obtain ⟨l,el,_⟩:=x.sub
  obtain ⟨o',e'⟩:=s1.there (a:=a) (by rw [el]; exact List.mem_append_left _ ha)
  exact ⟨o,e,o',e'⟩
theorem Ext.new {p:Addr} {o:HO} (hp:H p=none):Ext w H w (upd H p o):=
 ⟨fun a u e _=>by rw [aG (aQ e hp)]; exact e,⟨[],by simp,fun _ z=>nomatch z⟩,fun _ h=>h,fun _ h=>.inl h,fun a o u e=>by rw [aG (aQ e hp)]; exact e⟩
theorem RO.ext (x:Ext w H w' H') {a:Addr} {o:SO} (hk:∀ u,H a=some u→H' a=some u) (r:RO K w H a o):RO K w' H' a o:=by
 cases o with
 | lst ds=>obtain ⟨vs,e,q⟩:=r; exact ⟨vs,hk _ e,RDs.ext x _ _ q⟩
 | dic kvs=>obtain ⟨vs,e,q⟩:=r; exact ⟨vs,hk _ e,RDk.ext x _ _ q⟩
 | fdic kvs=>obtain ⟨o,vs,e,q⟩:=r; exact ⟨o,vs,hk _ e,RDk.ext x _ _ q⟩
 | ins c fs=>obtain ⟨C,dx,us,n,e,q1,q2⟩:=r; exact ⟨C,dx,us,n,hk _ e,q1,RDs.ext x _ _ q2⟩
 | flst ds=>obtain ⟨o,vs,e,q⟩:=r; exact ⟨o,vs,hk _ e,RDs.ext x _ _ q⟩
theorem RS.new {p:Addr} {o:HO} (s:RS K w H S) (hp:H p=none):RS K w (upd H p o) S:=
  ⟨s.nd,s.len,fun n so e=>by
    obtain ⟨a,ha,r⟩:=s.obj n so e
    exact ⟨a,ha,r.ext (Ext.new hp) fun u q=>by rw [aG (aQ q hp)]; exact q⟩,
   fun a ha=>by
    obtain ⟨h1,u,e⟩:=s.hid a ha
    exact ⟨h1,u,by rw [aG (aQ e hp)]; exact e⟩⟩
theorem Ext.alloc {p:Addr} {o:HO} (hp:H p=none):Ext w H (w.add p) (upd H p o):=
 ⟨fun a u e _=>by rw [aG (aQ e hp)]; exact e,⟨[p],rfl,fun a ha=>by
  have:a=p:=by simpa using ha
  subst this; exact hp⟩,fun _ h=>h,fun _ h=>.inl h,fun a o u e=>by rw [aG (aQ e hp)]; exact e⟩
theorem RS.alloc {p:Addr} {o:HO} {so:SO} (s:RS K w H S) (hp:H p=none) (r:RO K (w.add p) (upd H p o) p so):RS K (w.add p) (upd H p o) (S ++ [so]):=by
 have np:=s.freshS hp
 refine ⟨?_,by simp [Wd.add,s.len],fun n so' e=>?_,fun a ha=>?_⟩
 ·show (w.st ++ [p]).Nodup
  rw [List.nodup_append]
  exact ⟨s.nd,by simp,fun a ha b hb=>by
   have:b=p:=by simpa using hb
   subst this
   rintro rfl
   exact np ha⟩
 ·by_cases hn:n < S.length
  ·rw [List.getElem?_append_left hn] at e
   obtain ⟨a,ha,q⟩:=s.obj n so' e
   exact ⟨a,(Ext.alloc (o:=o) hp).get ha,q.ext (Ext.alloc hp) fun u z=>by rw [aG (aQ z hp)]; exact z⟩
  ·have hn':n=S.length:=by
    have:=(List.getElem?_eq_some_iff.mp e).1
    simp at this; omega
   subst hn'
   simp at e; subst e
   exact ⟨p,by show (w.st ++ [p])[S.length]?=some p; rw [← s.len]; simp,r⟩
 ·obtain ⟨h1,u,e⟩:=s.hid a ha
  refine ⟨?_,u,by rw [aG (aQ e hp)]; exact e⟩
  show a ∉ w.st ++ [p]
  intro z
  rcases List.mem_append.mp z with z | z
  ·exact h1 z
  ·have:a=p:=by simpa using z
   subst this
   rw [hp] at e; cases e
theorem Ext.mut {p:Addr} {o u0:HO} (hp:p ∈ w.st) (h0:H p=some u0) (hu:autoParam (∀ o u,u0 ≠ .frz o u) Au.h8._auto_1):Ext w H w (upd H p o):=
 ⟨fun a u e n=>by rw [aG (fun z:a=p=>n (z ▸ hp))]; exact e,⟨[],by simp,fun _ z=>nomatch z⟩,fun _ h=>h,fun _ h=>.inl h,fun a o u e=>by
  rw [aG (fun z:a=p=>by rw [z,h0] at e; exact hu o u (Option.some.inj e))]; exact e⟩
theorem RS.mut {p:Addr} {o:HO} {so:SO} {n:Nat} (s:RS K w H S) (hp:w.st[n]?=some p) {u0:HO} (h0:H p=some u0) (r:RO K w (upd H p o) p so) (hu:autoParam (∀ o u,u0 ≠ .frz o u) Au.h8._auto_1):RS K w (upd H p o) (S.set n so):=by
 have hm:p ∈ w.st:=List.mem_of_getElem? hp
 refine ⟨s.nd,by simp [s.len],fun m so' e=>?_,fun a ha=>?_⟩
 ·by_cases hn:m=n
  ·subst hn
   have hl:m < S.length:=by rw [← s.len]; exact (List.getElem?_eq_some_iff.mp hp).1
   rw [List.getElem?_set_self hl] at e
   cases e
   exact ⟨p,hp,r⟩
  ·rw [List.getElem?_set_ne (Ne.symm hn)] at e
   obtain ⟨a,ha,q⟩:=s.obj m so' e
   refine ⟨a,ha,q.ext (Ext.mut hm h0 hu) fun u z=>?_⟩
   have:a ≠ p:=fun z=>by
    subst z
    obtain ⟨h1,e1⟩:=List.getElem?_eq_some_iff.mp ha
    obtain ⟨h2,e2⟩:=List.getElem?_eq_some_iff.mp hp
    exact hn ((List.getElem_inj s.nd).mp (e1.trans e2.symm))
   rw [aG this]; exact z
 ·obtain ⟨h1,u,e⟩:=s.hid a ha
  exact ⟨h1,u,by rw [aG (fun z:a=p=>h1 (z ▸ hm))]; exact e⟩
end
def RSt (K:PySem.W.Frag) (w:Wd) (H:Hp) (r:Rho) (s:L2.St):Prop:=
 s.length=r.length∧∀ (i:Nat) (d:D),r[i]?=some (some d)→∃ v,s[i]?=some (some v)∧RD K w H d v
theorem RSt.ext {K:PySem.W.Frag} {w w':Wd} {H H':Hp} {r:Rho} {s:L2.St} (h:RSt K w H r s) (x:Ext w H w' H'):RSt K w' H' r s:=
 ⟨h.1,fun i d e=>let ⟨v,e1,q⟩:=h.2 i d e; ⟨v,e1,RD.ext x d v q⟩⟩
theorem RSt.set {K:PySem.W.Frag} {w:Wd} {H:Hp} {r:Rho} {s:L2.St} (h:RSt K w H r s) (i:Nat) {d:D} {v:V} (q:RD K w H d v):RSt K w H (r.set i (some d)) (s.set i (some v)):=by
 refine ⟨by simp [h.1],fun j d' e=>?_⟩
 by_cases hj:j=i
 ·subst hj
  have hl:j < r.length:=by
   have:=(List.getElem?_eq_some_iff.mp e).1
   simpa using this
  rw [List.getElem?_set_self hl] at e
  cases e
  exact ⟨v,List.getElem?_set_self (by rw [h.1]; exact hl),q⟩
 ·rw [List.getElem?_set_ne (Ne.symm hj)] at e
  obtain ⟨v',e',q'⟩:=h.2 j d' e
  exact ⟨v',by rw [List.getElem?_set_ne (Ne.symm hj)]; exact e',q'⟩
section
variable {K:PySem.W.Frag} {w:Wd} {H:Hp}
theorem RDs.nil:RDs K w H [] []:=by unfold RDs; rfl
theorem RDs.cons {d:D} {v:V} {ds:List D} {vs:List V} (r:RD K w H d v) (q:RDs K w H ds vs):RDs K w H (d :: ds) (v :: vs):=by unfold RDs; exact ⟨v,vs,rfl,r,q⟩
theorem RDs.nil_inv {vs:List V} (h:RDs K w H [] vs):vs=[]:=by unfold RDs at h; exact h
theorem RDs.cons_inv {d:D} {ds:List D} {vs:List V} (h:RDs K w H (d :: ds) vs):∃ v r,vs=v :: r∧RD K w H d v∧RDs K w H ds r:=by unfold RDs at h; exact h
theorem RDs.one_inv {d:D} {vs:List V} (h:RDs K w H [d] vs):∃ v,vs=[v]∧RD K w H d v:=by
 obtain ⟨v,r,rfl,h1,h2⟩:=h.cons_inv
 rw [h2.nil_inv]
 exact ⟨v,rfl,h1⟩
theorem RDs.two_inv {d e:D} {vs:List V} (h:RDs K w H [d,e] vs):∃ v u,vs=[v,u]∧RD K w H d v∧RD K w H e u:=by
 obtain ⟨v,r,rfl,h1,h2⟩:=h.cons_inv
 obtain ⟨u,rfl,h3⟩:=h2.one_inv
 exact ⟨v,u,rfl,h1,h3⟩
theorem RDs.length:∀ {ds:List D} {vs:List V},RDs K w H ds vs→vs.length=ds.length
 | [],_,h=>by rw [h.nil_inv]; rfl
 | _ :: _,_,h=>by
  obtain ⟨v,r,rfl,_,q⟩:=h.cons_inv
  simp [q.length]
theorem RDs.get:∀ {ds:List D} {vs:List V} {i:Nat} {d:D},RDs K w H ds vs→ds[i]?=some d→∃ v,vs[i]?=some v∧RD K w H d v
 | [],_,_,_,_,e=>by simp at e
 | _ :: _,_,0,_,h,e=>by
  obtain ⟨v,r,rfl,p,_⟩:=h.cons_inv
  simp at e; subst e
  exact ⟨v,rfl,p⟩
 | _ :: ds,_,i + 1,d,h,e=>by
  obtain ⟨v,r,rfl,_,q⟩:=h.cons_inv
  obtain ⟨u,e1,q1⟩:=q.get (i:=i) (d:=d) (by simpa using e)
  exact ⟨u,by simpa using e1,q1⟩
theorem RDs.append:∀ {ds es:List D} {vs us:List V},RDs K w H ds vs→RDs K w H es us→RDs K w H (ds ++ es) (vs ++ us)
 | [],_,_,_,h,q=>by rw [h.nil_inv]; exact q
 | _ :: _,_,_,_,h,q=>by
  obtain ⟨v,r,rfl,p,t⟩:=h.cons_inv
  exact .cons p (t.append q)
theorem RDs.take:∀ {ds:List D} {vs:List V} (n:Nat),RDs K w H ds vs→RDs K w H (ds.take n) (vs.take n)
 | _,_,0,_=>by simp; exact .nil
 | [],_,_ + 1,h=>by rw [h.nil_inv]; simp; exact .nil
 | _ :: _,_,n + 1,h=>by
  obtain ⟨v,r,rfl,p,t⟩:=h.cons_inv
  exact .cons p (t.take n)
theorem RDs.drop:∀ {ds:List D} {vs:List V} (n:Nat),RDs K w H ds vs→RDs K w H (ds.drop n) (vs.drop n)
 | _,_,0,h=>h
 | [],_,_ + 1,h=>by rw [h.nil_inv]; simp; exact .nil
 | _ :: _,_,n + 1,h=>by
  obtain ⟨v,r,rfl,_,t⟩:=h.cons_inv
  exact t.drop n
theorem RDs.set {d:D} {v:V} (r:RD K w H d v):∀ {ds:List D} {vs:List V} (i:Nat),RDs K w H ds vs→RDs K w H (ds.set i d) (vs.set i v)
 | [],_,_,h=>by rw [h.nil_inv]; exact .nil
 | _ :: _,_,0,h=>by
  obtain ⟨_,_,rfl,_,t⟩:=h.cons_inv
  exact .cons r t
 | _ :: _,_,i + 1,h=>by
  obtain ⟨_,_,rfl,p,t⟩:=h.cons_inv
  exact .cons p (RDs.set r i t)
end
end PD
namespace PD
open PySem PySem.Spec PyProof.Rows L2
def RX (K:PySem.W.Frag) (w:Wd) (H:Hp) (x:XD) (c:Value) (da:Option Addr):Prop:=PySem.W.nsIn K mainGlobals x.cls=some (some c)
def aH {A B:Type} (K:PySem.W.Frag) (E:XK) (rel:Wd→Hp→A→B→Prop) (w:Wd) (H:Hp) (r:R A) (Q:B→Hp→Prop):Prop:=match r with
 | .ok a S'=>∀ w' H' b,Ext w H w' H'→rel w' H' a b→RS K w' H' S'→Q b H'
 | .err x S'=>∀ w' H' c da,Ext w H w' H'→RS K w' H' S'→RX K w' H' x c da→E c da H'
 | .bad=>False
section
variable {A B A2 B2:Type} {K:PySem.W.Frag} {E:XK} {rel:Wd→Hp→A→B→Prop} {rel2:Wd→Hp→A2→B2→Prop} {w w1:Wd} {H H1:Hp} {S S1:Sto}
theorem aH.ext {r:R A} {Q:B→Hp→Prop} (h:aH K E rel w H r Q) (x:Ext w H w1 H1) (s:RS K w H S) (s1:RS K w1 H1 S1):aH K E rel w1 H1 r Q:=by
 cases r with
 | ok a S'=>exact fun w' H' b y q t=>h w' H' b (x.trans' y s s1) q t
 | err e S'=>exact fun w' H' c da y t q=>h w' H' c da (x.trans' y s s1) t q
 | bad=>exact h
theorem aH.bind {r:R A} {f:A→Sto→R A2} {Q':B→Hp→Prop} {Q:B2→Hp→Prop} (h:aH K E rel2 w H (r.bind f) Q) (s:RS K w H S)
  (k:∀ a S1 w1 H1 b,Ext w H w1 H1→rel w1 H1 a b→RS K w1 H1 S1→aH K E rel2 w1 H1 (f a S1) Q→Q' b H1):aH K E rel w H r Q':=by
 cases r with
 | ok a S'=>exact fun w1 H1 b x q s1=>k a S' w1 H1 b x q s1 (aH.ext (r:=f a S') h x s s1)
 | err e S'=>exact h
 | bad=>exact h
theorem aH.bindAt {w0:Wd} {H0:Hp} {S0:Sto} {r:R A} {f:A→Sto→R A2} {Q':B→Hp→Prop} {Q:B2→Hp→Prop} (h:aH K E rel2 w0 H0 (r.bind f) Q) (x:Ext w0 H0 w H) (s0:RS K w0 H0 S0) (s:RS K w H S)
  (k:∀ a S1 w1 H1 b,Ext w H w1 H1→rel w1 H1 a b→RS K w1 H1 S1→aH K E rel2 w0 H0 (f a S1) Q→Q' b H1):aH K E rel w H r Q':=by
 cases r with
 | ok a S'=>exact fun w1 H1 b y q s1=>k a S' w1 H1 b y q s1 h
 | err e S'=>exact fun w' H' c da y t q=>h w' H' c da (x.trans' y s0 s) t q
 | bad=>exact h
theorem aH.ret {a:A} {b:B} {Q:B→Hp→Prop} (h:aH K E rel w H (.ok a S) Q) (q:rel w H a b) (s:RS K w H S):Q b H:=h w H b (Ext.refl w H) q s
theorem aH.at {a:A} {b:B} {Q:B→Hp→Prop} (h:aH K E rel w H (.ok a S) Q) (x:Ext w H w1 H1) (q:rel w1 H1 a b) (s:RS K w1 H1 S):Q b H1:=h w1 H1 b x q s
theorem aH.of {o:Option A} {Q:B→Hp→Prop} (h:aH K E rel w H (R.of S o) Q):∃ a,o=some a∧aH K E rel w H (.ok a S) Q:=by
 cases o with
 | some a=>exact ⟨a,rfl,h⟩
 | none=>exact h.elim
end
set_option genInjectivity false in
inductive FV where
 | nx (s:L2.St) | rt (v:V) | bk (s:L2.St) | ct (s:L2.St)
def FV.to (D:Ends):FV→Hp→Prop
 | .nx s,H=>D.nx s H
 | .rt v,H=>D.rt v H
 | .bk s,H=>D.bk s H
 | .ct s,H=>D.ct s H
def RF (K:PySem.W.Frag) (w:Wd) (H:Hp):F→FV→Prop
 | .nx r,f=>∃ s,f=.nx s∧RSt K w H r s
 | .rt d,f=>∃ v,f=.rt v∧RD K w H d v
 | .bk r,f=>∃ s,f=.bk s∧RSt K w H r s
 | .ct r,f=>∃ s,f=.ct s∧RSt K w H r s
def RB (w:Wd) (H:Hp) (a b:Bool):Prop:=b=a
def uE (K:PySem.W.Frag) (E:XK) (m:EM):TE:=fun s H Q=>∃ w r S,RSt K w H r s∧RS K w H S∧aH K E (RD K) w H (m r S) Q
def uT (K:PySem.W.Frag) (E:XK) (m:TM):TT:=fun s H Q=>∃ w r S,RSt K w H r s∧RS K w H S∧aH K E RB w H (m r S) Q
def uA (K:PySem.W.Frag) (E:XK) (m:AM):TA:=fun s H Q=>∃ w r S,RSt K w H r s∧RS K w H S∧aH K E (RDs K) w H (m r S) Q
def uS (K:PySem.W.Frag) (E:XK) (m:SM):TS:=fun D s H=>∃ w r S,RSt K w H r s∧RS K w H S∧aH K E (RF K) w H (m r S) (FV.to D)
theorem ex6 {K:PySem.W.Frag} {H:Hp} {s:L2.St} {c:Wd→Rho→Sto→Prop} {P:Prop} (z:∃ w r S,RSt K w H r s∧RS K w H S∧c w r S) (f:∀ w r S,RSt K w H r s→RS K w H S→c w r S→P):P:=by
 obtain ⟨w,r,S,x,y,z⟩:=z
 exact f w r S x y z
theorem ex8.{u} {α:Type u} {a:Wd→Rho→Prop} {b:Wd→Rho→α→Rho→Prop} {c:Wd→Rho→α→Rho→Prop} {d:Wd→Rho→α→Rho→Prop} {P:Prop} (z:∃ w r e r',a w r∧b w r e r'∧c w r e r'∧d w r e r') (f:∀ w r e r',a w r→b w r e r'→c w r e r'→d w r e r'→P):P:=by
 obtain ⟨w,r,e,r',x,y,z,t⟩:=z
 exact f w r e r' x y z t
structure Bx (p:Prop):Prop where
 out:p
abbrev SE (X:Cx) (E:XK) (e:Expr) (m:EM):Prop:=Bx (PE X e (uE X.K E m))
abbrev ST (X:Cx) (E:XK) (e:Expr) (m:TM):Prop:=Bx (PT X e (uT X.K E m))
abbrev SW (X:Cx) (E:XK) (e:Expr) (m:TM):Prop:=Bx (PW X e (uT X.K E m))
abbrev SA (X:Cx) (E:XK) (es:List Expr) (m:AM):Prop:=Bx (PA X es (uA X.K E m))
abbrev SS (X:Cx) (E:XK) (st:Stmt) (m:SM):Prop:=Bx (PS X st (uS X.K E m))
abbrev SSs (X:Cx) (E:XK) (st:List Stmt) (m:SM):Prop:=Bx (PSs X st (uS X.K E m))
theorem bC {X:Cx} {e:Expr} {t t':TE} (h:PE X e t) (k:∀ s H Q,t' s H Q→t s H Q):PE X e t':=fun pins s σ H Q I q=>h pins s σ H Q I (k σ H Q q)
theorem oH {X:Cx} {e:Expr} {t t':TT} (h:PT X e t) (k:∀ s H Q,t' s H Q→t s H Q):PT X e t':=fun pins s σ H Q I q=>h pins s σ H Q I (k σ H Q q)
theorem uo {X:Cx} {e:Expr} {t t':TT} (h:PW X e t) (k:∀ s H Q,t' s H Q→t s H Q):PW X e t':=fun wh pins s σ H Q I q=>h wh pins s σ H Q I (k σ H Q q)
theorem uq {X:Cx} {e:List Expr} {t t':TA} (h:PA X e t) (k:∀ s H Q,t' s H Q→t s H Q):PA X e t':=fun p pins s σ H Q I q=>h p pins s σ H Q I (k σ H Q q)
theorem eU {X:Cx} {e:Stmt} {t t':TS} (h:PS X e t) (k:∀ D s H,t' D s H→t D s H):PS X e t':=fun pins s σ H Q I q=>h pins s σ H Q I (k Q σ H q)
theorem qH {X:Cx} {e:List Stmt} {t t':TS} (h:PSs X e t) (k:∀ D s H,t' D s H→t D s H):PSs X e t':=fun pins s σ H Q I q=>h pins s σ H Q I (k Q σ H q)
section
variable {X:Cx} {E:XK} {a b c:Expr} {ma mb mc:EM} {pos:Pos}
theorem af (i:Nat) {x:Str} {pos:Pos} (hN:autoParam (X.N[i]?=some x) Au.h0._auto_1) (hv:Vis X.env.scope x) (hd:autoParam ((x == ("__debug__":Str))=false) Au.h3._auto_1)
  (hcd:autoParam ((x == ("__classdict__":Str))=false) Au.h3._auto_1):SE X E (.Name x pos) (ag i):=⟨
 bC (pv i hN hv hd hcd) fun s H Q zq=>ex6 zq fun w r S hr hS hp=>by
  unfold ag at hp
  split at hp
  ·rename_i d e
   obtain ⟨v,e',q⟩:=hr.2 i d e
   exact ⟨v,e',hp.ret q hS⟩
  ·exact hp.elim⟩
theorem vU {e:Expr} {v:V} {d:D} (h:PE X e (tC v)) (q:∀ w H,RD X.K w H d v):SE X E e (eC d):=⟨
 bC h fun s H Q zq=>ex6 zq fun w r S hr hS hp=>hp.ret (q w H) hS⟩
theorem az {i j pos}:SE X E (.Constant (.int i) j pos) (eC (.int i)):=vU Bc fun _ _=>by unfold RD; rfl
theorem g6 {i j pos}:SE X E (.Constant (.bool i) j pos) (eC (.bl i)):=vU CZ fun _ _=>by unfold RD; rfl
theorem BZ {j pos}:SE X E (.Constant .none j pos) (eC .non):=vU Bd fun _ _=>by unfold RD; rfl
theorem zv {x:Str} {i:Int} {t:Tok} {pos:Pos} (hg:Gl X x) (hm:X.mg x=some (.int i t)) (hd:autoParam ((x == ("__debug__":Str))=false) Au.h3._auto_1):SE X E (.Name x pos) (eC (.int i)):=
 vU (ud hg hm (v:=.int i) ⟨t,rfl⟩ hd) fun _ _=>by unfold RD; rfl
theorem qI {x:Str} {T:String} {pos:Pos} (hg:Gl X x) (hm:X.mg x=none) (hv:bootBuiltins x=some (.type T)) (hn:autoParam (x ≠ "__name__") Au.h3._auto_1) (hd:autoParam ((x == ("__debug__":Str))=false) Au.h3._auto_1):SE X E (.Name x pos) (eC (.ty T)):=
 vU (yR hg hm hv (v:=.ty T) rfl hn hd) fun _ _=>by unfold RD; rfl
def xO (K:PySem.W.Frag) (E:XK) (f:Sto→D→D→Option D):R2:=fun x y H Q=>∃ w S d e,RS K w H S∧RD K w H d x∧RD K w H e y∧aH K E (RD K) w H (R.of S (f S d e)) Q
def xC (K:PySem.W.Frag) (E:XK) (f:Sto→List D→Option D):List V→Hp→VK→Prop:=fun xs H Q=>∃ w S ds,RS K w H S∧RDs K w H ds xs∧aH K E (RD K) w H (R.of S (f S ds)) Q
theorem aR {op:Operator} {f:Sto→D→D→Option D} (ho:OpR X (binaryOp op) (xO X.K E f)) (ha:SE X E a ma) (hb:SE X E b mb):SE X E (.BinOp a op b pos) (eOp f ma mb):=⟨
 bC (Dc ho ha.out hb.out) fun s H Q zq=>ex6 zq fun w r S hr hS hp=>⟨w,r,S,hr,hS,hp.bind hS fun d S1 w1 H1 v x1 q1 s1 p1=>
  ⟨w1,r,S1,hr.ext x1,s1,p1.bind s1 fun e S2 w2 H2 u x2 q2 s2 p2=>⟨w2,S2,d,e,s2,RD.ext x2 d v q1,q2,p2⟩⟩⟩⟩
theorem kY {op:CmpOp} {f:Sto→D→D→Option D} (ho:OpR X (compareOp op) (xO X.K E f)) (ha:SE X E a ma) (hb:SE X E b mb) (hm:autoParam (behindInMarks op b=false) Au.h9._auto_1):
  SE X E (.Compare a [op] [b] pos) (eOp f ma mb):=⟨
 bC (y6 ho ha.out hb.out hm) fun s H Q zq=>ex6 zq fun w r S hr hS hp=>⟨w,r,S,hr,hS,hp.bind hS fun d S1 w1 H1 v x1 q1 s1 p1=>
  ⟨w1,r,S1,hr.ext x1,s1,p1.bind s1 fun e S2 w2 H2 u x2 q2 s2 p2=>⟨w2,S2,d,e,s2,RD.ext x2 d v q1,q2,p2⟩⟩⟩⟩
theorem kZ {op} (h:SE X E a ma):SE X E (.BoolOp op [a] pos) ma:=⟨Bi h.out⟩
theorem iT {rest:List Expr} (ha:SE X E a ma) (hb:SE X E (.BoolOp .And (b :: rest) pos) mb):SE X E (.BoolOp .And (a :: b :: rest) pos) (g4 ma mb):=⟨
 bC (Bj ha.out hb.out) fun s H Q zq=>ex6 zq fun w r S hr hS hp=>⟨w,r,S,hr,hS,hp.bind hS fun d S1 w1 H1 v x1 q1 s1 p1=>by
  cases d with
  | bl k=>
   unfold RD at q1
   subst q1
   refine ⟨k,rfl,?_⟩
   cases k with
   | true=>exact vR ⟨w1,r,S1,hr.ext x1,s1,p1⟩
   | false=>exact vQ (aH.ret p1 (by unfold RD; rfl) s1)
  | _=>exact p1.elim⟩⟩
theorem B0 (ha:SE X E a ma):SE X E (.UnaryOp .Not a pos) (BX ma):=⟨
 bC (Bk ha.out) fun s H Q zq=>ex6 zq fun w r S hr hS hp=>⟨w,r,S,hr,hS,hp.bind hS fun d S1 w1 H1 v x1 q1 s1 p1=>by
  cases d with
  | bl k=>
   unfold RD at q1
   subst q1
   exact ⟨k,rfl,aH.ret p1 (by unfold RD; rfl) s1⟩
  | _=>exact p1.elim⟩⟩
theorem AY {s:L2.St} {H:Hp} {Q:Bool→Hp→Prop} (h:uT X.K E (tV ma) s H Q):uE X.K E ma s H fun x H1=>∃ k,x=.bl k∧Q k H1:=by
 obtain ⟨w,r,S,hr,hS,hp⟩:=h
 exact ⟨w,r,S,hr,hS,hp.bind hS fun d S1 w1 H1 v x1 q1 s1 p1=>by
  cases d with
  | bl k=>
   unfold RD at q1
   exact ⟨k,q1,aH.ret p1 rfl s1⟩
  | _=>exact p1.elim⟩
theorem iU (h:SE X E a ma) (he:autoParam (∀ whole,isTrue a X.env whole=(do let v ← whole; standAt a.pos; holding [v] (truthy v))) Au.h4._auto_1):ST X E a (tV ma):=⟨
 oH (Be h.out he) fun s H Q q=>AY q⟩
theorem bK {op:CmpOp} {f:Sto→D→D→Option D} (ho:OpR X (compareOp op) (xO X.K E f)) (ha:SE X E a ma) (hb:SE X E b mb) (hm:autoParam (behindInMarks op b=false) Au.h9._auto_1):
  ST X E (.Compare a [op] [b] pos) (tV (eOp f ma mb)):=⟨
 oH (y8 ho ha.out hb.out hm) fun s H Q q=>by
  obtain ⟨w,r,S,hr,hS,hp⟩:=AY q
  exact ⟨w,r,S,hr,hS,hp.bind hS fun d S1 w1 H1 v x1 q1 s1 p1=>
   ⟨w1,r,S1,hr.ext x1,s1,p1.bind s1 fun e S2 w2 H2 u x2 q2 s2 p2=>⟨w2,S2,d,e,s2,RD.ext x2 d v q1,q2,p2⟩⟩⟩⟩
theorem oI {mt:TM} (ha:ST X E a mt):SW X E (.BoolOp .And [a] pos) mt:=⟨yS ha.out⟩
theorem oJ {mt:TM} (ha:ST X E a mt):SW X E (.BoolOp .Or [a] pos) mt:=⟨Bf ha.out⟩
theorem sD {mt mu:TM} {rest:List Expr} (ha:ST X E a mt) (hb:SW X E (.BoolOp .And (b :: rest) pos) mu):SW X E (.BoolOp .And (a :: b :: rest) pos) (PD.gY mt mu):=⟨
 uo (Bg ha.out hb.out) fun s H Q zq=>ex6 zq fun w r S hr hS hp=>⟨w,r,S,hr,hS,hp.bind hS fun k S1 w1 H1 v x1 q1 s1 p1=>by
  have e:v=k:=q1
  subst e
  cases v with
  | true=>exact vR ⟨w1,r,S1,hr.ext x1,s1,p1⟩
  | false=>exact vQ (aH.ret p1 rfl s1)⟩⟩
theorem uv {mt mu:TM} {rest:List Expr} (ha:ST X E a mt) (hb:SW X E (.BoolOp .Or (b :: rest) pos) mu):SW X E (.BoolOp .Or (a :: b :: rest) pos) (PD.tOr mt mu):=⟨
 uo (C0 ha.out hb.out) fun s H Q zq=>ex6 zq fun w r S hr hS hp=>⟨w,r,S,hr,hS,hp.bind hS fun k S1 w1 H1 v x1 q1 s1 p1=>by
  have e:v=k:=q1
  subst e
  cases v with
  | false=>exact vQ ⟨w1,r,S1,hr.ext x1,s1,p1⟩
  | true=>exact vR (aH.ret p1 rfl s1)⟩⟩
theorem lg {mt:TM} (h:SW X E a mt):ST X E a mt:=⟨PW.pt h.out⟩
theorem iV {mt:TM} (ha:ST X E a mt):ST X E (.UnaryOp .Not a pos) (PD.gp mt):=⟨
 oH (Bh ha.out) fun s H Q zq=>ex6 zq fun w r S hr hS hp=>⟨w,r,S,hr,hS,hp.bind hS fun k S1 w1 H1 v x1 q1 s1 p1=>by
  have e:v=k:=q1
  subst e
  exact aH.ret p1 rfl s1⟩⟩
theorem aj:SA X E [] ak:=⟨uq BI fun s H Q zq=>ex6 zq fun w r S hr hS hp=>aH.ret hp RDs.nil hS⟩
theorem ah {es:List Expr} {ms:AM} (ha:SE X E a ma) (hrr:SA X E es ms) (hs:autoParam (starEach (a :: es) X.env=(false,eval a X.env) :: starEach es X.env) Au.h0._auto_1):SA X E (a :: es) (ab ma ms):=⟨
 uq (zd ha.out hrr.out hs) fun s H Q zq=>ex6 zq fun w r S hr hS hp=>⟨w,r,S,hr,hS,hp.bind hS fun d S1 w1 H1 v x1 q1 s1 p1=>
  ⟨w1,r,S1,hr.ext x1,s1,p1.bind s1 fun e S2 w2 H2 u x2 q2 s2 p2=>aH.ret p2 (RDs.cons (RD.ext x2 d v q1) q2) s2⟩⟩⟩
theorem iW {es:List Expr} {ms:AM} {k} (h:SA X E es ms):SE X E (.Tuple es k pos) (gu ms):=⟨
 bC (BJ h.out) fun s H Q zq=>ex6 zq fun w r S hr hS hp=>⟨w,r,S,hr,hS,hp.bind hS fun ds S1 w1 H1 vs x1 q1 s1 p1=>by
  by_cases hl:ds.length≤sizeLine
  ·rw [if_pos hl] at p1
   refine ⟨by rw [q1.length]; exact hl,fun p hp=>?_⟩
   exact aH.at p1 (Ext.new hp) (by unfold RD; exact ⟨p,vs,rfl,.inl ⟨aI,s1.fresh hp⟩,RDs.ext (Ext.new hp) _ _ q1⟩) (s1.new hp)
  ·rw [if_neg hl] at p1; exact p1.elim⟩⟩
theorem B1 {es:List Expr} {ms:AM} (h:SA X E es ms):SE X E (.List es pos) (vS ms):=⟨
 bC (wQ h.out) fun s H Q zq=>ex6 zq fun w r S hr hS hp=>⟨w,r,S,hr,hS,hp.bind hS fun ds S1 w1 H1 vs x1 q1 s1 p1=>by
  by_cases hl:ds.length≤sizeLine
  ·rw [if_pos hl] at p1
   refine ⟨by rw [q1.length]; exact hl,fun p hp=>?_⟩
   exact aH.at p1 (Ext.new hp) (by unfold RD; exact ⟨p,vs,rfl,⟨aI,s1.fresh hp⟩,RDs.ext (Ext.new hp) _ _ q1⟩) (s1.new hp)
  ·rw [if_neg hl] at p1; exact p1.elim⟩⟩
theorem RS.lastRef {K:PySem.W.Frag} {w:Wd} {H:Hp} {S:Sto} (s:RS K w H S) {p:Addr} {H':Hp}:RD K (w.add p) H' (.ref S.length) (.ref p):=by
 unfold RD
 exact ⟨p,rfl,by show (w.st ++ [p])[S.length]?=some p; rw [← s.len]; simp⟩
theorem oK {es:List Expr} {ms:AM} (h:SA X E es ms):SE X E (.List es pos) (eNew ms):=⟨
 bC (wQ h.out) fun s H Q zq=>ex6 zq fun w r S hr hS hp=>⟨w,r,S,hr,hS,hp.bind hS fun ds S1 w1 H1 vs x1 q1 s1 p1=>by
  by_cases hl:ds.length≤sizeLine
  ·rw [if_pos hl] at p1
   refine ⟨by rw [q1.length]; exact hl,fun p hp=>?_⟩
   exact aH.at p1 (Ext.alloc hp) s1.lastRef (s1.alloc hp ⟨vs,aI,RDs.ext (Ext.alloc hp) _ _ q1⟩)
  ·rw [if_neg hl] at p1; exact p1.elim⟩⟩
def spM (K:PySem.W.Frag) (n:Nat) (f:FM):Sp:=fun vs H Q E=>vs.length=n∧∃ w S ds,RS K w H S∧RDs K w H ds vs∧aH K E (RD K) w H (f ds S) Q
variable {CX:CXT} {k n:Nat} {fa:Addr} {fd:FuncData} {ps:List Str} {f:FM} {x:Str} {p:Pos} {es:List Expr} {ms:AM}
theorem aL {id:String} {f:Sto→List D→Option D} (hc:cI X (.builtin id) (xC X.K E f)) (hg:Gl X x) (hm:X.mg x=none) (hv:bootBuiltins x=some (.builtin id)) (ha:SA X E (a :: es) ms) (hn:autoParam (x ≠ "__name__") Au.h3._auto_1) (hdb:autoParam ((x == ("__debug__":Str))=false) Au.h3._auto_1)
  (he:autoParam (starEach (a :: es) X.env=(false,eval a X.env) :: starEach es X.env) Au.h0._auto_1) (hpl:autoParam ((backTo pos (starEach es X.env)).any (·.1)=false) Au.h0._auto_1):SE X E (.Call (.Name x p) (a :: es) [] pos) (eB f ms):=⟨
 bC (wR hc hg hm hv ha.out hn hdb he hpl) fun s H Q zq=>ex6 zq fun w r S hr hS hp=>⟨w,r,S,hr,hS,hp.bind hS fun ds S1 w1 H1 vs x1 q1 s1 p1=>⟨w1,S1,ds,s1,q1,p1⟩⟩⟩
theorem ft {T:String} {f:Sto→List D→Option D} (hc:cI X (.type T) (xC X.K E f)) (hg:Gl X x) (hm:X.mg x=none) (hv:bootBuiltins x=some (.type T)) (ha:SA X E (a :: es) ms) (hn:autoParam (x ≠ "__name__") Au.h3._auto_1) (hdb:autoParam ((x == ("__debug__":Str))=false) Au.h3._auto_1)
  (he:autoParam (starEach (a :: es) X.env=(false,eval a X.env) :: starEach es X.env) Au.h0._auto_1) (hpl:autoParam ((backTo pos (starEach es X.env)).any (·.1)=false) Au.h0._auto_1):SE X E (.Call (.Name x p) (a :: es) [] pos) (eB f ms):=⟨
 bC (ni hc hg hm hv ha.out hn hdb he hpl) fun s H Q zq=>ex6 zq fun w r S hr hS hp=>⟨w,r,S,hr,hS,hp.bind hS fun ds S1 w1 H1 vs x1 q1 s1 p1=>⟨w1,S1,ds,s1,q1,p1⟩⟩⟩
variable {st:Stmt} {rest:List Stmt} {m m':SM}
theorem bY:SSs X E [] bw:=⟨qH yT fun D s H zq=>ex6 zq fun w r S hr hS hp=>aH.ret (b:=FV.nx s) hp ⟨s,rfl,hr⟩ hS⟩
theorem au (h1:SS X E st m) (h2:SSs X E rest m'):SSs X E (st :: rest) (aB m m'):=⟨
 qH (wI h1.out h2.out) fun D s H zq=>ex6 zq fun w r S hr hS hp=>⟨w,r,S,hr,hS,hp.bind hS fun f S1 w1 H1 fv x1 q1 s1 p1=>by
  cases f with
  | nx r1=>obtain ⟨s',rfl,q⟩:=q1; exact ⟨w1,r1,S1,q,s1,p1⟩
  | rt d=>obtain ⟨v,rfl,q⟩:=q1; have z:=aH.ret (Q:=FV.to D) (rel:=RF X.K) (a:=F.rt d) (b:=FV.rt v) p1 ⟨v,rfl,q⟩ s1; exact z
  | bk r1=>obtain ⟨s',rfl,q⟩:=q1; have z:=aH.ret (Q:=FV.to D) (rel:=RF X.K) (a:=F.bk r1) (b:=FV.bk s') p1 ⟨s',rfl,q⟩ s1; exact z
  | ct r1=>obtain ⟨s',rfl,q⟩:=q1; have z:=aH.ret (Q:=FV.to D) (rel:=RF X.K) (a:=F.ct r1) (b:=FV.ct s') p1 ⟨s',rfl,q⟩ s1; exact z⟩⟩
theorem ay (h1:SS X E st m):SSs X E [st] m:=⟨yU h1.out⟩
theorem eZ:SS X E st oG:=⟨eU wJ fun D s H zq=>ex6 zq fun w r S hr hS hp=>hp.elim⟩
theorem bu (ha:SE X E a ma) (hs:autoParam (swapsWith a none pos.line X.env=pure false) Au.h0._auto_1):SS X E (.Expr a pos) (bR ma):=⟨
 eU (yV ha.out hs) fun D s H zq=>ex6 zq fun w r S hr hS hp=>⟨w,r,S,hr,hS,hp.bind hS fun d S1 w1 H1 v x1 q1 s1 p1=>aH.ret (b:=FV.nx s) p1 ⟨s,rfl,hr.ext x1⟩ s1⟩⟩
theorem aS (ha:SE X E a ma):SS X E (.Return (some a) pos) (bz ma):=⟨
 eU (Bl ha.out) fun D s H zq=>ex6 zq fun w r S hr hS hp=>⟨w,r,S,hr,hS,hp.bind hS fun d S1 w1 H1 v x1 q1 s1 p1=>aH.ret (b:=FV.rt v) p1 ⟨v,rfl,q1⟩ s1⟩⟩
theorem cQ {mt:TM} {sa sb:List Stmt} (hc:ST X E c mt) (ha:SSs X E sa m) (hb:SSs X E sb m'):SS X E (.If c sa sb pos) (sIf mt m m'):=⟨
 eU (C5 hc.out ha.out hb.out) fun D s H zq=>ex6 zq fun w r S hr hS hp=>⟨w,r,S,hr,hS,hp.bind hS fun k S1 w1 H1 v x1 q1 s1 p1=>by
  have e:v=k:=q1
  subst e
  cases v with
  | true=>exact vR ⟨w1,r,S1,hr.ext x1,s1,p1⟩
  | false=>exact vQ ⟨w1,r,S1,hr.ext x1,s1,p1⟩⟩⟩
theorem bg {i:Nat} {x:Str} {pos':Pos} (hN:X.N.Nodup) (hi:X.N[i]?=some x) (hx:Loc X.env.scope x) (ha:SE X E a ma) (hs:autoParam (swapsWith a (some (.Name x pos')) pos.line X.env=pure false) Au.h0._auto_1) (hf:autoParam (X.fn x=true ∨ X.env.scope.names.lookup x=some .local) Au.h7._auto_1):
  SS X E (.Assign [.Name x pos'] a pos) (bh i ma):=⟨
 eU (Bp hN hi hx ha.out hs hf) fun D s H zq=>ex6 zq fun w r S hr hS hp=>⟨w,r,S,hr,hS,hp.bind hS fun d S1 w1 H1 v x1 q1 s1 p1=>
  aH.ret (b:=FV.nx (s.set i (some v))) p1 ⟨_,rfl,(hr.ext x1).set i q1⟩ s1⟩⟩
end
end PD
namespace PD
open PySem PySem.Spec PyProof.Rows L2
def uG (K:PySem.W.Frag) (g:G):TG:=fun v s H Q=>∃ w r d r',RSt K w H r s∧RD K w H d v∧g.put d r=some r'∧∀ s',RSt K w H r' s'→Q s' H
def uGs (K:PySem.W.Frag) (gs:List G):TGs:=fun vs s H Q=>∃ w r ds r',RSt K w H r s∧RDs K w H ds vs∧G.puts gs ds r=some r'∧∀ s',RSt K w H r' s'→Q s' H
abbrev SG (X:Cx) (e:Expr) (g:G):Prop:=Bx (PG X e (uG X.K g))
abbrev SGs (X:Cx) (es:List Expr) (gs:List G):Prop:=Bx (PGs X es (uGs X.K gs))
theorem uw {X:Cx} {e:Expr} {t t':TG} (h:PG X e t) (k:∀ v s H Q,t' v s H Q→t v s H Q):PG X e t':=fun pins s σ H v u Q I r q=>h pins s σ H v u Q I r (k v σ H Q q)
theorem qJ {X:Cx} {e:List Expr} {t t':TGs} (h:PGs X e t) (k:∀ v s H Q,t' v s H Q→t v s H Q):PGs X e t':=fun pins s σ H v u Q I r q=>h pins s σ H v u Q I r (k v σ H Q q)
theorem g7:∀ {gs:List G} {ds:List D} {r r':Rho},G.puts gs ds r=some r'→ds.length=gs.length
 | [],[],_,_,_=>rfl
 | [],_ :: _,_,_,h=>by simp [G.puts] at h
 | _ :: _,[],_,_,h=>by simp [G.puts] at h
 | g :: gs,d :: ds,r,r',h=>by
  unfold G.puts at h
  cases e:G.put g d r with
  | none=>rw [e] at h; cases h
  | some r1=>
   rw [e] at h
   have:=g7 h
   simp [this]
section
variable {X:Cx} {E:XK} {a b c:Expr} {ma mb mc:EM} {pos:Pos}
theorem aZ {i:Nat} {x:Str} (hN:X.N.Nodup) (hi:X.N[i]?=some x) (hx:Loc X.env.scope x) (hf:autoParam (X.fn x=true ∨ X.env.scope.names.lookup x=some .local) Au.h7._auto_1):SG X (.Name x pos) (.nm i):=⟨
 uw (yX hN hi hx hf) fun v s H Q zq=>ex8 zq fun w r d r' hr q e k=>by
  unfold G.put at e
  cases e
  exact k _ (hr.set i q)⟩
theorem gx:SGs X [] []:=⟨
 qJ yY fun v s H Q zq=>ex8 zq fun w r ds r' hr q e k=>by
  cases ds with
  | nil=>
   unfold G.puts at e
   cases e
   exact ⟨q.nil_inv,k s hr⟩
  | cons d ds=>simp [G.puts] at e⟩
theorem bS {e:Expr} {es:List Expr} {g:G} {gs:List G} (h1:SG X e g) (h2:SGs X es gs)
  (hs:autoParam ((assignEach (e :: es) X.env).map (·.2)=assign e X.env :: (assignEach es X.env).map (·.2)) Au.h0._auto_1):SGs X (e :: es) (g :: gs):=⟨
 qJ (wK h1.out h2.out hs) fun v s H Q zq=>ex8 zq fun w r ds r' hr q e k=>by
  cases ds with
  | nil=>simp [G.puts] at e
  | cons d ds=>
   obtain ⟨v1,vs,rfl,q1,q2⟩:=q.cons_inv
   unfold G.puts at e
   cases e1:G.put g d r with
   | none=>rw [e1] at e; cases e
   | some r1=>
    rw [e1] at e
    exact ⟨v1,vs,rfl,w,r,d,r1,hr,q1,e1,fun s' hs'=>⟨w,r1,ds,r',hs',q2,e,k⟩⟩⟩
theorem cR {K:PySem.W.Frag} {w:Wd} {H:Hp} {p:Addr} {vs:List V} (h:At w H p (.tup vs) ∨ qG K p vs):SqT K H p vs:=h.elim (fun z=>SqT.of z.1) .inr
theorem iX {es:List Expr} {k:Nat} {gs:List G} (hc:X.calm=true) (h:SGs X es gs)
  (hn:autoParam ((assignEach es X.env).length=gs.length) Au.h0._auto_1) (hst:autoParam ((assignEach es X.env).findIdx? (·.1)=none) Au.h0._auto_1):SG X (.Tuple es k pos) (.tp gs):=⟨
 uw (Bn hc h.out hn hst) fun v s H Q zq=>ex8 zq fun w r d r' hr q e k=>by
  cases d with
  | tup ds=>
   unfold RD at q
   obtain ⟨p,vs,rfl,h1,q1⟩:=q
   unfold G.put at e
   exact ⟨p,vs,rfl,cR h1,by rw [q1.length]; exact g7 e,w,r,ds,r',hr,q1,e,k⟩
  | _=>simp [G.put] at e⟩
theorem B3 {tg:Expr} {g:G} (ha:SE X E a ma) (hg:SG X tg g) (hs:autoParam (swapsWithSole [tg] a pos.line X.env=pure false) Au.h0._auto_1) (hw:autoParam (swappedStores [tg] a X.env=pure none) Au.h0._auto_1)
  (h1:autoParam ((assignEach [tg] X.env).map (·.2)=[assign tg X.env]) Au.h0._auto_1):SS X E (.Assign [tg] a pos) (BY g ma):=⟨
 eU (wL ha.out hg.out hs hw h1) fun D s H zq=>ex6 zq fun w r S hr hS hp=>⟨w,r,S,hr,hS,hp.bind hS fun d S1 w1 H1 v x1 q1 s1 p1=>by
  cases e:g.put d r with
  | none=>rw [e] at p1; exact p1.elim
  | some r'=>
   rw [e] at p1
   exact ⟨w1,r,d,r',hr.ext x1,q1,e,fun s' hs'=>aH.ret (b:=FV.nx s') p1 ⟨s',rfl,hs'⟩ s1⟩⟩⟩
theorem sE {i j:Nat} {x y:Str} {ms:AM} {px py pt:Pos} {kt k2 pt2} (hc:X.calm=true) (hN:X.N.Nodup) (hi:X.N[i]?=some x) (hj:X.N[j]?=some y) (hij:i ≠ j)
  (hx:X.env.scope.names.lookup x=some .local) (hy:X.env.scope.names.lookup y=some .local) (ha:SA X E [a,b] ms)
  (hw:autoParam (swappedStores [.Tuple [.Name x px,.Name y py] kt pt] (.Tuple [a,b] k2 pt2) X.env=pure (some [x,y])) Au.h0._auto_1)
  (hs:autoParam (swapsWithSole [.Tuple [.Name x px,.Name y py] kt pt] (.Tuple [a,b] k2 pt2) pos.line X.env=pure false) Au.h0._auto_1):
  SS X E (.Assign [.Tuple [.Name x px,.Name y py] kt pt] (.Tuple [a,b] k2 pt2) pos) (sC i j ms):=⟨
 eU (Bq hc hN hi hj hij hx hy ha.out hw hs) fun D s H zq=>ex6 zq fun w r S hr hS hp=>⟨w,r,S,hr,hS,hp.bind hS fun ds S1 w1 H1 vs x1 q1 s1 p1=>by
  match ds,q1,p1 with
  | [d,e],q1,p1=>
   obtain ⟨v,u,rfl,q2,q3⟩:=q1.two_inv
   exact ⟨v,u,rfl,aH.ret (b:=FV.nx _) p1 ⟨_,rfl,((hr.ext x1).set i q2).set j q3⟩ s1⟩
  | [],_,p1=>exact p1.elim
  | [_],_,p1=>exact p1.elim
  | _ :: _ :: _ :: _,_,p1=>exact p1.elim⟩⟩
def xS (K:PySem.W.Frag) (f:Sto→D→D→D→Option Sto):yW:=fun o i v H Q=>∃ w S x y z S',RS K w H S∧RD K w H x o∧RD K w H y i∧RD K w H z v∧f S x y z=some S'∧∀ w' H',Ext w H w' H'→RS K w' H' S'→Q H'
theorem iY {f:Sto→D→D→D→Option Sto} {tpos:Pos} (hf:ou X (xS X.K f)) (ha:SE X E a ma) (ho:SE X E b mb) (hi:SE X E c mc) (hs:autoParam (swapsWithSole [.Subscript b c tpos] a pos.line X.env=pure false) Au.h0._auto_1) (hw:autoParam (swappedStores [.Subscript b c tpos] a X.env=pure none) Au.h0._auto_1)
  (h1:autoParam ((assignEach [.Subscript b c tpos] X.env).map (·.2)=[assign (.Subscript b c tpos) X.env]) Au.h0._auto_1)
  (hz:autoParam (∀ v,assign (.Subscript b c tpos) X.env v=(do
   let ov ← holding [v] (eval b X.env)
   let iv ← holding [v,ov] (eval c X.env)
   standAt tpos
   holding [v,ov,iv] (setItem ov iv v)
   release [v,ov,iv] [])) Au.h4._auto_1):SS X E (.Assign [.Subscript b c tpos] a pos) (gR f ma mb mc):=⟨
 eU (wL ha.out (Bo ho.out hi.out hf hz) hs hw h1) fun D s H zq=>ex6 zq fun w r S hr hS hp=>⟨w,r,S,hr,hS,hp.bind hS fun d S1 w1 H1 v x1 q1 s1 p1=>
  ⟨w1,r,S1,hr.ext x1,s1,p1.bind s1 fun e S2 w2 H2 u x2 q2 s2 p2=>⟨w2,r,S2,(hr.ext x1).ext x2,s2,p2.bind s2 fun t S3 w3 H3 y x3 q3 s3 p3=>by
   cases hf:f S3 e t d with
   | none=>rw [hf] at p3; exact p3.elim
   | some S4=>
    rw [hf] at p3
    exact ⟨w3,S3,e,t,d,S4,s3,RD.ext x3 _ _ q2,q3,RD.ext x3 _ _ (RD.ext x2 _ _ q1),hf,fun w' H' x4 s4=>aH.at (b:=FV.nx s) p3 x4 ⟨s,rfl,(((hr.ext x1).ext x2).ext x3).ext x4⟩ s4⟩⟩⟩⟩⟩
def RI (K:PySem.W.Frag) (w:Wd) (H:Hp) (ds:List D) (J:It):Prop:=∀ (i:Nat) (w':Wd) (H':Hp),Ext w H w' H'→
 (i < ds.length→J.go i H'∧∀ x H'',J.yld i H' x H''→(H''=H' ∨ ∃ p o,H' p=none∧H''=upd H' p o)∧∀ S,RS K w' H' S→∃ d,ds[i]?=some d∧RD K w' H'' d x)∧(ds.length≤i→J.stop i H')
def uI (K:PySem.W.Frag) (E:XK) (m:AM):TI:=fun s H Q=>∃ w r S,RSt K w H r s∧RS K w H S∧aH K E (RI K) w H (m r S) Q
abbrev SIb (qb:Bool) (X:Cx) (E:XK) (tg iter:Expr) (m:AM):Prop:=Bx (PIb qb X tg iter (uI X.K E m))
abbrev SI (X:Cx) (E:XK) (tg iter:Expr) (m:AM):Prop:=Bx (PI X tg iter (uI X.K E m))
theorem g9 {K:PySem.W.Frag} {w:Wd} {H H':Hp} {S:Sto} (h:H'=H ∨ ∃ p o,H p=none∧H'=upd H p o) (s:RS K w H S):Ext w H w H'∧RS K w H' S:=by
 rcases h with rfl | ⟨p,o,hp,rfl⟩
 ·exact ⟨Ext.refl _ _,s⟩
 ·exact ⟨Ext.new hp,s.new hp⟩
theorem fU {tg iter:Expr} {body:List Stmt} {it:AM} {g:G} {m:SM} (hp:PassesOwn (model X.prog X.w) X.A X.env X.xe) (hc:X.calm=true) (hi:SI X E tg iter it) (hg:SG X tg g) (hb:SSs X E body m)
  (hs:autoParam (∀ x,foldedSetIterable iter X.env x=pure x) Au.h4._auto_1):SS X E (.For tg iter body [] pos) (gw it g m):=⟨
 eU (Bv hp hc hi.out hg.out hb.out hs) fun D s H zq=>ex6 zq fun w r S hr hS hp=>⟨w,r,S,hr,hS,hp.bind hS fun ds S1 w1 H1 J x1 q1 s1 p1=>by
  refine ⟨fun i n s' H'=>n=ds.length - i∧i≤ds.length∧∃ w' r' S',Ext w1 H1 w' H'∧RSt X.K w' H' r' s'∧RS X.K w' H' S'∧aH X.K E (RF X.K) w' H' (forL g m (ds.drop i) r' S') (FV.to D),
   ⟨ds.length,by simp,Nat.zero_le _,w1,r,S1,Ext.refl _ _,hr.ext x1,s1,p1⟩,?_⟩
  rintro i n s2 H2 ⟨rfl,hi.out,w2,r2,S2,x2,hr2,hS2,hp2⟩
  by_cases hlt:i < ds.length
  ·obtain ⟨go,yld⟩:=(q1 i w2 H2 x2).1 hlt
   refine .inr ⟨go,fun s' H'=>∃ w' r' S',Ext w1 H1 w' H'∧RSt X.K w' H' r' s'∧RS X.K w' H' S'∧aH X.K E (RF X.K) w' H' (forL g m (ds.drop (i + 1)) r' S') (FV.to D),
    fun s' H' hN=>⟨ds.length - (i + 1),by omega,rfl,hlt,hN⟩,fun x H3 hy=>?_⟩
   obtain ⟨gr,rd⟩:=yld x H3 hy
   obtain ⟨d,ed,qd⟩:=rd S2 hS2
   obtain ⟨x3,s3⟩:=g9 gr hS2
   have x13:Ext w1 H1 w2 H3:=x2.trans' x3 s1 hS2
   have hdrop:ds.drop i=d :: ds.drop (i + 1):=by
    rw [List.drop_eq_getElem_cons hlt]
    rw [List.getElem?_eq_getElem hlt] at ed
    cases ed; rfl
   rw [hdrop] at hp2
   have hp3:=aH.ext hp2 x3 hS2 s3
   unfold forL at hp3
   cases e:g.put d r2 with
   | none=>rw [e] at hp3; exact hp3.elim
   | some r3=>
    rw [e] at hp3
    refine ⟨w2,r2,d,r3,hr2.ext x3,qd,e,fun s4 hr4=>⟨w2,r3,S2,hr4,s3,?_⟩⟩
    refine aH.bind (rel:=RF X.K) hp3 s3 fun f S5 w5 H5 fv x5 q5 s5 p5=>?_
    cases f with
    | nx r6=>obtain ⟨s6,rfl,q6⟩:=q5; exact ⟨w5,r6,S5,x13.trans' x5 s1 s3,q6,s5,p5⟩
    | ct r6=>obtain ⟨s6,rfl,q6⟩:=q5; exact ⟨w5,r6,S5,x13.trans' x5 s1 s3,q6,s5,p5⟩
    | bk r6=>obtain ⟨s6,rfl,q6⟩:=q5; have z:=aH.ret (Q:=FV.to D) (rel:=RF X.K) (a:=F.nx r6) (b:=FV.nx s6) p5 ⟨s6,rfl,q6⟩ s5; exact z
    | rt d6=>obtain ⟨v6,rfl,q6⟩:=q5; have z:=aH.ret (Q:=FV.to D) (rel:=RF X.K) (a:=F.rt d6) (b:=FV.rt v6) p5 ⟨v6,rfl,q6⟩ s5; exact z
  ·have e:i=ds.length:=by omega
   subst e
   rw [List.drop_length] at hp2
   exact .inl ⟨(q1 _ w2 H2 x2).2 (Nat.le_refl _),aH.ret (b:=FV.nx s2) hp2 ⟨s2,rfl,hr2⟩ hS2⟩⟩⟩
def cS (m:EM) (f:Sto→D→Option (List D)):AM:=fun r S=>(m r S).bind fun d S1=>R.of S1 (f S1 d)
def DC:Sto→D→Option (List D)
 | _,.tup ds=>some ds
 | _,_=>none
def DD:Sto→D→Option (List D)
 | _,.lst ds=>some ds
 | _,.fz ds=>some ds
 | _,_=>none
def cY (t:AM):AM:=fun r S=>(t r S).bind fun xs S1=>match xs with
 | [.int n]=>if n < 2 ^ 62∧-(2 ^ 62)≤n then .ok ((List.range n.toNat).map fun (i:Nat)=>D.int i) S1 else .bad
 | _=>.bad
theorem gy {qb:Bool} {X:Cx} {tg e:Expr} {t t':TI} (h:PIb qb X tg e t) (k:∀ s H Q,t' s H Q→t s H Q):PIb qb X tg e t':=fun pins s σ H Q I q=>h pins s σ H Q I (k σ H Q q)
theorem B4 {tg:Expr} (ha:SE X E a ma):SI X E tg a (cS ma DC):=⟨
 gy (Bu ha.out) fun s H Q zq=>ex6 zq fun w r S hr hS hp=>⟨w,r,S,hr,hS,hp.bind hS fun d S1 w1 H1 v x1 q1 s1 p1=>by
  cases d with
  | tup ds=>
   unfold RD at q1
   obtain ⟨p,vs,rfl,h1,q⟩:=q1
   refine ⟨p,rfl,⟨vs,cR h1⟩,aH.ret p1 ?_ s1⟩
   intro i w' H' x'
   have h1':At w' H' p (.tup vs) ∨ qG X.K p vs:=h1.imp x'.at id
   have q':=RDs.ext x' _ _ q
   refine ⟨fun hi=>⟨⟨vs,vs[i]'(by rw [q.length]; exact hi),cR h1',List.getElem?_eq_getElem _⟩,fun x H'' y=>?_⟩,fun hi=>⟨vs,cR h1',by rw [q.length]; exact hi⟩⟩
   obtain ⟨rfl,y⟩:=y
   refine ⟨.inl rfl,fun S _=>⟨ds[i],List.getElem?_eq_getElem hi,?_⟩⟩
   obtain ⟨v,e,rv⟩:=q'.get (List.getElem?_eq_getElem hi)
   rw [y vs (cR h1')] at e
   cases e
   exact rv
  | _=>exact p1.elim⟩⟩
theorem B5 {tg:Expr} (ha:SE X E a ma):SI X E tg a (cS ma DD):=⟨
 gy (yZ ha.out) fun s H Q zq=>ex6 zq fun w r S hr hS hp=>⟨w,r,S,hr,hS,hp.bind hS fun d S1 w1 H1 v x1 q1 s1 p1=>by
  have main:∀ (ds:List D) (p:Addr) (vs:List V),RDs X.K w1 H1 ds vs→(∀ w' H',Ext w1 H1 w' H'→SqL X.K H' p vs)→RI X.K w1 H1 ds (Itl X.K p):=by
   intro ds p vs q sq i w' H' x'
   have q':=RDs.ext x' _ _ q
   refine ⟨fun hi=>⟨⟨vs,vs[i]'(by rw [q.length]; exact hi),sq _ _ x',List.getElem?_eq_getElem _⟩,fun x H'' y=>?_⟩,fun hi=>⟨vs,sq _ _ x',by rw [q.length]; exact hi⟩⟩
   obtain ⟨rfl,y⟩:=y
   refine ⟨.inl rfl,fun S _=>⟨ds[i],List.getElem?_eq_getElem hi,?_⟩⟩
   obtain ⟨v,e,rv⟩:=q'.get (List.getElem?_eq_getElem hi)
   rw [y vs (sq _ _ x')] at e
   cases e
   exact rv
  cases d with
  | lst ds=>
   unfold RD at q1
   obtain ⟨p,vs,rfl,h1,q⟩:=q1
   exact ⟨p,rfl,⟨vs,SqL.of h1.1⟩,aH.ret p1 (main ds p vs q fun w' H' x'=>SqL.of (x'.at h1).1) s1⟩
  | fz ds=>
   unfold RD at q1
   obtain ⟨p,vs,rfl,h1,q⟩:=q1
   exact ⟨p,rfl,⟨vs,h1.sq⟩,aH.ret p1 (main ds p vs q fun w' H' x'=>vT.sq (w:=w') (h1.imp (fun ⟨o,z⟩=>⟨o,x'.at z⟩) id)) s1⟩
  | _=>exact p1.elim⟩⟩
def cJ:Sto→D→Option (List D)
 | _,.tup ds=>some ds
 | _,.lst ds=>some ds
 | _,.fz ds=>some ds
 | _,_=>none
theorem DE {tg e:Expr} {t u:TI} (h1:PI X tg e t) (h2:PI X tg e u):PI X tg e (fun s H Q=>t s H Q ∨ u s H Q):=fun pins s σ H Q I q=>q.elim (h1 pins s σ H Q I) (h2 pins s σ H Q I)
theorem gz {tg:Expr} (ha:SE X E a ma):SI X E tg a (cS ma cJ):=⟨
 gy (DE (B4 ha).out (B5 ha).out) fun s H Q zq=>ex6 zq fun w r S hr hS hp=>by
  unfold cS at hp
  cases e:ma r S with
  | bad=>rw [e] at hp; exact hp.elim
  | err y S'=>rw [e] at hp; exact .inl ⟨w,r,S,hr,hS,by unfold cS; rw [e]; exact hp⟩
  | ok d S'=>
   rw [e] at hp
   cases d with
   | tup ds=>exact .inl ⟨w,r,S,hr,hS,by unfold cS; rw [e]; exact hp⟩
   | lst ds=>exact .inr ⟨w,r,S,hr,hS,by unfold cS; rw [e]; exact hp⟩
   | fz ds=>exact .inr ⟨w,r,S,hr,hS,by unfold cS; rw [e]; exact hp⟩
   | _=>exact hp.elim⟩
theorem iC {qb:Bool} {tg:Expr} {ms:AM} {p:Pos} (hg:Gl X "range") (hm:X.mg "range" = none) (ha:SA X E [a] ms) (hs:autoParam (starEach [a] X.env=[(false,eval a X.env)]) Au.h0._auto_1):SIb qb X E tg (.Call (.Name "range" p) [a] [] pos) (cY ms):=⟨
 gy (vF hg hm ha.out hs) fun s H Q zq=>ex6 zq fun w r S hr hS hp=>⟨w,r,S,hr,hS,hp.bind hS fun ds S1 w1 H1 vs x1 q1 s1 p1=>by
  rcases ds with _ | ⟨d,_ | ⟨d',ds⟩⟩
  ·exact p1.elim
  ·cases d with
   | int n=>
    obtain ⟨v,rfl,q2⟩:=q1.one_inv
    unfold RD at q2
    subst q2
    by_cases hn:n < 2 ^ 62∧-(2 ^ 62)≤n
    ·have p2:aH X.K E (RI X.K) w1 H1 (if n < 2 ^ 62∧-(2 ^ 62)≤n then R.ok ((List.range n.toNat).map fun (i:Nat)=>D.int i) S1 else R.bad) Q:=p1
     rw [if_pos hn] at p2
     refine ⟨n,rfl,hn.2,hn.1,aH.ret p2 ?_ s1⟩
     intro i w' H' x'
     refine ⟨fun hi=>⟨show i < n.toNat by simpa using hi,fun x H'' y=>?_⟩,fun hi=>show n.toNat≤i by simpa using hi⟩
     obtain ⟨rfl,rfl⟩:=y
     refine ⟨.inl rfl,fun S _=>⟨.int i,?_,?_⟩⟩
     ·have:i < n.toNat:=by simpa using hi
      simp [this]
     ·unfold RD; simp
    ·have p2:aH X.K E (RI X.K) w1 H1 (if n < 2 ^ 62∧-(2 ^ 62)≤n then R.ok ((List.range n.toNat).map fun (i:Nat)=>D.int i) S1 else R.bad) Q:=p1
     rw [if_neg hn] at p2
     exact p2.elim
   | _=>exact p1.elim
  ·cases d <;> exact p1.elim⟩⟩
end
section
variable {P:Program} {w:World} {K:PySem.W.Frag} {mg:Str→Option Value} {base:Heap}
theorem vV {K:PySem.W.Frag} {w:Wd} {H:Hp} {N:List Str} {ds:List D} {vs:List V} (q:RDs K w H ds vs):RSt K w H (ds.map some ++ List.replicate (N.length - ds.length) none) (L2.start N vs):=by
 unfold L2.start
 refine ⟨by simp [q.length],fun i d e=>?_⟩
 by_cases hi:i < ds.length
 ·rw [List.getElem?_append_left (by simpa using hi),List.getElem?_map] at e
  rw [List.getElem?_append_left (by rw [List.length_map,q.length]; exact hi),List.getElem?_map]
  cases e1:ds[i]? with
  | none=>rw [e1] at e; cases e
  | some d'=>
   rw [e1] at e; cases e
   obtain ⟨v,ev,rv⟩:=q.get e1
   exact ⟨v,by rw [ev]; rfl,rv⟩
 ·rw [List.getElem?_append_right (by simpa using hi),List.getElem?_replicate] at e
  split at e <;> cases e
end
end PD
namespace PD
open PySem PySem.Spec PyProof.Rows L2
section
variable {prog:Program} {w:World} {A:Around} {R:Result→Shared→Prop} {s:Shared}
theorem oM {elt target iter:Expr} {ifs:List Expr} {scope:Scope} {pos:Pos} {it acc:Value} {env:Env} (I:Nat→Shared→Prop)
  (turn:∀ n s,I n s→wpAny (model prog w) A (pyNext it) (fun r s1=>match r with
   | none=>R (.ok .next) s1
   | some v=>wpAny (model prog w) A (letOwnedTupleGo target it v) (fun _ s1'=>wpAny (model prog w) A (assign target env v) (fun _ s2=>
     wpAny (model prog w) A (forIn ifs true fun c r=>if r=true then do let ok ← isTrue c env (eval c env); pure (ForInStep.yield ok) else pure (ForInStep.yield r)) (fun ok s3=>
      if ok=true then wpAny (model prog w) A (eval elt env) (fun x s4=>
       wpAny (model prog w) A (call (.builtin "list.append") [acc,x]) (fun _ s5=>∃ m,m < n∧I m s5) (fun _ _=>False) s4) (fun _ _=>False) s3
      else ∃ m,m < n∧I m s3) (fun _ _=>False) s2) (fun _ _=>False) s1') (fun _ _=>False) s1) (fun _ _=>False) s)
  (n:Nat) (h:I n s):
  codeAny (model prog w) A (.compLoop (.ListComp elt [⟨target,iter,ifs,0⟩] scope pos) 0 it acc env) R s:=by
 refine codeAny_loop rfl I (fun n s hI=>?_) n h
 show wpAny _ A ((compTurn (.ListComp elt [⟨target,iter,ifs,0⟩] scope pos) 0 it acc env).onRaise (fun x=>do noteFrame x env; theTreesLotGoes x)) _ _ s
 refine wpAny_noted ?_
 rw [compTurn_list]
 refine wpAny_bind (wpAny_standAt (wpAny_bind (wpAny_mono (turn n s hI) (fun r s1 h1=>?_) fun _ _ h'=>h'.elim)))
 cases r with
 | none=>exact wpAny_pure h1
 | some v=>
  refine wpAny_bind (wpAny_mono h1 (fun _ s1' h1'=>?_) fun _ _ h'=>h'.elim)
  refine wpAny_bind (wpAny_mono h1' (fun _ s2 h2=>wpAny_bind (wpAny_mono h2 (fun ok s3 h3=>?_) fun _ _ h'=>h'.elim)) fun _ _ h'=>h'.elim)
  cases ok with
  | false=>exact wpAny_pure ⟨rfl,h3⟩
  | true=>
   exact wpAny_bind (wpAny_bind (wpAny_mono h3 (fun x s4 h4=>wpAny_bind (wpAny_mono h4 (fun _ s5 h5=>wpAny_pure (wpAny_pure ⟨rfl,h5⟩)) fun _ _ h'=>h'.elim)) fun _ _ h'=>h'.elim))
end
def zw (X:Cx) (ifs:List Expr) (t:TT):Prop:=
 ∀ (pins:List (Addr × Obj)) (s:Shared) (σ:L2.St) (H:Hp) (Q:Bool→Hp→Prop),Inv X pins σ H s→t σ H Q→
  wpAny (model X.prog X.w) X.A (forIn ifs true fun c r=>if r=true then do let ok ← isTrue c X.env (eval c X.env); pure (ForInStep.yield ok) else pure (ForInStep.yield r)) (TP X pins σ Q) X.xe s
theorem xg {X:Cx}:zw X [] (fun _ H Q=>Q true H):=fun pins s σ H Q I h=>wpAny_tests_nil ⟨H,I,h⟩
theorem xh {X:Cx} {c:Expr} {t:TT} (h:PT X c t):zw X [c] t:=fun pins s σ H Q I q=>wpAny_tests_one (h pins s σ H Q I q)
def cxC (X:Cx) (N:List Str) (scope:Scope) (cl:List (Str × Addr)) (s0:Shared) (H0:Hp) (ex:List Addr):Cx:=
 { X with N:=N,s₀:=s0,H₀:=H0,env:=compEnvC scope cl s0.heap.objs.size X.env,outer:=X.stack,ex:=ex,fn:=fun _=>false }
def lh (k:Nat) (caps:List Nat) (s:L2.St):L2.St:=List.replicate k none ++ caps.map fun i=>(s[i]?).join
structure CompScope (X:Cx) (N:List Str) (k:Nat) (caps:List Nat) (scope:Scope):Prop where
 kind:scope.kind=.function
 nocell:∀ x ∈ scope.names,x.2 ≠ .cell
 names:∀ x ∈ scope.names,x.2=.local→scope.names.lookup x.1=some .local
 free:∀ x ∈ scope.names,x.2=.free→X.env.kindOf x.1=some .cell ∨ X.env.kindOf x.1=some .free
 len:N.length=k + caps.length
 cap:∀ t i,caps[t]?=some i→∃ x,X.N[i]?=some x∧N[k + t]?=some x∧scope.names.lookup x=some .free
theorem d8 {A B:Type} [BEq A] [LawfulBEq A]:∀ {l:List (A × B)} {x:A} {b:B},l.lookup x=some b→(x,b) ∈ l
 | [],_,_,h=>by simp at h
 | (y,c) :: r,x,b,h=>by
  rw [List.lookup_cons] at h
  cases e:x == y with
  | true=>
   rw [e] at h
   have:=eq_of_beq e
   subst this
   cases h
   exact List.mem_cons_self
  | false=>
   rw [e] at h
   exact List.mem_cons_of_mem _ (d8 h)
theorem iZ {env:Env}:∀ (names:List (Str × NameKind)) (cs:List (Str × Addr)),(∀ x ∈ names,x.2=.free→∃ c,env.cells.lookup x.1=some c)→
  ∃ cl,(forIn names cs fun (x:Str × NameKind) (r:List (Str × Addr))=>(if x.2 == NameKind.free then do let a ← cellOf env x.1; pure (ForInStep.yield ((x.1,a) :: r)) else pure (ForInStep.yield r):Sem (ForInStep (List (Str × Addr)))))=pure cl∧
   (∀ p ∈ cl,p ∈ cs ∨ env.cells.lookup p.1=some p.2)∧(∀ p ∈ cs,p ∈ cl)∧∀ x ∈ names,x.2=.free→∃ c,(x.1,c) ∈ cl
 | [],cs,_=>⟨cs,rfl,fun p h=>.inl h,fun p h=>h,fun x h=>nomatch h⟩
 | (n,k) :: r,cs,h=>by
  by_cases hk:k=.free
  ·subst hk
   obtain ⟨c,hc⟩:=h (n,.free) List.mem_cons_self rfl
   obtain ⟨cl,e,h1,h2,h3⟩:=iZ r ((n,c) :: cs) fun x hx=>h x (List.mem_cons_of_mem _ hx)
   refine ⟨cl,?_,fun p hp=>?_,fun p hp=>h2 p (List.mem_cons_of_mem _ hp),fun x hx hf=>?_⟩
   ·rw [List.forIn_cons]
    have hco:cellOf env n=pure c:=by unfold cellOf; rw [hc]
    simp only [beq_self_eq_true,if_true,hco,pure_bind]
    exact e
   ·rcases h1 p hp with z | z
    ·rcases List.mem_cons.mp z with z | z
     ·subst z; exact .inr hc
     ·exact .inl z
    ·exact .inr z
   ·rcases List.mem_cons.mp hx with z | z
    ·subst z; exact ⟨c,h2 _ List.mem_cons_self⟩
    ·exact h3 x z hf
  ·obtain ⟨cl,e,h1,h2,h3⟩:=iZ r cs fun x hx=>h x (List.mem_cons_of_mem _ hx)
   have hb:(k == NameKind.free)=false:=by simpa using hk
   refine ⟨cl,?_,h1,h2,fun x hx hf=>?_⟩
   ·rw [List.forIn_cons]
    simp only [hb,Bool.false_eq_true,if_false,pure_bind]
    exact e
   ·rcases List.mem_cons.mp hx with z | z
    ·subst z; exact absurd hf hk
    ·exact h3 x z hf
theorem qK {scope:Scope} {env:Env} (h:∀ x ∈ scope.names,x.2=.free→∃ c,env.cells.lookup x.1=some c):
  ∃ cl,closureFor scope env=pure cl∧(∀ x c,cl.lookup x=some c→env.cells.lookup x=some c)∧∀ x ∈ scope.names,x.2=.free→∃ c,cl.lookup x.1=some c:=by
 obtain ⟨cl,e,h1,h2,h3⟩:=iZ (env:=env) scope.names [] h
 refine ⟨cl,?_,fun x c hx=>?_,fun x hx hf=>?_⟩
 ·unfold closureFor
  show ((forIn scope.names [] fun (x:Str × NameKind) (r:List (Str × Addr))=>(if x.2 == NameKind.free then do let a ← cellOf env x.1; pure (ForInStep.yield ((x.1,a) :: r)) else pure (ForInStep.yield r):Sem (ForInStep (List (Str × Addr))))) >>= fun l=>pure l)=pure cl
  rw [e,pure_bind]
 ·rcases h1 _ (d8 hx) with z | z
  ·exact nomatch z
  ·exact z
 ·obtain ⟨c,hc⟩:=h3 x hx hf
  cases e2:cl.lookup x.1 with
  | some c'=>exact ⟨c',rfl⟩
  | none=>
   rw [List.lookup_eq_none_iff] at e2
   have:=e2 _ hc
   simp at this
theorem qL {scope:Scope} {env:Env} {x:Str} {k:NameKind} (h:(relabel scope env).names.lookup x=some k):(x,k) ∈ scope.names ∨ (k=.cell∧(x,NameKind.free) ∈ scope.names):=by
 have m:=d8 h
 obtain ⟨⟨n,j⟩,hn,e⟩:=List.mem_map.mp m
 dsimp only at e
 split at e
 ·rename_i hc
  cases e
  have:j=NameKind.free:=by
   have:=(Bool.and_eq_true _ _ |>.mp (Bool.and_eq_true _ _ |>.mp hc).1).1
   simpa using this
  subst this
  exact .inr ⟨rfl,hn⟩
 ·cases e
  exact .inl hn
theorem jf {scope:Scope} {env:Env} {x:Str}:∀ {names:List (Str × NameKind)},names.lookup x=some .free→
  ((names.map fun (n,k)=>if (k == NameKind.free && env.scope.kind == .function && env.kindOf n == some .cell) then (n,NameKind.cell) else (n,k)).lookup x=some .cell) ∨
  ((names.map fun (n,k)=>if (k == NameKind.free && env.scope.kind == .function && env.kindOf n == some .cell) then (n,NameKind.cell) else (n,k)).lookup x=some .free)
 | [],h=>by simp at h
 | (n,k) :: r,h=>by
  have ih:=@jf scope env x r
  simp only [List.map_cons]
  cases hx:x == n with
  | true=>
   simp only [List.lookup_cons,hx] at h
   cases h
   by_cases hc:(NameKind.free == NameKind.free && env.scope.kind == .function && env.kindOf n == some .cell)=true
   ·left; rw [if_pos hc]; simp [List.lookup_cons,hx]
   ·right; rw [if_neg hc]; simp [List.lookup_cons,hx]
  | false=>
   simp only [List.lookup_cons,hx] at h
   by_cases hc:(k == NameKind.free && env.scope.kind == .function && env.kindOf n == some .cell)=true
   ·rw [if_pos hc]; simp only [List.lookup_cons,hx]; exact ih h
   ·rw [if_neg hc]; simp only [List.lookup_cons,hx]; exact ih h
section
variable {X:Cx} {pins:List (Addr × Obj)} {σ:L2.St} {H:Hp} {s:Shared}
theorem sF {N:List Str} {k:Nat} {caps:List Nat} {scope:Scope} {cl:List (Str × Addr)} {fp:List Addr} {h':Heap} {m:Str→Option Value} {t:Nat} (I:Inv X pins σ H s) (C:CompScope X N k caps scope)
  (hcl:∀ x c,cl.lookup x=some c→X.env.cells.lookup x=some c) (hcf:∀ x ∈ scope.names,x.2=.free→∃ c,cl.lookup x.1=some c)
  (hfp:∀ b ∈ fp,FpOk X pins H b∧b < s.heap.objs.size) (hn:h'.Ns s.heap.objs.size m) (hk:∀ b o,s.heap.get? b=some o→h'.get? b=some o):
  Inv (cxC X N scope cl s H fp) pins (lh k caps σ) H { s with heap:=h',toks:=t }:=by
 have hfs:∀ b,b ∈ frs X.stack→b < s.heap.objs.size:=fun b hb=>by
  obtain ⟨_,o,ho,_⟩:=I.stack.mem hb
  exact Heap.lt_size ho
 refine ⟨⟨I.ok.mod,C.kind,I.ok.glob,I.ok.blt,Nat.le_refl _,fun x y c h1 h2=>I.ok.inj x y c (hcl x c h1) (hcl y c h2),fun x hx=>?_,(fun x c h=>nomatch h),I.ok.hd,I.ok.frames,.inl rfl,fun b hb=>?_,fun b o e=>?_,?_,fun b o e hb=>?_,fun b hb=>?_,I.stack,fun b hb=>I.stkFree b hb⟩,
  rfl,I.bare,Un.kept hk,?_,fun x c e=>?_,I.hok.fresh (Nat.le_refl _),fun x c e=>I.freeC x c (hcl x c e),fun p hp=>?_,I.hok.kept hk,?_⟩
 ·-- has
  have key:∀ kk,(kk=NameKind.cell ∨ kk=NameKind.free)→(relabel scope X.env).names.lookup x=some kk→∃ c,cl.lookup x=some c:=fun kk hkk hl=>by
   rcases qL hl with z | ⟨_,z⟩
   ·rcases hkk with q | q
    ·subst q; exact absurd rfl (C.nocell _ z)
    ·subst q; exact hcf _ z rfl
   ·exact hcf _ z rfl
  rcases hx with z | z
  ·exact key _ (.inl rfl) z
  ·exact key _ (.inr rfl) z
 ·obtain ⟨f,lt⟩:=hfp b hb
  exact ⟨Nat.ne_of_lt lt,fun x c e=>f.2.2.2.2.1 x c (hcl x c e)⟩
 ·exact I.bs b o e
 ·exact Nat.le_trans I.ok.bsz I.sz
 ·obtain ⟨f,lt⟩:=hfp b hb
  rcases f.2.2.2.1 with z | z
  ·exact I.ok.noex b o e z
  ·exact absurd (Nat.lt_of_lt_of_le (Heap.lt_size e) (Nat.le_trans I.ok.bsz z)) (Nat.lt_irrefl _)
 ·obtain ⟨f,lt⟩:=hfp b hb
  intro z
  rcases List.mem_cons.mp (I.stkSub b z) with q | q
  ·exact f.2.1 q
  ·exact f.2.2.1 q
 ·obtain ⟨m0,hn0,hl0⟩:=I.loc
  refine ⟨m,hn,fun i x v e1 e2 e3=>?_⟩
  unfold lh at e2
  by_cases hi:i < k
  ·rw [List.getElem?_append_left (by simpa using hi),List.getElem?_replicate] at e2
   split at e2 <;> cases e2
  ·rw [List.getElem?_append_right (by simpa using hi),List.getElem?_map,List.length_replicate] at e2
   cases ec:caps[i - k]? with
   | none=>rw [ec] at e2; cases e2
   | some j=>
    rw [ec] at e2
    have e2':(σ[j]?).join=some v:=Option.some.inj e2
    obtain ⟨y,hy1,hy2,hy3⟩:=C.cap _ _ ec
    have e1':N[i]?=some x:=e1
    rw [show k + (i - k)=i by omega] at hy2
    rw [hy2] at e1'
    have exy:y=x:=Option.some.inj e1'
    subst exy
    have hfr:(y,NameKind.free) ∈ scope.names:=d8 hy3
    have hsj:σ[j]?=some (some v):=by
     cases q:σ[j]? with
     | none=>rw [q] at e2'; cases e2'
     | some o=>rw [q] at e2'; rw [show o=some v from e2']
    have kinds:=C.free _ hfr rfl
    have hvis:Vis X.env.scope y:=by
     rcases kinds with z | z
     ·exact .inr (.inl z)
     ·exact .inr (.inr z)
    obtain ⟨u,ru,lk⟩:=hl0 j y v hy1 hsj hvis
    refine ⟨u,ru,?_⟩
    rcases lk with ⟨z,_⟩ | ⟨_,c,hc,hcell⟩
    ·rcases kinds with q | q <;> (rw [q] at z; cases z)
    ·obtain ⟨c',hc'⟩:=hcf _ hfr rfl
     have:=hcl _ _ hc'
     rw [hc] at this
     cases this
     refine .inr ⟨?_,c,hc',hcell.keeps hk⟩
     exact jf (scope:=scope) (env:=X.env) hy3
 ·obtain ⟨v,z⟩:=I.cell x c (hcl x c e)
  exact ⟨v,z.keeps hk⟩
 ·obtain ⟨e,n,ne,nf,d⟩:=I.pin p hp
  refine ⟨hk _ _ e,n,Nat.ne_of_lt (Heap.lt_size e),fun z=>?_,d⟩
  rcases List.mem_cons.mp (I.stkSub _ z) with q | q
  ·exact ne q
  ·exact nf q
 ·unfold lh
  show _=N.length
  rw [C.len]
  simp
end
def DF (wi:TI) (k:Nat) (caps:List Nat) (g:TG) (tt:TT) (te:TE):TE:=fun σ H Q=>wi σ H fun J H1=>∀ p,H1 p=none→∃ W:Nat→Nat→L2.St→Hp→Prop,(∃ m,W 0 m (lh k caps σ) (upd H1 p (.lst [])))∧∀ i m σ' H',W i m σ' H'→
 (J.stop i H'∧Q (.ref p) H') ∨ (J.go i H'∧∃ N:L2.St→Hp→Prop,(∀ σ2 H2,N σ2 H2→∃ m',m' < m∧W (i + 1) m' σ2 H2)∧
  ∀ x H3,J.yld i H' x H3→g x σ' H3 fun σ4 H4=>tt σ4 H4 fun b H5=>if b=true then te σ4 H5 fun y H6=>∃ ys,H6 p=some (.lst ys)∧ys.length < sizeLine∧N σ4 (upd H6 p (.lst (ys ++ [y]))) else N σ4 H5)
theorem xi {qb:Bool} {X:Cx} {elt tg iter:Expr} {ifs:List Expr} {scope:Scope} {pos:Pos} {N:List Str} {k:Nat} {caps:List Nat} {wi:TI} {g:TG} {tt:TT} {te:TE} (hX:Cd qb X) (hxe:∀ e s,¬ X.xe e s) (C:CompScope X N k caps scope)
  (hi:PIb qb X tg iter wi) (hg:∀ cl s0 H0 ex,Cd qb (cxC X N scope cl s0 H0 ex)→PG (cxC X N scope cl s0 H0 ex) tg g) (ht:∀ cl s0 H0 ex,Cd qb (cxC X N scope cl s0 H0 ex)→zw (cxC X N scope cl s0 H0 ex) ifs tt) (he:∀ cl s0 H0 ex,Cd qb (cxC X N scope cl s0 H0 ex)→PE (cxC X N scope cl s0 H0 ex) elt te)
  (hs:autoParam (∀ x,foldedSetIterable iter X.env x=pure x) Au.h4._auto_1):PE X (.ListComp elt [⟨tg,iter,ifs,0⟩] scope pos) (DF wi k caps g tt te):=by
 intro pins s σ H Q I h
 have noX:∀ {α:Type} {t:Sem α} {Q':α→Shared→Prop} {s':Shared},wpAny (model X.prog X.w) X.A t Q' X.xe s'→wpAny (model X.prog X.w) X.A t Q' (fun _ _=>False) s':=fun h=>wpAny_mono h (fun _ _ x=>x) fun e s z=>hxe e s z
 obtain ⟨cl,hclos,hcl,hcf⟩:=qK (scope:=scope) (env:=X.env) fun x hx hf=>I.ok.has _ (C.free x hx hf)
 rw [eval_ListComp]
 refine wpAny_comprehension_free (use:=none) (cl:=cl) rfl hs hclos C.kind C.names ?_
 refine thn (hi pins s σ H _ I h) fun v s1 h1=>thn h1 fun itv s2 h2=>?_
 obtain ⟨it,fp,tn,J,H2,e,I2,T,st2,f2,q⟩:=h2
 subst e
 refine wpAny_newList (items:=[]) ?_ (by show 0≤sizeLine; exact Nat.zero_le _)
 have hp:H2 s2.heap.objs.size=none:=I2.hok.fresh (Nat.le_refl _)
 obtain ⟨W,⟨m0,w0⟩,turn⟩:=q _ hp
 have I3:Inv X pins σ (upd H2 s2.heap.objs.size (.lst [])) { s2 with heap:=s2.heap.push { cls:=.type "list",data:=.seq ([]:List Value).toArray } }:=
  I2.laid (t':=s2.toks) (fun b u e=>Heap.get?_push_of_some _ e) (Nat.le_refl _) ⟨Nat.zero_le _,[],0,.nil,Heap.get?_push_size _ rfl⟩
 refine wpAny_newFunctionEnv C.nocell (fun x hx=>nomatch hx) (fun h4 hn4 hs4=>?_) C.kind
 have ltfp:∀ b ∈ fp,b < s2.heap.objs.size:=fun b hb=>by
  obtain ⟨o,ho,_⟩:=T.obj _ _ st2 b hb
  exact Heap.lt_size ho
 have hk4:∀ b o,(s2.heap.push { cls:=.type "list",data:=.seq ([]:List Value).toArray }).get? b=some o→h4.get? b=some o:=fun b o e=>by
  have ne:b ≠ (s2.heap.push { cls:=.type "list",data:=.seq ([]:List Value).toArray }).objs.size:=Nat.ne_of_lt (Heap.lt_size e)
  rw [hs4.2 b ne]
  exact Heap.get?_push_of_some _ e
 have f3:∀ b ∈ fp,FpOk X pins (upd H2 s2.heap.objs.size (.lst [])) b:=fun b hb=>by
  obtain ⟨a1,a2⟩:=f2 b hb
  exact ⟨by rw [aG (Nat.ne_of_lt (ltfp b hb))]; exact a1,a2⟩
 have I4:=sF (N:=N) (k:=k) (caps:=caps) (scope:=scope) (cl:=cl) (fp:=fp) (t:=s2.toks + 0) I3 C hcl hcf (fun b hb=>⟨f3 b hb,by rw [show ({ s2 with heap:=s2.heap.push { cls:=.type "list",data:=.seq ([]:List Value).toArray } }:Shared).heap.objs.size=s2.heap.objs.size + 1 from Heap.size_push ..]; exact Nat.lt_succ_of_lt (ltfp b hb)⟩) hn4 hk4
 have tn4:tn 0 h4:=T.keep _ _ _ st2 fun b hb o e=>hk4 b o (Heap.get?_push_of_some _ e)
 have loop:codeAny (model X.prog X.w) X.A (.compLoop (.ListComp elt [⟨tg,iter,ifs,0⟩] scope pos) 0 (.ref it) (.ref s2.heap.objs.size) (compEnvC scope cl ({ s2 with heap:=s2.heap.push { cls:=.type "list",data:=.seq ([]:List Value).toArray } }:Shared).heap.objs.size X.env))
   (compPost (model X.prog X.w) X.A X.xe none (EP X pins σ Q) (.ref s2.heap.objs.size) ({ s2 with heap:=s2.heap.push { cls:=.type "list",data:=.seq ([]:List Value).toArray } }:Shared).heap.objs.size) { s2 with heap:=h4,toks:=s2.toks + 0 }:=by
  generalize hs3:({ s2 with heap:=s2.heap.push { cls:=.type "list",data:=.seq ([]:List Value).toArray } }:Shared)=s3 at *
  have sz3:s2.heap.objs.size≤s3.heap.objs.size:=by rw [← hs3]; show _≤(s2.heap.push _).objs.size; rw [Heap.size_push]; exact Nat.le_succ _
  have k23:∀ b o,s2.heap.get? b=some o→s3.heap.get? b=some o:=fun b o e=>by rw [← hs3]; exact Heap.get?_push_of_some _ e
  have hos:s3.os=s2.os:=by rw [← hs3]
  have stat:∀ {H':Hp},(∀ b ∈ fp,H' b=none)→∀ b ∈ fp,FpOk (cxC X N scope cl s3 (upd H2 s2.heap.objs.size (.lst [])) fp) pins H' b:=fun {H'} hn b hb=>by
   obtain ⟨a1,a2,a3,a4,a5,a6⟩:=f3 b hb
   refine ⟨hn b hb,Nat.ne_of_lt (Nat.lt_of_lt_of_le (ltfp b hb) sz3),fun z=>?_,.inl hb,fun x c e=>a5 x c (hcl x c e),a6⟩
   rcases List.mem_cons.mp (I2.stkSub b z) with q | q
   ·exact a2 q
   ·exact a3 q
  have I4':Inv (cxC X N scope cl s3 (upd H2 s2.heap.objs.size (.lst [])) fp) pins (lh k caps σ) (upd H2 s2.heap.objs.size (.lst [])) { s2 with heap:=h4,toks:=s2.toks + 0 }:=by subst hs3; exact I4
  have hX2:Cd qb (cxC X N scope cl s3 (upd H2 s2.heap.objs.size (.lst [])) fp):=by
   rcases hX with z | ⟨z,y | ⟨a,o,u,e1,e2,e3⟩⟩
   ·exact .inl z
   ·exact .inr ⟨z,.inl y⟩
   ·refine .inr ⟨z,.inr ⟨a,o,u,e1,?_,e3⟩⟩
    have q0:=I2.base.frzs a o u e2
    show upd H2 s2.heap.objs.size (.lst []) a=_
    rw [aG (fun y=>by rw [y,hp] at q0; cases q0)]
    exact q0
  refine oM (fun n s'=>∃ i σ' H',Inv (cxC X N scope cl s3 (upd H2 s2.heap.objs.size (.lst [])) fp) pins σ' H' s'∧tn i s'.heap∧(∀ b ∈ fp,H' b=none)∧W i n σ' H') ?_ m0 ⟨0,_,_,I4',tn4,fun b hb=>(f3 b hb).1,w0⟩
  rintro n s5 ⟨i,σ5,H5,I5,st5,fr5,w5⟩
  rcases turn i n σ5 H5 w5 with ⟨stop,qn⟩ | ⟨go,Nn,hN,step⟩
  ·refine thn (T.done (cxC X N scope cl s3 (upd H2 s2.heap.objs.size (.lst [])) fp) rfl rfl rfl hX2 i pins s5 σ5 H5 _ I5 (stat fr5) st5 stop) fun r s6 zq=>?_
   obtain ⟨hr,I6⟩:=zq
   subst hr
   obtain ⟨m6,hn6,_⟩:=I6.loc
   refine ⟨m6,hn6,fun h7 hs7=>⟨.ref s2.heap.objs.size,H5,?_,rfl,qn⟩⟩
   have u1:Un (frs X.stack) fp H2 (upd H2 s2.heap.objs.size (.lst [])) s2.heap s3.heap:=Un.laid k23 (Nat.le_refl _) hp
   have u2:Un (frs X.stack) fp H2 H5 s2.heap s6.heap:=u1.trans I6.base
   have neC:∀ b o,s2.heap.get? b=some o→b ≠ s3.heap.objs.size:=fun b o e=>Nat.ne_of_lt (Nat.lt_of_lt_of_le (Heap.lt_size e) sz3)
   have hfree:H5 s3.heap.objs.size=none:=I6.free
   refine I2.call' (s':={ s6 with heap:=h7 }) (ch:=fp) (by rw [← hos]; exact I6.os) ⟨fun b o e n hb hx=>?_,fun b o e n hb hx=>?_,u2.free,fun b o e hx=>?_,u2.tups,u2.frzs,u2.tbls⟩ (fun b ob e=>?_) I6.bare fun b hb=>?_
   ·exact (hs7.2 b (neC b o e)).trans (u2.keep b o e n hb hx)
   ·obtain ⟨sl,e1⟩:=u2.slot b o e n hb hx
    exact ⟨sl,(hs7.2 b (neC b o e)).trans e1⟩
   ·obtain ⟨o',e1⟩:=u2.there b o e hx
    exact ⟨o',(hs7.2 b (neC b o e)).trans e1⟩
   ·refine (I6.hok b ob e).stay (fun c v hc z=>(hs7.2 c ?_).trans z) (fun _ z=>z) fun _ _ z=>z
    intro y
    rcases hc with z | z
    ·rw [← z,y,hfree] at e; cases e
    ·rw [y,hfree] at z; cases z
   ·obtain ⟨a1,a2,a3,a4,a5,a6⟩:=f2 b hb
    exact ⟨a4,a2,a5,a6⟩
  ·refine thn (T.item (cxC X N scope cl s3 (upd H2 s2.heap.objs.size (.lst [])) fp) rfl rfl rfl hX2 i pins s5 σ5 H5 _ I5 (stat fr5) st5 go) fun r s6 zq=>?_
   obtain ⟨u,hr,h6⟩:=zq
   subst hr
   refine thn h6 fun _ s7 zq=>?_
   obtain ⟨x,H7,I7,r7,y7,st7,fr7⟩:=zq
   have I7':=I7.pinned (stat fr7) (T.obj _ _ st7)
   refine noX (thn (hg cl s3 _ fp hX2 _ s7 σ5 H7 x u _ I7' r7 (step x H7 y7)) fun _ s8 zq=>?_)
   obtain ⟨σ8,H8,I8,q8⟩:=zq
   refine noX (thn (ht cl s3 _ fp hX2 _ s8 σ8 H8 _ I8 q8) fun ok s9 zq=>?_)
   obtain ⟨H9,I9,q9⟩:=zq
   have again:∀ {s':Shared} {σ':L2.St} {H':Hp},Inv (cxC X N scope cl s3 (upd H2 s2.heap.objs.size (.lst [])) fp) (pins ++ kS fp s7.heap) σ' H' s'→Nn σ' H'→
     ∃ m,m < n∧∃ i σ' H',Inv (cxC X N scope cl s3 (upd H2 s2.heap.objs.size (.lst [])) fp) pins σ' H' s'∧tn i s'.heap∧(∀ b ∈ fp,H' b=none)∧W i m σ' H':=fun {s' σ' H'} I' n'=>by
    obtain ⟨m',hm,w'⟩:=hN σ' H' n'
    refine ⟨m',hm,i + 1,σ',H',I'.unpinned,T.keep _ _ _ st7 fun b hb o e=>(I'.pin (b,o) (List.mem_append_right _ (List.mem_append_right _ (gq hb e)))).1,fun b hb=>?_,w'⟩
    obtain ⟨o,e,d⟩:=T.obj _ _ st7 b hb
    exact (I'.pin (b,o) (List.mem_append_right _ (List.mem_append_right _ (gq hb e)))).2.1
   cases ok with
   | false=>exact again I9 q9
   | true=>
    refine noX (thn (he cl s3 _ fp hX2 _ s9 σ8 H9 _ I9 q9) fun y s10 zq=>?_)
    obtain ⟨yv,H10,I10,r10,ys,hys,hlt,q10⟩:=zq
    refine noX (thn (nq (X:=cxC X N scope cl s3 (upd H2 s2.heap.objs.size (.lst [])) fp) _ s10 σ8 H10 (.ref s2.heap.objs.size) [yv] _ [y] (fun _ H'=>Nn σ8 H') I10 rfl (.cons r10 .nil) ⟨_,ys,yv,rfl,rfl,hys,hlt,q10⟩) fun _ s11 zq=>?_)
    obtain ⟨_,H11,I11,_,q11⟩:=zq
    exact again I11 q11
 exact codeAny_compStart_list loop (T.self X.A 0 _ _ _ tn4 loop)
end PD
namespace PD
open PySem PySem.Spec PyProof.Rows L2
def cw (i:Int):Prop:=-(2 ^ 64) < i∧i < 2 ^ 64
noncomputable instance (i:Int):Decidable (cw i):=by unfold cw; infer_instance
def bq:Sto→D→D→Option D
 | _,.int i,.int j=>some (.int (i + j))
 | _,.str a,.str b=>if a.length + b.length≤sizeLine then some (.str (a ++ b)) else none
 | _,.tup a,.tup b=>if a.length + b.length≤sizeLine then some (.tup (a ++ b)) else none
 | _,.lst a,.lst b=>if a.length + b.length≤sizeLine then some (.lst (a ++ b)) else none
 | _,_,_=>none
def mQ:Sto→D→D→Option D
 | _,.int i,.int j=>some (.int (i - j))
 | _,_,_=>none
def cT:Sto→D→D→Option D
 | _,.int i,.int j=>if cw i ∨ cw j then some (.int (i * j)) else none
 | _,.tup a,.int k=>if -(2 ^ 63)≤k∧k < 2 ^ 63∧a.length * k.toNat≤sizeLine then some (.tup (List.replicate k.toNat a).flatten) else none
 | _,.lst a,.int k=>if -(2 ^ 63)≤k∧k < 2 ^ 63∧a.length * k.toNat≤sizeLine then some (.lst (List.replicate k.toNat a).flatten) else none
 | _,_,_=>none
def j7:Sto→D→D→Option D
 | _,.int i,.int j=>if 0 < j∧j < 1073741824 then some (.int (i / j)) else none
 | _,_,_=>none
def oMod:Sto→D→D→Option D
 | _,.int i,.int j=>if 0 < j then some (.int (i % j)) else none
 | _,_,_=>none
def sH:Sto→D→D→Option D
 | _,.int i,.int j=>if 0≤j∧j≤1000000∧i.natAbs < 2 ^ 64 then some (.int (i ^ j.toNat)) else none
 | _,_,_=>none
def sJ:Sto→D→D→Option D
 | _,.int i,.int j=>if 0≤j∧j≤1000000∧i.natAbs < 2 ^ 64 then some (.int (i * 2 ^ j.toNat)) else none
 | _,_,_=>none
def mR (p:Int→Int→Bool):Sto→D→D→Option D
 | _,.int i,.int j=>some (.bl (p i j))
 | _,_,_=>none
abbrev oLt:=mR fun i j=>decide (i < j)
abbrev oGt:=mR fun i j=>decide (j < i)
abbrev oGe:=mR fun i j=>decide (j≤i)
def eqS:D→D→Option Bool
 | .int i,.int j=>some (decide (i=j))
 | .bl i,.bl j=>some (decide (i=j))
 | .str i,.str j=>some (decide (i=j))
 | .non,.non=>some true
 | .non,.int _=>some false
 | .int _,.non=>some false
 | .non,.bl _=>some false
 | .bl _,.non=>some false
 | .non,.str _=>some false
 | .str _,.non=>some false
 | .int _,.str _=>some false
 | .str _,.int _=>some false
 | .bl _,.str _=>some false
 | .str _,.bl _=>some false
 | _,_=>none
def oEq:Sto→D→D→Option D:=fun _ a b=>(eqS a b).map .bl
def oNe:Sto→D→D→Option D:=fun _ a b=>(eqS a b).map fun c=>.bl (!c)
def dm (S:Sto):D→Option (List D)
 | .tup a=>some a
 | .lst a=>some a
 | .fz a=>some a
 | .ref n=>match S[n]? with
  | some (.lst a)=>some a
  | some (.flst a)=>some a
  | _=>none
 | _=>none
def oIx:Sto→D→D→Option D:=fun S x y=>match dm S x,y with
 | some a,.int i=>atI a i
 | _,_=>none
def cutD (xs:List D) (lo hi:Option Int):List D:=(xs.drop (HT.sIx xs.length 0 lo)).take (HT.sIx xs.length xs.length hi - HT.sIx xs.length 0 lo)
section
variable {X:Cx} {E:XK}
theorem RD.int {K:PySem.W.Frag} {w:Wd} {H:Hp} {i:Int} {v:V} (q:RD K w H (.int i) v):v=.int i:=by unfold RD at q; exact q
theorem RD.bl {K:PySem.W.Frag} {w:Wd} {H:Hp} {i:Bool} {v:V} (q:RD K w H (.bl i) v):v=.bl i:=by unfold RD at q; exact q
theorem RD.str {K:PySem.W.Frag} {w:Wd} {H:Hp} {i:Str} {v:V} (q:RD K w H (.str i) v):v=.str i:=by unfold RD at q; exact q
theorem RD.non {K:PySem.W.Frag} {w:Wd} {H:Hp} {v:V} (q:RD K w H .non v):v=.non:=by unfold RD at q; exact q
theorem RD.mkI {K:PySem.W.Frag} {w:Wd} {H:Hp} {i:Int}:RD K w H (.int i) (.int i):=by unfold RD; rfl
theorem RD.mkB {K:PySem.W.Frag} {w:Wd} {H:Hp} {i:Bool}:RD K w H (.bl i) (.bl i):=by unfold RD; rfl
theorem RD.mkS {K:PySem.W.Frag} {w:Wd} {H:Hp} {i:Str}:RD K w H (.str i) (.str i):=by unfold RD; rfl
theorem RD.tupI {K:PySem.W.Frag} {w:Wd} {H:Hp} {ds:List D} {v:V} (q:RD K w H (.tup ds) v):∃ a vs,v=.ref a∧(At w H a (.tup vs) ∨ qG K a vs)∧RDs K w H ds vs:=by unfold RD at q; exact q
theorem RD.lstI {K:PySem.W.Frag} {w:Wd} {H:Hp} {ds:List D} {v:V} (q:RD K w H (.lst ds) v):∃ a vs,v=.ref a∧At w H a (.lst vs)∧RDs K w H ds vs:=by unfold RD at q; exact q
theorem RD.fzI {K:PySem.W.Frag} {w:Wd} {H:Hp} {ds:List D} {v:V} (q:RD K w H (.fz ds) v):∃ a vs,v=.ref a∧vT K w H a vs∧RDs K w H ds vs:=by unfold RD at q; exact q
theorem RD.refI {K:PySem.W.Frag} {w:Wd} {H:Hp} {n:Nat} {v:V} (q:RD K w H (.ref n) v):∃ a,v=.ref a∧w.st[n]?=some a:=by unfold RD at q; exact q
theorem RD.newTup {K:PySem.W.Frag} {w:Wd} {H:Hp} {S:Sto} {ds:List D} {vs:List V} {p:Addr} (s:RS K w H S) (hp:H p=none) (q:RDs K w H ds vs):RD K w (upd H p (.tup vs)) (.tup ds) (.ref p):=by
 unfold RD
 exact ⟨p,vs,rfl,.inl ⟨aI,s.fresh hp⟩,RDs.ext (Ext.new hp) _ _ q⟩
theorem RD.newLst {K:PySem.W.Frag} {w:Wd} {H:Hp} {S:Sto} {ds:List D} {vs:List V} {p:Addr} (s:RS K w H S) (hp:H p=none) (q:RDs K w H ds vs):RD K w (upd H p (.lst vs)) (.lst ds) (.ref p):=by
 unfold RD
 exact ⟨p,vs,rfl,⟨aI,s.fresh hp⟩,RDs.ext (Ext.new hp) _ _ q⟩
theorem zx {f:Value→Value→Sem Value} {C:Int→Int→Prop} {g:Int→Int→D} {gv:Int→Int→V} {o:Sto→D→D→Option D} (h:OpR X f (rI C gv)) (hg:∀ K w H i j,RD K w H (g i j) (gv i j))
  (ho:∀ S d e z,o S d e=some z→∃ i j,d=.int i∧e=.int j∧C i j∧z=g i j):OpR X f (xO X.K E o):=by
 rintro pins s σ H x y v u Q I rx ry ⟨w,S,d,e,hS,qd,qe,p⟩
 obtain ⟨z,hz,p⟩:=p.of
 obtain ⟨i,j,rfl,rfl,c,rfl⟩:=ho _ _ _ _ hz
 cases qd.int
 cases qe.int
 exact h pins s σ H _ _ v u Q I rx ry ⟨i,j,rfl,rfl,c,p.ret (hg _ _ _ _ _) hS⟩
theorem uz {f:Value→Value→Sem Value} {g:Int→Int→D} {gv:Int→Int→V} {o:Sto→D→D→Option D} (h:OpR X f (rI0 gv)) (hg:∀ K w H i j,RD K w H (g i j) (gv i j))
  (ho:∀ S d e z,o S d e=some z→∃ i j,d=.int i∧e=.int j∧z=g i j):OpR X f (xO X.K E o):=by
 rintro pins s σ H x y v u Q I rx ry ⟨w,S,d,e,hS,qd,qe,p⟩
 obtain ⟨z,hz,p⟩:=p.of
 obtain ⟨i,j,rfl,rfl,rfl⟩:=ho _ _ _ _ hz
 cases qd.int
 cases qe.int
 exact h pins s σ H _ _ v u Q I rx ry ⟨i,j,rfl,rfl,p.ret (hg _ _ _ _ _) hS⟩
theorem lj:OpR X (binaryOp .Sub) (xO X.K E mQ):=uz (g:=fun i j=>.int (i - j)) BB (fun _ _ _ _ _=>RD.mkI) fun S d e z h=>by
 unfold mQ at h; split at h
 ·cases h; exact ⟨_,_,rfl,rfl,rfl⟩
 ·cases h
theorem uB:OpR X (binaryOp .FloorDiv) (xO X.K E j7):=zx (g:=fun i j=>.int (i / j)) y0 (fun _ _ _ _ _=>RD.mkI) fun S d e z h=>by
 unfold j7 at h; split at h
 ·split at h
  ·cases h; exact ⟨_,_,rfl,rfl,by assumption,rfl⟩
  ·cases h
 ·cases h
theorem lq:OpR X (binaryOp .Mod) (xO X.K E oMod):=zx (g:=fun i j=>.int (i % j)) BD (fun _ _ _ _ _=>RD.mkI) fun S d e z h=>by
 unfold oMod at h; split at h
 ·split at h
  ·cases h; exact ⟨_,_,rfl,rfl,by assumption,rfl⟩
  ·cases h
 ·cases h
theorem B6:OpR X (binaryOp .Pow) (xO X.K E sH):=zx (g:=fun i j=>.int (i ^ j.toNat)) BE (fun _ _ _ _ _=>RD.mkI) fun S d e z h=>by
 unfold sH at h; split at h
 ·split at h
  ·cases h; exact ⟨_,_,rfl,rfl,by assumption,rfl⟩
  ·cases h
 ·cases h
theorem B7:OpR X (binaryOp .LShift) (xO X.K E sJ):=zx (g:=fun i j=>.int (i * 2 ^ j.toNat)) BF (fun _ _ _ _ _=>RD.mkI) fun S d e z h=>by
 unfold sJ at h; split at h
 ·split at h
  ·cases h; exact ⟨_,_,rfl,rfl,by assumption,rfl⟩
  ·cases h
 ·cases h
theorem lr {p:Int→Int→Bool} {S:Sto} {d e z:D} (h:mR p S d e=some z):∃ i j,d=.int i∧e=.int j∧z=.bl (p i j):=by
 unfold mR at h; split at h
 ·cases h; exact ⟨_,_,rfl,rfl,rfl⟩
 ·cases h
theorem ny:OpR X (compareOp .Lt) (xO X.K E oLt):=uz (g:=fun i j=>.bl (decide (i < j))) Di (fun _ _ _ _ _=>RD.mkB) fun S d e z h=>lr h
theorem uC:OpR X (compareOp .Gt) (xO X.K E oGt):=uz (g:=fun i j=>.bl (decide (j < i))) Dj (fun _ _ _ _ _=>RD.mkB) fun S d e z h=>lr h
theorem qM:OpR X (compareOp .GtE) (xO X.K E oGe):=uz (g:=fun i j=>.bl (decide (j≤i))) Dk (fun _ _ _ _ _=>RD.mkB) fun S d e z h=>lr h
theorem xj {K:PySem.W.Frag} {w:Wd} {H:Hp} {d e:D} {x y:V} {c:Bool} (qd:RD K w H d x) (qe:RD K w H e y) (h:eqS d e=some c):BG x y=true∧decide (x=y)=c:=by
 unfold eqS at h
 split at h <;> (try (cases h; done)) <;> (unfold RD at qd qe; subst qd; subst qe; cases h; refine ⟨rfl,?_⟩; simp)
theorem DG:OpR X (compareOp .Eq) (xO X.K E oEq):=by
 rintro pins s σ H x y v u Q I rx ry ⟨w,S,d,e,hS,qd,qe,p⟩
 obtain ⟨z,hz,p⟩:=p.of
 unfold oEq at hz
 cases h:eqS d e with
 | none=>rw [h] at hz; cases hz
 | some c=>
  rw [h] at hz; cases hz
  obtain ⟨h1,h2⟩:=xj qd qe h
  exact Dg pins s σ H _ _ v u Q I rx ry ⟨h1,by rw [h2]; exact p.ret RD.mkB hS⟩
theorem DH:OpR X (compareOp .NotEq) (xO X.K E oNe):=by
 rintro pins s σ H x y v u Q I rx ry ⟨w,S,d,e,hS,qd,qe,p⟩
 obtain ⟨z,hz,p⟩:=p.of
 unfold oNe at hz
 cases h:eqS d e with
 | none=>rw [h] at hz; cases hz
 | some c=>
  rw [h] at hz; cases hz
  obtain ⟨h1,h2⟩:=xj qd qe h
  exact Dh pins s σ H _ _ v u Q I rx ry ⟨h1,by rw [h2]; exact p.ret RD.mkB hS⟩
theorem sL {K:PySem.W.Frag} {w:Wd} {H:Hp} {S:Sto} {d:D} {v:V} {a:List D} (s:RS K w H S) (q:RD K w H d v) (h:dm S d=some a):∃ p vs,v=.ref p∧(SqL K H p vs ∨ SqT K H p vs)∧RDs K w H a vs:=by
 unfold dm at h
 split at h
 ·cases h; obtain ⟨p,vs,e,z,r⟩:=q.tupI; exact ⟨p,vs,e,.inr (cR z),r⟩
 ·cases h; obtain ⟨p,vs,e,z,r⟩:=q.lstI; exact ⟨p,vs,e,.inl (SqL.of z.1),r⟩
 ·cases h; obtain ⟨p,vs,e,z,r⟩:=q.fzI; exact ⟨p,vs,e,.inl z.sq,r⟩
 ·split at h
  ·rename_i n b hn
   cases h
   obtain ⟨p,e,hp⟩:=q.refI
   obtain ⟨p',hp',vs,hv,r⟩:=s.obj _ _ hn
   rw [hp] at hp'; cases hp'
   exact ⟨p,vs,e,.inl (SqL.of hv),r⟩
  ·rename_i n b hn
   cases h
   obtain ⟨p,e,hp⟩:=q.refI
   obtain ⟨p',hp',o,vs,hv,r⟩:=s.obj _ _ hn
   rw [hp] at hp'; cases hp'
   exact ⟨p,vs,e,.inl (.inl (.inr ⟨o,hv⟩)),r⟩
  ·cases h
 ·cases h
theorem RDs.atI {K:PySem.W.Frag} {w:Wd} {H:Hp} {a:List D} {vs:List V} {i:Int} {d:D} (r:RDs K w H a vs) (h:atI a i=some d):∃ v,L2.atI vs i=some v∧RD K w H d v:=by
 unfold L2.atI at h ⊢
 rw [r.length]
 cases e:ixN a.length i with
 | none=>rw [e] at h; cases h
 | some j=>
  rw [e] at h
  obtain ⟨v,ev,rv⟩:=r.get (show a[j]?=some d from h)
  exact ⟨v,ev,rv⟩
theorem gN:IxR X (xO X.K E oIx):=by
 rintro va sl pins s σ H x y v u Q I rx ry ⟨w,S,d,e,hS,qd,qe,p⟩ hsub
 obtain ⟨z,hz,p'⟩:=p.of
 clear p
 unfold oIx at hz
 split at hz
 ·rename_i a i ha
  obtain ⟨q,vs,rfl,sq,r⟩:=sL hS qd ha
  cases qe.int
  obtain ⟨v',ev,rv⟩:=r.atI hz
  exact BO va sl pins s σ H _ _ v u Q I rx ry (sq.elim (fun z=>.inl ⟨q,vs,i,v',rfl,rfl,z,ev,p'.ret rv hS⟩) fun z=>.inr (.inl ⟨q,vs,i,v',rfl,rfl,z,ev,p'.ret rv hS⟩)) hsub
 ·cases hz
end
end PD
namespace PD
open PySem PySem.Spec PyProof.Rows L2
section
open PySem.SeqAt
open PySem.AutoSeq1 (wpAny_loadPart')
open PySem.MeetsSeq PySem.MeetsSeq2 PySem.MeetsSeq3
theorem oN (a:Int) (t:Tok) (l:Addr) (items:Array Value) (n:Nat) (dd:Option Addr) (sl:Array (Option Value)):
  Meets (Builtin.«int.__rmul__» ⟨[.int a t,.ref l],[]⟩) (fun _ R s=>s.heap.get? l=some { cls:=.type "tuple",dict:=dd,data:=.seq items n,slots:=sl }∧R (.ok (.ret Value.notImplemented)) s):=
 .of_wp fun prog w A R s h=>by obtain ⟨hp,g,d,tk,os⟩:=s; obtain ⟨hl,h⟩:=h; wp_walk using wpAny_loadPart' hl; exact ⟨_,rfl,h⟩
theorem oO (l:Addr) (items:Array Value) (n:Nat) (k:Int) (t:Tok) (dd:Option Addr) (sl:Array (Option Value)) (h1:¬ (decide (k < -(2 ^ 63)) || decide (k ≥ 2 ^ 63))=true) (h2:(items.isEmpty || k == 1)=true):
  Meets (Builtin.«tuple.__mul__» ⟨[.ref l,.int k t],[]⟩) (fun _ R s=>s.heap.get? l=some { cls:=.type "tuple",dict:=dd,data:=.seq items n,slots:=sl }∧R (.ok (.ret (.ref l))) s):=
 .of_wp fun prog w A R s h=>by obtain ⟨hp,g,d,tk,os⟩:=s; obtain ⟨hl,h⟩:=h; have f1:=AutoSeq1.idx_int; wp_walk using wpAny_loadPart' hl; rw [if_neg h1]; wp_walk using wpAny_loadPart' hl; exact ⟨_,rfl,h⟩
theorem oP (l:Addr) (items:Array Value) (n:Nat) (k:Int) (t:Tok) (dd:Option Addr) (sl:Array (Option Value)) (h1:¬ (decide (k < -(2 ^ 63)) || decide (k ≥ 2 ^ 63))=true) (h2:¬ (items.isEmpty || k == 1)=true) (h3:(decide (k≤0) || items.isEmpty)=true):
  Meets (Builtin.«tuple.__mul__» ⟨[.ref l,.int k t],[]⟩) (fun _ R s=>s.heap.get? l=some { cls:=.type "tuple",dict:=dd,data:=.seq items n,slots:=sl }∧R (.ok (.ret (Value.ref s.heap.objs.size))) { s with heap:=s.heap.push { cls:=Value.type "tuple",data:=Data.seq #[] },toks:=s.toks }):=
 .of_wp fun prog w A R s h=>by obtain ⟨hp,g,d,tk,os⟩:=s; obtain ⟨hl,h⟩:=h; have f1:=AutoSeq1.idx_int; wp_walk using wpAny_loadPart' hl; rw [if_neg h1]; wp_walk using wpAny_loadPart' hl; exact ⟨_,rfl,h⟩
theorem oQ (l:Addr) (items:Array Value) (n:Nat) (k:Int) (t:Tok) (dd:Option Addr) (sl:Array (Option Value)) (h1:¬ (decide (k < -(2 ^ 63)) || decide (k ≥ 2 ^ 63))=true) (h2:¬ (items.isEmpty || k == 1)=true) (h3:¬ (decide (k≤0) || items.isEmpty)=true)
  (h4:¬ (items.size:Int) * k > (2 ^ 63 - 1) / 8) (h5:¬ Builtin.Tuple.tupleTooMany ((items.size:Int) * k)=true) (hsz:(List.foldl (fun x1 x2=>x1 ++ x2) #[] (List.replicate k.toNat items)).size≤sizeLine):
  Meets (Builtin.«tuple.__mul__» ⟨[.ref l,.int k t],[]⟩) (fun _ R s=>s.heap.get? l=some { cls:=.type "tuple",dict:=dd,data:=.seq items n,slots:=sl }∧R (.ok (.ret (Value.ref s.heap.objs.size))) { s with heap:=s.heap.push { cls:=Value.type "tuple",data:=Data.seq (List.foldl (fun x1 x2=>x1 ++ x2) #[] (List.replicate k.toNat items)) },toks:=s.toks }):=
 .of_wp fun prog w A R s h=>by obtain ⟨hp,g,d,tk,os⟩:=s; obtain ⟨hl,h⟩:=h; have f1:=AutoSeq1.idx_int; wp_walk using wpAny_loadPart' hl; rw [if_neg h1]; wp_walk using wpAny_loadPart' hl; rw [if_neg h4]; wp_walk using wpAny_loadPart' hl; exact ⟨_,rfl,h⟩
end
section
variable {prog:Program} {w:World} {A:Around} {E:Value→Shared→Prop} {s:Shared}
theorem jK:fillsNumberSlot (.type "tuple") "mul" = pure false:=
 PySem.fillsNumberSlot_seq (id:="tuple.__mul__") (r:=some (.builtin "tuple.__rmul__")) F.slot_tuple_mul.lookup (by decide +kernel) F.slot_tuple_rmul.lookup (by decide +kernel)
theorem oR:seqRepeat? (.type "tuple")=pure (some (.builtin "tuple.__mul__")):=by
 unfold seqRepeat?
 rw [PySem.seqSlot_of (T:="tuple") (name:="__mul__") (id:="tuple.__mul__") F.slot_tuple_mul.lookup (by decide +kernel),PySem.seqSlot_of (T:="tuple") (name:="__rmul__") (id:="tuple.__rmul__") F.slot_tuple_rmul.lookup (by decide +kernel)]
 rfl
theorem zy {t:Addr} {vs:List Value} {k:Int} {tk:Tok} {Q:Value→Shared→Prop} (ht:IsTup s.heap t vs.toArray) (h1:-(2 ^ 63)≤k) (h2:k < 2 ^ 63) (hz:vs.length * k.toNat≤sizeLine)
  (q1:(vs=[] ∨ k=1)→Q (.ref t) s) (q2:¬ (vs=[] ∨ k=1)→Q (.ref s.heap.objs.size) { s with heap:=s.heap.push { cls:=.type "tuple",data:=.seq (List.replicate k.toNat vs).flatten.toArray } }):
  wpAny (model prog w) A (binaryOp .Mult (.ref t) (.int k tk)) Q E s:=by
 obtain ⟨⟨cls,dd,data,sl⟩,ho,hc,n,hd⟩:=id ht
 simp only at hc hd
 subst hc hd
 have hk:¬ (decide (k < -(2 ^ 63)) || decide (k ≥ 2 ^ 63))=true:=by simp; omega
 refine wpAny_binaryOp_repeat_ref (T:="tuple") (U:="int") (by decide) ⟨_,ho,rfl⟩ (fun s'=>typeIs_int s' k tk) jK F.fills_int_mul F.slot_int_rmul oR F.slot_int_index.lookup
  (call_meets F.slot_int_rmul (typeIs_int s k tk) F.entry_int_rmul (F.args_int_rmul_2 _ _) (oN k tk t vs.toArray n dd sl) ⟨ho,rfl,⟨_,ho,rfl⟩,?_⟩)
 have hfold:∀ m:Nat,List.foldl (fun x1 x2=>x1 ++ x2) #[] (List.replicate m vs.toArray)=(List.replicate m vs).flatten.toArray:=fun m=>by
  have:=foldl_rep vs m []
  rw [List.nil_append] at this
  exact this
 by_cases c1:vs=[] ∨ k=1
 ·refine call_meets F.slot_tuple_mul ⟨_,ho,rfl⟩ F.entry_tuple_mul (F.args_tuple_mul_2 _ _) (oO t vs.toArray n k tk dd sl hk ?_) ⟨ho,q1 c1⟩
  rcases c1 with rfl | rfl
  ·rfl
  ·simp
 ·have c2:¬ (vs.toArray.isEmpty || k == 1)=true:=by
   intro z
   rw [Bool.or_eq_true] at z
   rcases z with z | z
   ·exact c1 (.inl (by simpa using z))
   ·exact c1 (.inr (by simpa using z))
  by_cases c3:k≤0
  ·refine call_meets F.slot_tuple_mul ⟨_,ho,rfl⟩ F.entry_tuple_mul (F.args_tuple_mul_2 _ _) (oP t vs.toArray n k tk dd sl hk c2 (by simp [c3])) ⟨ho,?_⟩
   have:=q2 c1
   rw [show k.toNat=0 by omega] at this
   exact this
  ·have c4:¬ (decide (k≤0) || vs.toArray.isEmpty)=true:=by
    intro z
    rw [Bool.or_eq_true] at z
    rcases z with z | z
    ·exact c3 (of_decide_eq_true z)
    ·exact c1 (.inl (by simpa using z))
   have hmul:((vs.toArray.size:Nat):Int) * k=((vs.length * k.toNat:Nat):Int):=by
    rw [List.size_toArray,Int.natCast_mul,Int.toNat_of_nonneg (by omega)]
   have hs0:(sizeLine:Nat)=2 ^ 24:=rfl
   refine call_meets F.slot_tuple_mul ⟨_,ho,rfl⟩ F.entry_tuple_mul (F.args_tuple_mul_2 _ _) (oQ t vs.toArray n k tk dd sl hk c2 c4 ?_ ?_ ?_) ⟨ho,?_⟩
   ·rw [hmul]
    intro z
    have:((2:Int) ^ 63 - 1) / 8 ≥ 2 ^ 24:=by decide
    omega
   ·rw [hmul]
    unfold Builtin.Tuple.tupleTooMany
    simp only [decide_eq_true_eq]
    intro z
    have z':((sizeLine:Nat):Int) < ((vs.length * k.toNat:Nat):Int):=z
    omega
   ·rw [hfold,List.size_toArray,len_rep,Nat.mul_comm]; exact hz
   ·rw [hfold]; exact q2 c1
end
end PD
namespace PD
open PySem PySem.Spec PyProof.Rows L2
section
variable {prog:Program} {w:World} {A:Around} {E:Value→Shared→Prop} {s:Shared}
theorem xk {t b:Addr} {ws:List Value} {Q:Value→Shared→Prop} (ht:IsTup s.heap t ([]:List Value).toArray) (hb:IsTup s.heap b ws.toArray) (h:Q (.ref b) s):wpAny (model prog w) A (binaryOp .Add (.ref t) (.ref b)) Q E s:=by
 obtain ⟨⟨cls,dd,data,sl⟩,ho,hc,n,hd⟩:=id ht
 obtain ⟨⟨cls2,dd2,data2,sl2⟩,ho2,hc2,n2,hd2⟩:=id hb
 simp only at hc hd hc2 hd2
 subst hc hd hc2 hd2
 exact concat_meets ⟨_,ho,rfl⟩ ⟨_,ho2,rfl⟩ noFill_tuple_add seq_tuple_add PySem.F.slot_tuple_add PySem.F.entry_tuple_add (PySem.F.args_tuple_add_2 _ _) (tuple_addW0 t b _ ws.toArray n n2 dd dd2 sl sl2 rfl) ⟨ho,ho2,h⟩
open HT in
theorem iI {t sl:Addr} {items:Array Value} {vl vu:Value} {lo hi:Option Int} {Q:Value→Shared→Prop} (ht:IsTup s.heap t items) (hs:s.heap.IsSliceOf sl vl vu .none) (pl:IsPart vl lo) (pu:IsPart vu hi)
  (hw:sIx items.size 0 lo=0∧sIx items.size items.size hi=items.size) (h:Q (.ref t) s):wpAny (model prog w) A (getItem (.ref t) (.ref sl)) Q E s:=by
 obtain ⟨os,hos,hcs,hds⟩:=id hs
 have hTs:s.TypeIs (.ref sl) "slice":=⟨os,hos,hcs⟩
 unfold getItem
 try with_reducible refine wpAny_holding ?_
 first | refine wpAny_bind (wpAny_pure ?_) | skip
 refine wpAny_bind (wpAny_sequenceKey ht.typeIs (by decide) ?_)
 refine wpAny_bind (wpAny_callSpecial?_slot (name:=Str.ofString "__getitem__") ht.typeIs PyProof.Rows.slot_tuple_getitem
  (wpAny_call_entry PyProof.Rows.slot_tuple_getitem ht.typeIs entry_tuple_getitem ?_ (args_tuple_getitem _ _)))
 show wpAny _ _ (Builtin.Tuple.tupleItemsOf (.ref t) >>= _) _ _ s
 refine wpAny_bind (tupleItemsOf_ ht ?_)
 refine wpAny_bind (wpAny_typeOf hTs ?_)
 rw [if_pos (by decide)]
 refine wpAny_bind (fZ hs pl pu ?_)
 have hyes:(((sIx items.size 0 lo:Nat):Int) == 0 && (1:Int) == 1 && (sIx items.size items.size hi - sIx items.size 0 lo) == items.size)=true:=by
  rw [hw.1,hw.2]; simp
 show wpAny _ _ (if (((sIx items.size 0 lo:Nat):Int) == 0 && (1:Int) == 1 && (sIx items.size items.size hi - sIx items.size 0 lo) == items.size)=true then _ else _) _ _ s
 rw [if_pos hyes]
 obtain ⟨ob,hob,hcl,_⟩:=id ht
 have hex:∀ {Q':Bool→Shared→Prop},Q' true s→wpAny (model prog w) A.in1 (Builtin.Tuple.tupleIsExact (.ref t)) Q' E s:=fun q=>by
  unfold Builtin.Tuple.tupleIsExact
  refine wpAny_bind (wpAny_typeOf ht.typeIs (wpAny_pure ?_))
  exact q
 refine wpAny_bind (hex ?_)
 rw [if_pos rfl]
 first
  | exact wpAny_bind (wpAny_rule (wpAny_pure ⟨_,rfl,wpAny_pure h⟩))
  | exact wpAny_bind (wpAny_rule (wpAny_bind (wpAny_pure ⟨_,rfl,wpAny_pure h⟩)))
  | exact wpAny_bind (wpAny_rule (wpAny_bind (wpAny_pure (wpAny_pure ⟨_,rfl,wpAny_pure h⟩))))
  | exact wpAny_bind (wpAny_bind (wpAny_rule (wpAny_pure (wpAny_pure ⟨_,rfl,wpAny_pure h⟩))))
end
end PD
namespace PD
open PySem PySem.Spec PyProof.Rows L2
section
variable {X:Cx} {E:XK}
theorem jg {K:PySem.W.Frag} {w:Wd} {H:Hp} {p:Addr} {vs:List V} {ds:List D} (z:At w H p (.tup vs) ∨ qG K p vs) (r:RDs K w H ds vs):RD K w H (.tup ds) (.ref p):=by
 unfold RD; exact ⟨p,vs,rfl,z,r⟩
theorem bH:OpR X (binaryOp .Add) (xO X.K E bq):=by
 rintro pins s σ H x y v u Q I rx ry ⟨w,S,d,e,hS,qd,qe,p⟩
 obtain ⟨z,hz,p'⟩:=p.of
 clear p
 unfold bq at hz
 split at hz
 ·cases hz
  cases qd.int
  cases qe.int
  exact BA pins s σ H _ _ v u Q I rx ry ⟨_,_,rfl,rfl,p'.ret RD.mkI hS⟩
 ·split at hz
  ·cases hz
   cases qd.str
   cases qe.str
   exact sm pins s σ H _ _ v u Q I rx ry ⟨_,_,rfl,rfl,by assumption,p'.ret RD.mkS hS⟩
  ·cases hz
 ·split at hz
  ·rename_i S' a b hl
   cases hz
   obtain ⟨pa,xs,rfl,za,ra⟩:=qd.tupI
   obtain ⟨pb,ys,rfl,zb,rb⟩:=qe.tupI
   by_cases ha:a=[]
   ·subst ha
    have hxs:=ra.nil_inv
    subst hxs
    cases rx
    cases ry
    obtain ⟨its,r1,p1,_⟩:=I.tuple (cR za)
    obtain ⟨its2,r2,p2,_⟩:=I.tuple (cR zb)
    have:its=[]:=r1.nil_iff.mpr rfl
    subst this
    exact xk p1 p2 ⟨.ref pb,H,I,rfl,p'.ret (jg zb rb) hS⟩
   ·refine zi pins s σ H _ _ v u Q I rx ry ⟨pa,pb,xs,ys,rfl,rfl,cR za,cR zb,fun z=>ha ?_,by rw [ra.length,rb.length]; exact hl,fun z=>?_,fun z q hq=>?_⟩
    ·have:=ra.length
     rw [z] at this
     exact List.length_eq_zero_iff.mp this.symm
    ·have hb:b=[]:=by
      have:=rb.length
      rw [z] at this
      exact List.length_eq_zero_iff.mp this.symm
     subst hb
     rw [List.append_nil] at p'
     exact p'.ret (jg za ra) hS
    ·exact p'.at (Ext.new hq) (RD.newTup hS hq (ra.append rb)) (hS.new hq)
  ·cases hz
 ·split at hz
  ·rename_i S' a b hl
   cases hz
   obtain ⟨pa,xs,rfl,za,ra⟩:=qd.lstI
   obtain ⟨pb,ys,rfl,zb,rb⟩:=qe.lstI
   exact BR pins s σ H _ _ v u Q I rx ry ⟨pa,pb,xs,ys,rfl,rfl,za.1,zb.1,by rw [ra.length,rb.length]; exact hl,fun q hq=>p'.at (Ext.new hq) (RD.newLst hS hq (ra.append rb)) (hS.new hq)⟩
  ·cases hz
 ·cases hz
theorem RDs.rep {K:PySem.W.Frag} {w:Wd} {H:Hp} {ds:List D} {vs:List V} (r:RDs K w H ds vs):∀ k:Nat,RDs K w H (List.replicate k ds).flatten (List.replicate k vs).flatten
 | 0=>by simp; exact .nil
 | k + 1=>by
  rw [List.replicate_succ,List.replicate_succ,List.flatten_cons,List.flatten_cons]
  exact r.append (RDs.rep r k)
theorem dz:OpR X (binaryOp .Mult) (xO X.K E cT):=by
 rintro pins s σ H x y v u Q I rx ry ⟨w,S,d,e,hS,qd,qe,p⟩
 obtain ⟨z,hz,p'⟩:=p.of
 clear p
 unfold cT at hz
 split at hz
 ·split at hz
  ·cases hz
   cases qd.int
   cases qe.int
   exact BC pins s σ H _ _ v u Q I rx ry ⟨_,_,rfl,rfl,by assumption,p'.ret RD.mkI hS⟩
  ·cases hz
 ·split at hz
  ·rename_i S' a k hl
   cases hz
   obtain ⟨pa,xs,rfl,za,ra⟩:=qd.tupI
   cases qe.int
   cases rx
   obtain ⟨t,rfl⟩:=ry
   obtain ⟨its,r1,p1,_⟩:=I.tuple (cR za)
   have e1:its.length=a.length:=by rw [← r1.length,ra.length]
   refine zy p1 hl.1 hl.2.1 (by rw [e1]; exact hl.2.2) (fun c=>?_) fun c=>?_
   ·refine ⟨.ref pa,H,I,rfl,?_⟩
    have:(List.replicate k.toNat a).flatten=a:=by
     rcases c with c | c
     ·have:a=[]:=by rw [c] at e1; exact List.length_eq_zero_iff.mp e1.symm
      subst this; simp
     ·subst c; simp
    rw [this] at p'
    exact p'.ret (jg za ra) hS
   ·have hn:H s.heap.objs.size=none:=I.hok.fresh (Nat.le_refl _)
    refine ⟨.ref s.heap.objs.size,_,I.laid (t':=s.toks) (o:=.tup (List.replicate k.toNat xs).flatten) (fun b ob q=>Heap.get?_push_of_some _ q) (Nat.le_refl _) ?_,rfl,p'.at (Ext.new hn) (RD.newTup hS hn (ra.rep _)) (hS.new hn)⟩
    exact ⟨by rw [len_rep,Nat.mul_comm,ra.length]; exact hl.2.2,_,r1.rep _,IsTup.new _ _⟩
  ·cases hz
 ·split at hz
  ·rename_i S' a k hl
   cases hz
   obtain ⟨pa,xs,rfl,za,ra⟩:=qd.lstI
   cases qe.int
   exact BS pins s σ H _ _ v u Q I rx ry ⟨pa,k,xs,rfl,rfl,za.1,hl.1,hl.2.1,by rw [ra.length]; exact hl.2.2,fun q hq=>p'.at (Ext.new hq) (RD.newLst hS hq (ra.rep _)) (hS.new hq)⟩
  ·cases hz
 ·cases hz
theorem fO {a b:Expr} {ma mb:EM} {pos:Pos} {f:Sto→D→D→Option D} (hr:IxR X (xO X.K E f)) (ha:SE X E a ma) (hb:SE X E b mb) (hs:um b:=by intro _ _; kernel_rfl):SE X E (.Subscript a b pos) (eOp f ma mb):=⟨
 bC (Dt hr ha.out hb.out hs) fun s H Q zq=>ex6 zq fun w r S hr hS hp=>⟨w,r,S,hr,hS,hp.bind hS fun d S1 w1 H1 v x1 q1 s1 p1=>
  ⟨w1,r,S1,hr.ext x1,s1,p1.bind s1 fun e S2 w2 H2 u x2 q2 s2 p2=>⟨w2,S2,d,e,s2,RD.ext x2 d v q1,q2,p2⟩⟩⟩⟩
abbrev OM:=Rho→Sto→R (Option Int)
def ROp (w:Wd) (H:Hp) (a b:Option Int):Prop:=b=a
def uO (K:PySem.W.Frag) (E:XK) (m:OM):TO:=fun s H Q=>∃ w r S,RSt K w H r s∧RS K w H S∧aH K E ROp w H (m r S) Q
def oNo:OM:=fun _ S=>.ok none S
def jh (a:EM):OM:=fun r S=>(a r S).bind fun x S1=>match x with
 | .int i=>.ok (some i) S1
 | _=>.bad
abbrev SO' (X:Cx) (E:XK) (e:Option Expr) (m:OM):Prop:=Bx (PO X e (uO X.K E m))
theorem kH:SO' X E none oNo:=⟨fun pins s σ H Q I zq=>ex6 zq fun w r S hr hS hp=>zg pins s σ H Q I (hp.ret rfl hS)⟩
theorem kI {a:Expr} {ma:EM} (ha:SE X E a ma):SO' X E (some a) (jh ma):=⟨fun pins s σ H Q I zq=>ex6 zq fun w r S hr hS hp=>zh ha.out pins s σ H Q I
 ⟨w,r,S,hr,hS,hp.bind hS fun d S1 w1 H1 v x1 q1 s1 p1=>by
  cases d with
  | int i=>cases q1.int; exact ⟨i,rfl,p1.ret rfl s1⟩
  | _=>exact p1.elim⟩⟩
def xL (K:PySem.W.Frag) (E:XK) (f:Sto→D→Option Int→Option Int→Option D):V→Option Int→Option Int→Hp→VK→Prop:=fun x lo hi H Q=>∃ w S d,RS K w H S∧RD K w H d x∧aH K E (RD K) w H (R.of S (f S d lo hi)) Q
def eSl (f:Sto→D→Option Int→Option Int→Option D) (a:EM) (lo hi:OM):EM:=fun r S=>(a r S).bind fun x S1=>(lo r S1).bind fun l S2=>(hi r S2).bind fun u S3=>R.of S3 (f S3 x l u)
theorem uD {a:Expr} {ma:EM} {lo hi:Option Expr} {ml mh:OM} {p2 pos:Pos} {f:Sto→D→Option Int→Option Int→Option D} (hf:SlR X (xL X.K E f)) (ha:SE X E a ma) (hl:SO' X E lo ml) (hh:SO' X E hi mh):
  SE X E (.Subscript a (.Slice lo hi none p2) pos) (eSl f ma ml mh):=⟨
 bC (wV hf ha.out hl.out hh.out) fun s H Q zq=>ex6 zq fun w r S hr hS hp=>⟨w,r,S,hr,hS,hp.bind hS fun d S1 w1 H1 v x1 q1 s1 p1=>
  ⟨w1,r,S1,hr.ext x1,s1,p1.bind s1 fun l S2 w2 H2 l' x2 q2 s2 p2=>⟨w2,r,S2,(hr.ext x1).ext x2,s2,p2.bind s2 fun u S3 w3 H3 u' x3 q3 s3 p3=>by
   have e1:l'=l:=q2
   have e2:u'=u:=q3
   subst e1 e2
   exact ⟨w3,S3,d,s3,RD.ext x3 _ _ (RD.ext x2 _ _ q1),p3⟩⟩⟩⟩⟩
def kl:Sto→D→Option Int→Option Int→Option D
 | _,.tup a,lo,hi=>some (.tup (cutD a lo hi))
 | _,.lst a,lo,hi=>some (.lst (cutD a lo hi))
 | _,_,_,_=>none
theorem RDs.cut {K:PySem.W.Frag} {w:Wd} {H:Hp} {ds:List D} {vs:List V} (r:RDs K w H ds vs) (lo hi:Option Int):RDs K w H (cutD ds lo hi) (qu vs lo hi):=by
 unfold cutD qu
 rw [r.length]
 exact (r.drop _).take _
theorem oS:SlR X (xL X.K E kl):=by
 rintro pins s σ H x v vl vu lo hi sl Q I rx hs pl pu ⟨w,S,d,hS,qd,p⟩
 obtain ⟨z,hz,p'⟩:=p.of
 clear p
 unfold kl at hz
 split at hz
 ·rename_i a
  cases hz
  obtain ⟨pa,xs,rfl,za,ra⟩:=qd.tupI
  by_cases hw:HT.sIx xs.length 0 lo=0∧HT.sIx xs.length xs.length hi=xs.length
  ·cases rx
   obtain ⟨its,r,ht,hz⟩:=I.tuple (cR za)
   have hlen:its.toArray.size=xs.length:=by rw [List.size_toArray]; exact r.length.symm
   refine ⟨"tuple",_,PyProof.Rows.slot_tuple_getitem.lookup,ht.typeIs,?_⟩
   refine iI ht hs pl pu (by rw [hlen]; exact hw) ⟨.ref pa,H,I,rfl,?_⟩
   have e:cutD a lo hi=a:=by
    unfold cutD
    rw [← ra.length,hw.1,hw.2]
    rw [List.drop_zero,Nat.sub_zero,ra.length,List.take_length]
   rw [e] at p'
   exact p'.ret (jg za ra) hS
  ·exact BM pins s σ H _ v vl vu lo hi sl Q I rx hs pl pu ⟨pa,xs,rfl,cR za,hw,fun q hq=>p'.at (Ext.new hq) (RD.newTup hS hq (ra.cut lo hi)) (hS.new hq)⟩
 ·rename_i a
  cases hz
  obtain ⟨pa,xs,rfl,za,ra⟩:=qd.lstI
  exact zm pins s σ H _ v vl vu lo hi sl Q I rx hs pl pu ⟨pa,xs,rfl,SqL.of za.1,fun q hq=>p'.at (Ext.new hq) (RD.newLst hS hq (ra.cut lo hi)) (hS.new hq)⟩
 ·cases hz
def cn:Sto→List D→Option D
 | _,[.str x]=>if x.length≤sizeLine then some (.int x.length) else none
 | _,[.dic x]=>some (.int x.length)
 | S,[d]=>match dm S d with
  | some a=>some (.int a.length)
  | none=>match d with
   | .ref n=>match S[n]? with
    | some (.dic kvs)=>some (.int kvs.length)
    | _=>none
   | _=>none
 | _,_=>none
theorem RDk.length {K:PySem.W.Frag} {w:Wd} {H:Hp}:∀ {ds:List (Sum Int Str × D)} {vs:List (Key × V)},RDk K w H ds vs→vs.length=ds.length
 | [],_,h=>by unfold RDk at h; rw [h]; rfl
 | (k,d) :: ds,_,h=>by
  unfold RDk at h
  obtain ⟨v,r,rfl,_,q⟩:=h
  simp [RDk.length q]
theorem cU:cI X (.builtin "len") (xC X.K E cn):=by
 rintro pins s σ H xs us Q I r ⟨w,S,ds,hS,qs,p⟩
 obtain ⟨z,hz,p'⟩:=p.of
 clear p
 unfold cn at hz
 split at hz
 ·split at hz
  ·cases hz
   obtain ⟨v,rfl,q⟩:=qs.one_inv
   cases q.str
   exact oB pins s σ H _ us Q I r ⟨_,rfl,by assumption,p'.ret RD.mkI hS⟩
  ·cases hz
 ·cases hz
  obtain ⟨v,rfl,q⟩:=qs.one_inv
  unfold RD at q
  obtain ⟨a,uu,rfl,z,rk⟩:=q
  exact nv pins s σ H _ us Q I r ⟨_,_,rfl,z.1,by rw [rk.length]; exact p'.ret RD.mkI hS⟩
 ·obtain ⟨v,rfl,q⟩:=qs.one_inv
  split at hz
  ·rename_i a ha
   cases hz
   obtain ⟨pp,vs,rfl,sq,ra⟩:=sL hS q ha
   exact oA pins s σ H _ us Q I r ⟨pp,vs,rfl,sq,by rw [ra.length]; exact p'.ret RD.mkI hS⟩
  ·split at hz
   ·split at hz
    ·rename_i n kvs hn
     cases hz
     obtain ⟨pp,rfl,hp⟩:=q.refI
     obtain ⟨p2,hp2,vs,hv,rk⟩:=hS.obj _ _ hn
     rw [hp] at hp2; cases hp2
     exact nv pins s σ H _ us Q I r ⟨_,_,rfl,hv,by rw [rk.length]; exact p'.ret RD.mkI hS⟩
    ·cases hz
   ·cases hz
 ·cases hz
def xl:Sto→List D→Option D
 | _,[.int i,.int j]=>some (.int (if j > i then j else i))
 | _,_=>none
theorem B8 (hc:X.calm=true):cI X (.builtin "max") (xC X.K E xl):=by
 rintro pins s σ H xs us Q I r ⟨w,S,ds,hS,qs,p⟩
 obtain ⟨z,hz,p'⟩:=p.of
 clear p
 unfold xl at hz
 split at hz
 ·cases hz
  obtain ⟨v,u,rfl,q,q'⟩:=qs.two_inv
  cases q.int
  cases q'.int
  exact vH hc pins s σ H _ us Q I r ⟨_,_,rfl,p'.ret RD.mkI hS⟩
 ·cases hz
def xm:Sto→List D→Option D
 | _,[.int i,.int j]=>some (.int (if j < i then j else i))
 | _,_=>none
theorem B9 (hc:X.calm=true):cI X (.builtin "min") (xC X.K E xm):=by
 rintro pins s σ H xs us Q I r ⟨w,S,ds,hS,qs,p⟩
 obtain ⟨z,hz,p'⟩:=p.of
 clear p
 unfold xm at hz
 split at hz
 ·cases hz
  obtain ⟨v,u,rfl,q,q'⟩:=qs.two_inv
  cases q.int
  cases q'.int
  exact vI hc pins s σ H _ us Q I r ⟨_,_,rfl,p'.ret RD.mkI hS⟩
 ·cases hz
def kJ:Sto→List D→Option D
 | _,[.int i,.int j]=>if 0 < j∧j < 1073741824 then some (.tup [.int (i / j),.int (i % j)]) else none
 | _,_=>none
theorem vW:cI X (.builtin "divmod") (xC X.K E kJ):=by
 rintro pins s σ H xs us Q I r ⟨w,S,ds,hS,qs,p⟩
 obtain ⟨z,hz,p'⟩:=p.of
 clear p
 unfold kJ at hz
 split at hz
 ·split at hz
  ·cases hz
   obtain ⟨v,u,rfl,q,q'⟩:=qs.two_inv
   cases q.int
   cases q'.int
   exact qp pins s σ H _ us Q I r ⟨_,_,rfl,by assumption,fun t ht=>p'.at (Ext.new ht) (RD.newTup hS ht (.cons RD.mkI (.cons RD.mkI .nil))) (hS.new ht)⟩
  ·cases hz
 ·cases hz
def fj:Sto→List D→Option D
 | _,[.tup a]=>some (.tup a)
 | S,[d]=>(dm S d).map .tup
 | _,_=>none
theorem gb:cI X (.type "tuple") (xC X.K E fj):=by
 rintro pins s σ H xs us Q I r ⟨w,S,ds,hS,qs,p⟩
 obtain ⟨z,hz,p'⟩:=p.of
 clear p
 unfold fj at hz
 split at hz
 ·cases hz
  obtain ⟨v,rfl,q⟩:=qs.one_inv
  obtain ⟨pa,vs,rfl,za,ra⟩:=q.tupI
  exact iL pins s σ H _ us Q I r ⟨pa,vs,rfl,.inr ⟨cR za,p'.ret (jg za ra) hS⟩⟩
 ·rename_i d hd
  obtain ⟨v,rfl,q⟩:=qs.one_inv
  cases ha:dm S d with
  | none=>rw [ha] at hz; cases hz
  | some a=>
   rw [ha] at hz
   cases hz
   have hq:∃ pa vs,v=.ref pa∧SqL X.K H pa vs∧RDs X.K w H a vs:=by
    unfold dm at ha
    split at ha
    ·exact (hd _ rfl).elim
    ·cases ha; obtain ⟨p,vs,e,z,r⟩:=q.lstI; exact ⟨p,vs,e,SqL.of z.1,r⟩
    ·cases ha; obtain ⟨p,vs,e,z,r⟩:=q.fzI; exact ⟨p,vs,e,z.sq,r⟩
    ·split at ha
     ·rename_i n b hn
      cases ha
      obtain ⟨p,e,hp⟩:=q.refI
      obtain ⟨p2,hp2,vs,hv,rk⟩:=hS.obj _ _ hn
      rw [hp] at hp2; cases hp2
      exact ⟨p,vs,e,SqL.of hv,rk⟩
     ·rename_i n b hn
      cases ha
      obtain ⟨p,e,hp⟩:=q.refI
      obtain ⟨p2,hp2,o,vs,hv,rk⟩:=hS.obj _ _ hn
      rw [hp] at hp2; cases hp2
      exact ⟨p,vs,e,.inl (.inr ⟨o,hv⟩),rk⟩
     ·cases ha
    ·cases ha
   obtain ⟨pa,vs,rfl,sq,ra⟩:=hq
   exact iL pins s σ H _ us Q I r ⟨pa,vs,rfl,.inl ⟨sq,fun t ht=>p'.at (Ext.new ht) (RD.newTup hS ht ra) (hS.new ht)⟩⟩
 ·cases hz
end
end PD
namespace PD
open PySem PySem.Spec PyProof.Rows L2
section
variable {X:Cx} {E:XK}
def boolsOf:List D→Option (List Bool)
 | []=>some []
 | .bl b :: r=>(boolsOf r).map (b :: ·)
 | _ :: _=>none
def mS:Sto→List D→Option D
 | _,[.lst a]=>(boolsOf a).map fun bs=>.bl (bs.all id)
 | _,_=>none
theorem qN {K:PySem.W.Frag} {w:Wd} {H:Hp}:∀ {ds:List D} {vs:List V} {us:List Value} {bs:List Bool},RDs K w H ds vs→Vals vs us→boolsOf ds=some bs→LSm.BoolsAre us bs
 | [],_,_,_,q,r,h=>by
  rw [q.nil_inv] at r
  cases r
  unfold boolsOf at h
  cases h
  exact .nil
 | d :: ds,_,_,bs,q,r,h=>by
  obtain ⟨v,vs,rfl,p,t⟩:=q.cons_inv
  cases d with
  | bl b=>
   unfold boolsOf at h
   cases e:boolsOf ds with
   | none=>rw [e] at h; cases h
   | some cs=>
    rw [e] at h; cases h
    cases p.bl
    cases r with
    | cons r1 r2=>
     cases r1
     exact .cons b (qN t r2 e)
  | _=>unfold boolsOf at h; cases h
theorem sM (hc:X.calm=true):cI X (.builtin "all") (xC X.K E mS):=by
 rintro pins s σ H xs us Q I r ⟨w,S,ds,hS,qs,p⟩
 obtain ⟨z,hz,p'⟩:=p.of
 clear p
 unfold mS at hz
 split at hz
 ·rename_i a
  cases e:boolsOf a with
  | none=>rw [e] at hz; cases hz
  | some bs=>
   rw [e] at hz; cases hz
   obtain ⟨v,rfl,q⟩:=qs.one_inv
   obtain ⟨pa,vs,rfl,za,ra⟩:=q.lstI
   obtain ⟨u,rfl,ru⟩:=vals1 r
   cases ru
   obtain ⟨its,r1,⟨o,n,ho,hcl,hdn,hd⟩,_⟩:=I.list (SqL.of za.1)
   have hb:=qN ra r1 e
   have hlt:pa < s.heap.objs.size:=Heap.lt_size ho
   have hl:s.heap.IsList pa its.toArray:=⟨o,ho,hcl,n,hd⟩
   refine call_all_walk (wpAny_pyIter_list hl ?_)
   refine ⟨s.heap.objs.size,[s.heap.objs.size,pa],[s.heap.objs.size],its.toArray.size,_,_,fun i=>(bs[i]?).getD true,rfl,Walks.list (A:=X.A.in1) (I.ok.hd hc) _ pa (Nat.ne_of_lt hlt) its.toArray,
    ⟨⟨_,Heap.get?_push_size _ rfl,rfl,rfl⟩,hl.push _⟩,fun i v s' Q' E' hP hQ=>?_,fun h' tk hk=>?_⟩
   ·obtain ⟨b,e,rfl⟩:=hb.get i v (by simpa using hP)
    simp only [e,Option.getD_some] at hQ
    exact wpAny_truthy_bool hQ
   ·have e:((List.range its.toArray.size).all fun i=>(bs[i]?).getD true)=bs.all id:=by
     rw [List.size_toArray,hb.length]; exact LSm.range_all bs
    rw [e]
    exact ⟨.bl _,H,I.kept (LSm.kept_iter hk),rfl,p'.ret RD.mkB hS⟩
 ·cases hz
def tyD (S:Sto):D→Option String
 | .non=>some "NoneType"
 | .bl _=>some "bool"
 | .int _=>some "int"
 | .str _=>some "str"
 | .tup _=>some "tuple"
 | .lst _=>some "list"
 | .fz _=>none
 | .dic _=>some "dict"
 | .ref n=>match S[n]? with
  | some (.lst _)=>some "list"
  | some (.dic _)=>some "dict"
  | _=>none
 | .ty _=>none
 | .exc _=>none
 | .cls _=>none
def gA:List String:=["int","bool","tuple","str","list","dict"]
def gS:Sto→List D→Option D
 | S,[d,.ty T]=>match tyD S d with
  | some t=>if T ∈ gA then some (.bl (t == T || (t == "bool" && T == "int"))) else none
  | none=>none
 | _,_=>none
theorem xn (K:PySem.W.Frag) {t T:String} (ht:t ∈ ["NoneType","bool","int","str","tuple","list","dict"]) (hT:T ∈ gA):PySem.W.kitOne K (.type t) (.type T)=some (t == T || (t == "bool" && T == "int")):=by
 unfold gA at hT
 simp only [List.mem_cons,List.not_mem_nil,or_false] at ht hT
 rcases ht with rfl | rfl | rfl | rfl | rfl | rfl | rfl <;> rcases hT with rfl | rfl | rfl | rfl | rfl | rfl <;> first | rfl | (with_unfolding_all rfl) | (unfold PySem.W.kitOne PySem.W.kitCls; with_unfolding_all decide)
theorem zA {K:PySem.W.Frag} {w:Wd} {H:Hp} {S:Sto} {d:D} {v:V} {t:String} (hS:RS K w H S) (q:RD K w H d v) (h:tyD S d=some t) (hk:∀ a vs,¬ qG K a vs ∨ True):
  (L2.TyOf K H v (.type t) ∨ ∃ a vs,v=.ref a∧t = "tuple"∧qG K a vs)∧t ∈ ["NoneType","bool","int","str","tuple","list","dict"]:=by
 cases d with
 | non=>cases q.non; cases h; exact ⟨.inl .non,by simp⟩
 | bl b=>cases q.bl; cases h; exact ⟨.inl (.bl b),by simp⟩
 | int i=>cases q.int; cases h; exact ⟨.inl (.int i),by simp⟩
 | str x=>cases q.str; cases h; exact ⟨.inl (.str x),by simp⟩
 | tup ds=>
  obtain ⟨p,vs,rfl,z,_⟩:=q.tupI
  cases h
  refine ⟨?_,by simp⟩
  rcases z with z | z
  ·exact .inl (.tup z.1)
  ·exact .inr ⟨p,vs,rfl,rfl,z⟩
 | lst ds=>obtain ⟨p,vs,rfl,z,_⟩:=q.lstI; cases h; exact ⟨.inl (.lst z.1),by simp⟩
 | fz ds=>cases h
 | dic kvs=>unfold RD at q; obtain ⟨p,us,rfl,z,_⟩:=q; cases h; exact ⟨.inl (.dK z.1),by simp⟩
 | ref n=>
  obtain ⟨p,rfl,hp⟩:=q.refI
  unfold tyD at h
  simp only at h
  cases e:S[n]? with
  | none=>rw [e] at h; cases h
  | some o=>
   rw [e] at h
   obtain ⟨p',hp',r⟩:=hS.obj n o e
   rw [hp] at hp'; cases hp'
   cases o with
   | lst a=>cases h; obtain ⟨vs,hv,_⟩:=r; exact ⟨.inl (.lst hv),by simp⟩
   | dic a=>cases h; obtain ⟨vs,hv,_⟩:=r; exact ⟨.inl (.dK hv),by simp⟩
   | fdic a=>cases h
   | ins c fs=>cases h
   | flst a=>cases h
 | ty n=>cases h
 | exc c=>cases h
 | cls c=>cases h
theorem lu:cI X (.builtin "isinstance") (xC X.K E gS):=by
 rintro pins s σ H xs us Q I r ⟨w,S,ds,hS,qs,p⟩
 obtain ⟨z,hz,p'⟩:=p.of
 clear p
 unfold gS at hz
 split at hz
 ·rename_i d T
  split at hz
  ·rename_i t ht
   split at hz
   ·rename_i hT
    cases hz
    obtain ⟨v,u,rfl,q,q'⟩:=qs.two_inv
    unfold RD at q'
    subst q'
    obtain ⟨v1,v2,rfl,rv,rt⟩:=vals2 r
    cases (show v2=Value.type T from rt)
    obtain ⟨ty,hm⟩:=zA hS q ht fun _ _=>.inr trivial
    have kk:=xn X.K hm hT
    rcases ty with ty | ⟨a,vs,rfl,rfl,kt⟩
    ·exact vK I rv ty kk fun tk=>⟨.bl _,H,I.tok tk,rfl,p'.ret RD.mkB hS⟩
    ·cases (show v1=Value.ref a from rv)
     obtain ⟨o,its,n,e,hcl,_⟩:=kt
     exact PySem.W.kia_one PySem.W.kitx_tuple I.kIn ⟨o,I.kIn _ _ e,hcl⟩ kk (fun z=>nomatch z) fun tk=>⟨.bl _,H,I.tok tk,rfl,p'.ret RD.mkB hS⟩
   ·cases hz
  ·cases hz
 ·cases hz
def xo:Sto→D→D→D→Option Sto
 | S,.ref n,.int i,v=>match S[n]? with
  | some (.lst a)=>(ixN a.length i).map fun j=>S.set n (.lst (a.set j v))
  | _=>none
 | _,_,_,_=>none
theorem xp:ou X (xS X.K xo):=by
 rintro pins s σ H o i v ov iv u Q I ro ri ru ⟨w,S,x,y,z,S',hS,qx,qy,qz,hf,k⟩
 unfold xo at hf
 split at hf
 ·rename_i n j
  split at hf
  ·rename_i a hn
   cases e:ixN a.length j with
   | none=>rw [e] at hf; cases hf
   | some m=>
    rw [e] at hf; cases hf
    obtain ⟨p,rfl,hp⟩:=qx.refI
    cases qy.int
    obtain ⟨p',hp',vs,hv,ra⟩:=hS.obj _ _ hn
    rw [hp] at hp'; cases hp'
    have hm:p ∈ w.st:=List.mem_of_getElem? hp
    refine set_list pins s σ H _ _ _ ov iv u Q I ro ri ru ⟨p,vs,j,m,rfl,rfl,hv,by rw [ra.length]; exact e,k w _ (Ext.mut hm hv) ?_⟩
    exact hS.mut hp hv ⟨_,aI,RDs.ext (Ext.mut hm hv) _ _ (RDs.set qz m ra)⟩
  ·cases hf
 ·cases hf
def xM (K:PySem.W.Frag) (E:XK) (f:Sto→D→List D→R D):V→List V→Hp→VK→Prop:=fun x xs H Q=>∃ w S d ds,RS K w H S∧RD K w H d x∧RDs K w H ds xs∧aH K E (RD K) w H (f S d ds) Q
def isL (S:Sto):D→Bool
 | .lst _=>true
 | .fz _=>true
 | .ref n=>match S[n]? with
  | some (.lst _)=>true
  | _=>false
 | _=>false
theorem Ca {K:PySem.W.Frag} {w:Wd} {H:Hp} {S:Sto} {d:D} {v:V} (hS:RS K w H S) (q:RD K w H d v) (h:isL S d=true):tyV K "list" v H:=by
 cases d with
 | lst ds=>obtain ⟨p,vs,rfl,z,_⟩:=q.lstI; exact .inl ⟨rfl,vs,SqL.of z.1⟩
 | fz ds=>obtain ⟨p,vs,rfl,z,_⟩:=q.fzI; exact .inl ⟨rfl,vs,z.sq⟩
 | ref n=>
  obtain ⟨p,rfl,hp⟩:=q.refI
  unfold isL at h
  simp only at h
  cases e:S[n]? with
  | none=>rw [e] at h; cases h
  | some o=>
   rw [e] at h
   cases o with
   | lst a=>
    obtain ⟨p',hp',vs,hv,_⟩:=hS.obj n _ e
    rw [hp] at hp'; cases hp'
    exact .inl ⟨rfl,vs,SqL.of hv⟩
   | _=>cases h
 | _=>cases h
def mT (f:Sto→D→List D→R D) (o:EM) (t:AM):EM:=fun r S=>(o r S).bind fun x S1=>if isL S1 x=true then (t r S1).bind fun ys S2=>f S2 x ys else .bad
theorem sN {o e:Expr} {es:List Expr} {mo:EM} {ms:AM} {name:Str} {apos cpos:Pos} {id:String} {f:Sto→D→List D→R D} (pa:PlainAttrs "list") (slot:Slot "list" name id) (hty:typeOf (.builtin id)=pure (.type "method_descriptor")) (hm:MtR X id (xM X.K E f))
  (ho:SE X E o mo) (ha:SA X E (e :: es) ms) (hbase:autoParam (attributeBase o name X.env (eval o X.env)=eval o X.env) Au.h0._auto_1)
  (hfew:autoParam (((backTo cpos (starEach (e :: es) X.env)).all (fun x=>!x.1) && (backToKw cpos (keywordEach [] X.env)).all (fun x=>x.1.isSome)
   && decide ((e :: es).length + ([]:List Keyword).length + (if ([]:List Keyword).isEmpty then 0 else 1) < 30))=true) Au.h0._auto_1)
  (hline:autoParam ((apos.endLine == cpos.line)=true) Au.h0._auto_1) (hs:autoParam (starEach (e :: es) X.env=(false,eval e X.env) :: starEach es X.env) Au.h0._auto_1) (hplain:autoParam ((backTo cpos (starEach es X.env)).any (·.1)=false) Au.h0._auto_1):
  SE X E (.Call (.Attribute o name apos) (e :: es) [] cpos) (mT f mo ms):=⟨
 bC (Dy pa slot hty hm ho.out ha.out hbase hfew hline hs hplain) fun s H Q zq=>ex6 zq fun w r S hr hS hp=>⟨w,r,S,hr,hS,hp.bind hS fun d S1 w1 H1 v x1 q1 s1 p1=>by
  by_cases hl:isL S1 d=true
  ·rw [if_pos hl] at p1
   exact ⟨Ca s1 q1 hl,w1,r,S1,hr.ext x1,s1,p1.bind s1 fun ds S2 w2 H2 us x2 q2 s2 p2=>⟨w2,S2,d,ds,s2,RD.ext x2 _ _ q1,q2,p2⟩⟩
  ·rw [if_neg hl] at p1
   exact p1.elim⟩⟩
def eV:Sto→D→List D→R D
 | S,.ref n,[v]=>match S[n]? with
  | some (.lst a)=>if a.length < sizeLine then .ok .non (S.set n (.lst (a ++ [v]))) else .bad
  | _=>.bad
 | _,_,_=>.bad
theorem nz:MtR X "list.append" (xM X.K E eV):=by
 rintro pins s σ H x xs v us Q I rx rs ⟨w,S,d,ds,hS,qd,qs,p⟩
 unfold eV at p
 split at p
 ·rename_i n y
  split at p
  ·rename_i a hn
   split at p
   ·rename_i hl
    obtain ⟨pp,rfl,hp⟩:=qd.refI
    obtain ⟨yv,rfl,qy⟩:=qs.one_inv
    obtain ⟨p',hp',vs,hv,ra⟩:=hS.obj _ _ hn
    rw [hp] at hp'; cases hp'
    have hm:pp ∈ w.st:=List.mem_of_getElem? hp
    refine nq pins s σ H _ _ v us Q I rx rs ⟨pp,vs,yv,rfl,rfl,hv,by rw [ra.length]; exact hl,p.at (Ext.mut hm hv) (by unfold RD; rfl) ?_⟩
    exact hS.mut hp hv ⟨_,aI,RDs.ext (Ext.mut hm hv) _ _ (ra.append (.cons qy .nil))⟩
   ·exact p.elim
  ·exact p.elim
 ·exact p.elim
end
end PD
namespace PD
open PySem PySem.Spec PyProof.Rows L2
def AZ:Sum Int Str→PyData
 | .inl i=>.int i
 | .inr x=>.str x
mutual
def toPy:D→Option PyData
 | .non=>some .none
 | .bl b=>some (.bool b)
 | .int i=>some (.int i)
 | .str x=>some (.str x)
 | .tup ds=>(hJ ds).map .tuple
 | .lst ds=>(hJ ds).map .list
 | .dic kvs=>(lx kvs).map .dict
 | .fz _=>none
 | .ref _=>none
 | .ty _=>none
 | .exc _=>none
 | .cls _=>none
def hJ:List D→Option (List PyData)
 | []=>some []
 | d :: ds=>match toPy d,hJ ds with
  | some p,some q=>some (p :: q)
  | _,_=>none
def lx:List (Sum Int Str × D)→Option (List (PyData × PyData))
 | []=>some []
 | (k,d) :: r=>match toPy d,lx r with
  | some p,some q=>some ((AZ k,p) :: q)
  | _,_=>none
end
mutual
def noL:D→Bool
 | .tup ds=>zB ds
 | .lst _=>false
 | .dic kvs=>zC kvs
 | _=>true
def zB:List D→Bool
 | []=>true
 | d :: ds=>noL d && zB ds
def zC:List (Sum Int Str × D)→Bool
 | []=>true
 | (_,d) :: r=>noL d && zC r
end
section
variable {X:Cx} {E:XK}
mutual
theorem gc {pins:List (Addr × Obj)} {σ:L2.St} {H:Hp} {s:Shared} {w:Wd} (I:Inv X pins σ H s):∀ (d:D) (v:V) (u:Value) (p:PyData),RD X.K w H d v→RelV v u→toPy d=some p→∃ as,Reads s.heap u p as∧(noL d=true→sysModules ∉ as)
 | .non,v,u,p,q,r,h=>by cases q.non; cases (show u=Value.none from r); unfold toPy at h; cases h; exact ⟨_,.none,fun _ z=>nomatch z⟩
 | .bl b,v,u,p,q,r,h=>by cases q.bl; cases (show u=Value.bool b from r); unfold toPy at h; cases h; exact ⟨_,.bool b,fun _ z=>nomatch z⟩
 | .int i,v,u,p,q,r,h=>by cases q.int; obtain ⟨t,rfl⟩:=(show ∃ t,u=Value.int i t from r); unfold toPy at h; cases h; exact ⟨_,.int i t,fun _ z=>nomatch z⟩
 | .str x,v,u,p,q,r,h=>by cases q.str; obtain ⟨t,rfl⟩:=(show ∃ t,u=Value.str x t from r); unfold toPy at h; cases h; exact ⟨_,.str x t,fun _ z=>nomatch z⟩
 | .tup ds,v,u,p,q,r,h=>by
  obtain ⟨a,vs,rfl,z,rs⟩:=q.tupI
  cases (show u=Value.ref a from r)
  unfold toPy at h
  cases e:hJ ds with
  | none=>rw [e] at h; cases h
  | some ps=>
   rw [e] at h; cases h
   obtain ⟨its,r1,⟨o,ho,hc,n,hd⟩,_⟩:=I.tuple (cR z)
   obtain ⟨as,ra,hn⟩:=jL I ds vs its ps rs r1 e
   exact ⟨as,.tuple ho hc hd ra,fun z=>hn (by unfold noL at z; exact z)⟩
 | .lst ds,v,u,p,q,r,h=>by
  obtain ⟨a,vs,rfl,z,rs⟩:=q.lstI
  cases (show u=Value.ref a from r)
  unfold toPy at h
  cases e:hJ ds with
  | none=>rw [e] at h; cases h
  | some ps=>
   rw [e] at h; cases h
   obtain ⟨its,r1,⟨o,n,ho,hc,_,hd⟩,_⟩:=I.list (SqL.of z.1)
   obtain ⟨as,ra,hn⟩:=jL I ds vs its ps rs r1 e
   exact ⟨a :: as,.list ho hc hd ra,fun z=>by unfold noL at z; cases z⟩
 | .dic kvs,v,u,p,q,r,h=>by
  unfold RD at q
  obtain ⟨a,us,rfl,z,rk⟩:=q
  cases (show u=Value.ref a from r)
  unfold toPy at h
  cases e:lx kvs with
  | none=>rw [e] at h; cases h
  | some ps=>
   rw [e] at h; cases h
   obtain ⟨_,hsys,vs,kv,o,es,ep,ho,hex,hd,_,hp,_⟩:=(show bF X.prog X.w H s.heap a (.dK us) from I.hok a _ z.1)
   obtain ⟨as,bs,ra,rb,hn⟩:=nC I kvs us vs es.toList ps rk kv hp e
   refine ⟨a :: as ++ bs,.dict ho hex.1 hd ra rb,fun z=>?_⟩
   unfold noL at z
   intro hm
   rcases List.mem_append.mp hm with hm | hm
   ·rcases List.mem_cons.mp hm with hm | hm
    ·rw [← hm] at hsys; simp at hsys
    ·exact (hn z).1 hm
   ·exact (hn z).2 hm
 | .fz _,_,_,_,_,_,h=>by unfold toPy at h; cases h
 | .ref _,_,_,_,_,_,h=>by unfold toPy at h; cases h
 | .ty _,_,_,_,_,_,h=>by unfold toPy at h; cases h
 | .exc _,_,_,_,_,_,h=>by unfold toPy at h; cases h
 | .cls _,_,_,_,_,_,h=>by unfold toPy at h; cases h
theorem jL {pins:List (Addr × Obj)} {σ:L2.St} {H:Hp} {s:Shared} {w:Wd} (I:Inv X pins σ H s):∀ (ds:List D) (vs:List V) (us:List Value) (ps:List PyData),RDs X.K w H ds vs→Vals vs us→hJ ds=some ps→∃ as,ReadsAll s.heap us ps as∧(zB ds=true→sysModules ∉ as)
 | [],vs,us,ps,q,r,h=>by
  rw [q.nil_inv] at r
  cases r
  unfold hJ at h
  cases h
  exact ⟨_,.nil,fun _ z=>nomatch z⟩
 | d :: ds,_,us,ps,q,r,h=>by
  obtain ⟨v,vs,rfl,p,t⟩:=q.cons_inv
  unfold hJ at h
  cases e1:toPy d with
  | none=>rw [e1] at h; cases h
  | some p1=>
   cases e2:hJ ds with
   | none=>rw [e1,e2] at h; cases h
   | some p2=>
    rw [e1,e2] at h; cases h
    cases r with
    | cons r1 r2=>
     obtain ⟨as,ra,h1⟩:=gc I d v _ p1 p r1 e1
     obtain ⟨bs,rb,h2⟩:=jL I ds vs _ p2 t r2 e2
     refine ⟨as ++ bs,.cons ra rb,fun z=>?_⟩
     unfold zB at z
     rw [Bool.and_eq_true] at z
     intro hm
     rcases List.mem_append.mp hm with hm | hm
     ·exact h1 z.1 hm
     ·exact h2 z.2 hm
theorem nC {pins:List (Addr × Obj)} {σ:L2.St} {H:Hp} {s:Shared} {w:Wd} (I:Inv X pins σ H s):∀ (ds:List (Sum Int Str × D)) (us:List (Key × V)) (vs:List (Key × Value)) (es:List DictEntry) (ps:List (PyData × PyData)),RDk X.K w H ds us→KV us vs→Pairs (aX X.prog X.w) es vs→lx ds=some ps→
  ∃ as bs,ReadsAll s.heap (es.map (·.key)) (ps.map (·.1)) as∧ReadsAll s.heap (es.map (·.val)) (ps.map (·.2)) bs∧(zC ds=true→sysModules ∉ as∧sysModules ∉ bs)
 | [],us,vs,es,ps,q,r,hp,h=>by
  unfold RDk at q
  subst q
  cases r
  unfold lx at h
  cases h
  cases hp
  exact ⟨_,_,.nil,.nil,fun _=>⟨(fun z=>nomatch z),(fun z=>nomatch z)⟩⟩
 | (k,d) :: ds,us,vs,es,ps,q,r,hp,h=>by
  unfold RDk at q
  obtain ⟨v,ur,rfl,p,t⟩:=q
  unfold lx at h
  cases e1:toPy d with
  | none=>rw [e1] at h; cases h
  | some p1=>
   cases e2:lx ds with
   | none=>rw [e1,e2] at h; cases h
   | some p2=>
    rw [e1,e2] at h; cases h
    cases r with
    | cons r1 r2=>
     cases hp with
     | cons hk hv hr=>
      rename_i q0 vr e0 es0
      obtain ⟨k',v'⟩:=q0
      obtain ⟨ek,rv⟩:=r1
      have ek':k=k':=ek
      subst ek'
      obtain ⟨as,ra,h1⟩:=gc I d v _ p1 p rv e1
      obtain ⟨as2,bs2,ra2,rb2,h2⟩:=nC I ds ur vr es0 p2 t r2 hr e2
      have hkey:∃ cs,Reads s.heap e0.key (AZ k) cs∧cs=[]:=by
       rcases bN hk with ⟨i,tk,z1,z2⟩ | ⟨x,tk,z1,z2⟩
       ·have z1':k=Sum.inl i:=z1
        subst z1'
        rw [z2]
        exact ⟨_,.int i tk,rfl⟩
       ·have z1':k=Sum.inr x:=z1
        subst z1'
        rw [z2]
        exact ⟨_,.str x tk,rfl⟩
      obtain ⟨cs,rc,ec⟩:=hkey
      subst ec
      have hv':e0.val=v':=hv
      refine ⟨[] ++ as2,as ++ bs2,.cons rc ra2,.cons (by show Reads s.heap e0.val p1 as; rw [hv']; exact ra) rb2,fun z=>?_⟩
      unfold zC at z
      rw [Bool.and_eq_true] at z
      refine ⟨by rw [List.nil_append]; exact (h2 z.2).1,fun hm=>?_⟩
      rcases List.mem_append.mp hm with hm | hm
      ·exact h1 z.1 hm
      ·exact (h2 z.2).2 hm
end
end
end PD
namespace PD
open PySem PySem.Spec PyProof.Rows L2
section
variable {K:PySem.W.Frag} {w:Wd} {H:Hp}
structure Mv (w:Wd) (H:Hp) (w2:Wd) (H2:Hp):Prop where
 st:∀ (n:Nat) (a:Addr),w.st[n]?=some a→w2.st[n]?=some a
 at_:∀ a o,At w H a o→At w2 H2 a o
mutual
theorem RD.mv {w2:Wd} {H2:Hp} (x:Mv w H w2 H2):∀ (d:D) (v:V),RD K w H d v→RD K w2 H2 d v
 | .non,_,h=>h
 | .bl _,_,h=>h
 | .int _,_,h=>h
 | .str _,_,h=>h
 | .tup ds,v,h=>by
  unfold RD at h ⊢
  obtain ⟨a,vs,e,p,r⟩:=h
  exact ⟨a,vs,e,p.imp (x.at_ _ _) id,RDs.mv x ds vs r⟩
 | .lst ds,v,h=>by
  unfold RD at h ⊢
  obtain ⟨a,vs,e,p,r⟩:=h
  exact ⟨a,vs,e,x.at_ _ _ p,RDs.mv x ds vs r⟩
 | .fz ds,v,h=>by
  unfold RD at h ⊢
  obtain ⟨a,vs,e,p,r⟩:=h
  exact ⟨a,vs,e,p.imp (fun ⟨o,z⟩=>⟨o,x.at_ _ _ z⟩) id,RDs.mv x ds vs r⟩
 | .dic kvs,v,h=>by
  unfold RD at h ⊢
  obtain ⟨a,us,e,p,r⟩:=h
  exact ⟨a,us,e,x.at_ _ _ p,RDk.mv x kvs us r⟩
 | .ref n,v,h=>by
  unfold RD at h ⊢
  obtain ⟨a,e,p⟩:=h
  exact ⟨a,e,x.st n a p⟩
 | .ty _,_,h=>h
 | .exc c,v,h=>by
  unfold RD at h ⊢
  obtain ⟨a,C,o,e,q,p⟩:=h
  exact ⟨a,C,o,e,q,x.at_ _ _ p⟩
 | .cls _,_,h=>h
theorem RDs.mv {w2:Wd} {H2:Hp} (x:Mv w H w2 H2):∀ (ds:List D) (vs:List V),RDs K w H ds vs→RDs K w2 H2 ds vs
 | [],_,h=>h
 | d :: ds,vs,h=>by
  unfold RDs at h ⊢
  obtain ⟨v,r,e,p,q⟩:=h
  exact ⟨v,r,e,RD.mv x d v p,RDs.mv x ds r q⟩
theorem RDk.mv {w2:Wd} {H2:Hp} (x:Mv w H w2 H2):∀ (ds:List (Sum Int Str × D)) (vs:List (Key × V)),RDk K w H ds vs→RDk K w2 H2 ds vs
 | [],_,h=>h
 | (k,d) :: ds,vs,h=>by
  unfold RDk at h ⊢
  obtain ⟨v,r,e,p,q⟩:=h
  exact ⟨v,r,e,RD.mv x d v p,RDk.mv x ds r q⟩
end
theorem RO.mv {w2:Wd} {H2:Hp} (x:Mv w H w2 H2) {a:Addr} {o:SO} (hk:∀ u,H a=some u→H2 a=some u) (r:RO K w H a o):RO K w2 H2 a o:=by
 cases o with
 | lst ds=>obtain ⟨vs,e,q⟩:=r; exact ⟨vs,hk _ e,RDs.mv x _ _ q⟩
 | dic kvs=>obtain ⟨vs,e,q⟩:=r; exact ⟨vs,hk _ e,RDk.mv x _ _ q⟩
 | fdic kvs=>obtain ⟨o,vs,e,q⟩:=r; exact ⟨o,vs,hk _ e,RDk.mv x _ _ q⟩
 | ins c fs=>obtain ⟨C,dx,us,n,e,q1,q2⟩:=r; exact ⟨C,dx,us,n,hk _ e,q1,RDs.mv x _ _ q2⟩
 | flst ds=>obtain ⟨o,vs,e,q⟩:=r; exact ⟨o,vs,hk _ e,RDs.mv x _ _ q⟩
theorem RSt.mv {w2:Wd} {H2:Hp} {r:Rho} {s:L2.St} (x:Mv w H w2 H2) (h:RSt K w H r s):RSt K w2 H2 r s:=
 ⟨h.1,fun i d e=>let ⟨v,e1,q⟩:=h.2 i d e; ⟨v,e1,RD.mv x d v q⟩⟩
theorem Ext.hide {p:Addr} {o:HO} (hp:H p=none):Ext w H (w.hide p) (upd H p o):=
 ⟨fun a u e _=>by rw [aG (aQ e hp)]; exact e,⟨[],by simp [Wd.hide],fun _ z=>nomatch z⟩,fun a h=>List.mem_cons_of_mem _ h,fun a h=>(List.mem_cons.mp h).elim (fun e=>.inr (e ▸ hp)) .inl,fun a o u e=>by rw [aG (aQ e hp)]; exact e⟩
def Wd.unhide (w:Wd) (p:Addr):Wd:=⟨w.st,w.hid.filter fun a=>decide (a ≠ p)⟩
theorem Wd.mem_unhide {p a:Addr} (h:a ∈ (w.unhide p).hid):a ∈ w.hid∧a ≠ p:=⟨(List.mem_filter.mp h).1,of_decide_eq_true (List.mem_filter.mp h).2⟩
theorem Mv.write {p:Addr} {o:HO} (hp:p ∈ w.hid):Mv w H w (upd H p o):=
 ⟨fun _ _ z=>z,fun a u h=>⟨by rw [aG (fun z:a=p=>h.2.2 (z ▸ hp))]; exact h.1,h.2⟩⟩
theorem Mv.unhide {p:Addr}:Mv w H (w.unhide p) H:=
 ⟨fun _ _ z=>z,fun a u h=>⟨h.1,h.2.1,fun z=>h.2.2 (Wd.mem_unhide z).1⟩⟩
theorem RS.hide {p:Addr} {o:HO} {S:Sto} (s:RS K w H S) (hp:H p=none):RS K (w.hide p) (upd H p o) S:=by
 refine ⟨s.nd,s.len,fun n so e=>?_,fun a ha=>?_⟩
 ·obtain ⟨a,ha,r⟩:=s.obj n so e
  exact ⟨a,ha,r.ext (Ext.hide hp) fun u z=>by rw [aG (aQ z hp)]; exact z⟩
 ·rcases List.mem_cons.mp ha with z | z
  ·subst z; exact ⟨s.freshS hp,o,aI⟩
  ·obtain ⟨h1,u,e⟩:=s.hid a z
   exact ⟨h1,u,by rw [aG (aQ e hp)]; exact e⟩
theorem RS.write {p:Addr} {o:HO} {S:Sto} (s:RS K w H S) (hp:p ∈ w.hid):RS K w (upd H p o) S:=by
 have np:=(s.hid p hp).1
 refine ⟨s.nd,s.len,fun n so e=>?_,fun a ha=>?_⟩
 ·obtain ⟨a,ha,r⟩:=s.obj n so e
  have:a ≠ p:=fun z=>np (z ▸ List.mem_of_getElem? ha)
  exact ⟨a,ha,r.mv (Mv.write hp) fun u z=>by rw [aG this]; exact z⟩
 ·obtain ⟨h1,u,e⟩:=s.hid a ha
  by_cases z:a=p
  ·subst z; exact ⟨h1,o,aI⟩
  ·exact ⟨h1,u,by rw [aG z]; exact e⟩
theorem RS.unhide {p:Addr} {S:Sto} (s:RS K w H S):RS K (w.unhide p) H S:=
 ⟨s.nd,s.len,fun n so e=>by
  obtain ⟨a,ha,r⟩:=s.obj n so e
  exact ⟨a,ha,r.mv Mv.unhide fun u z=>z⟩,fun a ha=>s.hid a (Wd.mem_unhide ha).1⟩
theorem zD {r:Rho} {s:L2.St} (k:Nat) (caps:List Nat) (h:RSt K w H r s):RSt K w H (fy k caps r) (lh k caps s):=by
 unfold fy lh
 refine ⟨by simp,fun i d e=>?_⟩
 by_cases hi:i < k
 ·rw [List.getElem?_append_left (by simpa using hi),List.getElem?_replicate] at e
  split at e <;> cases e
 ·rw [List.getElem?_append_right (by simpa using hi),List.getElem?_map,List.length_replicate] at e
  rw [List.getElem?_append_right (by simpa using hi),List.getElem?_map,List.length_replicate]
  cases ec:caps[i - k]? with
  | none=>rw [ec] at e; cases e
  | some j=>
   rw [ec] at e
   have e':(r[j]?).join=some d:=Option.some.inj e
   have hj:r[j]?=some (some d):=by
    cases q:r[j]? with
    | none=>rw [q] at e'; cases e'
    | some o=>rw [q] at e'; rw [show o=some d from e']
   obtain ⟨v,ev,rv⟩:=h.2 j d hj
   exact ⟨v,by show some ((s[j]?).join)=some (some v); rw [ev]; rfl,rv⟩
end
abbrev SIf (X:Cx) (E:XK) (ifs:List Expr) (m:TM):Prop:=Bx (zw X ifs (uT X.K E m))
theorem fq {X:Cx} {E:XK}:SIf X E [] bO:=⟨fun pins s σ H Q I zq=>ex6 zq fun w r S hr hS hp=>xg pins s σ H Q I (hp.ret rfl hS)⟩
theorem zE {X:Cx} {E:XK} {c:Expr} {m:TM} (h:ST X E c m):SIf X E [c] m:=⟨xh h.out⟩
theorem xq {qb:Bool} {X:Cx} {E:XK} {elt tg iter:Expr} {ifs:List Expr} {scope:Scope} {pos:Pos} {N:List Str} {k:Nat} {caps:List Nat} {it:AM} {g:G} {mt:TM} {me:EM} (hX:Cd qb X) (hxe:∀ e s,¬ X.xe e s) (C:CompScope X N k caps scope)
  (hi:SIb qb X E tg iter it) (hg:∀ cl s0 H0 ex,Cd qb (cxC X N scope cl s0 H0 ex)→SG (cxC X N scope cl s0 H0 ex) tg g) (ht:∀ cl s0 H0 ex,Cd qb (cxC X N scope cl s0 H0 ex)→SIf (cxC X N scope cl s0 H0 ex) E ifs mt) (he:∀ cl s0 H0 ex,Cd qb (cxC X N scope cl s0 H0 ex)→SE (cxC X N scope cl s0 H0 ex) E elt me)
  (hs:autoParam (∀ x,foldedSetIterable iter X.env x=pure x) Au.h4._auto_1):SE X E (.ListComp elt [⟨tg,iter,ifs,0⟩] scope pos) (bJ it k caps g mt me):=⟨
 bC (xi hX hxe C hi.out (g:=uG X.K g) (fun cl s0 H0 ex z=>(hg cl s0 H0 ex z).out) (tt:=uT X.K E mt) (fun cl s0 H0 ex z=>(ht cl s0 H0 ex z).out) (te:=uE X.K E me) (fun cl s0 H0 ex z=>(he cl s0 H0 ex z).out) hs) fun s H Q zq=>ex6 zq fun w r S hr hS hp=>⟨w,r,S,hr,hS,hp.bind hS fun ds S1 w1 H1 J x1 q1 s1 p1=>by
  intro p hp
  have hr1:=hr.ext x1
  have pno:p ∉ w1.hid:=(s1.fresh hp).2
  have hz:ds.length≤sizeLine:=by
   rcases Nat.lt_or_ge sizeLine ds.length with z | z
   ·rw [if_neg (by omega)] at p1; exact p1.elim
   ·exact z
  rw [if_pos hz] at p1
  -- the list is made at p,which is hidden
  refine ⟨fun i n s' H'=>n=ds.length - i∧i≤ds.length∧∃ w' r' S' ys vs,Ext w1 H1 w' H'∧p ∈ w'.hid∧RSt X.K w' H' r' s'∧RS X.K w' H' S'∧H' p=some (.lst vs)∧RDs X.K w' H' ys vs∧ys.length≤i∧
    aH X.K E (RD X.K) w1 H1 ((eu g mt me (ds.drop i) r' S').bind fun zs S2=>R.ok (.lst (ys ++ zs)) S2) Q,
   ⟨ds.length,by simp,Nat.zero_le _,w1.hide p,fy k caps r,S1,[],[],Ext.hide hp,List.mem_cons_self,(zD k caps hr1).ext (Ext.hide hp),s1.hide hp,aI,.nil,Nat.le_refl _,p1⟩,?_⟩
  rintro i n s2 H2 ⟨rfl,hi.out,w2,r2,S2,ys,vs,x2,hph,hr2,hS2,hpv,ry,hyl,hp2⟩
  have hpn:p ∉ w2.st:=(hS2.hid p hph).1
  by_cases hlt:i < ds.length
  ·obtain ⟨go,yld⟩:=(q1 i w2 H2 x2).1 hlt
   refine .inr ⟨go,fun s' H'=>∃ w' r' S' ys vs,Ext w1 H1 w' H'∧p ∈ w'.hid∧RSt X.K w' H' r' s'∧RS X.K w' H' S'∧H' p=some (.lst vs)∧RDs X.K w' H' ys vs∧ys.length≤i + 1∧
     aH X.K E (RD X.K) w1 H1 ((eu g mt me (ds.drop (i + 1)) r' S').bind fun zs S2=>R.ok (.lst (ys ++ zs)) S2) Q,
    fun s' H' hN=>⟨ds.length - (i + 1),by omega,rfl,hlt,hN⟩,fun x H3 hy=>?_⟩
   obtain ⟨gr,rd⟩:=yld x H3 hy
   obtain ⟨d,ed,qd⟩:=rd S2 hS2
   obtain ⟨x3,s3⟩:=g9 gr hS2
   have hdrop:ds.drop i=d :: ds.drop (i + 1):=by
    rw [List.drop_eq_getElem_cons hlt]
    rw [List.getElem?_eq_getElem hlt] at ed
    cases ed; rfl
   rw [hdrop] at hp2
   have hpv3:H3 p=some (.lst vs):=x3.keep _ _ hpv hpn
   have ry3:=RDs.ext x3 _ _ ry
   have x13:Ext w1 H1 w2 H3:=x2.trans' x3 s1 hS2
   unfold eu at hp2
   cases e:g.put d r2 with
   | none=>rw [e] at hp2; exact hp2.elim
   | some r3=>
    rw [e] at hp2
    refine ⟨w2,r2,d,r3,hr2.ext x3,qd,e,fun s4 hr4=>⟨w2,r3,S2,hr4,s3,?_⟩⟩
    -- hp2:(mt r3 S2).bind .. |>.bind ..
    have hass:∀ {A B C:Type} (r:R A) (f:A→Sto→R B) (h:B→Sto→R C),(r.bind f).bind h=r.bind fun a S=>(f a S).bind h:=fun r f h=>by cases r <;> rfl
    simp only [hass] at hp2
    refine aH.bindAt (rel:=RB) hp2 x13 s1 s3 fun c S5 w5 H5 c' x5 q5 s5 p5=>?_
    have ec:c'=c:=q5
    subst ec
    have x15:Ext w1 H1 w5 H5:=x13.trans' x5 s1 s3
    have hph5:p ∈ w5.hid:=x5.hid p hph
    have hpv5:H5 p=some (.lst vs):=x5.keep _ _ hpv3 hpn
    cases c' with
    | false=>
     refine vQ ⟨w5,r3,S5,ys,vs,x15,hph5,hr4.ext x5,s5,hpv5,RDs.ext x5 _ _ ry3,Nat.le_succ_of_le hyl,p5⟩
    | true=>
     refine vR ⟨w5,r3,S5,hr4.ext x5,s5,?_⟩
     have p5':aH X.K E (RD X.K) w1 H1 (((me r3 S5).bind fun y S2=>(eu g mt me (ds.drop (i + 1)) r3 S2).bind fun ys S3=>R.ok (y :: ys) S3).bind fun zs S2=>R.ok (D.lst (ys ++ zs)) S2) Q:=p5
     simp only [hass] at p5'
     refine aH.bindAt (rel:=RD X.K) p5' x15 s1 s5 fun y S6 w6 H6 yv x6 q6 s6 p6=>?_
     have x16:Ext w1 H1 w6 H6:=x15.trans' x6 s1 s5
     have hph6:p ∈ w6.hid:=x6.hid p hph5
     have hpn5:p ∉ w5.st:=(s5.hid p hph5).1
     have hpn6:p ∉ w6.st:=(s6.hid p hph6).1
     have hpv6:H6 p=some (.lst vs):=x6.keep _ _ hpv5 hpn5
     have ry6:=RDs.ext x6 _ _ (RDs.ext x5 _ _ ry3)
     refine ⟨vs,hpv6,by rw [ry6.length]; omega,w6,r3,S6,ys ++ [y],vs ++ [yv],⟨fun a o h n=>?_,x16.sub,x16.hid,x16.hnew,fun a o u h=>by have z:=x16.frz a o u h; rw [aG (fun e:a=p=>by rw [e,hpv6] at z; cases z)]; exact z⟩,hph6,(hr4.ext x5).ext x6 |>.mv (Mv.write hph6),s6.write hph6,aI,(RDs.mv (Mv.write hph6) _ _ ry6).append (.cons (RD.mv (Mv.write hph6) _ _ q6) .nil),by simp; omega,?_⟩
     ·have:a ≠ p:=aQ h hp
      rw [aG this]; exact x16.keep a o h n
     ·have he2:∀ zs:List D,(ys ++ [y]) ++ zs=ys ++ y :: zs:=fun zs=>by simp
      simp only [he2]
      exact p6
  ·have e:i=ds.length:=by omega
   subst e
   rw [List.drop_length] at hp2
   refine .inl ⟨(q1 _ w2 H2 x2).2 (Nat.le_refl _),?_⟩
   have hp3:aH X.K E (RD X.K) w1 H1 (R.ok (D.lst (ys ++ [])) S2) Q:=hp2
   rw [List.append_nil] at hp3
   refine aH.at hp3 (w1:=w2.unhide p) ⟨x2.keep,x2.sub,fun a h=>List.mem_filter.mpr ⟨x2.hid a h,decide_eq_true fun z=>pno (z ▸ h)⟩,fun a h=>x2.hnew a (Wd.mem_unhide h).1,x2.frz⟩ ?_ hS2.unhide
   unfold RD
   exact ⟨p,vs,rfl,⟨hpv,hpn,fun z=>(Wd.mem_unhide z).2 rfl⟩,RDs.mv Mv.unhide _ _ ry⟩⟩⟩
theorem eX {X:Cx} {E:XK} {elt tg iter:Expr} {ifs:List Expr} {scope:Scope} {pos:Pos} {N:List Str} {k:Nat} {caps:List Nat} {it:AM} {g:G} {mt:TM} {me:EM} (hX:X.calm=true) (hxe:∀ e s,¬ X.xe e s) (C:CompScope X N k caps scope)
 (hi:SI X E tg iter it) (hg:∀ cl s0 H0 ex,SG (cxC X N scope cl s0 H0 ex) tg g) (ht:∀ cl s0 H0 ex,SIf (cxC X N scope cl s0 H0 ex) E ifs mt) (he:∀ cl s0 H0 ex,SE (cxC X N scope cl s0 H0 ex) E elt me)
 (hs:autoParam (∀ x,foldedSetIterable iter X.env x=pure x) Au.h4._auto_1):SE X E (.ListComp elt [⟨tg,iter,ifs,0⟩] scope pos) (bJ it k caps g mt me):=xq (qb:=false) (.inl hX) hxe C hi (fun a b c d _=>hg a b c d) (fun a b c d _=>ht a b c d) (fun a b c d _=>he a b c d) hs
end PD
namespace PD
open PySem PySem.Spec PyProof.Rows L2
abbrev KD:=Sum Int Str
def jM:D→Option KD
 | .int i=>some (.inl i)
 | .str x=>some (.inr x)
 | _=>none
def putD (kvs:List (KD × D)) (k:KD) (d:D):List (KD × D):=
 if kvs.any (fun kv=>decide (kv.1=k)) then kvs.map (fun kv=>if kv.1=k then (kv.1,d) else kv) else kvs ++ [(k,d)]
def fV (kvs more:List (KD × D)):List (KD × D):=more.foldl (fun acc kv=>putD acc kv.1 kv.2) kvs
def ji:List (D × D)→Option (List (KD × D))
 | []=>some []
 | (k,v) :: r=>match jM k,ji r with
  | some k',some r'=>some ((k',v) :: r')
  | _,_=>none
def pM:List (EM × EM)→Rho→Sto→R (List (D × D))
 | [],_,S=>.ok [] S
 | (a,b) :: t,r,S=>(a r S).bind fun x S1=>(b r S1).bind fun y S2=>(pM t r S2).bind fun ps S3=>.ok ((x,y) :: ps) S3
def DI (ms:List (EM × EM)):EM:=fun r S=>(pM ms r S).bind fun ps S1=>match ji ps with
 | some kvs=>if kvs.length≤15 then .ok (.dic (fV [] kvs)) S1 else .bad
 | none=>.bad
def ly (ms:List (EM × EM)):EM:=fun r S=>(pM ms r S).bind fun ps S1=>match ji ps with
 | some kvs=>if kvs.length≤15 then .ok (.ref S1.length) (S1 ++ [.dic (fV [] kvs)]) else .bad
 | none=>.bad
section
variable {K:PySem.W.Frag} {w:Wd} {H:Hp}
theorem RDk.nil:RDk K w H [] []:=by unfold RDk; rfl
theorem RDk.cons {k:KD} {d:D} {v:V} {ds:List (KD × D)} {vs:List (Key × V)} (r:RD K w H d v) (q:RDk K w H ds vs):RDk K w H ((k,d) :: ds) ((k,v) :: vs):=by unfold RDk; exact ⟨v,vs,rfl,r,q⟩
theorem RDk.nil_inv {vs:List (Key × V)} (h:RDk K w H [] vs):vs=[]:=by unfold RDk at h; exact h
theorem RDk.cons_inv {k:KD} {d:D} {ds:List (KD × D)} {vs:List (Key × V)} (h:RDk K w H ((k,d) :: ds) vs):∃ v r,vs=(k,v) :: r∧RD K w H d v∧RDk K w H ds r:=by unfold RDk at h; exact h
theorem RDk.append:∀ {ds es:List (KD × D)} {vs us:List (Key × V)},RDk K w H ds vs→RDk K w H es us→RDk K w H (ds ++ es) (vs ++ us)
 | [],_,_,_,h,q=>by rw [h.nil_inv]; exact q
 | (_,_) :: _,_,_,_,h,q=>by
  obtain ⟨v,r,rfl,p,t⟩:=h.cons_inv
  exact .cons p (RDk.append t q)
theorem RDk.any:∀ {ds:List (KD × D)} {vs:List (Key × V)} (k:KD),RDk K w H ds vs→(ds.any fun kv=>decide (kv.1=k))=(vs.any fun kv=>decide (kv.1=k))
 | [],_,_,h=>by rw [h.nil_inv]; rfl
 | (_,_) :: _,_,k,h=>by
  obtain ⟨v,r,rfl,p,t⟩:=h.cons_inv
  rw [List.any_cons,List.any_cons,RDk.any k t]
theorem RDk.repl {d:D} {v:V} (r:RD K w H d v):∀ {ds:List (KD × D)} {vs:List (Key × V)} (k:KD),RDk K w H ds vs→RDk K w H (ds.map fun kv=>if kv.1=k then (kv.1,d) else kv) (vs.map fun kv=>if kv.1=k then (kv.1,v) else kv)
 | [],_,_,h=>by rw [h.nil_inv]; exact .nil
 | (j,_) :: _,_,k,h=>by
  obtain ⟨v',r',rfl,p,t⟩:=h.cons_inv
  simp only [List.map_cons]
  by_cases hj:j=k
  ·rw [if_pos hj,if_pos hj]; exact .cons r (RDk.repl r k t)
  ·rw [if_neg hj,if_neg hj]; exact .cons p (RDk.repl r k t)
theorem RDk.put {ds:List (KD × D)} {vs:List (Key × V)} {d:D} {v:V} (q:RDk K w H ds vs) (k:KD) (r:RD K w H d v):RDk K w H (putD ds k d) (putK vs k v):=by
 unfold putD putK
 rw [q.any k]
 split
 ·exact q.repl r k
 ·exact q.append (.cons r .nil)
theorem RDk.merge:∀ {more:List (KD × D)} {mvs:List (Key × V)} {ds:List (KD × D)} {vs:List (Key × V)},RDk K w H more mvs→RDk K w H ds vs→RDk K w H (fV ds more) (eJ vs mvs)
 | [],_,_,_,h,q=>by rw [h.nil_inv]; exact q
 | (k,d) :: r,_,ds,vs,h,q=>by
  obtain ⟨v',r',rfl,p,t⟩:=h.cons_inv
  show RDk K w H (fV (putD ds k d) r) (eJ (putK vs k v') r')
  exact RDk.merge t (q.put k p)
theorem jj {d:D} {v:V} {k:KD} (q:RD K w H d v) (h:jM d=some k):v=kV k:=by
 cases d with
 | int i=>cases q.int; cases h; rfl
 | str x=>cases q.str; cases h; rfl
 | _=>cases h
def RPs (K:PySem.W.Frag) (w:Wd) (H:Hp):List (D × D)→List (V × V)→Prop
 | [],vs=>vs=[]
 | (a,b) :: r,vs=>∃ x y t,vs=(x,y) :: t∧RD K w H a x∧RD K w H b y∧RPs K w H r t
theorem qO:∀ {ps:List (D × D)} {vs:List (V × V)} {kvs:List (KD × D)},RPs K w H ps vs→ji ps=some kvs→∃ us:List (Key × V),vs=us.map (fun kv=>(kV kv.1,kv.2))∧RDk K w H kvs us
 | [],_,_,h,e=>by
  have h':_=[]:=h
  subst h'
  unfold ji at e
  cases e
  exact ⟨[],rfl,.nil⟩
 | (a,b) :: r,_,kvs,h,e=>by
  obtain ⟨u,v,t,rfl,h1,h2,h3⟩:=h
  unfold ji at e
  cases e1:jM a with
  | none=>rw [e1] at e; cases e
  | some k=>
   cases e2:ji r with
   | none=>rw [e1,e2] at e; cases e
   | some r'=>
    rw [e1,e2] at e; cases e
    obtain ⟨us,rfl,q⟩:=qO h3 e2
    exact ⟨(k,v) :: us,by rw [jj h1 e1]; rfl,.cons h2 q⟩
end
section
variable {X:Cx} {E:XK} {pos:Pos}
def uPs (K:PySem.W.Frag) (E:XK) (ms:List (EM × EM)):List (TE × TE):=ms.map fun p=>(uE K E p.1,uE K E p.2)
theorem A1 {A2 B2:Type} {K:PySem.W.Frag} {rel2:Wd→Hp→A2→B2→Prop} {w0:Wd} {H0:Hp} {S0:Sto} {Q:B2→Hp→Prop} (s0:RS K w0 H0 S0):∀ (ms:List (EM × EM)) {w:Wd} {H:Hp} {S:Sto} {r:Rho} {s:L2.St} {f:List (D × D)→Sto→R A2} {Q':List (V × V)→Hp→Prop},RSt K w H r s→RS K w H S→Ext w0 H0 w H→
  aH K E rel2 w0 H0 ((pM ms r S).bind f) Q→(∀ ps S1 w1 H1 vs,Ext w H w1 H1→RPs K w1 H1 ps vs→RS K w1 H1 S1→aH K E rel2 w0 H0 (f ps S1) Q→Q' vs H1)→oF (uPs K E ms) s H Q'
 | [],w,H,S,r,s,f,Q',hr,hS,x,hp,k=>k [] S w H [] (Ext.refl _ _) rfl hS hp
 | (a,b) :: t,w,H,S,r,s,f,Q',hr,hS,x,hp,k=>by
  have hass:∀ {A B C:Type} (r:R A) (f:A→Sto→R B) (h:B→Sto→R C),(r.bind f).bind h=r.bind fun a S=>(f a S).bind h:=fun r f h=>by cases r <;> rfl
  unfold pM at hp
  rw [hass] at hp
  refine ⟨w,r,S,hr,hS,aH.bindAt (rel:=RD K) hp x s0 hS fun d S1 w1 H1 u x1 q1 s1 p1=>?_⟩
  rw [hass] at p1
  have x01:=x.trans' x1 s0 hS
  refine ⟨w1,r,S1,hr.ext x1,s1,aH.bindAt (rel:=RD K) p1 x01 s0 s1 fun e S2 w2 H2 v x2 q2 s2 p2=>?_⟩
  rw [hass] at p2
  have x02:=x01.trans' x2 s0 s1
  exact A1 s0 t ((hr.ext x1).ext x2) s2 x02 p2 fun ps S3 w3 H3 vs x3 q3 s3 p3=>
   k ((d,e) :: ps) S3 w3 H3 ((u,v) :: vs) ((x1.trans' x2 hS s1).trans' x3 hS s2) ⟨u,v,vs,rfl,RD.ext x3 _ _ (RD.ext x2 _ _ q1),RD.ext x3 _ _ q2,q3⟩ s3 p3
abbrev SPs (X:Cx) (E:XK) (pos:Pos) (keys:List (Option Expr)) (values:List Expr) (ms:List (EM × EM)):Prop:=Bx (PPs X pos keys values (uPs X.K E ms))
theorem uF:SPs X E pos [] [] []:=⟨zr⟩
theorem qP {k v:Expr} {ks:List (Option Expr)} {vs:List Expr} {mk mv:EM} {ms:List (EM × EM)} (hk:SE X E k mk) (hv:SE X E v mv) (hr:SPs X E pos ks vs ms):SPs X E pos (some k :: ks) (v :: vs) ((mk,mv) :: ms):=⟨wZ hk.out hv.out hr.out⟩
theorem vX {keys:List (Option Expr)} {values:List Expr} {ms:List (EM × EM)} {m:EM} {s:L2.St} {H:Hp} {Q:VK} {fin:List (KD × D)→Sto→R D}
  (hm:∀ r S,m r S=(pM ms r S).bind fun ps S1=>match ji ps with | some kvs=>if kvs.length≤15 then fin kvs S1 else .bad | none=>.bad)
  (hfin:∀ (kvs:List (KD × D)) (us:List (Key × V)) (w0 w:Wd) (H0 H:Hp) (S0 S:Sto) (p:Addr),H0 p=none→RS X.K w0 H0 S0→RS X.K w H S→Ext w0 H0 w H→p ∈ w.hid→RDk X.K w H (fV [] kvs) (eJ [] us)→aH X.K E (RD X.K) w0 H0 (fin kvs S) Q→Q (.ref p) (upd H p (.dK (eJ [] us))))
  (h:uE X.K E m s H Q):AX (uPs X.K E ms) s H Q:=by
 obtain ⟨w,r,S,hr,hS,hp⟩:=h
 rw [hm] at hp
 intro p hpn
 refine A1 hS ms (hr.ext (Ext.hide hpn)) (hS.hide hpn) (Ext.hide hpn) hp fun ps S1 w1 H1 vs x1 q1 s1 p1=>?_
 have hh:p ∈ w1.hid:=x1.hid p List.mem_cons_self
 have hx:Ext w H w1 H1:=(Ext.hide hpn).trans' x1 hS (hS.hide hpn)
 refine ⟨x1.keep p _ aI ((hS.hide (o:=HO.dK []) hpn).hid p List.mem_cons_self).1,?_⟩
 cases e:ji ps with
 | none=>rw [e] at p1; exact p1.elim
 | some kvs=>
  rw [e] at p1
  obtain ⟨us,rfl,rk⟩:=qO q1 e
  have hl:=rk.length
  by_cases hz:kvs.length≤15
  ·have p2:aH X.K E (RD X.K) w H (if kvs.length≤15 then fin kvs S1 else R.bad) Q:=p1
   rw [if_pos hz] at p2
   exact ⟨us,rfl,by rw [hl]; exact hz,hfin kvs us w w1 H H1 S S1 p hpn hS s1 hx hh (rk.merge .nil) p2⟩
  ·have p2:aH X.K E (RD X.K) w H (if kvs.length≤15 then fin kvs S1 else R.bad) Q:=p1
   rw [if_neg hz] at p2
   exact p2.elim
end
end PD
namespace PD
open PySem PySem.Spec PyProof.Rows L2
def zF (m:AM) (n:Nat):Prop:=∀ r S ds S',m r S=.ok ds S'→ds.length=n
theorem ao:zF ak 0:=fun r S ds S' h=>by unfold ak at h; cases h; rfl
theorem ai {a:EM} {t:AM} {n:Nat} (h:zF t n):zF (ab a t) (n + 1):=fun r S ds S' e=>by
 unfold ab at e
 cases e1:a r S with
 | bad=>rw [e1] at e; cases e
 | err x S1=>rw [e1] at e; cases e
 | ok d S1=>
  rw [e1] at e
  cases e2:t r S1 with
  | bad=>simp only [R.bind_ok,e2,R.bind_bad] at e; cases e
  | err x S2=>simp only [R.bind_ok,e2,R.bind_err] at e; cases e
  | ok es S2=>
   simp only [R.bind_ok,e2] at e
   cases e
   simp [h r S1 es _ e2]
section
variable {X:Cx} {E:XK}
theorem xr {x:Str} {i:Int} {pos:Pos} (hm:∃ t,X.mg x=some (.int i t)) (hg:Gl X x) (hd:autoParam ((x == ("__debug__":Str))=false) Au.h3._auto_1):SE X E (.Name x pos) (eC (.int i)):=by
 obtain ⟨t,e⟩:=hm
 exact zv hg e hd
end
section
variable {P:Program} {w:World} {K:PySem.W.Frag} {mg:Str→Option Value} {base:Heap}
end
def oT (N0 N:List Str) (k:Nat) (scope:Scope):List Nat→Nat→Bool
 | [],_=>true
 | i :: r,t=>(match N0[i]?,N[k + t]? with
  | some x,some y=>x == y && scope.names.lookup x == some .free
  | _,_=>false) && oT N0 N k scope r (t + 1)
theorem lG {N0 N:List Str} {k:Nat} {scope:Scope}:∀ {caps:List Nat} {t0:Nat},oT N0 N k scope caps t0=true→∀ (t i:Nat),caps[t]?=some i→∃ x,N0[i]?=some x∧N[k + (t0 + t)]?=some x∧scope.names.lookup x=some .free
 | [],_,_,_,_,h=>by simp at h
 | j :: r,t0,h,t,i,e=>by
  unfold oT at h
  rw [Bool.and_eq_true] at h
  cases t with
  | zero=>
   simp at e
   subst e
   have h1:=h.1
   cases e1:N0[j]? with
   | none=>rw [e1] at h1; cases h1
   | some x=>
    cases e2:N[k + t0]? with
    | none=>rw [e1,e2] at h1; cases h1
    | some y=>
     rw [e1,e2] at h1
     simp only [Bool.and_eq_true] at h1
     have hxy:x=y:=eq_of_beq h1.1
     subst hxy
     exact ⟨x,rfl,by simpa using e2,eq_of_beq h1.2⟩
  | succ t=>
   obtain ⟨x,a,b,c⟩:=lG h.2 t i (by simpa using e)
   exact ⟨x,a,by rw [show t0 + (t + 1)=t0 + 1 + t by omega]; exact b,c⟩
theorem iN {X:Cx} {N:List Str} {k:Nat} {caps:List Nat} {scope:Scope} (h1:scope.kind=.function) (h2:scope.names.all (fun x=>x.2 != .cell)=true) (h3:scope.names.all (fun x=>x.2 != .local || scope.names.lookup x.1 == some .local)=true)
  (h4:scope.names.all (fun x=>x.2 != .free || X.env.kindOf x.1 == some .cell || X.env.kindOf x.1 == some .free)=true) (h5:N.length=k + caps.length) (h6:oT X.N N k scope caps 0=true):CompScope X N k caps scope:=by
 refine ⟨h1,fun x hx z=>?_,fun x hx z=>?_,fun x hx z=>?_,h5,fun t i e=>?_⟩
 ·have:=List.all_eq_true.mp h2 x hx
  rw [z] at this; simp at this
 ·have:=List.all_eq_true.mp h3 x hx
  rw [z] at this
  simpa using this
 ·have:=List.all_eq_true.mp h4 x hx
  rw [z] at this
  simpa using this
 ·obtain ⟨x,a,b,c⟩:=lG h6 t i e
  exact ⟨x,a,by simpa using b,c⟩
theorem Cb {f:FM} (h:∀ ns:List Int,ns.length≤63→∃ S,f [.fz (ns.map .int)] []=.ok (.bl true) S) (K:PySem.W.Frag) (H:Hp) (a:Addr) (ns:List Int) (hn:ns.length≤63) (ho:xc H) (hs:SqL K H a (ns.map V.int)):
  spM K 1 f [.ref a] H (fun v _=>v=.bl true) fun _ _ _=>False:=by
 obtain ⟨S,e⟩:=h ns hn
 have hfz:vT K ⟨[],[]⟩ H a (ns.map V.int):=by
  rcases hs with (hs | ⟨o,hs⟩) | hs
  ·rcases ho a with z | ⟨o,xs,z⟩
   ·rw [z] at hs; cases hs
   ·rw [z] at hs; cases hs
  ·exact .inl ⟨o,hs,(fun z=>nomatch z),(fun z=>nomatch z)⟩
  ·exact .inr hs
 have hints:∀ l:List Int,RDs K ⟨[],[]⟩ H (l.map D.int) (l.map V.int):=fun l=>by
  induction l with
  | nil=>exact .nil
  | cons i l ih=>exact .cons RD.mkI ih
 refine ⟨rfl,⟨[],[]⟩,[],[.fz (ns.map .int)],⟨List.nodup_nil,rfl,fun n o z=>?_,(fun a z=>nomatch z)⟩,.cons (by unfold RD; exact ⟨a,_,rfl,hfz,hints ns⟩) .nil,?_⟩
 ·simp at z
 ·rw [e]
  intro w' H' b x q s
  unfold RD at q
  exact q
end PD
namespace PD
open PySem L2
theorem dv {S:Sto} {i j:Int} (h:cw i ∨ cw j):cT S (.int i) (.int j)=some (.int (i * j)):=if_pos h
theorem Cc {S:Sto} {i:Nat} (h:i < 1000):sJ S (.int 1) (.int i)=some (.int (2 ^ i)):=by
 have:sJ S (.int 1) (.int i)=some (.int (1 * 2 ^ ((i:Int)).toNat)):=if_pos ⟨by omega,by omega,by decide⟩
 rw [this,Int.toNat_natCast,Int.one_mul]
theorem Ce {S:Sto} {i j:Int} (h:0≤j∧j≤1000000∧i.natAbs < 2 ^ 64):sH S (.int i) (.int j)=some (.int (i ^ j.toNat)):=if_pos h
theorem sO {S:Sto}:sH S (.int 10) (.int 12)=some (.int 1000000000000):=by
 rw [Ce ⟨by decide,by decide,by decide⟩]
 have e:(10:Int) ^ (12:Int).toNat=1000000000000:=by decide
 rw [e]
theorem lH {A:Type} {xs:List A} {i:Nat} (h:i < xs.length):atI xs (i:Int)=some xs[i]:=zj (List.getElem?_eq_getElem h)
end PD
namespace PD
open PySem PyProof.Rows L2
end PD
namespace L2
open PySem PySem.Spec PyProof.Rows
def Fly (l:List Env) (H':Hp) (h hs:Heap) (ea:Addr) (cls:Value):Prop:=
 ∃ (B:Heap) (a0:Value),Heap.FlyingW B l ea cls a0 hs∧(∀ b o,h.get? b=some o→b ∉ frs l→∃ o',B.get? b=some o')∧(∀ b u,H' b=some u→∃ o',B.get? b=some o')∧hs.Zat ea
def CX1 (P:Program) (w:World):CXT:=fun outer H s E e s'=>
 ∃ ea cls H',e=.ref ea∧s'.os=s.os∧AllBare s'.gens∧Un (frs outer) [] H H' s.heap s'.heap∧HOk P w H' s'.heap∧Fly outer H' s.heap s'.heap ea cls∧E cls none H'
section
variable {P:Program} {w:World} {fs:List Addr} {H H':Hp} {h h1 h2 B:Heap} {l:List Env}
end
section
variable {X:Cx} {pins:List (Addr × Obj)} {σ:St} {H:Hp} {s s':Shared} {E:XK} {e:Value}
end
end L2
namespace PD
open PySem PySem.Spec PyProof.Rows L2
section
variable {X:Cx} {E:XK}
end
section
variable {X:Cx} {E:XK} {x:Str} {a:Expr} {es:List Expr} {ms:AM} {np cpos pos:Pos}
end
section
variable {P:Program} {w:World} {K:PySem.W.Frag} {mg:Str→Option Value} {base:Heap} {N:List Str} {qual:Str} {scope:Scope} {f:Addr} {cdv:Value} {A:Around} {outer:List Env} {s:Shared} {H:Hp} {E:XK}
theorem vY {X:Cx}:Passes (CX1 X.prog X.w) X E0:=fun _ _ _ _ _ _ _ zq=>by obtain ⟨_,_,_,_,_,_,_,_,_,z⟩:=zq; exact z.elim
end
def spN (K:PySem.W.Frag) (n:Nat) (f:FM):Sp:=fun vs H Q _=>vs.length=n∧∃ w S ds,RS K w H S∧RDs K w H ds vs∧aH K E0 (RD K) w H (f ds S) Q
structure DefN (P:Program) (w:World) (K:PySem.W.Frag) (mg:Str→Option Value) (base:Heap) (x:Str) (k n:Nat) (f:FM):Prop where
 ex:∃ (fa:Addr) (fd:FuncData) (ps:List Str),mg x=some (.ref fa)∧PySem.W.keepIn K (.ref fa)=true∧Binds K fd ps []∧FnOk P w K mg base (CX1 P w) k fa fd ps (spN K n f)
section
variable {X:Cx} {E:XK} {x:Str} {k n:Nat} {f:FM} {a:Expr} {es:List Expr} {ms:AM} {p pos:Pos}
theorem aw (D:DefN X.prog X.w X.K X.mg X.base x k n f) (hr:Room k X.A) (hg:Gl X x) (ha:SA X E0 (a :: es) ms) (hn:zF ms n) (hdb:autoParam ((x == ("__debug__":Str))=false) Au.h3._auto_1)
  (he:autoParam (starEach (a :: es) X.env=(false,eval a X.env) :: starEach es X.env) Au.h0._auto_1) (hpl:autoParam ((backTo pos (starEach es X.env)).any (·.1)=false) Au.h0._auto_1):
  SE X E0 (.Call (.Name x p) (a :: es) [] pos) (ar f ms):=by
 obtain ⟨fa,fd,ps,hm,hk,hb,F⟩:=D.ex
 refine ⟨bC (ze F hr hg hm hk hb (dvs:=[]) .nil vY ha.out hdb he hpl) fun s H Q zq=>?_⟩
 obtain ⟨w,r,S,hr,hS,hp⟩:=zq
 refine ⟨w,r,S,hr,hS,?_⟩
 have hp':aH X.K E0 (RD X.K) w H ((ms r S).bind fun xs S1=>f xs S1) Q:=hp
 cases e:ms r S with
 | bad=>rw [e] at hp'; exact hp'.elim
 | err y S'=>rw [e] at hp'; exact hp'
 | ok ds S'=>
  rw [e] at hp'
  intro w1 H1 vs x1 q1 s1
  rw [List.append_nil]
  exact ⟨by rw [q1.length]; exact hn r S ds S' e,w1,S',ds,s1,q1,aH.ext (r:=f ds S') hp' x1 hS s1⟩
end
section
variable {P:Program} {w:World} {K:PySem.W.Frag} {mg:Str→Option Value} {base:Heap}
theorem xt {x qual:Str} {st:Stmt} {f:Addr} {fd:FuncData} {N ps:List Str} {k:Nat} {m:SM} (F:Fun K x qual st f fd) (S:FnScope N ps (defScope st))
  (hbody:∀ (cdv:Value) (A:Around) (outer:List Env) (s:Shared) (H:Hp) (E:XK),Room k (A.deeper (envOfC qual (defScope st) s.heap.objs.size f cdv))→
   SSs (qq (CX1 P w) P w K mg base N qual (defScope st) f cdv A outer s H E).nox E0 (defBody st) m):FnOk P w K mg base (CX1 P w) (k + 1) f fd ps (spN K ps.length (fnM N.length m)):=by
 obtain ⟨oc,od,kV,doc,pm,an,cdv,ct,osl,rfl,lk,hcd⟩:=F.ex
 refine Dq lk hcd S (fun vs H Q E h=>h.1) fun A outer s H vs Q E hr h=>?_
 obtain ⟨hl,u,T,ds,hT,q,p⟩:=h
 refine ⟨_,(hbody cdv A outer s H E hr).out.nox,u,_,T,vV q,hT,?_⟩
 refine aH.bind (rel:=RF K) p hT fun g S1 w1 H1 fv x1 q1 s1 p1=>?_
 cases g with
 | nx r=>obtain ⟨s',rfl,_⟩:=q1; have z:=aH.ret (Q:=Q) (rel:=RD K) (a:=D.non) (b:=V.non) p1 (by unfold RD; rfl) s1; exact z
 | rt d=>obtain ⟨v,rfl,q2⟩:=q1; have z:=aH.ret (Q:=Q) (rel:=RD K) (a:=d) (b:=v) p1 q2 s1; exact z
 | bk r=>exact p1.elim
 | ct r=>exact p1.elim
theorem aO {x:Str} {st:Stmt} {f:Addr} {fd:FuncData} {m:SM} (N ps:List Str) (k k1 n0 n1:Nat) (hk:k1=k + 1) (h0:n0=ps.length) (h1:n1=N.length) (F:Fun K x x st f fd) (hm:mg x=some (.ref f)) (hb:Binds K fd ps []) (S:FnScope N ps (defScope st))
  (hbody:∀ (cdv:Value) (A:Around) (outer:List Env) (s:Shared) (H:Hp) (E:XK),Room k (A.deeper (envOfC x (defScope st) s.heap.objs.size f cdv))→
   SSs (qq (CX1 P w) P w K mg base N x (defScope st) f cdv A outer s H E).nox E0 (defBody st) m):DefN P w K mg base x k1 n0 (fnM n1 m):=by
 subst hk h0 h1
 exact ⟨f,fd,ps,hm,F.kp,hb,xt F S hbody⟩
theorem zG {x:Str} {st:Stmt} {f:Addr} {fd:FuncData} {m:SM} (N ps:List Str) (k k1 n0 n1:Nat) (hk:k1=k + 1) (h0:n0=ps.length) (h1:n1=N.length) (F:Fun K x x st f fd) (S:FnScope N ps (defScope st))
  (hbody:∀ (cdv:Value) (A:Around) (outer:List Env) (s:Shared) (H:Hp) (E:XK),Room k (A.deeper (envOfC x (defScope st) s.heap.objs.size f cdv))→
   SSs (qq (CX1 P w) P w K mg base N x (defScope st) f cdv A outer s H E).nox E0 (defBody st) m):FnOk P w K mg base (CX1 P w) k1 f fd ps (spN K n0 (fnM n1 m)):=by
 subst hk h0 h1
 exact xt F S hbody
end
end PD
namespace L2
open PySem PySem.Spec PyProof.Rows
section
variable {X:Cx} {pins:List (Addr × Obj)} {σ:St} {H:Hp} {s:Shared}
abbrev Cx.with (X:Cx) (p:List (Addr × Obj)) (W:Value→Shared→Prop):Cx:={ X with pn:=p,xe:=W }
end
section
variable {X:Cx} {pins:List (Addr × Obj)} {σ:St} {H H':Hp} {s s':Shared} {B:Heap} {ea:Addr} {cls a0:Value} {h2:Heap}
end
end L2
namespace PD
open PySem PySem.Spec PyProof.Rows L2
section
variable {X:Cx} {E:XK}
end
end PD
namespace L2
open PySem PySem.Spec PyProof.Rows
section
variable {P:Program} {w:World} {K:PySem.W.Frag} {mg:Str→Option Value} {base:Heap}
end
section
variable {X:Cx} {k:Nat} {f:Addr} {fd:FuncData} {ps:List Str} {sp:Sp} {x:Str} {p pos:Pos} {e:Expr} {es:List Expr} {t:TA}
end
end L2
namespace PD
open PySem PySem.Spec PyProof.Rows L2
section
variable {X:Cx} {x:Str} {k n:Nat} {f:FM} {a:Expr} {es:List Expr} {ms:AM} {p pos:Pos}
end
section
variable {P:Program} {w:World} {K:PySem.W.Frag} {mg:Str→Option Value} {base:Heap}
end
end PD
namespace L2
open PySem PySem.Spec PyProof.Rows
section
variable {prog:Program} {w:World} {A:Around} {E:Value→Shared→Prop} {s:Shared} {K:PySem.W.Frag} {ea C:Addr} {ox:Obj} {od:Option Obj}
structure ExK (K:PySem.W.Frag) (C:Addr):Prop where
 ga:PySem.W.findIn K (.ref C) "__getattribute__" = some (some (.builtin "BaseException.__getattribute__"))
 gh:PySem.W.findIn K (.ref C) "__getattr__" = some none
 cl:PySem.W.findIn K (.ref C) "__class__" = some (some (.builtin "object.__class__"))
 bs:PySem.W.mroIn K C (.type "BaseException")=some true
 ob:PySem.W.mroIn K C (.type "object")=some true
 is:(PySem.W.clsIn K C).isSome=true
end
end L2
namespace PD
open PySem PySem.Spec PyProof.Rows L2
structure Cls (K:PySem.W.Frag) (cs ks:List Str) (isa:Str→Str→Bool):Prop where
 gt:PySem.W.specialIn K (.builtin "object.__class__") "__get__" = some (some (.builtin "getset_descriptor.__get__"))
 tk:PySem.W.takesIn K (.builtin "object.__class__")=some true
 ex:∀ c ∈ cs,∃ C,PySem.W.nsIn K mainGlobals c=some (some (.ref C))∧ExK K C∧PySem.W.kitOne K (.ref C) (.type "ValueError")=some true
 isa:∀ c ∈ cs,∀ k ∈ ks,∃ C D,PySem.W.nsIn K mainGlobals c=some (some C)∧PySem.W.nsIn K mainGlobals k=some (some D)∧PySem.W.kitOne K C D=some (isa c k)
section
variable {X:Cx} {E:XK} {cs ks:List Str} {isa:Str→Str→Bool}
end
end PD
namespace PD
open PySem PySem.Spec PyProof.Rows L2
section
variable {X:Cx} {E:XK}
def intsOf:List D→Option (List Int)
 | []=>some []
 | .int b :: r=>(intsOf r).map (b :: ·)
 | _ :: _=>none
end
end PD
namespace PD
open PySem PySem.Spec PyProof.Rows L2
section
variable {X:Cx} {E:XK}
end
end PD
namespace PD
open PySem PySem.Spec PyProof.Rows L2
theorem fP (t:TM) (b:SM):∀ (n k:Nat) (r:Rho) (S:Sto),cP t b n r S ≠ .bad→cP t b (n + k) r S=cP t b n r S
 | 0,k,r,S,h=>absurd rfl h
 | n + 1,k,r,S,h=>by
  rw [show n + 1 + k=(n + k) + 1 by omega]
  unfold cP at h ⊢
  cases e:t r S with
  | bad=>rfl
  | err x S1=>rfl
  | ok c S1=>
   rw [e] at h
   simp only [R.bind_ok] at h ⊢
   cases c with
   | false=>rfl
   | true=>
    simp only [if_true] at h ⊢
    cases e2:b r S1 with
    | bad=>rfl
    | err x S2=>rfl
    | ok f S2=>
     rw [e2] at h
     simp only [R.bind_ok] at h ⊢
     cases f with
     | nx r2=>exact fP t b n k r2 S2 h
     | ct r2=>exact fP t b n k r2 S2 h
     | bk r2=>rfl
     | rt d=>rfl
open Classical in
def sWh (t:TM) (b:SM):SM:=fun r S=>if h:∃ n,cP t b n r S ≠ .bad then cP t b h.choose r S else .bad
theorem Cf {t:TM} {b:SM} {r:Rho} {S:Sto} (n:Nat) (h:cP t b n r S ≠ .bad):sWh t b r S=cP t b n r S:=by
 have hx:∃ n,cP t b n r S ≠ .bad:=⟨n,h⟩
 unfold sWh
 rw [dif_pos hx]
 have hc:=hx.choose_spec
 rcases Nat.le_total n hx.choose with z | z
 ·obtain ⟨k,e⟩:=Nat.exists_eq_add_of_le z
  rw [e]
  exact fP t b n k r S h
 ·obtain ⟨k,e⟩:=Nat.exists_eq_add_of_le z
  have:=fP t b hx.choose k r S hc
  rw [← e] at this
  exact this.symm
section
variable {X:Cx} {E:XK} {c:Expr} {body:List Stmt} {mt:TM} {m:SM} {pos:Pos}
theorem xu (hp:PassesOwn (model X.prog X.w) X.A X.env X.xe) (hc:ST X E c mt) (hb:SSs X E body m):SS X E (.While c body [] pos) (sWh mt m):=⟨
 eU (wM hp hc.out hb.out) fun D s H zq=>ex6 zq fun w r S hr hS hp=>by
  have h0:∃ n,aH X.K E (RF X.K) w H (cP mt m n r S) (FV.to D):=by
   have hp':aH X.K E (RF X.K) w H (sWh mt m r S) (FV.to D):=hp
   unfold sWh at hp'
   split at hp'
   ·exact ⟨_,hp'⟩
   ·exact hp'.elim
  obtain ⟨n0,hp0⟩:=h0
  refine ⟨fun n s' H'=>∃ w' r' S',RSt X.K w' H' r' s'∧RS X.K w' H' S'∧aH X.K E (RF X.K) w' H' (cP mt m n r' S') (FV.to D),⟨n0,w,r,S,hr,hS,hp0⟩,?_⟩
  rintro n s1 H1 ⟨w1,r1,S1,hr1,hS1,hp1⟩
  cases n with
  | zero=>exact hp1.elim
  | succ n=>
   unfold cP at hp1
   refine ⟨w1,r1,S1,hr1,hS1,hp1.bind hS1 fun k S2 w2 H2 v x2 q2 s2 p2=>?_⟩
   have e:v=k:=q2
   subst e
   cases v with
   | false=>exact vQ (aH.ret (b:=FV.nx s1) p2 ⟨s1,rfl,hr1.ext x2⟩ s2)
   | true=>
    refine vR ⟨fun s' H'=>∃ w' r' S',RSt X.K w' H' r' s'∧RS X.K w' H' S'∧aH X.K E (RF X.K) w' H' (cP mt m n r' S') (FV.to D),fun s' H' hN=>⟨n,Nat.lt_succ_self n,hN⟩,?_⟩
    simp only [if_true] at p2
    refine ⟨w2,r1,S2,hr1.ext x2,s2,aH.bind (rel:=RF X.K) p2 s2 fun f S5 w5 H5 fv x5 q5 s5 p5=>?_⟩
    cases f with
    | nx r6=>obtain ⟨s6,rfl,q6⟩:=q5; exact ⟨w5,r6,S5,q6,s5,p5⟩
    | ct r6=>obtain ⟨s6,rfl,q6⟩:=q5; exact ⟨w5,r6,S5,q6,s5,p5⟩
    | bk r6=>obtain ⟨s6,rfl,q6⟩:=q5; have z:=aH.ret (Q:=FV.to D) (rel:=RF X.K) (a:=F.nx r6) (b:=FV.nx s6) p5 ⟨s6,rfl,q6⟩ s5; exact z
    | rt d6=>obtain ⟨v6,rfl,q6⟩:=q5; have z:=aH.ret (Q:=FV.to D) (rel:=RF X.K) (a:=F.rt d6) (b:=FV.rt v6) p5 ⟨v6,rfl,q6⟩ s5; exact z⟩
end
end PD
namespace PD
open PySem PySem.Spec PyProof.Rows L2
section
variable {X:Cx} {E:XK}
def eqP (a b:D):Option Bool:=match eqS a b with
 | some c=>some c
 | none=>match toPy a,toPy b with
  | some p,some q=>if SeqAt.shaped p=true∧SeqAt.shaped q=true then some (PyData.eqv p q) else none
  | _,_=>none
def jk:Sto→D→D→Option D:=fun _ a b=>(eqP a b).map .bl
def jN:Sto→D→D→Option D:=fun _ a b=>(eqP a b).map fun c=>.bl (!c)
theorem nD {a b:D} {c:Bool} (h:eqP a b=some c):eqS a b=some c ∨ ∃ p q,toPy a=some p∧toPy b=some q∧SeqAt.shaped p=true∧SeqAt.shaped q=true∧c=PyData.eqv p q:=by
 unfold eqP at h
 split at h
 ·rename_i c' e; cases h; exact .inl e
 ·split at h
  ·rename_i p q e1 e2
   split at h
   ·rename_i hs; cases h; exact .inr ⟨p,q,e1,e2,hs.1,hs.2,rfl⟩
   ·cases h
  ·cases h
theorem oU {k:Nat} (hr:Room k X.A):OpR X (compareOp .Eq) (xO X.K E jk):=by
 rintro pins s σ H x y v u Q I rx ry ⟨w,S,d,e,hS,qd,qe,p⟩
 obtain ⟨z,hz,p⟩:=p.of
 unfold jk at hz
 cases h:eqP d e with
 | none=>rw [h] at hz; cases hz
 | some c=>
  rw [h] at hz; cases hz
  rcases nD h with h | ⟨a,b,e1,e2,s1,s2,rfl⟩
  ·exact DG pins s σ H x y v u Q I rx ry ⟨w,S,d,e,hS,qd,qe,by unfold oEq; rw [h]; exact p⟩
  ·obtain ⟨as,r1,_⟩:=gc I d x v a qd rx e1
   obtain ⟨bs,r2,_⟩:=gc I e y u b qe ry e2
   exact eq_dataH r1 r2 s1 s2 hr.units ⟨.bl _,H,I,rfl,p.ret RD.mkB hS⟩
theorem sP {k:Nat} (hr:Room k X.A):OpR X (compareOp .NotEq) (xO X.K E jN):=by
 rintro pins s σ H x y v u Q I rx ry ⟨w,S,d,e,hS,qd,qe,p⟩
 obtain ⟨z,hz,p⟩:=p.of
 unfold jN at hz
 cases h:eqP d e with
 | none=>rw [h] at hz; cases hz
 | some c=>
  rw [h] at hz; cases hz
  rcases nD h with h | ⟨a,b,e1,e2,s1,s2,rfl⟩
  ·exact DH pins s σ H x y v u Q I rx ry ⟨w,S,d,e,hS,qd,qe,by unfold oNe; rw [h]; exact p⟩
  ·obtain ⟨as,r1,_⟩:=gc I d x v a qd rx e1
   obtain ⟨bs,r2,_⟩:=gc I e y u b qe ry e2
   exact ne_dataH r1 r2 s1 s2 hr.units ⟨.bl _,H,I,rfl,p.ret RD.mkB hS⟩
end
end PD
namespace PD
open PySem PySem.Spec PyProof.Rows L2
theorem zH {f:FM} (h:∀ ns:List Int,ns.length≤63→∃ S,f [.fz (ns.map .int)] []=.ok (.bl true) S) (K:PySem.W.Frag) (H:Hp) (a:Addr) (ns:List Int) (hn:ns.length≤63) (ho:xc H) (hs:SqL K H a (ns.map V.int)):
 spN K 1 f [.ref a] H (fun v _=>v=.bl true) fun _ _ _=>False:=Cb h K H a ns hn ho hs
theorem Cg {P:Program} {w:World} {l:List Env} {H:Hp} {s s':Shared} {e:Value} (h:CX1 P w l H s (fun _ _ _=>False) e s'):False:=by
 obtain ⟨_,_,_,_,_,_,_,_,_,z⟩:=h
 exact z
end PD
namespace SQ
open PySem PySem.Spec PyProof.Rows
open Sem (wp)
def nm:Bool→String
 | true=>"tuple_iterator"
 | false=>"list_iterator"
def Is:Bool→Heap→Addr→Array Value→Prop
 | true,h,a,xs=>h.IsTuple a xs
 | false,h,a,xs=>h.IsList a xs
def It (k:Bool) (h:Heap) (it a:Addr) (i:Nat):Prop:=∃ o,h.get? it=some o∧o.cls=.type (nm k)∧o.data=.fields #[.ref a,.int i 0]
section
variable {prog:Program} {w:World} {A:Around} {E:Value→Shared→Prop} {s:Shared}
theorem sb {t b:Addr} {h h':Heap} {o:Obj} (hs:Heap.SameBut t h h') (n:b ≠ t) (e:h.get? b=some o):h'.get? b=some o:=(hs.2 b n).trans e
end
abbrev z1 (k:Bool) (h:Heap) (l1:Addr):Heap:=h.push { cls:=.type (nm k),data:=.fields #[.ref l1,.int 0 0] }
abbrev z2 (k m:Bool) (h:Heap) (l1 l2:Addr):Heap:=(z1 k h l1).push { cls:=.type (nm m),data:=.fields #[.ref l2,.int 0 0] }
abbrev z3 (k m:Bool) (h:Heap) (l1 l2:Addr):Heap:=(z2 k m h l1 l2).push { cls:=.type "tuple",data:=.seq #[.ref h.objs.size,.ref (z1 k h l1).objs.size] }
section
variable {prog:Program} {w:World} {A:Around} {E:Value→Shared→Prop} {s:Shared}
end
section
variable {prog:Program} {w:World} {A:Around} {E:Value→Shared→Prop} {s:Shared}
end
end SQ
namespace L2
open PySem PySem.Spec PyProof.Rows
section
variable {X:Cx} {pins:List (Addr × Obj)} {σ:St} {H:Hp} {s:Shared} {h':Heap}
theorem Inv.turnedS {t':Nat} {fp:List Addr} (I:Inv X pins σ H s) (k:∀ b o,b ∉ fp→s.heap.get? b=some o→h'.get? b=some o) (hf:∀ b ∈ fp,FpOk X pins H b):Inv X pins σ H { s with heap:=h',toks:=t' }:=by
 refine I.step (g':=s.gens) (d':=s.drawn) (ch:=fp) (fun b hb=>?_) (fun b o _ _ hc e _=>k b o hc e) (fun b o _ _ hc e _=>⟨o.slots,k b o hc e⟩) (fun _ _ _ _ n=>n)
  (fun b o hc e=>⟨o,k b o hc e⟩) (fun _ _ e=>e) (fun _ _ _ e=>e) (fun b ps e=>⟨#[],by rw [e]; simp⟩) (fun m hm=>?_) (fun b u e=>?_) I.bare
 ·obtain ⟨f0,f1,f2,f3,f4,f5⟩:=hf b hb; exact ⟨f3,f1,f4,f5⟩
 ·obtain ⟨o,es,ep,ho,r⟩:=hm
  exact ⟨o,es,ep,k _ o (fun z=>(hf _ z).2.1 rfl) ho,r⟩
 ·refine (I.hok b u e).stay (fun c v hc q=>k c v (fun z=>?_) q) (fun _ q=>q) fun _ _ q=>q
  have hn:=(hf c z).1
  rcases hc with y | y
  ·rw [y,e] at hn; cases hn
  ·rw [y] at hn; cases hn
theorem Inv.turnedP {t':Nat} {fp:List Addr} {x y:V} {u v:Value} (I:Inv X pins σ H s) (hf:∀ b ∈ fp,FpOk X pins H b) (hlt:∀ b ∈ fp,b < s.heap.objs.size) (rx:RelV x u) (ry:RelV y v)
  (k:∀ b o,b ∉ fp→s.heap.get? b=some o→h'.get? b=some o) (hp:IsPair h' s.heap.objs.size u v):Inv X pins σ (upd H s.heap.objs.size (.tup [x,y])) { s with heap:=h',toks:=t' }:=by
 have I1:Inv X pins σ (upd H s.heap.objs.size (.tup [x,y])) { s with heap:=s.heap.push { cls:=.type "tuple",data:=.seq #[u,v] },toks:=t' }:=
  I.laid (t':=t') (fun b u e=>Heap.get?_push_of_some _ e) (Nat.le_refl _) ⟨by show 2≤sizeLine; decide,[u,v],.cons rx (.cons ry .nil),⟨_,Heap.get?_push_size _ rfl,rfl,_,rfl⟩⟩
 refine Inv.turnedS (s:={ s with heap:=s.heap.push { cls:=.type "tuple",data:=.seq #[u,v] },toks:=t' }) (fp:=fp) (t':=t') (h':=h') I1 (fun b o hb e=>?_) fun b hb=>?_
 ·rcases Heap.get?_push_cases e with ⟨rfl,rfl⟩ | e
  ·exact hp
  ·exact k b o hb e
 ·obtain ⟨f0,f1⟩:=hf b hb
  exact ⟨by rw [aG (Nat.ne_of_lt (hlt b hb))]; exact f0,f1⟩
theorem zI {fp:List Addr} (hf:∀ b ∈ fp,FpOk X pins H b) (hlt:∀ b ∈ fp,b < s.heap.objs.size) {o:HO}:∀ b ∈ fp,upd H s.heap.objs.size o b=none:=fun b hb=>by
 rw [aG (Nat.ne_of_lt (hlt b hb))]; exact (hf b hb).1
end
end L2
namespace L2
open PySem PySem.Spec PyProof.Rows
section
variable {X:Cx} {es:List Expr} {n:Nat} {tp:Pos}
end
end L2
namespace PD
open PySem PySem.Spec PyProof.Rows L2
section
variable {X:Cx} {E:XK} {a b:Expr} {pos:Pos}
end
end PD
namespace PD
open PySem PySem.Spec PyProof.Rows L2
def vZ (x:Int):List Int→List Int
 | []=>[x]
 | y :: r=>if x≤y then x :: y :: r else y :: vZ x r
def dw:List Int→List Int
 | []=>[]
 | x :: r=>vZ x (dw r)
theorem jO (x:Int):∀ l:List Int,(vZ x l).Perm (x :: l)
 | []=>.refl _
 | y :: r=>by
  unfold vZ
  split
  ·exact .refl _
  ·exact ((jO x r).cons y).trans (.swap x y r)
theorem dC:∀ l:List Int,(dw l).Perm l
 | []=>.refl _
 | x :: r=>(jO x _).trans ((dC r).cons x)
theorem j8 (x:Int):∀ l:List Int,l.Pairwise (· ≤ ·)→(vZ x l).Pairwise (· ≤ ·)
 | [],_=>List.pairwise_singleton _ _
 | y :: r,h=>by
  obtain ⟨h1,h2⟩:=List.pairwise_cons.mp h
  unfold vZ
  split
  ·rename_i hxy
   exact List.pairwise_cons.mpr ⟨fun z hz=>by
    rcases List.mem_cons.mp hz with rfl | hz
    ·exact hxy
    ·exact Int.le_trans hxy (h1 z hz),h⟩
  ·rename_i hxy
   exact List.pairwise_cons.mpr ⟨fun z hz=>by
    rcases List.mem_cons.mp ((jO x r).mem_iff.mp hz) with rfl | hz
    ·omega
    ·exact h1 z hz,j8 x r h2⟩
theorem cZ:∀ l:List Int,(dw l).Pairwise (· ≤ ·)
 | []=>.nil
 | x :: r=>j8 x _ (cZ r)
theorem hU:∀ {a b:List Int},a.Perm b→a.Pairwise (· ≤ ·)→b.Pairwise (· ≤ ·)→a=b
 | [],b,p,_,_=>p.nil_eq
 | x :: r,[],p,_,_=>absurd p.length_eq (by simp)
 | x :: r,y :: t,p,h1,h2=>by
  obtain ⟨a1,a2⟩:=List.pairwise_cons.mp h1
  obtain ⟨b1,b2⟩:=List.pairwise_cons.mp h2
  have e:x=y:=by
   have hx:x ∈ y :: t:=p.mem_iff.mp (.head _)
   have hy:y ∈ x :: r:=p.mem_iff.mpr (.head _)
   rcases List.mem_cons.mp hx with h | h
   ·exact h
   ·rcases List.mem_cons.mp hy with h' | h'
    ·exact h'.symm
    ·exact Int.le_antisymm (a1 y h') (b1 x h)
  subst e
  rw [hU (List.Perm.cons_inv p) a2 b2]
end PD
namespace SQ
open PySem PySem.Spec PyProof.Rows
section
variable {prog:Program} {w:World} {A:Around} {E:Value→Shared→Prop} {s:Shared}
theorem qQ {l:Addr} {vs:List Value} {Q:List Value→Shared→Prop} (hl:s.heap.IsTuple l vs.toArray)
  (h:Q vs { s with heap:=(s.heap.push (seqObj "list" #[] 0)).update s.heap.objs.size (Obj.mapSeq (· ++ vs.toArray)) }) (hsz:vs.length≤sizeLine):wpAny (model prog w) A (collect (.ref l)) Q E s:=by
 obtain ⟨o,ho,hc,n,hd⟩:=id hl; unfold collect; refine wpAny_bind (wpAny_runValue (codeAny_builtin entry_proto_collect' ?_))
 show wpAny _ _ (do again (.builtin "list.__iadd__" ⟨[← newList [],.ref l],[]⟩)) _ _ s; refine wpAny_bind (wpAny_newList (wpAny_pure ⟨Code.quiet_builtin _ (by decide +kernel),codeAny_builtin entry_list_iadd' ?_⟩))
 show wpAny _ _ (Builtin.List.listExtendWith (.ref s.heap.objs.size) (.ref l) (.ref s.heap.objs.size)) _ _ { s with heap:=s.heap.push (seqObj "list" #[] 0) }; unfold Builtin.List.listExtendWith
 have ho':(s.heap.push (seqObj "list" #[] 0)).get? l=some o:=Heap.get?_push_of_some _ ho
 refine wpAny_bind (wpAny_typeOf (T:="tuple") ⟨o,ho',hc⟩ ?_)
 have ht:(Value.type "tuple" == Value.type "tuple")=true:=by rfl
 rw [if_pos (by rw [ht]; simp)]; refine wpAny_bind (listItems_at ho' hd ?_); refine wpAny_bind (listItems_at (xs:=#[]) (n:=0) (Heap.get?_push_size _ rfl) rfl ?_); rw [if_neg (by simp)]
 refine wpAny_bind (listUpdate_at (xs:=#[]) (n:=0) (Heap.get?_push_size _ rfl) rfl ?_ (Nat.zero_le _) (by show (#[] ++ vs.toArray).size≤sizeLine + 1; simp only [Array.size_append,List.size_toArray,List.length_nil]; omega)); refine wpAny_pure ?_
 show wpAny (model prog w) A (do
   let o ← load s.heap.objs.size
   match o.data with
   | .seq xs _=>pure xs.toList
   | _=>unsupported "internal:collect") Q E { s with heap:=(s.heap.push (seqObj "list" #[] 0)).update s.heap.objs.size (Obj.mapSeq (· ++ vs.toArray)) }
 refine wpAny_bind (wpAny_load (get?_update_seq (Heap.get?_push_size _ rfl) _) ?_); show wpAny _ _ (pure ((#[]:Array Value) ++ vs.toArray).toList) Q E _
 rw [show ((#[]:Array Value) ++ vs.toArray).toList=vs by simp]; exact wpAny_pure h
theorem collects {k:Bool} {l:Addr} {vs:List Value} {Q:List Value→Shared→Prop} (hl:Is k s.heap l vs.toArray)
  (h:Q vs { s with heap:=(s.heap.push (seqObj "list" #[] 0)).update s.heap.objs.size (Obj.mapSeq (· ++ vs.toArray)) }) (hsz:vs.length≤sizeLine):wpAny (model prog w) A (collect (.ref l)) Q E s:=by
 cases k with
 | true=>exact qQ hl h hsz
 | false=>exact collect_list hl h hsz
end
end SQ
namespace PD
open PySem PySem.Spec PyProof.Rows L2
section
variable {X:Cx} {E:XK}
theorem jl {K:PySem.W.Frag} {w:Wd} {H:Hp}:∀ {ds:List D} {vs:List V} {us:List Value} {ns:List Int},RDs K w H ds vs→Vals vs us→intsOf ds=some ns→IntsAre us ns
 | [],_,_,_,q,r,h=>by
  rw [q.nil_inv] at r
  cases r
  unfold intsOf at h
  cases h
  exact .nil
 | d :: ds,_,_,ns,q,r,h=>by
  obtain ⟨y,vs,rfl,p,t⟩:=q.cons_inv
  cases d with
  | int b=>
   unfold intsOf at h
   cases e':intsOf ds with
   | none=>rw [e'] at h; cases h
   | some cs=>
    rw [e'] at h; cases h
    cases p.int
    cases r with
    | cons r1 r2=>
     obtain ⟨t',rfl⟩:=r1
     exact .cons _ _ (jl t r2 e')
  | _=>unfold intsOf at h; cases h
theorem uH:∀ {us:List Value} {ns:List Int},IntsAre us ns→Vals (ns.map .int) us
 | _,_,.nil=>.nil
 | _,_,.cons _ _ h=>.cons ⟨_,rfl⟩ (uH h)
theorem qR {K:PySem.W.Frag} {w:Wd} {H:Hp}:∀ ns:List Int,RDs K w H (ns.map .int) (ns.map .int)
 | []=>.nil
 | n :: ns=>.cons (by unfold RD; rfl) (qR ns)
end
end PD
namespace PD
open PySem PySem.Spec PyProof.Rows L2
def eBR (f:Sto→List D→R D) (t:AM):EM:=fun r S=>(t r S).bind fun xs S1=>f S1 xs
def xCR (K:PySem.W.Frag) (E:XK) (f:Sto→List D→R D):List V→Hp→VK→Prop:=fun xs H Q=>∃ w S ds,RS K w H S∧RDs K w H ds xs∧aH K E (RD K) w H (f S ds) Q
section
variable {X:Cx} {E:XK} {a b:Expr} {es:List Expr} {ms:AM} {x:Str} {p pos:Pos}
theorem i4 {T:String} {f:Sto→List D→R D} (hc:cI X (.type T) (xCR X.K E f)) (hg:Gl X x) (hm:X.mg x=none) (hv:bootBuiltins x=some (.type T)) (ha:SA X E (a :: es) ms) (hn:autoParam (x ≠ "__name__") Au.h3._auto_1) (hdb:autoParam ((x == ("__debug__":Str))=false) Au.h3._auto_1)
  (he:autoParam (starEach (a :: es) X.env=(false,eval a X.env) :: starEach es X.env) Au.h0._auto_1) (hpl:autoParam ((backTo pos (starEach es X.env)).any (·.1)=false) Au.h0._auto_1):SE X E (.Call (.Name x p) (a :: es) [] pos) (eBR f ms):=⟨
 bC (ni hc hg hm hv ha.out hn hdb he hpl) fun s H Q zq=>ex6 zq fun w r S hr hS hp=>⟨w,r,S,hr,hS,hp.bind hS fun ds S1 w1 H1 vs x1 q1 s1 p1=>⟨w1,S1,ds,s1,q1,p1⟩⟩⟩
def jP:Sto→D→List D→R D
 | S,.ref n,[.int i]=>match S[n]? with
  | some (.lst a)=>if 0≤i∧i < a.length then (match a[i.toNat]? with
   | some y=>.ok y (S.set n (.lst (a.eraseIdx i.toNat)))
   | none=>.bad) else .bad
  | _=>.bad
 | _,_,_=>.bad
theorem nF {K:PySem.W.Frag} {w:Wd} {H:Hp}:∀ {ds:List D} {vs:List V} (i:Nat),RDs K w H ds vs→RDs K w H (ds.eraseIdx i) (vs.eraseIdx i)
 | [],_,i,q=>by rw [q.nil_inv]; exact .nil
 | d :: ds,_,0,q=>by
  obtain ⟨y,vs,rfl,p,t⟩:=q.cons_inv
  exact t
 | d :: ds,_,i + 1,q=>by
  obtain ⟨y,vs,rfl,p,t⟩:=q.cons_inv
  exact .cons p (nF i t)
theorem xv:MtR X "list.pop" (xM X.K E jP):=by
 rintro pins s σ H x xs v us Q I rx rs ⟨w,S,d,ds,hS,qd,qs,p⟩
 unfold jP at p
 split at p
 ·rename_i n i
  split at p
  ·rename_i a hn
   split at p
   ·rename_i hi
    split at p
    ·rename_i y hy
     obtain ⟨pp,rfl,hp⟩:=qd.refI
     obtain ⟨iv,rfl,qi⟩:=qs.one_inv
     cases qi.int
     obtain ⟨p',hp',vs,hv,ra⟩:=hS.obj _ _ hn
     rw [hp] at hp'; cases hp'
     have hm:pp ∈ w.st:=List.mem_of_getElem? hp
     have hl:vs.length=a.length:=ra.length
     obtain ⟨yv,hyv,ry⟩:=ra.get hy
     have hz:vs.length≤sizeLine:=(I.lstM hv).1
     have hb:(a.length:Int) < 2 ^ 63:=by
      have:sizeLine < 2 ^ 62:=by decide
      have e:(2:Int) ^ 63=((2 ^ 63:Nat):Int):=by norm_cast
      rw [e]
      have:a.length < 2 ^ 63:=by omega
      exact_mod_cast this
     refine wX pins s σ H _ _ v us Q I rx rs ⟨pp,vs,i,i.toNat,yv,rfl,rfl,hv,by omega,by omega,seqIndex_of hi.1 (by rw [hl]; exact hi.2),hyv,p.at (Ext.mut hm hv) (RD.ext (Ext.mut hm hv) _ _ ry) ?_⟩
     exact hS.mut hp hv ⟨_,aI,RDs.ext (Ext.mut hm hv) _ _ (nF _ ra)⟩
    ·exact p.elim
   ·exact p.elim
  ·exact p.elim
 ·exact p.elim
end
end PD
namespace PD
open PySem PySem.Spec PyProof.Rows L2
section
variable {M:Model} {A:Around} {E:Value→Shared→Prop} {s:Shared}
end
section
variable {X:Cx} {pins:List (Addr × Obj)} {σ:L2.St} {H:Hp} {s:Shared}
end
end PD
namespace PD
open PySem PySem.Spec PyProof.Rows L2
end PD
namespace PD
open PySem PySem.Spec PyProof.Rows L2
def dq (S:Sto):D→Option (List (KD × D))
 | .dic kvs=>some kvs
 | .ref n=>match S[n]? with
  | some (.dic kvs)=>some kvs
  | some (.fdic kvs)=>some kvs
  | _=>none
 | _=>none
def gB (kvs:List (KD × D)) (k:KD):Option D:=(kvs.find? fun kv=>decide (kv.1=k)).map (·.2)
section
variable {K:PySem.W.Frag} {w:Wd} {H:Hp} {S:Sto}
theorem gC {d:D} {v:V} {kvs:List (KD × D)} (hS:RS K w H S) (q:RD K w H d v) (h:dq S d=some kvs):∃ p us,v=.ref p∧Rd H p (.dK us)∧RDk K w H kvs us:=by
 unfold dq at h
 split at h
 ·cases h
  unfold RD at q
  obtain ⟨p,us,rfl,z,r⟩:=q
  exact ⟨p,us,rfl,.inl z.1,r⟩
 ·rename_i n
  obtain ⟨p,rfl,hp⟩:=q.refI
  split at h
  ·rename_i e; cases h
   obtain ⟨p',hp',us,hv,r⟩:=hS.obj _ _ e
   rw [hp] at hp'; cases hp'
   exact ⟨p,us,rfl,.inl hv,r⟩
  ·rename_i e; cases h
   obtain ⟨p',hp',o,us,hv,r⟩:=hS.obj _ _ e
   rw [hp] at hp'; cases hp'
   exact ⟨p,us,rfl,.inr ⟨o,hv⟩,r⟩
  ·cases h
 ·cases h
theorem RDk.get (k:KD):∀ {ds:List (KD × D)} {us:List (Key × V)},RDk K w H ds us→(∀ d,gB ds k=some d→∃ v,gQ us k=some v∧RD K w H d v)∧(gB ds k=none→gQ us k=none)
 | [],us,q=>by
  rw [q.nil_inv]
  exact ⟨fun d h=>(by cases h),fun _=>rfl⟩
 | (j,d) :: ds,_,q=>by
  obtain ⟨v,r,rfl,p,t⟩:=q.cons_inv
  by_cases hj:j=k
  ·have e1:gB ((j,d) :: ds) k=some d:=by unfold gB; rw [List.find?_cons]; simp [hj]
   have e2:gQ ((j,v) :: r) k=some v:=by unfold gQ; rw [List.find?_cons]; simp [hj]
   rw [e1,e2]
   exact ⟨fun d' h=>by cases h; exact ⟨v,rfl,p⟩,fun h=>by cases h⟩
  ·have e1:gB ((j,d) :: ds) k=gB ds k:=by unfold gB; rw [List.find?_cons]; simp [hj]
   have e2:gQ ((j,v) :: r) k=gQ r k:=by unfold gQ; rw [List.find?_cons]; simp [hj]
   rw [e1,e2]
   exact RDk.get k t
end
section
variable {X:Cx} {E:XK}
theorem DJ {o o1 o2:Sto→D→D→Option D} (h1:IxR X (xO X.K E o1)) (h2:IxR X (xO X.K E o2)) (h:∀ S x y,o S x y=o1 S x y ∨ o S x y=o2 S x y):IxR X (xO X.K E o):=by
 rintro va sl pins s σ H x y v u Q I rx ry ⟨w,S,d,e,hS,qd,qe,p⟩ hsub
 rcases h S d e with z | z
 ·exact h1 va sl pins s σ H x y v u Q I rx ry ⟨w,S,d,e,hS,qd,qe,z ▸ p⟩ hsub
 ·exact h2 va sl pins s σ H x y v u Q I rx ry ⟨w,S,d,e,hS,qd,qe,z ▸ p⟩ hsub
theorem Room.hu {k:Nat} {A:Around} (r:Room k A):A.units + 1 < cLine:=by have:=r.un; omega
def zJ:Sto→D→D→Option D:=fun S x y=>match dq S x,jM y with
 | some kvs,some k=>gB kvs k
 | _,_=>none
def km:Sto→D→D→Option D:=fun S x y=>if (dm S x).isSome then oIx S x y else zJ S x y
theorem Ci {k:Nat} (hr:Room k X.A):IxR X (xO X.K E zJ):=by
 rintro va sl pins s σ H x y v u Q I rx ry ⟨w,S,d,e,hS,qd,qe,p⟩ hsub
 obtain ⟨z,hz,p⟩:=p.of
 unfold zJ at hz
 split at hz
 ·rename_i kvs k e1 e2
  obtain ⟨pp,us,rfl,rd,rk⟩:=gC hS qd e1
  cases rx
  have ey:=jj qe e2
  subst ey
  obtain ⟨vv,hv,rv⟩:=(rk.get k).1 z hz
  have g:wY H pp (kV k) (some vv):=.inl ⟨us,k,rd,rfl,hv.symm⟩
  have hT:=qD I g
  have h2:wpAny (model X.prog X.w) X.A (getItem (.ref pp) u) (EP X pins σ Q) X.xe s:=vM (Room.hu hr) I g ry fun w' s' I' r'=>⟨vv,H,I',r',p.ret rv hS⟩
  unfold subscriptTail; refine wpAny_bind ?_; rw [getitemInPython_of_ne hT.not_modules]; refine wpAny_bind (wpAny_specialOf hT PySem.F.slot_dict_getitem.lookup ?_)
  have fin:wpAny (model X.prog X.w) X.A (subscripted sl false (.ref pp) u) (fun r s₃=>wpAny (model X.prog X.w) X.A (letTemporaryGo va (.ref pp) r >>= fun _=>pure r) (EP X pins σ Q) X.xe s₃) X.xe s:=by
   rw [hsub]; exact wpAny_operating (wpAny_mono h2 (fun r s₃ h₃=>wpAny_bind (wpAny_letTemporaryGo (wpAny_pure h₃))) fun _ _ x=>x)
  first | exact wpAny_pure (wpAny_bind fin) | exact wpAny_bind (wpAny_pure (wpAny_bind fin)) | exact wpAny_bind fin
 ·cases hz
theorem sQ {k:Nat} (hr:Room k X.A):IxR X (xO X.K E km):=DJ gN (Ci hr) fun S x y=>by
 unfold km
 cases (dm S x).isSome with
 | true=>exact .inl rfl
 | false=>exact .inr rfl
def qS:Sto→D→D→D→Option Sto
 | S,.ref n,y,v=>match S[n]? with
  | some (.dic kvs)=>match jM y with
   | some k=>if kvs.length < sizeLine then some (S.set n (.dic (putD kvs k v))) else none
   | none=>none
  | _=>none
 | _,_,_,_=>none
def nG (S:Sto):D→Bool
 | .ref n=>match S[n]? with
  | some (.dic _)=>true
  | _=>false
 | _=>false
def ez:Sto→D→D→D→Option Sto:=fun S x y v=>if nG S x then qS S x y v else xo S x y v
theorem zK {k:Nat} (hr:Room k X.A):ou X (xS X.K qS):=by
 rintro pins s σ H o i v ov iv u Q I ro ri ru ⟨w,S,x,y,z,S',hS,qx,qy,qz,hf,kk⟩
 unfold qS at hf
 split at hf
 ·rename_i n
  split at hf
  ·rename_i kvs hn
   split at hf
   ·rename_i ky hk
    split at hf
    ·rename_i hl
     cases hf
     obtain ⟨pp,rfl,hp⟩:=qx.refI
     cases ro
     obtain ⟨p',hp',us,hv,rk⟩:=hS.obj _ _ hn
     rw [hp] at hp'; cases hp'
     have ey:=jj qy hk
     subst ey
     have hm:pp ∈ w.st:=List.mem_of_getElem? hp
     have hul:us.length < sizeLine:=by rw [rk.length]; exact hl
     refine vN (Room.hu hr) I (zp.k hv hul) ri ru fun s' I'=>⟨_,I',kk w _ (Ext.mut hm hv) (hS.mut hp hv ⟨_,aI,?_⟩)⟩
     exact RDk.ext (Ext.mut hm hv) _ _ (rk.put ky qz)
    ·cases hf
   ·cases hf
  ·cases hf
 ·cases hf
theorem DK {f f1 f2:Sto→D→D→D→Option Sto} (h1:ou X (xS X.K f1)) (h2:ou X (xS X.K f2)) (h:∀ S x y v,f S x y v=f1 S x y v ∨ f S x y v=f2 S x y v):ou X (xS X.K f):=by
 rintro pins s σ H o i v ov iv u Q I ro ri ru ⟨w,S,x,y,z,S',hS,qx,qy,qz,hf,kk⟩
 rcases h S x y z with e | e
 ·exact h1 pins s σ H o i v ov iv u Q I ro ri ru ⟨w,S,x,y,z,S',hS,qx,qy,qz,e ▸ hf,kk⟩
 ·exact h2 pins s σ H o i v ov iv u Q I ro ri ru ⟨w,S,x,y,z,S',hS,qx,qy,qz,e ▸ hf,kk⟩
theorem iD {k:Nat} (hr:Room k X.A):ou X (xS X.K ez):=DK (zK hr) xp fun S x y v=>by
 unfold ez
 cases nG S x with
 | true=>exact .inl rfl
 | false=>exact .inr rfl
def fC (o a b:EM):EM:=fun r S=>(o r S).bind fun d S1=>if (dq S1 d).isSome=true then (a r S1).bind fun y S2=>(b r S2).bind fun z S3=>(match dq S3 d,jM y with
 | some kvs,some k=>R.ok ((gB kvs k).getD z) S3
 | _,_=>R.bad) else R.bad
theorem xw {o e f:Expr} {m:Str} {apos cpos:Pos} (h1:attributeBase o m X.env (eval o X.env)=eval o X.env) (h2:((backTo cpos (starEach [e,f] X.env)).all (fun x=>!x.1) && (backToKw cpos (keywordEach [] X.env)).all (fun x=>x.1.isSome)
 && decide (([e,f]:List Expr).length + ([]:List Keyword).length + (if ([]:List Keyword).isEmpty then 0 else 1) < 30))=true) (h3:(apos.endLine == cpos.line)=true) (h4:backTo cpos (starEach [e,f] X.env)=[(false,eval e X.env),(false,eval f X.env)]):M2 X o m apos e f cpos:=⟨h1,h2,h3,h4⟩
theorem oV {o e f:Expr} {mo ma mb:EM} {apos cpos:Pos} {k:Nat} (hr:Room k X.A) (ho:SE X E o mo) (ha:SE X E e ma) (hb:SE X E f mb) (m:M2 X o "get" apos e f cpos):SE X E (.Call (.Attribute o "get" apos) [e,f] [] cpos) (fC mo ma mb):=⟨
 bC (w9 (Room.hu hr) ho.out ha.out hb.out m) fun s H Q zq=>ex6 zq fun w r S hrr hS hp=>⟨w,r,S,hrr,hS,hp.bind hS fun d S1 w1 H1 v x1 q1 s1 p1=>by
  cases hd:dq S1 d with
  | none=>rw [hd] at p1; exact p1.elim
  | some kvs=>
   rw [hd] at p1
   obtain ⟨pp,us,rfl,rd,rk⟩:=gC s1 q1 hd
   refine ⟨pp,rfl,.inl ⟨us,rd⟩,w1,r,S1,hrr.ext x1,s1,aH.bind (rel:=RD X.K) p1 s1 fun y S2 w2 H2 vy x2 q2 s2 p2=>⟨w2,r,S2,(hrr.ext x1).ext x2,s2,aH.bind (rel:=RD X.K) p2 s2 fun z S3 w3 H3 vz x3 q3 s3 p3=>?_⟩⟩
   have q1':=RD.ext x3 _ _ (RD.ext x2 _ _ q1)
   have q2':=RD.ext x3 _ _ q2
   cases hd3:dq S3 d with
   | none=>rw [hd3] at p3; exact p3.elim
   | some kvs3=>
    cases hk:jM y with
    | none=>rw [hd3,hk] at p3; exact p3.elim
    | some ky=>
     rw [hd3,hk] at p3
     obtain ⟨pp3,us3,e3,rd3,rk3⟩:=gC s3 q1' hd3
     cases e3
     have ey:=jj q2' hk
     subst ey
     refine ⟨gQ us3 ky,.inl ⟨us3,ky,rd3,rfl,rfl⟩,?_⟩
     obtain ⟨g1,g2⟩:=rk3.get ky
     have p4:aH X.K E (RD X.K) w3 H3 (R.ok ((gB kvs3 ky).getD z) S3) Q:=p3
     cases hg:gB kvs3 ky with
     | none=>rw [hg] at p4; rw [g2 hg]; exact aH.ret p4 q3 s3
     | some dd=>rw [hg] at p4; obtain ⟨vd,hv,rv⟩:=g1 dd hg; rw [hv]; exact aH.ret p4 rv s3⟩⟩
end
end PD
namespace L2
open PySem PySem.Spec PyProof.Rows
theorem lI {P:Program} {w:World} {k:Key} {u:Value} (h:(aX P w).is k u=true):RelV (kV k) u:=by
 rw [si] at h
 cases k with
 | inl i=>obtain ⟨t,e⟩:=Value.isInt_shape (k:=i) (v:=u) h; exact ⟨t,e⟩
 | inr x=>obtain ⟨t,e⟩:=Value.isStrOf_shape (x:=x) (v:=u) h; exact ⟨t,e⟩
theorem KV.getI {kvs:List (Key × V)} {vs:List (Key × Value)} (r:KV kvs vs) {i:Nat} {k:Key} {x:V} (h:kvs[i]?=some (k,x)):∃ v,vs[i]?=some (k,v)∧RelV x v:=by
 unfold KV at r
 induction r generalizing i with
 | nil=>simp at h
 | cons hd tl ih=>
  cases i with
  | zero=>
   simp at h
   rename_i p q _ _
   obtain ⟨e,rv⟩:=hd
   subst h
   exact ⟨q.2,by simp; exact Prod.ext e.symm rfl,rv⟩
  | succ i=>simpa using ih (by simpa using h)
def Iti (a:Addr) (o:Obj) (us:List (Key × V)):It:=
  ⟨fun i H=>H a=some (.frz o (.dK us))∧∃ kv,us[i]?=some kv,
   fun i H v H'=>∃ p k x,v=.ref p∧H p=none∧H'=upd H p (.tup [kV k,x])∧us[i]?=some (k,x),
   fun i H=>H a=some (.frz o (.dK us))∧us.length≤i⟩
theorem oW {X:Cx} {pins:List (Addr × Obj)} {σ:St} {H:Hp} {s:Shared} {a:Addr} {o:Obj} {us:List (Key × V)} {es:Array DictEntry} {ep:Nat} (I:Inv X pins σ H s) (h:H a=some (.frz o (.dK us))) (ed:o.data=.dict es ep):
  ∃ vs,KV us vs∧s.heap.DictAt (aX X.prog X.w) a vs ep∧(a == sysModules)=false:=by
 obtain ⟨e,z,hd,vs,rel,⟨o',es',ep',ho,hx,hdat,k1,k2,k3⟩⟩:s.heap.get? a=some o∧bF X.prog X.w H s.heap a (.dK us):=I.hok a _ h
 rw [e] at ho; cases ho
 rw [ed] at hdat; cases hdat
 exact ⟨vs,rel,⟨o,es,e,hx,ed,k1,k2,k3⟩,hd⟩
theorem oX:entryFor table "dict_itemiterator.__iter__" = some Builtin.«dict_keyiterator.__iter__»:=
 entryFor_alias (id':="dict_keyiterator.__iter__") (by kernel_rfl) (by first | rfl | decide +kernel | (unfold String.splitOn; simp +decide [String.splitOnAux])) (by decide +kernel) (by kernel_rfl)
theorem qT {prog:Program} {w:World} {A:Around} {E:Value→Shared→Prop} {s:Shared} {it d:Addr} {i n ep:Nat} {ok ov:Value} {Q:Value→Shared→Prop} (hz:IsItemIter s.heap it d i n ep ok ov) (h:Q (.ref it) s):wpAny (model prog w) A (pyIter (.ref it)) Q E s:=by
 have hT:s.TypeIs (.ref it) "dict_itemiterator":=⟨_,hz,rfl⟩
 refine wpAny_pyIter_slot hT F.slot_dict_itemiterator_iter (wpAny_call_entry F.slot_dict_itemiterator_iter hT oX ?_ (F.args_dict_itemiterator_iter_1 _))
 show wpAny _ _ (ret (.ref it)) _ _ s
 exact wpAny_pure ⟨_,rfl,"dict_itemiterator",_,hT,F.slot_dict_itemiterator_next.lookup,h⟩
theorem sR {P:Program} {w:World} {K:PySem.W.Frag} {es:List Expr} {n:Nat} {pos:Pos} (it a:Addr) (o:Obj) (us:List (Key × V)) (ee:Array DictEntry) (ep:Nat) (ed:o.data=.dict ee ep) (na:a ≠ it):
  Turn false P w K (.Tuple es n pos) (Iti a o us) [it] it (fun i h=>∃ ok ov,IsItemIter h it a i us.length ep ok ov) where
 mem:=by simp
 obj:=fun i h ⟨ok,ov,st⟩ c hc=>by
  simp only [List.mem_cons,List.not_mem_nil,or_false] at hc
  subst hc
  exact ⟨_,st,fun v z=>by cases z⟩
 keep:=fun i h h' ⟨ok,ov,st⟩ q=>⟨ok,ov,q it (by simp) _ st⟩
 item:=by
  intro X hP hw hK hc i pins s σ H E I hf ⟨ok,ov,st⟩ hg
  subst hP hw hK
  obtain ⟨ha,⟨k,x⟩,hx⟩:=hg
  obtain ⟨vs,rel,dd,_⟩:=oW I ha ed
  obtain ⟨v,hv,rv⟩:=rel.getI hx
  have hl:=rel.length
  rw [hl] at st
  have hlt:∀ c ∈ [it],c < s.heap.objs.size:=fun c hc=>by
   simp only [List.mem_cons,List.not_mem_nil,or_false] at hc
   subst hc
   exact Heap.lt_size st
  refine wpAny_pyNext_items_item st dd hv fun key h' hk a1 a2 a3 a4=>⟨_,rfl,?_⟩
  refine wpAny_letOwnedTupleGo_items (s:={ s with heap:=h' }) a1 fun h2' hz' hs'=>?_
  have up:∀ c ob,c ≠ it→h'.get? c=some ob→h2'.get? c=some ob:=fun c ob n q=>SQ.sb hs' n q
  refine ⟨.ref s.heap.objs.size,_,I.turnedP (t':=s.toks) (h':=h2') hf hlt (lI hk) rv (fun c ob hc q=>up c ob (fun r=>hc (by simp [r])) (a4 c ob (fun r=>hc (by simp [r])) q)) (up _ _ (Nat.ne_of_gt (Heap.lt_size st)) a2),rfl,
   ⟨_,k,x,rfl,I.fresh,rfl,hx⟩,⟨_,_,by rw [hl]; exact hz'⟩,zI hf hlt⟩
 done:=by
  intro X hP hw hK hc i pins s σ H E I hf ⟨ok,ov,st⟩ hg
  subst hP hw hK
  obtain ⟨ha,hx⟩:=hg
  obtain ⟨vs,rel,dd,_⟩:=oW I ha ed
  have hl:=rel.length
  rw [hl] at st
  exact wpAny_pyNext_items_end (I.ok.hd hc.cm) st dd (by simp; omega) fun h' eb=>⟨rfl,I.turnedS (t':=s.toks) (fun b ob hb q=>eb b ob (fun r=>hb (by simp [r])) q) hf⟩
 self:=fun _ _ _ _ _ ⟨_,_,st⟩ h=>qT st h
theorem Inv.freeze {X:Cx} {pins:List (Addr × Obj)} {σ:St} {H:Hp} {s:Shared} {a:Addr} {us:List (Key × V)} (I:Inv X pins σ H s) (h:H a=some (.dK us)):∃ o,Inv X pins σ (upd H a (.frz o (.dK us))) s:=by
 obtain ⟨z,hd,vs,rel,⟨o,es,ep,ho,r⟩⟩:bF X.prog X.w H s.heap a (.dK us):=I.hok a _ h
 have I2:Inv X pins σ (upd H a (.frz o (.dK us))) { s with heap:=s.heap,toks:=s.toks }:=I.write (x:=a) (e:=a) (by rw [h]; exact True.intro) (.inl rfl) (fun b u _ q=>q) ⟨o,ho⟩ ⟨ho,z,hd,vs,rel,⟨o,es,ep,ho,r⟩⟩
 exact ⟨o,I2⟩
def Cj (td:TE):TI:=fun σ H R=>td σ H fun x H1=>∃ a us,x=.ref a∧((H1 a=some (.dK us)∧∀ o,R (Iti a o us) (upd H1 a (.frz o (.dK us)))) ∨ ∃ o,H1 a=some (.frz o (.dK us))∧R (Iti a o us) H1)
theorem xx {X:Cx} {es:List Expr} {n:Nat} {tp:Pos} {d:Expr} {td:TE} {apos pos:Pos} (hd:PE X d td) (hbase:autoParam (attributeBase d "items" X.env (eval d X.env)=eval d X.env) Au.h0._auto_1) (hline:autoParam ((apos.endLine == pos.line)=true) Au.h0._auto_1)
  (hfew:autoParam (((backTo pos (starEach [] X.env)).all (fun x=>!x.1) && (backToKw pos (keywordEach [] X.env)).all (fun x=>x.1.isSome) && decide (([]:List Expr).length + ([]:List Keyword).length + (if ([]:List Keyword).isEmpty then 0 else 1) < 30))=true) Au.h0._auto_1):
  PI X (.Tuple es n tp) (.Call (.Attribute d "items" apos) [] [] pos) (Cj td):=by
 intro pins s σ H R I h
 refine wpAny_Call_method (T:="dict") (id:="dict.items") hbase hfew hline F.plainAttrs_dict F.slot_dict_items F.type_dict_items (thn (hd pins s σ H _ I h) fun u s1 zq=>?_)
 obtain ⟨x,H1,I1,rx,a,us,ex,q1⟩:=zq
 subst ex
 obtain rfl:u=Value.ref a:=rx
 have main:∀ (H2:Hp) (o:Obj),Inv X pins σ H2 s1→H2 a=some (.frz o (.dK us))→R (Iti a o us) H2→s1.TypeIs (.ref a) "dict"∧(∀ b,Value.ref a=.ref b→∃ ob,s1.heap.get? b=some ob∧ob.dict=none)∧
   wpAny (model X.prog X.w) X.A (callWith pos (.builtin "dict.items") [.ref a] (backTo pos (starEach [] X.env)) []) (fun v s2=>wpAny (model X.prog X.w) X.A (pyIter v) (PIE X pins σ (.Tuple es n tp) R) X.xe s2) X.xe s1:=fun H2 o I2 hH2 q=>by
  obtain ⟨t1,t2,t3⟩:=w8 I2 (a:=a) (.inl ⟨us,.inr ⟨o,hH2⟩⟩)
  refine ⟨t1,t2,?_⟩
  obtain ⟨eo,z,hdd,vs,rel,⟨o',ee,ep,ho,hx,hdat,k1,k2,k3⟩⟩:s1.heap.get? a=some o∧bF X.prog X.w H2 s1.heap a (.dK us):=I2.hok a _ hH2
  rw [eo] at ho; cases ho
  have dat:s1.heap.DictAt (aX X.prog X.w) a vs ep:=⟨o,ee,eo,hx,hdat,k1,k2,k3⟩
  show wpAny _ _ (callWith pos (.builtin "dict.items") [.ref a] [] []) _ _ s1
  refine method_meetsIn F.slot_dict_items F.entry_dict_items rfl (PySem.evalArgs_none ⟨rfl,t1,F.args_dict_items_1 _,_,meets_dict_items (aX X.prog X.w) a t3,⟨vs,dat.dictOf⟩,?_⟩)
  have I3:Inv X pins σ H2 { s1 with heap:=s1.heap.push { cls:=.type "dict_items",data:=.fields #[.ref a] } }:=I2.kept (t':=s1.toks) fun b u e=>Heap.get?_push_of_some _ e
  refine wpAny_pyIter_items (s:={ s1 with heap:=s1.heap.push { cls:=.type "dict_items",data:=.fields #[.ref a] } }) ⟨_,Heap.get?_push_size _ rfl,rfl,rfl⟩ (dat.push _) ?_
  have hl:=rel.length
  have la:a < s1.heap.objs.size:=Heap.lt_size eo
  have sz:({ s1 with heap:=s1.heap.push { cls:=.type "dict_items",data:=.fields #[.ref a] } }:Shared).heap.objs.size=s1.heap.objs.size + 1:=Heap.size_push ..
  refine ⟨_,[_],_,_,H2,rfl,I3.kept (t':=s1.toks) fun b u e=>Heap.get?_push_of_some _ e,sR _ a o us ee ep hdat (by rw [sz]; exact Nat.ne_of_lt (Nat.lt_succ_of_lt la)),⟨.none,.none,by rw [hl]; exact Heap.get?_push_size _ rfl⟩,fun c hc=>?_,q⟩
  have ec:c=({ s1 with heap:=s1.heap.push { cls:=.type "dict_items",data:=.fields #[.ref a] } }:Shared).heap.objs.size:=by simpa using hc
  subst ec
  exact I3.fpOk (Nat.le_refl _) (I3.hok.fresh (Nat.le_refl _))
 rcases q1 with ⟨hH,q⟩ | ⟨o,hH,q⟩
 ·obtain ⟨o,I2⟩:=I1.freeze hH
  exact main _ o I2 aI (q o)
 ·exact main _ o I1 hH q
end L2
namespace PD
open PySem PySem.Spec PyProof.Rows L2
def kD:KD→D
 | .inl i=>.int i
 | .inr x=>.str x
def pairD (kv:KD × D):D:=.tup [kD kv.1,kv.2]
def fG (m:EM):AM:=fun r S=>(m r S).bind fun d S1=>match d with
 | .ref n=>match S1[n]? with
  | some (.dic kvs)=>.ok (kvs.map pairD) (S1.set n (.fdic kvs))
  | some (.fdic kvs)=>.ok (kvs.map pairD) S1
  | _=>.bad
 | _=>.bad
theorem RDk.getI {K:PySem.W.Frag} {w:Wd} {H:Hp}:∀ {ds:List (KD × D)} {us:List (Key × V)} {i:Nat} {k:KD} {d:D},RDk K w H ds us→ds[i]?=some (k,d)→∃ v,us[i]?=some (k,v)∧RD K w H d v
 | [],_,_,_,_,_,h=>by simp at h
 | (j,e) :: ds,_,i,k,d,q,h=>by
  obtain ⟨v,r,rfl,p,t⟩:=q.cons_inv
  cases i with
  | zero=>simp at h; obtain ⟨rfl,rfl⟩:=h; exact ⟨v,by simp,p⟩
  | succ i=>simpa using RDk.getI t (by simpa using h)
theorem xy {K:PySem.W.Frag} {w:Wd} {H:Hp} (k:KD):RD K w H (kD k) (kV k):=by
 cases k with
 | inl i=>unfold kD RD; rfl
 | inr x=>unfold kD RD; rfl
theorem qU {K:PySem.W.Frag} {w:Wd} {H:Hp} {a:Addr} {o:Obj} {kvs:List (KD × D)} {us:List (Key × V)} (hst:∀ w' H',Ext w H w' H'→H' a=some (.frz o (.dK us))) (rk:RDk K w H kvs us):RI K w H (kvs.map pairD) (Iti a o us):=by
 intro i w' H' x'
 have rk':=RDk.ext x' _ _ rk
 have hl:=rk.length
 have ha:=hst w' H' x'
 refine ⟨fun hi=>?_,fun hi=>⟨ha,by rw [List.length_map] at hi; omega⟩⟩
 rw [List.length_map] at hi
 refine ⟨⟨ha,us[i]'(by omega),List.getElem?_eq_getElem _⟩,fun v H'' y=>?_⟩
 obtain ⟨p,k,x,rfl,hp,rfl,hx⟩:=y
 obtain ⟨v2,e2,r2⟩:=rk'.getI (i:=i) (k:=kvs[i].1) (d:=kvs[i].2) (by rw [List.getElem?_eq_getElem hi])
 rw [hx] at e2
 cases e2
 refine ⟨.inr ⟨p,_,hp,rfl⟩,fun S hS=>⟨pairD kvs[i],by simp [hi],?_⟩⟩
 unfold pairD RD
 refine ⟨p,[kV kvs[i].1,x],rfl,.inl ⟨aI,hS.fresh hp⟩,?_⟩
 unfold RDs RDs RDs
 exact ⟨_,_,rfl,xy _,_,_,rfl,RD.ext (Ext.new hp) _ _ r2,rfl⟩
section
variable {X:Cx} {E:XK}
theorem hZ {es:List Expr} {n:Nat} {tp:Pos} {d:Expr} {md:EM} {apos pos:Pos} (ha:SE X E d md) (hbase:autoParam (attributeBase d "items" X.env (eval d X.env)=eval d X.env) Au.h0._auto_1) (hline:autoParam ((apos.endLine == pos.line)=true) Au.h0._auto_1)
  (hfew:autoParam (((backTo pos (starEach [] X.env)).all (fun x=>!x.1) && (backToKw pos (keywordEach [] X.env)).all (fun x=>x.1.isSome) && decide (([]:List Expr).length + ([]:List Keyword).length + (if ([]:List Keyword).isEmpty then 0 else 1) < 30))=true) Au.h0._auto_1):
  SI X E (.Tuple es n tp) (.Call (.Attribute d "items" apos) [] [] pos) (fG md):=⟨
 gy (xx ha.out hbase hline hfew) fun s H Q zq=>ex6 zq fun w r S hr hS hp=>⟨w,r,S,hr,hS,hp.bind hS fun d S1 w1 H1 v x1 q1 s1 p1=>by
  cases d with
  | ref m=>
   obtain ⟨pp,rfl,hp⟩:=q1.refI
   have hm:pp ∈ w1.st:=List.mem_of_getElem? hp
   cases e:S1[m]? with
   | none=>simp only [e] at p1; exact p1.elim
   | some ob=>
    obtain ⟨p',hp',ro⟩:=s1.obj _ _ e
    rw [hp] at hp'; cases hp'
    cases ob with
    | dic kvs=>
     simp only [e] at p1
     obtain ⟨us,hv,rk⟩:=ro
     refine ⟨pp,us,rfl,.inl ⟨hv,fun o=>?_⟩⟩
     have rk':=RDk.ext (Ext.mut hm hv (o:=.frz o (.dK us))) _ _ rk
     exact aH.at p1 (Ext.mut hm hv) (qU (fun w' H' x'=>x'.frz _ _ _ aI) rk') (s1.mut hp hv ⟨o,us,aI,rk'⟩)
    | fdic kvs=>
     simp only [e] at p1
     obtain ⟨o,us,hv,rk⟩:=ro
     exact ⟨pp,us,rfl,.inr ⟨o,hv,aH.ret p1 (qU (fun w' H' x'=>x'.frz _ _ _ hv) rk) s1⟩⟩
    | lst xs=>simp only [e] at p1; exact p1.elim
    | ins c fs=>simp only [e] at p1; exact p1.elim
    | flst xs=>simp only [e] at p1; exact p1.elim
  | _=>exact p1.elim⟩⟩
end
end PD
namespace PD
open PySem PySem.Spec PyProof.Rows L2
def TupAt (K:PySem.W.Frag) (mg:Str→Option Value) (x:Str) (is:List Int):Prop:=∃ a,mg x=some (.ref a)∧qG K a (is.map .int)
section
variable {X:Cx} {E:XK}
theorem rdi {K:PySem.W.Frag} {w:Wd} {H:Hp}:∀ is:List Int,RDs K w H (is.map .int) (is.map .int)
 | []=>.nil
 | i :: is=>.cons (by unfold RD; rfl) (rdi is)
theorem xA {x:Str} {is:List Int} {pos:Pos} (h:TupAt X.K X.mg x is) (hg:Gl X x) (hd:autoParam ((x == ("__debug__":Str))=false) Au.h3._auto_1):SE X E (.Name x pos) (eC (.tup (is.map .int))):=by
 obtain ⟨a,hm,k⟩:=h
 exact vU (ud hg hm (v:=.ref a) rfl hd) fun _ _=>by unfold RD; exact ⟨a,_,rfl,.inr k,rdi is⟩
end
theorem zL {K:PySem.W.Frag} {h:Heap} {mg:Str→Option Value} (X:K.In h) (G:h.Ns mainGlobals mg) {x:Str} {a:Addr} {od:Option Addr} {n:Nat} {sl:Array (Option Value)} {i j:Int} {t1 t2:Tok} (hn:PySem.W.nsIn K mainGlobals x=some (some (.ref a))) (hl:K.lookup a=some ⟨.type "tuple",od,.seq #[.int i t1,.int j t2] n,sl⟩):TupAt K mg x [i,j]:=
 ⟨a,PySem.W.mg_of X G hn,_,_,n,hl,rfl,rfl,by show 2≤sizeLine; decide,.cons ⟨t1,rfl⟩ (.cons ⟨t2,rfl⟩ .nil)⟩
theorem zM {K:PySem.W.Frag} {h:Heap} {mg:Str→Option Value} (X:K.In h) (G:h.Ns mainGlobals mg) {x:Str} {a:Addr} {od:Option Addr} {n:Nat} {sl:Array (Option Value)} {i j k:Int} {t1 t2 t3:Tok} (hn:PySem.W.nsIn K mainGlobals x=some (some (.ref a))) (hl:K.lookup a=some ⟨.type "tuple",od,.seq #[.int i t1,.int j t2,.int k t3] n,sl⟩):TupAt K mg x [i,j,k]:=
 ⟨a,PySem.W.mg_of X G hn,_,_,n,hl,rfl,rfl,by show 3≤sizeLine; decide,.cons ⟨t1,rfl⟩ (.cons ⟨t2,rfl⟩ (.cons ⟨t3,rfl⟩ .nil))⟩
section
variable {K:PySem.W.Frag} {w:Wd} {H:Hp}
theorem Mv.adopt {p:Addr} {o:HO} (hh:p ∈ w.hid):Mv w H ((w.unhide p).add p) (upd H p o):=
  ⟨fun n a h=>by
      show (w.st ++ [p])[n]?=some a
      rw [List.getElem?_append_left (List.getElem?_eq_some_iff.mp h).1]; exact h,
   fun a u h=>⟨by rw [aG (fun z:a=p=>h.2.2 (z ▸ hh))]; exact h.1,fun z=>by
      rcases List.mem_append.mp z with z | z
      · exact h.2.1 z
      · exact h.2.2 (by rw [List.mem_singleton.mp z]; exact hh),fun z=>h.2.2 (Wd.mem_unhide z).1⟩⟩
theorem RS.adopt {p:Addr} {o:HO} {so:SO} {S:Sto} (s:RS K w H S) (hh:p ∈ w.hid) (r:RO K ((w.unhide p).add p) (upd H p o) p so):RS K ((w.unhide p).add p) (upd H p o) (S ++ [so]):=by
 have np:=(s.hid p hh).1
 refine ⟨?_,by simp [Wd.add,Wd.unhide,s.len],fun n so' e=>?_,fun a ha=>?_⟩
 ·show (w.st ++ [p]).Nodup
  rw [List.nodup_append]
  exact ⟨s.nd,by simp,fun a ha b hb=>by
   have:b=p:=by simpa using hb
   subst this
   rintro rfl
   exact np ha⟩
 ·by_cases hn:n < S.length
  ·rw [List.getElem?_append_left hn] at e
   obtain ⟨a,ha,q⟩:=s.obj n so' e
   have ne:a ≠ p:=fun z=>np (z ▸ List.mem_of_getElem? ha)
   exact ⟨a,(Mv.adopt (H:=H) (o:=o) hh).st n a ha,q.mv (Mv.adopt hh) fun u z=>by rw [aG ne]; exact z⟩
  ·have hn':n=S.length:=by
    have:=(List.getElem?_eq_some_iff.mp e).1
    simp at this; omega
   subst hn'
   simp at e; subst e
   exact ⟨p,by show (w.st ++ [p])[S.length]?=some p; rw [← s.len]; simp,r⟩
 ·obtain ⟨h1,h2⟩:=Wd.mem_unhide ha
  obtain ⟨h3,u,e⟩:=s.hid a h1
  refine ⟨?_,u,by rw [aG h2]; exact e⟩
  show a ∉ w.st ++ [p]
  intro z
  rcases List.mem_append.mp z with z | z
  ·exact h3 z
  ·exact h2 (by simpa using z)
end
section
variable {X:Cx} {E:XK} {pos:Pos}
theorem uJ {keys:List (Option Expr)} {values:List Expr} {ms:List (EM × EM)} (h:SPs X E pos keys values ms) (hall:autoParam (keys.all (·.isSome)=true) Au.h0._auto_1) (hl:autoParam (keys.length=values.length) Au.h0._auto_1) (h0:keys ≠ []:=by intro z; cases z) (h15:autoParam (keys.length≤15) Au.h3._auto_1):
  SE X E (.Dict keys values pos) (ly ms):=⟨
 bC (zt h.out hall hl h0 h15) fun s H Q q=>vX (keys:=keys) (values:=values) (m:=ly ms) (fin:=fun kvs S1=>R.ok (D.ref S1.length) (S1 ++ [SO.dic (fV [] kvs)])) (fun r S=>rfl) (fun kvs us w0 w H0 H S0 S p hp s0 s x hh rk p1=>by
  have hpn:=(s.hid p hh).1
  refine aH.at p1 (w1:=(w.unhide p).add p) ⟨fun a o h n=>by rw [aG (aQ h hp)]; exact x.keep a o h n,?_,fun a h=>List.mem_filter.mpr ⟨x.hid a h,decide_eq_true fun z=>(s0.fresh hp).2 (z ▸ h)⟩,fun a h=>x.hnew a (Wd.mem_unhide h).1,fun a o u h=>by rw [aG (aQ h hp)]; exact x.frz a o u h⟩ ?_ (s.adopt hh ⟨_,aI,RDk.mv (Mv.adopt hh) _ _ rk⟩)
  ·obtain ⟨l,e,f⟩:=x.sub
   exact ⟨l ++ [p],by show w.st ++ [p]=_; rw [e,List.append_assoc],fun a ha=>(List.mem_append.mp ha).elim (f a) fun z=>by rw [List.mem_singleton.mp z]; exact hp⟩
  ·unfold RD
   exact ⟨p,rfl,by show (w.st ++ [p])[S.length]?=some p; rw [← s.len]; simp⟩) q⟩
def nH:EM:=fun _ S=>.ok (.ref S.length) (S ++ [.dic []])
theorem oY:SE X E (.Dict [] [] pos) nH:=⟨
 bC qF fun s H Q zq=>ex6 zq fun w r S hr hS hp=>fun p hpn=>aH.at hp (Ext.alloc hpn) hS.lastRef (hS.alloc hpn ⟨[],aI,RDk.nil⟩)⟩
end
end PD
namespace PD
open PySem PySem.Spec PyProof.Rows L2
def fN:Int→List Int→Int
 | m,[]=>m
 | m,x :: r=>fN (if x < m then x else m) r
theorem oZ:∀ (l:List Int) (m:Int),(fN m l≤m∧∀ x ∈ l,fN m l≤x)∧(fN m l=m ∨ fN m l ∈ l)
 | [],m=>⟨⟨Int.le_refl _,fun x h=>nomatch h⟩,.inl rfl⟩
 | x :: r,m=>by
  obtain ⟨⟨h1,h2⟩,h3⟩:=oZ r (if x < m then x else m)
  show (fN (if x < m then x else m) r≤m∧∀ y ∈ x :: r,fN (if x < m then x else m) r≤y)∧(fN (if x < m then x else m) r=m ∨ fN (if x < m then x else m) r ∈ x :: r)
  generalize fN (if x < m then x else m) r=z at *
  by_cases hx:x < m
  ·rw [if_pos hx] at h1 h3
   refine ⟨⟨by omega,fun y hy=>?_⟩,.inr ?_⟩
   ·rcases List.mem_cons.mp hy with e | hy
    ·rw [e]; exact h1
    ·exact h2 y hy
   ·rcases h3 with e | h3
    ·rw [e]; exact .head _
    ·exact .tail _ h3
  ·rw [if_neg hx] at h1 h3
   refine ⟨⟨h1,fun y hy=>?_⟩,?_⟩
   ·rcases List.mem_cons.mp hy with e | hy
    ·rw [e]; omega
    ·exact h2 y hy
   ·rcases h3 with e | h3
    ·exact .inl e
    ·exact .inr (.tail _ h3)
def nI (S:Sto):D→Option (List D)
 | .lst a=>some a
 | .ref n=>match S[n]? with
  | some (.lst a)=>some a
  | _=>none
 | _=>none
section
variable {X:Cx} {E:XK}
theorem sS {K:PySem.W.Frag} {w:Wd} {H:Hp} {S:Sto} {d:D} {v:V} {a:List D} (s:RS K w H S) (q:RD K w H d v) (h:nI S d=some a):∃ p vs,v=.ref p∧SqL K H p vs∧RDs K w H a vs:=by
 unfold nI at h
 split at h
 ·cases h; obtain ⟨p,vs,e,z,r⟩:=q.lstI; exact ⟨p,vs,e,SqL.of z.1,r⟩
 ·rename_i n
  split at h
  ·rename_i e; cases h
   obtain ⟨p,rfl,hp⟩:=q.refI
   obtain ⟨p',hp',vs,hv,r⟩:=s.obj _ _ e
   rw [hp] at hp'; cases hp'
   exact ⟨p,vs,rfl,SqL.of hv,r⟩
  ·cases h
 ·cases h
end
end PD
namespace L2
open PySem PySem.Spec PyProof.Rows
section
variable {X:Cx} {tg:Expr}
end
end L2
namespace PD
open PySem PySem.Spec PyProof.Rows L2
section
variable {X:Cx} {E:XK} {a b c:Expr} {pos:Pos}
end
end PD
namespace PySem
open PyProof.Rows
namespace F
end F
section
variable {prog:Program} {w:World} {A:Around} {E:Value→Shared→Prop} {s:Shared}
end
end PySem
namespace L2
open PySem PySem.Spec PyProof.Rows
section
variable {X:Cx} {tg:Expr}
end
end L2
namespace PD
open PySem PySem.Spec PyProof.Rows L2
section
variable {X:Cx} {E:XK} {a:Expr} {pos:Pos}
end
end PD
namespace PD
open PySem PySem.Spec PyProof.Rows L2
section
variable {X:Cx} {E:XK} {pos:Pos}
theorem zN:SE X E (.Dict [] [] pos) (DI []):=⟨
 bC qF fun s H Q zq=>ex6 zq fun w r S hr hS hp=>fun p hpn=>aH.at (show aH X.K E (RD X.K) w H (R.ok (D.dic []) S) Q from hp) (Ext.new hpn) (by unfold RD; exact ⟨p,[],rfl,⟨aI,hS.fresh hpn⟩,RDk.nil⟩) (hS.new hpn)⟩
end
end PD
namespace L2
open PySem PySem.Spec PyProof.Rows
def Itk (a:Addr) (o:Obj) (us:List (Key × V)):It:=
  ⟨fun i H=>H a=some (.frz o (.dK us))∧∃ kv,us[i]?=some kv,
   fun i H v H'=>H'=H∧∃ k x,v=kV k∧us[i]?=some (k,x),
   fun i H=>H a=some (.frz o (.dK us))∧us.length≤i⟩
theorem v5 {P:Program} {w:World} {K:PySem.W.Frag} {tg:Expr} (it a:Addr) (o:Obj) (us:List (Key × V)) (ee:Array DictEntry) (ep:Nat) (ed:o.data=.dict ee ep):
  Turn false P w K tg (Itk a o us) [it] it (fun i h=>h.IsKeyIter it a i us.length ep) where
 mem:=by simp
 obj:=fun i h st b hb=>by
  have e:b=it:=by simpa using hb
  subst e
  obtain ⟨ob,e,c,d⟩:=st
  exact ⟨ob,e,fun v z=>by rw [d] at z; cases z⟩
 keep:=fun i h h' st k=>st.at fun ob e=>k it (by simp) ob e
 item:=by
  intro X hP hw hK hc i pins s σ H E I hf st hg
  subst hP hw hK
  obtain ⟨ha,⟨k,x⟩,hx⟩:=hg
  obtain ⟨vs,rel,dd,_⟩:=oW I ha ed
  obtain ⟨v,hv,rv⟩:=rel.getI hx
  have hl:=rel.length
  rw [hl] at st
  obtain ⟨f0,f1,f2,f3,f4,f5⟩:=hf it (by simp)
  refine wpAny_pyNext_dict_item st dd hv fun key h' hk st' sb=>?_
  have I1:Inv X pins σ H { s with heap:=h' }:=I.turned (t':=s.toks) (fun b ob hb e=>(sb.2 b hb).trans e) f0 f1 f3 f4 f5
  rw [← hl] at st'
  obtain ⟨ob,e,c,d⟩:=id st'
  exact ⟨key,rfl,ue (s:={ s with heap:=h' }) e c d (by decide) ⟨kV k,H,I1,lI hk,⟨rfl,k,x,rfl,hx⟩,st',fun b hb=>(hf b hb).1⟩⟩
 done:=by
  intro X hP hw hK hc i pins s σ H E I hf st hg
  subst hP hw hK
  obtain ⟨ha,hx⟩:=hg
  obtain ⟨vs,rel,dd,_⟩:=oW I ha ed
  have hl:=rel.length
  rw [hl] at st
  obtain ⟨f0,f1,f2,f3,f4,f5⟩:=hf it (by simp)
  exact wpAny_pyNext_dict_end (I.ok.hd hc.cm) st dd (by simp; omega) fun h' eb=>⟨rfl,I.turned (t':=s.toks) (fun b ob hb e=>eb b ob hb e) f0 f1 f3 f4 f5⟩
 self:=fun _ _ _ _ _ st h=>wpAny_pyIter_keyiter st h
section
variable {X:Cx} {tg:Expr}
def DL (td:TE):TI:=fun σ H R=>td σ H fun x H1=>∃ a us,x=.ref a∧((H1 a=some (.dK us)∧∀ o,R (Itk a o us) (upd H1 a (.frz o (.dK us)))) ∨ ∃ o,H1 a=some (.frz o (.dK us))∧R (Itk a o us) H1)
theorem zO {d:Expr} {td:TE} (hd:PE X d td):PI X tg d (DL td):=by
 intro pins s σ H R I h
 refine thn (hd pins s σ H _ I h) fun u s1 zq=>?_
 obtain ⟨x,H1,I1,rx,a,us,ex,q1⟩:=zq
 subst ex
 obtain rfl:u=Value.ref a:=rx
 have main:∀ (H2:Hp) (o:Obj),Inv X pins σ H2 s1→H2 a=some (.frz o (.dK us))→R (Itk a o us) H2→wpAny (model X.prog X.w) X.A (pyIter (.ref a)) (PIE X pins σ tg R) X.xe s1:=fun H2 o I2 hH2 q=>by
  obtain ⟨eo,z,hdd,vs,rel,⟨o',ee,ep,ho,hx,hdat,k1,k2,k3⟩⟩:s1.heap.get? a=some o∧bF X.prog X.w H2 s1.heap a (.dK us):=I2.hok a _ hH2
  rw [eo] at ho; cases ho
  have dat:s1.heap.DictAt (aX X.prog X.w) a vs ep:=⟨o,ee,eo,hx,hdat,k1,k2,k3⟩
  have hl:=rel.length
  refine wpAny_pyIter_dict hdd dat ?_
  refine ⟨s1.heap.objs.size,[s1.heap.objs.size],_,_,H2,rfl,I2.kept (t':=s1.toks) fun b u e=>Heap.get?_push_of_some _ e,v5 _ a o us ee ep hdat,⟨_,Heap.get?_push_size _ rfl,rfl,by rw [hl]; rfl⟩,fun b hb=>?_,q⟩
  have e:b=s1.heap.objs.size:=by simpa using hb
  subst e
  exact I2.fpOk (Nat.le_refl _) (I2.hok.fresh (Nat.le_refl _))
 rcases q1 with ⟨hH,q⟩ | ⟨o,hH,q⟩
 ·obtain ⟨o,I2⟩:=I1.freeze hH
  exact main _ o I2 aI (q o)
 ·exact main _ o I1 hH q
end
end L2
namespace PD
open PySem PySem.Spec PyProof.Rows L2
def nJ (m:EM):AM:=fun r S=>(m r S).bind fun d S1=>match d with
 | .ref n=>match S1[n]? with
  | some (.dic kvs)=>.ok (kvs.map fun kv=>kD kv.1) (S1.set n (.fdic kvs))
  | some (.fdic kvs)=>.ok (kvs.map fun kv=>kD kv.1) S1
  | _=>.bad
 | _=>.bad
theorem uK {K:PySem.W.Frag} {w:Wd} {H:Hp} {a:Addr} {o:Obj} {kvs:List (KD × D)} {us:List (Key × V)} (hst:∀ w' H',Ext w H w' H'→H' a=some (.frz o (.dK us))) (rk:RDk K w H kvs us):RI K w H (kvs.map fun kv=>kD kv.1) (Itk a o us):=by
 intro i w' H' x'
 have rk':=RDk.ext x' _ _ rk
 have hl:=rk.length
 have ha:=hst w' H' x'
 refine ⟨fun hi=>?_,fun hi=>⟨ha,by rw [List.length_map] at hi; omega⟩⟩
 rw [List.length_map] at hi
 refine ⟨⟨ha,us[i]'(by omega),List.getElem?_eq_getElem _⟩,fun v H'' y=>?_⟩
 obtain ⟨rfl,k,x,rfl,hx⟩:=y
 obtain ⟨v2,e2,r2⟩:=rk'.getI (i:=i) (k:=kvs[i].1) (d:=kvs[i].2) (by rw [List.getElem?_eq_getElem hi])
 rw [hx] at e2
 cases e2
 exact ⟨.inl rfl,fun S hS=>⟨kD kvs[i].1,by simp [hi],xy _⟩⟩
section
variable {X:Cx} {E:XK}
theorem zP {tg:Expr} {d:Expr} {md:EM} (ha:SE X E d md):SI X E tg d (nJ md):=⟨
 gy (zO ha.out) fun s H Q zq=>ex6 zq fun w r S hr hS hp=>⟨w,r,S,hr,hS,hp.bind hS fun d S1 w1 H1 v x1 q1 s1 p1=>by
  cases d with
  | ref m=>
   obtain ⟨pp,rfl,hp⟩:=q1.refI
   have hm:pp ∈ w1.st:=List.mem_of_getElem? hp
   cases e:S1[m]? with
   | none=>simp only [e] at p1; exact p1.elim
   | some ob=>
    obtain ⟨p',hp',ro⟩:=s1.obj _ _ e
    rw [hp] at hp'; cases hp'
    cases ob with
    | dic kvs=>
     simp only [e] at p1
     obtain ⟨us,hv,rk⟩:=ro
     refine ⟨pp,us,rfl,.inl ⟨hv,fun o=>?_⟩⟩
     have rk':=RDk.ext (Ext.mut hm hv (o:=.frz o (.dK us))) _ _ rk
     exact aH.at p1 (Ext.mut hm hv) (uK (fun w' H' x'=>x'.frz _ _ _ aI) rk') (s1.mut hp hv ⟨o,us,aI,rk'⟩)
    | fdic kvs=>
     simp only [e] at p1
     obtain ⟨o,us,hv,rk⟩:=ro
     exact ⟨pp,us,rfl,.inr ⟨o,hv,aH.ret p1 (uK (fun w' H' x'=>x'.frz _ _ _ hv) rk) s1⟩⟩
    | lst xs=>simp only [e] at p1; exact p1.elim
    | ins c fs=>simp only [e] at p1; exact p1.elim
    | flst xs=>simp only [e] at p1; exact p1.elim
  | _=>exact p1.elim⟩⟩
end
end PD
namespace L2
open PySem PySem.Spec PyProof.Rows
theorem Inv.thaw {X:Cx} {pins:List (Addr × Obj)} {σ:St} {H:Hp} {s:Shared} {a:Addr} {o:Obj} {us:List (Key × V)} (I:Inv X pins σ H s) (h:H a=some (.frz o (.dK us))) (n0:∀ o u,X.H₀ a ≠ some (.frz o u)):Inv X pins σ (upd H a (.dK us)) s:=by
 have ne:∀ b u,H b=u→u ≠ some (.frz o (.dK us))→b ≠ a:=fun b u e n z=>n (by rw [← e,z]; exact h)
 have st:∀ {b:Addr} {u:HO},bF X.prog X.w H s.heap b u→bF X.prog X.w (upd H a (.dK us)) s.heap b u:=fun x=>x.stay (fun _ _ _ q=>q) (fun c q=>by rw [aG (ne c _ q (by intro z; cases z))]; exact q) fun c xs q=>by rw [aG (ne c _ q (by intro z; cases z))]; exact q
 refine ⟨I.ok,I.os,I.bare,⟨I.base.keep,I.base.slot,fun b ob e n x=>?_,I.base.there,fun b xs e=>?_,fun b o' u e=>?_,fun b ps e=>?_⟩,I.loc,I.cell,?_,fun x c e=>?_,fun p hp=>?_,fun b u e=>?_,I.len⟩
 ·have q:=I.base.free b ob e n x
  rw [aG (ne b _ q (by intro z; cases z))]; exact q
 ·have q:=I.base.tups b xs e
  rw [aG (ne b _ q (by intro z; cases z))]; exact q
 ·have q:=I.base.frzs b o' u e
  rw [aG (fun z:b=a=>n0 o' u (z ▸ e))]; exact q
 ·obtain ⟨m,q⟩:=I.base.tbls b ps e
  exact ⟨m,by rw [aG (ne b _ q (by intro z; cases z))]; exact q⟩
 ·rw [aG (ne _ _ I.free (by intro z; cases z))]; exact I.free
 ·have q:=I.freeC x c e
  rw [aG (ne c _ q (by intro z; cases z))]; exact q
 ·obtain ⟨e,n,r⟩:=I.pin p hp
  exact ⟨e,by rw [aG (ne _ _ n (by intro z; cases z))]; exact n,r⟩
 ·by_cases hb:b=a
  ·subst hb
   rw [aI] at e
   cases e
   have q:s.heap.get? b=some o∧bF X.prog X.w H s.heap b (.dK us):=I.hok b _ h
   exact st q.2
  ·rw [aG hb] at e
   exact st (I.hok b u e)
end L2
namespace PD
open PySem PySem.Spec PyProof.Rows L2
def cz (n:Nat) (S:Sto):Sto:=match S[n]? with
 | some (.fdic kvs)=>S.set n (.dic kvs)
 | _=>S
def iO (i:Nat) (m:EM):EM:=fun r S=>match r[i]? with
 | some (some (.ref n))=>match S[n]? with
  | some (.dic _)=>(m r S).bind fun d S1=>.ok d (cz n S1)
  | _=>m r S
 | _=>m r S
section
variable {X:Cx} {E:XK}
theorem uL {i:Nat} {e:Expr} {m:EM} (h:SE X E e m):SE X E e (iO i m):=⟨by
 intro pins s σ H Q I ⟨w,r,S,hr,hS,hp⟩
 unfold iO at hp
 split at hp
 ·rename_i n hri
  split at hp
  ·rename_i kvs0 hn
   obtain ⟨pp,hpp,us0,hv,rk0⟩:=hS.obj n _ hn
   have hmem:pp ∈ w.st:=List.mem_of_getElem? hpp
   have n0:∀ o u,X.H₀ pp ≠ some (.frz o u):=fun o u z=>by
    have q:=I.base.frzs pp o u z
    rw [hv] at q; cases q
   let Q':VK:=fun x H1=>∃ H2,Q x H2∧(H2=H1 ∨ ∃ o us,H1 pp=some (.frz o (.dK us))∧H2=upd H1 pp (.dK us))
   refine wpAny_mono (h.out pins s σ H Q' I ⟨w,r,S,hr,hS,?_⟩) (fun v s1 q=>?_) fun _ _ z=>z
   ·cases hm:m r S with
    | err y S1=>rw [hm] at hp; exact hp
    | bad=>rw [hm] at hp; exact hp.elim
    | ok d S1=>
     rw [hm] at hp
     intro w1 H1 b x1 rb s1
     have hp':aH X.K E (RD X.K) w H (R.ok d (cz n S1)) Q:=hp
     obtain ⟨l,el,fl⟩:=x1.sub
     have hpp1:w1.st[n]?=some pp:=by
      rw [el,List.getElem?_append_left (List.getElem?_eq_some_iff.mp hpp).1]; exact hpp
     have hmem1:pp ∈ w1.st:=List.mem_of_getElem? hpp1
     cases hS1:S1[n]? with
     | none=>
      have e1:cz n S1=S1:=by unfold cz; rw [hS1]
      rw [e1] at hp'
      exact ⟨H1,hp' w1 H1 b x1 rb s1,.inl rfl⟩
     | some ob=>
      cases ob with
      | fdic kvs=>
       have e1:cz n S1=S1.set n (.dic kvs):=by unfold cz; rw [hS1]
       rw [e1] at hp'
       obtain ⟨p',hp1,o,us,hv1,rk⟩:=s1.obj n _ hS1
       rw [hpp1] at hp1; cases hp1
       refine ⟨upd H1 pp (.dK us),?_,.inr ⟨o,us,hv1,rfl⟩⟩
       have mv:Mv w1 H1 w1 (upd H1 pp (.dK us)):=⟨fun _ _ z=>z,fun a o z=>⟨by rw [aG (fun y:a=pp=>z.2.1 (y ▸ hmem1))]; exact z.1,z.2.1,z.2.2⟩⟩
       refine hp' w1 (upd H1 pp (.dK us)) b ⟨fun a o h1 n1=>?_,x1.sub,x1.hid,x1.hnew,fun a o u h1=>?_⟩ (RD.mv mv _ _ rb) ⟨s1.nd,by rw [List.length_set]; exact s1.len,fun m' so e=>?_,fun a ha=>?_⟩
       ·rw [aG (fun y:a=pp=>n1 (y ▸ hmem))]; exact x1.keep a o h1 n1
       ·rw [aG (fun y:a=pp=>by rw [y,hv] at h1; cases h1)]; exact x1.frz a o u h1
       ·by_cases hmn:m'=n
        ·subst hmn
         have hl:m' < S1.length:=(List.getElem?_eq_some_iff.mp hS1).1
         rw [List.getElem?_set_self hl] at e
         cases e
         exact ⟨pp,hpp1,us,aI,RDk.mv mv _ _ rk⟩
        ·rw [List.getElem?_set_ne (Ne.symm hmn)] at e
         obtain ⟨a,ha,ro⟩:=s1.obj m' so e
         have hne:a ≠ pp:=fun z=>by
          subst z
          obtain ⟨i1,e1⟩:=List.getElem?_eq_some_iff.mp ha
          obtain ⟨i2,e2⟩:=List.getElem?_eq_some_iff.mp hpp1
          exact hmn ((List.getElem_inj s1.nd).mp (e1.trans e2.symm))
         exact ⟨a,ha,ro.mv mv fun u z=>by rw [aG hne]; exact z⟩
       ·obtain ⟨h1,o1,h2⟩:=s1.hid a ha
        exact ⟨h1,o1,by rw [aG (fun y:a=pp=>h1 (y ▸ hmem1))]; exact h2⟩
      | dic kvs=>
       have e1:cz n S1=S1:=by unfold cz; rw [hS1]
       rw [e1] at hp'
       exact ⟨H1,hp' w1 H1 b x1 rb s1,.inl rfl⟩
      | lst kvs=>
       have e1:cz n S1=S1:=by unfold cz; rw [hS1]
       rw [e1] at hp'
       exact ⟨H1,hp' w1 H1 b x1 rb s1,.inl rfl⟩
      | flst kvs=>
       have e1:cz n S1=S1:=by unfold cz; rw [hS1]
       rw [e1] at hp'
       exact ⟨H1,hp' w1 H1 b x1 rb s1,.inl rfl⟩
      | ins c f=>
       have e1:cz n S1=S1:=by unfold cz; rw [hS1]
       rw [e1] at hp'
       exact ⟨H1,hp' w1 H1 b x1 rb s1,.inl rfl⟩
   ·obtain ⟨x,H1,I1,rx,H2,q,hh⟩:=q
    rcases hh with rfl | ⟨o,us,hf,rfl⟩
    ·exact ⟨x,_,I1,rx,q⟩
    ·exact ⟨x,_,I1.thaw hf n0,rx,q⟩
  ·exact h.out pins s σ H Q I ⟨w,r,S,hr,hS,hp⟩
 ·exact h.out pins s σ H Q I ⟨w,r,S,hr,hS,hp⟩⟩
end
end PD
namespace PySem
open PyProof.Rows
section
variable {prog:Program} {w:World} {A:Around} {E:Value→Shared→Prop} {s:Shared} {K:Type} [DecidableEq K] {knd:KeyKind prog w K}
def jm:Value→Option Int
 | .int i _=>some i
 | _=>none
def cG (vs vs':List (K × Value)):Bool:=decide (vs.length=vs'.length) && vs.all fun kv=>decide ((valueAt vs' kv.1).bind jm=jm kv.2)
theorem lJ {a b:Addr} {vs vs':List (K × Value)} {ep ep':Nat} {id:String} {Q:Bool→Shared→Prop} (ha:(a == sysModules)=false) (hb:(b == sysModules)=false) (dA:s.heap.DictAt knd a vs ep) (dB:s.heap.DictAt knd b vs' ep')
  (iA:∀ kv ∈ vs,∃ n t,kv.2=.int n t) (iB:∀ kv ∈ vs',∃ n t,kv.2=.int n t) (h:Q (cG vs vs') s):wpAny (model prog w) A (Builtin.Dict.samePairs id a b) Q E s:=by
 obtain ⟨oa,ea,hoa,xa,hda,ka,pa,na⟩:=dA
 obtain ⟨ob,eb,hob,xb,hdb,kb,pb,nb⟩:=dB
 unfold Builtin.Dict.samePairs
 unfold Builtin.Dict.showsAll
 rw [ha,hb]
 refine wpAny_bind (wpAny_pure ?_)
 refine wpAny_bind (wpAny_pure ?_)
 refine wpAny_bind (wpAny_dictEntries hoa hda ?_)
 refine wpAny_bind (wpAny_dictEntries hob hdb ?_)
 have la:ea.size=vs.length:=by have:=pa.length; simpa using this
 have lb:eb.size=vs'.length:=by have:=pb.length; simpa using this
 by_cases hsz:ea.size=eb.size
 ·rw [if_neg (by simp [hsz])]
  refine wpAny_bind (wpAny_dictEpoch hoa hda ?_)
  refine wpAny_bind ?_
  rw [Std.Legacy.Range.forIn_eq_forIn_range']
  simp only [Std.Legacy.Range.size,Nat.sub_zero,Nat.add_sub_cancel,Nat.div_one]
  have key:∀ i (hi:i < ea.size),∃ kv,vs[i]?=some kv∧knd.is kv.1 ea[i].key=true∧ea[i].hash=knd.hash kv.1∧ea[i].val=kv.2:=fun i hi=>by
   obtain ⟨kv,hkv⟩:∃ kv,vs[i]?=some kv:=⟨vs[i]'(by rw [← la]; exact hi),List.getElem?_eq_getElem _⟩
   obtain ⟨h1,h2⟩:=pa.get? (e:=ea[i]) (by simp [hi]) hkv
   obtain ⟨k',hk',hh⟩:=ka ea[i] (Array.getElem_mem hi)
   obtain rfl:k'=kv.1:=knd.inj _ _ _ hk' h1
   exact ⟨kv,hkv,h1,hh,h2⟩
  refine wpAny_forIn_list _ (fun rest b s'=>s'=s∧b=(none,())∧∃ i,rest=List.range' i (ea.size - i)∧i≤ea.size∧∀ j,j < i→∀ kv,vs[j]?=some kv→(valueAt vs' kv.1).bind jm=jm kv.2) _ ?_ ?_ _ _ ⟨rfl,rfl,0,by simp,Nat.zero_le _,fun j hj=>absurd hj (Nat.not_lt_zero _)⟩
  ·rintro x rest b s' ⟨rfl,rfl,i,hr,hi,hall⟩
   have hlt:i < ea.size:=by
    rcases Nat.lt_or_ge i ea.size with h | h
    ·exact h
    ·rw [Nat.sub_eq_zero_of_le h] at hr; simp at hr
   obtain ⟨rfl,hrest⟩:x=i∧rest=List.range' (i + 1) (ea.size - (i + 1)):=by
    have e:ea.size - i=(ea.size - (i + 1)) + 1:=by omega
    rw [e,List.range'_succ] at hr
    injection hr with h1 h2
    exact ⟨h1,h2⟩
   obtain ⟨kv,hkv,hk1,hh,hval⟩:=key x hlt
   refine wpAny_bind (wpAny_dictEntries hoa hda ?_)
   rw [Array.getElem?_eq_getElem hlt]
   dsimp only
   have hmem:kv ∈ vs:=List.mem_of_getElem? hkv
   obtain ⟨n,tn,hn⟩:=iA kv hmem
   have stop:(valueAt vs' kv.1).bind jm ≠ jm kv.2→wpAny (model prog w) A (match ((some false,()):Option Bool × Unit).fst with | some r=>pure r | none=>pure true) Q E s':=fun hne=>by
    have e:cG vs vs'=false:=by
     unfold cG
     rw [Bool.and_eq_false_iff]
     refine .inr (List.all_eq_false.mpr ⟨kv,hmem,?_⟩)
     rw [decide_eq_false hne]; decide
    rw [e] at h
    exact wpAny_pure h
   have go:(valueAt vs' kv.1).bind jm=jm kv.2→∃ i,rest=List.range' i (ea.size - i)∧i≤ea.size∧∀ j,j < i→∀ kv,vs[j]?=some kv→(valueAt vs' kv.1).bind jm=jm kv.2:=fun he=>
    ⟨x + 1,hrest,hlt,fun j hj kv2 hkv2=>by
     rcases Nat.lt_or_ge j x with hjx | hjx
     ·exact hall j hjx kv2 hkv2
     ·have:j=x:=by omega
      subst this
      rw [hkv] at hkv2; cases hkv2
      exact he⟩
   have hfi:(eb.findIdx? fun e=>knd.is kv.1 e.key)=vs'.findIdx? fun kv'=>decide (kv'.1=kv.1):=by
    rw [← pb.findIdx kv.1,← List.findIdx?_toArray,Array.toArray_toList]
   refine wpAny_bind (wpAny_holding (wpAny_bind ?_))
   rw [hh]
   refine wpAny_dictFind_of hk1 hob hdb kb ?_
   rw [hfi]
   cases hj:vs'.findIdx? fun kv'=>decide (kv'.1=kv.1) with
   | none=>
    dsimp only
    refine wpAny_pure ?_
    rw [if_pos (by decide)]
    refine wpAny_pure (stop ?_)
    have:valueAt vs' kv.1=none:=by
     unfold valueAt
     rw [List.findIdx?_eq_none_iff] at hj
     have:(vs'.find? fun kv'=>decide (kv'.1=kv.1))=none:=List.find?_eq_none.mpr fun y hy hd=>by
      have:=hj y hy
      rw [hd] at this; cases this
     rw [this]; rfl
    rw [this,hn]
    intro z; cases z
   | some j=>
    dsimp only
    obtain ⟨hjl,hjt,hjf⟩:=List.findIdx?_eq_some_iff_getElem.mp hj
    have hjb:j < eb.size:=by omega
    obtain ⟨q1,q2⟩:=pb.get? (e:=eb[j]) (by simp [hjb]) (List.getElem?_eq_getElem hjl)
    have hva:valueAt vs' kv.1=some vs'[j].2:=by
     unfold valueAt
     have:(vs'.find? fun kv'=>decide (kv'.1=kv.1))=some vs'[j]:=by
      rw [List.find?_eq_some_iff_getElem]
      exact ⟨hjt,j,hjl,rfl,fun k hk=>by
       have:=hjf k hk
       simpa using this⟩
     rw [this]; rfl
    obtain ⟨n',tn',hn'⟩:=iB vs'[j] (List.getElem_mem hjl)
    refine wpAny_bind (wpAny_dictEntries hob hdb ?_)
    rw [Array.getElem?_eq_getElem hjb]
    dsimp only
    refine wpAny_holding ?_
    rw [hval,show eb[j].val=vs'[j].2 from q2,hn,hn']
    refine wpAny_eqBool_int ?_
    by_cases hnn:n=n'
    ·subst hnn
     rw [if_neg (by simp)]
     refine wpAny_bind (wpAny_dictEpoch hoa hda ?_)
     rw [if_neg (by simp)]
     refine wpAny_pure ⟨rfl,rfl,go ?_⟩
     rw [hva,hn,Option.bind_some,hn']; rfl
    ·rw [if_pos (by simp [hnn])]
     refine wpAny_pure (stop ?_)
     rw [hva,hn,Option.bind_some,hn']
     intro z
     exact hnn (Option.some.inj z).symm
  ·rintro b' s' ⟨rfl,rfl,i,hr,hi,hall⟩
   have hin:i=ea.size:=by
    rcases Nat.lt_or_ge i ea.size with h | h
    ·have e:ea.size - i=(ea.size - (i + 1)) + 1:=by omega
     rw [e,List.range'_succ] at hr; cases hr
    ·omega
   have e:cG vs vs'=true:=by
    unfold cG
    rw [Bool.and_eq_true]
    refine ⟨decide_eq_true (by omega),List.all_eq_true.mpr fun kv hkv=>?_⟩
    obtain ⟨j,hj,rfl⟩:=List.getElem_of_mem hkv
    exact decide_eq_true (hall j (by omega) _ (List.getElem?_eq_getElem hj))
   rw [e] at h
   exact wpAny_pure h
 ·rw [if_pos (by simpa using hsz)]
  refine wpAny_bind (wpAny_rule ?_)
  have e:cG vs vs'=false:=by
   unfold cG
   rw [decide_eq_false (by omega)]; rfl
  rw [e] at h
  exact wpAny_pure h
theorem o6 {a b:Addr} {vs vs':List (K × Value)} {ep ep':Nat} {Q:Value→Shared→Prop} (ha:(a == sysModules)=false) (hb:(b == sysModules)=false) (dA:s.heap.DictAt knd a vs ep) (dB:s.heap.DictAt knd b vs' ep')
  (iA:∀ kv ∈ vs,∃ n t,kv.2=.int n t) (iB:∀ kv ∈ vs',∃ n t,kv.2=.int n t) (h:Q (.bool (!cG vs vs')) s):wpAny (model prog w) A (Builtin.«dict.__ne__» ⟨[.ref a,.ref b],[]⟩) (fun fin s'=>∃ v,fin=.done (.ret v)∧v ≠ .notImplemented∧Q v s') E s:=by
 have hT:=dA.dictOf.typeIs
 have hT':=dB.dictOf.typeIs
 show wpAny _ A (Builtin.Dict.dictSlotArgs "__ne__" ⟨[.ref a,.ref b],[]⟩ >>= _) _ _ s
 unfold Builtin.Dict.dictSlotArgs
 refine wpAny_bind (wpAny_bind (wpAny_notOrdered_dict hT ?_))
 refine wpAny_bind (wpAny_of_eq (a:=(Value.ref a,[Value.ref b])) rfl ?_)
 refine wpAny_pure ?_
 refine wpAny_bind (wpAny_isInstance hT' (b:=true) F.sub_dict_dict ?_)
 rw [if_neg (by decide)]
 refine wpAny_bind (wpAny_of_eq (a:=a) rfl ?_)
 refine wpAny_bind (wpAny_of_eq (a:=b) rfl ?_)
 refine wpAny_bind (lJ ha hb dA dB iA iB ?_)
 refine wpAny_pure ⟨_,rfl,(fun z=>by cases z),?_⟩
 have e:(cG vs vs' == false) = !cG vs vs':=by cases cG vs vs' <;> rfl
 rw [e]; exact h
theorem zQ {a b:Addr} {vs vs':List (K × Value)} {ep ep':Nat} {Q:Value→Shared→Prop} (ha:(a == sysModules)=false) (hb:(b == sysModules)=false) (dA:s.heap.DictAt knd a vs ep) (dB:s.heap.DictAt knd b vs' ep')
  (iA:∀ kv ∈ vs,∃ n t,kv.2=.int n t) (iB:∀ kv ∈ vs',∃ n t,kv.2=.int n t) (hu:A.units < cLine) (h:Q (.bool (!cG vs vs')) s):wpAny (model prog w) A (compareOp .NotEq (.ref a) (.ref b)) Q E s:=by
 have hT:s.TypeIs (.ref a) "dict":=dA.dictOf.typeIs
 have hT':s.TypeIs (.ref b) "dict":=dB.dictOf.typeIs
 have hc:wpAny (model prog w) A (call (.builtin "dict.__ne__") [.ref a,.ref b]) (fun v s'=>v ≠ .notImplemented∧Q v s') E s:=wpAny_call_entry F.slot_dict_ne hT F.entry_dict_ne (o6 ha hb dA dB iA iB h) (F.args_dict_ne_2 _ _)
 have hr:wpAny (model prog w) A (richCompare .NotEq (.ref a) (.ref b)) Q E s:=wpAny_richCompare_same_room (op:=.NotEq) (T:="dict") (id:="dict.__ne__") hT hT' F.slot_dict_ne hc hu
 exact hr
end
end PySem
namespace PD
open PySem PySem.Spec PyProof.Rows L2
def gO:List (KD × D)→Option (List (KD × Int))
 | []=>some []
 | (k,.int i) :: r=>(gO r).map ((k,i) :: ·)
 | _ :: _=>none
def fQ (T T':List (KD × Int)):Bool:=decide (T.length=T'.length) && T.all fun e=>decide (((T'.find? fun e'=>decide (e'.1=e.1)).map (·.2))=some e.2)
inductive VT:List (KD × Int)→List (Key × Value)→Prop
 | nil:VT [] []
 | cons {k:KD} {i:Int} {t:Tok} {T:List (KD × Int)} {vs:List (Key × Value)}:VT T vs→VT ((k,i) :: T) ((k,.int i t) :: vs)
theorem VT.length {T:List (KD × Int)} {vs:List (Key × Value)} (h:VT T vs):T.length=vs.length:=by
 induction h with
 | nil=>rfl
 | cons _ ih=>simp [ih]
theorem VT.ints {T:List (KD × Int)} {vs:List (Key × Value)} (h:VT T vs):∀ kv ∈ vs,∃ n t,kv.2=Value.int n t:=by
 induction h with
 | nil=>intro kv z; cases z
 | cons _ ih=>
  intro kv z
  rcases List.mem_cons.mp z with rfl | z
  ·exact ⟨_,_,rfl⟩
  ·exact ih kv z
theorem VT.at {T:List (KD × Int)} {vs:List (Key × Value)} (h:VT T vs) (k:KD):(valueAt vs k).bind jm=(T.find? fun e'=>decide (e'.1=k)).map (·.2):=by
 induction h with
 | nil=>rfl
 | @cons k' i t T vs _ ih=>
  unfold valueAt at ih ⊢
  rw [List.find?_cons,List.find?_cons]
  by_cases hk:k'=k
  ·simp [hk,jm]
  ·simp only [hk,decide_false]
   exact ih
theorem VT.same {T T':List (KD × Int)} {vs vs':List (Key × Value)} (h:VT T vs) (h':VT T' vs'):cG vs vs'=fQ T T':=by
 unfold cG fQ
 rw [h.length,h'.length]
 congr 1
 have:∀ {T:List (KD × Int)} {vs:List (Key × Value)},VT T vs→(vs.all fun kv=>decide ((valueAt vs' kv.1).bind jm=jm kv.2))=T.all fun e=>decide (((T'.find? fun e'=>decide (e'.1=e.1)).map (·.2))=some e.2):=fun h=>by
  induction h with
  | nil=>rfl
  | @cons k i t T vs _ ih=>
   rw [List.all_cons,List.all_cons,ih,h'.at k]
   rfl
 exact this h
theorem qV {K:PySem.W.Frag} {w:Wd} {H:Hp}:∀ {kvs:List (KD × D)} {T:List (KD × Int)} {us:List (Key × V)} {vs:List (Key × Value)},gO kvs=some T→RDk K w H kvs us→KV us vs→VT T vs
 | [],T,us,vs,hi,q,r=>by
  cases hi
  rw [q.nil_inv] at r
  cases r
  exact .nil
 | (k,d) :: kvs,T,us,vs,hi,q,r=>by
  obtain ⟨v,us',rfl,p,q'⟩:=q.cons_inv
  cases d with
  | int i=>
   unfold gO at hi
   cases ht:gO kvs with
   | none=>rw [ht] at hi; cases hi
   | some T'=>
    rw [ht] at hi; cases hi
    cases p.int
    cases r with
    | @cons _ x _ vs' hd tl=>
     obtain ⟨k',u⟩:=x
     obtain ⟨e,rv⟩:=hd
     obtain ⟨t,rfl⟩:=rv
     cases (show k'=k from e.symm)
     exact .cons (qV ht q' tl)
  | _=>unfold gO at hi; cases hi
def fW:Sto→D→D→Option D:=fun S x y=>match dq S x,dq S y with
 | some k1,some k2=>match gO k1,gO k2 with
  | some T1,some T2=>some (.bl (!fQ T1 T2))
  | _,_=>none
 | _,_=>jN S x y
section
variable {X:Cx} {E:XK}
theorem ic {k:Nat} (hr:Room k X.A):OpR X (compareOp .NotEq) (xO X.K E fW):=by
 rintro pins s σ H x y v u Q I rx ry ⟨w,S,d,e,hS,qd,qe,p⟩
 obtain ⟨z,hz,p'⟩:=p.of
 unfold fW at hz
 split at hz
 ·rename_i k1 k2 h1 h2
  split at hz
  ·rename_i T1 T2 t1 t2
   cases hz
   obtain ⟨pp,us,rfl,rd,rk⟩:=gC hS qd h1
   obtain ⟨pp2,us2,rfl,rd2,rk2⟩:=gC hS qe h2
   cases rx
   cases ry
   obtain ⟨zl,hs1,vs,rel,⟨o,es,ep,ho⟩⟩:=rd.ok I.hok
   obtain ⟨zl2,hs2,vs2,rel2,⟨o2,es2,ep2,ho2⟩⟩:=rd2.ok I.hok
   have v1:=qV t1 rk rel
   have v2:=qV t2 rk2 rel2
   refine zQ (knd:=aX X.prog X.w) hs1 hs2 ⟨o,es,ho⟩ ⟨o2,es2,ho2⟩ v1.ints v2.ints (by have:=hr.units; omega) ?_
   rw [v1.same v2]
   exact ⟨.bl _,H,I,rfl,p'.ret RD.mkB hS⟩
  ·cases hz
 ·rename_i hnn
  exact sP hr pins s σ H x y v u Q I rx ry ⟨w,S,d,e,hS,qd,qe,by
   have:fW S d e=jN S d e:=by
    unfold fW
    split
    ·rename_i k1 k2 h1 h2
     exact (hnn k1 k2 h1 h2).elim
    ·rfl
   rw [← this]; exact p⟩
end
end PD
namespace PD
open PySem PySem.Spec PyProof.Rows L2
open AutoSeq1 (wpAny_loadPart')
open MeetsSeq MeetsSeq2 MeetsSeq3 SeqRoads2 PySem.SeqAt
def ltZ:List Int→List Int→Bool
 | [],[]=>false
 | [],_ :: _=>true
 | _ :: _,[]=>false
 | x :: xs,y :: ys=>if x=y then ltZ xs ys else decide (x < y)
theorem ltZ_eq {x y:Int} {xs ys:List Int} (h:x=y):ltZ (x :: xs) (y :: ys)=ltZ xs ys:=if_pos h
theorem Ck {x y:Int} {xs ys:List Int} (h:¬ x=y):ltZ (x :: xs) (y :: ys)=decide (x < y):=if_neg h
theorem uM {A:Around} {s:Shared} {a b:Int} {t u:Tok} (prog:Program) (w:World) {E:Value→Shared→Prop} {Q:Value→Shared→Prop} (h:Q (.bool (decide (a < b))) s):wpAny (model prog w) A (richCompare .Lt (.int a t) (.int b u)) Q E s:=
 richCompare_gives (op:=.Lt) (typeIs_int s _ t) (typeIs_int s _ u) F.slot_int_lt F.entry_int_lt (F.args_int_lt_2 _ _) (gives_int_lt _ _ t u) (fun x=>nomatch x) h
theorem o7 (l b:Addr) (items items2:Array Value) (n n2:Nat) (dd dd2:Option Addr) (sl sl2:Array (Option Value)) {xs ys:List Int} (hx:IntsAre items.toList xs) (hy:IntsAre items2.toList ys):
  Meets (Builtin.«tuple.__lt__» ⟨[.ref l,.ref b],[]⟩)
   (fun A R s=>s.heap.get? l=some { cls:=.type "tuple",dict:=dd,data:=.seq items n,slots:=sl }∧s.heap.get? b=some { cls:=.type "tuple",dict:=dd2,data:=.seq items2 n2,slots:=sl2 }∧
    R (.ok (.ret (.bool (ltZ xs ys)))) s):=
 .of_wp fun prog w A R s h=>by
  obtain ⟨hp,g,d,tk,os⟩:=s; obtain ⟨hl,hb,h⟩:=h
  have f2:=AutoSeq1.sub_tuple_tuple
  wp_walk using wpAny_loadPart' hl,wpAny_loadPart' hb,wpAny_forIn_list _ (fun rest b s'=>b.1=none∧s'=⟨hp,g,d,tk,os⟩∧∃ (as bs:List Value) (xs ys:List Int),rest=as.zip bs∧IntsAre as xs∧IntsAre bs ys∧as.length + items2.size=bs.length + items.size∧
   R (.ok (.ret (.bool (ltZ xs ys)))) ⟨hp,g,d,tk,os⟩) _
  case turn=>
   rintro ⟨y,x⟩ rest b s' ⟨hb',rfl,as,bs,xs,ys,hz,h1,h2,hlen,hR⟩
   cases h1 with
   | nil=>cases hz
   | cons a t h1=>
    cases h2 with
    | nil=>cases hz
    | cons c u h2=>
     cases hz
     refine wpAny_bind (EqAt.int_int a t c u prog w _ _ ?_)
     by_cases hac:a=c
     ·have e:(a == c)=true:=by simp [hac]
      rw [e]
      wp_walk
      refine ⟨rfl,rfl,_,_,_,_,rfl,h1,h2,by simp only [List.length_cons] at hlen; omega,?_⟩
      rw [ltZ_eq hac] at hR
      exact hR
     ·have e:(a == c)=false:=by simp [hac]
      rw [Ck hac] at hR
      rw [e]
      simp only [Bool.not_false,if_true]
      refine wpAny_bind (wpAny_rule ?_)
      refine wpAny_bind (uM prog w ?_)
      wp_walk
      exact ⟨_,rfl,hR⟩
  case fin=>
   rintro ⟨b1,b2⟩ s' ⟨hb',rfl,as,bs,xs,ys,hz,h1,h2,hlen,hR⟩
   simp only at hb'
   subst hb'
   have e:ltZ xs ys=decide (items.size < items2.size):=by
    cases h1 with
    | nil=>
     cases h2 with
     | nil=>simp only [List.length_nil] at hlen; unfold ltZ; exact (decide_eq_false (by omega)).symm
     | cons c u h2=>simp only [List.length_nil,List.length_cons] at hlen; unfold ltZ; exact (decide_eq_true (by omega)).symm
    | cons a t h1=>
     cases h2 with
     | nil=>simp only [List.length_nil,List.length_cons] at hlen; unfold ltZ; exact (decide_eq_false (by omega)).symm
     | cons c u h2=>cases hz
   rw [e] at hR
   wp_walk
   exact ⟨_,rfl,by simpa [Builtin.Tuple.tupleCompareSizes] using hR⟩
  case h=>
   exact ⟨rfl,rfl,_,_,_,_,rfl,hx,hy,by simp [Nat.add_comm],h⟩
theorem zR {A:Around} {s:Shared} {l b:Addr} {items items2:Array Value} {xs ys:List Int} (hl:s.heap.IsTuple l items) (hb:s.heap.IsTuple b items2) (hx:IntsAre items.toList xs) (hy:IntsAre items2.toList ys) (hu:A.units < cLine) (prog:Program) (w:World) {E:Value→Shared→Prop} {Q:Value→Shared→Prop}
  (h:Q (.bool (ltZ xs ys)) s):wpAny (model prog w) A (richCompare .Lt (.ref l) (.ref b)) Q E s:=by
 obtain ⟨⟨cls,dd,data,sl⟩,ho,hc,n,hd⟩:=id hl
 obtain ⟨⟨cls2,dd2,data2,sl2⟩,ho2,hc2,n2,hd2⟩:=id hb
 simp only at hc hd hc2 hd2
 subst hc hd hc2 hd2
 exact richCompare_meets_room (op:=.Lt) ⟨_,ho,rfl⟩ ⟨_,ho2,rfl⟩ F.slot_tuple_lt F.entry_tuple_lt (F.args_tuple_lt_2 _ _) (o7 l b items items2 n n2 dd dd2 sl sl2 hx hy)
  ⟨ho,ho2,show Value.bool (ltZ xs ys) ≠ Value.notImplemented∧Q (.bool (ltZ xs ys)) s from ⟨(fun x=>nomatch x),h⟩⟩ hu
end PD
namespace PD
open PySem PySem.Spec PyProof.Rows L2
def xB (prog:Program) (w:World) (A:Around) (h0:Heap) (P:Nat→Value→Prop) (bt:Nat→Nat→Bool):Prop:=
 ∀ (i j:Nat) (vi vj:Value) (s:Shared) (Q:Value→Shared→Prop) (E:Value→Shared→Prop),(∀ b o,h0.get? b=some o→s.heap.get? b=some o)→P i vi→P j vj→Q (.bool (bt i j)) s→wpAny (model prog w) A (richCompare .Lt vi vj) Q E s
abbrev xD (vs:Array Value) (c:Nat):Obj:={ cls:=.type "list",dict:=none,data:=.seq vs c,slots:=#[] }
section
variable {prog:Program} {w:World} {A:Around} {R:Result→Shared→Prop} {I:Addr} {fp wr:List Addr} {n:Nat} {P:Nat→Value→Prop} {St:Nat→Heap→Prop} {h0:Heap} {bt:Nat→Nat→Bool} {S:Addr} {kw:List (Str × Value)}
theorem v7 (W:Walks prog w A.in1 I fp wr n P St) (hcmp:xB prog w A.in1 h0 P bt) (hSf:S ∉ fp) (hw:∀ b ∈ wr,h0.get? b=none) (hS0:h0.get? S=none):
  ∀ (k j:Nat) (s:Shared) (vb:Value) (c:Nat),n - (j + 1)=k→j + 1≤n→St (j + 1) s.heap→P (argBest bt j) vb→s.heap.get? S=some (xD #[vb,vb] c)→(∀ b o,h0.get? b=some o→s.heap.get? b=some o)→
  (∀ v h' tk,P (argBest bt (n - 1)) v→(∀ b o,h0.get? b=some o→h'.get? b=some o)→R (.ok (.ret v)) { s with heap:=h',toks:=tk })→
  codeAny (model prog w) A (.builtin "min.loop" ⟨[.ref I,.none,.ref S],kw⟩) R s:=by
 have hSw:S ∉ wr:=fun h=>hSf (W.sub _ h)
 have nw:∀ {b:Addr} {o:Obj},h0.get? b=some o→b ∉ wr:=fun e h=>by rw [hw _ h] at e; cases e
 have nS:∀ {b:Addr} {o:Obj},h0.get? b=some o→S ≠ b:=fun e h=>by rw [← h,hS0] at e; cases e
 have hname:(toString "min" ++ toString ".loop":String) = "min.loop":=by decide
 intro k
 induction k with
 | zero=>
  intro j s vb c hk hj hst hPb hS hkp hR
  have hin:j + 1=n:=by omega
  refine codeAny_builtin F.entry_min_loop ?_
  rw [Around.under_plainId F.plain_min_loop _]
  show wpAny _ A.in1 (seqItems? (.ref S) >>= _) _ _ s
  refine wpAny_bind (wpAny_seqItems hS rfl ?_)
  show wpAny _ A.in1 (tryCatch (pyNext (.ref I)) _ >>= _) _ _ s
  refine wpAny_bind (wpAny_tryCatch (W.done s _ _ (hin ▸ hst) fun h' tk hk'=>?_))
  show wpAny _ A.in1 (updateSeq S (fun _=>#[]) >>= _) _ _ _
  refine wpAny_bind ?_
  refine wpAny_updateSeq (hk' S _ hSw hS) rfl (wpAny_bind (wpAny_letGo (wpAny_pure ?_)))
  exact hR vb _ tk (by rw [← hin]; exact hPb) fun b o e=>(Heap.get?_update_other _ _ (nS e)).trans (hk' b o (nw e) (hkp b o e))
 | succ k ih=>
  intro j s vb c hk hj hst hPb hS hkp hR
  have hlt:j + 1 < n:=by omega
  refine codeAny_builtin F.entry_min_loop ?_
  rw [Around.under_plainId F.plain_min_loop _]
  show wpAny _ A.in1 (seqItems? (.ref S) >>= _) _ _ s
  refine wpAny_bind (wpAny_seqItems hS rfl ?_)
  show wpAny _ A.in1 (tryCatch (pyNext (.ref I)) _ >>= _) _ _ s
  refine wpAny_bind (wpAny_tryCatch (W.item (j + 1) s _ _ hlt hst fun v h' tk hP hst' hk'=>?_))
  have hS':=hk' S _ hSw hS
  have hkp':∀ b o,h0.get? b=some o→h'.get? b=some o:=fun b o e=>hk' b o (nw e) (hkp b o e)
  show wpAny _ A.in1 (tryCatch (holding [v,v] (richCompare .Lt v vb >>= _)) _ >>= _) _ _ _
  refine wpAny_bind (wpAny_tryCatch (wpAny_holding (wpAny_bind (hcmp (j + 1) (argBest bt j) v vb _ _ _ hkp' hP hPb ?_))))
  refine wpAny_bind (wpAny_holding (wpAny_truthy_bool ?_))
  refine wpAny_bind (wpAny_letGo (wpAny_pure ?_))
  cases hb:bt (j + 1) (argBest bt j) with
  | true=>
   simp only [if_true]
   refine wpAny_bind ?_
   refine wpAny_updateSeq hS' rfl (wpAny_bind (wpAny_letGo ?_))
   rw [hname]
   refine wpAny_pure ⟨plainId_quiet F.plain_min_loop _,ih (j + 1) _ v _ (by omega) hlt (W.frame _ _ _ hst' fun b hbf o e=>(Heap.get?_update_other _ _ (fun h:S=b=>hSf (by rw [h]; exact hbf))).trans e) (by simp only [argBest,hb,if_true]; exact hP) (Heap.get?_update_self _ hS' rfl)
    (fun b o e=>(Heap.get?_update_other _ _ (nS e)).trans (hkp' b o e)) fun v' h'' tk'' hP' hk''=>hR v' h'' tk'' hP' hk''⟩
  | false=>
   simp only [Bool.false_eq_true,if_false]
   refine wpAny_bind (wpAny_letGo ?_)
   rw [hname]
   exact wpAny_pure ⟨plainId_quiet F.plain_min_loop _,ih (j + 1) _ vb c (by omega) hlt hst' (by simp only [argBest,hb,Bool.false_eq_true,if_false]; exact hPb) hS' hkp' fun v' h'' tk'' hP' hk''=>hR v' h'' tk'' hP' hk''⟩
theorem sT (W:Walks prog w A.in1 I fp wr n P St) (hcmp:xB prog w A.in1 h0 P bt) (hSf:S ∉ fp) (hw:∀ b ∈ wr,h0.get? b=none) (hS0:h0.get? S=none) (hn:0 < n) {s:Shared} {c:Nat} (hst:St 0 s.heap)
  (hS:s.heap.get? S=some (xD #[] c)) (hkp:∀ b o,h0.get? b=some o→s.heap.get? b=some o)
  (hR:∀ v h' tk,P (argBest bt (n - 1)) v→(∀ b o,h0.get? b=some o→h'.get? b=some o)→R (.ok (.ret v)) { s with heap:=h',toks:=tk }):
  codeAny (model prog w) A (.builtin "min.loop" ⟨[.ref I,.none,.ref S],kw⟩) R s:=by
 have hSw:S ∉ wr:=fun h=>hSf (W.sub _ h)
 have nw:∀ {b:Addr} {o:Obj},h0.get? b=some o→b ∉ wr:=fun e h=>by rw [hw _ h] at e; cases e
 have nS:∀ {b:Addr} {o:Obj},h0.get? b=some o→S ≠ b:=fun e h=>by rw [← h,hS0] at e; cases e
 have hname:(toString "min" ++ toString ".loop":String) = "min.loop":=by decide
 refine codeAny_builtin F.entry_min_loop ?_
 rw [Around.under_plainId F.plain_min_loop _]
 show wpAny _ A.in1 (seqItems? (.ref S) >>= _) _ _ s
 refine wpAny_bind (wpAny_seqItems hS rfl ?_)
 show wpAny _ A.in1 (tryCatch (pyNext (.ref I)) _ >>= _) _ _ s
 refine wpAny_bind (wpAny_tryCatch (W.item 0 s _ _ hn hst fun v h' tk hP hst' hk'=>?_))
 have hS':=hk' S _ hSw hS
 have hkp':∀ b o,h0.get? b=some o→h'.get? b=some o:=fun b o e=>hk' b o (nw e) (hkp b o e)
 show wpAny _ A.in1 (updateSeq S (fun _=>#[v,v]) >>= _) _ _ _
 refine wpAny_bind ?_
 refine wpAny_updateSeq hS' rfl ?_
 rw [hname]
 exact wpAny_pure ⟨plainId_quiet F.plain_min_loop _,v7 W hcmp hSf hw hS0 _ 0 _ v _ rfl hn (W.frame _ _ _ hst' fun b hbf o e=>(Heap.get?_update_other _ _ (fun h:S=b=>hSf (by rw [h]; exact hbf))).trans e) hP (Heap.get?_update_self _ hS' rfl)
  (fun b o e=>(Heap.get?_update_other _ _ (nS e)).trans (hkp' b o e)) fun v' h'' tk'' hP' hk''=>hR v' h'' tk'' hP' hk''⟩
theorem v8 {d:Value} {nm:Str} (W:Walks prog w A.in1 I fp wr 0 P St) (hSf:S ∉ fp) {s:Shared} {c:Nat} (hst:St 0 s.heap) (hS:s.heap.get? S=some (xD #[] c))
  (hR:∀ h' tk,(∀ b o,b ∉ wr→s.heap.get? b=some o→h'.get? b=some o)→R (.ok (.ret d)) { s with heap:=h',toks:=tk }):
  codeAny (model prog w) A (.builtin "min.loop" ⟨[.ref I,.none,.ref S],[(nm,d)]⟩) R s:=by
 refine codeAny_builtin F.entry_min_loop ?_
 rw [Around.under_plainId F.plain_min_loop _]
 show wpAny _ A.in1 (seqItems? (.ref S) >>= _) _ _ s
 refine wpAny_bind (wpAny_seqItems hS rfl ?_)
 show wpAny _ A.in1 (tryCatch (pyNext (.ref I)) _ >>= _) _ _ s
 refine wpAny_bind (wpAny_tryCatch (W.done s _ _ hst fun h' tk hk'=>?_))
 show wpAny _ A.in1 (rule _ >>= _) _ _ _
 refine wpAny_bind (wpAny_rule (wpAny_pure ?_))
 exact hR h' tk hk'
theorem uN {id:String} {b:Builtin} {args:List Value} {Q:Value→Shared→Prop} {E:Value→Shared→Prop} {s:Shared} (hk:builtinKind id=none) (hp:plainId id=true)
  (hb:entryFor table id=some b) (ha:argsOk id ⟨args,kw⟩)
  (hc:wpAny (model prog w) A.in1 (b ⟨args,kw⟩) (fun fin s'=>match fin with
   | .done f=>(match (Except.ok f:Result) with | .ok (.ret v)=>Q v s' | .ok _=>False | .error e=>E e s')
   | .again c'=>c'.quiet=true∧codeAny (model prog w) A c' (fun r s'=>match r with | .ok (.ret v)=>Q v s' | .ok _=>False | .error e=>E e s') s') E s):
  wpAny (model prog w) A (call (.builtin id) args kw) Q E s:=by
 refine wpAny_call (codeAny_call_builtin hp hb ?_)
 simp only [checkBuiltinCall,hk]
 cases hsig:Manifest.signature? id with
 | none=>exact wpAny_pure hc
 | some sig=>
  have h2:Bind.checkArgs id sig ⟨args,kw⟩=pure ():=by simpa only [argsOk,hsig] using ha
  simp only [h2]
  exact wpAny_pure hc
theorem jQ (a d:Value):argsOk "min" ⟨[a],[("default",d)]⟩:=by unfold argsOk; kernel_rfl
end
end PD
namespace PD
open PySem PySem.Spec PyProof.Rows L2
def sU (m:List Int) (l:List (List Int)):List Int:=l.foldl (fun m x=>if ltZ x m=true then x else m) m
def jR:List D→Option (List (List Int))
 | []=>some []
 | .tup a :: r=>match intsOf a,jR r with
  | some n,some ns=>some (n :: ns)
  | _,_=>none
 | _ :: _=>none
def uP (h:Heap) (us:List Value) (ns:List (List Int)):Prop:=us.length=ns.length∧∀ (i:Nat) (v:Value),us[i]?=some v→∃ a items,v=.ref a∧h.IsTuple a items∧IntsAre items.toList (ns.getD i [])
theorem nK (ns:List (List Int)):∀ k:Nat,k < ns.length→argBest (fun i j=>ltZ (ns.getD i []) (ns.getD j [])) k≤k∧ns.getD (argBest (fun i j=>ltZ (ns.getD i []) (ns.getD j [])) k) []=sU (ns.getD 0 []) ((ns.drop 1).take k)
 | 0,h=>⟨Nat.le_refl _,rfl⟩
 | k + 1,h=>by
  obtain ⟨h1,h2⟩:=nK ns k (by omega)
  have hd:(ns.drop 1)[k]?=some (ns.getD (k + 1) []):=by
   rw [List.getElem?_drop,Nat.add_comm 1 k,List.getD_eq_getElem?_getD,List.getElem?_eq_getElem h]; rfl
  have ht:(ns.drop 1).take (k + 1)=(ns.drop 1).take k ++ [ns.getD (k + 1) []]:=by
   rw [List.take_succ,hd]; rfl
  rw [ht]
  unfold sU at h2 ⊢
  rw [List.foldl_append,← h2]
  simp only [argBest,List.foldl_cons,List.foldl_nil]
  by_cases hb:ltZ (ns.getD (k + 1) []) (ns.getD (argBest (fun i j=>ltZ (ns.getD i []) (ns.getD j [])) k) [])=true
  ·rw [if_pos hb,if_pos hb]; exact ⟨Nat.le_refl _,rfl⟩
  ·rw [if_neg hb,if_neg hb]; exact ⟨by omega,rfl⟩
theorem nL:∀ {ds:List D} {ns:List Int},intsOf ds=some ns→ds=ns.map .int
 | [],ns,h=>by unfold intsOf at h; cases h; rfl
 | d :: r,ns,h=>by
  unfold intsOf at h
  split at h
  ·rename_i e; cases e
  ·rename_i b r' e
   cases e
   cases e:intsOf r with
   | none=>rw [e] at h; cases h
   | some cs=>rw [e] at h; cases h; rw [nL e]; rfl
  ·cases h
section
variable {X:Cx} {E:XK} {pins:List (Addr × Obj)} {σ:L2.St} {H:Hp} {s:Shared}
theorem qW {w:Wd} (I:Inv X pins σ H s):∀ {ds:List D} {vs:List V} {us:List Value} {ns:List (List Int)},RDs X.K w H ds vs→Vals vs us→jR ds=some ns→uP s.heap us ns∧∀ (i:Nat) (v:Value),us[i]?=some v→∃ y,RelV y v∧RD X.K w H (.tup ((ns.getD i []).map .int)) y
 | [],_,_,_,q,r,h=>by
  rw [q.nil_inv] at r
  cases r
  unfold jR at h
  cases h
  exact ⟨⟨rfl,fun i v h=>by simp at h⟩,fun i v h=>by simp at h⟩
 | d :: ds,_,_,ns,q,r,h=>by
  obtain ⟨y,vs,rfl,p,t⟩:=q.cons_inv
  unfold jR at h
  split at h
  ·rename_i e; cases e
  ·rename_i a r' eq
   cases eq
   split at h
   ·rename_i n ns' e1 e2
    cases h
    cases r with
    | cons rv rr=>
     obtain ⟨⟨l,g⟩,g2⟩:=qW I t rr e2
     obtain ⟨pa,xs,rfl,za,ra⟩:=p.tupI
     obtain ⟨its,r1,p1,_⟩:=I.tuple (cR za)
     cases rv
     refine ⟨⟨by simp [l],fun i v hv=>?_⟩,fun i v hv=>?_⟩
     ·cases i with
      | zero=>cases hv; exact ⟨pa,its.toArray,rfl,p1,by simpa using jl ra r1 e1⟩
      | succ i=>exact g i v (by simpa using hv)
     ·cases i with
      | zero=>cases hv; exact ⟨.ref pa,rfl,by have:=nL e1; subst this; exact p⟩
      | succ i=>exact g2 i v (by simpa using hv)
   ·cases h
  ·cases h
end
section
variable {prog:Program} {w:World} {A:Around} {E:Value→Shared→Prop} {s:Shared}
theorem wa {h0:Heap} {us:List Value} {ns:List (List Int)} (t:uP h0 us ns) (hu:A.units < cLine):xB prog w A h0 (fun i v=>us.toArray[i]?=some v) fun i j=>ltZ (ns.getD i []) (ns.getD j []):=by
 intro i j vi vj s Q E hk hi hj h
 obtain ⟨a,xs,rfl,ta,ia⟩:=t.2 i vi (by simpa using hi)
 obtain ⟨b,ys,rfl,tb,ib⟩:=t.2 j vj (by simpa using hj)
 exact zR (ta.at fun o e=>hk _ o e) (tb.at fun o e=>hk _ o e) ia ib hu prog w h
theorem nM {l:Addr} {us:List Value} {bt:Nat→Nat→Bool} {kw:List (Str × Value)} {df:Option Value} {Q:Value→Shared→Prop} (hh:A.handled=none) (hl:s.heap.IsList l us.toArray) (hne:0 < us.length)
  (ha:argsOk "min" ⟨[.ref l],kw⟩) (hb:Builtin.Builtins.bindParams "min" ["key","default"] 0 ⟨[],kw⟩=pure [none,df])
  (hcmp:xB prog w A.in1 s.heap (fun i v=>us.toArray[i]?=some v) bt)
  (h:∀ v h' tk,us[argBest bt (us.length - 1)]?=some v→(∀ b o,s.heap.get? b=some o→h'.get? b=some o)→Q v { s with heap:=h',toks:=tk }):
  wpAny (model prog w) A (call (.builtin "min") [.ref l] kw) Q E s:=by
 have hname:(toString "min" ++ toString ".loop":String) = "min.loop":=by decide
 have hlt:l < s.heap.objs.size:=by obtain ⟨_,e,_⟩:=hl; exact Heap.lt_size e
 refine uN F.kind_min F.plain_min F.entry_min ha ?_
 show wpAny _ A.in1 (Builtin.Builtins.bindParams "min" ["key","default"] 0 ⟨[],kw⟩ >>= _) _ _ s
 refine wpAny_bind (wpAny_of_eq hb ?_)
 refine wpAny_bind (wpAny_pure ?_)
 refine wpAny_bind (wpAny_pyIter_list hl ?_)
 refine wpAny_bind (wpAny_newObj_type ?_)
 have hsz:(s.heap.push { cls:=.type "list_iterator",data:=.fields #[.ref l,.int 0 0] }).objs.size=s.heap.objs.size + 1:=Heap.size_push ..
 have W:=Walks.list (prog:=prog) (w:=w) (A:=A.in1) hh s.heap.objs.size l (Nat.ne_of_lt hlt) us.toArray
 have hSf:s.heap.objs.size + 1 ∉ [s.heap.objs.size,l]:=fun hm=>by
  rcases List.mem_cons.mp hm with e | hm
  ·exact absurd e (Nat.succ_ne_self _)
  ·rcases List.mem_cons.mp hm with e | hm
   ·exact Nat.lt_irrefl _ (Nat.lt_of_succ_lt (e ▸ hlt:s.heap.objs.size + 1 < s.heap.objs.size))
   ·cases hm
 rw [hname]
 refine wpAny_pure ⟨plainId_quiet F.plain_min_loop _,?_⟩
 show codeAny _ A (.builtin "min.loop" ⟨[.ref s.heap.objs.size,.none,.ref (s.heap.push _).objs.size],_⟩) _ _
 rw [hsz]
 refine sT (h0:=s.heap) W hcmp hSf (fun b hb=>?_) (Heap.get?_none_of_le (Nat.le_succ _)) (by simpa using hne) (W.frame _ _ _ ⟨⟨_,Heap.get?_push_size _ rfl,rfl,rfl⟩,hl.push _⟩ fun b _ o e=>Heap.get?_push_of_some _ e) (by rw [← hsz]; exact Heap.get?_push_size _ rfl)
  (fun b o e=>Heap.get?_push_of_some _ (Heap.get?_push_of_some _ e)) fun v h' tk hP hk=>h v h' tk (by simpa using hP) hk
 ·simp at hb; rw [hb]; exact Heap.get?_none_of_le (Nat.le_refl _)
theorem sV {l:Addr} {d:Value} {Q:Value→Shared→Prop} (hh:A.handled=none) (hl:s.heap.IsList l #[])
  (h:∀ h' tk,(∀ b o,s.heap.get? b=some o→h'.get? b=some o)→Q d { s with heap:=h',toks:=tk }):
  wpAny (model prog w) A (call (.builtin "min") [.ref l] [("default",d)]) Q E s:=by
 have hname:(toString "min" ++ toString ".loop":String) = "min.loop":=by decide
 have hlt:l < s.heap.objs.size:=by obtain ⟨_,e,_⟩:=hl; exact Heap.lt_size e
 refine uN F.kind_min F.plain_min F.entry_min (jQ _ _) ?_
 show wpAny _ A.in1 (Builtin.Builtins.bindParams "min" ["key","default"] 0 ⟨[],[("default",d)]⟩ >>= _) _ _ s
 refine wpAny_bind (wpAny_of_eq (show Builtin.Builtins.bindParams "min" ["key","default"] 0 ⟨[],[("default",d)]⟩=pure [none,some d] from rfl) ?_)
 refine wpAny_bind (wpAny_pure ?_)
 refine wpAny_bind (wpAny_pyIter_list hl ?_)
 refine wpAny_bind (wpAny_newObj_type ?_)
 have hsz:(s.heap.push { cls:=.type "list_iterator",data:=.fields #[.ref l,.int 0 0] }).objs.size=s.heap.objs.size + 1:=Heap.size_push ..
 have W:=Walks.list (prog:=prog) (w:=w) (A:=A.in1) hh s.heap.objs.size l (Nat.ne_of_lt hlt) #[]
 have hSf:s.heap.objs.size + 1 ∉ [s.heap.objs.size,l]:=fun hm=>by
  rcases List.mem_cons.mp hm with e | hm
  ·exact absurd e (Nat.succ_ne_self _)
  ·rcases List.mem_cons.mp hm with e | hm
   ·exact Nat.lt_irrefl _ (Nat.lt_of_succ_lt (e ▸ hlt:s.heap.objs.size + 1 < s.heap.objs.size))
   ·cases hm
 rw [hname]
 refine wpAny_pure ⟨plainId_quiet F.plain_min_loop _,?_⟩
 show codeAny _ A (.builtin "min.loop" ⟨[.ref s.heap.objs.size,.none,.ref (s.heap.push _).objs.size],[("default",d)]⟩) _ _
 rw [hsz]
 refine v8 W hSf (W.frame _ _ _ ⟨⟨_,Heap.get?_push_size _ rfl,rfl,rfl⟩,hl.push _⟩ fun b _ o e=>Heap.get?_push_of_some _ e) (by rw [← hsz]; exact Heap.get?_push_size _ rfl) fun h' tk hk=>h h' tk fun b o e=>hk b o (fun hm=>?_) (Heap.get?_push_of_some _ (Heap.get?_push_of_some _ e))
 simp at hm
 exact absurd (hm ▸ Heap.lt_size e) (Nat.lt_irrefl _)
end
end PD
namespace PD
open PySem PySem.Spec PyProof.Rows L2
section
variable {prog:Program} {w:World} {A:Around} {E:Value→Shared→Prop} {s:Shared}
end
theorem qX:∀ (l:List Int) (m x:Int),fN m (l ++ [x])=if x < fN m l then x else fN m l
 | [],m,x=>rfl
 | y :: l,m,x=>qX l (if y < m then y else m) x
theorem nN (ns:List Int):∀ k:Nat,k < ns.length→ns.getD (argBest (fun i j=>decide (ns.getD i 0 < ns.getD j 0)) k) 0=fN (ns.getD 0 0) ((ns.drop 1).take k)
 | 0,h=>rfl
 | k + 1,h=>by
  have h2:=nN ns k (by omega)
  have hd:(ns.drop 1)[k]?=some (ns.getD (k + 1) 0):=by
   rw [List.getElem?_drop,Nat.add_comm 1 k,List.getD_eq_getElem?_getD,List.getElem?_eq_getElem h]; rfl
  have ht:(ns.drop 1).take (k + 1)=(ns.drop 1).take k ++ [ns.getD (k + 1) 0]:=by
   rw [List.take_succ,hd]; rfl
  rw [ht,qX,← h2]
  simp only [argBest]
  by_cases hb:ns.getD (k + 1) 0 < ns.getD (argBest (fun i j=>decide (ns.getD i 0 < ns.getD j 0)) k) 0
  ·rw [if_pos (decide_eq_true hb),if_pos hb]
  ·rw [if_neg (by simpa using hb),if_neg hb]
theorem o8:∀ {vs:List Value} {ns:List Int},IntsAre vs ns→∀ (i:Nat) (v:Value),vs[i]?=some v→∃ t,v=.int (ns.getD i 0) t
 | _,_,.nil,i,v,h=>by simp at h
 | _,_,.cons n t r,0,v,h=>by cases h; exact ⟨t,rfl⟩
 | _,_,.cons n t r,i + 1,v,h=>o8 r i v (by simpa using h)
def qY:Sto→List D→Option D
 | S,[d]=>match nI S d with
  | some []=>some .non
  | some (x :: a)=>match jR (x :: a),intsOf (x :: a) with
   | some (n :: ns),_=>some (.tup ((sU n ns).map .int))
   | none,some (n :: ns)=>some (.int (fN n ns))
   | _,_=>none
  | none=>none
 | _,_=>none
def xE (X:Cx) (f:Value) (kw:List (Str × Value)) (r:List V→Hp→VK→Prop):Prop:=
 ∀ (pins:List (Addr × Obj)) (s:Shared) (σ:L2.St) (H:Hp) (xs:List V) (us:List Value) (Q:VK),Inv X pins σ H s→Vals xs us→r xs H Q→
  wpAny (model X.prog X.w) X.A (call f us kw) (EP X pins σ Q) X.xe s
section
variable {X:Cx} {E:XK}
theorem zS {k:Nat} (hc:X.calm=true) (hr:Room k X.A):xE X (.builtin "min") [("default",.none)] (xC X.K E qY):=by
 rintro pins s σ H xs us Q I r ⟨w,S,ds,hS,qs,p⟩
 obtain ⟨z,hz,p'⟩:=p.of
 clear p
 unfold qY at hz
 split at hz
 ·rename_i d
  obtain ⟨v,rfl,q⟩:=qs.one_inv
  obtain ⟨u,rfl,rx⟩:=vals1 r
  split at hz
  ·rename_i ha
   cases hz
   obtain ⟨pa,vs,rfl,sq,ra⟩:=sS hS q ha
   cases rx
   obtain ⟨its,r',pl,_⟩:=I.list sq
   rw [ra.nil_inv] at r'
   cases r'
   exact sV (I.ok.hd hc) pl.isList fun h' tk hk=>⟨.non,H,I.kept (t':=tk) hk,rfl,p'.ret (by unfold RD; rfl) hS⟩
  ·rename_i x a ha
   obtain ⟨pa,vs,rfl,sq,ra⟩:=sS hS q ha
   cases rx
   obtain ⟨its,r',pl,_⟩:=I.list sq
   split at hz
   ·rename_i n ns e
    cases hz
    obtain ⟨t,g⟩:=qW I ra r' e
    have hl:its.length=ns.length + 1:=by rw [t.1]; rfl
    refine nM (df:=some .none) (I.ok.hd hc) pl.isList (by omega) (jQ _ _) rfl (wa t (by have:=hr.un; show X.A.units + 1 < cLine; omega)) fun v h' tk hv hk=>?_
    obtain ⟨y,ry,rd⟩:=g _ v hv
    obtain ⟨_,b2⟩:=nK (n :: ns) (its.length - 1) (by rw [hl]; exact Nat.lt_succ_self _)
    have b3:sU ((n :: ns).getD 0 []) (((n :: ns).drop 1).take (its.length - 1))=sU n ns:=by
     rw [hl]
     show sU n (ns.take ns.length)=sU n ns
     rw [List.take_length]
    rw [b2,b3] at rd
    exact ⟨y,H,I.kept (t':=tk) hk,ry,p'.ret rd hS⟩
   ·rename_i n ns _ e
    cases hz
    have ia:=jl ra r' e
    have hl:its.length=(n :: ns).length:=ia.length
    have hcmp:xB X.prog X.w X.A.in1 s.heap (fun i v=>its.toArray[i]?=some v) (fun i j=>decide ((n :: ns).getD i 0 < (n :: ns).getD j 0)):=by
     intro i j vi vj s1 Q1 E1 hk hi hj h
     obtain ⟨t1,rfl⟩:=o8 ia i vi (by simpa using hi)
     obtain ⟨t2,rfl⟩:=o8 ia j vj (by simpa using hj)
     exact uM X.prog X.w h
    refine nM (df:=some .none) (I.ok.hd hc) pl.isList (by rw [hl]; exact Nat.succ_pos _) (jQ _ _) rfl hcmp fun v h' tk hv hk=>?_
    obtain ⟨t1,rfl⟩:=o8 ia _ v hv
    have b:=nN (n :: ns) (its.length - 1) (by rw [hl]; exact Nat.lt_succ_self _)
    have b3:fN ((n :: ns).getD 0 0) (((n :: ns).drop 1).take (its.length - 1))=fN n ns:=by
     rw [hl]
     show fN n (ns.take ns.length)=fN n ns
     rw [List.take_length]
    rw [b3] at b
    refine ⟨.int (fN n ns),H,I.kept (t':=tk) hk,⟨t1,?_⟩,p'.ret RD.mkI hS⟩
    rw [b]
   ·cases hz
  ·cases hz
 ·cases hz
variable {a:Expr} {ms:AM} {x:Str} {p pos kp:Pos} {id:String} {nm:Str}
theorem wb {r:List V→Hp→VK→Prop} {t:TA} {j:Nat} {cp:Pos} (hc:xE X (.builtin id) [(nm,.none)] r) (hg:Gl X x) (hm:X.mg x=none) (hv:bootBuiltins x=some (.builtin id)) (ha:PA X [a] t) (hn:autoParam (x ≠ "__name__") Au.h2._auto_1) (hdb:autoParam ((x == ("__debug__":Str))=false) Au.h2._auto_1)
  (he:autoParam (backTo pos (starEach [a] X.env)=(false,eval a X.env) :: backTo pos (starEach [] X.env)) Au.h1._auto_1) (hpl:autoParam ((backTo pos (starEach [a] X.env)).any (·.1)=false) Au.h1._auto_1):PE X (.Call (.Name x p) [a] [⟨some nm,.Constant .none j cp,kp⟩] pos) (tCB r t):=by
 intro pins s σ H Q I h
 refine wpAny_Call_Name_kw (iS I hg hm hv ?_ hn hdb)
 refine callWith_kw (thn (ha pos pins s σ H _ I h) fun us s1 zq=>ex5 zq fun vs H1 I1 r1 q1=>kws_cons ?_) he hpl
 exact Constant_none (kws_nil (hc pins s1 σ H1 vs us Q I1 r1 q1))
theorem wc {f:Sto→List D→Option D} {j:Nat} {cp:Pos} (hc:xE X (.builtin id) [(nm,.none)] (xC X.K E f)) (hg:Gl X x) (hm:X.mg x=none) (hv:bootBuiltins x=some (.builtin id)) (ha:SA X E [a] ms) (hn:autoParam (x ≠ "__name__") Au.h3._auto_1) (hdb:autoParam ((x == ("__debug__":Str))=false) Au.h3._auto_1)
  (he:autoParam (backTo pos (starEach [a] X.env)=(false,eval a X.env) :: backTo pos (starEach [] X.env)) Au.h0._auto_1) (hpl:autoParam ((backTo pos (starEach [a] X.env)).any (·.1)=false) Au.h0._auto_1):SE X E (.Call (.Name x p) [a] [⟨some nm,.Constant .none j cp,kp⟩] pos) (eB f ms):=⟨
 bC (wb hc hg hm hv ha.out hn hdb he hpl) fun s H Q zq=>ex6 zq fun w r S hr hS hp=>⟨w,r,S,hr,hS,hp.bind hS fun ds S1 w1 H1 vs x1 q1 s1 p1=>⟨w1,S1,ds,s1,q1,p1⟩⟩⟩
end
end PD
namespace SR
open PySem PyProof.Rows
abbrev SM (α:Type):=StateT SortSt Sem α
def Up (xs:Array Keyed) (lo hi:Nat):Prop:=∀ i j,lo≤i→i≤j→j < hi→K xs i≤K xs j
def Dn (xs:Array Keyed) (lo hi:Nat):Prop:=∀ i j,lo≤i→i≤j→j < hi→K xs j≤K xs i
def Num (p:Keyed):Prop:=∃ n t,p.1=.int n t
def IK (xs:Array Keyed):Prop:=∀ p ∈ xs.toList,Num p
theorem IK.get {xs:Array Keyed} (h:IK xs) {i:Nat} (hi:i < xs.size):Num xs[i]:=h _ (by simp)
theorem bM {xs:Array Keyed} {i:Nat} (hi:i < xs.size):K xs i=numOf xs[i].1:=by unfold K; rw [getElem?_pos xs i hi]
section
variable {prog:Program} {w:World} {A:Around} {E:Value→Shared→Prop} {s:Shared}
theorem qZ {st:SortSt} {p q:Keyed} {Q:Option Bool→SortSt→Prop} (hk:kindOf st=oneType') (hp:Num p) (hq:Num q) (h:Q (some (decide (numOf p.1 < numOf q.1))) st):wpS (model prog w) A E s (lt' p q) Q st:=by
 obtain ⟨p1,p2⟩:=p
 obtain ⟨q1,q2⟩:=q
 obtain ⟨a,t,e1⟩:=hp
 obtain ⟨b,u,e2⟩:=hq
 dsimp only at e1 e2
 subst e1 e2
 rw [lt'_eq]
 refine wpS_bind (wpS_get ?_)
 rw [hk,keyLt'_oneType]
 exact wpS_bind (wpS_lift (wpAny_attempt (oneLt_int ⟨rfl,wpS_pure h⟩)))
theorem bb {st:SortSt} {xs:Array Keyed} {i:Nat} {Q:Keyed→SortSt→Prop} (hi:i < xs.size) (h:Q xs[i] st):wpS (model prog w) A E s (elem' xs i) Q st:=by
 rw [elem'_eq,getElem?_pos xs i hi]
 exact wpS_pure h
end
def gal:Bool→Keyed→Array Keyed→Nat→Nat→Nat→SM (Option Nat):=sortPriv% PySem.Builtin.gallop
def by1 (left:Bool) (key:Keyed) (arr:Array Keyed) (z:Nat):SM (Option Bool):=do
 let x ← elem' arr z
 if left then lt' x key else return (← lt' key x).map (!·)
theorem Cm (left:Bool) (key:Keyed) (arr:Array Keyed) (base n hint:Nat):gal left key arr base n hint=(do
 let f:Nat→SM (Option Bool):=fun i=>by1 left key arr (base + i)
 let mut l1:=0
 let mut o1:=1
 let mut lo:=0
 let mut hi:=0
 let some rg ← f hint | return none
 if rg then
  let mx:=n - hint
  for _ in [0:n] do
   if o1 ≥ mx then break
   let some b ← f (hint + o1) | return none
   if !b then break
   l1:=o1
   o1:=2 * o1 + 1
  lo:=hint + l1 + 1
  hi:=hint + min o1 mx
 else
  let mx:=hint + 1
  for _ in [0:n] do
   if o1 ≥ mx then break
   let some b ← f (hint - o1) | return none
   if b then break
   l1:=o1
   o1:=2 * o1 + 1
  lo:=hint + 1 - min o1 mx
  hi:=hint - l1
 for _ in [0:n] do
  if lo ≥ hi then break
  let m:=lo + (hi - lo) / 2
  let some b ← f m | return none
  if b then lo:=m + 1 else hi:=m
 return some hi):=rfl
section
variable {prog:Program} {w:World} {A:Around} {E:Value→Shared→Prop} {s:Shared}
def bef (left:Bool) (key:Keyed) (arr:Array Keyed) (i:Nat):Bool:=if left=true then decide (K arr i < numOf key.1) else !decide (numOf key.1 < K arr i)
theorem jn {left:Bool} {key:Keyed} {arr:Array Keyed} {lo hi:Nat} (hs:Up arr lo hi) {i j:Nat} (hi1:lo≤i) (hij:i≤j) (hj:j < hi) (h:bef left key arr j=true):bef left key arr i=true:=by
 have z:=hs i j hi1 hij hj
 cases left
 ·simp [bef] at h ⊢; omega
 ·simp [bef] at h ⊢; omega
theorem pd {left:Bool} {key:Keyed} {arr:Array Keyed} {i:Nat} {st:SortSt} {Q:Option Bool→SortSt→Prop} (hk:kindOf st=oneType') (ha:IK arr) (hy:Num key) (hi:i < arr.size) (h:Q (some (bef left key arr i)) st):wpS (model prog w) A E s (by1 left key arr i) Q st:=by
 unfold by1
 refine wpS_bind (bb hi ?_)
 have e:=bM hi
 cases left
 ·refine wpS_bind (qZ hk hy (ha.get hi) (wpS_pure ?_))
  simpa [bef,e] using h
 ·refine qZ hk (ha.get hi) hy ?_
  simpa [bef,e] using h
theorem A3 {left:Bool} {key:Keyed} {arr:Array Keyed} {base n lo hi:Nat} {st:SortSt} {Q:Option (Option Nat) × Nat × Nat→SortSt→Prop} (hk:kindOf st=oneType') (ha:IK arr) (hy:Num key) (hn:base + n≤arr.size) (hs:Up arr base (base + n))
  (h1:lo≤hi) (h2:hi≤n) (h3:∀ i,i < lo→bef left key arr (base + i)=true) (h4:∀ i,hi≤i→i < n→bef left key arr (base + i)=false)
  (h:∀ l k,k≤n→(∀ i,i < k→bef left key arr (base + i)=true)→(∀ i,k≤i→i < n→bef left key arr (base + i)=false)→Q (none,l,k) st):
  wpS (model prog w) A E s (forIn [0:n] ((none,lo,hi):Option (Option Nat) × Nat × Nat) fun _ c=>
    if c.2.1 ≥ c.2.2 then pure (.done (none,c.2.1,c.2.2)) else do
     match ← by1 left key arr (base + (c.2.1 + (c.2.2 - c.2.1) / 2)) with
     | some b=>if b=true then pure (.yield (none,c.2.1 + (c.2.2 - c.2.1) / 2 + 1,c.2.2)) else pure (.yield (none,c.2.1,c.2.1 + (c.2.2 - c.2.1) / 2))
     | _=>pure (.done (some none,c.2.1,c.2.2))) Q st:=by
 refine wpS_mono (wpS_forRange (I:=fun x c st'=>st'=st∧∃ l u,c=(none,l,u)∧l≤u∧u≤n∧u - l≤n - x∧(∀ i,i < l→bef left key arr (base + i)=true)∧(∀ i,u≤i→i < n→bef left key arr (base + i)=false))
  (Q:=fun c st'=>st'=st∧∃ l u,c=(none,l,u)∧u≤n∧(∀ i,i < u→bef left key arr (base + i)=true)∧(∀ i,u≤i→i < n→bef left key arr (base + i)=false)) ?a ?b ⟨rfl,lo,hi,rfl,h1,h2,by omega,h3,h4⟩) ?c
 case b=>
  rintro c st' ⟨rfl,l,u,rfl,b1,b2,b3,b4,b5⟩
  have:l=u:=by omega
  subst this
  exact ⟨rfl,l,l,rfl,b2,b4,b5⟩
 case c=>
  rintro c st' ⟨rfl,l,u,rfl,b2,b4,b5⟩
  exact h l u b2 b4 b5
 case a=>
  rintro x c st' _ hx ⟨rfl,l,u,rfl,b1,b2,b3,b4,b5⟩
  dsimp only
  by_cases g:l ≥ u
  ·rw [if_pos g]
   have:l=u:=by omega
   subst this
   exact wpS_pure ⟨rfl,l,l,rfl,b2,b4,b5⟩
  ·rw [if_neg g]
   refine wpS_bind (pd hk ha hy (by omega) ?_)
   dsimp only
   cases eb:bef left key arr (base + (l + (u - l) / 2)) with
   | true=>
    rw [if_pos rfl]
    refine wpS_pure ⟨rfl,_,_,rfl,by omega,b2,by omega,fun i hi=>?_,b5⟩
    exact jn hs (by omega) (by omega) (by omega) eb
   | false=>
    rw [if_neg Bool.false_ne_true]
    refine wpS_pure ⟨rfl,_,_,rfl,by omega,by omega,by omega,b4,fun i h1 h2=>?_⟩
    cases e2:bef left key arr (base + i) with
    | false=>rfl
    | true=>
     have:=jn (left:=left) (key:=key) hs (i:=base + (l + (u - l) / 2)) (j:=base + i) (by omega) (by omega) (by omega) e2
     rw [eb] at this
     cases this
theorem i5 {left:Bool} {key:Keyed} {arr:Array Keyed} {base n hint:Nat} {st:SortSt} {Q:Option Nat→SortSt→Prop} (hk:kindOf st=oneType') (ha:IK arr) (hy:Num key) (hn:base + n≤arr.size) (hh:hint < n) (hs:Up arr base (base + n))
  (h:∀ k,k≤n→(∀ i,i < k→bef left key arr (base + i)=true)→(∀ i,k≤i→i < n→bef left key arr (base + i)=false)→Q (some k) st):
  wpS (model prog w) A E s (gal left key arr base n hint) Q st:=by
 have no:∀ i j,i≤j→j < n→bef left key arr (base + i)=false→bef left key arr (base + j)=false:=fun i j h1 h2 e=>by
  cases e2:bef left key arr (base + j) with
  | false=>rfl
  | true=>
   have:=jn (left:=left) (key:=key) hs (i:=base + i) (j:=base + j) (by omega) (by omega) (by omega) e2
   rw [e] at this
   cases this
 have ys:∀ i j,i≤j→j < n→bef left key arr (base + j)=true→bef left key arr (base + i)=true:=fun i j h1 h2 e=>
  jn hs (by omega) (by omega) (by omega) e
 rw [Cm]
 dsimp only
 refine wpS_bind (pd hk ha hy (by omega) ?_)
 dsimp only
 cases e0:bef left key arr (base + hint) with
 | true=>
  rw [if_pos rfl]
  refine wpS_bind (wpS_mono (wpS_forRange (I:=fun x c st'=>st'=st∧∃ l o,c=(none,l,o)∧l < o∧x + 1≤o∧l < n - hint∧bef left key arr (base + (hint + l))=true)
   (Q:=fun c st'=>st'=st∧∃ l o,c=(none,l,o)∧l < o∧l < n - hint∧bef left key arr (base + (hint + l))=true∧(o < n - hint→bef left key arr (base + (hint + o))=false)) ?a ?b ⟨rfl,0,1,rfl,by omega,by omega,by omega,e0⟩) ?c)
  case b=>
   rintro c st' ⟨rfl,l,o,rfl,b1,b2,b3,b4⟩
   exact ⟨rfl,l,o,rfl,b1,b3,b4,fun z=>by omega⟩
  case a=>
   rintro x c st' _ hx ⟨rfl,l,o,rfl,b1,b2,b3,b4⟩
   dsimp only
   by_cases g:o ≥ n - hint
   ·rw [if_pos g]
    exact wpS_pure ⟨rfl,l,o,rfl,b1,b3,b4,fun z=>by omega⟩
   ·rw [if_neg g]
    refine wpS_bind (pd hk ha hy (by omega) ?_)
    dsimp only
    cases eb:bef left key arr (base + (hint + o)) with
    | false=>
     rw [if_pos (by decide)]
     exact wpS_pure ⟨rfl,l,o,rfl,b1,b3,b4,fun _=>eb⟩
    | true=>
     rw [if_neg (by decide)]
     exact wpS_pure ⟨rfl,o,2 * o + 1,rfl,by omega,by omega,by omega,eb⟩
  case c=>
   rintro c st' ⟨rfl,l,o,rfl,b1,b3,b4,b5⟩
   dsimp only
   refine wpS_bind (A3 (lo:=hint + l + 1) (hi:=hint + min o (n - hint)) hk ha hy hn hs (by omega) (by omega) (fun i hi=>?_) (fun i h1 h2=>?_) fun _ k a b c=>wpS_pure (h k a b c))
   ·exact ys i (hint + l) (by omega) (by omega) b4
   ·by_cases g:o < n - hint
    ·exact no (hint + o) i (by omega) h2 (b5 g)
    ·omega
 | false=>
  rw [if_neg Bool.false_ne_true]
  refine wpS_bind (wpS_mono (wpS_forRange (I:=fun x c st'=>st'=st∧∃ l o,c=(none,l,o)∧l < o∧x + 1≤o∧l≤hint∧bef left key arr (base + (hint - l))=false)
   (Q:=fun c st'=>st'=st∧∃ l o,c=(none,l,o)∧l < o∧l≤hint∧bef left key arr (base + (hint - l))=false∧(o≤hint→bef left key arr (base + (hint - o))=true)) ?a ?b ⟨rfl,0,1,rfl,by omega,by omega,by omega,e0⟩) ?c)
  case b=>
   rintro c st' ⟨rfl,l,o,rfl,b1,b2,b3,b4⟩
   exact ⟨rfl,l,o,rfl,b1,b3,b4,fun z=>by omega⟩
  case a=>
   rintro x c st' _ hx ⟨rfl,l,o,rfl,b1,b2,b3,b4⟩
   dsimp only
   by_cases g:o ≥ hint + 1
   ·rw [if_pos g]
    exact wpS_pure ⟨rfl,l,o,rfl,b1,b3,b4,fun z=>by omega⟩
   ·rw [if_neg g]
    refine wpS_bind (pd hk ha hy (by omega) ?_)
    dsimp only
    cases eb:bef left key arr (base + (hint - o)) with
    | true=>
     rw [if_pos rfl]
     exact wpS_pure ⟨rfl,l,o,rfl,b1,b3,b4,fun _=>eb⟩
    | false=>
     rw [if_neg Bool.false_ne_true]
     exact wpS_pure ⟨rfl,o,2 * o + 1,rfl,by omega,by omega,by omega,eb⟩
  case c=>
   rintro c st' ⟨rfl,l,o,rfl,b1,b3,b4,b5⟩
   dsimp only
   refine wpS_bind (A3 (lo:=hint + 1 - min o (hint + 1)) (hi:=hint - l) hk ha hy hn hs (by omega) (by omega) (fun i hi=>?_) (fun i h1 h2=>?_) fun _ k a b c=>wpS_pure (h k a b c))
   ·by_cases g:o≤hint
    ·exact ys i (hint - o) (by omega) (by omega) (b5 g)
    ·omega
   ·exact no (hint - l) i (by omega) h2 b4
end
end SR
namespace SR
open PySem PyProof.Rows
def mLo:Array Keyed→Array Keyed→SM (Array Keyed):=sortPriv% PySem.Builtin.mergeLo
def sMG:Nat→SM Unit:=sortPriv% PySem.Builtin.setMinGallop
theorem Cn (a b:Array Keyed):mLo a b=(do
 rule "list.sort.merge-lo"
 let tt:=a.size + b.size
 let dn (o:Array Keyed) (i j:Nat):=o ++ a.extract i a.size ++ b.extract j b.size
 let la (o:Array Keyed) (i j:Nat):=o ++ b.extract j b.size ++ a.extract i a.size
 let mut o:Array Keyed:=#[← elem' b 0]
 let mut i:=0
 let mut j:=1
 if j == b.size then return dn o i j
 if i + 1 == a.size then return la o i j
 let mut g:=gallopOf (← get)
 for _ in [0:tt] do
  let mut ca:=0
  let mut cb:=0
  for _ in [0:tt] do
   let some v ← lt' (← elem' b j) (← elem' a i) | return dn o i j
   if v then
    o:=o.push (← elem' b j); j:=j + 1; cb:=cb + 1; ca:=0
    if j == b.size then return dn o i j
    if cb ≥ g then break
   else
    o:=o.push (← elem' a i); i:=i + 1; ca:=ca + 1; cb:=0
    if i + 1 == a.size then return la o i j
    if ca ≥ g then break
  rule "list.sort.gallop"
  g:=g + 1
  for _ in [0:tt] do
   if g > 1 then g:=g - 1
   sMG g
   let some k ← gal false (← elem' b j) a i (a.size - i) 0 | return dn o i j
   ca:=k
   if k > 0 then
    o:=o ++ a.extract i (i + k); i:=i + k
    if i + 1 == a.size then return la o i j
    if i == a.size then return dn o i j
   o:=o.push (← elem' b j); j:=j + 1
   if j == b.size then return dn o i j
   let some k ← gal true (← elem' a i) b j (b.size - j) 0 | return dn o i j
   cb:=k
   if k > 0 then
    o:=o ++ b.extract j (j + k); j:=j + k
    if j == b.size then return dn o i j
   o:=o.push (← elem' a i); i:=i + 1
   if i + 1 == a.size then return la o i j
   if ca < 7 && cb < 7 then break
  g:=g + 1
  sMG g
 unsupported "internal:list.sort.merge-bound"):=rfl
def ke (p:Keyed):Int:=numOf p.1
def Sd (l:List Keyed):Prop:=l.Pairwise fun p q=>ke p≤ke q
structure Ml (tot o X Y:List Keyed):Prop where
 perm:(o ++ (X ++ Y)).Perm tot
 sd:Sd o
 le:∀ p ∈ o,∀ q ∈ X ++ Y,ke p≤ke q
theorem Ml.left {tot o L X Y:List Keyed} (h:Ml tot o (L ++ X) Y) (hs:Sd (L ++ X)) (hl:∀ p ∈ L,∀ q ∈ Y,ke p≤ke q):Ml tot (o ++ L) X Y:=by
 obtain ⟨s1,s2,s3⟩:=List.pairwise_append.mp hs
 refine ⟨by simpa [List.append_assoc] using h.perm,List.pairwise_append.mpr ⟨h.sd,s1,fun p hp q hq=>h.le p hp q (by simp [hq])⟩,fun p hp q hq=>?_⟩
 rcases List.mem_append.mp hp with hp | hp
 ·refine h.le p hp q ?_
  rcases List.mem_append.mp hq with hq | hq <;> simp [hq]
 ·rcases List.mem_append.mp hq with hq | hq
  ·exact s3 p hp q hq
  ·exact hl p hp q hq
theorem Ml.swap {tot o X Y:List Keyed} (h:Ml tot o X Y):Ml tot o Y X:=⟨(List.perm_append_comm.append_left o).trans h.perm,h.sd,fun p hp q hq=>h.le p hp q (by rcases List.mem_append.mp hq with z | z <;> simp [z])⟩
theorem Ml.right {tot o L X Y:List Keyed} (h:Ml tot o X (L ++ Y)) (hs:Sd (L ++ Y)) (hl:∀ p ∈ L,∀ q ∈ X,ke p≤ke q):Ml tot (o ++ L) X Y:=(h.swap.left hs hl).swap
theorem Ml.done {tot o:List Keyed} (h:Ml tot o [] []):o.Perm tot∧Sd o:=⟨by simpa using h.perm,h.sd⟩
def Mg (a b o:Array Keyed) (i j:Nat):Prop:=Ml (a.toList ++ b.toList) o.toList (a.toList.drop i) (b.toList.drop j)
def Good (a b r:Array Keyed):Prop:=r.toList.Perm (a.toList ++ b.toList)∧Sd r.toList
theorem fo {a:Array Keyed} (h:Up a 0 a.size):Sd a.toList:=by
 unfold Sd
 rw [List.pairwise_iff_getElem]
 intro i j hi hj hij
 have hi':i < a.size:=by simpa using hi
 have hj':j < a.size:=by simpa using hj
 have z:=h i j (Nat.zero_le _) (Nat.le_of_lt hij) hj'
 rw [bM hi',bM hj'] at z
 simpa [ke] using z
theorem DM {a:Array Keyed} (h:Sd a.toList):Up a 0 a.size:=by
 intro i j _ hij hj
 by_cases e:i=j
 ·subst e; exact Int.le_refl _
 ·unfold Sd at h
  rw [List.pairwise_iff_getElem] at h
  have z:=h i j (by simpa using (by omega:i < a.size)) (by simpa using hj) (by omega)
  rw [bM (by omega),bM hj]
  simpa [ke] using z
theorem Sd.drop {l:List Keyed} (h:Sd l) (i:Nat):Sd (l.drop i):=List.Pairwise.sublist (List.drop_sublist i l) h
theorem jo {a:Array Keyed} {i:Nat} (hi:i < a.size):a.toList.drop i=[a[i]] ++ a.toList.drop (i + 1):=by
 rw [List.drop_eq_getElem_cons (by simpa using hi)]
 simp
theorem jq {a:Array Keyed} (i k:Nat):a.toList.drop i=(a.toList.drop i).take k ++ a.toList.drop (i + k):=by
 rw [← List.drop_drop,List.take_append_drop]
theorem ef (a:Array Keyed) (i j:Nat):(a.extract i j).toList=(a.toList.drop i).take (j - i):=by
 rw [Array.toList_extract]
theorem gf {a:Array Keyed} {i:Nat} {p:Keyed} (h:p ∈ a.toList.drop i):∃ t,i≤t∧t < a.size∧ke p=K a t:=by
 obtain ⟨n,hn,e⟩:=List.mem_iff_getElem.mp h
 have hl:i + n < a.size:=by simp at hn; omega
 refine ⟨i + n,by omega,hl,?_⟩
 rw [bM hl,← e]
 simp [ke]
theorem iE {a:Array Keyed} {i k:Nat} {p:Keyed} (h:p ∈ (a.toList.drop i).take k):∃ t,t < k∧i + t < a.size∧ke p=K a (i + t):=by
 obtain ⟨n,hn,e⟩:=List.mem_iff_getElem.mp h
 have hl:n < k∧i + n < a.size:=by simp at hn; omega
 refine ⟨n,hl.1,hl.2,?_⟩
 rw [bM hl.2,← e]
 simp [ke]
section
variable {a b o:Array Keyed} {i j k:Nat}
theorem Mg.bulkA (ha:Up a 0 a.size) (hb:Up b 0 b.size) (h:Mg a b o i j) (hj:j < b.size) (hk:∀ t,t < k→i + t < a.size→K a (i + t)≤K b j):Mg a b (o ++ a.extract i (i + k)) (i + k) j:=by
 unfold Mg at h ⊢
 have e:(o ++ a.extract i (i + k)).toList=o.toList ++ (a.toList.drop i).take k:=by rw [Array.toList_append,ef]; simp
 rw [e]
 rw [jq i k] at h
 refine h.left (by rw [← jq]; exact (fo ha).drop i) fun p hp q hq=>?_
 obtain ⟨t,t1,t2,e1⟩:=iE hp
 obtain ⟨u,u1,u2,e2⟩:=gf hq
 have:=hk t t1 t2
 have:=hb j u (Nat.zero_le _) u1 u2
 omega
theorem Mg.bulkB (ha:Up a 0 a.size) (hb:Up b 0 b.size) (h:Mg a b o i j) (hi:i < a.size) (hk:∀ t,t < k→j + t < b.size→K b (j + t)≤K a i):Mg a b (o ++ b.extract j (j + k)) i (j + k):=by
 unfold Mg at h ⊢
 have e:(o ++ b.extract j (j + k)).toList=o.toList ++ (b.toList.drop j).take k:=by rw [Array.toList_append,ef]; simp
 rw [e]
 rw [jq j k] at h
 refine h.right (by rw [← jq]; exact (fo hb).drop j) fun p hp q hq=>?_
 obtain ⟨t,t1,t2,e1⟩:=iE hp
 obtain ⟨u,u1,u2,e2⟩:=gf hq
 have:=hk t t1 t2
 have:=ha i u (Nat.zero_le _) u1 u2
 omega
theorem Mg.pushA (ha:Up a 0 a.size) (hb:Up b 0 b.size) (h:Mg a b o i j) (hi:i < a.size) (hj:j < b.size) (hk:K a i≤K b j):Mg a b (o.push a[i]) (i + 1) j:=by
 unfold Mg at h ⊢
 rw [jo hi] at h
 rw [Array.toList_push]
 refine h.left (by rw [← jo hi]; exact (fo ha).drop i) fun p hp q hq=>?_
 rw [List.mem_singleton.mp hp]
 obtain ⟨u,u1,u2,e2⟩:=gf hq
 have:=hb j u (Nat.zero_le _) u1 u2
 have e:=bM hi
 unfold ke at e2 ⊢
 omega
theorem Mg.pushB (ha:Up a 0 a.size) (hb:Up b 0 b.size) (h:Mg a b o i j) (hi:i < a.size) (hj:j < b.size) (hk:K b j≤K a i):Mg a b (o.push b[j]) i (j + 1):=by
 unfold Mg at h ⊢
 rw [jo hj] at h
 rw [Array.toList_push]
 refine h.right (by rw [← jo hj]; exact (fo hb).drop j) fun p hp q hq=>?_
 rw [List.mem_singleton.mp hp]
 obtain ⟨u,u1,u2,e2⟩:=gf hq
 have:=ha i u (Nat.zero_le _) u1 u2
 have e:=bM hj
 unfold ke at e2 ⊢
 omega
theorem kK (a:Array Keyed) (i:Nat):(a.extract i a.size).toList=a.toList.drop i:=by
 rw [ef,List.take_of_length_le (by simp)]
theorem Mg.dn (ha:Up a 0 a.size) (hb:Up b 0 b.size) (h:Mg a b o i j) (hz:j=b.size ∨ i=a.size):Good a b (o ++ a.extract i a.size ++ b.extract j b.size):=by
 unfold Mg at h
 unfold Good
 rw [Array.toList_append,Array.toList_append,kK,kK]
 rcases hz with rfl | rfl
 ·have e:b.toList.drop b.size=[]:=by simp
  rw [e] at h ⊢
  rw [List.append_nil]
  refine Ml.done (Ml.left (by simpa using h) (by simpa using (fo ha).drop i) fun p hp q hq=>by cases hq)
 ·have e:a.toList.drop a.size=[]:=by simp
  rw [e] at h ⊢
  rw [List.append_nil]
  refine Ml.done (Ml.right (by simpa using h) (by simpa using (fo hb).drop j) fun p hp q hq=>by cases hq)
theorem Mg.la (ha:Up a 0 a.size) (hb:Up b 0 b.size) (h:Mg a b o i j) (hi:i + 1=a.size) (hl:∀ t,t < b.size→K b t≤K a (a.size - 1)):Good a b (o ++ b.extract j b.size ++ a.extract i a.size):=by
 unfold Mg at h
 unfold Good
 rw [Array.toList_append,Array.toList_append,kK,kK]
 have h1:Ml (a.toList ++ b.toList) (o.toList ++ b.toList.drop j) (a.toList.drop i) []:=by
  refine Ml.right (by simpa using h) (by simpa using (fo hb).drop j) fun p hp q hq=>?_
  obtain ⟨t,t1,t2,e1⟩:=gf hp
  obtain ⟨u,u1,u2,e2⟩:=gf hq
  have:=hl t t2
  have:u=a.size - 1:=by omega
  subst this
  omega
 exact Ml.done (Ml.left (by simpa using h1) (by simpa using (fo ha).drop i) fun p hp q hq=>by cases hq)
end
section
variable {prog:Program} {w:World} {A:Around} {E:Value→Shared→Prop} {s:Shared}
def Sg (st st':SortSt):Prop:=kindOf st'=kindOf st∧arrOf st'=arrOf st∧pendingOf st'=pendingOf st∧failedOf st'=failedOf st
theorem Sg.refl (st:SortSt):Sg st st:=⟨rfl,rfl,rfl,rfl⟩
theorem pe {st0 st:SortSt} {g:Nat} {Q:Unit→SortSt→Prop} (h0:Sg st0 st) (h:∀ st',Sg st0 st'→Q () st'):wpS (model prog w) A E s (sMG g) Q st:=by
 have e:sMG g=modify fun st=>SortSt.mk' (kindOf st) (arrOf st) (pendingOf st) g (failedOf st):=rfl
 rw [e]
 exact wpS_modify (h _ ⟨h0.1,h0.2.1,h0.2.2.1,h0.2.2.2⟩)
end
end SR
namespace SR
open PySem PyProof.Rows
section
variable {prog:Program} {w:World} {A:Around} {E:Value→Shared→Prop} {s:Shared}
structure Mid (a b o:Array Keyed) (i j:Nat):Prop where
 mg:Mg a b o i j
 ia:i + 1 < a.size
 jb:j < b.size
theorem zT {σ α β:Type} {M:Model} {c:Prop} {dc:Decidable c} {T:β→StateT σ Sem α} {p:StateT σ Sem α} {Q:α→σ→Prop} {st:σ} {y x:β} (hp:p=T x) (h:∀ g,wpS M A E s (T g) Q st):wpS M A E s (if c then p else T y) Q st:=by
 split
 ·rw [hp]; exact h x
 ·exact h y
theorem xF {σ α β γ:Type} {M:Model} {c:Prop} {dc:Decidable c} {T:β→γ→StateT σ Sem α} {p:StateT σ Sem α} {Q:α→σ→Prop} {st:σ} {I:β→γ→Prop} {y1:β} {y2:γ} (hn:¬ c→I y1 y2)
  (ht:∀ o i,I o i→wpS M A E s (T o i) Q st) (hp:c→(∀ o i,I o i→wpS M A E s (T o i) Q st)→wpS M A E s p Q st):wpS M A E s (if c then p else T y1 y2) Q st:=by
 by_cases hc:c
 ·rw [if_pos hc]; exact hp hc ht
 ·rw [if_neg hc]; exact ht _ _ (hn hc)
theorem Co {a b:Array Keyed} {st:SortSt} {Q:Array Keyed→SortSt→Prop} (hk:kindOf st=oneType') (ia:IK a) (ib:IK b) (ha:Up a 0 a.size) (hb:Up b 0 b.size) (a1:1≤a.size) (b1:1≤b.size) (h0:K b 0≤K a 0) (hl:∀ t,t < b.size→K b t≤K a (a.size - 1))
  (h:∀ r st',Good a b r→Sg st st'→Q r st'):wpS (model prog w) A E s (mLo a b) Q st:=by
 rw [Cn]
 dsimp only
 refine wpS_bind (wpS_lift (wpAny_rule ⟨rfl,?_⟩))
 refine wpS_bind (bb (by omega) ?_)
 have m0:Mg a b #[b[0]] 0 1:=by
  have z:Mg a b #[] 0 0:=⟨by simp,List.Pairwise.nil,fun p hp=>by cases hp⟩
  exact z.pushB ha hb (by omega) (by omega) h0
 by_cases g1:1=b.size
 ·rw [if_pos (by simpa using g1)]
  exact wpS_pure (h _ _ (m0.dn ha hb (.inl g1)) (Sg.refl st))
 rw [if_neg (by simpa using g1)]
 by_cases g2:0 + 1=a.size
 ·rw [if_pos (by simpa using g2)]
  exact wpS_pure (h _ _ (m0.la ha hb g2 hl) (Sg.refl st))
 rw [if_neg (by simpa using g2)]
 refine wpS_bind (wpS_get ?_)
 have kd:∀ {st'},Sg st st'→kindOf st'=oneType':=fun z=>z.1.trans hk
 refine wpS_bind (wpS_mono (wpS_forRange (I:=fun x c st'=>Sg st st'∧∃ o i j g,c=(none,o,i,j,g)∧Mid a b o i j∧x + 1≤i + j)
  (Q:=fun c st'=>Sg st st'∧∃ r,c.1=some r∧Good a b r) ?step ?fin ⟨Sg.refl st,_,0,1,_,rfl,⟨m0,by omega,by omega⟩,by omega⟩) ?post)
 case fin=>
  rintro c st' ⟨_,o,i,j,g,_,m,hx⟩
  have:=m.ia; have:=m.jb
  omega
 case post=>
  rintro ⟨c,o,i,j,g⟩ st' ⟨z,r,e,hr⟩
  cases e
  exact wpS_pure (h r st' hr z)
 case step=>
  rintro x c st' _ hx ⟨z,o,i,j,g,rfl,m,hp⟩
  dsimp only
  refine wpS_bind (wpS_mono (wpS_forRange (I:=fun y c st'=>Sg st st'∧∃ o' i' j' ca cb,c=(none,o',i',j',ca,cb)∧Mid a b o' i' j'∧i + j + y≤i' + j')
   (Q:=fun c st'=>Sg st st'∧((∃ r,c.1=some r∧Good a b r) ∨ ∃ o' i' j' ca cb,c=(none,o',i',j',ca,cb)∧Mid a b o' i' j'∧i + j + 1≤i' + j')) ?s1 ?f1 ⟨z,o,i,j,0,0,rfl,m,by omega⟩) ?p1)
  case f1=>
   rintro c st' ⟨z,o',i',j',ca,cb,rfl,m,hy⟩
   exact ⟨z,.inr ⟨o',i',j',ca,cb,rfl,m,by omega⟩⟩
  case s1=>
   rintro y c st' _ hy ⟨z,o',i',j',ca,cb,rfl,m,hp'⟩
   dsimp only
   have mi:=m.ia
   have mj:=m.jb
   refine wpS_bind (bb mj ?_)
   refine wpS_bind (bb (by omega) ?_)
   refine wpS_bind (qZ (kd z) (ib.get mj) (ia.get (by omega)) ?_)
   dsimp only
   rw [← bM mj,← bM (show i' < a.size by omega)]
   by_cases hlt:K b j' < K a i'
   ·rw [if_pos (by simpa using hlt)]
    refine wpS_bind (bb mj ?_)
    have m2:=m.mg.pushB ha hb (by omega) mj (Int.le_of_lt hlt)
    by_cases e1:j' + 1=b.size
    ·rw [if_pos (by simpa using e1)]
     exact wpS_pure ⟨z,.inl ⟨_,rfl,m2.dn ha hb (.inl e1)⟩⟩
    ·rw [if_neg (by simpa using e1)]
     split
     ·exact wpS_pure ⟨z,.inr ⟨_,_,_,_,_,rfl,⟨m2,by omega,by omega⟩,by omega⟩⟩
     ·exact wpS_pure ⟨z,_,_,_,_,_,rfl,⟨m2,by omega,by omega⟩,by omega⟩
   ·rw [if_neg (by simpa using hlt)]
    refine wpS_bind (bb (by omega) ?_)
    have m2:=m.mg.pushA ha hb (by omega) mj (Int.not_lt.mp hlt)
    by_cases e1:i' + 1 + 1=a.size
    ·rw [if_pos (by simpa using e1)]
     exact wpS_pure ⟨z,.inl ⟨_,rfl,m2.la ha hb e1 hl⟩⟩
    ·rw [if_neg (by simpa using e1)]
     split
     ·exact wpS_pure ⟨z,.inr ⟨_,_,_,_,_,rfl,⟨m2,by omega,by omega⟩,by omega⟩⟩
     ·exact wpS_pure ⟨z,_,_,_,_,_,rfl,⟨m2,by omega,by omega⟩,by omega⟩
  case p1=>
   rintro c st' ⟨z,⟨r,e,hr⟩ | ⟨o',i',j',ca,cb,rfl,m,hp'⟩⟩
   ·obtain ⟨c,o',i',j',ca,cb⟩:=c
    cases e
    exact wpS_pure ⟨z,r,rfl,hr⟩
   dsimp only
   refine wpS_bind (wpS_lift (wpAny_rule ⟨rfl,?_⟩))
   refine wpS_bind (wpS_mono (wpS_forRange (I:=fun y c st'=>Sg st st'∧∃ o2 i2 j2 g ca cb,c=(none,o2,i2,j2,g,ca,cb)∧Mid a b o2 i2 j2∧i + j + 1≤i2 + j2)
    (Q:=fun c st'=>Sg st st'∧((∃ r,c.1=some r∧Good a b r) ∨ ∃ o2 i2 j2 g ca cb,c=(none,o2,i2,j2,g,ca,cb)∧Mid a b o2 i2 j2∧i + j + 1≤i2 + j2)) ?s2 ?f2 ⟨z,_,_,_,_,_,_,rfl,m,hp'⟩) ?p2)
   case f2=>
    rintro c st' ⟨z,o2,i2,j2,g2,ca,cb,rfl,m,hy⟩
    exact ⟨z,.inr ⟨o2,i2,j2,g2,ca,cb,rfl,m,hy⟩⟩
   case p2=>
    rintro c st' ⟨z,⟨r,e,hr⟩ | ⟨o2,i2,j2,g2,ca,cb,rfl,m,hp'⟩⟩
    ·obtain ⟨c,o2,i2,j2,g2,ca,cb⟩:=c
     cases e
     exact wpS_pure ⟨z,r,rfl,hr⟩
    dsimp only
    exact wpS_bind (pe z fun st' z=>wpS_pure ⟨z,_,_,_,_,rfl,m,by omega⟩)
   case s2=>
    rintro y c st' _ hy ⟨z,o2,i2,j2,g2,ca,cb,rfl,m,hp'⟩
    dsimp only
    have mi:=m.ia
    have mj:=m.jb
    have hm:=m.mg
    clear m
    apply zT (y:=g2) (x:=g2 - 1)
    case hp=>rfl
    intro g3
    refine wpS_bind (pe z fun st' z=>?_)
    refine wpS_bind (bb mj ?_)
    refine wpS_bind (i5 (kd z) ia (ib.get mj) (by omega) (by omega) (fun p q _ hpq hq=>ha p q (Nat.zero_le _) hpq (by omega)) fun k k1 k2 k3=>?_)
    dsimp only
    have q2:∀ t,t < k→i2 + t < a.size→K a (i2 + t)≤K b j2:=fun t ht _=>by
     have:=k2 t ht
     rw [bM mj]
     simpa [bef] using this
    have q3:k < a.size - i2→K b j2≤K a (i2 + k):=fun hkk=>by
     have:=k3 k (Nat.le_refl _) hkk
     rw [bM mj]
     exact Int.le_of_lt (by simpa [bef] using this)
    have hm':=hm.bulkA ha hb mj q2
    apply xF (I:=fun o3 i3=>Mg a b o3 i3 j2∧i3 + 1 < a.size∧i2≤i3∧K b j2≤K a i3) (y1:=o2) (y2:=i2)
    case hn=>
     intro hk0
     have hk1:k=0:=by omega
     subst hk1
     have hq3:=q3 (by omega)
     rw [Nat.add_zero] at hq3
     exact ⟨hm,by omega,Nat.le_refl _,hq3⟩
    case hp=>
     intro hk0 key
     split
     ·rename_i e3
      exact wpS_pure ⟨z,.inl ⟨_,rfl,hm'.la ha hb (by simpa using e3) hl⟩⟩
     ·rename_i e3
      split
      ·rename_i e4
       exact wpS_pure ⟨z,.inl ⟨_,rfl,hm'.dn ha hb (.inr (by simpa using e4))⟩⟩
      ·rename_i e4
       simp at e3 e4
       exact key _ _ ⟨hm',by omega,by omega,q3 (by omega)⟩
    intro o3 i3 y3
    obtain ⟨hm3,hi3,le3,hq3⟩:=y3
    have hi4:i3 < a.size:=by omega
    refine wpS_bind (bb mj ?_)
    have m4:=hm3.pushB ha hb (by omega) mj hq3
    by_cases e4:j2 + 1=b.size
    ·rw [if_pos (by simpa using e4)]
     exact wpS_pure ⟨z,.inl ⟨_,rfl,m4.dn ha hb (.inl e4)⟩⟩
    rw [if_neg (by simpa using e4)]
    generalize o3.push b[j2]=o5 at m4 ⊢
    generalize ej:j2 + 1=j5 at m4 e4 ⊢
    refine wpS_bind (bb hi4 ?_)
    refine wpS_bind (i5 (kd z) ib (ia.get hi4) (by omega) (by omega) (fun p q _ hpq hq=>hb p q (Nat.zero_le _) hpq (by omega)) fun u u1 u2 u3=>?_)
    dsimp only
    apply xF (I:=fun o4 j4=>Mg a b o4 i3 j4∧j4 < b.size∧j2 + 1≤j4∧K a i3≤K b j4) (y1:=o5) (y2:=j5)
    case hn=>
     intro hu
     have hu0:u=0:=by omega
     subst hu0
     have hq6:=u3 0 (Nat.le_refl _) (by omega)
     simp [bef] at hq6
     rw [← bM hi4] at hq6
     exact ⟨m4,by omega,by omega,hq6⟩
    case hp=>
     intro hu key
     have hm6:=m4.bulkB (k:=u) ha hb hi4 fun t ht _=>by
      have:=u2 t ht
      rw [bM hi4]
      exact Int.le_of_lt (by simpa [bef] using this)
     split
     ·rename_i e5
      exact wpS_pure ⟨z,.inl ⟨_,rfl,hm6.dn ha hb (.inl (by simpa using e5))⟩⟩
     ·rename_i e5
      simp at e5
      have hq6:=u3 u (Nat.le_refl _) (by omega)
      simp [bef] at hq6
      rw [← bM hi4] at hq6
      exact key _ _ ⟨hm6,by omega,by omega,hq6⟩
    intro o4 j4 y4
    obtain ⟨hm6,hj6,le6,hq6⟩:=y4
    refine wpS_bind (bb (by omega) ?_)
    have m6:=hm6.pushA ha hb (by omega) hj6 hq6
    split
    ·rename_i e6
     exact wpS_pure ⟨z,.inl ⟨_,rfl,m6.la ha hb (by simpa using e6) hl⟩⟩
    ·rename_i e6
     simp at e6
     split
     ·exact wpS_pure ⟨z,.inr ⟨_,_,_,_,_,_,rfl,⟨m6,by omega,by omega⟩,by omega⟩⟩
     ·exact wpS_pure ⟨z,_,_,_,_,_,_,rfl,⟨m6,by omega,by omega⟩,by omega⟩
end
end SR
namespace SR
open PySem PyProof.Rows
def mHi:Array Keyed→Array Keyed→SM (Array Keyed):=sortPriv% PySem.Builtin.mergeHi
theorem Cp (a b:Array Keyed):mHi a b=(do
 rule "list.sort.merge-hi"
 let tt:=a.size + b.size
 let dn (o:Array Keyed) (i j:Nat):=a.extract 0 i ++ b.extract 0 j ++ o.reverse
 let fb (o:Array Keyed) (i j:Nat):=b.extract 0 j ++ a.extract 0 i ++ o.reverse
 let mut i:=a.size - 1
 let mut j:=b.size
 let mut o:Array Keyed:=#[← elem' a i]
 if i == 0 then return dn o i j
 if j == 1 then return fb o i j
 let mut g:=gallopOf (← get)
 for _ in [0:tt] do
  let mut ca:=0
  let mut cb:=0
  for _ in [0:tt] do
   let some v ← lt' (← elem' b (j - 1)) (← elem' a (i - 1)) | return dn o i j
   if v then
    i:=i - 1; o:=o.push (← elem' a i); ca:=ca + 1; cb:=0
    if i == 0 then return dn o i j
    if ca ≥ g then break
   else
    j:=j - 1; o:=o.push (← elem' b j); cb:=cb + 1; ca:=0
    if j == 1 then return fb o i j
    if cb ≥ g then break
  rule "list.sort.gallop"
  g:=g + 1
  for _ in [0:tt] do
   if g > 1 then g:=g - 1
   sMG g
   let some z ← gal false (← elem' b (j - 1)) a 0 i (i - 1) | return dn o i j
   let k:=i - z
   ca:=k
   if k > 0 then
    o:=o ++ (a.extract z i).reverse; i:=z
    if i == 0 then return dn o i j
   j:=j - 1; o:=o.push (← elem' b j)
   if j == 1 then return fb o i j
   let some z ← gal true (← elem' a (i - 1)) b 0 j (j - 1) | return dn o i j
   let k:=j - z
   cb:=k
   if k > 0 then
    o:=o ++ (b.extract z j).reverse; j:=z
    if j == 1 then return fb o i j
    if j == 0 then return dn o i j
   i:=i - 1; o:=o.push (← elem' a i)
   if i == 0 then return dn o i j
   if ca < 7 && cb < 7 then break
  g:=g + 1
  sMG g
 unsupported "internal:list.sort.merge-bound"):=rfl
structure Mr (tot X Y o:List Keyed):Prop where
 perm:(X ++ Y ++ o).Perm tot
 sd:Sd o
 le:∀ q ∈ X ++ Y,∀ p ∈ o,ke q≤ke p
theorem Mr.swap {tot o X Y:List Keyed} (h:Mr tot X Y o):Mr tot Y X o:=⟨(List.perm_append_comm.append_right o).trans h.perm,h.sd,fun q hq=>h.le q (by rcases List.mem_append.mp hq with z | z <;> simp [z])⟩
theorem Mr.left {tot o L X Y:List Keyed} (h:Mr tot Y (X ++ L) o) (hs:Sd (X ++ L)) (hl:∀ q ∈ Y,∀ p ∈ L,ke q≤ke p):Mr tot Y X (L ++ o):=by
 obtain ⟨s1,s2,s3⟩:=List.pairwise_append.mp hs
 refine ⟨by simpa [List.append_assoc] using h.perm,List.pairwise_append.mpr ⟨s2,h.sd,fun p hp q hq=>h.le p (by simp [hp]) q hq⟩,fun q hq p hp=>?_⟩
 rcases List.mem_append.mp hp with hp | hp
 ·rcases List.mem_append.mp hq with hq | hq
  ·exact hl q hq p hp
  ·exact s3 q hq p hp
 ·refine h.le q ?_ p hp
  rcases List.mem_append.mp hq with hq | hq <;> simp [hq]
theorem Mr.right {tot o L X Y:List Keyed} (h:Mr tot (X ++ L) Y o) (hs:Sd (X ++ L)) (hl:∀ q ∈ Y,∀ p ∈ L,ke q≤ke p):Mr tot X Y (L ++ o):=(h.swap.left hs hl).swap
theorem Mr.done {tot o:List Keyed} (h:Mr tot [] [] o):o.Perm tot∧Sd o:=⟨by simpa using h.perm,h.sd⟩
def Mt (a b o:Array Keyed) (i j:Nat):Prop:=Mr (a.toList ++ b.toList) (a.toList.take i) (b.toList.take j) o.toList.reverse
theorem Sd.take {l:List Keyed} (h:Sd l) (i:Nat):Sd (l.take i):=List.Pairwise.sublist (List.take_sublist i l) h
theorem gi {a:Array Keyed} {i:Nat} {p:Keyed} (h:p ∈ a.toList.take i):∃ t,t < i∧t < a.size∧ke p=K a t:=by
 obtain ⟨t,h1,h2,e⟩:=iE (i:=0) (k:=i) (a:=a) (p:=p) (by simpa using h)
 exact ⟨t,h1,by omega,by simpa using e⟩
theorem jr {a:Array Keyed} {i:Nat} (hi:i < a.size):a.toList.take (i + 1)=a.toList.take i ++ [a[i]]:=by
 rw [List.take_succ_eq_append_getElem (by simpa using hi)]
 simp
theorem js {a:Array Keyed} {z i:Nat} (hz:z≤i):a.toList.take i=a.toList.take z ++ (a.toList.drop z).take (i - z):=by
 have e:i=z + (i - z):=by omega
 conv=>lhs; rw [e,List.take_add]
theorem jt (a:Array Keyed) (i:Nat):(a.extract 0 i).toList=a.toList.take i:=by
 rw [ef]; simp
section
variable {a b o:Array Keyed} {i j k z:Nat}
theorem Mt.bulkA (ha:Up a 0 a.size) (hb:Up b 0 b.size) (h:Mt a b o i j) (hj:j≤b.size) (j1:1≤j) (hz:z≤i) (hi:i≤a.size) (hk:∀ t,z≤t→t < i→K b (j - 1)≤K a t):Mt a b (o ++ (a.extract z i).reverse) z j:=by
 unfold Mt at h ⊢
 have e:(o ++ (a.extract z i).reverse).toList.reverse=(a.toList.drop z).take (i - z) ++ o.toList.reverse:=by rw [Array.toList_append,List.reverse_append,Array.toList_reverse,List.reverse_reverse,ef]
 rw [e]
 rw [js hz] at h
 refine h.right (by rw [← js hz]; exact (fo ha).take i) fun q hq p hp=>?_
 obtain ⟨t,t1,t2,e1⟩:=iE hp
 obtain ⟨u,u1,u2,e2⟩:=gi hq
 have:=hk (z + t) (by omega) (by omega)
 have:=hb u (j - 1) (Nat.zero_le _) (by omega) (by omega)
 omega
theorem Mt.bulkB (ha:Up a 0 a.size) (hb:Up b 0 b.size) (h:Mt a b o i j) (hj:j≤b.size) (i1:1≤i) (hz:z≤j) (hi:i≤a.size) (hk:∀ t,z≤t→t < j→K a (i - 1)≤K b t):Mt a b (o ++ (b.extract z j).reverse) i z:=by
 unfold Mt at h ⊢
 have e:(o ++ (b.extract z j).reverse).toList.reverse=(b.toList.drop z).take (j - z) ++ o.toList.reverse:=by rw [Array.toList_append,List.reverse_append,Array.toList_reverse,List.reverse_reverse,ef]
 rw [e]
 rw [js hz] at h
 refine h.left (by rw [← js hz]; exact (fo hb).take j) fun q hq p hp=>?_
 obtain ⟨t,t1,t2,e1⟩:=iE hp
 obtain ⟨u,u1,u2,e2⟩:=gi hq
 have:=hk (z + t) (by omega) (by omega)
 have:=ha u (i - 1) (Nat.zero_le _) (by omega) (by omega)
 omega
theorem Mt.pushA (ha:Up a 0 a.size) (hb:Up b 0 b.size) (h:Mt a b o (i + 1) j) (hi:i < a.size) (hk:∀ t,t < j→t < b.size→K b t≤K a i):Mt a b (o.push a[i]) i j:=by
 unfold Mt at h ⊢
 rw [jr hi] at h
 rw [Array.toList_push,List.reverse_append]
 refine h.right (by rw [← jr hi]; exact (fo ha).take _) fun q hq p hp=>?_
 rw [List.mem_singleton.mp hp]
 obtain ⟨u,u1,u2,e2⟩:=gi hq
 have:=hk u u1 u2
 have e:=bM hi
 unfold ke at e2 ⊢
 omega
theorem Mt.pushB (ha:Up a 0 a.size) (hb:Up b 0 b.size) (h:Mt a b o i (j + 1)) (hj:j < b.size) (hk:∀ t,t < i→t < a.size→K a t≤K b j):Mt a b (o.push b[j]) i j:=by
 unfold Mt at h ⊢
 rw [jr hj] at h
 rw [Array.toList_push,List.reverse_append]
 refine h.left (by rw [← jr hj]; exact (fo hb).take _) fun q hq p hp=>?_
 rw [List.mem_singleton.mp hp]
 obtain ⟨u,u1,u2,e2⟩:=gi hq
 have:=hk u u1 u2
 have e:=bM hj
 unfold ke at e2 ⊢
 omega
theorem Mt.dn (ha:Up a 0 a.size) (hb:Up b 0 b.size) (h:Mt a b o i j) (hz:i=0 ∨ j=0):Good a b (a.extract 0 i ++ b.extract 0 j ++ o.reverse):=by
 unfold Mt at h
 unfold Good
 rw [Array.toList_append,Array.toList_append,jt,jt,Array.toList_reverse]
 rcases hz with rfl | rfl
 ·rw [List.take_zero] at h ⊢
  rw [List.nil_append]
  exact Mr.done (Mr.left (by simpa using h) (by simpa using (fo hb).take j) fun q hq=>by cases hq)
 ·rw [List.take_zero] at h ⊢
  rw [List.append_nil]
  exact Mr.done (Mr.right (by simpa using h) (by simpa using (fo ha).take i) fun q hq=>by cases hq)
theorem Mt.fb (ha:Up a 0 a.size) (hb:Up b 0 b.size) (h:Mt a b o i j) (hj:j=1) (hl:∀ t,t < a.size→K b 0≤K a t):Good a b (b.extract 0 j ++ a.extract 0 i ++ o.reverse):=by
 subst hj
 unfold Mt at h
 unfold Good
 rw [Array.toList_append,Array.toList_append,jt,jt,Array.toList_reverse,List.append_assoc]
 have h1:Mr (a.toList ++ b.toList) [] (b.toList.take 1) (a.toList.take i ++ o.toList.reverse):=by
  refine Mr.right (by simpa using h) (by simpa using (fo ha).take i) fun q hq p hp=>?_
  obtain ⟨t,t1,t2,e1⟩:=gi hp
  obtain ⟨u,u1,u2,e2⟩:=gi hq
  have:=hl t t2
  have:u=0:=by omega
  subst this
  omega
 exact Mr.done (Mr.left (by simpa using h1) (by simpa using (fo hb).take 1) fun q hq=>by cases hq)
end
section
variable {prog:Program} {w:World} {A:Around} {E:Value→Shared→Prop} {s:Shared}
structure Mie (a b o:Array Keyed) (i j:Nat):Prop where
 mg:Mt a b o i j
 i1:1≤i
 ia:i≤a.size
 j1:2≤j
 jb:j≤b.size
set_option maxHeartbeats 2000000 in
theorem Cq {a b:Array Keyed} {st:SortSt} {Q:Array Keyed→SortSt→Prop} (hk:kindOf st=oneType') (ia:IK a) (ib:IK b) (ha:Up a 0 a.size) (hb:Up b 0 b.size) (a1:1≤a.size) (b1:1≤b.size) (hl:∀ t,t < a.size→K b 0≤K a t) (h0:∀ t,t < b.size→K b t≤K a (a.size - 1))
  (h:∀ r st',Good a b r→Sg st st'→Q r st'):wpS (model prog w) A E s (mHi a b) Q st:=by
 rw [Cp]
 dsimp only
 refine wpS_bind (wpS_lift (wpAny_rule ⟨rfl,?_⟩))
 refine wpS_bind (bb (by omega) ?_)
 have m0:Mt a b #[a[a.size - 1]] (a.size - 1) b.size:=by
  have z:Mt a b #[] (a.size - 1 + 1) b.size:=⟨by rw [show a.size - 1 + 1=a.size by omega,List.take_of_length_le (by simp),List.take_of_length_le (by simp)]; simp,List.Pairwise.nil,fun q hq p hp=>by cases hp⟩
  exact z.pushA ha hb (by omega) fun t _ ht=>h0 t ht
 by_cases g1:a.size - 1=0
 ·rw [if_pos (by simpa using g1)]
  exact wpS_pure (h _ _ (m0.dn ha hb (.inl g1)) (Sg.refl st))
 rw [if_neg (by simpa using g1)]
 by_cases g2:b.size=1
 ·rw [if_pos (by simpa using g2)]
  exact wpS_pure (h _ _ (m0.fb ha hb g2 hl) (Sg.refl st))
 rw [if_neg (by simpa using g2)]
 refine wpS_bind (wpS_get ?_)
 have kd:∀ {st'},Sg st st'→kindOf st'=oneType':=fun z=>z.1.trans hk
 refine wpS_bind (wpS_mono (wpS_forRange (I:=fun x c st'=>Sg st st'∧∃ o i j g,c=(none,i,j,o,g)∧Mie a b o i j∧i + j + x + 1≤a.size + b.size)
  (Q:=fun c st'=>Sg st st'∧∃ r,c.1=some r∧Good a b r) ?step ?fin ⟨Sg.refl st,_,_,_,_,rfl,⟨m0,by omega,by omega,by omega,by omega⟩,by omega⟩) ?post)
 all_goals skip
 case fin=>
  rintro c st' ⟨_,o,i,j,g,_,m,hx⟩
  have:=m.i1
  omega
 case post=>
  rintro ⟨c,i,j,o,g⟩ st' ⟨z,r,e,hr⟩
  cases e
  exact wpS_pure (h r st' hr z)
 case step=>
  rintro x c st' _ hx ⟨z,o,i,j,g,rfl,m,hp⟩
  dsimp only
  refine wpS_bind (wpS_mono (wpS_forRange (I:=fun y c st'=>Sg st st'∧∃ o' i' j' ca cb,c=(none,i',j',o',ca,cb)∧Mie a b o' i' j'∧i' + j' + y≤i + j)
   (Q:=fun c st'=>Sg st st'∧((∃ r,c.1=some r∧Good a b r) ∨ ∃ o' i' j' ca cb,c=(none,i',j',o',ca,cb)∧Mie a b o' i' j'∧i' + j' + 1≤i + j)) ?s1 ?f1 ⟨z,_,_,_,0,0,rfl,m,by omega⟩) ?p1)
  case f1=>
   rintro c st' ⟨z,o',i',j',ca,cb,rfl,m,hy⟩
   exact ⟨z,.inr ⟨o',i',j',ca,cb,rfl,m,by omega⟩⟩
  case s1=>
   rintro y c st' _ hy ⟨z,o',i',j',ca,cb,rfl,⟨mm,mi1,mi,mj1,mj⟩,hp'⟩
   dsimp only
   have hj9:j' - 1 < b.size:=by omega
   have hi9:i' - 1 < a.size:=by omega
   refine wpS_bind (bb hj9 ?_)
   refine wpS_bind (bb hi9 ?_)
   refine wpS_bind (qZ (kd z) (ib.get hj9) (ia.get hi9) ?_)
   dsimp only
   rw [← bM hj9,← bM hi9]
   by_cases hlt:K b (j' - 1) < K a (i' - 1)
   ·rw [if_pos (by simpa using hlt)]
    refine wpS_bind (bb hi9 ?_)
    have m2:=Mt.pushA (i:=i' - 1) ha hb (by rw [show i' - 1 + 1=i' by omega]; exact mm) hi9 fun t h1 h2=>Int.le_trans (hb t (j' - 1) (Nat.zero_le _) (by omega) hj9) (Int.le_of_lt hlt)
    by_cases e1:i' - 1=0
    ·rw [if_pos (by simpa using e1)]
     exact wpS_pure ⟨z,.inl ⟨_,rfl,m2.dn ha hb (.inl e1)⟩⟩
    ·rw [if_neg (by simpa using e1)]
     split
     ·exact wpS_pure ⟨z,.inr ⟨_,_,_,_,_,rfl,⟨m2,by omega,by omega,by omega,by omega⟩,by omega⟩⟩
     ·exact wpS_pure ⟨z,_,_,_,_,_,rfl,⟨m2,by omega,by omega,by omega,by omega⟩,by omega⟩
   ·rw [if_neg (by simpa using hlt)]
    refine wpS_bind (bb hj9 ?_)
    have m2:=Mt.pushB (j:=j' - 1) ha hb (by rw [show j' - 1 + 1=j' by omega]; exact mm) hj9 fun t h1 h2=>Int.le_trans (ha t (i' - 1) (Nat.zero_le _) (by omega) hi9) (Int.not_lt.mp hlt)
    by_cases e1:j' - 1=1
    ·rw [if_pos (by simpa using e1)]
     exact wpS_pure ⟨z,.inl ⟨_,rfl,m2.fb ha hb e1 hl⟩⟩
    ·rw [if_neg (by simpa using e1)]
     split
     ·exact wpS_pure ⟨z,.inr ⟨_,_,_,_,_,rfl,⟨m2,by omega,by omega,by omega,by omega⟩,by omega⟩⟩
     ·exact wpS_pure ⟨z,_,_,_,_,_,rfl,⟨m2,by omega,by omega,by omega,by omega⟩,by omega⟩
  case p1=>
   rintro c st' ⟨z,⟨r,e,hr⟩ | ⟨o',i',j',ca,cb,rfl,m,hp'⟩⟩
   ·obtain ⟨c,o',i',j',ca,cb⟩:=c
    cases e
    exact wpS_pure ⟨z,r,rfl,hr⟩
   dsimp only
   refine wpS_bind (wpS_lift (wpAny_rule ⟨rfl,?_⟩))
   refine wpS_bind (wpS_mono (wpS_forRange (I:=fun y c st'=>Sg st st'∧∃ o2 i2 j2 g ca cb,c=(none,i2,j2,o2,g,ca,cb)∧Mie a b o2 i2 j2∧i2 + j2 + 1≤i + j)
    (Q:=fun c st'=>Sg st st'∧((∃ r,c.1=some r∧Good a b r) ∨ ∃ o2 i2 j2 g ca cb,c=(none,i2,j2,o2,g,ca,cb)∧Mie a b o2 i2 j2∧i2 + j2 + 1≤i + j)) ?s2 ?f2 ⟨z,_,_,_,_,_,_,rfl,m,hp'⟩) ?p2)
   case f2=>
    rintro c st' ⟨z,o2,i2,j2,g2,ca,cb,rfl,m,hy⟩
    exact ⟨z,.inr ⟨o2,i2,j2,g2,ca,cb,rfl,m,hy⟩⟩
   case p2=>
    rintro c st' ⟨z,⟨r,e,hr⟩ | ⟨o2,i2,j2,g2,ca,cb,rfl,m,hp'⟩⟩
    ·obtain ⟨c,o2,i2,j2,g2,ca,cb⟩:=c
     cases e
     exact wpS_pure ⟨z,r,rfl,hr⟩
    dsimp only
    exact wpS_bind (pe z fun st' z=>wpS_pure ⟨z,_,_,_,_,rfl,m,by omega⟩)
   case s2=>
    rintro y c st' _ hy ⟨z,o2,i2,j2,g2,ca,cb,rfl,⟨hm,mi1,mi,mj1,mj⟩,hp'⟩
    dsimp only
    have hj9:j2 - 1 < b.size:=by omega
    by_cases hg:g2 > 1
    all_goals (first | rw [if_pos hg] | rw [if_neg hg])
    all_goals
     refine wpS_bind (pe z fun st' z=>?_)
     refine wpS_bind (bb hj9 ?_)
     refine wpS_bind (i5 (kd z) ia (ib.get hj9) (by omega) (by omega) (fun p q _ hpq hq=>ha p q (Nat.zero_le _) hpq (by omega)) fun k k1 k2 k3=>?_)
     dsimp only
     have q2:∀ t,t < k→t < a.size→K a t≤K b (j2 - 1):=fun t ht _=>by
      have:=k2 t ht
      rw [bM hj9]
      simpa [bef] using this
     have q3:∀ t,k≤t→t < i2→K b (j2 - 1)≤K a t:=fun t h1 h2=>by
      have:=k3 t h1 h2
      rw [bM hj9]
      exact Int.le_of_lt (by simpa [bef] using this)
     by_cases hk0:i2 - k > 0
     ·rw [if_pos hk0]
      have hm3:=hm.bulkA (z:=k) ha hb mj (by omega) k1 mi q3
      split
      ·rename_i e3
       exact wpS_pure ⟨z,.inl ⟨_,rfl,hm3.dn ha hb (.inl (by simpa using e3))⟩⟩
      ·rename_i e3
       simp at e3
       obtain ⟨i3,hi3⟩:∃ i3,i3=k:=⟨k,rfl⟩
       subst hi3
       have hq3:=q2
       refine wpS_bind (bb (by omega) ?_)
       have m4:=Mt.pushB (j:=j2 - 1) ha hb (by rw [show j2 - 1 + 1=j2 by omega]; exact hm3) (by omega) hq3
       split
       ·rename_i e4
        exact wpS_pure ⟨z,.inl ⟨_,rfl,m4.fb ha hb (by simpa using e4) hl⟩⟩
       rename_i e4
       simp at e4
       have hi4:i3 - 1 < a.size:=by omega
       refine wpS_bind (bb hi4 ?_)
       refine wpS_bind (i5 (kd z) ib (ia.get hi4) (by omega) (by omega) (fun p q _ hpq hq=>hb p q (Nat.zero_le _) hpq (by omega)) fun u u1 u2 u3=>?_)
       dsimp only
       have v2:∀ t,t < u→K b t≤K a (i3 - 1):=fun t ht=>by
        have:=u2 t ht
        rw [bM hi4]
        exact Int.le_of_lt (by simpa [bef] using this)
       have v3:∀ t,u≤t→t < j2 - 1→K a (i3 - 1)≤K b t:=fun t h1 h2=>by
        have:=u3 t h1 h2
        rw [bM hi4]
        simpa [bef] using this
       by_cases hu:j2 - 1 - u > 0
       ·rw [if_pos hu]
        have hm6:=m4.bulkB (z:=u) ha hb (by omega) (by omega) (by omega) (by omega) v3
        split
        ·rename_i e5
         exact wpS_pure ⟨z,.inl ⟨_,rfl,hm6.fb ha hb (by simpa using e5) hl⟩⟩
        ·rename_i e5
         split
         ·rename_i e7
          exact wpS_pure ⟨z,.inl ⟨_,rfl,hm6.dn ha hb (.inr (by simpa using e7))⟩⟩
         ·rename_i e7
          simp at e5 e7
          have hq6:∀ t,t < u→t < b.size→K b t≤K a (i3 - 1):=fun t h1 _=>v2 t h1
          refine wpS_bind (bb (by omega) ?_)
          have m6:=Mt.pushA (i:=i3 - 1) ha hb (by rw [show i3 - 1 + 1=i3 by omega]; exact hm6) (by omega) hq6
          split
          ·rename_i e6
           exact wpS_pure ⟨z,.inl ⟨_,rfl,m6.dn ha hb (.inl (by simpa using e6))⟩⟩
          ·rename_i e6
           simp at e6
           split
           ·exact wpS_pure ⟨z,.inr ⟨_,_,_,_,_,_,rfl,⟨m6,by omega,by omega,by omega,by omega⟩,by omega⟩⟩
           ·exact wpS_pure ⟨z,_,_,_,_,_,_,rfl,⟨m6,by omega,by omega,by omega,by omega⟩,by omega⟩
       ·rw [if_neg hu]
        have hu0:u=j2 - 1:=by omega
        have hm6:=m4
        have hq6:∀ t,t < j2 - 1→t < b.size→K b t≤K a (i3 - 1):=fun t h1 _=>v2 t (by omega)
        refine wpS_bind (bb (by omega) ?_)
        have m6:=Mt.pushA (i:=i3 - 1) ha hb (by rw [show i3 - 1 + 1=i3 by omega]; exact hm6) (by omega) hq6
        split
        ·rename_i e6
         exact wpS_pure ⟨z,.inl ⟨_,rfl,m6.dn ha hb (.inl (by simpa using e6))⟩⟩
        ·rename_i e6
         simp at e6
         split
         ·exact wpS_pure ⟨z,.inr ⟨_,_,_,_,_,_,rfl,⟨m6,by omega,by omega,by omega,by omega⟩,by omega⟩⟩
         ·exact wpS_pure ⟨z,_,_,_,_,_,_,rfl,⟨m6,by omega,by omega,by omega,by omega⟩,by omega⟩
     ·rw [if_neg hk0]
      have hk1:k=i2:=by omega
      subst hk1
      have hm3:=hm
      obtain ⟨i3,hi3⟩:∃ i3,i3=k:=⟨k,rfl⟩
      subst hi3
      have hq3:=q2
      refine wpS_bind (bb (by omega) ?_)
      have m4:=Mt.pushB (j:=j2 - 1) ha hb (by rw [show j2 - 1 + 1=j2 by omega]; exact hm3) (by omega) hq3
      split
      ·rename_i e4
       exact wpS_pure ⟨z,.inl ⟨_,rfl,m4.fb ha hb (by simpa using e4) hl⟩⟩
      rename_i e4
      simp at e4
      have hi4:i3 - 1 < a.size:=by omega
      refine wpS_bind (bb hi4 ?_)
      refine wpS_bind (i5 (kd z) ib (ia.get hi4) (by omega) (by omega) (fun p q _ hpq hq=>hb p q (Nat.zero_le _) hpq (by omega)) fun u u1 u2 u3=>?_)
      dsimp only
      have v2:∀ t,t < u→K b t≤K a (i3 - 1):=fun t ht=>by
       have:=u2 t ht
       rw [bM hi4]
       exact Int.le_of_lt (by simpa [bef] using this)
      have v3:∀ t,u≤t→t < j2 - 1→K a (i3 - 1)≤K b t:=fun t h1 h2=>by
       have:=u3 t h1 h2
       rw [bM hi4]
       simpa [bef] using this
      by_cases hu:j2 - 1 - u > 0
      ·rw [if_pos hu]
       have hm6:=m4.bulkB (z:=u) ha hb (by omega) (by omega) (by omega) (by omega) v3
       split
       ·rename_i e5
        exact wpS_pure ⟨z,.inl ⟨_,rfl,hm6.fb ha hb (by simpa using e5) hl⟩⟩
       ·rename_i e5
        split
        ·rename_i e7
         exact wpS_pure ⟨z,.inl ⟨_,rfl,hm6.dn ha hb (.inr (by simpa using e7))⟩⟩
        ·rename_i e7
         simp at e5 e7
         have hq6:∀ t,t < u→t < b.size→K b t≤K a (i3 - 1):=fun t h1 _=>v2 t h1
         refine wpS_bind (bb (by omega) ?_)
         have m6:=Mt.pushA (i:=i3 - 1) ha hb (by rw [show i3 - 1 + 1=i3 by omega]; exact hm6) (by omega) hq6
         split
         ·rename_i e6
          exact wpS_pure ⟨z,.inl ⟨_,rfl,m6.dn ha hb (.inl (by simpa using e6))⟩⟩
         ·rename_i e6
          simp at e6
          split
          ·exact wpS_pure ⟨z,.inr ⟨_,_,_,_,_,_,rfl,⟨m6,by omega,by omega,by omega,by omega⟩,by omega⟩⟩
          ·exact wpS_pure ⟨z,_,_,_,_,_,_,rfl,⟨m6,by omega,by omega,by omega,by omega⟩,by omega⟩
      ·rw [if_neg hu]
       have hu0:u=j2 - 1:=by omega
       have hm6:=m4
       have hq6:∀ t,t < j2 - 1→t < b.size→K b t≤K a (i3 - 1):=fun t h1 _=>v2 t (by omega)
       refine wpS_bind (bb (by omega) ?_)
       have m6:=Mt.pushA (i:=i3 - 1) ha hb (by rw [show i3 - 1 + 1=i3 by omega]; exact hm6) (by omega) hq6
       split
       ·rename_i e6
        exact wpS_pure ⟨z,.inl ⟨_,rfl,m6.dn ha hb (.inl (by simpa using e6))⟩⟩
       ·rename_i e6
        simp at e6
        split
        ·exact wpS_pure ⟨z,.inr ⟨_,_,_,_,_,_,rfl,⟨m6,by omega,by omega,by omega,by omega⟩,by omega⟩⟩
        ·exact wpS_pure ⟨z,_,_,_,_,_,_,rfl,⟨m6,by omega,by omega,by omega,by omega⟩,by omega⟩
end
end SR
namespace SR
open PySem PyProof.Rows
structure SB (a0 A0:Array Keyed) (P:Array (Nat × Nat × Nat)) (lo:Nat) (st:SortSt):Prop where
 perm:(arrOf st).Perm a0
 kind:kindOf st=oneType'
 failed:failedOf st=none
 pend:pendingOf st=P
 low:∀ t,t < lo→K (arrOf st) t=K A0 t
theorem SB.size {a0 A0:Array Keyed} {P:Array (Nat × Nat × Nat)} {lo:Nat} {st:SortSt} (h:SB a0 A0 P lo st):(arrOf st).size=a0.size:=h.perm.size_eq
theorem uQ {a b:Array Keyed} (h:IK b) (p:a.Perm b):IK a:=fun x hx=>h x ((Array.perm_iff_toList_perm.mp p).mem_iff.mp hx)
theorem SB.arr {a0 A0:Array Keyed} {P:Array (Nat × Nat × Nat)} {lo:Nat} {st:SortSt} (h:SB a0 A0 P lo st) {xs:Array Keyed} (p:xs.Perm (arrOf st)) (hl:∀ t,t < lo→K xs t=K (arrOf st) t):SB a0 A0 P lo (setArr st xs):=
 ⟨p.trans h.perm,h.kind,h.failed,h.pend,fun t ht=>(hl t ht).trans (h.low t ht)⟩
section
variable {prog:Program} {w:World} {A:Around} {E:Value→Shared→Prop} {s:Shared} {a0 A0:Array Keyed} {P:Array (Nat × Nat × Nat)} {lo:Nat}
theorem lK {st:SortSt} {i j:Nat} {Q:Option Bool→SortSt→Prop} (hB:SB a0 A0 P lo st) (h0:IK a0) (hi:i < a0.size) (hj:j < a0.size) (h:Q (some (decide (K (arrOf st) i < K (arrOf st) j))) st):wpS (model prog w) A E s (ltAt' i j) Q st:=by
 have h1:i < (arrOf st).size:=by rw [hB.size]; exact hi
 have h2:j < (arrOf st).size:=by rw [hB.size]; exact hj
 have ik:=uQ h0 hB.perm
 rw [ltAt'_eq]
 refine wpS_bind (wpS_get ?_)
 refine wpS_bind (bb h1 (wpS_bind (bb h2 (qZ hB.kind (ik.get h1) (ik.get h2) ?_))))
 rw [bM h1,bM h2] at h
 exact h
theorem gD {st:SortSt} {i j:Nat} {Q:Unit→SortSt→Prop} (hB:SB a0 A0 P lo st) (hi:lo≤i) (hj:j≤a0.size) (h:SB a0 A0 P lo (setArr st (mirror (arrOf st) i j ((j - i) / 2)))→Q () (setArr st (mirror (arrOf st) i j ((j - i) / 2)))):wpS (model prog w) A E s (reverseSlice' i j) Q st:=by
 rw [reverseSlice'_eq]
 refine wpS_modify (h (hB.arr (mirror_perm _ _ _ _) fun t ht=>?_))
 rw [K_mirror (by rw [hB.size]; exact hj),if_neg (by omega)]
theorem zU {st:SortSt} {n ok:Nat} {Q:Bool→SortSt→Prop} (h0:IK a0) (hn:lo + n≤a0.size) (hB:SB a0 A0 P lo st) (hs:Up (arrOf st) lo (lo + ok)) (hok:ok≤n)
  (h:∀ st',SB a0 A0 P lo st'→Up (arrOf st') lo (lo + n)→Q true st'):wpS (model prog w) A E s (binarySort' lo n ok) Q st:=by
 rw [binarySort'_eq]
 refine wpS_bind (wpS_mono (wpS_forRange (I:=fun k c st'=>c=(none,())∧SB a0 A0 P lo st'∧Up (arrOf st') lo (lo + min k n))
  (Q:=fun c st'=>c=(none,())∧SB a0 A0 P lo st'∧Up (arrOf st') lo (lo + n)) ?ste ?fi ⟨rfl,hB,?ini⟩) ?po)
 case ini=>
  intro i j h1 h2 h3
  by_cases z:ok=0
  ·have:i=j:=by omega
   subst this; exact Int.le_refl _
  ·exact hs i j h1 h2 (by omega)
 case po=>
  rintro c st' ⟨rfl,b1,b2⟩
  exact wpS_pure (h st' b1 b2)
 case fi=>
  rintro c st' ⟨hc,b1,b2⟩
  rw [show min (max (max ok 1) n) n=n by omega] at b2
  exact ⟨hc,b1,b2⟩
 case ste=>
  rintro k c st' hak hkn ⟨rfl,b1,b2⟩
  rw [show min k n=k by omega] at b2
  refine wpS_bind (wpS_mono (wpS_forRange (I:=fun x c st2=>st2=st'∧∃ l r,c=(none,l,r)∧l≤r∧r≤k∧r - l≤k - x∧(∀ i,lo≤i→i < lo + l→K (arrOf st') i≤K (arrOf st') (lo + k))∧(∀ i,lo + r≤i→i < lo + k→K (arrOf st') (lo + k) < K (arrOf st') i))
   (Q:=fun c st2=>st2=st'∧∃ l r,c=(none,l,r)∧l≤k∧(∀ i,lo≤i→i < lo + l→K (arrOf st') i≤K (arrOf st') (lo + k))∧(∀ i,lo + l≤i→i < lo + k→K (arrOf st') (lo + k) < K (arrOf st') i)) ?a ?b ⟨rfl,0,k,rfl,by omega,by omega,by omega,fun i _ hi=>by omega,fun i _ _=>by omega⟩) ?c)
  case b=>
   rintro c st2 ⟨rfl,l,r,rfl,c1,c2,c3,c4,c5⟩
   have:l=r:=by omega
   subst this
   exact ⟨rfl,l,l,rfl,c2,c4,c5⟩
  case a=>
   rintro x c st2 _ hx ⟨rfl,l,r,rfl,c1,c2,c3,c4,c5⟩
   dsimp only
   by_cases g:l ≥ r
   ·rw [if_pos g]
    have:l=r:=by omega
    subst this
    exact wpS_pure ⟨rfl,l,l,rfl,c2,c4,c5⟩
   ·rw [if_neg g]
    refine wpS_bind (lK b1 h0 (by omega) (by omega) ?_)
    by_cases hl:K (arrOf st2) (lo + k) < K (arrOf st2) (lo + (l + r) / 2)
    ·simp only [hl,decide_true,if_true]
     exact wpS_pure ⟨rfl,l,(l + r) / 2,rfl,by omega,by omega,by omega,c4,fun i h1 h2=>Int.lt_of_lt_of_le hl (b2 _ _ (by omega) h1 h2)⟩
    ·simp only [hl,decide_false,Bool.false_eq_true,if_false]
     exact wpS_pure ⟨rfl,(l + r) / 2 + 1,r,rfl,by omega,by omega,by omega,fun i h1 h2=>Int.le_trans (b2 i (lo + (l + r) / 2) h1 (by omega) (by omega)) (Int.not_lt.mp hl),c5⟩
  case c=>
   rintro c st2 ⟨rfl,l,r,rfl,c2,c4,c5⟩
   show wpS _ _ _ _ (do moveDown' (lo + k) (lo + l); pure (ForInStep.yield (none,()))) _ _
   rw [moveDown'_eq]
   have hks:lo + k < (arrOf st2).size:=by rw [b1.size]; omega
   have kb:=fun t=>K_bubble (xs:=arrOf st2) (src:=lo + k) (d:=lo + k - (lo + l)) hks (by omega) t
   rw [show lo + k - (lo + k - (lo + l))=lo + l by omega] at kb
   refine wpS_bind (wpS_modify (wpS_pure ⟨rfl,b1.arr (bubble_perm _ _ _) fun t ht=>?_,fun i j h1 h2 h3=>?_⟩))
   ·rw [kb,if_neg (by omega),if_neg (by omega)]
   ·rw [show min (k + 1) n=k + 1 by omega] at h3
    show K (bubble _ _ _) i≤K (bubble _ _ _) j
    rw [kb,kb]
    repeat' split
    all_goals first
     | (exfalso; omega)
     | exact Int.le_refl _
     | exact c4 _ (by omega) (by omega)
     | exact Int.le_of_lt (c5 _ (by omega) (by omega))
     | exact b2 _ _ (by omega) (by omega) (by omega)
end
end SR
namespace SR
open PySem PyProof.Rows
theorem mir {xs:Array Keyed} {i j:Nat} (hj:j≤xs.size) (h:∀ k,i≤k→k < j→K xs k=K xs (j - 1)) (k:Nat):K (mirror xs i j ((j - i) / 2)) k=K xs k:=by
 rw [K_mirror hj]
 split
 ·rw [h _ (by omega) (by omega),h k (by omega) (by omega)]
 ·rfl
section
variable {prog:Program} {w:World} {A:Around} {E:Value→Shared→Prop} {s:Shared} {a0 A0:Array Keyed} {P:Array (Nat × Nat × Nat)} {lo:Nat}
abbrev AS:=Option (Option Nat) × Nat
theorem lL {st:SortSt} {a nrem:Nat} {f:Nat→AS→SM (ForInStep AS)} {Q:AS→SortSt→Prop} (h0:IK a0) (hn:lo + nrem≤a0.size) (ha:1≤a) (han:a≤nrem) (hB:SB a0 A0 P lo st) (hs:Up (arrOf st) lo (lo + a))
  (hf:∀ x n (R:ForInStep AS→SortSt→Prop),wpS (model prog w) A E s (ltAt' (lo + n) (lo + n - 1)) (fun r st'=>∃ b,r=some b∧R (if b=true then .done (none,n) else .yield (none,n + 1)) st') st→wpS (model prog w) A E s (f x (none,n)) R st)
  (h:∀ n,a≤n→n≤nrem→Up (arrOf st) lo (lo + n)→(n=nrem ∨ K (arrOf st) (lo + n) < K (arrOf st) (lo + n - 1))→Q (none,n) st):wpS (model prog w) A E s (forIn [a:nrem] ((none,a):AS) f) Q st:=by
 refine wpS_forRange (I:=fun x c st'=>st'=st∧c=(none,x)∧Up (arrOf st) lo (lo + x)) ?a ?b ⟨rfl,rfl,hs⟩
 case b=>
  rintro c st' ⟨rfl,rfl,b1⟩
  rw [show max a nrem=nrem by omega] at b1 ⊢
  exact h nrem han (Nat.le_refl _) b1 (.inl rfl)
 case a=>
  rintro x c st' h1 h2 ⟨rfl,rfl,b1⟩
  refine hf _ _ _ (lK hB h0 (by omega) (by omega) ⟨_,rfl,?_⟩)
  by_cases hl:K (arrOf st') (lo + x) < K (arrOf st') (lo + x - 1)
  ·simp only [hl,decide_true,if_true]
   exact h x h1 (by omega) b1 (.inr hl)
  ·simp only [hl,decide_false,Bool.false_eq_true,if_false]
   refine ⟨trivial,trivial,fun i j i1 i2 i3=>?_⟩
   by_cases hj:j < lo + x
   ·exact b1 i j i1 i2 hj
   ·have hj':j=lo + x:=by omega
    subst hj'
    by_cases e:i=lo + x
    ·subst e; exact Int.le_refl _
    ·exact Int.le_trans (b1 i (lo + x - 1) i1 (by omega) (by omega)) (Int.not_lt.mp hl)
set_option maxHeartbeats 2000000 in
theorem Cr {st:SortSt} {nrem:Nat} {Q:Option Nat→SortSt→Prop} (h0:IK a0) (hn:lo + nrem≤a0.size) (h1:1≤nrem) (hB:SB a0 A0 P lo st)
  (h:∀ m st',SB a0 A0 P lo st'→1≤m→m≤nrem→Up (arrOf st') lo (lo + m)→Q (some m) st'):wpS (model prog w) A E s (countRun' lo nrem) Q st:=by
 rw [countRun'_eq]
 dsimp only
 refine wpS_bind (lL h0 hn (Nat.le_refl 1) h1 hB (fun i j i1 i2 i3=>by rw [show i=j by omega]; exact Int.le_refl _) ?hf fun n n1 n2 u ho=>?_)
 case hf=>
  intro x n R hR
  dsimp only
  refine wpS_bind (wpS_mono hR ?_)
  rintro r st' ⟨b,rfl,hb⟩
  cases b
  ·exact wpS_pure hb
  ·exact wpS_pure hb
 dsimp only
 by_cases e:n=nrem
 ·rw [if_pos (by simpa using e)]
  exact wpS_pure (h n st hB n1 n2 u)
 rw [if_neg (by simpa using e)]
 have hlt:K (arrOf st) (lo + n) < K (arrOf st) (lo + n - 1):=ho.resolve_left e
 by_cases g:n > 1
 ·rw [if_pos g]
  refine wpS_bind (lK hB h0 (by omega) (by omega) ?_)
  by_cases hr:K (arrOf st) lo < K (arrOf st) (lo + n - 1)
  ·simp only [hr,decide_true,if_true]
   exact wpS_pure (h n st hB n1 n2 u)
  ·simp only [hr,decide_false,Bool.false_eq_true,if_false]
   have hsz:lo + n≤(arrOf st).size:=by rw [hB.size]; omega
   have all:∀ k,lo≤k→k < lo + n→K (arrOf st) k=K (arrOf st) (lo + n - 1):=fun k k1 k2=>by
    have a1:=u lo k (Nat.le_refl _) k1 k2
    have a2:=u k (lo + n - 1) k1 (by omega) (by omega)
    omega
   refine wpS_bind (gD hB (Nat.le_refl _) (by omega) fun hB1=>?_)
   have hD1:Dn (mirror (arrOf st) lo (lo + n) ((lo + n - lo) / 2)) lo (lo + (n + 1)):=fun i j i1 i2 i3=>by
    rw [mir hsz all,mir hsz all]
    by_cases hj:j < lo + n
    ·rw [all i i1 (by omega),all j (by omega) hj]; exact Int.le_refl _
    ·have hj':j=lo + n:=by omega
     subst hj'
     by_cases e:i=lo + n
     ·subst e; exact Int.le_refl _
     ·rw [all i i1 (by omega)]; exact Int.le_of_lt hlt
   refine wpS_bind (wpS_lift (wpAny_rule ⟨rfl,?_⟩))
   refine wpS_bind (wpS_mono (wpS_forRange (I:=fun x c st'=>∃ neq,c=(none,x,neq)∧SB a0 A0 P lo st'∧Dn (arrOf st') lo (lo + x)∧neq + 1≤x∧(∀ i,lo + x - (neq + 1)≤i→i < lo + x→K (arrOf st') i=K (arrOf st') (lo + x - 1)))
    (Q:=fun c st'=>∃ m neq,c=(none,m,neq)∧n + 1≤m∧m≤nrem∧SB a0 A0 P lo st'∧Dn (arrOf st') lo (lo + m)∧neq + 1≤m∧(∀ i,lo + m - (neq + 1)≤i→i < lo + m→K (arrOf st') i=K (arrOf st') (lo + m - 1))) ?a ?b ⟨0,rfl,hB1,hD1,by omega,fun i i1 i2=>by congr 1; omega⟩) ?c)
   case b=>
    rintro c st' ⟨neq,rfl,b1,b2,b3,b4⟩
    rw [show max (n + 1) nrem=nrem by omega] at b2 b3 b4 ⊢
    exact ⟨nrem,neq,rfl,by omega,Nat.le_refl _,b1,b2,b3,b4⟩
   case a=>
    rintro x c st' x1 x2 ⟨neq,rfl,b1,b2,b3,b4⟩
    dsimp only
    have hsz:lo + x≤(arrOf st').size:=by rw [b1.size]; omega
    refine wpS_bind (lK b1 h0 (by omega) (by omega) ?_)
    have more:∀ xs:Array Keyed,(∀ k,K xs k=K (arrOf st') k)→K (arrOf st') (lo + x)≤K (arrOf st') (lo + x - 1)→Dn xs lo (lo + (x + 1)):=by
     intro xs hk hle i j i1 i2 i3
     rw [hk,hk]
     by_cases hj:j < lo + x
     ·exact b2 i j i1 i2 hj
     ·have hj':j=lo + x:=by omega
      subst hj'
      by_cases e:i=lo + x
      ·subst e; exact Int.le_refl _
      ·exact Int.le_trans hle (b2 i (lo + x - 1) i1 (by omega) (by omega))
    by_cases hl:K (arrOf st') (lo + x) < K (arrOf st') (lo + x - 1)
    ·simp only [hl,decide_true,if_true]
     by_cases hq:neq > 0
     ·rw [if_pos hq]
      refine wpS_bind (gD b1 (by omega) (by omega) fun b9=>wpS_pure ⟨0,rfl,b9,more _ (mir hsz b4) (Int.le_of_lt hl),by omega,fun i i1 i2=>by congr 1; omega⟩)
     ·rw [if_neg hq]
      exact wpS_pure ⟨0,rfl,b1,more _ (fun _=>rfl) (Int.le_of_lt hl),by omega,fun i i1 i2=>by congr 1; omega⟩
    ·simp only [hl,decide_false,Bool.false_eq_true,if_false]
     refine wpS_bind (lK b1 h0 (by omega) (by omega) ?_)
     by_cases hg:K (arrOf st') (lo + x - 1) < K (arrOf st') (lo + x)
     ·simp only [hg,decide_true,if_true]
      exact wpS_pure ⟨x,neq,rfl,x1,by omega,b1,b2,b3,b4⟩
     ·simp only [hg,decide_false,Bool.false_eq_true,if_false]
      have he:K (arrOf st') (lo + x)=K (arrOf st') (lo + x - 1):=by omega
      refine wpS_pure ⟨neq + 1,rfl,b1,more _ (fun _=>rfl) (by omega),by omega,fun i i1 i2=>?_⟩
      rw [show lo + (x + 1) - 1=lo + x by omega]
      by_cases e:i=lo + x
      ·subst e; rfl
      ·rw [he]; exact b4 i (by omega) (by omega)
   case c=>
    rintro c st' ⟨m,neq,rfl,m1,m2,b1,b2,b3,b4⟩
    dsimp only
    have hsz:lo + m≤(arrOf st').size:=by rw [b1.size]; omega
    have last:∀ st2,SB a0 A0 P lo st2→Dn (arrOf st2) lo (lo + m)→Up (mirror (arrOf st2) lo (lo + m) ((lo + m - lo) / 2)) lo (lo + m):=fun st2 c1 c2 i j i1 i2 i3=>by
     rw [K_mirror (by rw [c1.size]; omega),K_mirror (by rw [c1.size]; omega),if_pos (by omega),if_pos (by omega)]
     exact c2 _ _ (by omega) (by omega) (by omega)
    by_cases hq:neq > 0
    ·rw [if_pos hq]
     refine wpS_bind (gD b1 (by omega) (by omega) fun b9=>?_)
     have d9:Dn (mirror (arrOf st') (lo + m - (neq + 1)) (lo + m) ((lo + m - (lo + m - (neq + 1))) / 2)) lo (lo + m):=fun i j i1 i2 i3=>by
      rw [mir hsz b4,mir hsz b4]; exact b2 i j i1 i2 i3
     refine wpS_bind (gD b9 (Nat.le_refl _) (by omega) fun b8=>?_)
     refine wpS_bind (lL h0 hn (by omega) m2 b8 (last _ b9 d9) ?_ fun n2 n1 n3 u _=>wpS_pure (h n2 _ b8 (by omega) n3 u))
     intro x n R hR
     dsimp only
     refine wpS_bind (wpS_mono hR ?_)
     rintro r st' ⟨b,rfl,hb⟩
     cases b
     ·exact wpS_pure hb
     ·exact wpS_pure hb
    ·rw [if_neg hq]
     refine wpS_bind (gD b1 (Nat.le_refl _) (by omega) fun b8=>?_)
     refine wpS_bind (lL h0 hn (by omega) m2 b8 (last _ b1 b2) ?_ fun n2 n1 n3 u _=>wpS_pure (h n2 _ b8 (by omega) n3 u))
     intro x n R hR
     dsimp only
     refine wpS_bind (wpS_mono hR ?_)
     rintro r st' ⟨b,rfl,hb⟩
     cases b
     ·exact wpS_pure hb
     ·exact wpS_pure hb
 ·rw [if_neg g]
  have hn1:n=1:=by omega
  have hB1:=hB
  have hD1:Dn (arrOf st) lo (lo + (n + 1)):=fun i j i1 i2 i3=>by
   by_cases e:i=j
   ·subst e; exact Int.le_refl _
   ·have e1:i=lo + n - 1:=by omega
    have e2:j=lo + n:=by omega
    rw [e1,e2]
    exact Int.le_of_lt hlt
  refine wpS_bind (wpS_lift (wpAny_rule ⟨rfl,?_⟩))
  refine wpS_bind (wpS_mono (wpS_forRange (I:=fun x c st'=>∃ neq,c=(none,x,neq)∧SB a0 A0 P lo st'∧Dn (arrOf st') lo (lo + x)∧neq + 1≤x∧(∀ i,lo + x - (neq + 1)≤i→i < lo + x→K (arrOf st') i=K (arrOf st') (lo + x - 1)))
   (Q:=fun c st'=>∃ m neq,c=(none,m,neq)∧n + 1≤m∧m≤nrem∧SB a0 A0 P lo st'∧Dn (arrOf st') lo (lo + m)∧neq + 1≤m∧(∀ i,lo + m - (neq + 1)≤i→i < lo + m→K (arrOf st') i=K (arrOf st') (lo + m - 1))) ?a ?b ⟨0,rfl,hB1,hD1,by omega,fun i i1 i2=>by congr 1; omega⟩) ?c)
  case b=>
   rintro c st' ⟨neq,rfl,b1,b2,b3,b4⟩
   rw [show max (n + 1) nrem=nrem by omega] at b2 b3 b4 ⊢
   exact ⟨nrem,neq,rfl,by omega,Nat.le_refl _,b1,b2,b3,b4⟩
  case a=>
   rintro x c st' x1 x2 ⟨neq,rfl,b1,b2,b3,b4⟩
   dsimp only
   have hsz:lo + x≤(arrOf st').size:=by rw [b1.size]; omega
   refine wpS_bind (lK b1 h0 (by omega) (by omega) ?_)
   have more:∀ xs:Array Keyed,(∀ k,K xs k=K (arrOf st') k)→K (arrOf st') (lo + x)≤K (arrOf st') (lo + x - 1)→Dn xs lo (lo + (x + 1)):=by
    intro xs hk hle i j i1 i2 i3
    rw [hk,hk]
    by_cases hj:j < lo + x
    ·exact b2 i j i1 i2 hj
    ·have hj':j=lo + x:=by omega
     subst hj'
     by_cases e:i=lo + x
     ·subst e; exact Int.le_refl _
     ·exact Int.le_trans hle (b2 i (lo + x - 1) i1 (by omega) (by omega))
   by_cases hl:K (arrOf st') (lo + x) < K (arrOf st') (lo + x - 1)
   ·simp only [hl,decide_true,if_true]
    by_cases hq:neq > 0
    ·rw [if_pos hq]
     refine wpS_bind (gD b1 (by omega) (by omega) fun b9=>wpS_pure ⟨0,rfl,b9,more _ (mir hsz b4) (Int.le_of_lt hl),by omega,fun i i1 i2=>by congr 1; omega⟩)
    ·rw [if_neg hq]
     exact wpS_pure ⟨0,rfl,b1,more _ (fun _=>rfl) (Int.le_of_lt hl),by omega,fun i i1 i2=>by congr 1; omega⟩
   ·simp only [hl,decide_false,Bool.false_eq_true,if_false]
    refine wpS_bind (lK b1 h0 (by omega) (by omega) ?_)
    by_cases hg:K (arrOf st') (lo + x - 1) < K (arrOf st') (lo + x)
    ·simp only [hg,decide_true,if_true]
     exact wpS_pure ⟨x,neq,rfl,x1,by omega,b1,b2,b3,b4⟩
    ·simp only [hg,decide_false,Bool.false_eq_true,if_false]
     have he:K (arrOf st') (lo + x)=K (arrOf st') (lo + x - 1):=by omega
     refine wpS_pure ⟨neq + 1,rfl,b1,more _ (fun _=>rfl) (by omega),by omega,fun i i1 i2=>?_⟩
     rw [show lo + (x + 1) - 1=lo + x by omega]
     by_cases e:i=lo + x
     ·subst e; rfl
     ·rw [he]; exact b4 i (by omega) (by omega)
  case c=>
   rintro c st' ⟨m,neq,rfl,m1,m2,b1,b2,b3,b4⟩
   dsimp only
   have hsz:lo + m≤(arrOf st').size:=by rw [b1.size]; omega
   have last:∀ st2,SB a0 A0 P lo st2→Dn (arrOf st2) lo (lo + m)→Up (mirror (arrOf st2) lo (lo + m) ((lo + m - lo) / 2)) lo (lo + m):=fun st2 c1 c2 i j i1 i2 i3=>by
    rw [K_mirror (by rw [c1.size]; omega),K_mirror (by rw [c1.size]; omega),if_pos (by omega),if_pos (by omega)]
    exact c2 _ _ (by omega) (by omega) (by omega)
   by_cases hq:neq > 0
   ·rw [if_pos hq]
    refine wpS_bind (gD b1 (by omega) (by omega) fun b9=>?_)
    have d9:Dn (mirror (arrOf st') (lo + m - (neq + 1)) (lo + m) ((lo + m - (lo + m - (neq + 1))) / 2)) lo (lo + m):=fun i j i1 i2 i3=>by
     rw [mir hsz b4,mir hsz b4]; exact b2 i j i1 i2 i3
    refine wpS_bind (gD b9 (Nat.le_refl _) (by omega) fun b8=>?_)
    refine wpS_bind (lL h0 hn (by omega) m2 b8 (last _ b9 d9) ?_ fun n2 n1 n3 u _=>wpS_pure (h n2 _ b8 (by omega) n3 u))
    intro x n R hR
    dsimp only
    refine wpS_bind (wpS_mono hR ?_)
    rintro r st' ⟨b,rfl,hb⟩
    cases b
    ·exact wpS_pure hb
    ·exact wpS_pure hb
   ·rw [if_neg hq]
    refine wpS_bind (gD b1 (Nat.le_refl _) (by omega) fun b8=>?_)
    refine wpS_bind (lL h0 hn (by omega) m2 b8 (last _ b1 b2) ?_ fun n2 n1 n3 u _=>wpS_pure (h n2 _ b8 (by omega) n3 u))
    intro x n R hR
    dsimp only
    refine wpS_bind (wpS_mono hR ?_)
    rintro r st' ⟨b,rfl,hb⟩
    cases b
    ·exact wpS_pure hb
    ·exact wpS_pure hb
end
end SR
namespace SR
open PySem PyProof.Rows
def wr (xs:Array Keyed) (z:Nat) (l:List (Keyed × Nat)):Array Keyed:=l.foldl (fun a (x:Keyed × Nat)=>match x with | (p,j)=>a.setIfInBounds (z + j) p) xs
theorem sW (z:Nat):∀ (m:List Keyed) (k:Nat) (xs:Array Keyed),z + k + m.length≤xs.size→∀ t,(wr xs z (m.zipIdx k))[t]?=if z + k≤t∧t < z + k + m.length then m[t - (z + k)]? else xs[t]?
 | [],k,xs,_,t=>by
  rw [if_neg (by rw [List.length_nil]; omega)]
  rfl
 | p :: m,k,xs,h,t=>by
  rw [List.length_cons] at h
  show (wr (xs.setIfInBounds (z + k) p) z (m.zipIdx (k + 1)))[t]?=_
  rw [sW z m (k + 1) _ (by rw [Array.size_setIfInBounds]; omega),List.length_cons,Array.getElem?_setIfInBounds]
  by_cases h1:z + (k + 1)≤t∧t < z + (k + 1) + m.length
  ·rw [if_pos h1,if_pos (by omega)]
   obtain ⟨d,hd⟩:∃ d,t - (z + k)=d + 1:=⟨t - (z + k) - 1,by omega⟩
   rw [hd,List.getElem?_cons_succ]
   congr 1
   omega
  ·rw [if_neg h1]
   by_cases h2:z + k=t
   ·rw [if_pos h2,if_pos (by omega),if_pos (by omega)]
    rw [show t - (z + k)=0 by omega]
    rfl
   ·rw [if_neg h2,if_neg (by omega)]
theorem zV {xs:Array Keyed} {z:Nat} {m:List Keyed} (h:z + m.length≤xs.size):(wr xs z m.zipIdx).toList=xs.toList.take z ++ (m ++ xs.toList.drop (z + m.length)):=by
 refine List.ext_getElem? fun t=>?_
 rw [Array.getElem?_toList,sW z m 0 xs (by omega)]
 have hlt:(xs.toList.take z).length=z:=by rw [List.length_take]; simp; omega
 by_cases h1:t < z
 ·rw [if_neg (by omega),List.getElem?_append_left (by omega),List.getElem?_take_of_lt h1,Array.getElem?_toList]
 ·rw [List.getElem?_append_right (by omega),hlt]
  by_cases h2:t < z + m.length
  ·rw [if_pos (by omega),List.getElem?_append_left (by omega)]
   rfl
  ·rw [if_neg (by omega),List.getElem?_append_right (by omega),List.getElem?_drop,Array.getElem?_toList]
   congr 1
   omega
def Ch (xs:Array Keyed):Nat→List (Nat × Nat × Nat)→Nat→Prop
 | z,[],y=>z=y
 | z,(s,n,_) :: r,y=>s=z∧1≤n∧Up xs z (z + n)∧Ch xs (z + n) r y
theorem Ch.le {xs:Array Keyed}:∀ {l:List (Nat × Nat × Nat)} {z y:Nat},Ch xs z l y→z + l.length≤y
 | [],z,y,h=>by unfold Ch at h; simp; omega
 | (s,n,p) :: r,z,y,h=>by
  obtain ⟨_,h1,_,h2⟩:=h
  have:=h2.le
  rw [List.length_cons]
  omega
theorem Ch.app {xs:Array Keyed}:∀ {l r:List (Nat × Nat × Nat)} {z y:Nat},Ch xs z (l ++ r) y↔∃ m,Ch xs z l m∧Ch xs m r y
 | [],r,z,y=>⟨fun h=>⟨z,rfl,h⟩,fun ⟨m,h1,h2⟩=>by unfold Ch at h1; subst h1; exact h2⟩
 | (s,n,p) :: l,r,z,y=>by
  constructor
  ·rintro ⟨h1,h2,h3,h4⟩
   obtain ⟨m,h5,h6⟩:=Ch.app.mp h4
   exact ⟨m,⟨h1,h2,h3,h5⟩,h6⟩
  ·rintro ⟨m,⟨h1,h2,h3,h5⟩,h6⟩
   exact ⟨h1,h2,h3,Ch.app.mpr ⟨m,h5,h6⟩⟩
theorem Ch.like {xs ys:Array Keyed}:∀ {l:List (Nat × Nat × Nat)} {z y:Nat},Ch xs z l y→(∀ t,z≤t→t < y→K ys t=K xs t)→Ch ys z l y
 | [],z,y,h,_=>h
 | (s,n,p) :: r,z,y,⟨h1,h2,h3,h4⟩,hk=>by
  have:=h4.le
  refine ⟨h1,h2,fun i j i1 i2 i3=>?_,h4.like fun t t1 t2=>hk t (by omega) t2⟩
  rw [hk i i1 (by omega),hk j (by omega) (by omega)]
  exact h3 i j i1 i2 i3
theorem Ch.pow {xs:Array Keyed} (f:Nat × Nat × Nat→Nat × Nat × Nat) (hf:∀ s n p,∃ q,f (s,n,p)=(s,n,q)):∀ {l:List (Nat × Nat × Nat)} {z y:Nat} (k:Nat),Ch xs z l y→Ch xs z (l.modify k f) y
 | [],z,y,k,h=>by simpa using h
 | (s,n,p) :: r,z,y,0,⟨h1,h2,h3,h4⟩=>by
  obtain ⟨q,e⟩:=hf s n p
  rw [List.modify_zero_cons,e]
  exact ⟨h1,h2,h3,h4⟩
 | (s,n,p) :: r,z,y,k + 1,⟨h1,h2,h3,h4⟩=>by
  rw [List.modify_succ_cons]
  exact ⟨h1,h2,h3,Ch.pow f hf k h4⟩
structure Bs (a0:Array Keyed) (st:SortSt):Prop where
 perm:(arrOf st).Perm a0
 kind:kindOf st=oneType'
 failed:failedOf st=none
theorem sX (i:Nat):mergeAt' i=(do
 let s ← get
 let (some (sa,na,pw),some (sb,nb,_)):=((pendingOf s)[i]?,(pendingOf s)[i + 1]?) | unsupported "internal:list.sort.pending"
 set (setPending s (((pendingOf s).setIfInBounds i (sa,na + nb,pw)).eraseIdxIfInBounds (i + 1)))
 let some k ← gal false (← elem' (arrOf s) sb) (arrOf s) sa na 0 | return false
 let (sa,na):=(sa + k,na - k)
 if na == 0 then return true
 let some nb ← gal true (← elem' (arrOf s) (sa + na - 1)) (arrOf s) sb nb (nb - 1) | return false
 if nb == 0 then return true
 let x:=(arrOf s).extract sa sb
 let y:=(arrOf s).extract sb (sb + nb)
 let m ← if na≤nb then mLo x y else mHi x y
 modify fun s=>setArr s (m.toList.zipIdx.foldl (fun a (p,j)=>a.setIfInBounds (sa + j) p) (arrOf s))
 return (failedOf (← get)).isNone):=rfl
section
variable {prog:Program} {w:World} {A:Around} {E:Value→Shared→Prop} {s:Shared} {a0:Array Keyed}
theorem zW {st st1:SortSt} {Q:PUnit→SortSt→Prop} (h:Q ⟨⟩ st1):wpS (model prog w) A E s (set st1:StateT SortSt Sem PUnit) Q st:=by
 unfold wpS; rw [StateT.run_set]; exact wpAny_pure ⟨rfl,h⟩
theorem nO {xs:Array Keyed} {i j t:Nat} (ht:i + t < j) (hj:j≤xs.size):K (xs.extract i j) t=K xs (i + t):=by
 unfold K
 rw [Array.getElem?_extract]
 rw [if_pos (by omega)]
theorem pf {xs:Array Keyed} (h:IK xs) (i j:Nat):IK (xs.extract i j):=fun p hp=>h p (by
 rw [ef] at hp
 exact List.mem_of_mem_drop (List.mem_of_mem_take hp))
theorem xG {xs:Array Keyed} {i j:Nat} (h:Up xs i j) (hj:j≤xs.size):Up (xs.extract i j) 0 (xs.extract i j).size:=by
 have hs:(xs.extract i j).size=j - i:=by rw [Array.size_extract]; omega
 rw [hs]
 intro p q _ h2 h3
 rw [nO (by omega) hj,nO (by omega) hj]
 exact h _ _ (by omega) (by omega) (by omega)
theorem Cs {st:SortSt} {i sa na p sb nb q:Nat} {l1 l2:List (Nat × Nat × Nat)} {y:Nat} {Q:Bool→SortSt→Prop} (h0:IK a0) (hB:Bs a0 st) (hi:i=l1.length) (hP:(pendingOf st).toList=l1 ++ (sa,na,p) :: (sb,nb,q) :: l2) (hC:Ch (arrOf st) 0 (pendingOf st).toList y) (hy:y≤a0.size)
  (h:∀ st',Bs a0 st'→(pendingOf st').toList=l1 ++ (sa,na + nb,p) :: l2→Ch (arrOf st') 0 (pendingOf st').toList y→(∀ t,y≤t→K (arrOf st') t=K (arrOf st) t)→Q true st'):wpS (model prog w) A E s (mergeAt' i) Q st:=by
 have hsz:(arrOf st).size=a0.size:=hB.perm.size_eq
 have ik:=uQ h0 hB.perm
 rw [hP] at hC
 obtain ⟨z,c1,e1,n1,u1,e2,n2,u2,c2⟩:=Ch.app.mp hC
 subst e1 e2
 have c2l:=c2.le
 have g1:(pendingOf st)[i]?=some (sa,na,p):=by rw [← Array.getElem?_toList,hP,hi]; simp
 have g2:(pendingOf st)[i + 1]?=some (sa + na,nb,q):=by rw [← Array.getElem?_toList,hP,hi,List.getElem?_append_right (by omega)]; simp
 have hP2:(((pendingOf st).setIfInBounds i (sa,na + nb,p)).eraseIdxIfInBounds (i + 1)).toList=l1 ++ (sa,na + nb,p) :: l2:=by
  have hl:i + 1 < (pendingOf st).size:=by rw [← Array.length_toList,hP,hi,List.length_append,List.length_cons,List.length_cons]; omega
  rw [Array.eraseIdxIfInBounds,dif_pos (by rw [Array.size_setIfInBounds]; exact hl),Array.toList_eraseIdx,Array.toList_setIfInBounds,hP,hi]
  rw [List.set_append_right _ _ (Nat.le_refl _),List.eraseIdx_append_of_length_le (by omega)]
  simp
 rw [sX]
 refine wpS_bind (wpS_get ?_)
 rw [g1,g2]
 dsimp only
 refine wpS_bind (zW ?_)
 have hsb:sa + na < (arrOf st).size:=by omega
 refine wpS_bind (bb hsb ?_)
 refine wpS_bind (i5 hB.kind ik (ik.get hsb) (by omega) (by omega) u1 fun k k1 k2 k3=>?_)
 dsimp only
 have q2:∀ t,sa≤t→t < sa + k→K (arrOf st) t≤K (arrOf st) (sa + na):=fun t t1 t2=>by
  have:=k2 (t - sa) (by omega)
  rw [show sa + (t - sa)=t by omega] at this
  rw [bM hsb]
  simpa [bef] using this
 have q3:∀ t,sa + k≤t→t < sa + na→K (arrOf st) (sa + na)≤K (arrOf st) t:=fun t t1 t2=>by
  have:=k3 (t - sa) (by omega) (by omega)
  rw [show sa + (t - sa)=t by omega] at this
  rw [bM hsb]
  exact Int.le_of_lt (by simpa [bef] using this)
 -- when nothing is to be moved
 have still:Up (arrOf st) sa (sa + (na + nb))→Q true (setPending st (((pendingOf st).setIfInBounds i (sa,na + nb,p)).eraseIdxIfInBounds (i + 1))):=fun hu=>by
  refine h _ ⟨hB.perm,hB.kind,hB.failed⟩ hP2 ?_ fun t _=>rfl
  show Ch (arrOf st) 0 (((pendingOf st).setIfInBounds i (sa,na + nb,p)).eraseIdxIfInBounds (i + 1)).toList y
  rw [hP2]
  exact Ch.app.mpr ⟨sa,c1,rfl,by omega,hu,by rw [← Nat.add_assoc]; exact c2⟩
 by_cases e1:na - k=0
 ·rw [if_pos (by simpa using e1)]
  refine wpS_pure (still fun i j i1 i2 i3=>?_)
  by_cases hj:j < sa + na
  ·exact u1 i j i1 i2 hj
  ·by_cases hi':i < sa + na
   ·exact Int.le_trans (q2 i i1 (by omega)) (u2 (sa + na) j (Nat.le_refl _) (by omega) (by omega))
   ·exact u2 i j (by omega) i2 (by omega)
 rw [if_neg (by simpa using e1)]
 have hla:sa + k + (na - k) - 1 < (arrOf st).size:=by omega
 refine wpS_bind (bb hla ?_)
 refine wpS_bind (i5 hB.kind ik (ik.get hla) (by omega) (by omega) u2 fun m m1 m2 m3=>?_)
 dsimp only
 have v2:∀ t,sa + na≤t→t < sa + na + m→K (arrOf st) t≤K (arrOf st) (sa + na - 1):=fun t t1 t2=>by
  have:=m2 (t - (sa + na)) (by omega)
  rw [show sa + na + (t - (sa + na))=t by omega] at this
  have e:sa + na - 1=sa + k + (na - k) - 1:=by omega
  rw [e,bM hla]
  exact Int.le_of_lt (by simpa [bef] using this)
 have v3:∀ t,sa + na + m≤t→t < sa + na + nb→K (arrOf st) (sa + na - 1)≤K (arrOf st) t:=fun t t1 t2=>by
  have:=m3 (t - (sa + na)) (by omega) (by omega)
  rw [show sa + na + (t - (sa + na))=t by omega] at this
  have e:sa + na - 1=sa + k + (na - k) - 1:=by omega
  rw [e,bM hla]
  simpa [bef] using this
 by_cases e2:m=0
 ·rw [if_pos (by simpa using e2)]
  refine wpS_pure (still fun i j i1 i2 i3=>?_)
  by_cases hj:j < sa + na
  ·exact u1 i j i1 i2 hj
  ·by_cases hi':i < sa + na
   ·exact Int.le_trans (u1 i (sa + na - 1) i1 (by omega) (by omega)) (v3 j (by omega) (by omega))
   ·exact u2 i j (by omega) i2 (by omega)
 rw [if_neg (by simpa using e2)]
 have sx:((arrOf st).extract (sa + k) (sa + na)).size=na - k:=by rw [Array.size_extract]; omega
 have sy:((arrOf st).extract (sa + na) (sa + na + m)).size=m:=by rw [Array.size_extract]; omega
 have ux:Up ((arrOf st).extract (sa + k) (sa + na)) 0 ((arrOf st).extract (sa + k) (sa + na)).size:=xG (fun i j i1 i2 i3=>u1 i j (by omega) i2 i3) (by omega)
 have uy:Up ((arrOf st).extract (sa + na) (sa + na + m)) 0 ((arrOf st).extract (sa + na) (sa + na + m)).size:=xG (fun i j i1 i2 i3=>u2 i j i1 i2 (by omega)) (by omega)
 have hlast:∀ t,t < ((arrOf st).extract (sa + na) (sa + na + m)).size→K ((arrOf st).extract (sa + na) (sa + na + m)) t≤K ((arrOf st).extract (sa + k) (sa + na)) (((arrOf st).extract (sa + k) (sa + na)).size - 1):=fun t ht=>by
  rw [sy] at ht
  rw [sx,nO (by omega) (by omega),nO (by omega) (by omega),show sa + k + (na - k - 1)=sa + na - 1 by omega]
  exact v2 _ (by omega) (by omega)
 have hfirst:∀ t,t < ((arrOf st).extract (sa + k) (sa + na)).size→K ((arrOf st).extract (sa + na) (sa + na + m)) 0≤K ((arrOf st).extract (sa + k) (sa + na)) t:=fun t ht=>by
  rw [sx] at ht
  rw [nO (by omega) (by omega),nO (by omega) (by omega),Nat.add_zero]
  exact q3 _ (by omega) (by omega)
 have fin:∀ (r:Array Keyed) (st':SortSt),Good ((arrOf st).extract (sa + k) (sa + na)) ((arrOf st).extract (sa + na) (sa + na + m)) r→Sg (setPending st (((pendingOf st).setIfInBounds i (sa,na + nb,p)).eraseIdxIfInBounds (i + 1))) st'→
   Q true (setArr st' (wr (arrOf st') (sa + k) r.toList.zipIdx)):=by
  rintro r st' ⟨g1,g2⟩ ⟨s1,s2,s3,s4⟩
  have s2:arrOf st'=arrOf st:=s2
  have rl:r.toList.length=na - k + m:=by rw [g1.length_eq,List.length_append,Array.length_toList,Array.length_toList,sx,sy]
  have hw:sa + k + r.toList.length≤(arrOf st).size:=by omega
  have hxy:((arrOf st).extract (sa + k) (sa + na)).toList ++ ((arrOf st).extract (sa + na) (sa + na + m)).toList=((arrOf st).toList.drop (sa + k)).take (na - k + m):=by
   rw [ef,ef,show sa + na - (sa + k)=na - k by omega,show sa + na + m - (sa + na)=m by omega,List.take_add,List.drop_drop,show sa + k + (na - k)=sa + na by omega]
  rw [hxy] at g1
  have hk:∀ t,K (wr (arrOf st) (sa + k) r.toList.zipIdx) t=if sa + k≤t∧t < sa + na + m then K r (t - (sa + k)) else K (arrOf st) t:=fun t=>by
   have e:=sW (sa + k) r.toList 0 (arrOf st) (by omega) t
   rw [rl] at e
   by_cases ht:sa + k≤t∧t < sa + na + m
   ·rw [if_pos ht]
    rw [if_pos (by omega),Array.getElem?_toList] at e
    exact K_congr e
   ·rw [if_neg ht]
    rw [if_neg (by omega)] at e
    exact K_congr e
  have hfrom:∀ t,sa + k≤t→t < sa + na + m→∃ u,sa + k≤u∧u < sa + na + m∧K r (t - (sa + k))=K (arrOf st) u:=fun t t1 t2=>by
   have ht:t - (sa + k) < r.size:=by rw [← Array.length_toList,rl]; omega
   obtain ⟨u,hu1,hu2,hu3⟩:=iE (g1.mem_iff.mp (by simp:r[t - (sa + k)] ∈ r.toList))
   exact ⟨sa + k + u,by omega,by omega,by rw [bM ht]; exact hu3⟩
  have ur:=DM g2
  have rs:r.size=na - k + m:=by rw [← Array.length_toList,rl]
  have wu:Up (wr (arrOf st) (sa + k) r.toList.zipIdx) sa (sa + (na + nb)):=by
   intro i j i1 i2 i3
   rw [hk,hk]
   have low:∀ a u,sa≤a→a < sa + k→sa + k≤u→u < sa + na + nb→K (arrOf st) a≤K (arrOf st) u:=fun a u a1 a2 u3 u4=>by
    by_cases hu:u < sa + na
    ·exact u1 a u a1 (by omega) hu
    ·exact Int.le_trans (q2 a a1 a2) (u2 _ _ (Nat.le_refl _) (by omega) u4)
   have high:∀ a u,sa + k≤a→a < sa + na + m→sa + na + m≤u→u < sa + na + nb→K (arrOf st) a≤K (arrOf st) u:=fun a u a1 a2 u3 u4=>by
    by_cases ha:a < sa + na
    ·exact Int.le_trans (u1 a (sa + na - 1) (by omega) (by omega) (by omega)) (v3 u u3 u4)
    ·exact u2 a u (by omega) (by omega) u4
   by_cases hi1:sa + k≤i∧i < sa + na + m
   ·rw [if_pos hi1]
    by_cases hj1:sa + k≤j∧j < sa + na + m
    ·rw [if_pos hj1]
     exact ur _ _ (Nat.zero_le _) (by omega) (by omega)
    ·rw [if_neg hj1]
     obtain ⟨u,w1,w2,w3⟩:=hfrom i hi1.1 hi1.2
     rw [w3]
     exact high u j w1 w2 (by omega) (by omega)
   ·rw [if_neg hi1]
    by_cases hj1:sa + k≤j∧j < sa + na + m
    ·rw [if_pos hj1]
     obtain ⟨u,w1,w2,w3⟩:=hfrom j hj1.1 hj1.2
     rw [w3]
     exact low i u i1 (by omega) w1 (by omega)
    ·rw [if_neg hj1]
     by_cases hil:i < sa + k
     ·by_cases hjl:j < sa + na
      ·exact u1 i j i1 i2 hjl
      ·exact low i j i1 hil (by omega) (by omega)
     ·exact u2 i j (by omega) i2 (by omega)
  have wp:(wr (arrOf st) (sa + k) r.toList.zipIdx).Perm a0:=by
   refine Array.Perm.trans (Array.perm_iff_toList_perm.mpr ?_) hB.perm
   rw [zV hw,rl]
   refine List.Perm.trans ((g1.append_right _).append_left _) ?_
   rw [show (arrOf st).toList.drop (sa + k + (na - k + m))=((arrOf st).toList.drop (sa + k)).drop (na - k + m) by rw [List.drop_drop],List.take_append_drop,List.take_append_drop]
  rw [s2]
  refine h _ ⟨wp,s1.trans hB.kind,s4.trans hB.failed⟩ (by show (pendingOf st').toList=_; rw [s3]; exact hP2) ?_ fun t ht=>?_
  ·show Ch (wr (arrOf st) (sa + k) r.toList.zipIdx) 0 (pendingOf st').toList y
   rw [s3]
   show Ch _ 0 (((pendingOf st).setIfInBounds i (sa,na + nb,p)).eraseIdxIfInBounds (i + 1)).toList y
   rw [hP2]
   refine Ch.app.mpr ⟨sa,c1.like fun t t1 t2=>?_,rfl,by omega,wu,?_⟩
   ·rw [hk,if_neg (by omega)]
   ·rw [← Nat.add_assoc]
    exact c2.like fun t t1 t2=>by rw [hk,if_neg (by omega)]
  ·show K (wr (arrOf st) (sa + k) r.toList.zipIdx) t=_
   rw [hk,if_neg (by omega)]
 have endS:∀ (r:Array Keyed) (st':SortSt),Good ((arrOf st).extract (sa + k) (sa + na)) ((arrOf st).extract (sa + na) (sa + na + m)) r→Sg (setPending st (((pendingOf st).setIfInBounds i (sa,na + nb,p)).eraseIdxIfInBounds (i + 1))) st'→
   wpS (model prog w) A E s (do
    modify fun s=>setArr s (r.toList.zipIdx.foldl (fun a (p,j)=>a.setIfInBounds (sa + k + j) p) (arrOf s))
    return (failedOf (← get)).isNone) Q st':=fun r st' g z=>by
  refine wpS_bind (wpS_modify (wpS_bind (wpS_get (wpS_pure ?_))))
  have hf:failedOf st'=none:=z.2.2.2.trans hB.failed
  show Q (failedOf st').isNone (setArr st' (wr (arrOf st') (sa + k) r.toList.zipIdx))
  rw [hf]
  exact fin r st' g z
 by_cases hc:na - k≤m
 ·rw [if_pos hc]
  exact wpS_bind (Co hB.kind (pf ik _ _) (pf ik _ _) ux uy (by omega) (by omega) (hfirst 0 (by omega)) hlast fun r st' g z=>endS r st' g z)
 ·rw [if_neg hc]
  exact wpS_bind (Cq hB.kind (pf ik _ _) (pf ik _ _) ux uy (by omega) (by omega) hfirst hlast fun r st' g z=>endS r st' g z)
end
end SR
namespace SR
open PySem PyProof.Rows
section
variable {prog:Program} {w:World} {A:Around} {E:Value→Shared→Prop} {s:Shared} {a0:Array Keyed}
structure Al (a0:Array Keyed) (y:Nat) (st:SortSt):Prop where
 bs:Bs a0 st
 ch:Ch (arrOf st) 0 (pendingOf st).toList y
theorem Ct {c:Prop} [Decidable c] {n:Nat} (h:2≤n):(if c then n - 2 - 1 else n - 2) + 1 < n:=by split <;> omega
theorem Cu {l:List (Nat × Nat × Nat)} {i:Nat} (h:i + 1 < l.length):∃ l1 sa na p sb nb q l2,l=l1 ++ (sa,na,p) :: (sb,nb,q) :: l2∧i=l1.length:=by
 refine ⟨l.take i,l[i].1,l[i].2.1,l[i].2.2,l[i + 1].1,l[i + 1].2.1,l[i + 1].2.2,l.drop (i + 2),?_,by rw [List.length_take]; omega⟩
 have e1:l.drop i=l[i] :: l.drop (i + 1):=List.drop_eq_getElem_cons (by omega)
 have e2:l.drop (i + 1)=l[i + 1] :: l.drop (i + 2):=List.drop_eq_getElem_cons h
 have e3:=List.take_append_drop i l
 rw [e1,e2] at e3
 exact e3.symm
theorem xH {st:SortSt} {i y:Nat} {Q:Bool→SortSt→Prop} (h0:IK a0) (h1:Al a0 y st) (hy:y≤a0.size) (hi:i + 1 < (pendingOf st).size)
  (h:∀ st',Al a0 y st'→(pendingOf st').size + 1=(pendingOf st).size→(∀ t,y≤t→K (arrOf st') t=K (arrOf st) t)→Q true st'):wpS (model prog w) A E s (mergeAt' i) Q st:=by
 rw [← Array.length_toList] at hi
 obtain ⟨l1,sa,na,p,sb,nb,q,l2,e,el⟩:=Cu hi
 refine Cs h0 h1.bs el e h1.ch hy fun st' b1 b2 b3 b4=>h st' ⟨b1,b3⟩ ?_ b4
 rw [← Array.length_toList,← Array.length_toList,b2,e]
 simp [Nat.add_assoc]
set_option maxHeartbeats 2000000 in
theorem Cv {st:SortSt} {Q:Unit→SortSt→Prop} (h0:IK a0) (hB:Bs a0 st) (hP:pendingOf st = #[]) (h2:1≤a0.size)
  (h:∀ st',(arrOf st').Perm a0→failedOf st'=none→Up (arrOf st') 0 a0.size→Q () st'):wpS (model prog w) A E s sortRuns' Q st:=by
 rw [sortRuns'_eq]
 refine wpS_bind (wpS_get ?_)
 dsimp only
 have hsz:(arrOf st).size=a0.size:=hB.perm.size_eq
 rw [hsz]
 generalize minRun' a0.size a0.size 0=mr
 refine wpS_bind (wpS_mono (wpS_forRange (I:=fun x c st'=>∃ lo,c=(none,lo)∧Al a0 lo st'∧lo≤a0.size∧(x≤lo ∨ lo=a0.size))
  (Q:=fun c st'=>c=(none,a0.size)∧Al a0 a0.size st') ?step ?fin ⟨0,rfl,⟨hB,by rw [hP]; exact rfl⟩,Nat.zero_le _,.inl (Nat.le_refl _)⟩) ?post)
 case fin=>
  rintro c st' ⟨lo,rfl,b1,b2,b3⟩
  have:lo=a0.size:=by omega
  subst this
  exact ⟨rfl,b1⟩
 case step=>
  rintro x c st' _ hx ⟨lo,rfl,b1,b2,b3⟩
  dsimp only
  by_cases g:lo ≥ a0.size
  ·rw [if_pos g]
   have:lo=a0.size:=by omega
   subst this
   exact wpS_pure ⟨rfl,b1⟩
  rw [if_neg g]
  have hSB:SB a0 (arrOf st') (pendingOf st') lo st':=⟨b1.bs.perm,b1.bs.kind,b1.bs.failed,rfl,fun _ _=>rfl⟩
  -- what follows when the run of n is there
  have nxt:∀ (n:Nat) (st2:SortSt),SB a0 (arrOf st') (pendingOf st') lo st2→1≤n→lo + n≤a0.size→Up (arrOf st2) lo (lo + n)→Al a0 lo st2:=fun n st2 c1 _ _ _=>
   ⟨⟨c1.perm,c1.kind,c1.failed⟩,by rw [c1.pend]; exact b1.ch.like fun t _ ht=>c1.low t ht⟩
  refine wpS_bind (Cr h0 (by omega) (by omega) hSB fun m st2 c1 m1 m2 u=>?_)
  dsimp only
  have last:∀ (n:Nat) (st2:SortSt),Al a0 lo st2→1≤n→lo + n≤a0.size→Up (arrOf st2) lo (lo + n)→Al a0 (lo + n) (setPending st2 ((pendingOf st2).push (lo,n,0))):=fun n st2 d1 d2 d3 d4=>by
   refine ⟨⟨d1.bs.perm,d1.bs.kind,d1.bs.failed⟩,?_⟩
   show Ch (arrOf st2) 0 ((pendingOf st2).push (lo,n,0)).toList (lo + n)
   rw [Array.toList_push]
   exact Ch.app.mpr ⟨lo,d1.ch,rfl,d2,d4,rfl⟩
  by_cases hm:m < mr
  all_goals first | rw [if_pos hm] | rw [if_neg hm]
  ·refine wpS_bind (wpS_lift (wpAny_rule ⟨rfl,?_⟩))
   refine wpS_bind (zU h0 (n:=min (a0.size - lo) mr) (by omega) c1 u (by omega) fun st3 d1 d2=>?_)
   simp only [Bool.not_true,Bool.false_eq_true,if_false]
   refine wpS_bind (wpS_get ?_)
   obtain ⟨n,hn⟩:∃ n,n=min (a0.size - lo) mr:=⟨_,rfl⟩
   rw [← hn] at d2 ⊢
   have n1:1≤n:=by omega
   have n2:lo + n≤a0.size:=by omega
   have al:=nxt n st3 d1 n1 n2 d2
   cases hb:(pendingOf st3).back? with
   | none=>
    dsimp only
    exact wpS_bind (wpS_modify (wpS_pure ⟨lo + n,rfl,last n st3 al n1 n2 d2,n2,by omega⟩))
   | some e=>
    obtain ⟨s1,n3,p3⟩:=e
    dsimp only
    generalize power' a0.size (2 * s1 + n3) (2 * s1 + n3 + n3 + n) a0.size=pw
    refine wpS_bind (wpS_mono (wpS_forRange (I:=fun y c st4=>c=(none,())∧Al a0 lo st4∧Up (arrOf st4) lo (lo + n))
     (Q:=fun c st4=>c=(none,())∧Al a0 lo st4∧Up (arrOf st4) lo (lo + n)) ?a (fun _ _ z=>z) ⟨rfl,al,d2⟩) ?b)
    case a=>
     rintro y c st4 _ _ ⟨rfl,e1,e2⟩
     refine wpS_bind (wpS_get ?_)
     by_cases hp:(pendingOf st4).size > 1
     ·rw [if_pos hp]
      have hg:(pendingOf st4)[(pendingOf st4).size - 2]?=some (pendingOf st4)[(pendingOf st4).size - 2]:=getElem?_pos _ _ (by omega)
      rw [hg]
      dsimp only
      split
      ·exact wpS_pure ⟨rfl,e1,e2⟩
      ·refine wpS_bind (xH h0 e1 (by omega) (by omega) fun st5 f1 _ f3=>?_)
       simp only [Bool.not_true,Bool.false_eq_true,if_false]
       refine wpS_pure ⟨rfl,f1,fun i j i1 i2 i3=>?_⟩
       rw [f3 i i1,f3 j (by omega)]
       exact e2 i j i1 i2 i3
     ·rw [if_neg hp]
      exact wpS_pure ⟨rfl,e1,e2⟩
    case b=>
     rintro c st4 ⟨rfl,e1,e2⟩
     dsimp only
     refine wpS_bind (wpS_modify (wpS_bind (wpS_modify (wpS_pure ⟨lo + n,rfl,last n _ ⟨⟨e1.bs.perm,e1.bs.kind,e1.bs.failed⟩,?_⟩ n1 n2 e2,n2,by omega⟩))))
     show Ch (arrOf st4) 0 ((pendingOf st4).modify ((pendingOf st4).size - 1) _).toList lo
     rw [Array.toList_modify]
     exact Ch.pow _ (fun s n p=>⟨_,rfl⟩) _ e1.ch
  ·refine wpS_bind (wpS_get ?_)
   have n2:lo + m≤a0.size:=by omega
   have al:=nxt m st2 c1 m1 n2 u
   cases hb:(pendingOf st2).back? with
   | none=>
    dsimp only
    exact wpS_bind (wpS_modify (wpS_pure ⟨lo + m,rfl,last m st2 al m1 n2 u,n2,by omega⟩))
   | some e=>
    obtain ⟨s1,n3,p3⟩:=e
    dsimp only
    generalize power' a0.size (2 * s1 + n3) (2 * s1 + n3 + n3 + m) a0.size=pw
    refine wpS_bind (wpS_mono (wpS_forRange (I:=fun y c st4=>c=(none,())∧Al a0 lo st4∧Up (arrOf st4) lo (lo + m))
     (Q:=fun c st4=>c=(none,())∧Al a0 lo st4∧Up (arrOf st4) lo (lo + m)) ?a (fun _ _ z=>z) ⟨rfl,al,u⟩) ?b)
    case a=>
     rintro y c st4 _ _ ⟨rfl,e1,e2⟩
     refine wpS_bind (wpS_get ?_)
     by_cases hp:(pendingOf st4).size > 1
     ·rw [if_pos hp]
      have hg:(pendingOf st4)[(pendingOf st4).size - 2]?=some (pendingOf st4)[(pendingOf st4).size - 2]:=getElem?_pos _ _ (by omega)
      rw [hg]
      dsimp only
      split
      ·exact wpS_pure ⟨rfl,e1,e2⟩
      ·refine wpS_bind (xH h0 e1 (by omega) (by omega) fun st5 f1 _ f3=>?_)
       simp only [Bool.not_true,Bool.false_eq_true,if_false]
       refine wpS_pure ⟨rfl,f1,fun i j i1 i2 i3=>?_⟩
       rw [f3 i i1,f3 j (by omega)]
       exact e2 i j i1 i2 i3
     ·rw [if_neg hp]
      exact wpS_pure ⟨rfl,e1,e2⟩
    case b=>
     rintro c st4 ⟨rfl,e1,e2⟩
     dsimp only
     refine wpS_bind (wpS_modify (wpS_bind (wpS_modify (wpS_pure ⟨lo + m,rfl,last m _ ⟨⟨e1.bs.perm,e1.bs.kind,e1.bs.failed⟩,?_⟩ m1 n2 e2,n2,by omega⟩))))
     show Ch (arrOf st4) 0 ((pendingOf st4).modify ((pendingOf st4).size - 1) _).toList lo
     rw [Array.toList_modify]
     exact Ch.pow _ (fun s n p=>⟨_,rfl⟩) _ e1.ch
 case post=>
  rintro c st' ⟨rfl,b1⟩
  dsimp only
  have hp0:(pendingOf st').size≤a0.size:=by have:=b1.ch.le; rw [Array.length_toList] at this; omega
  refine wpS_bind (wpS_mono (wpS_forRange (I:=fun x c st2=>c=(none,())∧Al a0 a0.size st2∧((pendingOf st2).size + x≤a0.size ∨ (pendingOf st2).size≤1))
   (Q:=fun c st2=>c=(none,())∧Al a0 a0.size st2∧(pendingOf st2).size≤1) ?a ?b ⟨rfl,b1,.inl (by omega)⟩) ?c)
  case b=>
   rintro c st2 ⟨hc,d1,d2⟩
   exact ⟨hc,d1,by omega⟩
  case a=>
   rintro x c st2 _ hx ⟨rfl,d1,d2⟩
   refine wpS_bind (wpS_get ?_)
   by_cases hs:(pendingOf st2).size≤1
   ·rw [if_pos hs]
    exact wpS_pure ⟨rfl,d1,hs⟩
   rw [if_neg hs]
   refine wpS_bind (xH h0 d1 (Nat.le_refl _) (Ct (by omega)) fun st5 f1 f2 _=>?_)
   simp only [Bool.not_true,Bool.false_eq_true,if_false]
   exact wpS_pure ⟨rfl,f1,by omega⟩
  case c=>
   rintro c st2 ⟨rfl,d1,d2⟩
   refine wpS_pure (h st2 d1.bs.perm d1.bs.failed ?_)
   have hc:=d1.ch
   rw [← Array.length_toList] at d2
   match hl:(pendingOf st2).toList with
   | []=>rw [hl] at hc; unfold Ch at hc; omega
   | [(z,n,p)]=>
    rw [hl] at hc
    obtain ⟨e1,e2,e3,e4⟩:=hc
    unfold Ch at e4
    rw [Nat.zero_add] at e3 e4
    subst e4
    exact e3
   | _ :: _ :: _=>rw [hl] at d2; simp at d2
end
end SR
namespace SR
open PySem PyProof.Rows
section
variable {prog:Program} {w:World} {A:Around} {E:Value→Shared→Prop} {s:Shared}
theorem ups {xs:Array Keyed} {n:Nat} (h:Up xs 0 n):SortedTo xs n:=fun i j i1 i2=>h i j (Nat.zero_le _) i1 i2
theorem xI {a:Addr} {vs:List Value} {ns:List Int} {n:Nat} {P:Fin→Shared→Prop} (ho:s.heap.get? a=some (seqObj "list" vs.toArray n)) (hI:IntsAre vs ns) (hz:vs.length≤sizeLine)
  (h:∀ (out:Array Value) (ns':List Int),IntsAre out.toList ns'→ns'.Perm ns→ns'.Pairwise (· ≤ ·)→P (.done (.ret .none)) { s with heap:=sortedHeap s.heap a vs out }):wpAny (model prog w) A (Builtin.«list.sort» ⟨[.ref a],[]⟩) P E s:=by
 by_cases h64:vs.length < 64
 ·exact list_sort_tree ho hI h64 h
 rw [list_sort_plain]
 have lt:=Heap.lt_size ho
 refine wpAny_bind (listItems_at ho rfl (wpAny_bind (listUpdate_at ho rfl ?_ (hsz:=by simpa using hz) (hsz2:=by simp))))
 obtain ⟨ep,g1⟩:∃ ep,(s.heap.update a (Obj.mapSeq fun _=>#[])).get? a=some (seqObj "list" #[] ep):=⟨_,get?_update_seq ho (fun _=>#[])⟩
 refine wpAny_bind (seqEpoch_at g1 rfl (wpAny_bind (wpAny_newTuple (wpAny_bind (wpAny_newList (wpAny_holding ?_))) (by simpa using hz))))
 have g2:(((s.heap.update a (Obj.mapSeq fun _=>#[])).push (seqObj "tuple" vs.toArray 0)).push (seqObj "list" #[] 0)).get? a=some (seqObj "list" #[] ep):=by
  have z1:(s.heap.update a (Obj.mapSeq fun _=>#[])).objs.size=s.heap.objs.size:=Heap.size_update ..
  rw [Heap.get?_push_ne _ _ _ (by rw [size_push',z1]; exact Nat.ne_of_lt (Nat.lt_succ_of_lt lt)),Heap.get?_push_ne _ _ _ (by rw [z1]; exact Nat.ne_of_lt lt),g1]
 have big:¬ vs.toArray.size < 2:=by simp; omega
 dsimp only
 rw [if_neg big,if_neg big]
 match vs,hI,hz,h64 with
 | [],_,_,h64=>exact absurd (by decide) h64
 | [_],_,_,h64=>exact absurd (by simp) h64
 | v1 :: v2 :: vs,hI,hz,h64=>
  rw [keyKind_ints hI]
  refine wpAny_bind (wpAny_pure (wpAny_bind (wpAny_mono (Cv (a0:=pairsOf (v1 :: v2 :: vs)) (st:=SortSt.mk' oneType' ((v1 :: v2 :: vs).toArray.zip (v1 :: v2 :: vs).toArray) #[] 7 none)
   (Q:=fun _ st'=>(arrOf st').Perm (pairsOf (v1 :: v2 :: vs))∧failedOf st'=none∧SortedTo (arrOf st') (pairsOf (v1 :: v2 :: vs)).size)
   hI.intKeys ⟨Array.Perm.refl _,rfl,rfl⟩ rfl (by rw [pairsOf_size]; simp) fun st' b1 b2 b3=>⟨b1,b2,ups b3⟩) ?_ fun _ _ e=>e)))
  rintro ⟨⟨⟩,st'⟩ s' ⟨rfl,b1,b2,b3⟩
  have hsz:((arrOf st').map (·.2)).size=(v1 :: v2 :: vs).length:=(Array.size_map ..).trans (b1.size_eq.trans (pairsOf_size _))
  obtain ⟨ns',c1,c2,c3⟩:=sorted_out hI b1 b3
  refine wpAny_bind (seqEpoch_at g2 rfl (wpAny_bind (listUpdate_at g2 rfl ?_ (hsz:=by simp) (hsz2:=by rw [hsz]; omega))))
  rw [b2]
  simp only [bne_self_eq_false,Bool.false_eq_true,if_false]
  exact wpAny_pure (h _ ns' c1 c2 c3)
end
end SR
namespace SQ
open PySem PySem.Spec PyProof.Rows
section
variable {prog:Program} {w:World} {A:Around} {E:Value→Shared→Prop} {s:Shared}
theorem mU {h:Heap} {a:Addr} {vs:List Value} {n:Nat} {out:Array Value} (ho:h.get? a=some (seqObj "list" vs.toArray n)):(∃ n',(sortedHeap h a vs out).get? a=some (seqObj "list" out n'))∧∀ b o,b ≠ a→h.get? b=some o→(sortedHeap h a vs out).get? b=some o:=by
 unfold sortedHeap
 obtain ⟨k,g⟩:∃ k,(h.update a (Obj.mapSeq fun _=>#[])).get? a=some (seqObj "list" #[] k):=⟨_,get?_update_seq ho _⟩
 refine ⟨⟨_,get?_update_seq (Heap.get?_push_of_some _ (Heap.get?_push_of_some _ g)) _⟩,fun b o hb e=>?_⟩
 exact ((Heap.SameBut.update ..).2 b hb).trans (Heap.get?_push_of_some _ (Heap.get?_push_of_some _ (((Heap.SameBut.update ..).2 b hb).trans e)))
theorem j9 {s:Shared} {vs:List Value} {ns:List Int} {Q:Value→Shared→Prop} (hI:IntsAre vs ns) (hz:vs.length≤sizeLine)
  (h:∀ (h':Heap) (out:Array Value) (ns':List Int) (n:Nat),(∀ b o,s.heap.get? b=some o→h'.get? b=some o)→h'.get? s.heap.objs.size=some (seqObj "list" out n)→IntsAre out.toList ns'→ns'.Perm ns→ns'.Pairwise (· ≤ ·)→Q (.ref s.heap.objs.size) { s with heap:=h' }):
  wpAny (model prog w) A (do
   let l ← newList vs
   let _ ← holding [l] (call (.builtin "list.sort") [l] [])
   ret l) (fun fin s'=>∃ v,fin=.done (.ret v)∧Q v s') E s:=by
 refine wpAny_bind (wpAny_newList ?_ hz)
 have g:(s.heap.push (seqObj "list" vs.toArray 0)).get? s.heap.objs.size=some (seqObj "list" vs.toArray 0):=Heap.get?_push_size _ rfl
 refine wpAny_bind (wpAny_holding (wpAny_call_entry slot_list_sort ⟨_,g,rfl⟩ entry_list_sort (SR.xI g hI hz fun out ns' a1 a2 a3=>⟨_,rfl,?_⟩) (args_list_sort _)))
 obtain ⟨⟨n,g1⟩,g2⟩:=mU (out:=out) g
 exact wpAny_pure ⟨_,rfl,h _ out ns' n (fun b o e=>g2 b o (Nat.ne_of_lt (Heap.lt_size e)) (Heap.get?_push_of_some _ e)) g1 a1 a2 a3⟩
theorem sorted_seq {k:Bool} {l:Addr} {vs:List Value} {ns:List Int} {Q:Value→Shared→Prop} (hl:Is k s.heap l vs.toArray) (hI:IntsAre vs ns) (hz:vs.length≤sizeLine)
  (h:∀ (a:Addr) (h':Heap) (out:Array Value) (ns':List Int) (n:Nat),s.heap.objs.size≤a→(∀ b o,s.heap.get? b=some o→h'.get? b=some o)→h'.get? a=some (seqObj "list" out n)→IntsAre out.toList ns'→ns'.Perm ns→ns'.Pairwise (· ≤ ·)→Q (.ref a) { s with heap:=h' }):
  wpAny (model prog w) A (call (.builtin "sorted") [.ref l]) Q E s:=by
 refine Calls.call_function_entry kind_sorted plain_sorted entry_sorted (args_sorted1 _) ?_
 unfold Builtin.«sorted»
 refine wpAny_bind (m:=checkCount "sorted" 1 1 _) (wpAny_pure ?_)
 refine wpAny_bind (collects hl ?_ hz)
 have kp:∀ b o,s.heap.get? b=some o→((s.heap.push (seqObj "list" #[] 0)).update s.heap.objs.size (Obj.mapSeq (· ++ vs.toArray))).get? b=some o:=fun b o e=>
  ((Heap.SameBut.update ..).2 b (Nat.ne_of_lt (Heap.lt_size e))).trans (Heap.get?_push_of_some _ e)
 refine j9 (s:={ s with heap:=(s.heap.push (seqObj "list" #[] 0)).update s.heap.objs.size (Obj.mapSeq (· ++ vs.toArray)) }) hI hz fun h' out ns' n k1 k2 a1 a2 a3=>h _ h' out ns' n ?_ (fun b o e=>k1 b o (kp b o e)) k2 a1 a2 a3
 show s.heap.objs.size≤((s.heap.push (seqObj "list" #[] 0)).update s.heap.objs.size (Obj.mapSeq (· ++ vs.toArray))).objs.size
 rw [Heap.size_update,size_push']; exact Nat.le_succ _
theorem sorted_src {T:String} {r d:Addr} {n:Nat} {P:Nat→Value→Prop} {OK:Heap→Prop} {ns:List Int} {Q:Value→Shared→Prop} (K:PySem.W.KdlSrc prog w T r d n P OK) (hh:A.handled=none) (hok:OK s.heap) (hn:n≤sizeLine)
  (hI:∀ vs:List Value,vs.length=n→(∀ j v,vs[j]?=some v→P j v)→IntsAre vs ns)
  (h:∀ (h1:Heap) (tk:Nat),(∀ b o,s.heap.get? b=some o→h1.get? b=some o)→∀ (h2:Heap) (out:Array Value) (ns':List Int) (n:Nat),(∀ b o,h1.get? b=some o→h2.get? b=some o)→h2.get? h1.objs.size=some (seqObj "list" out n)→IntsAre out.toList ns'→ns'.Perm ns→ns'.Pairwise (· ≤ ·)→Q (.ref h1.objs.size) { s with heap:=h2,toks:=tk }):
  wpAny (model prog w) A (call (.builtin "sorted") [.ref r]) Q E s:=by
 refine Calls.call_function_entry kind_sorted plain_sorted entry_sorted (args_sorted1 _) ?_
 unfold Builtin.«sorted»
 refine wpAny_bind (m:=checkCount "sorted" 1 1 _) (wpAny_pure ?_)
 refine wpAny_bind (PySem.W.kdu_collect (A:=A.in1) K hh hok hn fun h' tk acc hk hacc=>?_)
 have hl:acc.toList.length=n:=by rw [Array.length_toList]; exact hacc.1
 have hi:=hI acc.toList hl fun j v e=>hacc.2 j v (by rw [← Array.getElem?_toList]; exact e)
 refine j9 (s:={ s with heap:=h',toks:=tk }) hi (by omega) fun h2 out ns' n k1 k2 a1 a2 a3=>h h' tk hk h2 out ns' n k1 k2 a1 a2 a3
end
end SQ
namespace PD
open PySem PySem.Spec PyProof.Rows L2
def gj:List (KD × D)→Option (List Int)
 | []=>some []
 | (.inl i,_) :: r=>(gj r).map (i :: ·)
 | _=>none
def lM (S:Sto) (d:D):Option (List Int):=match dm S d with
 | some a=>intsOf a
 | none=>match dq S d with
  | some kvs=>gj kvs
  | none=>none
def kn:Sto→List D→Option D
 | S,[d]=>match lM S d with
  | some ns=>if ns.length≤sizeLine then some (.lst ((dw ns).map .int)) else none
  | none=>none
 | _,_=>none
section
variable {X:Cx} {E:XK}
theorem nP:∀ {kvs:List (KD × D)} {ns:List Int},gj kvs=some ns→ns.length=kvs.length
 | [],_,h=>by unfold gj at h; cases h; rfl
 | (.inl i,_) :: r,ns,h=>by
  unfold gj at h
  cases e:gj r with
  | none=>rw [e] at h; cases h
  | some m=>rw [e] at h; cases h; simp [nP e]
 | (.inr i,_) :: r,ns,h=>by unfold gj at h; cases h
theorem q4:∀ {kvs:List (KD × D)} {ns:List Int},gj kvs=some ns→∀ (j:Nat) (k:KD) (d:D),kvs[j]?=some (k,d)→∃ i,ns[j]?=some i∧k=.inl i
 | [],_,h,j,k,d,e=>by simp at e
 | (.inl i,x) :: r,ns,h,j,k,d,e=>by
  unfold gj at h
  cases e':gj r with
  | none=>rw [e'] at h; cases h
  | some m=>
   rw [e'] at h; cases h
   cases j with
   | zero=>simp at e; exact ⟨i,rfl,e.1.symm⟩
   | succ j=>exact q4 e' j k d (by simpa using e)
 | (.inr i,_) :: r,ns,h,j,k,d,e=>by unfold gj at h; cases h
theorem lN:∀ (vs:List Value) (ns:List Int),vs.length=ns.length→(∀ (j:Nat) (v:Value),vs[j]?=some v→∃ i t,ns[j]?=some i∧v=.int i t)→IntsAre vs ns
 | [],[],_,_=>.nil
 | v :: vs,n :: ns,hl,h=>by
  obtain ⟨i,t,e,rfl⟩:=h 0 v rfl
  cases e
  exact .cons _ _ (lN vs ns (by simpa using hl) fun j v e=>h (j + 1) v (by simpa using e))
 | [],_ :: _,hl,_=>by simp at hl
 | _ :: _,[],hl,_=>by simp at hl
theorem RDk.at {K:PySem.W.Frag} {w:Wd} {H:Hp}:∀ {ds:List (KD × D)} {us:List (Key × V)},RDk K w H ds us→∀ (j:Nat) (k:Key) (v:V),us[j]?=some (k,v)→∃ d,ds[j]?=some (k,d)
 | [],_,h,j,k,v,e=>by rw [h.nil_inv] at e; simp at e
 | (k0,d) :: ds,_,h,j,k,v,e=>by
  obtain ⟨v0,r,rfl,_,t⟩:=h.cons_inv
  cases j with
  | zero=>simp at e; exact ⟨d,by simp [e.1]⟩
  | succ j=>exact t.at j k v (by simpa using e)
theorem sY (hc:X.calm=true):cI X (.builtin "sorted") (xC X.K E kn):=by
 rintro pins s σ H xs us Q I r ⟨w,S,ds,hS,qs,p⟩
 obtain ⟨z,hz,p'⟩:=p.of
 clear p
 unfold kn at hz
 split at hz
 ·rename_i d
  obtain ⟨v,rfl,q⟩:=qs.one_inv
  split at hz
  ·rename_i ns hns
   split at hz
   ·rename_i hlt
    cases hz
    -- the list that comes
    have last:∀ (s1:Shared) (a:Addr) (h2:Heap) (tk:Nat) (out:Array Value) (ns':List Int) (n:Nat),Inv X pins σ H s1→s1.heap.objs.size≤a→(∀ b o,s1.heap.get? b=some o→h2.get? b=some o)→h2.get? a=some (seqObj "list" out n)→IntsAre out.toList ns'→ns'.Perm ns→ns'.Pairwise (· ≤ ·)→EP X pins σ Q (.ref a) { s1 with heap:=h2,toks:=tk }:=fun s1 a h2 tk out ns' n I1 la k1 k2 a1 a2 a3=>by
     have en:ns'=dw ns:=hU (a2.trans (dC ns).symm) a3 (cZ ns)
     subst en
     have hf:H a=none:=I1.hok.fresh la
     have hz:((dw ns).map V.int).length≤sizeLine:=by rw [List.length_map,(dC ns).length_eq]; exact hlt
     refine ⟨.ref a,_,I1.laid (t':=tk) (a:=a) (o:=.lst ((dw ns).map V.int)) k1 la ⟨hz,out.toList,n,uH a1,by rw [Array.toArray_toList]; exact k2⟩,rfl,?_⟩
     exact p'.at (Ext.new hf) (RD.newLst hS hf (qR _)) (hS.new hf)
    unfold lM at hns
    split at hns
    ·rename_i a ha
     obtain ⟨pa,vs,rfl,sq,ra⟩:=sL hS q ha
     obtain ⟨u,rfl,rx⟩:=vals1 r
     cases rx
     have main:∀ (k:Bool) (its:List Value),Vals vs its→SQ.Is k s.heap pa its.toArray→wpAny (model X.prog X.w) X.A (call (.builtin "sorted") [.ref pa]) (EP X pins σ Q) X.xe s:=fun k its rv pl=>by
      have hI:=jl ra rv hns
      have hl:its.length=ns.length:=hI.length
      exact SQ.sorted_seq pl hI (by omega) fun a h' out ns' n la k1 k2 a1 a2 a3=>last s a h' s.toks out ns' n I la k1 k2 a1 a2 a3
     rcases sq with hq | hq
     ·obtain ⟨its,r',pl,hz⟩:=I.list hq
      exact main false its r' pl.isList
     ·obtain ⟨its,r',pl,hz⟩:=I.tuple hq
      exact main true its r' pl
    ·split at hns
     ·rename_i kvs hd
      obtain ⟨pp,us',rfl,rd,rk⟩:=gC hS q hd
      obtain ⟨u,rfl,rx⟩:=vals1 r
      cases rx
      obtain ⟨hl,hm,vs,rel,dd⟩:=je I.hok rd
      obtain ⟨ep,hat⟩:=dd.dictAt
      have e1:=rel.length
      have e2:=rk.length
      have e3:=nP hns
      refine SQ.sorted_src (ns:=ns) (PySem.W.kdl_dict (knd:=aX X.prog X.w) (kvs:=vs) (ep:=ep) hm) (I.ok.hd hc) hat (by omega) (fun ws hw hv=>?_) fun h1 tk hk h2 out ns' n k1 k2 a1 a2 a3=>?_
      ·refine lN ws ns (by omega) fun j u hu=>?_
       obtain ⟨k,x,hx,hkey⟩:=hv j u hu
       obtain ⟨y,hy⟩:∃ y,us'[j]?=some (k,y):=by
        have e:=congrArg (fun l:List Key=>l[j]?) rel.keys
        simp only [List.getElem?_map,hx,Option.map_some] at e
        cases hu':us'[j]? with
        | none=>rw [hu'] at e; cases e
        | some q=>rw [hu'] at e; cases e; exact ⟨q.2,rfl⟩
       obtain ⟨d',hd'⟩:=rk.at j k y hy
       obtain ⟨i,hi,rfl⟩:=q4 hns j k d' hd'
       have:=lI hkey
       obtain ⟨t,rfl⟩:∃ t,u=.int i t:=this
       exact ⟨i,t,hi,rfl⟩
      ·exact last { s with heap:=h1,toks:=tk } _ h2 tk out ns' n (I.kept (t':=tk) hk) (Nat.le_refl _) k1 k2 a1 a2 a3
     ·cases hns
   ·cases hz
  ·cases hz
 ·cases hz
end
end PD
namespace PD
open PySem PySem.Spec PyProof.Rows L2
section
variable {prog:Program} {w:World} {A:Around} {R:Result→Shared→Prop} {I:Addr} {fp wr:List Addr} {n:Nat} {P:Nat→Value→Prop} {St:Nat→Heap→Prop} {h0:Heap} {bt:Nat→Nat→Bool} {S:Addr} {kw:List (Str × Value)}
end
section
variable {prog:Program} {w:World} {A:Around} {E:Value→Shared→Prop} {s:Shared}
end
section
variable {X:Cx} {E:XK}
end
end PD
namespace L2
open PySem PySem.Spec PyProof.Rows
theorem Inv.freezeL {X:Cx} {pins:List (Addr × Obj)} {σ:St} {H:Hp} {s:Shared} {a:Addr} {vs:List V} (I:Inv X pins σ H s) (h:H a=some (.lst vs)):∃ o,Inv X pins σ (upd H a (.frz o (.lst vs))) s:=by
 obtain ⟨z,its,n,r,e⟩:bF X.prog X.w H s.heap a (.lst vs):=I.hok a _ h
 have I2:Inv X pins σ (upd H a (.frz _ (.lst vs))) { s with heap:=s.heap,toks:=s.toks }:=I.write (x:=a) (e:=a) (by rw [h]; exact True.intro) (.inl rfl) (fun b u _ q=>q) ⟨_,e⟩ ⟨e,z,its,n,r,e⟩
 exact ⟨_,I2⟩
section
variable {X:Cx} {tg:Expr}
def En (K:PySem.W.Frag) (td:TE):TI:=fun σ H R=>td σ H fun x H1=>∃ a vs,x=.ref a∧((H1 a=some (.lst vs)∧∀ o,R (Itl K a) (upd H1 a (.frz o (.lst vs)))) ∨ ∃ o,H1 a=some (.frz o (.lst vs))∧R (Itl K a) H1)
theorem Cw {d:Expr} {td:TE} (hd:PE X d td):PI X tg d (En X.K td):=by
 intro pins s σ H R I h
 refine thn (hd pins s σ H _ I h) fun u s1 zq=>?_
 obtain ⟨x,H1,I1,rx,a,vs,ex,q1⟩:=zq
 subst ex
 obtain rfl:u=Value.ref a:=rx
 have main:∀ (H2:Hp) (o:Obj),Inv X pins σ H2 s1→H2 a=some (.frz o (.lst vs))→R (Itl X.K a) H2→wpAny (model X.prog X.w) X.A (pyIter (.ref a)) (PIE X pins σ tg R) X.xe s1:=fun H2 o I2 hH2 q=>by
  obtain ⟨its,rv,p,hz⟩:=I2.list (xs:=vs) (.inl (.inr ⟨o,hH2⟩))
  refine wpAny_pyIter_list p.isList ?_
  refine ⟨s1.heap.objs.size,[s1.heap.objs.size],_,_,H2,rfl,I2.kept (t':=s1.toks) fun b o e=>Heap.get?_push_of_some _ e,m8 a _,⟨_,Heap.get?_push_size _ rfl,rfl,rfl⟩,fun b hb=>?_,q⟩
  have e:b=s1.heap.objs.size:=by simpa using hb
  subst e
  exact I2.fpOk (Nat.le_refl _) (I2.hok.fresh (Nat.le_refl _))
 rcases q1 with ⟨hH,q⟩ | ⟨o,hH,q⟩
 ·obtain ⟨o,I2⟩:=I1.freezeL hH
  exact main _ o I2 aI (q o)
 ·exact main _ o I1 hH q
end
end L2
namespace PD
open PySem PySem.Spec PyProof.Rows L2
def xJ (m:EM):AM:=fun r S=>(m r S).bind fun d S1=>match d with
 | .ref n=>match S1[n]? with
  | some (.lst xs)=>.ok xs (S1.set n (.flst xs))
  | some (.flst xs)=>.ok xs S1
  | _=>.bad
 | _=>.bad
theorem xK {K:PySem.W.Frag} {w:Wd} {H:Hp} {a:Addr} {o:Obj} {ds:List D} {vs:List V} (hst:∀ w' H',Ext w H w' H'→H' a=some (.frz o (.lst vs))) (q:RDs K w H ds vs):RI K w H ds (Itl K a):=by
 intro i w' H' x'
 have q':=RDs.ext x' _ _ q
 have sq:SqL K H' a vs:=.inl (.inr ⟨o,hst w' H' x'⟩)
 refine ⟨fun hi=>⟨⟨vs,vs[i]'(by rw [q.length]; exact hi),sq,List.getElem?_eq_getElem _⟩,fun x H'' y=>?_⟩,fun hi=>⟨vs,sq,by rw [q.length]; exact hi⟩⟩
 obtain ⟨rfl,y⟩:=y
 refine ⟨.inl rfl,fun S _=>⟨ds[i],List.getElem?_eq_getElem hi,?_⟩⟩
 obtain ⟨v,e,rv⟩:=q'.get (List.getElem?_eq_getElem hi)
 rw [y vs sq] at e
 cases e
 exact rv
section
variable {X:Cx} {E:XK}
theorem Cy {tg:Expr} {d:Expr} {md:EM} (ha:SE X E d md):SI X E tg d (xJ md):=⟨
 gy (Cw ha.out) fun s H Q zq=>ex6 zq fun w r S hr hS hp=>⟨w,r,S,hr,hS,hp.bind hS fun d S1 w1 H1 v x1 q1 s1 p1=>by
  cases d with
  | ref m=>
   obtain ⟨pp,rfl,hp⟩:=q1.refI
   have hm:pp ∈ w1.st:=List.mem_of_getElem? hp
   cases e:S1[m]? with
   | none=>simp only [e] at p1; exact p1.elim
   | some ob=>
    obtain ⟨p',hp',ro⟩:=s1.obj _ _ e
    rw [hp] at hp'; cases hp'
    cases ob with
    | lst xs=>
     simp only [e] at p1
     obtain ⟨vs,hv,rk⟩:=ro
     refine ⟨pp,vs,rfl,.inl ⟨hv,fun o=>?_⟩⟩
     have rk':=RDs.ext (Ext.mut hm hv (o:=.frz o (.lst vs))) _ _ rk
     exact aH.at p1 (Ext.mut hm hv) (xK (fun w' H' x'=>x'.frz _ _ _ aI) rk') (s1.mut hp hv ⟨o,vs,aI,rk'⟩)
    | flst xs=>
     simp only [e] at p1
     obtain ⟨o,vs,hv,rk⟩:=ro
     exact ⟨pp,vs,rfl,.inr ⟨o,hv,aH.ret p1 (xK (fun w' H' x'=>x'.frz _ _ _ hv) rk) s1⟩⟩
    | dic xs=>simp only [e] at p1; exact p1.elim
    | fdic xs=>simp only [e] at p1; exact p1.elim
    | ins c fs=>simp only [e] at p1; exact p1.elim
  | _=>exact p1.elim⟩⟩
end
end PD
namespace PD
open PySem PySem.Spec PyProof.Rows L2
section
variable {X:Cx} {E:XK}
end
end PD
namespace PD
open PySem PySem.Spec PyProof.Rows L2
section
variable {X:Cx} {E:XK} {a:Expr} {ma:EM}
end
end PD
namespace PySem
open PyProof.Rows
namespace F
end F
section
variable {prog:Program} {w:World} {A:Around} {E:Value→Shared→Prop} {s:Shared}
open AutoSeq1 (wpAny_loadPart')
end
end PySem
namespace L2
open PySem PySem.Spec PyProof.Rows
section
variable {X:Cx}
end
end L2
namespace PD
open PySem PySem.Spec PyProof.Rows L2
section
variable {X:Cx} {E:XK} {a:Expr}
end
end PD
namespace L2
open PySem PySem.Spec PyProof.Rows
section
variable {X:Cx}
end
end L2
namespace PD
open PySem PySem.Spec PyProof.Rows L2
section
variable {X:Cx} {E:XK}
end
end PD
namespace PySem
section
variable {M:Model} {A:Around} {E:Value→Shared→Prop} {s:Shared} {env:Env}
end
end PySem
namespace L2
open PySem PySem.Spec PyProof.Rows
section
variable {X:Cx} {pins:List (Addr × Obj)} {σ:St} {H:Hp} {s:Shared}
end
end L2
namespace PD
open PySem PySem.Spec PyProof.Rows L2
section
variable {X:Cx} {E:XK}
end
end PD
namespace PD
open PySem PySem.Spec PyProof.Rows L2
section
variable {X:Cx} {E:XK}
end
end PD
namespace PD
open PySem PySem.Spec PyProof.Rows L2
section
variable {prog:Program} {w:World} {A:Around} {Ex:Value→Shared→Prop} {s:Shared}
end
section
variable {X:Cx} {E:XK}
end
end PD
namespace L2
open PySem PySem.Spec PyProof.Rows
abbrev xN (n:Nat):List V:=(List.range n).map fun (i:Nat)=>V.int i
theorem uR:∀ (l:List Value) (k:Nat),(∀ i v,l[i]?=some v→∃ t,v=Value.int ((k + i:Nat):Int) t)→Vals ((List.range' k l.length).map fun (i:Nat)=>V.int i) l
 | [],k,_=>.nil
 | v :: l,k,h=>by
  have h0:=h 0 v rfl
  have ih:=uR l (k + 1) fun i u e=>by
   obtain ⟨t,z⟩:=h (i + 1) u e
   exact ⟨t,by rw [z]; congr 1; omega⟩
  exact .cons h0 ih
section
variable {X:Cx}
def Eo (ta:TA):TE:=fun σ H Q=>ta σ H fun vs H1=>∃ j:Int,vs=[.int j]∧-100000≤j∧j≤100000∧∀ q,H1 q=none→Q (.ref q) (upd H1 q (.lst (xN j.toNat)))
theorem xP {a : Expr} {ta : TA} {p0 p1 pos0 pos1 : Pos} (hc : X.calm = true) (hg0 : Gl X "list") (hm0 : X.mg "list" = none) (hg : Gl X "range") (hm : X.mg "range" = none) (ha : PA X [a] ta) (hs : starEach [a] X.env = [(false, eval a X.env)])
    (hs0 : starEach [.Call (.Name "range" p1) [a] [] pos1] X.env = [(false, eval (.Call (.Name "range" p1) [a] [] pos1) X.env)]) : PE X (.Call (.Name "list" p0) [.Call (.Name "range" p1) [a] [] pos1] [] pos0) (Eo ta) := by
  intro pins s σ H Q I h
  refine Call_ (iS I hg0 hm0 boot_list (PyProof.Rows.callWith_type1 ?_ hs0 rfl))
  rw [hs0]
  show wpAny _ _ (spliced ((false, eval (.Call (.Name "range" p1) [a] [] pos1) X.env) :: backTo pos0 [])) _ _ s
  refine Calls.spliced_cons (Call_ (iS I hg hm boot_range (PyProof.Rows.callWith_type1 (thn (ha pos1 pins s σ H _ I h) fun us s1 hv => ?_) hs rfl)))
  obtain ⟨vs, H1, I1, r1, j, rfl, j0, j1, q⟩ := hv
  obtain ⟨u, rfl, t, rfl⟩ := vals1 r1
  refine call_range_1 ?_
  refine Calls.spliced_nil ?_
  have hz : j.toNat ≤ 2 ^ 24 := by have : (100000 : Nat) ≤ 2 ^ 24 := by decide
                                   omega
  have hz2 : j.toNat ≤ sizeLine := by have : (100000 : Nat) ≤ sizeLine := by decide
                                      omega
  refine call_list_range (n := j.toNat) (I1.ok.hd hc) (IsRange.new ..) (small_one (by omega) (by omega) (by omega) (by omega)) (by rw [rangeSize_one]; split <;> omega) hz fun h' tk acc c' hk hS hacc => ?_
  have I2 := I1.kept (h' := s1.heap.push { cls := .type "range", data := .fields #[.int 0 s1.toks, .int j t, .int 1 (s1.toks + 1)] }) (t' := s1.toks + 1 + 1) fun b o e => Heap.get?_push_of_some _ e
  have rv : Vals (xN j.toNat) acc.toList := by
    have z := uR acc.toList 0 fun i v e => by
      obtain ⟨t, z⟩ := hacc.2 i v (by rw [← Array.getElem?_toList]; exact e)
      exact ⟨t, by rw [z]; congr 1; omega⟩
    rw [Array.length_toList, hacc.1, ← List.range_eq_range'] at z
    exact z
  refine ⟨.ref _, _, I2.laid (t' := tk) hk (Nat.le_refl _) (show bF X.prog X.w _ h' _ (.lst (xN j.toNat)) from ⟨by rw [List.length_map, List.length_range]; exact hz2, acc.toList, c', rv, hS⟩), rfl, q _ (I2.hok.fresh (Nat.le_refl _))⟩
end
end L2
namespace PD
open PySem PySem.Spec PyProof.Rows L2
abbrev ju (n:Nat):List D:=(List.range n).map fun (i:Nat)=>D.int i
theorem lO {K:PySem.W.Frag} {w:Wd} {H:Hp}:∀ (l:List Nat),RDs K w H (l.map fun (i:Nat)=>D.int i) (l.map fun (i:Nat)=>V.int i)
 | []=>.nil
 | i :: l=>.cons RD.mkI (lO l)
def zX:Sto→List D→Option D
 | _,[.int j]=>if -100000≤j∧j≤100000 then some (.lst (ju j.toNat)) else none
 | _,_=>none
def uU:Sto→List D→R D
 | S,[.int j]=>if -100000≤j∧j≤100000 then .ok (.ref S.length) (S ++ [.lst (ju j.toNat)]) else .bad
 | _,_=>.bad
section
variable {X:Cx} {E:XK} {a:Expr}
theorem Cz {ms:AM} {p0 p1 pos0 pos1:Pos} (hc:X.calm=true) (hg0:Gl X "list") (hm0:X.mg "list" = none) (hg:Gl X "range") (hm:X.mg "range" = none) (ha:SA X E [a] ms) (hs:autoParam (starEach [a] X.env=[(false,eval a X.env)]) Au.h0._auto_1)
  (hs0:autoParam (starEach [.Call (.Name "range" p1) [a] [] pos1] X.env=[(false,eval (.Call (.Name "range" p1) [a] [] pos1) X.env)]) Au.h0._auto_1):SE X E (.Call (.Name "list" p0) [.Call (.Name "range" p1) [a] [] pos1] [] pos0) (eB zX ms):=⟨
 bC (xP hc hg0 hm0 hg hm ha.out hs hs0) fun s H Q zq=>ex6 zq fun w r S hr hS hp=>⟨w,r,S,hr,hS,hp.bind hS fun ds S1 w1 H1 vs x1 q1 s1 p1=>by
  obtain ⟨z,hz,p⟩:=p1.of
  unfold zX at hz
  split at hz
  ·rename_i j
   split at hz
   ·rename_i hj
    cases hz
    obtain ⟨v,rfl,q2⟩:=q1.one_inv
    cases q2.int
    exact ⟨j,rfl,hj.1,hj.2,fun t ht=>p.at (Ext.new ht) (RD.newLst s1 ht (lO _)) (s1.new ht)⟩
   ·cases hz
  ·cases hz⟩⟩
theorem zY {ms:AM} {p0 p1 pos0 pos1:Pos} (hc:X.calm=true) (hg0:Gl X "list") (hm0:X.mg "list" = none) (hg:Gl X "range") (hm:X.mg "range" = none) (ha:SA X E [a] ms) (hs:autoParam (starEach [a] X.env=[(false,eval a X.env)]) Au.h0._auto_1)
  (hs0:autoParam (starEach [.Call (.Name "range" p1) [a] [] pos1] X.env=[(false,eval (.Call (.Name "range" p1) [a] [] pos1) X.env)]) Au.h0._auto_1):SE X E (.Call (.Name "list" p0) [.Call (.Name "range" p1) [a] [] pos1] [] pos0) (eBR uU ms):=⟨
 bC (xP hc hg0 hm0 hg hm ha.out hs hs0) fun s H Q zq=>ex6 zq fun w r S hr hS hp=>⟨w,r,S,hr,hS,hp.bind hS fun ds S1 w1 H1 vs x1 q1 s1 p1=>by
  unfold uU at p1
  split at p1
  ·rename_i j
   split at p1
   ·rename_i hj
    obtain ⟨v,rfl,q2⟩:=q1.one_inv
    cases q2.int
    exact ⟨j,rfl,hj.1,hj.2,fun t ht=>aH.at p1 (Ext.alloc ht) s1.lastRef (s1.alloc ht ⟨_,aI,lO _⟩)⟩
   ·exact p1.elim
  ·exact p1.elim⟩⟩
end
end PD
namespace PySem
open PyProof.Rows
open Sem (wp)
namespace F
theorem ul_plain:plainId "dict.update.loop" = true:=by decide +kernel
theorem ul_entry:entryFor table "dict.update.loop" = some Builtin.«dict.update.loop»:=entryFor_of_tree (by kernel_rfl)
theorem list_no_keys:typeLookup (.type "list") "keys" = pure none:=by rw [typeLookup_type,builtinLookup_eq_fast]; kernel_rfl
end F
section
variable {prog:Program} {w:World} {A:Around} {E:Value→Shared→Prop}
theorem lP {s:Shared} {l:Addr} {sl:Array (Option Value)} {xs:Array Value} {n:Nat} {Q:Option Value→Shared→Prop} (hl:s.heap.get? l=some { cls:=.type "list",dict:=none,data:=.seq xs n,slots:=sl }) (hA:A.handled=none)
  (q:∀ h' tk,(∀ b ob,s.heap.get? b=some ob→h'.get? b=some ob)→Q none { s with heap:=h',toks:=tk }):wpAny (model prog w) A (getAttr? (.ref l) "keys") Q E s:=by
 obtain ⟨hp,gs,dr,k0,os⟩:=s
 have ty:∀ k,(⟨hp,gs,dr,k,os⟩:Shared).TypeIs (.ref l) "list":=fun _=>⟨_,hl,rfl⟩
 have a1:=sub_AttributeError; have a2:=F.slot_list_getattribute.lookup; have a3:=F.slot_list_getattribute.bind (.ref l); have a4:=am_list_getattr_none
 have nm:(["__module__","__name__","__qualname__","__doc__","__annotations__"]:List Str).contains "keys" = false:=by decide +kernel
 unfold getAttr? getAttrBy? getAttrBy
 repeat (any_goals (first | assumption | exact ty _ | ((with_reducible show wpAny _ _ (call (Value.builtin "list.__getattribute__") _ _) _ _ _); refine call_meets F.slot_list_getattribute (ty _) am_entry_list_getattribute (F.args_list_getattribute_2 _ _) (meets_getattribute_miss_list l xs n sl "keys" _ F.list_no_keys nm (by size_fits)) ⟨hl,hA,fun h' tk' e x=>?_⟩) | wp_step))
 obtain ⟨_,_,he⟩:=x.there
 show wpAny _ _ (getattributeRaised _ _ _ _ _ _ _) _ _ _
 unfold getattributeRaised
 repeat (any_goals (first | assumption | wp_step))
 exact q h' tk' x.keeps
end
section
variable {prog:Program} {w:World} {K:Type} [DecidableEq K] {knd:KeyKind prog w K} {A:Around} {R:Result→Shared→Prop}
def ph (knd:KeyKind prog w K) (h:Heap) (d I:Addr) (kv:K × Value) (v:Value):Prop:=∃ p key,v=.ref p∧knd.is kv.1 key=true∧h.IsTuple p #[key,kv.2]∧p ≠ d∧p ≠ I
theorem ph.keep {h h':Heap} {d I:Addr} {kv:K × Value} {v:Value} (x:ph knd h d I kv v) (hk:∀ b o,b ≠ I→b ≠ d→h.get? b=some o→h'.get? b=some o):ph knd h' d I kv v:=by
 obtain ⟨p,key,e,z,⟨o,ho,r⟩,n1,n2⟩:=x
 exact ⟨p,key,e,z,⟨o,hk p o n2 n1 ho,r⟩,n1,n2⟩
theorem sZ (a:List (K × Value)) (k:K) (v:Value):(stored a k v).length≤a.length + 1:=by
 unfold stored
 split
 ·rw [List.length_map]; omega
 ·rw [List.length_append]; exact Nat.le_refl _
theorem nQ {I l d:Addr} (hne:l ≠ I) (hd1:d ≠ I) (hd2:d ≠ l) (hh:A.handled=none) (items:Array Value):
  ∀ (kvs:List (K × Value)) (vs:List Value) (j:Nat) (s:Shared) (acc:List (K × Value)),items.toList.drop j=vs→vs.length=kvs.length→(∀ (i:Nat) kv v,kvs[i]?=some kv→vs[i]?=some v→ph knd s.heap d I kv v)→
   s.heap.IsListIter I l j→s.heap.IsList l items→s.heap.DictOf knd d acc→acc.length + kvs.length≤sizeLine→
   (∀ h' tk,h'.DictOf knd d (merged acc kvs)→(∀ b o,b ≠ I→b ≠ d→s.heap.get? b=some o→h'.get? b=some o)→R (.ok (.ret .none)) { s with heap:=h',toks:=tk })→
   codeAny (model prog w) A (.builtin "dict.update.loop" ⟨[.ref d,.ref I,rawInt j,.none],[]⟩) R s
 | [],vs,j,s,acc,hv,hl,_,st,il,hm,_,hR=>by
  have W:=Walks.list (prog:=prog) (w:=w) (A:=A.in1) hh I l hne items
  have e0:vs=[]:=List.length_eq_zero_iff.mp hl
  have hj:items.size≤j:=by
   have:=congrArg List.length hv
   rw [e0,List.length_drop,Array.length_toList] at this
   exact Nat.le_of_sub_eq_zero this
  refine codeAny_builtin F.ul_entry ?_
  rw [Around.under_plainId F.ul_plain _]
  show wpAny _ A.in1 (pyNext (.ref I) >>= _) _ _ s
  refine wpAny_bind (wpAny_pyNext_list_end (A:=A.in1) hh st il (by simpa using hj) fun h' he=>?_)
  show wpAny _ A.in1 (Builtin.Dict.addKeywords d [] >>= fun _=>ret .none) _ _ _
  refine wpAny_bind (wpAny_pure (wpAny_pure ?_))
  exact hR h' s.toks (by obtain ⟨o,es,ep,ho,r⟩:=hm; exact ⟨o,es,ep,he d o hd1 ho,r⟩) fun b o b1 b2 e=>he b o b1 e
 | kv :: kvs,vs,j,s,acc,hv,hl,hp,st,il,hm,hz,hR=>by
  obtain ⟨v,vs',rfl⟩:∃ v vs',vs=v :: vs':=by
   cases vs with
   | nil=>cases hl
   | cons v vs'=>exact ⟨v,vs',rfl⟩
  have hjl:j < items.size:=by
   have:=congrArg List.length hv
   rw [List.length_drop,Array.length_toList,List.length_cons] at this
   omega
  have hit:items[j]?=some v:=by
   have:=congrArg (fun l:List Value=>l[0]?) hv
   simp only [List.getElem?_drop,Nat.add_zero,List.getElem?_cons_zero,Array.getElem?_toList] at this
   exact this
  have hv':items.toList.drop (j + 1)=vs':=by rw [← List.drop_drop,hv]; rfl
  rw [List.length_cons] at hz
  obtain ⟨p,key,rfl,hkey,⟨o,ho,hc,n,hdat⟩,n1,n2⟩:=hp 0 kv v rfl rfl
  refine codeAny_builtin F.ul_entry ?_
  rw [Around.under_plainId F.ul_plain _]
  show wpAny _ A.in1 (pyNext (.ref I) >>= _) _ _ s
  refine wpAny_bind (wpAny_pyNext_list_item (A:=A.in1) st il (x:=.ref p) hit fun h' st' hs=>?_)
  have k1:∀ b ob,b ≠ I→s.heap.get? b=some ob→h'.get? b=some ob:=fun b ob hb e=>hs.extBut b ob hb e
  have ho1:=k1 p o n2 ho
  have hm1:h'.DictOf knd d acc:=by obtain ⟨o',es,ep,ho',r⟩:=hm; exact ⟨o',es,ep,k1 d o' hd1 ho',r⟩
  have il1:h'.IsList l items:=by obtain ⟨o',ho',r⟩:=il; exact ⟨o',k1 l o' hne ho',r⟩
  show wpAny _ A.in1 (holding [.ref p] _ >>= _) _ _ _
  refine wpAny_bind (wpAny_holding ?_)
  refine wpAny_bind (wpAny_tryCatch ?_)
  unfold Builtin.Dict.pairItems
  refine wpAny_bind (wpAny_typeOf (show Shared.TypeIs { s with heap:=h' } (.ref p) "tuple" from ⟨o,ho1,hc⟩) ?_)
  rw [if_pos (by decide)]
  refine wpAny_bind (wpAny_seqItems ho1 hdat (wpAny_pure ?_))
  show wpAny _ A.in1 (holding [key,kv.2] (dictSet d key kv.2)) _ _ _
  refine wpAny_holding (wpAny_dictSet_pairs hkey hm1 (fun h2 hm2 hs2=>?_) (by omega))
  refine wpAny_pure ⟨plainId_quiet F.ul_plain _,?_⟩
  have k2:∀ b ob,b ≠ I→b ≠ d→s.heap.get? b=some ob→h2.get? b=some ob:=fun b ob b1 b2 e=>(hs2.2 b b2).trans (k1 b ob b1 e)
  have hlen:=sZ acc kv.1 kv.2
  refine nQ hne hd1 hd2 hh items kvs vs' (j + 1) _ (stored acc kv.1 kv.2) hv' (by simpa using hl) (fun i kv' v' e1 e2=>(hp (i + 1) kv' v' e1 e2).keep k2) ?_ ?_ hm2 (by omega) fun h3 tk hm3 k3=>?_
  ·obtain ⟨o',ho',r⟩:=st'; exact ⟨o',(hs2.2 I (Ne.symm hd1)).trans ho',r⟩
  ·obtain ⟨o',ho',r⟩:=il1; exact ⟨o',(hs2.2 l (Ne.symm hd2)).trans ho',r⟩
  ·exact hR h3 tk hm3 fun b ob b1 b2 e=>k3 b ob b1 b2 (k2 b ob b1 b2 e)
end
section
variable {prog:Program} {w:World} {K:Type} [DecidableEq K] {knd:KeyKind prog w K} {A:Around} {E:Value→Shared→Prop} {s:Shared}
theorem ko {l:Addr} {items:Array Value} {n:Nat} {sl:Array (Option Value)} {kvs:List (K × Value)} {Q:Value→Shared→Prop} (hh:A.handled=none) (hl:s.heap.get? l=some { cls:=.type "list",dict:=none,data:=.seq items n,slots:=sl }) (hn:items.size=kvs.length)
  (hp:∀ (i:Nat) kv v,kvs[i]?=some kv→items[i]?=some v→∃ p key,v=.ref p∧knd.is kv.1 key=true∧s.heap.IsTuple p #[key,kv.2]) (hz:kvs.length≤sizeLine)
  (q:∀ h' tk,h'.DictOf knd s.heap.objs.size (merged [] kvs)→(∀ b o,s.heap.get? b=some o→h'.get? b=some o)→Q (.ref s.heap.objs.size) { s with heap:=h',toks:=tk }):wpAny (model prog w) A (call (.type "dict") [.ref l]) Q E s:=by
 refine callType_codes (Q₁:=fun z t=>z=.ref s.heap.objs.size∧t={ s with heap:=s.heap.push { cls:=.type "dict",data:=.dict #[] } }) F.kt_called_dict (F.kt_typeCall_dict_1 _) F.entry_dict_init (kt_code_dict_new _ ⟨rfl,rfl⟩) ?_
 rintro z t ⟨rfl,rfl⟩
 have hm:(s.heap.push { cls:=.type "dict",data:=.dict #[] }).DictOf knd s.heap.objs.size []:=Heap.DictOf.new s.heap
 have k0:∀ b o,s.heap.get? b=some o→(s.heap.push { cls:=.type "dict",data:=.dict #[] }).get? b=some o:=fun b o e=>Heap.get?_push_of_some _ e
 have hl0:=k0 l _ hl
 refine ⟨hm.typeIs,F.args_dict_init_2 _ _,?_⟩
 unfold Builtin.«dict.__init__»
 refine wpAny_bind ?_
 unfold Builtin.Dict.selfAndRest
 refine wpAny_bind (wpAny_notOrdered_dict hm.typeIs ?_)
 show wpAny _ _ (pure (s.heap.objs.size,[Value.ref l])) _ _ _
 refine wpAny_pure ?_
 show wpAny _ _ (Builtin.Dict.updateFrom "dict.__init__" s.heap.objs.size (.ref l) [] .none) _ _ _
 unfold Builtin.Dict.updateFrom
 refine wpAny_bind (wpAny_typeOf (show Shared.TypeIs { s with heap:=s.heap.push { cls:=.type "dict",data:=.dict #[] } } (.ref l) "list" from ⟨_,hl0,rfl⟩) ?_)
 rw [if_pos (by decide)]
 refine wpAny_bind (lP (A:=A.in1.in1) hl0 hh fun h1 tk1 k1=>?_)
 rw [if_pos (show (none:Option Value).isNone=true from rfl)]
 have hl1:=k1 l _ hl0
 have il1:h1.IsList l items:=⟨_,hl1,rfl,n,rfl⟩
 refine wpAny_bind (wpAny_rule (wpAny_bind (wpAny_pyIter_list il1 ?_)))
 have k2:∀ b o,s.heap.get? b=some o→(h1.push { cls:=.type "list_iterator",data:=.fields #[.ref l,.int 0 0] }).get? b=some o:=fun b o e=>Heap.get?_push_of_some _ (k1 b o (k0 b o e))
 have e1:=Heap.lt_size hl
 have e2:s.heap.objs.size < h1.objs.size:=by obtain ⟨o,es,ep,ho,r⟩:=hm; exact Heap.lt_size (k1 _ o ho)
 refine wpAny_pure ⟨plainId_quiet F.ul_plain _,?_⟩
 refine nQ (A:=A.in1) (knd:=knd) (l:=l) (I:=h1.objs.size) (Nat.ne_of_lt (Nat.lt_trans e1 e2)) (Nat.ne_of_lt e2) (Nat.ne_of_gt e1) hh items kvs items.toList 0 _ [] rfl (by rw [Array.length_toList]; exact hn) (fun i kv v p1 p2=>?_) ⟨_,Heap.get?_push_size _ rfl,rfl,rfl⟩ ⟨_,k2 l _ hl,rfl,n,rfl⟩ (by obtain ⟨o,es,ep,ho,r⟩:=hm; exact ⟨o,es,ep,Heap.get?_push_of_some _ (k1 _ o ho),r⟩) (by simpa using hz) fun h' tk hm' k3=>⟨rfl,q h' tk hm' fun b o e=>?_⟩
 ·obtain ⟨p,key,ev,z,⟨o,ho,r⟩⟩:=hp i kv v p1 (by rw [← Array.getElem?_toList]; exact p2)
  have e3:=Heap.lt_size ho
  exact ⟨p,key,ev,z,⟨o,k2 p o ho,r⟩,Nat.ne_of_lt e3,Nat.ne_of_lt (Nat.lt_trans e3 e2)⟩
 ·have e3:=Heap.lt_size e
  exact k3 b o (Nat.ne_of_lt (Nat.lt_trans e3 e2)) (Nat.ne_of_lt e3) (k2 b o e)
end
end PySem
namespace L2
open PySem PySem.Spec PyProof.Rows
theorem xQ (a:List (Key × V)) (k:Key) (v:V):(putK a k v).length≤a.length + 1:=by
 unfold putK
 split
 ·rw [List.length_map]; omega
 ·rw [List.length_append]; exact Nat.le_refl _
theorem lQ:∀ (more acc:List (Key × V)),(eJ acc more).length≤acc.length + more.length
 | [],acc=>Nat.le_refl _
 | kv :: more,acc=>by
  have h1:=lQ more (putK acc kv.1 kv.2)
  have h2:=xQ acc kv.1 kv.2
  show (eJ (putK acc kv.1 kv.2) more).length≤acc.length + (more.length + 1)
  omega
def PrV (K:PySem.W.Frag) (H:Hp):List V→List (Key × V)→Prop
 | [],kvs=>kvs=[]
 | y :: ys,kvs=>∃ kv r p,kvs=kv :: r∧y=.ref p∧SqT K H p [kV kv.1,kv.2]∧PrV K H ys r
section
variable {X:Cx}
theorem rf {pins:List (Addr × Obj)} {σ:St} {H:Hp} {s:Shared} (I:Inv X pins σ H s):∀ {ys:List V} {kvs:List (Key × V)} {its:List Value},PrV X.K H ys kvs→Vals ys its→∃ ks:List (Key × Value),KV kvs ks∧its.length=ks.length∧∀ (i:Nat) kv v,ks[i]?=some kv→its[i]?=some v→∃ pp key,v=.ref pp∧(aX X.prog X.w).is kv.1 key=true∧s.heap.IsTuple pp #[key,kv.2]
 | [],kvs,_,h,.nil=>by
  cases (show kvs=[] from h)
  exact ⟨[],.nil,rfl,fun i kv v e=>by cases e⟩
 | y :: ys,kvs,_,h,.cons ry rr=>by
  obtain ⟨kv,r,p,rfl,rfl,sq,hr⟩:=h
  obtain ⟨ks,h1,h2,h3⟩:=rf I hr rr
  obtain ⟨its2,r2,it,_⟩:=I.tuple sq
  obtain ⟨key,u,rfl,rk,ru⟩:=vals2 r2
  cases ry
  refine ⟨(kv.1,u) :: ks,.cons ⟨rfl,ru⟩ h1,by rw [List.length_cons,List.length_cons,h2],fun i kv' v e1 e2=>?_⟩
  cases i with
  | zero=>
   cases e1; cases e2
   exact ⟨p,key,rfl,nr rk,it⟩
  | succ i=>exact h3 i kv' v e1 e2
theorem mV (hc:X.calm=true):cI X (.type "dict") (fun xs H Q=>∃ p ys kvs,xs=[.ref p]∧SqL X.K H p ys∧PrV X.K H ys kvs∧∀ q,H q=none→Q (.ref q) (upd H q (.dK (eJ [] kvs)))):=by
 intro pins s σ H xs us Q I r h
 obtain ⟨p,ys,kvs,rfl,hq,hp,q⟩:=h
 obtain ⟨u,rfl,rx⟩:=vals1 r
 cases rx
 obtain ⟨its,r',⟨o,n,ho,hcl,hdc,hdt⟩,hz⟩:=I.list hq
 obtain ⟨ks,h1,h2,h3⟩:=rf I hp r'
 obtain ⟨c,dc,dt,sl⟩:=o
 simp only at hcl hdc hdt
 subst hcl hdc hdt
 have l1:=r'.length
 have l2:=h1.length
 refine ko (knd:=aX X.prog X.w) (items:=its.toArray) (kvs:=ks) (I.ok.hd hc) ho (by simpa using h2) (fun i kv v e1 e2=>h3 i kv v e1 (by simpa using e2)) (by omega) fun h' tk hm hk=>?_
 have lz:=lQ kvs []
 refine ⟨.ref s.heap.objs.size,_,I.laid (t':=tk) hk (Nat.le_refl _) (show bF X.prog X.w _ h' _ (.dK (eJ [] kvs)) from ⟨by simp only [List.length_nil] at lz; omega,?_,_,KV.merge h1 .nil,hm⟩),rfl,q _ (I.hok.fresh (Nat.le_refl _))⟩
 have:=I.big
 exact beq_eq_false_iff_ne.mpr (Nat.ne_of_gt this)
end
end L2
namespace PD
open PySem PySem.Spec PyProof.Rows L2
def wd:List D→Option (List (KD × D))
 | []=>some []
 | .tup [k,v] :: r=>match jM k,wd r with
  | some k',some r'=>some ((k',v) :: r')
  | _,_=>none
 | _=>none
def tf:Sto→List D→R D
 | S,[d]=>match nI S d with
  | some a=>match wd a with
   | some kvs=>.ok (.ref S.length) (S ++ [.dic (fV [] kvs)])
   | none=>.bad
  | none=>.bad
 | _,_=>.bad
section
variable {X:Cx} {E:XK}
theorem xR {w:Wd} {H:Hp}:∀ {a:List D} {vs:List V} {kvs:List (KD × D)},RDs X.K w H a vs→wd a=some kvs→∃ us,PrV X.K H vs us∧RDk X.K w H kvs us
 | [],vs,kvs,q,h=>by
  cases h
  rw [q.nil_inv]
  exact ⟨[],rfl,.nil⟩
 | d :: a,vs,kvs,q,h=>by
  unfold wd at h
  split at h
  ·rename_i e; cases e
  ·rename_i k v r e
   cases e
   split at h
   ·rename_i k' r' e1 e2
    cases h
    obtain ⟨y,ys,rfl,q1,q2⟩:=q.cons_inv
    obtain ⟨us,p1,p2⟩:=xR q2 e2
    obtain ⟨p,zs,rfl,sq,qz⟩:=q1.tupI
    obtain ⟨z1,z2,rfl,qk,qv⟩:=qz.two_inv
    have ek:=jj qk e1
    subst ek
    exact ⟨(k',z2) :: us,⟨(k',z2),us,p,rfl,rfl,cR sq,p1⟩,.cons qv p2⟩
   ·cases h
  ·cases h
theorem xT (hc:X.calm=true):cI X (.type "dict") (xCR X.K E tf):=by
 rintro pins s σ H xs us Q I r ⟨w,S,ds,hS,qs,p⟩
 unfold tf at p
 split at p
 ·rename_i d
  obtain ⟨v,rfl,q⟩:=qs.one_inv
  split at p
  ·rename_i a ha
   split at p
   ·rename_i kvs hk
    obtain ⟨pa,vs,rfl,sq,ra⟩:=sS hS q ha
    obtain ⟨uk,p1,p2⟩:=xR ra hk
    exact mV hc pins s σ H _ us Q I r ⟨pa,vs,uk,rfl,sq,p1,fun t ht=>aH.at p (Ext.alloc ht) hS.lastRef (hS.alloc ht ⟨_,aI,RDk.ext (Ext.alloc ht) _ _ (RDk.merge p2 .nil)⟩)⟩
   ·exact p.elim
  ·exact p.elim
 ·exact p.elim
end
end PD
namespace L2
open PySem PySem.Spec PyProof.Rows
section
variable {X:Cx}
end
end L2
namespace PD
open PySem PySem.Spec PyProof.Rows L2
section
variable {X:Cx} {E:XK}
variable {d:Expr} {md:EM} {x:Str} {p pos0 apos pos:Pos}
end
section
variable {X:Cx} {E:XK}
end
end PD
namespace PD
open PySem PySem.Spec PyProof.Rows L2
section
variable {K:PySem.W.Frag} {w w':Wd} {H H':Hp}
end
section
variable {X:Cx} {E:XK} {c f m x:Str} {a b o v:Expr} {ma mo mv:EM} {es:List Expr} {ms:AM} {k n:Nat} {F:FM} {p pos apos tpos:Pos}
end
section
variable {P:Program} {w:World} {K:PySem.W.Frag} {mg:Str→Option Value} {base:Heap}
end
end PD
namespace PD
open PySem PySem.Spec PyProof.Rows L2
section
variable {X:Cx} {E:XK} {o:Expr} {mo:EM} {apos cpos:Pos}
end
end PD
namespace PD
open PySem PySem.Spec PyProof.Rows L2
section
variable {X:Cx} {E:XK} {a b c:Expr} {ma mb mc:EM} {pos:Pos}
end
end PD
namespace PD
open PySem PySem.Spec PyProof.Rows L2
section
variable {X:Cx} {E:XK}
end
end PD
namespace PD
open PySem PySem.Spec PyProof.Rows L2
open AutoSeq1 (wpAny_loadPart')
open MeetsSeq MeetsSeq2 MeetsSeq3 SeqRoads2 PySem.SeqAt
section
variable {X:Cx} {E:XK} {pins:List (Addr × Obj)} {σ:L2.St} {H:Hp} {s:Shared}
end
section
variable {X:Cx} {E:XK}
end
section
variable {X:Cx} {E:XK}
variable {d:Expr} {md:EM} {x:Str} {p pos0 apos pos:Pos}
end
end PD
namespace PD
open PySem PySem.Spec PyProof.Rows L2
section
variable {X:Cx} {E:XK} {a b:Expr} {pos:Pos}
end
end PD
namespace PySem
open PyProof.Rows
section
variable {prog:Program} {w:World} {A:Around} {E:Value→Shared→Prop} {s:Shared} {K:Type} [DecidableEq K] {knd:KeyKind prog w K}
theorem pj {a b:Addr} {vs vs':List (K × Value)} {ep ep':Nat} {Q:Value→Shared→Prop} (ha:(a == sysModules)=false) (hb:(b == sysModules)=false) (dA:s.heap.DictAt knd a vs ep) (dB:s.heap.DictAt knd b vs' ep')
  (iA:∀ kv ∈ vs,∃ n t,kv.2=.int n t) (iB:∀ kv ∈ vs',∃ n t,kv.2=.int n t) (h:Q (.bool (cG vs vs')) s):wpAny (model prog w) A (Builtin.«dict.__eq__» ⟨[.ref a,.ref b],[]⟩) (fun fin s'=>∃ v,fin=.done (.ret v)∧v ≠ .notImplemented∧Q v s') E s:=by
 have hT:=dA.dictOf.typeIs
 have hT':=dB.dictOf.typeIs
 show wpAny _ A (Builtin.Dict.dictSlotArgs "__eq__" ⟨[.ref a,.ref b],[]⟩ >>= _) _ _ s
 unfold Builtin.Dict.dictSlotArgs
 refine wpAny_bind (wpAny_bind (wpAny_notOrdered_dict hT ?_))
 refine wpAny_bind (wpAny_of_eq (a:=(Value.ref a,[Value.ref b])) rfl ?_)
 refine wpAny_pure ?_
 refine wpAny_bind (wpAny_isInstance hT' (b:=true) F.sub_dict_dict ?_)
 rw [if_neg (by decide)]
 refine wpAny_bind (wpAny_of_eq (a:=a) rfl ?_)
 refine wpAny_bind (wpAny_of_eq (a:=b) rfl ?_)
 refine wpAny_bind (lJ ha hb dA dB iA iB ?_)
 refine wpAny_pure ⟨_,rfl,(fun z=>by cases z),?_⟩
 have e:(cG vs vs' == true)=cG vs vs':=by cases cG vs vs' <;> rfl
 first | exact h | (rw [e]; exact h)
theorem zZ {a b:Addr} {vs vs':List (K × Value)} {ep ep':Nat} {Q:Value→Shared→Prop} (ha:(a == sysModules)=false) (hb:(b == sysModules)=false) (dA:s.heap.DictAt knd a vs ep) (dB:s.heap.DictAt knd b vs' ep')
  (iA:∀ kv ∈ vs,∃ n t,kv.2=.int n t) (iB:∀ kv ∈ vs',∃ n t,kv.2=.int n t) (hu:A.units < cLine) (h:Q (.bool (cG vs vs')) s):wpAny (model prog w) A (compareOp .Eq (.ref a) (.ref b)) Q E s:=by
 have hT:s.TypeIs (.ref a) "dict":=dA.dictOf.typeIs
 have hT':s.TypeIs (.ref b) "dict":=dB.dictOf.typeIs
 have hc:wpAny (model prog w) A (call (.builtin "dict.__eq__") [.ref a,.ref b]) (fun v s'=>v ≠ .notImplemented∧Q v s') E s:=wpAny_call_entry F.slot_dict_eq hT F.entry_dict_eq (pj ha hb dA dB iA iB h) (F.args_dict_eq_2 _ _)
 have hr:wpAny (model prog w) A (richCompare .Eq (.ref a) (.ref b)) Q E s:=wpAny_richCompare_same_room (op:=.Eq) (T:="dict") (id:="dict.__eq__") hT hT' F.slot_dict_eq hc hu
 exact hr
end
end PySem
namespace PD
open PySem PySem.Spec PyProof.Rows L2
def mW:Sto→D→D→Option D:=fun S x y=>match dq S x,dq S y with
 | some k1,some k2=>match gO k1,gO k2 with
  | some T1,some T2=>some (.bl (fQ T1 T2))
  | _,_=>none
 | _,_=>jk S x y
section
variable {X:Cx} {E:XK}
theorem xU {k:Nat} (hr:Room k X.A):OpR X (compareOp .Eq) (xO X.K E mW):=by
 rintro pins s σ H x y v u Q I rx ry ⟨w,S,d,e,hS,qd,qe,p⟩
 obtain ⟨z,hz,p'⟩:=p.of
 unfold mW at hz
 split at hz
 ·rename_i k1 k2 h1 h2
  split at hz
  ·rename_i T1 T2 t1 t2
   cases hz
   obtain ⟨pp,us,rfl,rd,rk⟩:=gC hS qd h1
   obtain ⟨pp2,us2,rfl,rd2,rk2⟩:=gC hS qe h2
   cases rx
   cases ry
   obtain ⟨zl,hs1,vs,rel,⟨o,es,ep,ho⟩⟩:=rd.ok I.hok
   obtain ⟨zl2,hs2,vs2,rel2,⟨o2,es2,ep2,ho2⟩⟩:=rd2.ok I.hok
   have v1:=qV t1 rk rel
   have v2:=qV t2 rk2 rel2
   refine zZ (knd:=aX X.prog X.w) hs1 hs2 ⟨o,es,ho⟩ ⟨o2,es2,ho2⟩ v1.ints v2.ints (by have:=hr.units; omega) ?_
   rw [v1.same v2]
   exact ⟨.bl _,H,I,rfl,p'.ret RD.mkB hS⟩
  ·cases hz
 ·rename_i hnn
  exact oU hr pins s σ H x y v u Q I rx ry ⟨w,S,d,e,hS,qd,qe,by
   have:mW S d e=jk S d e:=by
    unfold mW
    split
    ·rename_i k1 k2 h1 h2
     exact (hnn k1 k2 h1 h2).elim
    ·rfl
   rw [← this]; exact p⟩
end
end PD
namespace L2
open PySem PySem.Spec PyProof.Rows
section
variable {X:Cx}
theorem lR:cI X (.type "dict") (fun xs H Q=>∃ p kvs,xs=[.ref p]∧Rd H p (.dK kvs)∧∀ q,H q=none→Q (.ref q) (upd H q (.dK kvs))):=by
 intro pins s σ H xs us Q I r h
 obtain ⟨p,kvs,rfl,rd,q⟩:=h
 obtain ⟨u,rfl,rx⟩:=vals1 r
 cases rx
 obtain ⟨z,hdd,vs,rel,dd⟩:=je I.hok rd
 refine kt_call_dict (knd:=aX X.prog X.w) hdd dd (by rw [← rel.length]; exact z) fun h' d' hs=>?_
 have keep:∀ b o,s.heap.get? b=some o→h'.get? b=some o:=fun b o e=>by
  rw [hs.2 b (Nat.ne_of_lt (Heap.lt_size e))]
  exact Heap.get?_push_of_some _ e
 exact ⟨.ref _,_,I.laid (t':=s.toks) (a:=s.heap.objs.size) keep (Nat.le_refl _) (sA z (beq_eq_false_iff_ne.mpr (Ne.symm (Nat.ne_of_lt I.big))) rel d'),rfl,q _ (I.hok.fresh (Nat.le_refl _))⟩
end
end L2
namespace PD
open PySem PySem.Spec PyProof.Rows L2
def xV:Sto→List D→R D
 | S,[d]=>match dq S d with
  | some kvs=>.ok (.ref S.length) (S ++ [.dic kvs])
  | none=>.bad
 | _,_=>.bad
def jv:Sto→List D→Option D
 | S,[.ref n,.ty T]=>match S[n]? with
  | some (.fdic _)=>if T ∈ gA then some (.bl ("dict" == T || ("dict" == "bool" && T == "int"))) else none
  | _=>gS S [.ref n,.ty T]
 | S,ds=>gS S ds
section
variable {X:Cx} {E:XK} {d:Expr} {md:EM} {apos pos:Pos}
theorem CA:cI X (.type "dict") (xCR X.K E xV):=by
 rintro pins s σ H xs us Q I r ⟨w,S,ds,hS,qs,p⟩
 unfold xV at p
 split at p
 ·rename_i d
  obtain ⟨v,rfl,q⟩:=qs.one_inv
  split at p
  ·rename_i kvs hk
   obtain ⟨pp,uk,rfl,rd,rk⟩:=gC hS q hk
   exact lR pins s σ H _ us Q I r ⟨pp,uk,rfl,rd,fun t ht=>aH.at p (Ext.alloc ht) hS.lastRef (hS.alloc ht ⟨_,aI,RDk.ext (Ext.alloc ht) _ _ rk⟩)⟩
  ·exact p.elim
 ·exact p.elim
theorem z4:cI X (.builtin "isinstance") (xC X.K E jv):=by
 rintro pins s σ H xs us Q I r ⟨w,S,ds,hS,qs,p⟩
 obtain ⟨z,hz,p'⟩:=p.of
 by_cases hf:∃ n T kvs,ds=[.ref n,.ty T]∧S[n]?=some (.fdic kvs)
 ·obtain ⟨n,T,kvs,rfl,hn⟩:=hf
  unfold jv at hz
  simp only [hn] at hz
  split at hz
  ·rename_i hT
   cases hz
   obtain ⟨v,u,rfl,q,q'⟩:=qs.two_inv
   unfold RD at q'
   subst q'
   obtain ⟨v1,v2,rfl,rv,rt⟩:=vals2 r
   cases (show v2=Value.type T from rt)
   obtain ⟨pp,rfl,hpp⟩:=q.refI
   obtain ⟨p1,hp1,o,uk,hv,ra⟩:=hS.obj _ _ hn
   rw [hpp] at hp1; cases hp1
   cases (show v1=Value.ref pp from rv)
   obtain ⟨zz,hdd,vs,rel,⟨ob,es,ep,ho,hcl,_⟩⟩:=je I.hok (.inr ⟨o,hv⟩:Rd H pp (.dK uk))
   have kk:=xn X.K (t:="dict") (T:=T) (by simp) hT
   exact PySem.W.kia_one PySem.W.kitx_dict I.kIn ⟨ob,ho,hcl.1⟩ kk (fun z=>nomatch z) fun tk=>⟨.bl _,H,I.tok tk,rfl,p'.ret RD.mkB hS⟩
  ·cases hz
 ·have e:jv S ds=gS S ds:=by
   unfold jv
   split
   ·rename_i n T
    split
    ·rename_i kvs hn
     exact (hf ⟨n,T,kvs,rfl,hn⟩).elim
    ·rfl
   ·rfl
  exact lu pins s σ H xs us Q I r ⟨w,S,ds,hS,qs,by rw [← e]; exact p⟩
end
section
variable {X:Cx} {E:XK}
end
end PD
namespace PD
open PySem PySem.Spec PyProof.Rows L2
section
variable {X:Cx} {E:XK}
end
end PD
namespace L2
open PySem PySem.Spec PyProof.Rows
section
variable {X:Cx}
end
end L2
namespace PD
open PySem PySem.Spec PyProof.Rows L2
section
variable {X:Cx} {E:XK}
end
section
variable {X:Cx} {E:XK}
end
end PD
namespace PD
open PySem PySem.Spec PyProof.Rows L2
end PD
namespace Lw
open PySem PySem.Spec PyProof.Rows L2 PD
def raisedX:List Str:=[]
def askedX:List Str:=[]
def isaX (c k:Str):Bool:=c == k || k == "PlusError"
abbrev dM:Stmt:=top 47
def gE:SM:=(aB (bh 2 (eOp bq (eOp cT (eC (.int 7919)) (ag 1)) (eC (.int 13)))) (aB (sIf (tV (eOp oLt (ag 1) (eB cn (ab (ag 0) ak)))) (bh 2 (eOp oIx (ag 0) (ag 1))) bw) (aB (sIf (tV (eOp jk (eOp oMod (ag 2) (eC (.int 2))) (eC (.int 0)))) (bz (eNew (ab (eOp j7 (ag 2) (eC (.int 2))) ak))) bw) (aB (bh 3 (eC (.int 0))) (aB (gw (cY (ab (eC (.int 16)) ak)) (.nm 4) (aB (bh 5 (eOp oMod (eOp bq (eOp bq (eOp cT (eOp oMod (ag 2) (eC (.int 2147483647))) (eC (.int 48271))) (eOp cT (eC (.int 7919)) (ag 4))) (eC (.int 1))) (eC (.int 2147483647)))) (aB (bh 5 (eOp oMod (eOp cT (ag 5) (ag 5)) (eC (.int 2147483629)))) (bh 3 (eOp bq (eOp cT (ag 3) (eC (.int 2147483647))) (eOp oMod (eOp cT (ag 5) (eOp bq (ag 5) (eC (.int 13)))) (eC (.int 2147483647)))))))) (bz (eNew (ab (ag 3) ak))))))))
def dG:FM:=fnM 6 gE
abbrev de:Stmt:=top 48
def ie:SM:=(aB (BY (.tp [(.nm 2),(.nm 3)]) (eB kJ (ab (eOp oIx (ag 0) (eC (.int 0))) (ab (ag 1) ak)))) (aB (gR xo (ag 2) (ag 0) (eC (.int 0))) (bz (ag 3))))
def aM:FM:=fnM 4 ie
abbrev cL:Stmt:=top 50
def jw:SM:=(aB (bh 2 (eBR uU (ab (ag 1) ak))) (bz (eB fj (ab (bJ (cY (ab (ag 1) ak)) 1 [2,0] (.nm 0) bO (mT jP (ag 1) (ab (ar aM (ab (ag 2) (ab (eB cn (ab (ag 1) ak)) ak))) ak))) ak))))
def eh:FM:=fnM 3 jw
abbrev dN:Stmt:=top 9
def i6:SM:=(bz (g4 (eB gS (ab (ag 0) (ab (eC (.ty "int")) ak))) (BX (eB gS (ab (ag 0) (ab (eC (.ty "bool")) ak))))))
def bf:FM:=fnM 1 i6
abbrev dP:Stmt:=top 22
def lS:SM:=(aB (sIf (PD.tOr (PD.gp (tV (eB jv (ab (ag 0) (ab (eC (.ty "dict")) ak))))) (tV (eOp mW (ag 0) (DI [])))) (bz (eC (.bl false))) bw) (bz (eB mS (ab (bJ (fG (ag 0)) 2 [] (.tp [(.nm 0),(.nm 1)]) bO (g4 (ar bf (ab (ag 0) ak)) (g4 (ar bf (ab (ag 1) ak)) (eOp oGe (ag 1) (eC (.int 1)))))) ak))))
def fH:FM:=fnM 1 lS
abbrev bZ:Stmt:=top 23
def ig:SM:=(sIf (PD.gp (tV (ar fH (ab (ag 0) ak)))) oG bw)
def br:FM:=fnM 1 ig
abbrev cc:Stmt:=top 24
def ij:SM:=(aB (bR (ar br (ab (ag 0) ak))) (aB (bR (ar br (ab (ag 1) ak))) (aB (bh 2 nH) (aB (gw (fG (ag 0)) (.tp [(.nm 3),(.nm 4)]) (gw (fG (ag 1)) (.tp [(.nm 5),(.nm 6)]) (aB (bh 7 (eOp bq (ag 3) (ag 5))) (gR ez (eOp bq (fC (ag 2) (ag 7) (eC (.int 0))) (eOp cT (ag 4) (ag 6))) (ag 2) (ag 7))))) (bz (ag 2))))))
def aU:FM:=fnM 8 ij
abbrev fu:Stmt:=top 11
def ip:SM:=(aB (sIf (PD.tOr (PD.gp (tV (eB gS (ab (ag 0) (ab (eC (.ty "tuple")) ak))))) (tV (eOp oGt (eB cn (ab (ag 0) ak)) (eC (.int (16)))))) (bz (eC (.bl false))) bw) (bz (eB mS (ab (bJ (cS (ag 0) cJ) 1 [] (.nm 0) bO (g4 (ar bf (ab (ag 0) ak)) (eOp oGe (ag 0) (eC (.int 1))))) ak))))
def fc:FM:=fnM 1 ip
abbrev cM:Stmt:=top 12
def gF:SM:=(sIf (PD.gp (tV (ar fc (ab (ag 0) ak)))) oG bw)
def aK:FM:=fnM 1 gF
abbrev cN:Stmt:=top 34
def jx:SM:=(aB (bR (ar aK (ab (ag 0) ak))) (sIf (tV (eOp oGt (eB cn (ab (ag 0) ak)) (eC (.int (10))))) oG bw))
def cH:FM:=fnM 1 jx
abbrev eK:Stmt:=top 35
def nR:SM:=(aB (bh 3 nH) (aB (gw (fG (ag 0)) (.tp [(.nm 4),(.nm 5)]) (gw (cS (ag 2) cJ) (.nm 6) (aB (bh 7 (eOp bq (ag 4) (eOp cT (ag 6) (ag 1)))) (gR ez (eOp bq (fC (ag 3) (ag 7) (eC (.int 0))) (ag 5)) (ag 3) (ag 7))))) (bz (ag 3))))
def fw:FM:=fnM 8 nR
abbrev dQ:Stmt:=top 36
def lT:SM:=(aB (bh 2 (ly [((eC (.int 0)),(eC (.int 1)))])) (aB (gw (cS (ag 0) cJ) (.nm 3) (bh 2 (ar fw (ab (ag 2) (ab (ag 3) (ab (ag 1) ak)))))) (bz (ag 2))))
def bT:FM:=fnM 4 lT
abbrev cf:Stmt:=top 38
def iq:SM:=(aB (bR (ar cH (ab (ag 0) ak))) (bz (ar bT (ab (ag 0) (ab (eC (.tup (([(-1),(0),(1)]:List Int).map .int))) ak)))))
def aJ:FM:=fnM 1 iq
abbrev eL:Stmt:=top 27
def nT:SM:=(aB (bh 3 (eBR xV (ab (ag 0) ak))) (aB (bh 4 nH) (aB (gw (cS (eB kn (ab (ag 0) ak)) cJ) (.nm 5) (aB (bh 6 (eOp km (ag 3) (ag 5))) (sIf (tV (eOp oGt (ag 6) (eC (.int 0)))) (aB (gR ez (ag 6) (ag 4) (eOp bq (ag 5) (ag 1))) (gw (cS (ag 2) cJ) (.nm 7) (aB (sIf (tV (eOp oLt (fC (ag 3) (eOp bq (ag 5) (ag 7)) (eC (.int 0))) (ag 6))) (bz (eC .non)) bw) (gR ez (eOp mQ (eOp km (ag 3) (eOp bq (ag 5) (ag 7))) (ag 6)) (ag 3) (eOp bq (ag 5) (ag 7)))))) bw))) (bz (ag 4)))))
def dg:FM:=fnM 8 nT
abbrev bP:Stmt:=top 13
def fk:SM:=(sIf (PD.gp (tV (ar bf (ab (ag 0) ak)))) oG bw)
def aV:FM:=fnM 1 fk
abbrev bo:Stmt:=top 14
def fe:SM:=(aB (bR (ar aV (ab (ag 1) ak))) (sIf (tV (eOp oLt (ag 1) (ag 0))) oG bw))
def aP:FM:=fnM 2 fe
abbrev aT:Stmt:=top 26
def du:SM:=(aB (bR (ar br (ab (ag 0) ak))) (bR (ar aP (ab (eC (.int 1)) (ab (ag 1) ak)))))
def aN:FM:=fnM 2 du
abbrev bE:Stmt:=top 29
def fI:SM:=(aB (bR (ar aN (ab (ag 0) (ab (ag 1) ak)))) (bz (ar dg (ab (ag 0) (ab (ag 1) (ab (gu (ab (ag 1) (ab (eOp cT (eC (.int 2)) (ag 1)) ak))) ak))))))
def bU:FM:=fnM 2 fI
abbrev cg:Stmt:=top 37
def ir:SM:=(aB (bR (ar cH (ab (ag 0) ak))) (bz (ar bT (ab (ag 0) (ab (eC (.tup (([(-1),(1)]:List Int).map .int))) ak)))))
def aA:FM:=fnM 1 ir
abbrev cx:Stmt:=top 28
def iP:SM:=(aB (bR (ar aN (ab (ag 0) (ab (ag 1) ak)))) (bz (ar dg (ab (ag 0) (ab (ag 1) (ab (gu (ab (eOp cT (eC (.int 2)) (ag 1)) ak)) ak))))))
def dy:FM:=fnM 2 iP
abbrev dh:Stmt:=top 21
def kc:SM:=(aB (bR (ar aK (ab (ag 0) ak))) (aB (bR (ar aP (ab (eC (.int 0)) (ab (ag 1) ak)))) (aB (sIf (tV (eOp oGe (ag 1) (eB cn (ab (ag 0) ak)))) oG bw) (bz (eOp bq (eSl kl (ag 0) oNo (jh (ag 1))) (eSl kl (ag 0) (jh (eOp bq (ag 1) (eC (.int 1)))) oNo))))))
def ff:FM:=fnM 2 kc
abbrev bp:Stmt:=top 51
def fg:SM:=(aB (sC 2 3 (ab (eOp oIx (ag 0) (ag 1)) (ab (ar ff (ab (ag 0) (ab (ag 1) ak))) ak))) (aB (sC 4 5 (ab (ar dy (ab (ar aA (ab (ag 0) ak)) (ab (ag 2) ak))) (ab (ar bU (ab (ar aJ (ab (ag 0) ak)) (ab (ag 2) ak))) ak))) (aB (sIf (PD.tOr (tV (eOp fW (ag 4) (ar aA (ab (ag 3) ak)))) (tV (eOp fW (ag 5) (ar aJ (ab (ag 3) ak))))) (bz (eC (.bl false))) bw) (aB (bh 6 (ly [((ag 2),(eC (.int 1)))])) (aB (gR ez (eC (.int 1)) (ag 6) (eOp mQ (eC (.int 0)) (ag 2))) (aB (sIf (tV (eOp fW (iO 6 (ar aU (ab (ag 4) (ab (ag 6) ak)))) (ar aA (ab (ag 0) ak)))) (bz (eC (.bl false))) bw) (aB (gR ez (eC (.int 1)) (ag 6) (eC (.int 0))) (bz (eOp mW (ar aU (ab (ag 5) (ab (ag 6) ak))) (ar aJ (ab (ag 0) ak)))))))))))
def bA:FM:=fnM 7 fg
abbrev dR:Stmt:=top 49
def lU:SM:=(aB (bh 2 (ar aM (ab (ag 0) (ab (eOp bq (ag 1) (eC (.int 1))) ak)))) (aB (bh 3 (ar aM (ab (ag 0) (ab (eC (.int 6)) ak)))) (aB (bh 4 (eOp bq (eC (.int 1)) (ar aM (ab (ag 0) (ab (eC (.int 9)) ak))))) (aB (bh 5 (eNew ak)) (aB (gw (cY (ab (ag 2) ak)) (.nm 6) (aB (bh 7 (eOp bq (eC (.int 1)) (ar aM (ab (ag 0) (ab (eC (.int 12)) ak))))) (bR (mT eV (ag 5) (ab (eOp oIx (vS (ab (ag 7) (ab (ag 7) (ab (ag 4) (ab (eOp sJ (eC (.int 1)) (ag 6)) (ab (eOp bq (ag 4) (eOp cT (ag 6) (ag 7))) (ab (eOp bq (eOp cT (eOp sH (eC (.int 10)) (eC (.int 12))) (ag 7)) (ag 4)) ak))))))) (ag 3)) ak))))) (bz (eB fj (ab (ag 5) ak))))))))
def dH:FM:=fnM 8 lU
abbrev eM:Stmt:=top 18
def nU:SM:=(aB (bR (ar aK (ab (ag 0) ak))) (aB (bR (ar aP (ab (eC (.int 1)) (ab (ag 1) ak)))) (bz (eB fj (ab (bJ (cS (ag 0) cJ) 1 [1] (.nm 0) bO (eOp cT (ag 0) (ag 1))) ak)))))
def eN:FM:=fnM 2 nU
abbrev dS:Stmt:=top 17
def lV:SM:=(aB (bR (ar aK (ab (ag 0) ak))) (aB (bR (ar aK (ab (ag 1) ak))) (aB (sIf (tV (eOp oGt (eOp bq (eB cn (ab (ag 0) ak)) (eB cn (ab (ag 1) ak))) (eC (.int (16))))) oG bw) (bz (eOp bq (ag 0) (ag 1))))))
def fJ:FM:=fnM 2 lV
abbrev di:Stmt:=top 10
def kf:SM:=(bz (g4 (eB gS (ab (ag 0) (ab (eC (.ty "tuple")) ak))) (g4 (eOp jk (eB cn (ab (ag 0) ak)) (ag 1)) (eB mS (ab (bJ (cS (ag 0) cJ) 1 [] (.nm 0) bO (ar bf (ab (ag 0) ak))) ak)))))
def fh:FM:=fnM 2 kf
abbrev dU:Stmt:=top 19
def lW:SM:=(bz (g4 (ar fh (ab (ag 0) (ab (eB cn (ab (ag 1) ak)) ak))) (eOp jk (eB kn (ab (ag 0) ak)) (eB zX (ab (eB cn (ab (ag 1) ak)) ak)))))
def fK:FM:=fnM 2 lW
abbrev eO:Stmt:=top 20
def nV:SM:=(aB (bR (ar aK (ab (ag 0) ak))) (aB (sIf (PD.gp (tV (ar fK (ab (ag 1) (ab (ag 0) ak))))) oG bw) (bz (eB fj (ab (bJ (cS (ag 1) cJ) 1 [0] (.nm 0) bO (eOp oIx (ag 1) (ag 0))) ak)))))
def gk:FM:=fnM 2 nV
abbrev dj:Stmt:=top 25
def kg:SM:=(aB (bR (ar br (ab (ag 0) ak))) (aB (bR (ar aV (ab (ag 1) ak))) (bz (eBR tf (ab (bJ (fG (ag 0)) 2 [1] (.tp [(.nm 0),(.nm 1)]) bO (gu (ab (eOp bq (ag 0) (ag 2)) (ab (ag 1) ak)))) ak)))))
def cV:FM:=fnM 2 kg
abbrev aY:Stmt:=top 15
def dW:SM:=(aB (bR (ar aK (ab (ag 0) ak))) (bR (ar aV (ab (ag 1) ak))))
def bB:FM:=fnM 2 dW
abbrev dk:Stmt:=top 40
def kh:SM:=(aB (bh 1 (eOp j7 (eB cn (ab (ag 0) ak)) (eC (.int 2)))) (bz (gu (ab (eSl kl (ag 0) oNo (jh (ag 1))) (ab (eSl kl (ag 0) (jh (ag 1)) oNo) ak)))))
def dX:FM:=fnM 2 kh
abbrev bQ:Stmt:=top 41
def gP:SM:=(aB (bR (ar aK (ab (ag 0) ak))) (bz (eB fj (ab (bJ (cS (ar dX (ab (ag 0) ak)) cJ) 1 [] (.nm 0) bO (eB fj (ab (eB kn (ab (ar bT (ab (ag 0) (ab (eC (.tup (([(-1),(1)]:List Int).map .int))) ak))) ak)) ak))) ak))))
def cK:FM:=fnM 1 gP
abbrev fx:Stmt:=top 42
def rh:SM:=(aB (bh 2 (ar cK (ab (ag 0) ak))) (aB (bh 3 (eNew ak)) (aB (bh 4 (eC (.int 0))) (aB (bh 5 (eOp mQ (eB cn (ab (eOp oIx (ag 2) (eC (.int 1))) ak)) (eC (.int 1)))) (aB (sWh (PD.gY (tV (eOp oLt (ag 4) (eB cn (ab (eOp oIx (ag 2) (eC (.int 0))) ak)))) (tV (eOp oGe (ag 5) (eC (.int 0))))) (aB (bh 6 (eOp bq (eOp oIx (eOp oIx (ag 2) (eC (.int 0))) (ag 4)) (eOp oIx (eOp oIx (ag 2) (eC (.int 1))) (ag 5)))) (aB (bR (mT eV (ag 3) (ab (gu (ab (ag 4) (ab (ag 5) (ab (ag 6) ak)))) ak))) (sIf (tV (eOp oLt (ag 6) (ag 1))) (bh 4 (eOp bq (ag 4) (eC (.int 1)))) (bh 5 (eOp mQ (ag 5) (eC (.int 1)))))))) (bz (ag 3)))))))
def gm:FM:=fnM 7 rh
abbrev eP:Stmt:=top 43
def nW:SM:=(aB (bR (ar bB (ab (ag 0) (ab (ag 1) ak)))) (bz (eB qY (ab (bJ (xJ (ar gm (ab (ag 0) (ab (ag 1) ak)))) 3 [1] (.tp [(.nm 0),(.nm 1),(.nm 2)]) (tV (eOp oGe (ag 2) (ag 3))) (ag 2)) ak))))
def gn:FM:=fnM 2 nW
abbrev cj:Stmt:=top 45
def iu:SM:=(bz (ar gn (ab (ag 0) (ab (eC (.int 0)) ak))))
def bV:FM:=fnM 1 iu
abbrev iw:Stmt:=top 52
def A4:SM:=(aB (gw (cY (ab (eB xl (ab (eC (.int 1)) (ab (eB xm (ab (eB cn (ab (ag 0) ak)) (ab (eC (.int 3)) ak))) ak))) ak)) (.nm 1) (aB (bh 2 (ar dG (ab (ag 0) (ab (ag 1) ak)))) (aB (sC 3 4 (ab (ar dH (ab (ag 2) (ab (eC (.int 5)) ak))) (ab (ar dH (ab (ag 2) (ab (eC (.int 5)) ak))) ak))) (aB (bh 5 (ar fJ (ab (ag 3) (ab (ag 4) ak)))) (aB (sIf (tV (eOp fW (ar aA (ab (ag 5) ak)) (ar aU (ab (ar aA (ab (ag 3) ak)) (ab (ar aA (ab (ag 4) ak)) ak))))) (bz (eC (.bl false))) bw) (aB (sIf (PD.gY (tV (eOp oLt (eB cn (ab (ag 5) ak)) (eC (.int 8)))) (tV (eOp fW (ar aJ (ab (ag 5) ak)) (ar aU (ab (ar aJ (ab (ag 3) ak)) (ab (ar aJ (ab (ag 4) ak)) ak)))))) (bz (eC (.bl false))) bw) (aB (sIf (tV (eOp fW (ar aA (ab (ar gk (ab (ag 5) (ab (ar eh (ab (ag 2) (ab (eB cn (ab (ag 5) ak)) ak))) ak))) ak)) (ar aA (ab (ag 5) ak)))) (bz (eC (.bl false))) bw) (aB (bh 6 (eOp bq (eC (.int 1)) (ar aM (ab (ag 2) (ab (eC (.int 9)) ak))))) (aB (bh 7 (ar aA (ab (ag 3) ak))) (aB (sIf (tV (eOp fW (ar aA (ab (ar eN (ab (ag 3) (ab (ag 6) ak))) ak)) (eBR tf (ab (iO 7 (bJ (nJ (ag 7)) 1 [6,7] (.nm 0) bO (gu (ab (eOp cT (ag 0) (ag 1)) (ab (eOp km (ag 2) (ag 0)) ak))))) ak)))) (bz (eC (.bl false))) bw) (aB (sIf (PD.tOr (tV (eOp jN (ar bV (ab (ar eN (ab (ag 5) (ab (ag 6) ak))) ak)) (eOp cT (ag 6) (ar bV (ab (ag 5) ak))))) (tV (eOp fW (ar cV (ab (ar cV (ab (ag 7) (ab (ag 6) ak))) (ab (eOp mQ (eC (.int 0)) (ag 6)) ak))) (ag 7)))) (bz (eC (.bl false))) bw) (sIf (PD.gY (tV (eOp jN (ag 3) (gu ak))) (PD.gp (tV (ar bA (ab (ag 3) (ab (ar aM (ab (ag 2) (ab (eB cn (ab (ag 3) ak)) ak))) ak)))))) (bz (eC (.bl false))) bw)))))))))))) (bz (eC (.bl true))))
def uV:FM:=fnM 8 A4
structure Gr (b:Nat) (S S':Sto):Prop where
 bx:∃ n,S'[b]?=some (.lst [.int n])
 oth:∀ i,i ≠ b→i < S.length→S'[i]?=S[i]?
 len:S.length≤S'.length
theorem Gr.trans {b:Nat} {S S1 S2:Sto} (x:Gr b S S1) (y:Gr b S1 S2):Gr b S S2:=
 ⟨y.bx,fun i h l=>(y.oth i h (Nat.lt_of_lt_of_le l x.len)).trans (x.oth i h l),Nat.le_trans x.len y.len⟩
theorem Gr.self {b:Nat} {S S1:Sto} (x:Gr b S S1):Gr b S1 S1:=⟨x.bx,fun _ _ _=>rfl,Nat.le_refl _⟩
theorem Gr.more {b:Nat} {S S1:Sto} (x:Gr b S S1) (l:Sto):Gr b S (S1 ++ l):=by
 obtain ⟨n,hn⟩:=x.bx
 have hb:b < S1.length:=(List.getElem?_eq_some_iff.mp hn).1
 refine ⟨⟨n,by rw [List.getElem?_append_left hb]; exact hn⟩,fun i h hl=>?_,by rw [List.length_append]; have:=x.len; omega⟩
 rw [List.getElem?_append_left (Nat.lt_of_lt_of_le hl x.len)]
 exact x.oth i h hl
theorem z5 {S:Sto} {b:Nat} {n many:Int} (h:S[b]?=some (.lst [.int n])) (h0:0 < many) (h1:many < 1073741824):aM [.ref b,.int many] S=.ok (.int (n % many)) (S.set b (.lst [.int (n / many)])):=by
 simp [aM,fnM,ie,aB,BY,gR,bz,eB,eOp,ag,eC,ab,ak,R.bind,R.of,oIx,dm,h,atI,ixN,kJ,h0,h1,G.put,G.puts,xo]
theorem gG {S:Sto} {b:Nat} (h:Gr b S S) {many:Int} (h0:0 < many) (h1:many < 1073741824):∃ q S',aM [.ref b,.int many] S=.ok (.int q) S'∧0≤q∧q < many∧Gr b S S':=by
 obtain ⟨n,hn⟩:=h.bx
 have hb:b < S.length:=(List.getElem?_eq_some_iff.mp hn).1
 refine ⟨_,_,z5 hn h0 h1,Int.emod_nonneg _ (by omega),Int.emod_lt_of_pos _ h0,⟨n / many,by simp [hb]⟩,fun i hi _=>?_,by simp⟩
 rw [List.getElem?_set_ne (Ne.symm hi)]
abbrev kL:SM:=(aB (bh 5 (eOp oMod (eOp bq (eOp bq (eOp cT (eOp oMod (ag 2) (eC (.int 2147483647))) (eC (.int 48271))) (eOp cT (eC (.int 7919)) (ag 4))) (eC (.int 1))) (eC (.int 2147483647)))) (aB (bh 5 (eOp oMod (eOp cT (ag 5) (ag 5)) (eC (.int 2147483629)))) (bh 3 (eOp bq (eOp cT (ag 3) (eC (.int 2147483647))) (eOp oMod (eOp cT (ag 5) (eOp bq (ag 5) (eC (.int 13)))) (eC (.int 2147483647)))))))
theorem xW (S:Sto) (a b:Option D) (h n j:Int) (r5:Option D):∃ (n':Int) (x:Int),kL [a,b,some (.int h),some (.int n),some (.int j),r5] S=.ok (.nx [a,b,some (.int h),some (.int n'),some (.int j),some (.int x)]) S:=by
 have s1:cw 48271:=by decide
 have s2:cw 7919:=by decide
 have s3:cw 2147483647:=by decide
 have h1:∀ y:Int,cw (y % 2147483647):=fun y=>by
  have:=Int.emod_nonneg y (show (2147483647:Int) ≠ 0 by decide)
  have:=Int.emod_lt_of_pos y (show (0:Int) < 2147483647 by decide)
  exact ⟨by omega,by omega⟩
 have h2:∀ y:Int,cw (y % 2147483629):=fun y=>by
  have:=Int.emod_nonneg y (show (2147483629:Int) ≠ 0 by decide)
  have:=Int.emod_lt_of_pos y (show (0:Int) < 2147483629 by decide)
  exact ⟨by omega,by omega⟩
 refine ⟨n * 2147483647 + ((h % 2147483647 * 48271 + 7919 * j + 1) % 2147483647 * ((h % 2147483647 * 48271 + 7919 * j + 1) % 2147483647) % 2147483629) * ((h % 2147483647 * 48271 + 7919 * j + 1) % 2147483647 * ((h % 2147483647 * 48271 + 7919 * j + 1) % 2147483647) % 2147483629 + 13) % 2147483647,(h % 2147483647 * 48271 + 7919 * j + 1) % 2147483647 * ((h % 2147483647 * 48271 + 7919 * j + 1) % 2147483647) % 2147483629,?_⟩
 simp only [kL,aB,bh,eOp,ag,eC,R.bind,R.of,oMod,bq,List.getElem?_cons_zero,List.getElem?_cons_succ,List.set_cons_zero,List.set_cons_succ,dv (.inr s1),dv (.inl s2),dv (.inr s3),dv (.inl (h1 _)),dv (.inl (h2 _)),Int.reduceLT,if_true]
theorem rj (h:Int):∀ (l:List Nat) (S:Sto) (a b:Option D) (n:Int) (j r5:Option D),∃ (n':Int) (j' r5':Option D),
  forL (.nm 4) kL (l.map fun (i:Nat)=>D.int i) [a,b,some (.int h),some (.int n),j,r5] S=.ok (.nx [a,b,some (.int h),some (.int n'),j',r5']) S
 | [],S,a,b,n,j,r5=>⟨n,j,r5,rfl⟩
 | i :: l,S,a,b,n,j,r5=>by
  obtain ⟨n1,x,e1⟩:=xW S a b h n i r5
  obtain ⟨n',j',r5',e⟩:=rj h l S a b n1 (some (.int i)) (some (.int x))
  refine ⟨n',j',r5',?_⟩
  rw [List.map_cons,forL]
  simp only [G.put,List.set_cons_zero,List.set_cons_succ,e1,R.bind_ok]
  exact e
theorem CB (ns:List Int) (k:Nat) (S:Sto):∃ v:Int,dG [.fz (ns.map .int),.int k] S=.ok (.ref S.length) (S ++ [.lst [.int v]]):=by
 have hz:(1:Nat)≤sizeLine:=by decide
 have s2:cw 7919:=by decide
 have rest:∀ c:Int,∃ v:Int,(aB (sIf (tV (eOp jk (eOp oMod (ag 2) (eC (.int 2))) (eC (.int 0)))) (bz (eNew (ab (eOp j7 (ag 2) (eC (.int 2))) ak))) bw) (aB (bh 3 (eC (.int 0))) (aB (gw (cY (ab (eC (.int 16)) ak)) (.nm 4) kL) (bz (eNew (ab (ag 3) ak)))))) [some (.fz (ns.map .int)),some (.int k),some (.int c),none,none,none] S=.ok (.rt (.ref S.length)) (S ++ [.lst [.int v]]):=fun c=>by
  by_cases hc:c % 2=0
  ·refine ⟨c / 2,?_⟩
   simp [aB,bh,sIf,bz,bw,tV,eNew,eB,ar,eOp,ag,eC,ab,ak,R.bind,R.of,oMod,jk,eqP,eqS,hc,j7,hz]
  ·obtain ⟨n',j',r5',e⟩:=rj c (List.range 16) S (some (.fz (ns.map .int))) (some (.int k)) 0 none none
   refine ⟨n',?_⟩
   have hr:(16:Int).toNat=16:=rfl
   simp only [aB,bh,sIf,bz,bw,tV,eNew,eB,ar,eOp,ag,eC,ab,ak,R.bind,R.of,oMod,jk,eqP,eqS,hc,gw,cY,hz,List.getElem?_cons_zero,List.getElem?_cons_succ,List.set_cons_zero,List.set_cons_succ,Int.reduceLT,if_true,decide_false,Option.map_some,Bool.false_eq_true,if_false,Int.reduceLE,and_self,Int.reducePow,Int.reduceNeg,hr,e,List.length_cons,List.length_nil,Nat.reduceAdd]
 by_cases hk:k < ns.length
 ·obtain ⟨v,e⟩:=rest (ns.getD k 0)
  refine ⟨v,?_⟩
  have hi:atI (ns.map D.int) (k:Int)=some (.int (ns.getD k 0)):=by simp [atI,ixN,hk]
  have hk':(k:Int) < (ns.length:Int):=by omega
  unfold dG fnM gE
  simp only [List.map_cons,List.map_nil,List.length_cons,List.length_nil,Nat.reduceAdd,Nat.reduceSub,List.replicate,List.cons_append,List.nil_append]
  rw [aB]
  simp only [bh,eOp,ag,eC,R.bind,R.of,bq,dv (.inl s2),List.getElem?_cons_zero,List.getElem?_cons_succ,List.set_cons_zero,List.set_cons_succ]
  rw [aB]
  simp only [sIf,bh,bw,tV,eB,eOp,ag,eC,ab,ak,R.bind,R.of,oIx,dm,mR,cn,List.length_map,hk',decide_true,if_true,hi,List.getElem?_cons_zero,List.getElem?_cons_succ,List.set_cons_zero,List.set_cons_succ,Option.map_some]
  rw [e]
 ·obtain ⟨v,e⟩:=rest (7919 * (k:Int) + 13)
  refine ⟨v,?_⟩
  have hk':¬ (k:Int) < (ns.length:Int):=by omega
  unfold dG fnM gE
  simp only [List.map_cons,List.map_nil,List.length_cons,List.length_nil,Nat.reduceAdd,Nat.reduceSub,List.replicate,List.cons_append,List.nil_append]
  rw [aB]
  simp only [bh,eOp,ag,eC,R.bind,R.of,bq,dv (.inl s2),List.getElem?_cons_zero,List.getElem?_cons_succ,List.set_cons_zero,List.set_cons_succ]
  rw [aB]
  simp only [sIf,bh,bw,tV,eB,eOp,ag,eC,ab,ak,R.bind,R.of,oIx,dm,mR,cn,List.length_map,hk',decide_false,Bool.false_eq_true,if_false,List.getElem?_cons_zero,List.getElem?_cons_succ,List.set_cons_zero,List.set_cons_succ,Option.map_some]
  rw [e]
def tj:D→Bool
 | .fz _=>false
 | .ref _=>false
 | .ty _=>false
 | .exc _=>false
 | .cls _=>false
 | _=>true
def isI:D→Bool
 | .int _=>true
 | _=>false
theorem lX {d:D} {S:Sto} (h:tj d=true):bf [d] S=.ok (.bl (isI d)) S:=by
 cases d <;> first | (cases h; done) | (simp [bf,fnM,i6,bz,g4,BX,eB,ag,eC,ab,ak,R.bind,R.of,gS,tyD,gA,isI])
def uW:D→Bool
 | .int i=>decide (1≤i)
 | _=>false
theorem fR {A:Type} (f:A→Bool):∀ xs:List A,boolsOf (xs.map fun x=>D.bl (f x))=some (xs.map f)
 | []=>rfl
 | x :: xs=>by rw [List.map_cons,boolsOf,fR f xs]; rfl
theorem nX {e:EM} {f:D→Bool} {tl:Rho}:∀ (xs:List D) (r0:Option D) (S:Sto),(∀ x ∈ xs,e (some x :: tl) S=.ok (.bl (f x)) S)→eu (.nm 0) bO e xs (r0 :: tl) S=.ok (xs.map fun x=>D.bl (f x)) S
 | [],_,_,_=>rfl
 | x :: xs,r0,S,h=>by
  have h1:=h x List.mem_cons_self
  have h2:=nX xs (some x) S fun y hy=>h y (List.mem_cons_of_mem _ hy)
  rw [eu]
  simp only [G.put,List.set_cons_zero,bO,R.bind_ok,if_true,h1,h2,List.map_cons]
def nY:D→Bool
 | .tup xs=>decide (xs.length≤16) && xs.all uW
 | _=>false
def z7 (d:D):Prop:=tj d=true∧∀ xs,d=.tup xs→(∀ x ∈ xs,tj x=true)∧xs.length≤1000
theorem CC {x:D} {S:Sto} (h:tj x=true):(g4 (ar bf (ab (ag 0) ak)) (eOp oGe (ag 0) (eC (.int 1)))) [some x] S=.ok (.bl (uW x)) S:=by
 have:=lX (S:=S) h
 cases x <;> first | (cases h; done) | (simp [g4,ar,eOp,ag,eC,ab,ak,R.bind,R.of,this,isI,uW,mR])
theorem xX {d:D} {S:Sto} (h:z7 d):fc [d] S=.ok (.bl (nY d)) S:=by
 cases d with
 | tup xs=>
  obtain ⟨hs,hl⟩:=h.2 xs rfl
  have hc:=nX (tl:=[]) (f:=uW) xs none S fun x hx=>CC (hs x hx)
  have z:xs.length≤sizeLine:=Nat.le_trans hl (by decide)
  by_cases h16:xs.length≤16
  ·have h16':¬ (16:Int) < (xs.length:Int):=by omega
   simp only [fc,fnM,ip,aB,sIf,bz,bw,PD.tOr,PD.gp,tV,eB,bJ,cS,cJ,fy,eOp,ag,eC,ab,ak,R.bind,R.of,gS,tyD,cn,dm,mR,mS,List.map_cons,List.map_nil,List.length_cons,List.length_nil,List.replicate,List.cons_append,List.nil_append,List.append_nil,Nat.reduceAdd,Nat.reduceSub,List.getElem?_cons_zero,h16',decide_false,Bool.false_eq_true,if_false,z,if_true,hc,fR,Option.map_some,nY,h16,decide_true,Bool.true_and]
   simp [gA]
   simp [z,hc,fR,mS,R.of,R.bind,bz,eB,ab]
  ·have h16':(16:Int) < (xs.length:Int):=by omega
   simp [fc,fnM,ip,aB,sIf,bz,bw,PD.tOr,PD.gp,tV,eB,eOp,ag,eC,ab,ak,R.bind,R.of,gS,tyD,cn,dm,mR,gA,nY,h16,h16']
 | _=>first | (cases h.1; done) | (simp [fc,fnM,ip,aB,sIf,bz,bw,PD.tOr,PD.gp,tV,eB,eOp,ag,eC,ab,ak,R.bind,R.of,gS,tyD,gA,nY])
theorem CD {S:Sto} {i j:Int}:jN S (.int i) (.int j)=some (.bl (!decide (i=j))):=rfl
theorem CF {S:Sto} {i j:Int}:jk S (.int i) (.int j)=some (.bl (decide (i=j))):=rfl
theorem av {a b:SM} {r r1:Rho} {S S1:Sto} (h:a r S=.ok (.nx r1) S1):aB a b r S=b r1 S1:=by
 unfold aB
 rw [h]
 rfl
def Row (xs:List Int):Prop:=(∀ x ∈ xs,1≤x)∧xs.length≤16
theorem nZ {xs:List Int} (h:xs.length≤1000):z7 (.tup (xs.map .int)):=⟨rfl,fun ys e=>by
 cases e
 refine ⟨fun x hx=>?_,by rw [List.length_map]; exact h⟩
 obtain ⟨i,_,rfl⟩:=List.mem_map.mp hx
 rfl⟩
theorem Row.okay {xs:List Int} (h:Row xs):z7 (.tup (xs.map .int)):=nZ (by have:=h.2; omega)
theorem Row.is {xs:List Int} (h:Row xs):nY (.tup (xs.map .int))=true:=by
 unfold nY
 rw [Bool.and_eq_true]
 refine ⟨by rw [List.length_map]; exact decide_eq_true h.2,List.all_eq_true.mpr fun x hx=>?_⟩
 obtain ⟨i,hi,rfl⟩:=List.mem_map.mp hx
 exact decide_eq_true (h.1 i hi)
theorem eY {it:AM} {g:PD.G} {b:SM} {r:Rho} {S S1:Sto} {xs:List D} (h:it r S=.ok xs S1):gw it g b r S=forL g b xs r S1:=by unfold gw; rw [h,R.bind_ok]
theorem bI {n:Nat} {b:SM} {ds:List D} {ρ:Rho} {S S1:Sto} {d:D} (hρ:ds.map some ++ List.replicate (n - ds.length) none = ρ) (h:b ρ S=.ok (.rt d) S1):fnM n b ds S=.ok d S1:=by unfold fnM; rw [hρ,h,R.bind_ok]
theorem jS {n:Nat} {b:SM} {ds:List D} {ρ ρ':Rho} {S S1:Sto} (hρ:ds.map some ++ List.replicate (n - ds.length) none = ρ) (h:b ρ S=.ok (.nx ρ') S1):fnM n b ds S=.ok .non S1:=by unfold fnM; rw [hρ,h,R.bind_ok]
theorem uX {a b:SM} {r:Rho} {S S1:Sto} {d:D} (h:a r S=.ok (.rt d) S1):aB a b r S=.ok (.rt d) S1:=by unfold aB; rw [h,R.bind_ok]
theorem bc {i:Nat} {a:EM} {r:Rho} {S S1:Sto} {d:D} (h:a r S=.ok d S1):bh i a r S=.ok (.nx (r.set i (some d))) S1:=by unfold bh; rw [h,R.bind_ok]
theorem bj {a:EM} {r:Rho} {S S1:Sto} {d:D} (h:a r S=.ok d S1):bz a r S=.ok (.rt d) S1:=by unfold bz; rw [h,R.bind_ok]
theorem uY {t:TM} {a b:SM} {r:Rho} {S S1:Sto} (h:t r S=.ok true S1):sIf t a b r S=a r S1:=by unfold sIf; rw [h,R.bind_ok]; exact if_pos rfl
theorem ei {t:TM} {a b:SM} {r:Rho} {S S1:Sto} (h:t r S=.ok false S1):sIf t a b r S=b r S1:=by unfold sIf; rw [h,R.bind_ok]; exact if_neg Bool.false_ne_true
theorem aW {a:EM} {r:Rho} {S S1:Sto} {d:D} (h:a r S=.ok d S1):bR a r S=.ok (.nx r) S1:=by unfold bR; rw [h,R.bind_ok]
theorem cO {g:PD.G} {b:SM} {x:D} {xs:List D} {r r1 r2:Rho} {S S1:Sto} (hp:g.put x r=some r1) (h:b r1 S=.ok (.nx r2) S1):forL g b (x :: xs) r S=forL g b xs r2 S1:=by rw [forL]; simp only [hp,h,R.bind_ok]
theorem aq {f:FM} {t:AM} {r:Rho} {S S1:Sto} {xs:List D} (h:t r S=.ok xs S1):ar f t r S=f xs S1:=by unfold ar; rw [h,R.bind_ok]
theorem rm {a:EM} {g:PD.G} {b:SM} {r:Rho} {S S1:Sto} {d:D} {xs:List D} (h:a r S=.ok d S1) (hi:cJ S1 d=some xs):gw (cS a cJ) g b r S=forL g b xs r S1:=eY (by unfold cS; rw [h,R.bind_ok,hi]; rfl)
theorem uZ {g:PD.G} {b:SM} {x:D} {xs:List D} {r r1:Rho} {S S1:Sto} {d:D} (hp:g.put x r=some r1) (h:b r1 S=.ok (.rt d) S1):forL g b (x :: xs) r S=.ok (.rt d) S1:=by rw [forL]; simp only [hp,h,R.bind_ok]
theorem ax {f:Sto→D→D→Option D} {a b:EM} {r:Rho} {S S1 S2:Sto} {x y z:D} (h1:a r S=.ok x S1) (h2:b r S1=.ok y S2) (h3:f S2 x y=some z):eOp f a b r S=.ok z S2:=by unfold eOp; rw [h1,R.bind_ok,h2,R.bind_ok,h3]; rfl
theorem bW {f:Sto→List D→Option D} {t:AM} {r:Rho} {S S1:Sto} {xs:List D} {z:D} (h1:t r S=.ok xs S1) (h3:f S1 xs=some z):eB f t r S=.ok z S1:=by unfold eB; rw [h1,R.bind_ok,h3]; rfl
theorem ae {a:EM} {t:AM} {r:Rho} {S S1 S2:Sto} {x:D} {xs:List D} (h1:a r S=.ok x S1) (h2:t r S1=.ok xs S2):ab a t r S=.ok (x :: xs) S2:=by unfold ab; rw [h1,R.bind_ok,h2,R.bind_ok]
theorem cy {a:EM} {r:Rho} {S S1:Sto} {b:Bool} (h:a r S=.ok (.bl b) S1):tV a r S=.ok b S1:=by unfold tV; rw [h,R.bind_ok]
theorem jy {a:TM} {r:Rho} {S S1:Sto} {b:Bool} (h:a r S=.ok b S1):PD.gp a r S=.ok (!b) S1:=by unfold PD.gp; rw [h,R.bind_ok]
theorem pq {f:Sto→D→List D→R D} {o:EM} {t:AM} {r:Rho} {S S1 S2:Sto} {x:D} {ys:List D} (h1:o r S=.ok x S1) (hl:isL S1 x=true) (h2:t r S1=.ok ys S2):mT f o t r S=f S2 x ys:=by unfold mT; rw [h1,R.bind_ok,if_pos hl,h2,R.bind_ok]
theorem DN {n:Int} (h0:0≤n) (h:n≤100000):n < 2 ^ 62∧-(2 ^ 62)≤n:=⟨by omega,by omega⟩
theorem ki {t:AM} {r:Rho} {S S1:Sto} {m:Int} (h:t r S=.ok [.int m] S1) (h0:0≤m) (h1:m≤100000):cY t r S=.ok ((List.range m.toNat).map fun (i:Nat)=>D.int i) S1:=by
 have hr:=DN h0 h1
 simp only [cY,h,R.bind,if_pos hr]
theorem lY {t:AM} {r:Rho} {S S1:Sto} {n:Nat} (h:t r S=.ok [.int (n:Int)] S1) (hn:n≤100000):cY t r S=.ok ((List.range n).map fun (i:Nat)=>D.int i) S1:=
 ki h (Int.natCast_nonneg n) (Int.ofNat_le.mpr hn)
theorem i7:∀ xs:List Int,intsOf (xs.map .int)=some xs
 | []=>rfl
 | x :: xs=>by rw [List.map_cons,intsOf,i7 xs]; rfl
theorem comp_map {A:Type} {enc out:A→D} {e:EM} {tl:Rho} {S:Sto}:∀ (xs:List A) (r0:Option D),(∀ x ∈ xs,e (some (enc x) :: tl) S=.ok (out x) S)→eu (.nm 0) bO e (xs.map enc) (r0 :: tl) S=.ok (xs.map out) S
 | [],_,_=>rfl
 | x :: xs,r0,h=>by
  have h1:=h x List.mem_cons_self
  have h2:=comp_map (out:=out) xs (some (enc x)) fun y hy=>h y (List.mem_cons_of_mem _ hy)
  rw [List.map_cons,eu]
  simp only [G.put,List.set_cons_zero,bO,R.bind_ok,if_true,h1,h2,List.map_cons]
theorem jT {A:Type} {enc out:A→D} {e:EM} {it:AM} {caps:List Nat} {tl r:Rho} {S:Sto} (xs:List A) (hi:it r S=.ok (xs.map enc) S) (hl:xs.length≤sizeLine) (hc:caps.map (fun i=>(r[i]?).join)=tl) (h:∀ x ∈ xs,e (some (enc x) :: tl) S=.ok (out x) S):bJ it 1 caps (.nm 0) bO e r S=.ok (.lst (xs.map out)) S:=by
 unfold bJ
 rw [hi,R.bind_ok,if_pos (by rw [List.length_map]; exact hl)]
 have:fy 1 caps r=none :: tl:=by unfold fy; rw [hc]; rfl
 rw [this,comp_map (out:=out) xs none h,R.bind_ok]
theorem rn {A:Type} {x1 x2:A→D} {out:A→D} {e:EM} {tl:Rho} {S:Sto}:∀ (xs:List A) (r0 r1:Option D),(∀ x ∈ xs,e (some (x1 x) :: some (x2 x) :: tl) S=.ok (out x) S)→eu (.tp [.nm 0,.nm 1]) bO e (xs.map fun x=>.tup [x1 x,x2 x]) (r0 :: r1 :: tl) S=.ok (xs.map out) S
 | [],_,_,_=>rfl
 | x :: xs,r0,r1,h=>by
  have h1:=h x List.mem_cons_self
  have h2:=rn (out:=out) xs (some (x1 x)) (some (x2 x)) fun y hy=>h y (List.mem_cons_of_mem _ hy)
  rw [List.map_cons,eu]
  simp only [G.put,G.puts,List.set_cons_zero,List.set_cons_succ,bO,R.bind_ok,if_true,h1,h2,List.map_cons]
theorem tm {i:Nat} {r:Rho} {S:Sto} {d:D} {xs:List D} (h:r[i]?=some (some d)) (hx:cJ S d=some xs):cS (ag i) cJ r S=.ok xs S:=by
 unfold cS ag
 rw [h]
 show R.bind (.ok d S) _=_
 rw [R.bind_ok,hx]; rfl
theorem aa {i:Nat} {r:Rho} {S:Sto} {d:D} (h:r[i]?=some (some d)):ag i r S=.ok d S:=by
 unfold ag; rw [h]
theorem gI {t:AM} {r:Rho} {S S1:Sto} {xs:List D} (h:t r S=.ok xs S1) (hl:xs.length≤sizeLine):gu t r S=.ok (.tup xs) S1:=by unfold gu; rw [h,R.bind_ok,if_pos hl]
theorem z8 {t:AM} {r:Rho} {S S1:Sto} {xs:List D} (h:t r S=.ok xs S1) (hl:xs.length≤sizeLine):vS t r S=.ok (.lst xs) S1:=by unfold vS; rw [h,R.bind_ok,if_pos hl]
theorem lZ {a b:EM} {r:Rho} {S S1:Sto} (h:a r S=.ok (.bl true) S1):g4 a b r S=b r S1:=by unfold g4; rw [h,R.bind_ok]
theorem xY {a b:EM} {r:Rho} {S S1:Sto} (h:a r S=.ok (.bl false) S1):g4 a b r S=.ok (.bl false) S1:=by unfold g4; rw [h,R.bind_ok]
theorem xZ {a b:TM} {r:Rho} {S S1:Sto} (h:a r S=.ok false S1):PD.tOr a b r S=b r S1:=by unfold PD.tOr; rw [h,R.bind_ok]; exact if_neg Bool.false_ne_true
theorem rp {A:Type} {S:Sto} {f:A→Bool} {xs:List A}:mS S [.lst (xs.map fun x=>D.bl (f x))]=some (.bl (xs.all f)):=by
 show Option.map (fun bs=>D.bl (bs.all id)) (boolsOf (xs.map fun x=>D.bl (f x)))=_
 rw [fR,Option.map_some,List.all_map]
 rfl
def Wo (K:List Int):List Int→Int→Prop
 | [],v=>v=0
 | x :: xs,v=>∃ q ∈ K,Wo K xs (v - x * q)
abbrev KP:List Int:=[-1,0,1]
abbrev KS:List Int:=[-1,1]
theorem we:∀ {a b:List Int},a.Perm b→a.sum=b.sum:=fun p=>by
 induction p with
 | nil=>rfl
 | cons x _ ih=>simp only [List.sum_cons,ih]
 | swap x y l=>simp only [List.sum_cons]; omega
 | trans _ _ h1 h2=>exact h1.trans h2
def wor:List Int→List Int→Int
 | x :: xs,q :: p=>x * q + wor xs p
 | _,_=>0
def ext (K:List Int) (f:List (List Int)):List (List Int):=f.flatMap fun p=>K.map fun k=>p ++ [k]
def kq (K:List Int):Nat→List (List Int)
 | 0=>[[]]
 | n + 1=>ext K (kq K n)
theorem cq {K:List Int}:∀ (n:Nat) (p:List Int),p ∈ kq K n↔p.length=n∧∀ q ∈ p,q ∈ K
 | 0,p=>by
  simp only [kq,List.mem_singleton]
  constructor
  ·rintro rfl; exact ⟨rfl,fun q h=>nomatch h⟩
  ·rintro ⟨h,_⟩; exact List.length_eq_zero_iff.mp h
 | n + 1,p=>by
  simp only [kq,ext,List.mem_flatMap,List.mem_map]
  constructor
  ·rintro ⟨p',h',k,hk,rfl⟩
   obtain ⟨h1,h2⟩:=(cq n p').mp h'
   refine ⟨by simp [h1],fun q hq=>?_⟩
   rcases List.mem_append.mp hq with hq | hq
   ·exact h2 q hq
   ·rw [List.mem_singleton.mp hq]; exact hk
  ·rintro ⟨h1,h2⟩
   have hne:p ≠ []:=fun h=>by rw [h] at h1; cases h1
   refine ⟨p.dropLast,(cq n _).mpr ⟨by rw [List.length_dropLast,h1]; rfl,fun q hq=>h2 q ((List.dropLast_sublist p).subset hq)⟩,p.getLast hne,h2 _ (List.getLast_mem hne),List.dropLast_concat_getLast hne⟩
theorem tq {K:List Int}:∀ (xs:List Int) (v:Int),Wo K xs v↔∃ p,(p.length=xs.length∧∀ q ∈ p,q ∈ K)∧wor xs p=v
 | [],v=>by
  constructor
  ·intro h; exact ⟨[],⟨rfl,fun q h=>nomatch h⟩,(show v=0 from h).symm⟩
  ·rintro ⟨p,⟨h,_⟩,e⟩
   cases List.length_eq_zero_iff.mp h
   exact e.symm
 | x :: xs,v=>by
  constructor
  ·rintro ⟨q,hq,h⟩
   obtain ⟨p,⟨h1,h2⟩,e⟩:=(tq xs _).mp h
   refine ⟨q :: p,⟨by simp [h1],fun r hr=>?_⟩,by show x * q + wor xs p=v; omega⟩
   rcases List.mem_cons.mp hr with rfl | hr
   ·exact hq
   ·exact h2 r hr
  ·rintro ⟨p,⟨h1,h2⟩,e⟩
   cases p with
   | nil=>cases h1
   | cons q p=>
    refine ⟨q,h2 q (.head _),(tq xs _).mpr ⟨p,⟨by simpa using h1,fun r hr=>h2 r (.tail _ hr)⟩,?_⟩⟩
    have e':x * q + wor xs p=v:=e
    omega
theorem mf {K xs:List Int} {v:Int}:Wo K xs v↔∃ p ∈ kq K xs.length,wor xs p=v:=by
 rw [tq]
 constructor
 ·rintro ⟨p,h,e⟩; exact ⟨p,(cq _ _).mpr h,e⟩
 ·rintro ⟨p,h,e⟩; exact ⟨p,(cq _ _).mp h,e⟩
theorem u5 (K:List Int):∀ f:List (List Int),(ext K f).length=f.length * K.length
 | []=>by simp [ext]
 | p :: f=>by
  have:=u5 K f
  simp only [ext,List.flatMap_cons,List.length_append,List.length_map,List.length_cons] at this ⊢
  rw [this,Nat.succ_mul]; omega
theorem mn (K:List Int):∀ n,(kq K n).length=K.length ^ n
 | 0=>rfl
 | n + 1=>by rw [kq,u5,mn K n,Nat.pow_succ]
abbrev tupI (xs:List Int):D:=.tup (xs.map .int)
theorem x8 {S:Sto} {a b:List D} (h:a.length + b.length≤sizeLine):bq S (.tup a) (.tup b)=some (.tup (a ++ b)):=if_pos h
theorem wg (kvs:List (KD × D)) (k:KD):(gB kvs k).isSome=kvs.any fun kv=>decide (kv.1=k):=by
 unfold gB
 rw [Option.isSome_map,Bool.eq_iff_iff,List.find?_isSome,List.any_eq_true]
theorem rq {o a b:EM} {r:Rho} {S S1 S2 S3:Sto} {d y z:D} {kvs kvs':List (KD × D)} {k:KD} (ho:o r S=.ok d S1) (hd:dq S1 d=some kvs) (ha:a r S1=.ok y S2) (hb:b r S2=.ok z S3) (hd3:dq S3 d=some kvs') (hk:jM y=some k):fC o a b r S=.ok ((gB kvs' k).getD z) S3:=by
 unfold fC
 rw [ho,R.bind_ok]
 simp only [hd,Option.isSome_some,if_true,ha,R.bind_ok,hb,hd3,hk]
theorem iF {f:Sto→D→D→D→Option Sto} {e o i:EM} {r:Rho} {S S1 S2 S3 S4:Sto} {v x y:D} (he:e r S=.ok v S1) (ho:o r S1=.ok x S2) (hi:i r S2=.ok y S3) (hf:f S3 x y v=some S4):gR f e o i r S=.ok (.nx r) S4:=by
 unfold gR
 rw [he,R.bind_ok,ho,R.bind_ok,hi,R.bind_ok,hf]
def fS (K:List Int) (x:Int) (f:List Int):List Int:=f.flatMap fun w=>K.map fun q=>w + q * x
def pT (T:List (Int × Int)) (k c:Int):List (Int × Int):=if T.any (fun e=>decide (e.1=k)) then T.map (fun e=>if e.1=k then (e.1,c) else e) else T ++ [(k,c)]
def gT (T:List (Int × Int)) (k:Int):Int:=((T.find? fun e=>decide (e.1=k)).map (·.2)).getD 0
def sumH (h:Int→Int) (T:List (Int × Int)):Int:=(T.map fun e=>h e.1 * e.2).sum
def Keys (T:List (Int × Int)):Prop:=T.Pairwise fun a b=>a.1 ≠ b.1
theorem ck (h:Int→Int) (e:Int × Int) (T:List (Int × Int)):sumH h (e :: T)=h e.1 * e.2 + sumH h T:=by simp [sumH]
theorem ix (h:Int→Int):∀ (A B:List (Int × Int)),sumH h (A ++ B)=sumH h A + sumH h B
 | [],B=>by simp [sumH]
 | e :: A,B=>by rw [List.cons_append,ck,ck,ix h A B]; omega
theorem tu {T:List (Int × Int)} {k:Int} (h:T.any (fun e=>decide (e.1=k))=false):gT T k=0:=by
 unfold gT
 have:(T.find? fun e=>decide (e.1=k))=none:=by
  rw [List.find?_eq_none]
  intro e he hd
  rw [List.any_eq_false] at h
  exact h e he hd
 rw [this]; rfl
theorem x9 {T:List (Int × Int)} {k c:Int} (h:∀ e ∈ T,e.1 ≠ k):T.map (fun e=>if e.1=k then (e.1,c) else e)=T:=by
 induction T with
 | nil=>rfl
 | cons e T ih=>
  rw [List.map_cons,if_neg (h e (.head _)),ih fun e he=>h e (.tail _ he)]
theorem pz (e:Int × Int) (T:List (Int × Int)) (k:Int):gT (e :: T) k=if e.1=k then e.2 else gT T k:=by
 unfold gT
 rw [List.find?_cons]
 by_cases h:e.1=k
 ·simp [h]
 ·simp [h]
theorem rA (h:Int→Int) {k c:Int}:∀ {T:List (Int × Int)},Keys T→T.any (fun e=>decide (e.1=k))=true→sumH h (T.map fun e=>if e.1=k then (e.1,c) else e)=sumH h T + h k * (c - gT T k)
 | [],_,ha=>by simp at ha
 | e :: T,hk,ha=>by
  have hk':=List.pairwise_cons.mp hk
  rw [List.map_cons,ck,ck,pz]
  by_cases he:e.1=k
  ·rw [if_pos he,if_pos he,x9 fun e' he' h=>hk'.1 e' he' (by rw [he,h])]
   simp only
   rw [he,Int.mul_sub]
   omega
  ·have ha':T.any (fun e=>decide (e.1=k))=true:=by
    simp only [List.any_cons,he,decide_false,Bool.false_or] at ha
    exact ha
   rw [if_neg he,if_neg he,rA h hk'.2 ha']
   omega
theorem u6 (h:Int→Int) {T:List (Int × Int)} (hk:Keys T) (k c:Int):sumH h (pT T k (gT T k + c))=sumH h T + h k * c:=by
 unfold pT
 cases ha:T.any (fun e=>decide (e.1=k)) with
 | true=>
  rw [if_pos rfl,rA h hk ha,show gT T k + c - gT T k=c by omega]
 | false=>
  rw [if_neg Bool.false_ne_true,ix,tu ha,ck]
  simp [sumH]
theorem pF {T:List (Int × Int)} (hk:Keys T) (k c:Int):Keys (pT T k c):=by
 unfold pT
 cases ha:T.any (fun e=>decide (e.1=k)) with
 | true=>
  rw [if_pos rfl]
  unfold Keys
  rw [List.pairwise_map]
  refine List.Pairwise.imp (fun {a b} h=>?_) hk
  split <;> split <;> exact h
 | false=>
  rw [if_neg Bool.false_ne_true]
  refine List.pairwise_append.mpr ⟨hk,List.pairwise_singleton _ _,fun a ha' b hb=>?_⟩
  rw [List.mem_singleton.mp hb]
  rw [List.any_eq_false] at ha
  have:=ha a ha'
  simpa using this
theorem CG (T:List (Int × Int)) (k c v:Int):(∃ e ∈ pT T k c,e.1=v)↔(∃ e ∈ T,e.1=v) ∨ v=k:=by
 unfold pT
 cases ha:T.any (fun e=>decide (e.1=k)) with
 | true=>
  rw [if_pos rfl]
  constructor
  ·rintro ⟨e,he,rfl⟩
   obtain ⟨e',he',rfl⟩:=List.mem_map.mp he
   refine .inl ⟨e',he',?_⟩
   split <;> rfl
  ·rintro (⟨e,he,rfl⟩ | rfl)
   ·exact ⟨_,List.mem_map.mpr ⟨e,he,rfl⟩,by split <;> rfl⟩
   ·rw [List.any_eq_true] at ha
    obtain ⟨e,he,hd⟩:=ha
    exact ⟨_,List.mem_map.mpr ⟨e,he,rfl⟩,by split <;> exact of_decide_eq_true hd⟩
 | false=>
  rw [if_neg Bool.false_ne_true]
  constructor
  ·rintro ⟨e,he,rfl⟩
   rcases List.mem_append.mp he with he | he
   ·exact .inl ⟨e,he,rfl⟩
   ·rw [List.mem_singleton.mp he]; exact .inr rfl
  ·rintro (⟨e,he,rfl⟩ | rfl)
   ·exact ⟨e,List.mem_append_left _ he,rfl⟩
   ·exact ⟨(v,c),List.mem_append_right _ (List.mem_singleton.mpr rfl),rfl⟩
theorem CH (T:List (Int × Int)) (k c:Int):(pT T k c).length≤T.length + 1:=by
 unfold pT
 split <;> simp
structure Hist (T:List (Int × Int)) (f:List Int):Prop where
 keys:Keys T
 mem:∀ v,(∃ e ∈ T,e.1=v)↔v ∈ f
 sum:∀ h:Int→Int,sumH h T=(f.map h).sum
 len:T.length≤f.length
theorem Hist.zero:Hist [(0,1)] [0]:=⟨List.pairwise_singleton _ _,fun v=>by simp [eq_comm],fun h=>by simp [sumH],Nat.le_refl _⟩
theorem rB:∀ (a b:List Int),(a ++ b).sum=a.sum + b.sum
 | [],b=>by simp
 | x :: a,b=>by rw [List.cons_append,List.sum_cons,List.sum_cons,rB a b]; omega
structure HistC (T:List (Int × Int)) (L:List (Int × Int)):Prop where
 keys:Keys T
 mem:∀ v,(∃ e ∈ T,e.1=v)↔∃ e ∈ L,e.1=v
 sum:∀ h:Int→Int,sumH h T=sumH h L
 len:T.length≤L.length
theorem HistC.nil:HistC [] []:=⟨List.Pairwise.nil,fun v=>by simp,fun h=>rfl,Nat.le_refl _⟩
theorem HistC.put {T L:List (Int × Int)} (h:HistC T L) (k c:Int):HistC (pT T k (gT T k + c)) (L ++ [(k,c)]):=by
 refine ⟨pF h.keys _ _,fun v=>?_,fun f=>?_,Nat.le_trans (CH _ _ _) (by have:=h.len; simp; omega)⟩
 ·rw [CG,h.mem v]
  constructor
  ·rintro (⟨e,he,e1⟩ | rfl)
   ·exact ⟨e,List.mem_append_left _ he,e1⟩
   ·exact ⟨(v,c),List.mem_append_right _ (List.mem_singleton.mpr rfl),rfl⟩
  ·rintro ⟨e,he,rfl⟩
   rcases List.mem_append.mp he with he | he
   ·exact .inl ⟨e,he,rfl⟩
   ·rw [List.mem_singleton.mp he]; exact .inr rfl
 ·rw [u6 f h.keys,h.sum f,ix,ck]
  simp [sumH]
def fm (K:List Int) (x:Int) (T:List (Int × Int)):List (Int × Int):=T.flatMap fun e=>K.map fun q=>(e.1 + q * x,e.2)
theorem n4 (K:List Int) (x:Int) (h:Int→Int):∀ T:List (Int × Int),sumH h (fm K x T)=sumH (fun y=>(K.map fun q=>h (y + q * x)).sum) T
 | []=>rfl
 | e :: T=>by
  have ih:=n4 K x h T
  unfold fm at ih ⊢
  rw [List.flatMap_cons,ix,ck,ih]
  congr 1
  have:∀ l:List Int,sumH h (l.map fun q=>(e.1 + q * x,e.2))=(l.map fun q=>h (e.1 + q * x)).sum * e.2:=fun l=>by
   induction l with
   | nil=>simp [sumH]
   | cons q l ih=>rw [List.map_cons,ck,List.map_cons,List.sum_cons,ih,Int.add_mul]
  exact this K
theorem tw (K:List Int) (x:Int) (h:Int→Int):∀ f:List Int,((fS K x f).map h).sum=(f.map fun y=>(K.map fun q=>h (y + q * x)).sum).sum
 | []=>rfl
 | w :: f=>by
  have ih:=tw K x h f
  unfold fS at ih ⊢
  rw [List.flatMap_cons,List.map_append,rB,ih,List.map_cons,List.sum_cons,List.map_map]
  rfl
theorem CI {K:List Int} {x v:Int} {f:List Int}:v ∈ fS K x f↔∃ w ∈ f,∃ q ∈ K,w + q * x=v:=by
 simp only [fS,List.mem_flatMap,List.mem_map]
theorem tD (K:List Int) (x:Int):∀ f:List Int,(fS K x f).length=f.length * K.length
 | []=>by simp [fS]
 | w :: f=>by
  have:=tD K x f
  simp only [fS,List.flatMap_cons,List.length_append,List.length_map,List.length_cons] at this ⊢
  rw [this,Nat.succ_mul]; omega
theorem g7 (K:List Int) (x:Int):∀ T:List (Int × Int),(fm K x T).length=T.length * K.length
 | []=>by simp [fm]
 | w :: f=>by
  have:=g7 K x f
  simp only [fm,List.flatMap_cons,List.length_append,List.length_map,List.length_cons] at this ⊢
  rw [this,Nat.succ_mul]; omega
theorem Hist.step {K:List Int} {x:Int} {T T':List (Int × Int)} {f:List Int} (h:Hist T f) (h':HistC T' (fm K x T)):Hist T' (fS K x f):=by
 refine ⟨h'.keys,fun v=>?_,fun g=>?_,?_⟩
 ·rw [h'.mem v,CI]
  simp only [fm,List.mem_flatMap,List.mem_map]
  constructor
  ·rintro ⟨e,⟨e0,he0,q,hq,rfl⟩,rfl⟩
   exact ⟨e0.1,(h.mem _).mp ⟨e0,he0,rfl⟩,q,hq,rfl⟩
  ·rintro ⟨w,hw,q,hq,rfl⟩
   obtain ⟨e0,he0,rfl⟩:=(h.mem w).mpr hw
   exact ⟨_,⟨e0,he0,q,hq,rfl⟩,rfl⟩
 ·rw [h'.sum g,n4,h.sum,tw]
 ·have:=h'.len
  rw [g7] at this
  rw [tD]
  exact Nat.le_trans this (Nat.mul_le_mul_right _ h.len)
theorem mq {k:Int}:∀ {T:List (Int × Int)},Keys T→sumH (fun y=>if y=k then 1 else 0) T=gT T k
 | [],_=>rfl
 | e :: T,hk=>by
  have hk':=List.pairwise_cons.mp hk
  rw [ck,pz]
  by_cases he:e.1=k
  ·rw [if_pos he,if_pos he,mq hk'.2,tu (by
    rw [List.any_eq_false]
    intro e' he' hd
    exact hk'.1 e' he' (by rw [he,of_decide_eq_true hd]))]
   omega
  ·rw [if_neg he,if_neg he,mq hk'.2]; omega
theorem pG (k:Int):∀ f:List Int,(f.map fun y=>if y=k then (1:Int) else 0).sum=(f.filter fun y=>decide (y=k)).length
 | []=>rfl
 | w :: f=>by
  rw [List.map_cons,List.sum_cons,pG k f,List.filter_cons]
  by_cases h:w=k
  ·simp [h]; omega
  ·simp [h]
theorem Hist.get {T:List (Int × Int)} {f:List Int} (h:Hist T f) (k:Int):gT T k=((f.filter fun y=>decide (y=k)).length:Int):=by
 rw [← mq h.keys,h.sum,pG]
theorem rC:∀ (xs p:List Int) (x q:Int),p.length=xs.length→wor (xs ++ [x]) (p ++ [q])=wor xs p + q * x
 | [],[],x,q,_=>by show x * q + 0=0 + q * x; rw [Int.mul_comm]; omega
 | y :: xs,r :: p,x,q,h=>by
  show y * r + wor (xs ++ [x]) (p ++ [q])=y * r + wor xs p + q * x
  rw [rC xs p x q (by simpa using h)]; omega
 | [],_ :: _,_,_,h=>by cases h
 | _ :: _,[],_,_,h=>by cases h
def wsL (K:List Int) (xs:List Int):List Int:=(kq K xs.length).map (wor xs)
theorem jz (K xs:List Int) (x:Int):wsL K (xs ++ [x])=fS K x (wsL K xs):=by
 unfold wsL fS
 rw [List.length_append,List.length_cons,List.length_nil]
 show (ext K (kq K xs.length)).map _=_
 unfold ext
 rw [List.map_flatMap,List.flatMap_map]
 have:∀ l:List (List Int),(∀ p ∈ l,p.length=xs.length)→(l.flatMap fun p=>(K.map fun k=>p ++ [k]).map (wor (xs ++ [x])))=l.flatMap fun p=>K.map fun q=>wor xs p + q * x:=fun l=>by
  induction l with
  | nil=>intro _; rfl
  | cons p l ih=>
   intro h
   rw [List.flatMap_cons,List.flatMap_cons,ih fun p hp=>h p (.tail _ hp),List.map_map]
   congr 1
   refine List.map_congr_left fun k _=>?_
   exact rC xs p x k (h p (.head _))
 exact this _ fun p hp=>((cq _ p).mp hp).1
def encT (T:List (Int × Int)):List (KD × D):=T.map fun e=>(.inl e.1,.int e.2)
theorem rD (T:List (Int × Int)) (k:Int):(encT T).any (fun kv=>decide (kv.1=.inl k))=T.any fun e=>decide (e.1=k):=by
 unfold encT
 rw [List.any_map]
 congr 1
 funext e
 show decide ((Sum.inl e.1:KD)=.inl k)=decide (e.1=k)
 rw [decide_eq_decide]
 exact ⟨Sum.inl.inj,fun h=>by rw [h]⟩
theorem mw (T:List (Int × Int)) (k c:Int):putD (encT T) (.inl k) (.int c)=encT (pT T k c):=by
 unfold putD pT
 rw [rD]
 cases T.any fun e=>decide (e.1=k) with
 | true=>
  rw [if_pos rfl,if_pos rfl]
  unfold encT
  rw [List.map_map,List.map_map]
  refine List.map_congr_left fun e _=>?_
  simp only [Function.comp]
  by_cases h:e.1=k
  ·rw [if_pos (by rw [h]),if_pos h]
  ·rw [if_neg (fun z=>h (Sum.inl.inj z)),if_neg h]
 | false=>
  rw [if_neg Bool.false_ne_true,if_neg Bool.false_ne_true]
  simp [encT]
theorem my (T:List (Int × Int)) (k:Int):(gB (encT T) (.inl k)).getD (.int 0)=.int (gT T k):=by
 unfold gB gT encT
 rw [List.find?_map]
 have e:((fun kv:KD × D=>decide (kv.1=.inl k)) ∘ fun e:Int × Int=>((.inl e.1:KD),D.int e.2))=fun e=>decide (e.1=k):=by
  funext e
  show decide ((Sum.inl e.1:KD)=.inl k)=decide (e.1=k)
  rw [decide_eq_decide]
  exact ⟨Sum.inl.inj,fun h=>by rw [h]⟩
 rw [e]
 cases T.find? fun e=>decide (e.1=k) <;> rfl
theorem wj (T:List (Int × Int)) (k:Int):(gB (encT T) (.inl k)).isSome=true↔∃ e ∈ T,e.1=k:=by
 rw [wg,rD,List.any_eq_true]
 constructor
 ·rintro ⟨e,he,h⟩; exact ⟨e,he,of_decide_eq_true h⟩
 ·rintro ⟨e,he,h⟩; exact ⟨e,he,decide_eq_true h⟩
def dAt (S:Sto) (n:Nat) (T:List (Int × Int)):Prop:=S[n]?=some (.dic (encT T)) ∨ S[n]?=some (.fdic (encT T))
theorem dAt.dic {S:Sto} {n:Nat} {T:List (Int × Int)} (h:dAt S n T):dq S (.ref n)=some (encT T):=by
 rcases h with h | h <;> simp [dq,h]
theorem dAt.seq {S:Sto} {n:Nat} {T:List (Int × Int)} (h:dAt S n T):dm S (.ref n)=none:=by
 rcases h with h | h <;> simp [dm,h]
theorem dAt.lt {S:Sto} {n:Nat} {T:List (Int × Int)} (h:dAt S n T):n < S.length:=by
 rcases h with h | h <;> exact (List.getElem?_eq_some_iff.mp h).1
abbrev stI:SM:=(aB (bh 7 (eOp bq (ag 4) (eOp cT (ag 6) (ag 1)))) (gR ez (eOp bq (fC (ag 3) (ag 7) (eC (.int 0))) (ag 5)) (ag 3) (ag 7)))
abbrev stO:SM:=(gw (cS (ag 2) cJ) (.nm 6) (aB (bh 7 (eOp bq (ag 4) (eOp cT (ag 6) (ag 1)))) (gR ez (eOp bq (fC (ag 3) (ag 7) (eC (.int 0))) (ag 5)) (ag 3) (ag 7))))
abbrev Ep:SM:=(bh 2 (ar fw (ab (ag 2) (ab (ag 3) (ab (ag 1) ak)))))
theorem sml {q:Int} (h:-1≤q∧q≤1):cw q:=⟨by omega,by omega⟩
theorem CJ {S:Sto} {m:Nat} {W:List (Int × Int)} {x w c q:Int} (hq:-1≤q∧q≤1) (hm:S[m]?=some (.dic (encT W))) (hz:W.length < 3000) (r0 r2 r7:Option D):
  stI [r0,some (.int x),r2,some (.ref m),some (.int w),some (.int c),some (.int q),r7] S=.ok (.nx [r0,some (.int x),r2,some (.ref m),some (.int w),some (.int c),some (.int q),some (.int (w + q * x))]) (S.set m (.dic (encT (pT W (w + q * x) (gT W (w + q * x) + c))))):=by
 have hd:dq S (.ref m)=some (encT W):=by simp [dq,hm]
 have z:(3000:Nat)≤sizeLine:=by decide
 refine (av (bc (ax (aa rfl) (ax (aa rfl) (aa rfl) (dv (.inl (sml hq)))) rfl))).trans ?_
 have hg:fC (ag 3) (ag 7) (eC (.int 0)) [r0,some (.int x),r2,some (.ref m),some (.int w),some (.int c),some (.int q),some (.int (w + q * x))] S=.ok (.int (gT W (w + q * x))) S:=by
  rw [← my]
  exact rq (aa rfl) hd (aa rfl) rfl hd rfl
 refine iF (ax hg (aa rfl) rfl) (aa rfl) (aa rfl) ?_
 have h1:nG S (.ref m)=true:=by simp [nG,hm]
 unfold ez
 rw [if_pos h1]
 unfold qS
 simp only [hm,jM]
 rw [if_pos (by simp [encT]; omega),mw]
theorem rE {x w c:Int} (r0 r2:Option D) {m:Nat}:∀ (K:List Int) (S:Sto) (W L:List (Int × Int)) (r6 r7:Option D),(∀ q ∈ K,-1≤q∧q≤1)→S[m]?=some (.dic (encT W))→HistC W L→L.length + K.length≤3000→
  ∃ (W':List (Int × Int)) (r6' r7':Option D),forL (.nm 6) stI (K.map .int) [r0,some (.int x),r2,some (.ref m),some (.int w),some (.int c),r6,r7] S=.ok (.nx [r0,some (.int x),r2,some (.ref m),some (.int w),some (.int c),r6',r7']) (S.set m (.dic (encT W')))∧HistC W' (L ++ K.map fun q=>(w + q * x,c))
 | [],S,W,L,r6,r7,_,hm,h,_=>⟨W,r6,r7,by
  have hml:m < S.length:=(List.getElem?_eq_some_iff.mp hm).1
  have:S.set m (.dic (encT W))=S:=by
   have e:=(List.getElem?_eq_some_iff.mp hm).2
   rw [← e]; exact List.set_getElem_self hml
  rw [this]; rfl,by simpa using h⟩
 | q :: K,S,W,L,r6,r7,hK,hm,h,hz=>by
  rw [List.length_cons] at hz
  have hml:m < S.length:=(List.getElem?_eq_some_iff.mp hm).1
  have e1:=CJ (S:=S) (x:=x) (w:=w) (c:=c) (hK q (.head _)) hm (by have:=h.len; omega) r0 r2 r7
  obtain ⟨W',a6,a7,e2,h2⟩:=rE r0 r2 K (S.set m (.dic (encT (pT W (w + q * x) (gT W (w + q * x) + c))))) (pT W (w + q * x) (gT W (w + q * x) + c)) (L ++ [(w + q * x,c)]) (some (.int q)) (some (.int (w + q * x))) (fun q hq=>hK q (.tail _ hq)) (List.getElem?_set_self hml) (h.put (w + q * x) c) (by simp; omega)
  rw [List.set_set] at e2
  refine ⟨W',a6,a7,(cO (r1:=[r0,some (.int x),r2,some (.ref m),some (.int w),some (.int c),some (.int q),r7]) rfl e1).trans e2,?_⟩
  rw [List.map_cons]
  simpa using h2
theorem rF {K:List Int} {x:Int} (hK:∀ q ∈ K,-1≤q∧q≤1) (r0:Option D) {m:Nat}:∀ (T:List (Int × Int)) (S:Sto) (W L:List (Int × Int)) (r4 r5 r6 r7:Option D),S[m]?=some (.dic (encT W))→HistC W L→L.length + T.length * K.length≤3000→
  ∃ (W':List (Int × Int)) (r4' r5' r6' r7':Option D),forL (.tp [.nm 4,.nm 5]) stO ((encT T).map pairD) [r0,some (.int x),some (tupI K),some (.ref m),r4,r5,r6,r7] S=.ok (.nx [r0,some (.int x),some (tupI K),some (.ref m),r4',r5',r6',r7']) (S.set m (.dic (encT W')))∧HistC W' (L ++ fm K x T)
 | [],S,W,L,r4,r5,r6,r7,hm,h,_=>⟨W,r4,r5,r6,r7,by
  have hml:m < S.length:=(List.getElem?_eq_some_iff.mp hm).1
  have:S.set m (.dic (encT W))=S:=by
   have e:=(List.getElem?_eq_some_iff.mp hm).2
   rw [← e]; exact List.set_getElem_self hml
  rw [this]; rfl,by simpa [fm] using h⟩
 | e :: T,S,W,L,r4,r5,r6,r7,hm,h,hz=>by
  have hm2:(e :: T).length * K.length=T.length * K.length + K.length:=by rw [List.length_cons,Nat.succ_mul]
  have hml:m < S.length:=(List.getElem?_eq_some_iff.mp hm).1
  obtain ⟨W1,a6,a7,e1,h1⟩:=rE (x:=x) (w:=e.1) (c:=e.2) r0 (some (tupI K)) K S W L r6 r7 hK hm h (by omega)
  obtain ⟨W2,b4,b5,b6,b7,e2,h2⟩:=rF hK r0 T (S.set m (.dic (encT W1))) W1 (L ++ K.map fun q=>(e.1 + q * x,e.2)) (some (.int e.1)) (some (.int e.2)) a6 a7 (List.getElem?_set_self hml) h1 (by rw [List.length_append,List.length_map]; omega)
  rw [List.set_set] at e2
  refine ⟨W2,b4,b5,b6,b7,?_,?_⟩
  ·show forL _ _ (pairD (.inl e.1,.int e.2) :: (encT T).map pairD) _ _=_
   exact (cO (r1:=[r0,some (.int x),some (tupI K),some (.ref m),some (.int e.1),some (.int e.2),r6,r7]) rfl ((rm (aa rfl) rfl).trans e1)).trans e2
  ·have:fm K x (e :: T)=(K.map fun q=>(e.1 + q * x,e.2)) ++ fm K x T:=by simp [fm]
   rw [this,← List.append_assoc]
   exact h2
theorem iy {S:Sto} {n:Nat} {T:List (Int × Int)} {ρ:Rho} {i:Nat} (hi:ρ[i]?=some (some (.ref n))) (h:dAt S n T):fG (ag i) ρ S=.ok ((encT T).map pairD) (S.set n (.fdic (encT T))):=by
 unfold fG
 rw [aa hi,R.bind_ok]
 rcases h with h | h
 ·simp only [h]
 ·simp only [h]
  have hnl:n < S.length:=(List.getElem?_eq_some_iff.mp h).1
  have:S.set n (.fdic (encT T))=S:=by
   have e:=(List.getElem?_eq_some_iff.mp h).2
   rw [← e]; exact List.set_getElem_self hnl
  rw [this]
theorem tF {K:List Int} {x:Int} {S:Sto} {n:Nat} {T:List (Int × Int)} {f:List Int} (hK:∀ q ∈ K,-1≤q∧q≤1) (hd:dAt S n T) (h:Hist T f) (hz:f.length * K.length≤3000):
  ∃ T':List (Int × Int),fw [.ref n,.int x,tupI K] S=.ok (.ref S.length) (S.set n (.fdic (encT T)) ++ [.dic (encT T')])∧Hist T' (fS K x f):=by
 have hnl:=hd.lt
 have hd':dAt (S ++ [.dic []]) n T:=by
  unfold dAt
  rw [List.getElem?_append_left hnl]
  exact hd
 have hle:T.length * K.length≤f.length * K.length:=Nat.mul_le_mul_right _ h.len
 have e0:(S ++ [SO.dic []]).set n (.fdic (encT T))=S.set n (.fdic (encT T)) ++ [.dic []]:=List.set_append_left _ _ hnl
 obtain ⟨T',a4,a5,a6,a7,e1,h1⟩:=rF (x:=x) hK (some (.ref n)) (m:=S.length) T (S.set n (.fdic (encT T)) ++ [.dic []]) [] [] none none none none (by simp [encT]) HistC.nil (by simp; omega)
 have e2:(S.set n (.fdic (encT T)) ++ [SO.dic []]).set S.length (.dic (encT T'))=S.set n (.fdic (encT T)) ++ [.dic (encT T')]:=by
  rw [List.set_append_right _ _ (by simp)]; simp
 rw [e2] at e1
 refine ⟨T',?_,h.step (by simpa using h1)⟩
 exact bI (ρ:=[some (.ref n),some (.int x),some (tupI K),none,none,none,none,none]) rfl ((av (S1:=S ++ [.dic []]) (bc rfl)).trans ((av (r1:=[some (.ref n),some (.int x),some (tupI K),some (.ref S.length),a4,a5,a6,a7]) ((eY (iy rfl hd')).trans (by rw [e0]; exact e1))).trans (bj (aa rfl))))
structure Pre (S0 S:Sto):Prop where
 old:∀ i,i < S0.length→S[i]?=S0[i]?
 len:S0.length≤S.length
theorem Pre.trans {S0 S1 S2:Sto} (a:Pre S0 S1) (b:Pre S1 S2):Pre S0 S2:=⟨fun i h=>(b.old i (Nat.lt_of_lt_of_le h a.len)).trans (a.old i h),Nat.le_trans a.len b.len⟩
theorem Pre.app (S l:Sto):Pre S (S ++ l):=⟨fun i h=>List.getElem?_append_left h,by simp⟩
theorem Pre.set {S0 S:Sto} (p:Pre S0 S) {n:Nat} (h:S0.length≤n) (o:SO):Pre S0 (S.set n o):=⟨fun i hi=>by rw [List.getElem?_set_ne (by omega)]; exact p.old i hi,by rw [List.length_set]; exact p.len⟩
theorem dAt.set {S:Sto} {r n:Nat} {o:SO} {T:List (Int × Int)} (h:dAt S r T) (hn:n ≠ r):dAt (S.set n o) r T:=by
 unfold dAt
 rw [List.getElem?_set_ne hn]
 exact h
def fold (K:List Int) (xs:List Int) (f:List Int):List Int:=xs.foldl (fun f x=>fS K x f) f
theorem u7 (K:List Int):∀ (xs pre:List Int),fold K xs (wsL K pre)=wsL K (pre ++ xs)
 | [],pre=>by simp [fold]
 | x :: xs,pre=>by
  have:=u7 K xs (pre ++ [x])
  rw [jz,List.append_assoc] at this
  exact this
theorem n8 {K:List Int} (hk:∀ q ∈ K,-1≤q∧q≤1) {S0:Sto} (r0:Option D):∀ (xs:List Int) (S:Sto) (n:Nat) (T:List (Int × Int)) (f:List Int) (r3:Option D),S[n]?=some (.dic (encT T))→Hist T f→f.length * K.length ^ xs.length≤3000→S0.length≤n→Pre S0 S→
  ∃ (S':Sto) (n':Nat) (T':List (Int × Int)) (r3':Option D),forL (.nm 3) Ep (xs.map .int) [r0,some (tupI K),some (.ref n),r3] S=.ok (.nx [r0,some (tupI K),some (.ref n'),r3']) S'∧S'[n']?=some (.dic (encT T'))∧S0.length≤n'∧Hist T' (fold K xs f)∧Pre S0 S'
 | [],S,n,T,f,r3,hd,h,_,hn,p=>⟨S,n,T,r3,rfl,hd,hn,h,p⟩
 | x :: xs,S,n,T,f,r3,hd,h,hz,hn,p=>by
  rw [List.length_cons,Nat.pow_succ] at hz
  have z0:f.length * K.length * K.length ^ xs.length≤3000:=by rw [Nat.mul_assoc,Nat.mul_comm K.length]; exact hz
  have z1:f.length * K.length≤3000:=by
   by_cases c:K.length=0
   ·rw [c]; omega
   ·have h2:1≤K.length ^ xs.length:=Nat.one_le_pow _ _ (by omega)
    have:f.length * K.length * 1≤f.length * K.length * K.length ^ xs.length:=Nat.mul_le_mul_left _ h2
    omega
  obtain ⟨T1,e1,h1⟩:=tF (x:=x) hk (.inl hd) h z1
  have p1:Pre S0 (S.set n (.fdic (encT T)) ++ [SO.dic (encT T1)]):=(p.set hn _).trans (Pre.app _ _)
  obtain ⟨S2,n2,T2,a3,e2,d2,dl2,h2,p2⟩:=n8 hk r0 xs (S.set n (.fdic (encT T)) ++ [SO.dic (encT T1)]) S.length T1 (fS K x f) (some (.int x)) (by simp) h1 (by rw [tD]; exact z0) p.len p1
  exact ⟨S2,n2,T2,a3,(cO (r1:=[r0,some (tupI K),some (.ref n),some (.int x)]) rfl (bc ((aq (ae (aa rfl) (ae (aa rfl) (ae (aa rfl) rfl)))).trans e1))).trans e2,d2,dl2,h2,p2⟩
theorem z9 {ρ:Rho} {S:Sto}:ly [((eC (.int 0)),(eC (.int 1)))] ρ S=.ok (.ref S.length) (S ++ [.dic (encT [(0,1)])]):=rfl
theorem tG {K xs:List Int} (hk:∀ q ∈ K,-1≤q∧q≤1) (hz:K.length ^ xs.length≤3000) (S:Sto):∃ (S':Sto) (n:Nat) (T:List (Int × Int)),bT [tupI xs,tupI K] S=.ok (.ref n) S'∧S'[n]?=some (.dic (encT T))∧S.length≤n∧Hist T (wsL K xs)∧Pre S S':=by
 obtain ⟨S',n,T,a3,e,hd,hdl,h,p⟩:=n8 hk (S0:=S) (some (tupI xs)) xs (S ++ [.dic (encT [(0,1)])]) S.length [(0,1)] [0] none (by simp) Hist.zero (by
  rw [List.length_singleton,Nat.one_mul]
  exact hz) (Nat.le_refl _) (Pre.app _ _)
 have hf:=u7 K xs []
 rw [List.nil_append] at hf
 have h0:wsL K []=[0]:=rfl
 rw [h0] at hf
 rw [hf] at h
 exact ⟨S',n,T,bI (ρ:=[some (tupI xs),some (tupI K),none,none]) rfl ((av (bc z9)).trans ((av ((rm (aa rfl) rfl).trans e)).trans (bj (aa rfl)))),hd,hdl,h,p⟩
theorem mz {K xs:List Int} (hK:K.length≤3) (hk:∀ q ∈ K,-1≤q∧q≤1) (h6:xs.length≤6) (S:Sto):∃ (S':Sto) (n:Nat) (T:List (Int × Int)),bT [tupI xs,tupI K] S=.ok (.ref n) S'∧S'[n]?=some (.dic (encT T))∧S.length≤n∧Hist T (wsL K xs)∧Pre S S':=
 tG hk (Nat.le_trans (Nat.pow_le_pow_left hK _) (Nat.le_trans (Nat.pow_le_pow_right (by decide) h6) (by decide))) S
theorem cA {xs:List Int} (h:Row xs) (S:Sto):aK [.tup (xs.map .int)] S=.ok .non S:=by
 have e:=xX (S:=S) h.okay
 rw [h.is] at e
 simp [aK,fnM,gF,sIf,bw,tNx,R.nx,PD.gp,tV,ar,ag,ab,ak,R.bind,e]
def eQ (A B:List (Int × Int)):List (Int × Int):=A.flatMap fun e=>B.map fun d=>(e.1 + d.1,e.2 * d.2)
theorem rG (h:Int→Int) (e:Int × Int):∀ B:List (Int × Int),sumH h (B.map fun d=>(e.1 + d.1,e.2 * d.2))=sumH (fun y=>h (e.1 + y)) B * e.2
 | []=>by simp [sumH]
 | d :: B=>by
  rw [List.map_cons,ck,ck,rG h e B,Int.add_mul]
  congr 1
  show h (e.1 + d.1) * (e.2 * d.2)=h (e.1 + d.1) * d.2 * e.2
  rw [Int.mul_assoc,Int.mul_comm e.2 d.2]
theorem mB (h:Int→Int) (B:List (Int × Int)):∀ A:List (Int × Int),sumH h (eQ A B)=sumH (fun x=>sumH (fun y=>h (x + y)) B) A
 | []=>rfl
 | e :: A=>by
  have ih:=mB h B A
  unfold eQ at ih ⊢
  rw [List.flatMap_cons,ix,ck,ih,rG]
theorem wk {T A B:List (Int × Int)} {f g:List Int} (h:HistC T (eQ A B)) (hA:Hist A f) (hB:Hist B g) (v:Int):(∃ e ∈ T,e.1=v)↔∃ x ∈ f,∃ y ∈ g,x + y=v:=by
 rw [h.mem]
 constructor
 ·rintro ⟨e,he,rfl⟩
  obtain ⟨a,ha,he⟩:=List.mem_flatMap.mp he
  obtain ⟨b,hb,rfl⟩:=List.mem_map.mp he
  exact ⟨a.1,(hA.mem _).mp ⟨a,ha,rfl⟩,b.1,(hB.mem _).mp ⟨b,hb,rfl⟩,rfl⟩
 ·rintro ⟨x,hx,y,hy,rfl⟩
  obtain ⟨a,ha,rfl⟩:=(hA.mem x).mpr hx
  obtain ⟨b,hb,rfl⟩:=(hB.mem y).mpr hy
  exact ⟨_,List.mem_flatMap.mpr ⟨a,ha,List.mem_map.mpr ⟨b,hb,rfl⟩⟩,rfl⟩
theorem pH:∀ (xs ys p q:List Int),p.length=xs.length→wor (xs ++ ys) (p ++ q)=wor xs p + wor ys q
 | [],ys,[],q,_=>by show wor ys q=0 + wor ys q; omega
 | x :: xs,ys,r :: p,q,h=>by
  show x * r + wor (xs ++ ys) (p ++ q)=x * r + wor xs p + wor ys q
  rw [pH xs ys p q (by simpa using h)]; omega
 | [],_,_ :: _,_,h=>by cases h
 | _ :: _,_,[],_,h=>by cases h
theorem oe {K:List Int} {a b:Nat} {p:List Int}:p ∈ kq K (a + b)↔∃ q r,p=q ++ r∧q ∈ kq K a∧r ∈ kq K b:=by
 constructor
 ·intro h
  obtain ⟨h1,h2⟩:=(cq _ p).mp h
  exact ⟨p.take a,p.drop a,(List.take_append_drop a p).symm,(cq _ _).mpr ⟨by rw [List.length_take,h1]; omega,fun y hy=>h2 y (List.mem_of_mem_take hy)⟩,(cq _ _).mpr ⟨by rw [List.length_drop,h1]; omega,fun y hy=>h2 y (List.mem_of_mem_drop hy)⟩⟩
 ·rintro ⟨q,r,rfl,hq,hr⟩
  obtain ⟨q1,q2⟩:=(cq _ q).mp hq
  obtain ⟨r1,r2⟩:=(cq _ r).mp hr
  refine (cq _ _).mpr ⟨by rw [List.length_append,q1,r1],fun y hy=>?_⟩
  rcases List.mem_append.mp hy with hy | hy
  ·exact q2 y hy
  ·exact r2 y hy
theorem CK {K xs ys:List Int} {v:Int}:(∃ x ∈ wsL K xs,∃ y ∈ wsL K ys,x + y=v)↔Wo K (xs ++ ys) v:=by
 rw [mf,List.length_append]
 constructor
 ·rintro ⟨x,hx,y,hy,rfl⟩
  obtain ⟨p,hp,rfl⟩:=List.mem_map.mp hx
  obtain ⟨q,hq,rfl⟩:=List.mem_map.mp hy
  exact ⟨p ++ q,oe.mpr ⟨p,q,rfl,hp,hq⟩,pH xs ys p q ((cq _ _).mp hp).1⟩
 ·rintro ⟨p,hp,rfl⟩
  obtain ⟨q,r,rfl,hq,hr⟩:=oe.mp hp
  exact ⟨_,List.mem_map.mpr ⟨q,hq,rfl⟩,_,List.mem_map.mpr ⟨r,hr,rfl⟩,(pH xs ys q r ((cq _ _).mp hq).1).symm⟩
theorem pI {f:Sto→D→Option Int→Option Int→Option D} {a:EM} {lo hi:OM} {r:Rho} {S S1 S2 S3:Sto} {x z:D} {l u:Option Int} (h1:a r S=.ok x S1) (h2:lo r S1=.ok l S2) (h3:hi r S2=.ok u S3) (h4:f S3 x l u=some z):eSl f a lo hi r S=.ok z S3:=by unfold eSl; rw [h1,R.bind_ok,h2,R.bind_ok,h3,R.bind_ok,h4]; rfl
theorem jA {a:EM} {r:Rho} {S S1:Sto} {i:Int} (h:a r S=.ok (.int i) S1):jh a r S=.ok (some i) S1:=by unfold jh; rw [h,R.bind_ok]
theorem rH (xs:List D) (m:Nat) (h:m≤xs.length):PD.cutD xs none (some (m:Int))=xs.take m:=by
 unfold PD.cutD
 have e1:HT.sIx xs.length 0 none=0:=rfl
 have e2:HT.sIx xs.length xs.length (some (m:Int))=m:=by
  rw [HT.sIx_nat]; exact Nat.min_eq_left h
 rw [e1,e2]; simp
theorem rJ (xs:List D) (m:Nat) (h:m≤xs.length):PD.cutD xs (some (m:Int)) none=xs.drop m:=by
 unfold PD.cutD
 have e1:HT.sIx xs.length xs.length none=xs.length:=rfl
 have e2:HT.sIx xs.length 0 (some (m:Int))=m:=by
  rw [HT.sIx_nat]; exact Nat.min_eq_left h
 rw [e1,e2,List.take_of_length_le (by rw [List.length_drop]; omega)]
abbrev Aa:FM:=fnM 2 (aB (bh 1 (eOp j7 (eB cn (ab (ag 0) ak)) (eC (.int 2)))) (bz (gu (ab (eSl kl (ag 0) oNo (jh (ag 1))) (ab (eSl kl (ag 0) (jh (ag 1)) oNo) ak)))))
theorem wm (xs:List Int) (S:Sto):Aa [tupI xs] S=.ok (.tup [tupI (xs.take (xs.length / 2)),tupI (xs.drop (xs.length / 2))]) S:=by
 have z2:(2:Nat)≤sizeLine:=by decide
 have hm:xs.length / 2≤(xs.map D.int).length:=by rw [List.length_map]; omega
 have hl:cn S [tupI xs]=some (.int xs.length):=by
  show some (D.int ((xs.map D.int).length:Int))=_
  rw [List.length_map]
 have hd:j7 S (.int xs.length) (.int 2)=some (.int ((xs.length / 2:Nat):Int)):=by
  show (if (0:Int) < 2∧(2:Int) < 1073741824 then some (D.int ((xs.length:Int) / 2)) else none)=_
  rw [if_pos (by decide)]
  rfl
 have h1:kl S (tupI xs) none (some ((xs.length / 2:Nat):Int))=some (tupI (xs.take (xs.length / 2))):=by
  show some (D.tup (PD.cutD (xs.map .int) _ _))=_
  rw [rH _ _ hm,← List.map_take]
 have h2:kl S (tupI xs) (some ((xs.length / 2:Nat):Int)) none=some (tupI (xs.drop (xs.length / 2))):=by
  show some (D.tup (PD.cutD (xs.map .int) _ _))=_
  rw [rJ _ _ hm,← List.map_drop]
 exact bI (ρ:=[some (tupI xs),none]) rfl ((av (bc (ax (bW (ae (aa rfl) rfl) hl) rfl hd))).trans (bj (gI (ae (pI (aa rfl) rfl (jA (aa rfl)) h1) (ae (pI (aa rfl) (jA (aa rfl)) rfl h2) rfl)) z2)))
theorem i8 {T:List (Int × Int)} (h:Keys T) {e:Int × Int} (he:e ∈ T):gT T e.1=e.2:=by
 induction T with
 | nil=>cases he
 | cons d T ih=>
  obtain ⟨h1,h2⟩:=List.pairwise_cons.mp h
  rw [pz]
  rcases List.mem_cons.mp he with rfl | he
  ·rw [if_pos rfl]
  ·rw [if_neg (h1 e he)]
   exact ih h2 he
theorem tH {S:Sto} {n:Nat} {T:List (Int × Int)} (h:dAt S n T) (hk:Keys T) {e:Int × Int} (he:e ∈ T):km S (.ref n) (.int e.1)=some (.int e.2):=by
 have hs:(gB (encT T) (.inl e.1)).isSome=true:=(wj T e.1).mpr ⟨e,he,rfl⟩
 have hg:=my T e.1
 rw [i8 hk he] at hg
 cases hq:gB (encT T) (.inl e.1) with
 | none=>rw [hq] at hs; cases hs
 | some d=>
  rw [hq] at hg
  unfold km
  rw [h.seq]
  simp only [Option.isSome_none,Bool.false_eq_true,if_false]
  unfold zJ
  simp only [h.dic,jM]
  rw [hq]
  exact congrArg some hg
theorem Ab {S:Sto} {n:Nat} {T:List (Int × Int)} {ρ:Rho} {i:Nat} (hi:ρ[i]?=some (some (.ref n))) (h:dAt S n T):nJ (ag i) ρ S=.ok (T.map fun e=>D.int e.1) (S.set n (.fdic (encT T))):=by
 have hm:((encT T).map fun kv=>kD kv.1)=T.map fun e=>D.int e.1:=by
  unfold encT
  rw [List.map_map]; rfl
 unfold nJ
 rw [aa hi,R.bind_ok]
 rcases h with h | h
 ·simp only [h,hm]
 ·simp only [h,hm]
  have hnl:n < S.length:=(List.getElem?_eq_some_iff.mp h).1
  have:S.set n (.fdic (encT T))=S:=by
   have e:=(List.getElem?_eq_some_iff.mp h).2
   rw [← e]; exact List.set_getElem_self hnl
  rw [this]
theorem CL (K xs:List Int):(wsL K xs).length=K.length ^ xs.length:=by
 unfold wsL
 rw [List.length_map,mn]
theorem iG {a:SM} {r:Rho} {S S1:Sto} {f:F} (h:a r S=.ok f S1):a r S=.ok f S1:=h
theorem DO {e:EM} {it:AM} {ρ:Rho} {S S1 S2 S3:Sto} {x y u v:D} (hi:it ρ S=.ok [x,y] S1) (h1:e [some x] S1=.ok u S2) (h2:e [some y] S2=.ok v S3):bJ it 1 [] (.nm 0) bO e ρ S=.ok (.lst [u,v]) S3:=by
 have z2:(2:Nat)≤sizeLine:=by decide
 unfold bJ
 rw [hi,R.bind_ok,if_pos (show [x,y].length≤sizeLine from z2)]
 have:fy 1 [] ρ = [none]:=rfl
 rw [this]
 simp only [eu,G.put,List.set_cons_zero,bO,R.bind_ok,if_true,h1,h2]
theorem mC {A:Type} {x1 x2:A→D} {out:A→D} {e:EM} {it:AM} {caps:List Nat} {tl r:Rho} {S S1:Sto} (xs:List A) (hi:it r S=.ok (xs.map fun x=>.tup [x1 x,x2 x]) S1) (hl:xs.length≤sizeLine) (hc:caps.map (fun i=>(r[i]?).join)=tl) (h:∀ x ∈ xs,e (some (x1 x) :: some (x2 x) :: tl) S1=.ok (out x) S1):bJ it 2 caps (.tp [.nm 0,.nm 1]) bO e r S=.ok (.lst (xs.map out)) S1:=by
 unfold bJ
 rw [hi,R.bind_ok,if_pos (by rw [List.length_map]; exact hl)]
 have:fy 2 caps r=none :: none :: tl:=by unfold fy; rw [hc]; rfl
 rw [this,rn (out:=out) xs none none h,R.bind_ok]
def wlk (A B:List Int) (v:Int):Nat→Nat→Nat→List (Nat × Nat × Int)
 | 0,_,_=>[]
 | n + 1,i,j=>if i < A.length∧1≤j then (i,j - 1,A.getD i 0 + B.getD (j - 1) 0) :: (if A.getD i 0 + B.getD (j - 1) 0 < v then wlk A B v n (i + 1) j else wlk A B v n i (j - 1)) else []
theorem rise {A:List Int} (h:A.Pairwise (· ≤ ·)) {i j:Nat} (hij:i≤j) (hj:j < A.length):A.getD i 0≤A.getD j 0:=by
 have hi:i < A.length:=by omega
 rw [List.getD_eq_getElem?_getD,List.getD_eq_getElem?_getD,List.getElem?_eq_getElem hi,List.getElem?_eq_getElem hj]
 by_cases e:i=j
 ·subst e; exact Int.le_refl _
 ·exact List.pairwise_iff_getElem.mp h i j hi hj (by omega)
theorem i9 {A B:List Int} {v:Int} (hA:A.Pairwise (· ≤ ·)) (hB:B.Pairwise (· ≤ ·)) {p q:Nat} (hp:p < A.length) (hq:q < B.length) (hv:v≤A.getD p 0 + B.getD q 0)
  (hm:∀ x y,x < A.length→y < B.length→v≤A.getD x 0 + B.getD y 0→A.getD p 0 + B.getD q 0≤A.getD x 0 + B.getD y 0):
  ∀ (n i j:Nat),(A.length - i) + j≤n→i≤p→q < j→j≤B.length→∃ e ∈ wlk A B v n i j,e.2.2=A.getD p 0 + B.getD q 0
 | 0,i,j,h,h1,h2,_=>by omega
 | n + 1,i,j,h,h1,h2,h3=>by
  unfold wlk
  rw [if_pos ⟨by omega,by omega⟩]
  by_cases hlt:A.getD i 0 + B.getD (j - 1) 0 < v
  ·rw [if_pos hlt]
   by_cases e:i=p
   ·subst e
    have:=rise hB (i:=q) (j:=j - 1) (by omega) (by omega)
    omega
   ·obtain ⟨x,hx,e2⟩:=i9 hA hB hp hq hv hm n (i + 1) j (by omega) (by omega) h2 h3
    exact ⟨x,.tail _ hx,e2⟩
  ·rw [if_neg hlt]
   by_cases e:j - 1=q
   ·rw [e] at hlt ⊢
    refine ⟨_,.head _,?_⟩
    have a1:=rise hA h1 hp
    have a2:=hm i q (by omega) hq (by omega)
    show A.getD i 0 + B.getD q 0=_
    omega
   ·obtain ⟨x,hx,e2⟩:=i9 hA hB hp hq hv hm n i (j - 1) (by omega) h1 (by omega) (by omega)
    exact ⟨x,.tail _ hx,e2⟩
theorem mD {A B:List Int} {v:Int}:∀ (n i j:Nat),j≤B.length→∀ e ∈ wlk A B v n i j,∃ x y,x < A.length∧y < B.length∧e=(x,y,A.getD x 0 + B.getD y 0)
 | 0,_,_,_,e,he=>by cases he
 | n + 1,i,j,hj,e,he=>by
  unfold wlk at he
  by_cases h:i < A.length∧1≤j
  ·rw [if_pos h] at he
   rcases List.mem_cons.mp he with rfl | he
   ·exact ⟨i,j - 1,h.1,by omega,rfl⟩
   ·by_cases hlt:A.getD i 0 + B.getD (j - 1) 0 < v
    ·rw [if_pos hlt] at he; exact mD n (i + 1) j hj e he
    ·rw [if_neg hlt] at he; exact mD n i (j - 1) (by omega) e he
  ·rw [if_neg h] at he; cases he
theorem mE {A B:List Int} {v:Int}:∀ (n i j:Nat),(wlk A B v n i j).length≤n
 | 0,_,_=>Nat.le_refl _
 | n + 1,i,j=>by
  unfold wlk
  split
  ·rw [List.length_cons]
   split
   ·have:=mE (A:=A) (B:=B) (v:=v) n (i + 1) j; omega
   ·have:=mE (A:=A) (B:=B) (v:=v) n i (j - 1); omega
  ·simp
theorem ya {A:List Int} {x:Int} (h:x ∈ A):∃ p,p < A.length∧A.getD p 0=x:=by
 obtain ⟨p,hp,e⟩:=List.mem_iff_getElem.mp h
 exact ⟨p,hp,by rw [List.getD_eq_getElem?_getD,List.getElem?_eq_getElem hp]; exact e⟩
theorem getD_mem' {A:List Int} {p:Nat} (h:p < A.length):A.getD p 0 ∈ A:=by
 rw [List.getD_eq_getElem?_getD,List.getElem?_eq_getElem h]
 exact List.getElem_mem h
def yb (A B:List Int):List Int:=A.flatMap fun x=>B.map fun y=>x + y
theorem mF {A B:List Int} {s:Int}:s ∈ yb A B↔∃ x ∈ A,∃ y ∈ B,x + y=s:=by
 simp [yb]
theorem yc {l:List Int} {s:Int} (h:s ∈ l):∃ m ∈ l,∀ x ∈ l,m≤x:=by
 match l,h with
 | a :: r,_=>
  obtain ⟨⟨h1,h2⟩,h3⟩:=oZ r a
  refine ⟨fN a r,?_,fun x hx=>?_⟩
  ·rcases h3 with e | e
   ·rw [e]; exact .head _
   ·exact .tail _ e
  ·rcases List.mem_cons.mp hx with rfl | hx
   ·exact h1
   ·exact h2 x hx
theorem tI {A B:List Int} {v:Int} (hA:A.Pairwise (· ≤ ·)) (hB:B.Pairwise (· ≤ ·)) {x y:Int} (hx:x ∈ A) (hy:y ∈ B) (h:v≤x + y):∃ e ∈ wlk A B v (A.length + B.length) 0 B.length,v≤e.2.2∧e.2.2≤x + y:=by
 have hs:x + y ∈ (yb A B).filter fun s=>decide (v≤s):=List.mem_filter.mpr ⟨mF.mpr ⟨x,hx,y,hy,rfl⟩,by simpa using h⟩
 obtain ⟨m,hm,hle⟩:=yc hs
 obtain ⟨hm1,hm2⟩:=List.mem_filter.mp hm
 obtain ⟨a,ha,b,hb,rfl⟩:=mF.mp hm1
 obtain ⟨p,hp,rfl⟩:=ya ha
 obtain ⟨q,hq,rfl⟩:=ya hb
 have hv:v≤A.getD p 0 + B.getD q 0:=by simpa using hm2
 obtain ⟨e,he,ee⟩:=i9 hA hB hp hq hv (fun i j hi hj hij=>hle _ (List.mem_filter.mpr ⟨mF.mpr ⟨_,getD_mem' hi,_,getD_mem' hj,rfl⟩,by simpa using hij⟩)) (A.length + B.length) 0 B.length (by omega) (Nat.zero_le _) hq (Nat.le_refl _)
 exact ⟨e,he,by rw [ee]; exact hv,by rw [ee]; exact hle _ hs⟩
def eW (e:Nat × Nat × Int):D:=.tup [.int e.1,.int e.2.1,.int e.2.2]
theorem tJ {a b:TM} {r:Rho} {S S1:Sto} (h:a r S=.ok true S1):PD.gY a b r S=b r S1:=by unfold PD.gY; rw [h,R.bind_ok]; exact if_pos rfl
theorem tK {a b:TM} {r:Rho} {S S1:Sto} (h:a r S=.ok false S1):PD.gY a b r S=.ok false S1:=by unfold PD.gY; rw [h,R.bind_ok]; exact if_neg Bool.false_ne_true
abbrev wkT:TM:=(PD.gY (tV (eOp oLt (ag 4) (eB cn (ab (eOp oIx (ag 2) (eC (.int 0))) ak)))) (tV (eOp oGe (ag 5) (eC (.int 0)))))
abbrev wkB:SM:=(aB (bh 6 (eOp bq (eOp oIx (eOp oIx (ag 2) (eC (.int 0))) (ag 4)) (eOp oIx (eOp oIx (ag 2) (eC (.int 1))) (ag 5)))) (aB (bR (mT eV (ag 3) (ab (gu (ab (ag 4) (ab (ag 5) (ab (ag 6) ak)))) ak))) (sIf (tV (eOp oLt (ag 6) (ag 1))) (bh 4 (eOp bq (ag 4) (eC (.int 1)))) (bh 5 (eOp mQ (ag 5) (eC (.int 1)))))))
theorem oy {S:Sto} {A:List Int} {i:Nat} (h:i < A.length):oIx S (tupI A) (.int (i:Int))=some (.int (A.getD i 0)):=by
 show atI (A.map D.int) (i:Int)=_
 rw [lH (by rw [List.length_map]; exact h),List.getD_eq_getElem?_getD,List.getElem?_eq_getElem h]; simp
theorem er {S:Sto} {A:List Int}:cn S [tupI A]=some (.int A.length):=by
 show some (D.int ((A.map D.int).length:Int))=_
 rw [List.length_map]
theorem Ac {A B:List Int} {v:Int} (r0 r3 r6:Option D) (i j:Nat) (S:Sto):wkT [r0,some (.int v),some (.tup [tupI A,tupI B]),r3,some (.int i),some (.int ((j:Int) - 1)),r6] S=.ok (decide (i < A.length∧1≤j)) S:=by
 have h1:tV (eOp oLt (ag 4) (eB cn (ab (eOp oIx (ag 2) (eC (.int 0))) ak))) [r0,some (.int v),some (.tup [tupI A,tupI B]),r3,some (.int i),some (.int ((j:Int) - 1)),r6] S=.ok (decide ((i:Int) < A.length)) S:=
  cy (ax (aa rfl) (bW (ae (ax (x:=.tup [tupI A,tupI B]) (aa rfl) rfl rfl) rfl) er) rfl)
 have h2:tV (eOp oGe (ag 5) (eC (.int 0))) [r0,some (.int v),some (.tup [tupI A,tupI B]),r3,some (.int i),some (.int ((j:Int) - 1)),r6] S=.ok (decide ((j:Int) - 1 ≥ 0)) S:=cy (ax (aa rfl) rfl rfl)
 by_cases g:i < A.length
 ·rw [decide_eq_true (show (i:Int) < A.length by omega)] at h1
  rw [show wkT=PD.gY _ _ from rfl,tJ h1,h2]
  congr 1
  rw [decide_eq_decide]
  omega
 ·rw [decide_eq_false (show ¬ (i:Int) < A.length by omega)] at h1
  rw [show wkT=PD.gY _ _ from rfl,tK h1,decide_eq_false (by omega)]
def WkC (A B:List Int) (v:Int) (r0:Option D) (m n:Nat):Prop:=∀ (i j:Nat) (S:Sto) (w:List D) (r6:Option D),(A.length - i) + j≤n→j≤B.length→S[m]?=some (.lst w)→w.length + n≤1000→
 ∃ r4 r5 r6':Option D,cP wkT wkB (n + 1) [r0,some (.int v),some (.tup [tupI A,tupI B]),some (.ref m),some (.int i),some (.int ((j:Int) - 1)),r6] S=.ok (.nx [r0,some (.int v),some (.tup [tupI A,tupI B]),some (.ref m),r4,r5,r6']) (S.set m (.lst (w ++ (wlk A B v n i j).map eW)))
theorem u9 {A B:List Int} {v:Int} (r0:Option D) {m n:Nat} (ih:∀ k,n=k + 1→WkC A B v r0 m k):WkC A B v r0 m n:=fun i j S w r6 h1 h2 hm hz=>by
  have hml:m < S.length:=(List.getElem?_eq_some_iff.mp hm).1
  have same:S.set m (.lst w)=S:=by
   have e:=(List.getElem?_eq_some_iff.mp hm).2
   rw [← e]; exact List.set_getElem_self hml
  have ht:=Ac (A:=A) (B:=B) (v:=v) r0 (some (.ref m)) r6 i j S
  by_cases g:i < A.length∧1≤j
  ·rw [decide_eq_true g] at ht
   obtain ⟨k,rfl⟩:∃ k,n=k + 1:=⟨n - 1,by omega⟩
   have z3:(3:Nat)≤sizeLine:=by decide
   have z:(1000:Nat)≤sizeLine:=by decide
   have hj:((j:Int) - 1)=((j - 1:Nat):Int):=by omega
   have hL:isL S (.ref m)=true:=by simp [isL,hm]
   -- the body,up to its last choice
   have hb:∀ (k1:SM),aB (bh 6 (eOp bq (eOp oIx (eOp oIx (ag 2) (eC (.int 0))) (ag 4)) (eOp oIx (eOp oIx (ag 2) (eC (.int 1))) (ag 5)))) (aB (bR (mT eV (ag 3) (ab (gu (ab (ag 4) (ab (ag 5) (ab (ag 6) ak)))) ak))) k1) [r0,some (.int v),some (.tup [tupI A,tupI B]),some (.ref m),some (.int i),some (.int ((j - 1:Nat):Int)),r6] S
     = k1 [r0,some (.int v),some (.tup [tupI A,tupI B]),some (.ref m),some (.int i),some (.int ((j - 1:Nat):Int)),some (.int (A.getD i 0 + B.getD (j - 1) 0))] (S.set m (.lst (w ++ [eW (i,j - 1,A.getD i 0 + B.getD (j - 1) 0)]))):=fun k1=>by
    refine (av (bc (ax (ax (ax (x:=.tup [tupI A,tupI B]) (aa rfl) rfl rfl) (aa rfl) (oy g.1)) (ax (ax (x:=.tup [tupI A,tupI B]) (aa rfl) rfl rfl) (aa rfl) (oy (by omega))) rfl))).trans (av (aW (d:=.non) ((pq (ys:=[eW (i,j - 1,A.getD i 0 + B.getD (j - 1) 0)]) (aa rfl) hL (ae (gI (xs:=[.int i,.int ((j - 1:Nat):Int),.int (A.getD i 0 + B.getD (j - 1) 0)]) rfl z3) rfl)).trans ?_)))
    unfold eV
    simp only [hm]
    rw [if_pos (by omega)]
   unfold cP
   rw [ht,R.bind_ok,if_pos rfl,hj,show wkB=aB _ (aB _ _) from rfl,hb]
   have hw:wlk A B v (k + 1) i j=(i,j - 1,A.getD i 0 + B.getD (j - 1) 0) :: (if A.getD i 0 + B.getD (j - 1) 0 < v then wlk A B v k (i + 1) j else wlk A B v k i (j - 1)):=by
    rw [wlk,if_pos g]
   rw [hw]
   have hm':(S.set m (.lst (w ++ [eW (i,j - 1,A.getD i 0 + B.getD (j - 1) 0)])))[m]?=some (.lst (w ++ [eW (i,j - 1,A.getD i 0 + B.getD (j - 1) 0)])):=List.getElem?_set_self hml
   by_cases hlt:A.getD i 0 + B.getD (j - 1) 0 < v
   ·obtain ⟨r4,r5,r6',e⟩:=ih k rfl (i + 1) j _ _ (some (.int (A.getD i 0 + B.getD (j - 1) 0))) (by omega) h2 hm' (by simp; omega)
    refine ⟨r4,r5,r6',?_⟩
    rw [if_pos hlt,(uY (cy (ax (aa rfl) (aa rfl) (congrArg (fun b=>some (D.bl b)) (decide_eq_true hlt))))).trans (bc (ax (aa rfl) rfl rfl)),R.bind_ok]
    rw [hj,List.set_set,List.append_assoc] at e
    exact e
   ·obtain ⟨r4,r5,r6',e⟩:=ih k rfl i (j - 1) _ _ (some (.int (A.getD i 0 + B.getD (j - 1) 0))) (by omega) (by omega) hm' (by simp; omega)
    refine ⟨r4,r5,r6',?_⟩
    rw [if_neg hlt,(ei (cy (ax (aa rfl) (aa rfl) (congrArg (fun b=>some (D.bl b)) (decide_eq_false hlt))))).trans (bc (ax (aa rfl) rfl rfl)),R.bind_ok]
    rw [List.set_set,List.append_assoc] at e
    exact e
  ·rw [decide_eq_false g] at ht
   have hw:wlk A B v n i j=[]:=by
    cases n with
    | zero=>rfl
    | succ n=>rw [wlk,if_neg g]
   refine ⟨some (.int i),some (.int ((j:Int) - 1)),r6,?_⟩
   unfold cP
   rw [ht,R.bind_ok,if_neg Bool.false_ne_true,hw,List.map_nil,List.append_nil,same]
theorem vc {A B:List Int} {v:Int} (r0:Option D) {m:Nat}:∀ n:Nat,WkC A B v r0 m n
 | 0=>u9 r0 fun _ e=>Nat.noConfusion e
 | n + 1=>u9 r0 fun k e=>(Nat.succ.inj e) ▸ vc r0 n
theorem tL {xs:List Int} (h:Row xs) (v:Int) (S:Sto):bB [tupI xs,.int v] S=.ok .non S:=by
 have e2:aV [.int v] S=.ok .non S:=by
  have e:=lX (d:=.int v) (S:=S) rfl
  have e':isI (.int v)=true:=rfl
  rw [e'] at e
  simp [aV,fnM,fk,sIf,bw,tNx,R.nx,PD.gp,tV,ar,ag,ab,ak,R.bind,e]
 refine jS (ρ:=[some (tupI xs),some (.int v)]) rfl ((av (aW ((aq (ae (aa rfl) rfl)).trans (cA h S)))).trans (aW ((aq (ae (aa rfl) rfl)).trans e2)))
theorem rK:∀ xs:List Int,intsOf (xs.map .int)=some xs:=i7
theorem Ad {a:TM} {r:Rho} {S S1:Sto} {b:Bool} (h:a r S=.ok b S1):a r S=.ok b S1:=h
theorem jU:∀ T:List (Int × Int),gj (encT T)=some (T.map (·.1))
 | []=>rfl
 | e :: T=>by
  show (gj (encT T)).map (e.1 :: ·)=_
  rw [jU T]; rfl
def wsS (T:List (Int × Int)):List Int:=dw (T.map (·.1))
theorem yd {S:Sto} {n:Nat} {T:List (Int × Int)} (h:dAt S n T) (hz:T.length≤1000):kn S [.ref n]=some (.lst ((wsS T).map .int)):=by
 have z:(1000:Nat)≤sizeLine:=by decide
 show (match lM S (.ref n) with | some ns=>if ns.length≤sizeLine then some (D.lst ((dw ns).map .int)) else none | none=>none)=_
 have e:lM S (.ref n)=some (T.map (·.1)):=by
  unfold lM
  rw [h.seq]
  simp only [h.dic,jU]
 rw [e]
 dsimp only
 rw [if_pos (by rw [List.length_map]; omega)]
 rfl
theorem kM {T:List (Int × Int)} {f:List Int} (h:Hist T f) (w:Int):w ∈ wsS T↔w ∈ f:=by
 unfold wsS
 rw [(dC _).mem_iff,List.mem_map,← h.mem w]
theorem ve (T:List (Int × Int)):(wsS T).length=T.length:=by unfold wsS; rw [(dC _).length_eq,List.length_map]
theorem pJ {S:Sto} {l:List D}:fj S [.lst l]=some (.tup l):=rfl
theorem DP {xs:List Int} (h12:xs.length≤12) (hr:Row xs) (S:Sto):∃ (S':Sto) (A B:List (Int × Int)),cK [tupI xs] S=.ok (.tup [tupI (wsS A),tupI (wsS B)]) S'∧Pre S S'∧Hist A (wsL KS (xs.take (xs.length / 2)))∧Hist B (wsL KS (xs.drop (xs.length / 2)))∧A.length≤64∧B.length≤64:=by
 have hk:∀ q ∈ KS,-1≤q∧q≤1:=by decide
 have hl1:(xs.take (xs.length / 2)).length≤6:=by rw [List.length_take]; omega
 have hl2:(xs.drop (xs.length / 2)).length≤6:=by rw [List.length_drop]; omega
 have bnd:∀ ys:List Int,ys.length≤6→(wsL KS ys).length≤64:=fun ys h=>by
  rw [CL]
  exact Nat.le_trans (Nat.pow_le_pow_right (by decide) h) (by decide)
 obtain ⟨S1,a,A,tA,dA,la,hA,pA⟩:=mz (K:=KS) (xs:=xs.take (xs.length / 2)) (by decide) hk (by omega) S
 obtain ⟨S2,b,B,tB,dB,lb,hB,pB⟩:=mz (K:=KS) (xs:=xs.drop (xs.length / 2)) (by decide) hk (by omega) S1
 have lA:A.length≤64:=Nat.le_trans hA.len (bnd _ hl1)
 have lB:B.length≤64:=Nat.le_trans hB.len (bnd _ hl2)
 refine ⟨S2,A,B,?_,pA.trans pB,hA,hB,lA,lB⟩
 have hc:bJ (cS (ar dX (ab (ag 0) ak)) cJ) 1 [] (.nm 0) bO (eB fj (ab (eB kn (ab (ar bT (ab (ag 0) (ab (eC (.tup (([(-1),(1)]:List Int).map .int))) ak))) ak)) ak)) [some (tupI xs)] S=.ok (.lst [tupI (wsS A),tupI (wsS B)]) S2:=
  DO (S1:=S) (by unfold cS; rw [(aq (ae (aa rfl) rfl)).trans (show dX [tupI xs] S=_ from wm xs S),R.bind_ok]; rfl)
   (bW (ae (bW (ae ((aq (ae (aa rfl) (ae rfl rfl))).trans tA) rfl) (yd (.inl dA) (by omega))) rfl) pJ)
   (bW (ae (bW (ae ((aq (ae (aa rfl) (ae rfl rfl))).trans tB) rfl) (yd (.inl dB) (by omega))) rfl) pJ)
 exact bI (ρ:=[some (tupI xs)]) rfl ((av (aW ((aq (ae (aa rfl) rfl)).trans (cA hr S)))).trans (iG (bj (bW (ae hc rfl) pJ))))
abbrev wkL (A B:List (Int × Int)) (v:Int):List (Nat × Nat × Int):=wlk (wsS A) (wsS B) v ((wsS A).length + (wsS B).length) 0 (wsS B).length
theorem Ae {xs:List Int} (h12:xs.length≤12) (hr:Row xs) (v:Int) (S:Sto):∃ (S':Sto) (m:Nat) (A B:List (Int × Int)),gm [tupI xs,.int v] S=.ok (.ref m) S'∧S'[m]?=some (.lst ((wkL A B v).map eW))∧Pre S S'∧Hist A (wsL KS (xs.take (xs.length / 2)))∧Hist B (wsL KS (xs.drop (xs.length / 2)))∧(wkL A B v).length≤128∧S.length≤m:=by
 obtain ⟨S1,A,B,e1,p1,hA,hB,lA,lB⟩:=DP h12 hr S
 have hlen:(wsS A).length + (wsS B).length≤128:=by rw [ve,ve]; omega
 obtain ⟨r4,r5,r6,e2⟩:=vc (A:=wsS A) (B:=wsS B) (v:=v) (some (tupI xs)) (m:=S1.length) ((wsS A).length + (wsS B).length) 0 (wsS B).length (S1 ++ [.lst []]) [] none (by omega) (Nat.le_refl _) (by simp) (by simp; omega)
 have hset:(S1 ++ [SO.lst []]).set S1.length (.lst ([] ++ (wkL A B v).map eW))=S1 ++ [.lst ((wkL A B v).map eW)]:=by simp
 refine ⟨S1 ++ [.lst ((wkL A B v).map eW)],S1.length,A,B,?_,by simp,p1.trans (Pre.app _ _),hA,hB,Nat.le_trans (mE _ _ _) hlen,p1.len⟩
 have e3:sWh wkT wkB [some (tupI xs),some (.int v),some (.tup [tupI (wsS A),tupI (wsS B)]),some (.ref S1.length),some (.int ((0:Nat):Int)),some (.int (((wsS B).length:Int) - 1)),none] (S1 ++ [.lst []])=.ok (.nx [some (tupI xs),some (.int v),some (.tup [tupI (wsS A),tupI (wsS B)]),some (.ref S1.length),r4,r5,r6]) (S1 ++ [.lst ((wkL A B v).map eW)]):=by
  rw [Cf _ (by rw [e2]; exact fun z=>by cases z),e2,hset]
 refine bI (ρ:=[some (tupI xs),some (.int v),none,none,none,none,none]) rfl ?_
 refine (av (bc ((aq (ae (aa rfl) rfl)).trans e1))).trans ?_
 refine (av (S1:=S1 ++ [.lst []]) (iG (bc rfl))).trans ?_
 refine (av (iG (bc rfl))).trans ?_
 refine (av (iG (bc (ax (bW (ae (ax (x:=.tup [tupI (wsS A),tupI (wsS B)]) (aa rfl) rfl rfl) rfl) er) rfl rfl)))).trans ?_
 exact (av (iG e3)).trans (iG (bj (aa rfl)))
theorem CM {m:EM} {r:Rho} {S S1:Sto} {n:Nat} {xs:List D} (h:m r S=.ok (.ref n) S1) (hn:S1[n]?=some (.lst xs)):xJ m r S=.ok xs (S1.set n (.flst xs)):=by
 unfold xJ
 rw [h,R.bind_ok]
 simp only [hn]
theorem og {A:Type} {x1 x2 x3:A→D} {out:A→D} {p:A→Bool} {t:TM} {e:EM} {tl:Rho} {S:Sto}:∀ (xs:List A) (r0 r1 r2:Option D),(∀ x ∈ xs,t (some (x1 x) :: some (x2 x) :: some (x3 x) :: tl) S=.ok (p x) S)→(∀ x ∈ xs,p x=true→e (some (x1 x) :: some (x2 x) :: some (x3 x) :: tl) S=.ok (out x) S)→eu (.tp [.nm 0,.nm 1,.nm 2]) t e (xs.map fun x=>.tup [x1 x,x2 x,x3 x]) (r0 :: r1 :: r2 :: tl) S=.ok ((xs.filter p).map out) S
 | [],_,_,_,_,_=>rfl
 | x :: xs,r0,r1,r2,ht,h=>by
  have h0:=ht x List.mem_cons_self
  have h2:=og (out:=out) xs (some (x1 x)) (some (x2 x)) (some (x3 x)) (fun y hy=>ht y (List.mem_cons_of_mem _ hy)) fun y hy=>h y (List.mem_cons_of_mem _ hy)
  rw [List.map_cons,eu]
  cases hp:p x with
  | true=>
   have h1:=h x List.mem_cons_self hp
   rw [hp] at h0
   simp only [G.put,G.puts,List.set_cons_zero,List.set_cons_succ,R.bind_ok,if_true,h0,h1,h2,List.map_cons,List.filter_cons,hp]
  | false=>
   rw [hp] at h0
   simp only [G.put,G.puts,List.set_cons_zero,List.set_cons_succ,R.bind_ok,h0,h2,List.filter_cons,hp,Bool.false_eq_true,if_false]
theorem tM {A:Type} {x1 x2 x3:A→D} {out:A→D} {p:A→Bool} {t:TM} {e:EM} {it:AM} {caps:List Nat} {tl r:Rho} {S S1:Sto} (xs:List A) (hi:it r S=.ok (xs.map fun x=>.tup [x1 x,x2 x,x3 x]) S1) (hl:xs.length≤sizeLine) (hc:caps.map (fun i=>(r[i]?).join)=tl) (ht:∀ x ∈ xs,t (some (x1 x) :: some (x2 x) :: some (x3 x) :: tl) S1=.ok (p x) S1) (h:∀ x ∈ xs,p x=true→e (some (x1 x) :: some (x2 x) :: some (x3 x) :: tl) S1=.ok (out x) S1):bJ it 3 caps (.tp [.nm 0,.nm 1,.nm 2]) t e r S=.ok (.lst ((xs.filter p).map out)) S1:=by
 unfold bJ
 rw [hi,R.bind_ok,if_pos (by rw [List.length_map]; exact hl)]
 have:fy 3 caps r=none :: none :: none :: tl:=by unfold fy; rw [hc]; rfl
 rw [this,og (out:=out) xs none none none ht h,R.bind_ok]
def DQ:Option Int→D
 | none=>.non
 | some i=>.int i
def Af:List Int→Option Int
 | []=>none
 | n :: ns=>some (fN n ns)
theorem DR (S:Sto):∀ l:List Int,qY S [.lst (l.map .int)]=some (DQ (Af l))
 | []=>rfl
 | n :: ns=>by
  have e:=rK (n :: ns)
  rw [List.map_cons] at e ⊢
  unfold qY
  have ht:jR (D.int n :: ns.map D.int)=none:=rfl
  simp only [nI,ht,e]
  rfl
theorem Ag:∀ {l:List Int} {u:Int},Af l=some u→u ∈ l∧∀ x ∈ l,u≤x
 | n :: ns,u,h=>by
  cases h
  obtain ⟨⟨h1,h2⟩,h3⟩:=oZ ns n
  refine ⟨?_,fun x hx=>?_⟩
  ·rcases h3 with e | e
   ·rw [e]; exact .head _
   ·exact .tail _ e
  ·rcases List.mem_cons.mp hx with rfl | hx
   ·exact h1
   ·exact h2 x hx
def ye (xs:List Int) (v:Int):Option Int→Prop
 | none=>∀ u,Wo KS xs u→u < v
 | some u=>Wo KS xs u∧v≤u∧∀ z,Wo KS xs z→v≤z→u≤z
theorem oh {xs:List Int} {A B:List (Int × Int)} (hA:Hist A (wsL KS (xs.take (xs.length / 2)))) (hB:Hist B (wsL KS (xs.drop (xs.length / 2)))) (u:Int):Wo KS xs u↔∃ x ∈ wsS A,∃ y ∈ wsS B,x + y=u:=by
 have:=CK (K:=KS) (xs:=xs.take (xs.length / 2)) (ys:=xs.drop (xs.length / 2)) (v:=u)
 rw [List.take_append_drop] at this
 rw [← this]
 constructor
 ·rintro ⟨x,hx,y,hy,e⟩
  exact ⟨x,(kM hA x).mpr hx,y,(kM hB y).mpr hy,e⟩
 ·rintro ⟨x,hx,y,hy,e⟩
  exact ⟨x,(kM hA x).mp hx,y,(kM hB y).mp hy,e⟩
theorem yf {xs:List Int} (h12:xs.length≤12) (hr:Row xs) (v:Int) (S:Sto):∃ (S':Sto) (o:Option Int),gn [tupI xs,.int v] S=.ok (DQ o) S'∧Pre S S'∧ye xs v o:=by
 obtain ⟨S1,m,A,B,e1,hm,p1,hA,hB,hlen,hml⟩:=Ae h12 hr v S
 have z:(1000:Nat)≤sizeLine:=by decide
 have hc:bJ (xJ (ar gm (ab (ag 0) (ab (ag 1) ak)))) 3 [1] (.tp [(.nm 0),(.nm 1),(.nm 2)]) (tV (eOp oGe (ag 2) (ag 3))) (ag 2) [some (tupI xs),some (.int v)] S=.ok (.lst (((wkL A B v).filter fun e=>decide (v≤e.2.2)).map fun e=>D.int e.2.2)) (S1.set m (.flst ((wkL A B v).map eW))):=
  tM (x1:=fun e:Nat × Nat × Int=>.int e.1) (x2:=fun e=>.int e.2.1) (x3:=fun e=>.int e.2.2) (tl:=[some (.int v)]) (wkL A B v) (CM ((aq (ae (aa rfl) (ae (aa rfl) rfl))).trans e1) hm) (by omega) rfl
   (fun e he=>Ad (cy (ax (aa rfl) (aa rfl) rfl))) fun e he _=>aa rfl
 have hl:((wkL A B v).filter fun e=>decide (v≤e.2.2)).map (fun e=>D.int e.2.2)=(((wkL A B v).filter fun e=>decide (v≤e.2.2)).map fun e=>e.2.2).map D.int:=by rw [List.map_map]; rfl
 rw [hl] at hc
 refine ⟨S1.set m (.flst ((wkL A B v).map eW)),Af (((wkL A B v).filter fun e=>decide (v≤e.2.2)).map fun e=>e.2.2),?_,p1.set hml _,?_⟩
 ·exact bI (ρ:=[some (tupI xs),some (.int v)]) rfl ((av (aW ((aq (ae (aa rfl) (ae (aa rfl) rfl))).trans (tL hr v S)))).trans (bj (bW (ae hc rfl) (DR _ _))))
 ·have hit:∀ u,Wo KS xs u→v≤u→∃ w ∈ ((wkL A B v).filter fun e=>decide (v≤e.2.2)).map fun e=>e.2.2,w≤u:=fun u hu hv=>by
   obtain ⟨x,hx,y,hy,rfl⟩:=(oh hA hB u).mp hu
   obtain ⟨e,he,h1,h2⟩:=tI (cZ _) (cZ _) hx hy hv
   exact ⟨e.2.2,List.mem_map.mpr ⟨e,List.mem_filter.mpr ⟨he,by simpa using h1⟩,rfl⟩,h2⟩
  cases ho:Af (((wkL A B v).filter fun e=>decide (v≤e.2.2)).map fun e=>e.2.2) with
  | none=>
   intro u hu
   rcases Int.lt_or_le u v with h | h
   ·exact h
   ·obtain ⟨w,hw,_⟩:=hit u hu h
    match hl:((wkL A B v).filter fun e=>decide (v≤e.2.2)).map fun e=>e.2.2 with
    | []=>rw [hl] at hw; cases hw
    | n :: ns=>rw [hl] at ho; cases ho
  | some u=>
   obtain ⟨h1,h2⟩:=Ag ho
   obtain ⟨e,he,rfl⟩:=List.mem_map.mp h1
   obtain ⟨he,hv⟩:=List.mem_filter.mp he
   obtain ⟨x,y,hx,hy,rfl⟩:=mD _ _ _ (Nat.le_refl _) e he
   refine ⟨(oh hA hB _).mpr ⟨_,getD_mem' hx,_,getD_mem' hy,rfl⟩,by simpa using hv,fun z hz hvz=>?_⟩
   obtain ⟨w,hw,hwz⟩:=hit z hz hvz
   exact Int.le_trans (h2 w hw) hwz
theorem yg {S:Sto} {n:Nat} {o o':SO} (h:S[n]?=some o):(S.set n o').set n o=S:=by
 have hl:n < S.length:=(List.getElem?_eq_some_iff.mp h).1
 rw [List.set_set]
 have e:=(List.getElem?_eq_some_iff.mp h).2
 rw [← e]
 exact List.set_getElem_self hl
theorem Ah {i n:Nat} {kvs:List (KD × D)} {ρ:Rho} {S:Sto} {m:EM} {d:D} (hi:ρ[i]?=some (some (.ref n))) (hd:S[n]?=some (.dic kvs)) (hm:m ρ S=.ok d (S.set n (.fdic kvs))):iO i m ρ S=.ok d S:=by
 have hnl:n < S.length:=(List.getElem?_eq_some_iff.mp hd).1
 unfold iO
 rw [hi]
 simp only [hd]
 rw [hm,R.bind_ok]
 congr 1
 unfold cz
 rw [List.getElem?_set_self hnl]
 exact yg hd
theorem wo {A:Type} {enc out:A→D} {e:EM} {it:AM} {caps:List Nat} {tl r:Rho} {S S1:Sto} (xs:List A) (hi:it r S=.ok (xs.map enc) S1) (hl:xs.length≤sizeLine) (hc:caps.map (fun i=>(r[i]?).join)=tl) (h:∀ x ∈ xs,e (some (enc x) :: tl) S1=.ok (out x) S1):bJ it 1 caps (.nm 0) bO e r S=.ok (.lst (xs.map out)) S1:=by
 unfold bJ
 rw [hi,R.bind_ok,if_pos (by rw [List.length_map]; exact hl)]
 have:fy 1 caps r=none :: tl:=by unfold fy; rw [hc]; rfl
 rw [this,comp_map (out:=out) xs none h,R.bind_ok]
abbrev TI:=List (Int × Int)
def Sm (f:List Int) (h:Int→Int):Int:=(f.map h).sum
theorem bG {f:List Int} {h g:Int→Int} (e:∀ x,h x=g x):Sm f h=Sm f g:=by rw [show h=g from funext e]
theorem yh (K:List Int) (x:Int) (f:List Int) (h:Int→Int):Sm (fS K x f) h=Sm f fun y=>Sm K fun q=>h (y + q * x):=tw K x h f
theorem yi:∀ (f:List Int) (h g:Int→Int),Sm f (fun x=>h x + g x)=Sm f h + Sm f g
 | [],_,_=>rfl
 | x :: f,h,g=>by
  have:=yi f h g
  unfold Sm at this ⊢
  simp only [List.map_cons,List.sum_cons,this]; omega
theorem vf:∀ f:List Int,Sm f (fun _=>0)=0
 | []=>rfl
 | x :: f=>by
  have:=vf f
  unfold Sm at this ⊢
  simp only [List.map_cons,List.sum_cons,this]; rfl
theorem pK (f:List Int) (h:Int→Int→Int):∀ g:List Int,Sm f (fun x=>Sm g fun y=>h x y)=Sm g fun y=>Sm f fun x=>h x y
 | []=>vf f
 | y :: g=>by
  have ih:=pK f h g
  have e:∀ x,Sm (y :: g) (fun y=>h x y)=h x y + Sm g fun y=>h x y:=fun x=>by unfold Sm; rw [List.map_cons,List.sum_cons]
  rw [bG e,yi,ih]
  unfold Sm
  rw [List.map_cons,List.sum_cons]
theorem jV (K xs:List Int):∀ (n:Nat) (ys:List Int) (h:Int→Int),ys.length=n→Sm (wsL K (xs ++ ys)) h=Sm (wsL K xs) fun z=>Sm (wsL K ys) fun w=>h (z + w)
 | 0,ys,h,hn=>by
  rw [List.length_eq_zero_iff.mp hn,List.append_nil]
  refine bG fun z=>?_
  show h z=h (z + 0) + 0
  rw [Int.add_zero,Int.add_zero]
 | n + 1,ys,h,hn=>by
  obtain ⟨zs,y,rfl⟩:∃ zs y,ys=zs ++ [y]:=⟨ys.dropLast,ys.getLast (fun z=>by rw [z] at hn; cases hn),(List.dropLast_concat_getLast _).symm⟩
  rw [List.length_append] at hn
  have hl:zs.length=n:=by simpa using hn
  rw [← List.append_assoc,jz,yh,jV K xs n zs _ hl]
  refine bG fun z=>?_
  rw [jz,yh]
  refine bG fun w=>bG fun q=>?_
  rw [Int.add_assoc]
def Alike (f g:List Int):Prop:=∀ h,Sm f h=Sm g h
theorem pL (K:List Int) (x:Int) (h:Int→Int):Sm (wsL K [x]) h=Sm K fun q=>h (q * x):=by
 have e:=jz K [] x
 rw [List.nil_append] at e
 rw [e,yh]
 show (Sm K fun q=>h (0 + q * x)) + 0=_
 rw [Int.add_zero]
 exact bG fun q=>by rw [Int.zero_add]
theorem kN (K:List Int) {a b:List Int} (p:a.Perm b):Alike (wsL K a) (wsL K b):=by
 have cs:∀ (x:Int) (l:List Int) h,Sm (wsL K (x :: l)) h=Sm K fun q=>Sm (wsL K l) fun w=>h (q * x + w):=fun x l h=>by
  have:=jV K [x] l.length l h rfl
  rw [pL] at this
  exact this
 induction p with
 | nil=>exact fun h=>rfl
 | cons x _ ih=>exact fun h=>by rw [cs,cs]; exact bG fun q=>ih _
 | swap x y l=>
  intro h
  rw [cs,cs]
  have e1:∀ q,(Sm (wsL K (x :: l)) fun w=>h (q * y + w))=Sm K fun r=>Sm (wsL K l) fun w=>h (q * y + (r * x + w)):=fun q=>cs x l _
  have e2:∀ q,(Sm (wsL K (y :: l)) fun w=>h (q * x + w))=Sm K fun r=>Sm (wsL K l) fun w=>h (q * x + (r * y + w)):=fun q=>cs y l _
  rw [bG e1,bG e2,pK K (fun q r=>Sm (wsL K l) fun w=>h (q * y + (r * x + w))) K]
  exact bG fun q=>bG fun r=>bG fun w=>by rw [show r * y + (q * x + w)=q * x + (r * y + w) by omega]
 | trans _ _ i1 i2=>exact fun h=>(i1 h).trans (i2 h)
theorem pN {f:List Int} {v:Int}:v ∈ f↔0 < Sm f (fun y=>if y=v then 1 else 0):=by
 have e:Sm f (fun y=>if y=v then 1 else 0)=((f.filter fun y=>decide (y=v)).length:Int):=pG v f
 rw [e]
 constructor
 ·intro h
  have:0 < (f.filter fun y=>decide (y=v)).length:=List.length_pos_of_mem (List.mem_filter.mpr ⟨h,decide_eq_true rfl⟩)
  omega
 ·intro h
  have h':0 < (f.filter fun y=>decide (y=v)).length:=by omega
  obtain ⟨y,hy⟩:=List.exists_mem_of_length_pos h'
  obtain ⟨h1,h2⟩:=List.mem_filter.mp hy
  rw [← of_decide_eq_true h2]; exact h1
theorem sub_len {A B:List Int} (hA:A.Nodup) (h:∀ a ∈ A,a ∈ B):A.length≤B.length:=by
 induction A generalizing B with
 | nil=>exact Nat.zero_le _
 | cons a A ih=>
  obtain ⟨h1,h2⟩:=List.nodup_cons.mp hA
  have hb:=h a (.head _)
  have:=ih (B:=B.erase a) h2 fun x hx=>(List.mem_erase_of_ne (fun e=>h1 (by rw [← e]; exact hx))).mpr (h x (.tail _ hx))
  rw [List.length_erase_of_mem hb] at this
  have hp:=List.length_pos_of_mem hb
  rw [List.length_cons]
  omega
theorem kO {T:TI} (h:Keys T):(T.map (·.1)).Nodup:=by
 unfold Keys at h
 rw [List.nodup_iff_pairwise_ne,List.pairwise_map]
 exact h
theorem rL {T:TI} {v:Int} (h:¬ ∃ e ∈ T,e.1=v):gT T v=0:=tu (by
 rw [List.any_eq_false]
 intro e he hd
 exact h ⟨e,he,of_decide_eq_true hd⟩)
theorem pO {T:TI} (h:Keys T) {v:Int} (hv:∃ e ∈ T,e.1=v):(v,gT T v) ∈ T:=by
 obtain ⟨e,he,rfl⟩:=hv
 rw [i8 h he]; exact he
abbrev lkT (T:TI):List (KD × Int):=T.map fun e=>((.inl e.1:KD),e.2)
theorem CN {T T':TI} (h:Keys T) (h':Keys T') (hm:∀ v,(∃ e ∈ T,e.1=v)↔∃ e ∈ T',e.1=v) (hg:∀ v,gT T v=gT T' v):fQ (lkT T) (lkT T')=true:=by
 have hl:T.length=T'.length:=by
  have a:=sub_len (kO h) (B:=T'.map (·.1)) fun x hx=>List.mem_map.mpr ((hm x).mp (List.mem_map.mp hx))
  have b:=sub_len (kO h') (B:=T.map (·.1)) fun x hx=>List.mem_map.mpr ((hm x).mpr (List.mem_map.mp hx))
  simp only [List.length_map] at a b
  omega
 unfold fQ
 rw [Bool.and_eq_true]
 refine ⟨decide_eq_true (by rw [List.length_map,List.length_map]; exact hl),List.all_eq_true.mpr fun x hx=>decide_eq_true ?_⟩
 obtain ⟨e,he,rfl⟩:=List.mem_map.mp hx
 rw [List.find?_map]
 have hfun:((fun e':KD × Int=>decide (e'.1=(.inl e.1:KD))) ∘ fun e:Int × Int=>((.inl e.1:KD),e.2))=fun e'=>decide (e'.1=e.1):=by
  funext d
  show decide ((Sum.inl d.1:KD)=.inl e.1)=decide (d.1=e.1)
  rw [decide_eq_decide]
  exact ⟨Sum.inl.inj,fun z=>by rw [z]⟩
 rw [hfun]
 obtain ⟨e',he',z⟩:=(hm _).mp ⟨e,he,rfl⟩
 cases hf:T'.find? fun e'=>decide (e'.1=e.1) with
 | none=>
  rw [List.find?_eq_none] at hf
  exact absurd (decide_eq_true z) (hf e' he')
 | some d=>
  have hd1:d.1=e.1:=by
   have:=List.find?_some hf
   simpa using this
  have hd2:d ∈ T':=List.mem_of_find?_eq_some hf
  have e1:=i8 h he
  have e2:=i8 h' hd2
  have e3:=hg e.1
  rw [← hd1] at e3
  rw [hd1] at e3 e2
  show some d.2=some e.2
  rw [← e1,← e2,e3]
theorem Hist.gTs {T:TI} {f:List Int} (h:Hist T f) (v:Int):gT T v=Sm f fun y=>if y=v then 1 else 0:=by
 rw [← mq h.keys,h.sum]; rfl
theorem iz {T T':TI} {f g:List Int} (h:Hist T f) (h':Hist T' g) (a:Alike f g):fQ (lkT T) (lkT T')=true:=CN h.keys h'.keys (fun v=>by rw [h.mem v,h'.mem v,pN,pN,a]) fun v=>by rw [h.gTs,h'.gTs,a]
theorem wq (h:Int→Int):∀ {T T':TI},Keys T→Keys T'→(∀ v,(∃ e ∈ T,e.1=v)↔∃ e ∈ T',e.1=v)→(∀ v,gT T v=gT T' v)→sumH h T=sumH h T':=fun {T T'} k k' hm hg=>by
 have nd:∀ {T:TI},Keys T→T.Nodup:=fun {T} k=>by
  rw [List.nodup_iff_pairwise_ne]
  exact List.Pairwise.imp (fun {a b} z e=>z (by rw [e])) k
 have key:∀ {T T':TI},Keys T→Keys T'→(∀ v,(∃ e ∈ T,e.1=v)→∃ e ∈ T',e.1=v)→(∀ v,gT T v=gT T' v)→∀ e ∈ T,e ∈ T':=fun {T T'} k k' hm hg e he=>by
  have:=pO k' (hm e.1 ⟨e,he,rfl⟩)
  rw [← hg,i8 k he] at this
  exact this
 have p:T.Perm T':=(List.perm_ext_iff_of_nodup (nd k) (nd k')).mpr fun e=>⟨key k k' (fun v=>(hm v).mp) hg e,key k' k (fun v=>(hm v).mpr) (fun v=>(hg v).symm) e⟩
 unfold sumH
 exact we (p.map _)
theorem jW {P A B:TI} {f g r:List Int} (h:HistC P (eQ A B)) (hA:Hist A f) (hB:Hist B g) (hr:∀ k:Int→Int,Sm r k=Sm f fun x=>Sm g fun y=>k (x + y)) (hl:P.length≤r.length):Hist P r:=by
 have hs:∀ k:Int→Int,sumH k P=Sm r k:=fun k=>by
  rw [h.sum,mB,hr,hA.sum]
  exact bG fun x=>hB.sum _
 refine ⟨h.keys,fun v=>?_,fun k=>hs k,hl⟩
 rw [wk h hA hB,pN,hr]
 have nn:∀ (l:List Int) (k:Int→Int),(∀ x,0≤k x)→0≤Sm l k∧(0 < Sm l k↔∃ x ∈ l,0 < k x):=fun l k hk=>by
  induction l with
  | nil=>exact ⟨Int.le_refl _,⟨fun z=>absurd (show (0:Int) < 0 from z) (by decide),fun ⟨x,hx,_⟩=>by cases hx⟩⟩
  | cons x l ih=>
   have e:Sm (x :: l) k=k x + Sm l k:=by unfold Sm; rw [List.map_cons,List.sum_cons]
   have:=hk x
   obtain ⟨i1,i2⟩:=ih
   rw [e]
   refine ⟨by omega,fun z=>?_,fun ⟨y,hy,q⟩=>?_⟩
   ·by_cases c:0 < k x
    ·exact ⟨x,.head _,c⟩
    ·obtain ⟨y,hy,q⟩:=i2.mp (by omega)
     exact ⟨y,.tail _ hy,q⟩
   ·rcases List.mem_cons.mp hy with rfl | hy
    ·omega
    ·have:=i2.mpr ⟨y,hy,q⟩; omega
 have ind:∀ w:Int,(0:Int)≤if w=v then 1 else 0:=fun w=>by split <;> decide
 rw [(nn f _ fun x=>(nn g _ fun y=>ind _).1).2]
 constructor
 ·rintro ⟨x,hx,y,hy,e⟩
  exact ⟨x,hx,(nn g _ fun y=>ind _).2.mpr ⟨y,hy,by rw [if_pos e]; decide⟩⟩
 ·rintro ⟨x,hx,q⟩
  obtain ⟨y,hy,q⟩:=(nn g _ fun y=>ind _).2.mp q
  exact ⟨x,hx,y,hy,Classical.byContradiction fun z=>by rw [if_neg z] at q; exact absurd q (by decide)⟩
theorem jB (b:Int):∀ (xs p:List Int),wor (xs.map (· * b)) p=wor xs p * b
 | [],p=>by cases p <;> (show (0:Int)=0 * b; rw [Int.zero_mul])
 | x :: xs,[]=>by show (0:Int)=0 * b; rw [Int.zero_mul]
 | x :: xs,q :: p=>by
  show x * b * q + wor (xs.map (· * b)) p=(x * q + wor xs p) * b
  rw [jB b xs p,Int.add_mul,Int.mul_right_comm]
theorem Ai (K:List Int) (b:Int) (xs:List Int):wsL K (xs.map (· * b))=(wsL K xs).map (· * b):=by
 unfold wsL
 rw [List.length_map,List.map_map]
 exact List.map_congr_left fun p _=>jB b xs p
theorem Aj {x y b:Int} (h:1≤b) (e:x * b=y * b):x=y:=Int.eq_of_mul_eq_mul_right (by omega) e
def grT (b:Int) (T:TI):TI:=T.map fun e=>(e.1 * b,e.2)
theorem rM {b:Int} (hb:1≤b) {T:TI} (h:Keys T):Keys (grT b T):=by
 unfold Keys grT
 rw [List.pairwise_map]
 exact List.Pairwise.imp (fun {x y} z e=>z (Aj hb e)) h
theorem wt {b:Int} (hb:1≤b) {T:TI} {f:List Int} (h:Hist T f):Hist (grT b T) (f.map (· * b)):=by
 refine ⟨rM hb h.keys,fun v=>?_,fun k=>?_,by unfold grT; rw [List.length_map,List.length_map]; exact h.len⟩
 ·unfold grT
  constructor
  ·rintro ⟨e,he,rfl⟩
   obtain ⟨d,hd,rfl⟩:=List.mem_map.mp he
   exact List.mem_map.mpr ⟨d.1,(h.mem _).mp ⟨d,hd,rfl⟩,rfl⟩
  ·intro hv
   obtain ⟨w,hw,rfl⟩:=List.mem_map.mp hv
   obtain ⟨d,hd,rfl⟩:=(h.mem w).mpr hw
   exact ⟨_,List.mem_map.mpr ⟨d,hd,rfl⟩,rfl⟩
 ·have e:=h.sum fun y=>k (y * b)
  unfold sumH at e ⊢
  unfold grT
  rw [List.map_map,List.map_map]
  exact e
theorem vg {b:Int} {xs:List Int} {v:Int}:Wo KS (xs.map (· * b)) v↔∃ u,Wo KS xs u∧u * b=v:=by
 rw [mf,List.length_map]
 constructor
 ·rintro ⟨p,hp,rfl⟩
  exact ⟨wor xs p,mf.mpr ⟨p,hp,rfl⟩,(jB b xs p).symm⟩
 ·rintro ⟨u,hu,rfl⟩
  obtain ⟨p,hp,rfl⟩:=mf.mp hu
  exact ⟨p,hp,jB b xs p⟩
theorem CO:∀ xs:List Int,Wo KS xs xs.sum:=fun xs=>by
 rw [mf]
 refine ⟨List.replicate xs.length 1,(cq _ _).mpr ⟨List.length_replicate,fun q hq=>by rw [List.eq_of_mem_replicate hq]; decide⟩,?_⟩
 induction xs with
 | nil=>rfl
 | cons x xs ih=>
  rw [List.length_cons,List.replicate_succ]
  show x * 1 + wor xs (List.replicate xs.length 1)=_
  rw [ih,List.sum_cons]; omega
theorem yj:∀ {xs:List Int},(∀ x ∈ xs,1≤x)→0≤xs.sum
 | [],_=>Int.le_refl _
 | x :: xs,h=>by
  have:=yj (xs:=xs) fun y hy=>h y (.tail _ hy)
  have:=h x (.head _)
  rw [List.sum_cons]; omega
theorem Ak {xs:List Int} (h:∀ x ∈ xs,1≤x) {o:Option Int} (a:ye xs 0 o):∃ u,o=some u:=by
 cases o with
 | some u=>exact ⟨u,rfl⟩
 | none=>
  have:=a xs.sum (CO xs)
  have:=yj h
  omega
theorem Am {xs:List Int} {b u u':Int} (hb:1≤b) (a:ye xs 0 (some u)) (a':ye (xs.map (· * b)) 0 (some u')):u'=b * u:=by
 obtain ⟨a1,a2,a3⟩:=a
 obtain ⟨b1,b2,b3⟩:=a'
 obtain ⟨w,hw,rfl⟩:=vg.mp b1
 have c1:=b3 (u * b) (vg.mpr ⟨u,a1,rfl⟩) (Int.mul_nonneg a2 (by omega))
 have w0:0≤w:=Classical.byContradiction fun z=>by
  have:w * b≤(-1) * b:=Int.mul_le_mul_of_nonneg_right (by omega) (by omega)
  omega
 have c2:=a3 w hw w0
 have c3:u * b≤w * b:=Int.mul_le_mul_of_nonneg_right c2 (by omega)
 rw [Int.mul_comm b u]; omega
theorem yk {T:TI} {f:List Int} (h:Hist T f) (hf:f.length≤3000):∀ e ∈ T,1≤e.2∧e.2≤3000:=fun e he=>by
 have e1:=i8 h.keys he
 rw [h.get] at e1
 have h1:=List.length_filter_le (fun y=>decide (y=e.1)) f
 have h2:0 < (f.filter fun y=>decide (y=e.1)).length:=List.length_pos_of_mem (List.mem_filter.mpr ⟨(h.mem _).mp ⟨e,he,rfl⟩,decide_eq_true rfl⟩)
 omega
theorem cv (K xs:List Int):(wsL K xs).length=K.length ^ xs.length:=by unfold wsL; rw [List.length_map,mn]
theorem vh {K:List Int} (hK:K ≠ []) (xs:List Int):wsL K xs ≠ []:=fun z=>by
 have:=cv K xs
 rw [z] at this
 have h2:1≤K.length ^ xs.length:=Nat.one_le_pow _ _ (by have:=List.length_pos_iff.mpr hK; omega)
 rw [← this] at h2
 exact absurd h2 (by decide)
structure Tab (T:TI):Prop where
 keys:Keys T
 ne:T ≠ []
 len:T.length≤3000
 val:∀ e ∈ T,1≤e.2∧e.2≤3000
theorem Tab.pos {T:TI} (h:Tab T):∀ e ∈ T,1≤e.2:=fun e he=>(h.val e he).1
theorem Hist.tab {T:TI} {f:List Int} (h:Hist T f) (hn:f ≠ []) (hl:f.length≤3000):Tab T:=⟨h.keys,fun z=>by
  cases f with
  | nil=>exact hn rfl
  | cons x f=>
   obtain ⟨e,he,_⟩:=(h.mem x).mpr (.head _)
   rw [z] at he
   exact absurd he List.not_mem_nil,Nat.le_trans h.len hl,yk h hl⟩
theorem set_same {S:Sto} {m:Nat} {o:SO} (hm:S[m]?=some o):S.set m o=S:=by
 have hml:m < S.length:=(List.getElem?_eq_some_iff.mp hm).1
 have e:=(List.getElem?_eq_some_iff.mp hm).2
 rw [← e]; exact List.set_getElem_self hml
theorem jC (T:TI):(encT T).map PD.pairD=T.map fun e=>D.tup [.int e.1,.int e.2]:=by unfold encT; rw [List.map_map]; rfl
theorem pP (i:Int) (S:Sto):bf [.int i] S=.ok (.bl true) S:=by kernel_rfl
theorem jD:∀ T:TI,gO (encT T)=some (lkT T)
 | []=>rfl
 | e :: T=>by
  show gO ((.inl e.1,.int e.2) :: encT T)=_
  unfold gO
  rw [jD T]; rfl
theorem An {S:Sto} {n:Nat} {T:TI} (h:dAt S n T):jv S [.ref n,.ty "dict"]=some (.bl true):=by
 rcases h with h | h
 ·have e:jv S [.ref n,.ty "dict"]=gS S [.ref n,.ty "dict"]:=by
   simp only [jv,h]
  rw [e]
  unfold gS tyD
  simp only [h]
  rfl
 ·simp only [jv,h]
  rfl
theorem dAt.frz {S:Sto} {n:Nat} {T:TI} (h:dAt S n T):(S.set n (.fdic (encT T)))[n]?=some (.fdic (encT T)):=List.getElem?_set_self h.lt
theorem yl {S:Sto} {n:Nat} {T:TI} (h:dAt S n T) (ht:Tab T):fH [.ref n] S=.ok (.bl true) (S.set n (.fdic (encT T))):=by
 have z:(3000:Nat)≤sizeLine:=by decide
 have he:mW S (.ref n) (.dic [])=some (.bl false):=by
  have e1:dq S (.dic [])=some []:=rfl
  have e2:fQ (lkT T) []=false:=by
   unfold fQ
   rw [decide_eq_false (fun z=>ht.ne (by rw [List.length_map] at z; exact List.length_eq_zero_iff.mp z))]; rfl
  unfold mW
  simp only [h.dic,e1,jD]
  show some (D.bl (fQ (lkT T) []))=_
  rw [e2]
 have hi:=iy (ρ:=[some (.ref n)]) (i:=0) rfl h
 rw [jC] at hi
 have hc:bJ (fG (ag 0)) 2 [] (.tp [(.nm 0),(.nm 1)]) bO (g4 (ar bf (ab (ag 0) ak)) (g4 (ar bf (ab (ag 1) ak)) (eOp oGe (ag 1) (eC (.int 1))))) [some (.ref n)] S=.ok (.lst (T.map fun e=>D.bl (decide ((1:Int)≤e.2)))) (S.set n (.fdic (encT T))):=
  mC (x1:=fun e:Int × Int=>.int e.1) (x2:=fun e=>.int e.2) (tl:=[]) T hi (by have:=ht.len; omega) rfl fun e he=>(lZ ((aq (ae (aa rfl) rfl)).trans (pP _ _))).trans ((lZ ((aq (ae (aa rfl) rfl)).trans (pP _ _))).trans (ax (aa rfl) rfl rfl))
 have hall:mS (S.set n (.fdic (encT T))) [.lst (T.map fun e=>D.bl (decide ((1:Int)≤e.2)))]=some (.bl true):=by
  rw [rp]
  congr 2
  exact List.all_eq_true.mpr fun e he=>decide_eq_true (ht.pos e he)
 exact bI (ρ:=[some (.ref n)]) rfl ((av ((ei ((xZ (jy (b:=true) (cy (bW (ae (aa rfl) (ae rfl rfl)) (An h))))).trans (cy (ax (aa rfl) rfl he)))).trans rfl)).trans (bj (bW (ae hc rfl) hall)))
theorem kP {S:Sto} {n:Nat} {T:TI} (h:dAt S n T) (ht:Tab T):br [.ref n] S=.ok .non (S.set n (.fdic (encT T))):=jS (ρ:=[some (.ref n)]) rfl ((ei (jy (b:=true) (cy ((aq (ae (aa rfl) rfl)).trans (yl h ht))))).trans rfl)
theorem mG {S:Sto} {p:Nat} {W:TI} (hp:S[p]?=some (.dic (encT W))) (hz:W.length < 3000) (k c:Int):ez S (.ref p) (.int k) (.int c)=some (S.set p (.dic (encT (pT W k c)))):=by
 have z:(3000:Nat)≤sizeLine:=by decide
 have h1:nG S (.ref p)=true:=by simp [nG,hp]
 unfold ez
 rw [if_pos h1]
 unfold qS
 simp only [hp,jM]
 rw [if_pos (by simp [encT]; omega),mw]
theorem ym {S:Sto} {p:Nat} {W:TI} (hp:S[p]?=some (.dic (encT W))) {m k:EM} {ρ:Rho} {v:Int} (hm:m ρ S=.ok (.ref p) S) (hk:k ρ S=.ok (.int v) S):fC m k (eC (.int 0)) ρ S=.ok (.int (gT W v)) S:=by
 have hd:dq S (.ref p)=some (encT W):=by simp [dq,hp]
 rw [← my]
 exact rq hm hd hk rfl hd rfl
structure Fz (S S':Sto):Prop where
 len:S.length≤S'.length
 old:∀ i,i < S.length→S'[i]?=S[i]? ∨ ∃ T,S[i]?=some (.dic (encT T))∧S'[i]?=some (.fdic (encT T))
theorem Fz.refl (S:Sto):Fz S S:=⟨Nat.le_refl _,fun _ _=>.inl rfl⟩
theorem Fz.trans {S S1 S2:Sto} (a:Fz S S1) (b:Fz S1 S2):Fz S S2:=⟨Nat.le_trans a.len b.len,fun i h=>by
 have h1:=Nat.lt_of_lt_of_le h a.len
 rcases a.old i h with x | ⟨T,x1,x2⟩
 ·rcases b.old i h1 with y | ⟨T,y1,y2⟩
  ·exact .inl (y.trans x)
  ·exact .inr ⟨T,x ▸ y1,y2⟩
 ·rcases b.old i h1 with y | ⟨T',y1,_⟩
  ·exact .inr ⟨T,x1,y.trans x2⟩
  ·rw [x2] at y1; cases y1⟩
theorem Pre.fz {S S':Sto} (p:Pre S S'):Fz S S':=⟨p.len,fun i h=>.inl (p.old i h)⟩
theorem Fz.app (S l:Sto):Fz S (S ++ l):=(Pre.app S l).fz
theorem Fz.set {S:Sto} {n:Nat} {T:TI} (h:dAt S n T):Fz S (S.set n (.fdic (encT T))):=⟨by rw [List.length_set]; exact Nat.le_refl _,fun i hi=>by
 by_cases c:n=i
 ·subst c
  rcases h with h | h
  ·exact .inr ⟨T,h,List.getElem?_set_self hi⟩
  ·exact .inl (by rw [List.getElem?_set_self hi]; exact h.symm)
 ·exact .inl (List.getElem?_set_ne c)⟩
theorem Fz.dat {S S':Sto} (a:Fz S S') {n:Nat} {T:TI} (h:dAt S n T):dAt S' n T:=by
 rcases a.old n h.lt with x | ⟨T',x1,x2⟩
 ·unfold dAt; rw [x]; exact h
 ·rcases h with h | h
  ·rw [h] at x1
   have e:encT T=encT T':=SO.dic.inj (Option.some.inj x1)
   exact .inr (by rw [x2,e])
  ·rw [h] at x1; cases x1
theorem Fz.fdic {S S':Sto} (a:Fz S S') {n:Nat} {T:TI} (h:S[n]?=some (.fdic (encT T))):S'[n]?=some (.fdic (encT T)):=by
 rcases a.old n (List.getElem?_eq_some_iff.mp h).1 with x | ⟨T',x1,_⟩
 ·rw [x]; exact h
 ·rw [h] at x1; cases x1
theorem Fz.gr {S S':Sto} (a:Fz S S') {b:Nat} (g:Gr b S S):Gr b S' S':=by
 obtain ⟨v,hv⟩:=g.bx
 rcases a.old b (List.getElem?_eq_some_iff.mp hv).1 with x | ⟨T',x1,_⟩
 ·exact ⟨⟨v,x.trans hv⟩,fun _ _ _=>rfl,Nat.le_refl _⟩
 ·rw [hv] at x1; cases x1
theorem wx {c:Int} (h:1≤c∧c≤3000):cw c:=⟨by omega,by omega⟩
abbrev muI:SM:=(aB (bh 7 (eOp bq (ag 3) (ag 5))) (gR ez (eOp bq (fC (ag 2) (ag 7) (eC (.int 0))) (eOp cT (ag 4) (ag 6))) (ag 2) (ag 7)))
theorem rN {p:Nat} {x c:Int} (hc:1≤c∧c≤3000) (r0 r1:Option D):∀ (l:TI) (S:Sto) (W L:TI) (r5 r6 r7:Option D),S[p]?=some (.dic (encT W))→HistC W L→L.length + l.length < 3000→
  ∃ (W':TI) (a5 a6 a7:Option D),forL (.tp [.nm 5,.nm 6]) muI (l.map fun e=>D.tup [.int e.1,.int e.2]) [r0,r1,some (.ref p),some (.int x),some (.int c),r5,r6,r7] S=.ok (.nx [r0,r1,some (.ref p),some (.int x),some (.int c),a5,a6,a7]) (S.set p (.dic (encT W')))∧HistC W' (L ++ l.map fun d=>(x + d.1,c * d.2))
 | [],S,W,L,r5,r6,r7,hp,h,_=>⟨W,r5,r6,r7,by rw [set_same hp]; rfl,by simpa using h⟩
 | d :: l,S,W,L,r5,r6,r7,hp,h,hz=>by
  rw [List.length_cons] at hz
  have hpl:p < S.length:=(List.getElem?_eq_some_iff.mp hp).1
  have h1:=h.put (x + d.1) (c * d.2)
  have e1:muI [r0,r1,some (.ref p),some (.int x),some (.int c),some (.int d.1),some (.int d.2),r7] S=.ok (.nx [r0,r1,some (.ref p),some (.int x),some (.int c),some (.int d.1),some (.int d.2),some (.int (x + d.1))]) (S.set p (.dic (encT (pT W (x + d.1) (gT W (x + d.1) + c * d.2))))):=
   (av (bc (ax (aa rfl) (aa rfl) rfl))).trans (iF (ax (ym hp (aa rfl) (aa rfl)) (ax (aa rfl) (aa rfl) (dv (.inl (wx hc)))) rfl) (aa rfl) (aa rfl) (mG hp (by have:=h.len; omega) _ _))
  generalize pT W (x + d.1) (gT W (x + d.1) + c * d.2)=W1 at e1 h1
  obtain ⟨W',a5,a6,a7,e2,h2⟩:=rN (x:=x) hc r0 r1 l (S.set p (.dic (encT W1))) W1 (L ++ [(x + d.1,c * d.2)]) (some (.int d.1)) (some (.int d.2)) (some (.int (x + d.1))) (List.getElem?_set_self hpl) h1 (by simp; omega)
  rw [List.set_set] at e2
  refine ⟨W',a5,a6,a7,?_,?_⟩
  ·rw [List.map_cons]
   exact (cO (r1:=[r0,r1,some (.ref p),some (.int x),some (.int c),some (.int d.1),some (.int d.2),r7]) rfl e1).trans e2
  ·rw [List.map_cons]
   simpa using h2
abbrev muO:SM:=(gw (fG (ag 1)) (.tp [(.nm 5),(.nm 6)]) (aB (bh 7 (eOp bq (ag 3) (ag 5))) (gR ez (eOp bq (fC (ag 2) (ag 7) (eC (.int 0))) (eOp cT (ag 4) (ag 6))) (ag 2) (ag 7))))
theorem rO {p n:Nat} {B:TI} (hnp:p ≠ n) (r0:Option D):∀ (l:TI) (S:Sto) (W L:TI) (r3 r4 r5 r6 r7:Option D),(∀ e ∈ l,1≤e.2∧e.2≤3000)→S[n]?=some (.fdic (encT B))→S[p]?=some (.dic (encT W))→HistC W L→L.length + l.length * B.length < 3000→
  ∃ (W':TI) (a3 a4 a5 a6 a7:Option D),forL (.tp [.nm 3,.nm 4]) muO (l.map fun e=>D.tup [.int e.1,.int e.2]) [r0,some (.ref n),some (.ref p),r3,r4,r5,r6,r7] S=.ok (.nx [r0,some (.ref n),some (.ref p),a3,a4,a5,a6,a7]) (S.set p (.dic (encT W')))∧HistC W' (L ++ eQ l B)
 | [],S,W,L,r3,r4,r5,r6,r7,_,_,hp,h,_=>⟨W,r3,r4,r5,r6,r7,by rw [set_same hp]; rfl,by simpa [eQ] using h⟩
 | e :: l,S,W,L,r3,r4,r5,r6,r7,hv,hn,hp,h,hz=>by
  rw [List.length_cons,Nat.succ_mul] at hz
  have hpl:p < S.length:=(List.getElem?_eq_some_iff.mp hp).1
  obtain ⟨W1,a5,a6,a7,e1,h1⟩:=rN (x:=e.1) (hv e (.head _)) r0 (some (.ref n)) B S W L r5 r6 r7 hp h (by omega)
  obtain ⟨W2,b3,b4,b5,b6,b7,e2,h2⟩:=rO hnp r0 l (S.set p (.dic (encT W1))) W1 (L ++ B.map fun d=>(e.1 + d.1,e.2 * d.2)) (some (.int e.1)) (some (.int e.2)) a5 a6 a7 (fun d hd=>hv d (.tail _ hd)) (by rw [List.getElem?_set_ne hnp]; exact hn) (List.getElem?_set_self hpl) h1 (by rw [List.length_append,List.length_map]; omega)
  rw [List.set_set] at e2
  have hi:=iy (ρ:=[r0,some (.ref n),some (.ref p),some (.int e.1),some (.int e.2),r5,r6,r7]) (i:=1) rfl (.inr hn)
  rw [jC,set_same hn] at hi
  refine ⟨W2,b3,b4,b5,b6,b7,?_,?_⟩
  ·rw [List.map_cons]
   exact (cO (r1:=[r0,some (.ref n),some (.ref p),some (.int e.1),some (.int e.2),r5,r6,r7]) rfl ((eY hi).trans e1)).trans e2
  ·have:eQ (e :: l) B=(B.map fun d=>(e.1 + d.1,e.2 * d.2)) ++ eQ l B:=by simp only [eQ,List.flatMap_cons]
   rw [this,← List.append_assoc]
   exact h2
theorem pairs_len (B:TI):∀ A:TI,(eQ A B).length=A.length * B.length:=fun A=>by
 induction A with
 | nil=>simp [eQ]
 | cons e A ih=>
  unfold eQ at ih ⊢
  rw [List.flatMap_cons,List.length_append,ih,List.length_map,List.length_cons,Nat.add_mul]; omega
theorem pQ {S:Sto} {m n:Nat} {A B:TI} (hA:dAt S m A) (hB:dAt S n B) (tA:Tab A) (tB:Tab B) (hz:A.length * B.length < 3000):∃ (P:TI) (S':Sto) (a:Nat),aU [.ref m,.ref n] S=.ok (.ref a) S'∧S'[a]?=some (.dic (encT P))∧S.length≤a∧HistC P (eQ A B)∧P.length≤A.length * B.length∧Fz S S':=by
 have n1:=kP hA tA
 have f1:=Fz.set hA
 have hA1:=hA.frz
 have l1:(S.set m (.fdic (encT A))).length=S.length:=List.length_set
 generalize S.set m (.fdic (encT A))=S1 at n1 f1 hA1 l1
 have hB1:=f1.dat hB
 have n2:=kP hB1 tB
 have f2:=Fz.set hB1
 have hB2:=hB1.frz
 have hA2:=f2.fdic hA1
 have l2:(S1.set n (.fdic (encT B))).length=S.length:=List.length_set.trans l1
 have f12:=f1.trans f2
 generalize S1.set n (.fdic (encT B))=S2 at n2 f2 hB2 hA2 l2 f12
 have hml:m < S2.length:=(List.getElem?_eq_some_iff.mp hA2).1
 have hnl:n < S2.length:=(List.getElem?_eq_some_iff.mp hB2).1
 have hA3:(S2 ++ [SO.dic []])[m]?=some (.fdic (encT A)):=by rw [List.getElem?_append_left hml]; exact hA2
 have hB3:(S2 ++ [SO.dic []])[n]?=some (.fdic (encT B)):=by rw [List.getElem?_append_left hnl]; exact hB2
 obtain ⟨P,a3,a4,a5,a6,a7,e1,h1⟩:=rO (p:=S2.length) (n:=n) (by omega) (some (.ref m)) A (S2 ++ [.dic []]) [] [] none none none none none tA.val hB3 (by simp [encT]) HistC.nil (by simpa using hz)
 have e2:(S2 ++ [SO.dic []]).set S2.length (.dic (encT P))=S2 ++ [.dic (encT P)]:=by simp
 rw [e2] at e1
 rw [List.nil_append] at h1
 have hi:=iy (ρ:=[some (.ref m),some (.ref n),some (.ref S2.length),none,none,none,none,none]) (i:=0) rfl (.inr hA3)
 rw [jC,set_same hA3] at hi
 refine ⟨P,S2 ++ [.dic (encT P)],S2.length,bI (ρ:=[some (.ref m),some (.ref n),none,none,none,none,none,none]) rfl ((av (aW ((aq (ae (aa rfl) rfl)).trans n1))).trans ((av (aW ((aq (ae (aa rfl) rfl)).trans n2))).trans ((av (S1:=S2 ++ [.dic []]) (bc rfl)).trans ((av ((eY hi).trans e1)).trans (bj (aa rfl)))))),by simp,by omega,h1,?_,f12.trans (Fz.app _ _)⟩
 have hl:=h1.len
 rwa [pairs_len B A] at hl
theorem yn:∀ (U A:TI),Keys (A ++ U)→fV (encT A) (encT U)=encT (A ++ U)
 | [],A,_=>by rw [List.append_nil]; rfl
 | e :: U,A,h=>by
  have na:A.any (fun x=>decide (x.1=e.1))=false:=by
   rw [List.any_eq_false]
   intro x hx hq
   exact (List.pairwise_append.mp h).2.2 x hx e (.head _) (of_decide_eq_true hq)
  have e1:putD (encT A) (.inl e.1) (.int e.2)=encT (A ++ [e]):=by
   rw [mw]
   unfold pT
   rw [if_neg (by rw [na]; exact Bool.false_ne_true)]
  have e2:A ++ e :: U=(A ++ [e]) ++ U:=by rw [List.append_assoc]; rfl
  show fV (putD (encT A) (.inl e.1) (.int e.2)) (encT U)=_
  rw [e1,e2]
  exact yn U (A ++ [e]) (e2 ▸ h)
theorem vk:∀ T:TI,wd (T.map fun e=>D.tup [.int e.1,.int e.2])=some (encT T)
 | []=>rfl
 | e :: T=>by
  rw [List.map_cons]
  unfold wd
  simp only [jM,vk T]
  rfl
theorem tN {f:Sto→List D→R D} {t:AM} {r:Rho} {S S1:Sto} {xs:List D} (h:t r S=.ok xs S1):eBR f t r S=f S1 xs:=by unfold eBR; rw [h,R.bind_ok]
theorem yo {S:Sto} {T:TI} (h:Keys T):tf S [.lst (T.map fun e=>D.tup [.int e.1,.int e.2])]=.ok (.ref S.length) (S ++ [.dic (encT T)]):=by
 have hm:fV [] (encT T)=encT T:=yn T [] h
 unfold tf
 simp only [nI,vk,hm]
def shT (b:Int) (T:TI):TI:=T.map fun e=>(e.1 + b,e.2)
theorem rP {b:Int} {T:TI} (h:Keys T):Keys (shT b T):=by
 unfold Keys shT
 rw [List.pairwise_map]
 exact List.Pairwise.imp (fun {a c} hne e=>hne (by have:a.1 + b=c.1 + b:=e; omega)) h
theorem Ao {b:Int} {T:TI} (h:Tab T):Tab (shT b T):=⟨rP h.keys,fun z=>h.ne (List.map_eq_nil_iff.mp z),by unfold shT; rw [List.length_map]; exact h.len,fun e he=>by
 obtain ⟨d,hd,rfl⟩:=List.mem_map.mp he
 exact h.val d hd⟩
theorem yp (b:Int) (T:TI):shT (0 - b) (shT b T)=T:=by
 unfold shT
 rw [List.map_map]
 conv=>rhs; rw [← List.map_id T]
 refine List.map_congr_left fun e _=>?_
 show (e.1 + b + (0 - b),e.2)=e
 rw [show e.1 + b + (0 - b)=e.1 by omega]
theorem vm (i:Int) (S:Sto):aV [.int i] S=.ok .non S:=jS (ρ:=[some (.int i)]) rfl ((ei (jy (b:=true) (cy ((aq (ae (aa rfl) rfl)).trans (pP _ _))))).trans rfl)
theorem rQ {S:Sto} {m:Nat} {A:TI} (hA:dAt S m A) (tA:Tab A) (b:Int):∃ (S':Sto) (a:Nat),cV [.ref m,.int b] S=.ok (.ref a) S'∧S'[a]?=some (.dic (encT (shT b A)))∧S.length≤a∧Fz S S':=by
 have z:(3000:Nat)≤sizeLine:=by decide
 have z2:(2:Nat)≤sizeLine:=by decide
 have n1:=kP hA tA
 have f1:=Fz.set hA
 have hA1:=hA.frz
 have l1:(S.set m (.fdic (encT A))).length=S.length:=List.length_set
 generalize S.set m (.fdic (encT A))=S1 at n1 f1 hA1 l1
 have n2:=vm b S1
 have hi:=iy (ρ:=[some (.ref m),some (.int b)]) (i:=0) rfl (.inr hA1)
 rw [jC,set_same hA1] at hi
 have hc:bJ (fG (ag 0)) 2 [1] (.tp [(.nm 0),(.nm 1)]) bO (gu (ab (eOp bq (ag 0) (ag 2)) (ab (ag 1) ak))) [some (.ref m),some (.int b)] S1=.ok (.lst (A.map fun e=>D.tup [.int (e.1 + b),.int e.2])) S1:=
  mC (x1:=fun e:Int × Int=>.int e.1) (x2:=fun e=>.int e.2) (tl:=[some (.int b)]) A hi (by have:=tA.len; omega) rfl fun e he=>gI (xs:=[.int (e.1 + b),.int e.2]) (ae (ax (aa rfl) (aa rfl) rfl) (ae (aa rfl) rfl)) z2
 have el:(A.map fun e=>D.tup [.int (e.1 + b),.int e.2])=(shT b A).map fun e=>D.tup [.int e.1,.int e.2]:=by unfold shT; rw [List.map_map]; rfl
 rw [el] at hc
 exact ⟨_,S1.length,bI (ρ:=[some (.ref m),some (.int b)]) rfl ((av (aW ((aq (ae (aa rfl) rfl)).trans n1))).trans ((av (aW ((aq (ae (aa rfl) rfl)).trans n2))).trans (bj ((tN (ae hc rfl)).trans (yo (rP tA.keys)))))),by simp,by omega,f1.trans (Fz.app _ _)⟩
theorem mH {S:Sto} {f d:Nat} {P Q:TI} (hf:dAt S f P) (hd:dAt S d Q) (hs:fQ (lkT P) (lkT Q)=true):fW S (.ref f) (.ref d)=some (.bl false):=by
 unfold fW
 simp only [hf.dic,hd.dic,jD]
 show some (D.bl (!fQ (lkT P) (lkT Q)))=_
 rw [hs]; rfl
theorem DS {S:Sto} {f d:Nat} {P Q:TI} (hf:dAt S f P) (hd:dAt S d Q) (hs:fQ (lkT P) (lkT Q)=true):mW S (.ref f) (.ref d)=some (.bl true):=by
 unfold mW
 simp only [hf.dic,hd.dic,jD]
 show some (D.bl (fQ (lkT P) (lkT Q)))=_
 rw [hs]
def sumO (offs:List Int) (f:Int→Int):Int:=(offs.map f).sum
theorem pR {offs:List Int} {f:Int→Int} (h:∀ o ∈ offs,0≤f o):0≤sumO offs f:=by
 unfold sumO
 induction offs with
 | nil=>exact Int.le_refl _
 | cons o l ih=>
  rw [List.map_cons,List.sum_cons]
  have:=h o (.head _)
  have:=ih fun x hx=>h x (.tail _ hx)
  omega
theorem Ap {offs:List Int} {f:Int→Int} (h:∀ o ∈ offs,0≤f o) {o:Int} (ho:o ∈ offs):f o≤sumO offs f:=by
 unfold sumO
 induction offs with
 | nil=>cases ho
 | cons x l ih=>
  rw [List.map_cons,List.sum_cons]
  have h1:=h x (.head _)
  have h2:=pR (offs:=l) fun y hy=>h y (.tail _ hy)
  unfold sumO at h2
  rcases List.mem_cons.mp ho with rfl | ho
  ·omega
  ·have:=ih (fun y hy=>h y (.tail _ hy)) ho
   omega
theorem gJ {offs:List Int} {f g:Int→Int} (h:∀ o ∈ offs,f o=g o):sumO offs f=sumO offs g:=by
 unfold sumO
 rw [List.map_congr_left h]
theorem yq (offs:List Int) (f g:Int→Int):sumO offs (fun o=>f o - g o)=sumO offs f - sumO offs g:=by
 unfold sumO
 induction offs with
 | nil=>rfl
 | cons o l ih=>rw [List.map_cons,List.map_cons,List.map_cons,List.sum_cons,List.sum_cons,List.sum_cons,ih]; omega
theorem yr (offs:List Int) (f g:Int→Int):sumO offs (fun o=>f o + g o)=sumO offs f + sumO offs g:=by
 unfold sumO
 induction offs with
 | nil=>rfl
 | cons o l ih=>rw [List.map_cons,List.map_cons,List.map_cons,List.sum_cons,List.sum_cons,List.sum_cons,ih]; omega
structure IsQ (offs:List Int) (t q:Int→Int):Prop where
 nn:∀ r,0≤q r
 eq:∀ k,t k=q k + sumO offs fun o=>q (k - o)
theorem IsQ.le {offs:List Int} {t q:Int→Int} (h:IsQ offs t q) (k:Int):q k≤t k:=by
 have:=pR (offs:=offs) (f:=fun o=>q (k - o)) fun o _=>h.nn _
 have:=h.eq k
 omega
theorem IsQ.uniq {offs:List Int} {t q p:Int→Int} (hp:∀ o ∈ offs,1≤o) {B:Int} (hB:∀ k,k < B→t k=0) (a:IsQ offs t q) (b:IsQ offs t p):q=p:=by
 have key:∀ (m:Nat) (r:Int),r < B + m→q r=p r:=fun m=>by
  induction m with
  | zero=>
   intro r hr
   have h1:=a.le r
   have h2:=b.le r
   have h3:=a.nn r
   have h4:=b.nn r
   have:=hB r (by simpa using hr)
   omega
  | succ m ih=>
   intro r hr
   have e1:=a.eq r
   have e2:=b.eq r
   have e3:(sumO offs fun o=>q (r - o))=sumO offs fun o=>p (r - o):=gJ fun o ho=>ih (r - o) (by have:=hp o ho; omega)
   omega
 funext r
 exact key (r - B + 1).toNat r (by omega)
def eR (offs:List Int) (k w:Int) (l:Int→Int):Int→Int:=fun j=>l j - sumO offs fun o=>if j - o=k then w else 0
def kr (offs:List Int):List Int→(Int→Int)→Option (List (Int × Int))
 | [],_=>some []
 | k :: ks,l=>if 0 < l k then (if ∀ o ∈ offs,l k≤l (k + o) then (kr offs ks (eR offs k (l k) l)).map ((k,l k) :: ·) else none) else kr offs ks l
structure Mid (offs:List Int) (t l p:Int→Int) (done:Int→Prop):Prop where
 eq:∀ j,l j=t j - sumO offs fun o=>p (j - o)
 nn:∀ j,0≤l j
 pn:∀ r,0≤p r
 out:∀ r,¬ done r→p r=0
 inn:∀ r,done r→p r=l r
theorem yt {offs:List Int} (hd:offs.Nodup) {o:Int} (ho:o ∈ offs) (k w:Int):(sumO offs fun x=>if k + o - x=k then w else 0)=w:=by
 unfold sumO
 induction offs with
 | nil=>cases ho
 | cons x l ih=>
  obtain ⟨h1,h2⟩:=List.nodup_cons.mp hd
  rw [List.map_cons,List.sum_cons]
  rcases List.mem_cons.mp ho with rfl | ho
  ·rw [if_pos (by omega)]
   have:(l.map fun x=>if k + o - x=k then w else 0).sum=0:=by
    have e:(l.map fun x=>if k + o - x=k then w else 0)=l.map fun _=>(0:Int):=List.map_congr_left fun y hy=>if_neg fun z=>h1 (by rw [show o=y by omega]; exact hy)
    rw [e]
    clear ih h1 h2 hd ho e
    induction l with
    | nil=>rfl
    | cons y l ih=>rw [List.map_cons,List.sum_cons,ih]; rfl
   omega
  ·rw [if_neg (fun z=>h1 (by rw [show x=o by omega]; exact ho)),ih h2 ho]; omega
theorem yu {offs:List Int} {j k w:Int} (h:∀ o ∈ offs,j ≠ k + o):(sumO offs fun x=>if j - x=k then w else 0)=0:=by
 have e:(sumO offs fun x=>if j - x=k then w else 0)=sumO offs fun _=>0:=gJ fun o ho=>if_neg fun z=>h o ho (by omega)
 rw [e]
 unfold sumO
 clear e h
 induction offs with
 | nil=>rfl
 | cons y l ih=>rw [List.map_cons,List.sum_cons,ih]; rfl
theorem Mid.step {offs:List Int} (hd:offs.Nodup) (hp:∀ o ∈ offs,1≤o) {t l p:Int→Int} {done:Int→Prop} (h:Mid offs t l p done) {k:Int} (hk:∀ r,done r→r < k) (hc:∀ o ∈ offs,l k≤l (k + o)):Mid offs t (eR offs k (l k) l) (fun r=>if r=k then l k else p r) (fun r=>done r ∨ r=k):=by
 have nk:¬ done k:=fun z=>by have:=hk k z; omega
 have pk:p k=0:=h.out k nk
 have lat:∀ j,(∀ o ∈ offs,j ≠ k + o)→eR offs k (l k) l j=l j:=fun j hj=>by
  unfold eR
  rw [yu hj]; omega
 refine ⟨fun j=>?_,fun j=>?_,fun r=>?_,fun r hr=>?_,fun r hr=>?_⟩
 ·unfold eR
  rw [h.eq j]
  have e:(sumO offs fun o=>if j - o=k then l k else p (j - o))=(sumO offs fun o=>if j - o=k then l k else 0) + sumO offs fun o=>p (j - o):=by
   rw [← yr]
   refine gJ fun o _=>?_
   by_cases z:j - o=k
   ·rw [if_pos z,if_pos z,z,pk]; omega
   ·rw [if_neg z,if_neg z]; omega
  rw [e]; omega
 ·by_cases z:∃ o ∈ offs,j=k + o
  ·obtain ⟨o,ho,rfl⟩:=z
   unfold eR
   rw [yt hd ho]
   have:=hc o ho
   omega
  ·rw [lat j fun o ho e=>z ⟨o,ho,e⟩]
   exact h.nn j
 ·by_cases z:r=k
  ·rw [if_pos z]; exact h.nn k
  ·rw [if_neg z]; exact h.pn r
 ·rw [if_neg fun z=>hr (.inr z)]
  exact h.out r fun z=>hr (.inl z)
 ·have hlt:r≤k:=by
   rcases hr with hr | hr
   ·have:=hk r hr; omega
   ·omega
  rw [lat r fun o ho e=>by have:=hp o ho; omega]
  by_cases z:r=k
  ·rw [if_pos z,z]
  ·rw [if_neg z]
   exact h.inn r (hr.resolve_right z)
theorem Mid.skip {offs:List Int} {t l p:Int→Int} {done:Int→Prop} (h:Mid offs t l p done) {k:Int} (hk:∀ r,done r→r < k) (hc:¬ 0 < l k):Mid offs t l p (fun r=>done r ∨ r=k):=by
 have nk:¬ done k:=fun z=>by have:=hk k z; omega
 refine ⟨h.eq,h.nn,h.pn,fun r hr=>h.out r fun z=>hr (.inl z),fun r hr=>?_⟩
 rcases hr with hr | rfl
 ·exact h.inn r hr
 ·rw [h.out r nk]
  have:=h.nn r
  omega
theorem Mid.done {offs:List Int} {t l p:Int→Int} {done:Int→Prop} (h:Mid offs t l p done) (hall:∀ r,¬ done r→t r=0):IsQ offs t p:=by
 refine ⟨h.pn,fun k=>?_⟩
 have e:=h.eq k
 by_cases z:done k
 ·have:=h.inn k z; omega
 ·have h1:=h.out k z
  have h2:=hall k z
  have h3:=h.nn k
  have h4:=pR (offs:=offs) (f:=fun o=>p (k - o)) fun o _=>h.pn _
  omega
theorem Mid.fits {offs:List Int} (hp:∀ o ∈ offs,1≤o) {t l p q:Int→Int} {done:Int→Prop} (h:Mid offs t l p done) (hq:IsQ offs t q) (hpq:∀ r,done r→p r=q r) {k:Int} (hk:∀ r,done r→r < k) (hbelow:∀ r,r < k→¬ done r→t r=0):l k=q k∧∀ o ∈ offs,l k≤l (k + o):=by
 have low:∀ r,r < k→p r=q r:=fun r hr=>by
  by_cases z:done r
  ·exact hpq r z
  ·have h1:=h.out r z
   have h2:=hbelow r hr z
   have h3:=hq.le r
   have h4:=hq.nn r
   omega
 have le:∀ r,p r≤q r:=fun r=>by
  by_cases z:done r
  ·rw [hpq r z]; exact Int.le_refl _
  ·rw [h.out r z]; exact hq.nn r
 have e1:l k=q k:=by
  have a:=h.eq k
  have b:=hq.eq k
  have c:(sumO offs fun o=>p (k - o))=sumO offs fun o=>q (k - o):=gJ fun o ho=>low (k - o) (by have:=hp o ho; omega)
  omega
 refine ⟨e1,fun o ho=>?_⟩
 have a:=h.eq (k + o)
 have b:=hq.eq (k + o)
 have c:=yq offs (fun x=>q (k + o - x)) (fun x=>p (k + o - x))
 have d:=Ap (offs:=offs) (f:=fun x=>q (k + o - x) - p (k + o - x)) (fun x _=>by have:=le (k + o - x); omega) ho
 have nk:¬ done k:=fun z=>by have:=hk k z; omega
 have ek:k + o - o=k:=by omega
 have d':q k - p k≤sumO offs fun x=>q (k + o - x) - p (k + o - x):=by
  have:q (k + o - o) - p (k + o - o)=q k - p k:=by rw [ek]
  omega
 have hpk:=h.out k nk
 have hqn:=hq.nn (k + o)
 omega
theorem pS {offs:List Int} (hd:offs.Nodup) (hp:∀ o ∈ offs,1≤o) {t:Int→Int}:∀ (ks:List Int) (l p:Int→Int) (done:Int→Prop),ks.Pairwise (· < ·)→(∀ k ∈ ks,∀ r,done r→r < k)→(∀ r,¬ done r→r ∉ ks→t r=0)→Mid offs t l p done→
  match kr offs ks l with
  | some out=>∃ q,IsQ offs t q∧(∀ r,done r→q r=p r)∧out=(ks.filter fun k=>decide (0 < q k)).map fun k=>(k,q k)
  | none=>∀ q,IsQ offs t q→¬ ∀ r,done r→p r=q r
 | [],l,p,done,_,_,hall,h=>⟨p,h.done fun r hr=>hall r hr (by simp),fun _ _=>rfl,rfl⟩
 | k :: ks,l,p,done,hs,hk,hall,h=>by
  obtain ⟨s1,s2⟩:=List.pairwise_cons.mp hs
  have hk0:=hk k (.head _)
  have hall':∀ r,¬ (done r ∨ r=k)→r ∉ ks→t r=0:=fun r hr hn=>hall r (fun z=>hr (.inl z)) fun z=>by
   rcases List.mem_cons.mp z with z | z
   ·exact hr (.inr z)
   ·exact hn z
  have hk':∀ k' ∈ ks,∀ r,(done r ∨ r=k)→r < k':=fun k' hk2 r hr=>by
   rcases hr with hr | rfl
   ·exact hk k' (.tail _ hk2) r hr
   ·exact s1 k' hk2
  have nk:¬ done k:=fun z=>by have:=hk0 k z; omega
  have hbelow:∀ r,r < k→¬ done r→t r=0:=fun r hr hn=>hall r hn fun z=>by
   rcases List.mem_cons.mp z with z | z
   ·omega
   ·have:=s1 r z; omega
  unfold kr
  by_cases c:0 < l k
  ·rw [if_pos c]
   by_cases c2:∀ o ∈ offs,l k≤l (k + o)
   ·rw [if_pos c2]
    have ih:=pS hd hp ks _ _ _ s2 hk' hall' (h.step hd hp hk0 c2)
    cases hr:kr offs ks (eR offs k (l k) l) with
    | some out=>
     rw [hr] at ih
     obtain ⟨q,q1,q2,q3⟩:=ih
     have qk:q k=l k:=by
      have:=q2 k (.inr rfl)
      rw [if_pos rfl] at this
      exact this
     refine ⟨q,q1,fun r hr=>?_,?_⟩
     ·have:=q2 r (.inl hr)
      rw [if_neg (fun z:r=k=>nk (by rw [← z]; exact hr))] at this
      exact this
     ·show (k,l k) :: out=_
      rw [List.filter_cons,if_pos (decide_eq_true (by rw [qk]; exact c)),List.map_cons,q3,qk]
    | none=>
     rw [hr] at ih
     intro q hq hpq
     refine ih q hq fun r hr=>?_
     by_cases z:r=k
     ·rw [if_pos z,z]
      exact (h.fits hp hq hpq hk0 hbelow).1
     ·rw [if_neg z]
      exact hpq r (hr.resolve_right z)
   ·rw [if_neg c2]
    intro q hq hpq
    exact c2 (h.fits hp hq hpq hk0 hbelow).2
  ·rw [if_neg c]
   have ih:=pS hd hp ks l p _ s2 hk' hall' (h.skip hk0 c)
   cases hr:kr offs ks l with
   | some out=>
    rw [hr] at ih
    obtain ⟨q,q1,q2,q3⟩:=ih
    have pk:=h.out k nk
    have qk:q k=0:=by rw [q2 k (.inr rfl),pk]
    refine ⟨q,q1,fun r hr=>q2 r (.inl hr),?_⟩
    rw [List.filter_cons,if_neg (by rw [qk]; simp)]
    exact q3
   | none=>
    rw [hr] at ih
    intro q hq hpq
    refine ih q hq fun r hr=>?_
    rcases hr with hr | rfl
    ·exact hpq r hr
    ·have f:=(h.fits hp hq hpq hk0 hbelow).1
     have:=h.out r nk
     have:=h.nn r
     omega
theorem Aq {offs:List Int} (hd:offs.Nodup) (hp:∀ o ∈ offs,1≤o) {t:Int→Int} (hn:∀ k,0≤t k) {ks:List Int} (hs:ks.Pairwise (· < ·)) (hall:∀ r,r ∉ ks→t r=0):
  match kr offs ks t with
  | some out=>∃ q,IsQ offs t q∧out=(ks.filter fun k=>decide (0 < q k)).map fun k=>(k,q k)
  | none=>∀ q,¬ IsQ offs t q:=by
 have h0:Mid offs t t (fun _=>0) (fun _=>False):=⟨fun j=>by
  have:(sumO offs fun _=>(0:Int))=0:=by
   unfold sumO
   clear hd hp
   induction offs with
   | nil=>rfl
   | cons y l ih=>rw [List.map_cons,List.sum_cons,ih]; rfl
  rw [this]; omega,hn,fun _=>Int.le_refl _,fun _ _=>rfl,fun _ z=>z.elim⟩
 have:=pS hd hp ks t (fun _=>0) (fun _=>False) hs (fun _ _ _ z=>z.elim) (fun r _ hn=>hall r hn) h0
 cases hr:kr offs ks t with
 | some out=>
  rw [hr] at this
  obtain ⟨q,q1,_,q3⟩:=this
  exact ⟨q,q1,q3⟩
 | none=>
  rw [hr] at this
  exact fun q hq=>this q hq fun _ z=>z.elim
theorem yw {T:TI} (hk:Keys T) (v:Int):gT T v=sumH (fun y=>if y=v then 1 else 0) T:=(mq hk).symm
theorem DT {T:TI} (hk:Keys T) (k c j:Int):gT (pT T k c) j=if j=k then c else gT T j:=by
 have e:=u6 (fun y=>if y=j then 1 else 0) hk k (c - gT T k)
 rw [show gT T k + (c - gT T k)=c by omega] at e
 rw [yw (pF hk k c),e,← yw hk]
 by_cases h:k=j
 ·rw [if_pos h,if_pos h.symm,h]; omega
 ·rw [if_neg h,if_neg fun z=>h z.symm]; omega
theorem Ar {T:TI} {k c:Int} (h:∃ e ∈ T,e.1=k):(pT T k c).map (·.1)=T.map (·.1):=by
 unfold pT
 rw [if_pos (List.any_eq_true.mpr (let ⟨e,he,z⟩:=h; ⟨e,he,decide_eq_true z⟩)),List.map_map]
 refine List.map_congr_left fun e _=>?_
 simp only [Function.comp]
 split <;> rfl
theorem tO {T:TI} {k c:Int} (h:¬ ∃ e ∈ T,e.1=k):pT T k c=T ++ [(k,c)]:=by
 unfold pT
 rw [if_neg]
 intro z
 obtain ⟨e,he,q⟩:=List.any_eq_true.mp z
 exact h ⟨e,he,of_decide_eq_true q⟩
abbrev dI:SM:=(aB (sIf (tV (eOp oLt (fC (ag 3) (eOp bq (ag 5) (ag 7)) (eC (.int 0))) (ag 6))) (bz (eC .non)) bw) (gR ez (eOp mQ (eOp km (ag 3) (eOp bq (ag 5) (ag 7))) (ag 6)) (ag 3) (eOp bq (ag 5) (ag 7))))
theorem tP (k w:Int) (l:Int→Int):eR [] k w l=l:=by
 funext j
 show l j - 0=l j
 omega
theorem rR (o:Int) (offs:List Int) (k w:Int) (l:Int→Int):eR (o :: offs) k w l=eR offs k w (fun j=>l j - if j - o=k then w else 0):=by
 funext j
 unfold eR sumO
 rw [List.map_cons,List.sum_cons]
 generalize (List.map (fun o=>if j - o=k then w else 0) offs).sum=u
 show l j - ((if j - o=k then w else 0) + u)=(l j - if j - o=k then w else 0) - u
 omega
def But (p:Nat) (S S':Sto):Prop:=S'.length=S.length∧∀ i,i ≠ p→S'[i]?=S[i]?
theorem But.refl (p:Nat) (S:Sto):But p S S:=⟨rfl,fun _ _=>rfl⟩
theorem But.set (p:Nat) (S:Sto) (o:SO):But p S (S.set p o):=⟨List.length_set,fun _ h=>List.getElem?_set_ne (Ne.symm h)⟩
theorem But.trans {p:Nat} {S S1 S2:Sto} (a:But p S S1) (b:But p S1 S2):But p S S2:=⟨b.1.trans a.1,fun i h=>(b.2 i h).trans (a.2 i h)⟩
theorem mI {T:TI} {j:Int} (h:gT T j ≠ 0):∃ e ∈ T,e.1=j:=Classical.byContradiction fun z=>h (rL z)
theorem vn {p:Nat} {k w:Int} (hw:0 < w) (r0 r1 r2 r4:Option D):∀ (l:List Int) (S:Sto) (L:TI) (r7:Option D),l.Nodup→S[p]?=some (.dic (encT L))→Keys L→L.length < 1000→
  if ∀ o ∈ l,w≤gT L (k + o) then ∃ (L':TI) (a7:Option D),forL (.nm 7) dI (l.map .int) [r0,r1,r2,some (.ref p),r4,some (.int k),some (.int w),r7] S=.ok (.nx [r0,r1,r2,some (.ref p),r4,some (.int k),some (.int w),a7]) (S.set p (.dic (encT L')))∧Keys L'∧L'.map (·.1)=L.map (·.1)∧gT L'=eR l k w (gT L)
  else ∃ S',forL (.nm 7) dI (l.map .int) [r0,r1,r2,some (.ref p),r4,some (.int k),some (.int w),r7] S=.ok (.rt .non) S'∧But p S S'
 | [],S,L,r7,_,hp,hk,_=>by
  rw [if_pos (fun o ho=>by cases ho)]
  exact ⟨L,r7,by rw [set_same hp]; rfl,hk,rfl,(tP _ _ _).symm⟩
 | o :: l,S,L,r7,hd,hp,hk,hz=>by
  obtain ⟨d1,d2⟩:=List.nodup_cons.mp hd
  have hpl:p < S.length:=(List.getElem?_eq_some_iff.mp hp).1
  have hg:fC (ag 3) (eOp bq (ag 5) (ag 7)) (eC (.int 0)) [r0,r1,r2,some (.ref p),r4,some (.int k),some (.int w),some (.int o)] S=.ok (.int (gT L (k + o))) S:=ym hp (aa rfl) (ax (aa rfl) (aa rfl) rfl)
  have ht:tV (eOp oLt (fC (ag 3) (eOp bq (ag 5) (ag 7)) (eC (.int 0))) (ag 6)) [r0,r1,r2,some (.ref p),r4,some (.int k),some (.int w),some (.int o)] S=.ok (decide (gT L (k + o) < w)) S:=cy (ax hg (aa rfl) rfl)
  by_cases c:w≤gT L (k + o)
  ·rw [decide_eq_false (by omega)] at ht
   have hm:=pO hk (mI (T:=L) (j:=k + o) (by omega))
   have e1:dI [r0,r1,r2,some (.ref p),r4,some (.int k),some (.int w),some (.int o)] S=.ok (.nx [r0,r1,r2,some (.ref p),r4,some (.int k),some (.int w),some (.int o)]) (S.set p (.dic (encT (pT L (k + o) (gT L (k + o) - w))))):=
    (av ((ei ht).trans rfl)).trans (iF (ax (ax (aa rfl) (ax (aa rfl) (aa rfl) rfl) (tH (.inl hp) hk hm)) (aa rfl) rfl) (aa rfl) (ax (aa rfl) (aa rfl) rfl) (mG hp (by omega) _ _))
   have k1:=pF hk (k + o) (gT L (k + o) - w)
   have m1:=Ar (c:=gT L (k + o) - w) (mI (T:=L) (j:=k + o) (by omega))
   have g1:=DT hk (k + o) (gT L (k + o) - w)
   generalize pT L (k + o) (gT L (k + o) - w)=L1 at e1 k1 m1 g1
   have gg:gT L1=fun j=>gT L j - if j - o=k then w else 0:=by
    funext j
    rw [g1 j]
    by_cases q:j=k + o
    ·rw [if_pos q,if_pos (by omega),q]
    ·rw [if_neg q,if_neg (by omega)]; omega
   have ll:L1.length=L.length:=by
    have:=congrArg List.length m1
    rwa [List.length_map,List.length_map] at this
   have ih:=vn (k:=k) hw r0 r1 r2 r4 l (S.set p (.dic (encT L1))) L1 (some (.int o)) d2 (List.getElem?_set_self hpl) k1 (by omega)
   have hiff:(∀ x ∈ l,w≤gT L1 (k + x))↔∀ x ∈ o :: l,w≤gT L (k + x):=by
    have e:∀ x ∈ l,gT L1 (k + x)=gT L (k + x):=fun x hx=>by
     rw [g1 (k + x),if_neg fun z=>d1 (by rw [show o=x by omega]; exact hx)]
    constructor
    ·intro h x hx
     rcases List.mem_cons.mp hx with rfl | hx
     ·exact c
     ·rw [← e x hx]; exact h x hx
    ·intro h x hx
     rw [e x hx]; exact h x (.tail _ hx)
   rw [List.map_cons,cO (r1:=[r0,r1,r2,some (.ref p),r4,some (.int k),some (.int w),some (.int o)]) rfl e1]
   by_cases c2:∀ x ∈ o :: l,w≤gT L (k + x)
   ·rw [if_pos (hiff.mpr c2)] at ih
    rw [if_pos c2]
    obtain ⟨L',a7,x1,x2,x3,x4⟩:=ih
    rw [List.set_set] at x1
    exact ⟨L',a7,x1,x2,x3.trans m1,by rw [x4,gg,rR]⟩
   ·rw [if_neg fun z=>c2 (hiff.mp z)] at ih
    rw [if_neg c2]
    obtain ⟨S',x1,x2⟩:=ih
    exact ⟨S',x1,(But.set _ _ _).trans x2⟩
  ·rw [if_neg fun z=>c (z o (.head _))]
   rw [decide_eq_true (by omega)] at ht
   rw [List.map_cons]
   exact ⟨S,uZ (r1:=[r0,r1,r2,some (.ref p),r4,some (.int k),some (.int w),some (.int o)]) rfl (uX ((uY ht).trans (bj rfl))),But.refl _ _⟩
abbrev dO:SM:=(aB (bh 6 (eOp km (ag 3) (ag 5))) (sIf (tV (eOp oGt (ag 6) (eC (.int 0)))) (aB (gR ez (ag 6) (ag 4) (eOp bq (ag 5) (ag 1))) (gw (cS (ag 2) cJ) (.nm 7) dI)) bw))
def gK (p q:Nat) (S S':Sto):Prop:=S'.length=S.length∧∀ i,i ≠ p→i ≠ q→S'[i]?=S[i]?
theorem gK.refl (p q:Nat) (S:Sto):gK p q S S:=⟨rfl,fun _ _ _=>rfl⟩
theorem gK.set (p q:Nat) (S:Sto) (o:SO):gK p q S (S.set p o):=⟨List.length_set,fun _ h _=>List.getElem?_set_ne (Ne.symm h)⟩
theorem gK.set' (p q:Nat) (S:Sto) (o:SO):gK p q S (S.set q o):=⟨List.length_set,fun _ _ h=>List.getElem?_set_ne (Ne.symm h)⟩
theorem But.two {p:Nat} (q:Nat) {S S':Sto} (h:But p S S'):gK p q S S':=⟨h.1,fun i a _=>h.2 i a⟩
theorem gK.trans {p q:Nat} {S S1 S2:Sto} (a:gK p q S S1) (b:gK p q S1 S2):gK p q S S2:=⟨b.1.trans a.1,fun i h g=>(b.2 i h g).trans (a.2 i h g)⟩
def upT (n:Int) (T:TI):TI:=T.map fun e=>(e.1 + n,e.2)
theorem pU {p q:Nat} (hpq:p ≠ q) {n:Int} {offs:List Int} (hd:offs.Nodup) (ho:offs.length≤10) (r0:Option D):∀ (ks:List Int) (S:Sto) (L O:TI) (r5 r6 r7:Option D),ks.Nodup→S[p]?=some (.dic (encT L))→S[q]?=some (.dic (encT O))→Keys L→L.length < 1000→(∀ k ∈ ks,∃ e ∈ L,e.1=k)→(∀ e ∈ O,∀ k ∈ ks,e.1 ≠ k + n)→O.length + ks.length < 1000→
  match kr offs ks (gT L) with
  | some out=>∃ (S':Sto) (a5 a6 a7:Option D),forL (.nm 5) dO (ks.map .int) [r0,some (.int n),some (.tup (offs.map .int)),some (.ref p),some (.ref q),r5,r6,r7] S=.ok (.nx [r0,some (.int n),some (.tup (offs.map .int)),some (.ref p),some (.ref q),a5,a6,a7]) S'∧gK p q S S'∧S'[q]?=some (.dic (encT (O ++ upT n out)))
  | none=>∃ S',forL (.nm 5) dO (ks.map .int) [r0,some (.int n),some (.tup (offs.map .int)),some (.ref p),some (.ref q),r5,r6,r7] S=.ok (.rt .non) S'∧gK p q S S'
 | [],S,L,O,r5,r6,r7,_,hp,hq,_,_,_,_,_=>⟨S,r5,r6,r7,rfl,gK.refl _ _ _,by simpa [upT] using hq⟩
 | k :: ks,S,L,O,r5,r6,r7,hs,hp,hq,hk,hz,hm,hn,hl=>by
  obtain ⟨s1,s2⟩:=List.nodup_cons.mp hs
  have z10:(1000:Nat)≤sizeLine:=by decide
  rw [List.length_cons] at hl
  have hpl:p < S.length:=(List.getElem?_eq_some_iff.mp hp).1
  have hql:q < S.length:=(List.getElem?_eq_some_iff.mp hq).1
  have hmk:=pO hk (hm k (.head _))
  have e0:bh 6 (eOp km (ag 3) (ag 5)) [r0,some (.int n),some (.tup (offs.map .int)),some (.ref p),some (.ref q),some (.int k),r6,r7] S=.ok (.nx [r0,some (.int n),some (.tup (offs.map .int)),some (.ref p),some (.ref q),some (.int k),some (.int (gT L k)),r7]) S:=bc (ax (aa rfl) (aa rfl) (tH (.inl hp) hk hmk))
  have ht:tV (eOp oGt (ag 6) (eC (.int 0))) [r0,some (.int n),some (.tup (offs.map .int)),some (.ref p),some (.ref q),some (.int k),some (.int (gT L k)),r7] S=.ok (decide (0 < gT L k)) S:=cy (ax (aa rfl) rfl rfl)
  rw [List.map_cons]
  unfold kr
  by_cases c:0 < gT L k
  ·rw [decide_eq_true c] at ht
   have hnew:¬ ∃ e ∈ O,e.1=k + n:=fun ⟨e,he,z⟩=>hn e he k (.head _) z
   have e1:gR ez (ag 6) (ag 4) (eOp bq (ag 5) (ag 1)) [r0,some (.int n),some (.tup (offs.map .int)),some (.ref p),some (.ref q),some (.int k),some (.int (gT L k)),r7] S=.ok (.nx [r0,some (.int n),some (.tup (offs.map .int)),some (.ref p),some (.ref q),some (.int k),some (.int (gT L k)),r7]) (S.set q (.dic (encT (O ++ [(k + n,gT L k)])))):=by
    have:=mG hq (by omega) (k + n) (gT L k)
    rw [tO hnew] at this
    exact iF (aa rfl) (aa rfl) (ax (aa rfl) (aa rfl) rfl) this
   have hp1:(S.set q (.dic (encT (O ++ [(k + n,gT L k)]))))[p]?=some (.dic (encT L)):=by rw [List.getElem?_set_ne (Ne.symm hpq)]; exact hp
   have li:=vn (k:=k) c r0 (some (.int n)) (some (.tup (offs.map .int))) (some (.ref q)) offs _ L r7 hd hp1 hk hz
   have hq1:(S.set q (.dic (encT (O ++ [(k + n,gT L k)]))))[q]?=some (.dic (encT (O ++ [(k + n,gT L k)]))):=List.getElem?_set_self hql
   have b1:gK p q S (S.set q (.dic (encT (O ++ [(k + n,gT L k)])))):=gK.set' _ _ _ _
   have hl1:(S.set q (.dic (encT (O ++ [(k + n,gT L k)])))).length=S.length:=List.length_set
   generalize S.set q (.dic (encT (O ++ [(k + n,gT L k)])))=S1 at e1 hp1 li hq1 b1 hl1
   have hit:cS (ag 2) cJ [r0,some (.int n),some (.tup (offs.map .int)),some (.ref p),some (.ref q),some (.int k),some (.int (gT L k)),r7] S1=.ok (offs.map .int) S1:=rfl
   rw [if_pos c]
   by_cases c2:∀ o ∈ offs,gT L k≤gT L (k + o)
   ·rw [if_pos c2] at li ⊢
    obtain ⟨L',a7,x1,x2,x3,x4⟩:=li
    have hp2:(S1.set p (.dic (encT L')))[p]?=some (.dic (encT L')):=List.getElem?_set_self (by omega)
    have hq2:(S1.set p (.dic (encT L')))[q]?=some (.dic (encT (O ++ [(k + n,gT L k)]))):=by rw [List.getElem?_set_ne hpq]; exact hq1
    have ll:L'.length=L.length:=by
     have:=congrArg List.length x3
     rwa [List.length_map,List.length_map] at this
    have ih:=pU (n:=n) hpq hd ho r0 ks (S1.set p (.dic (encT L'))) L' (O ++ [(k + n,gT L k)]) (some (.int k)) (some (.int (gT L k))) a7 s2 hp2 hq2 x2 (by omega) (fun x hx=>by
     have:=hm x (.tail _ hx)
     have h1:x ∈ L.map (·.1):=List.mem_map.mpr this
     rw [← x3] at h1
     exact List.mem_map.mp h1) (fun e he x hx=>by
      rcases List.mem_append.mp he with he | he
      ·exact hn e he x (.tail _ hx)
      ·rw [List.mem_singleton.mp he]
       exact fun z=>s1 (by rw [show k=x by have:k + n=x + n:=z; omega]; exact hx)) (by simp; omega)
    have b2:gK p q S (S1.set p (.dic (encT L'))):=b1.trans (gK.set _ _ _ _)
    rw [x4] at ih
    rw [cO (r1:=[r0,some (.int n),some (.tup (offs.map .int)),some (.ref p),some (.ref q),some (.int k),r6,r7]) rfl ((av e0).trans ((uY ht).trans ((av e1).trans ((eY hit).trans x1))))]
    cases hr:kr offs ks (eR offs k (gT L k) (gT L)) with
    | some out=>
     rw [hr] at ih
     obtain ⟨S',a5,a6,a7,y1,y2,y3⟩:=ih
     exact ⟨S',a5,a6,a7,y1,b2.trans y2,by rw [y3,List.append_assoc]; rfl⟩
    | none=>
     rw [hr] at ih
     obtain ⟨S',y1,y2⟩:=ih
     exact ⟨S',y1,b2.trans y2⟩
   ·rw [if_neg c2] at li ⊢
    obtain ⟨S',x1,x2⟩:=li
    exact ⟨S',uZ (r1:=[r0,some (.int n),some (.tup (offs.map .int)),some (.ref p),some (.ref q),some (.int k),r6,r7]) rfl ((av e0).trans ((uY ht).trans ((av e1).trans ((eY hit).trans x1)))),b1.trans (x2.two q)⟩
  ·rw [decide_eq_false c] at ht
   rw [if_neg c]
   have ih:=pU (n:=n) hpq hd ho r0 ks S L O (some (.int k)) (some (.int (gT L k))) r7 s2 hp hq hk hz (fun x hx=>hm x (.tail _ hx)) (fun e he x hx=>hn e he x (.tail _ hx)) (by omega)
   rw [cO (r1:=[r0,some (.int n),some (.tup (offs.map .int)),some (.ref p),some (.ref q),some (.int k),r6,r7]) rfl ((av e0).trans ((ei ht).trans rfl))]
   exact ih
theorem As {e:EM} {it:Sto→D→Option (List D)} {r:Rho} {S S1:Sto} {d:D} {xs:List D} (h:e r S=.ok d S1) (hi:it S1 d=some xs):cS e it r S=.ok xs S1:=by unfold cS; rw [h,R.bind_ok,hi]; rfl
structure IsTab (D:TI) (f:Int→Int):Prop where
 keys:Keys D
 mem:∀ v,(∃ e ∈ D,e.1=v)↔0 < f v
 get:∀ v,gT D v=f v
theorem Av {ks:List Int} (hn:ks.Nodup) {q:Int→Int} (h0:∀ r,0≤q r) (hq:∀ r,r ∉ ks→q r=0) (n:Int):IsTab (upT n ((ks.filter fun k=>decide (0 < q k)).map fun k=>(k,q k))) (fun v=>q (v - n)):=by
 have ee:upT n ((ks.filter fun k=>decide (0 < q k)).map fun k=>(k,q k))=(ks.filter fun k=>decide (0 < q k)).map fun k=>(k + n,q k):=by
  unfold upT
  rw [List.map_map]; rfl
 rw [ee]
 have hk:Keys ((ks.filter fun k=>decide (0 < q k)).map fun k=>(k + n,q k)):=by
  unfold Keys
  rw [List.pairwise_map]
  exact (List.Pairwise.filter _ hn).imp fun {a b} h z=>h (by have:a + n=b + n:=z; omega)
 have hm:∀ v,(∃ e ∈ (ks.filter fun k=>decide (0 < q k)).map fun k=>(k + n,q k),e.1=v)↔0 < q (v - n):=fun v=>by
  constructor
  ·rintro ⟨e,he,rfl⟩
   obtain ⟨k,hk,rfl⟩:=List.mem_map.mp he
   have:=of_decide_eq_true (List.mem_filter.mp hk).2
   show 0 < q (k + n - n)
   rw [show k + n - n=k by omega]
   exact this
  ·intro h
   refine ⟨(v - n + n,q (v - n)),List.mem_map.mpr ⟨v - n,List.mem_filter.mpr ⟨?_,decide_eq_true h⟩,rfl⟩,by show v - n + n=v; omega⟩
   exact Classical.byContradiction fun z=>by have:=hq _ z; omega
 refine ⟨hk,hm,fun v=>?_⟩
 by_cases c:0 < q (v - n)
 ·have hmem:(v,q (v - n)) ∈ (ks.filter fun k=>decide (0 < q k)).map fun k=>(k + n,q k):=by
   refine List.mem_map.mpr ⟨v - n,List.mem_filter.mpr ⟨?_,decide_eq_true c⟩,by rw [show v - n + n=v by omega]⟩
   exact Classical.byContradiction fun z=>by have:=hq _ z; omega
  exact i8 hk hmem
 ·rw [rL fun z=>c ((hm v).mp z)]
  have:=h0 (v - n)
  omega
def Old (S S':Sto):Prop:=S.length≤S'.length∧∀ i,i < S.length→S'[i]?=S[i]?
theorem CP {S:Sto} {m:Nat} {T:TI} (h:dAt S m T) (ht:Tab T) (hs:T.length≤900) (n:Int) {offs:List Int} (hd:offs.Nodup) (hp:∀ o ∈ offs,1≤o) (ho:offs.length≤10):
  (∃ (q:Int→Int) (O:TI) (S':Sto) (a:Nat),dg [.ref m,.int n,.tup (offs.map .int)] S=.ok (.ref a) S'∧Old S S'∧S.length≤a∧S'[a]?=some (.dic (encT O))∧IsQ offs (gT T) q∧IsTab O (fun v=>q (v - n))∧O.length≤900)
  ∨ ∃ S',dg [.ref m,.int n,.tup (offs.map .int)] S=.ok .non S'∧Old S S'∧∀ q,¬ IsQ offs (gT T) q:=by
 have z10:(1000:Nat)≤sizeLine:=by decide
 have hml:=h.lt
 have tl:=hs
 have hperm:=dC (T.map (·.1))
 have hnd:(dw (T.map (·.1))).Nodup:=hperm.nodup_iff.mpr (kO ht.keys)
 have hsl:(dw (T.map (·.1))).length=T.length:=by rw [hperm.length_eq,List.length_map]
 have hsort:(dw (T.map (·.1))).Pairwise (· < ·):=by
  have a:=cZ (T.map (·.1))
  have b:(dw (T.map (·.1))).Pairwise (· ≠ ·):=hnd
  exact (a.and b).imp fun ⟨x,y⟩=>by omega
 have hmm:∀ k,k ∈ dw (T.map (·.1))↔∃ e ∈ T,e.1=k:=fun k=>by
  rw [hperm.mem_iff,List.mem_map]
 have hall:∀ r,r ∉ dw (T.map (·.1))→gT T r=0:=fun r hr=>rL fun z=>hr ((hmm r).mpr z)
 have hnn:∀ k,0≤gT T k:=fun k=>by
  by_cases z:∃ e ∈ T,e.1=k
  ·have:=ht.pos _ (pO ht.keys z)
   exact Int.le_trans (by decide) this
  ·rw [rL z]; exact Int.le_refl _
 have e1:bh 3 (eBR xV (ab (ag 0) ak)) [some (.ref m),some (.int n),some (.tup (offs.map .int)),none,none,none,none,none] S=.ok (.nx [some (.ref m),some (.int n),some (.tup (offs.map .int)),some (.ref S.length),none,none,none,none]) (S ++ [.dic (encT T)]):=by
  refine bc ((tN (ae (aa rfl) rfl)).trans ?_)
  unfold xV
  simp only [h.dic]
 have l1:(S ++ [SO.dic (encT T)]).length=S.length + 1:=by simp
 have e2:bh 4 nH [some (.ref m),some (.int n),some (.tup (offs.map .int)),some (.ref S.length),none,none,none,none] (S ++ [.dic (encT T)])=.ok (.nx [some (.ref m),some (.int n),some (.tup (offs.map .int)),some (.ref S.length),some (.ref (S.length + 1)),none,none,none]) (S ++ [.dic (encT T),.dic []]):=by
  have:bh 4 nH [some (.ref m),some (.int n),some (.tup (offs.map .int)),some (.ref S.length),none,none,none,none] (S ++ [.dic (encT T)])=.ok (.nx [some (.ref m),some (.int n),some (.tup (offs.map .int)),some (.ref S.length),some (.ref (S ++ [SO.dic (encT T)]).length),none,none,none]) ((S ++ [.dic (encT T)]) ++ [.dic []]):=bc rfl
  rw [l1,List.append_assoc] at this
  exact this
 have hdat:dAt (S ++ [.dic (encT T),.dic []]) m T:=by
  unfold dAt
  rw [List.getElem?_append_left hml]
  exact h
 have hsr:kn (S ++ [.dic (encT T),.dic []]) [.ref m]=some (.lst ((dw (T.map (·.1))).map .int)):=by
  unfold kn lM
  simp only [hdat.seq,hdat.dic,jU]
  rw [if_pos (by rw [List.length_map]; omega)]
 have hit:cS (eB kn (ab (ag 0) ak)) cJ [some (.ref m),some (.int n),some (.tup (offs.map .int)),some (.ref S.length),some (.ref (S.length + 1)),none,none,none] (S ++ [.dic (encT T),.dic []])=.ok ((dw (T.map (·.1))).map .int) (S ++ [.dic (encT T),.dic []]):=As (bW (ae (aa rfl) rfl) hsr) rfl
 have hp0:(S ++ [SO.dic (encT T),.dic []])[S.length]?=some (.dic (encT T)):=by simp
 have hq0:(S ++ [SO.dic (encT T),.dic []])[S.length + 1]?=some (.dic (encT [])):=by
  rw [List.getElem?_append_right (by omega),show S.length + 1 - S.length=1 by omega]
  rfl
 have lp:=pU (p:=S.length) (q:=S.length + 1) (n:=n) (by omega) hd ho (some (.ref m)) (dw (T.map (·.1))) (S ++ [.dic (encT T),.dic []]) T [] none none none hnd hp0 hq0 ht.keys (by omega) (fun k hk=>(hmm k).mp hk) (fun e he=>by cases he) (by rw [hsl]; simp; omega)
 have da:=Aq hd hp hnn hsort hall
 have hold:∀ S',gK S.length (S.length + 1) (S ++ [.dic (encT T),.dic []]) S'→Old S S':=fun S' b=>by
  have l2:(S ++ [SO.dic (encT T),.dic []]).length=S.length + 2:=by simp
  refine ⟨by rw [b.1,l2]; omega,fun i hi=>?_⟩
  rw [b.2 i (by omega) (by omega),List.getElem?_append_left hi]
 cases hr:kr offs (dw (T.map (·.1))) (gT T) with
 | some out=>
  rw [hr] at lp da
  obtain ⟨S',a5,a6,a7,x1,x2,x3⟩:=lp
  obtain ⟨q,q1,q2⟩:=da
  rw [List.nil_append] at x3
  refine .inl ⟨q,upT n out,S',S.length + 1,bI (ρ:=[some (.ref m),some (.int n),some (.tup (offs.map .int)),none,none,none,none,none]) rfl ((av e1).trans ((av e2).trans ((av ((eY hit).trans x1)).trans (bj (aa rfl))))),hold S' x2,by omega,x3,q1,?_,?_⟩
  ·rw [q2]
   exact Av hnd q1.nn (fun r hr=>by
    have h1:=q1.le r
    have h2:=q1.nn r
    have h3:=hall r hr
    omega) n
  ·rw [q2]
   unfold upT
   rw [List.length_map,List.length_map]
   have:=List.length_filter_le (fun k=>decide (0 < q k)) (dw (T.map (·.1)))
   omega
 | none=>
  rw [hr] at lp da
  obtain ⟨S',x1,x2⟩:=lp
  exact .inr ⟨S',bI (ρ:=[some (.ref m),some (.int n),some (.tup (offs.map .int)),none,none,none,none,none]) rfl ((av e1).trans ((av e2).trans (uX ((eY hit).trans x1)))),hold S' x2,da⟩
structure Sim (d:D) (p:PyData):Prop where
 py:toPy d=some p
 lay:p.canLay0=true
 dep:p.depth≤3
theorem yx:∀ {ds:List D} {f:D→PyData},(∀ d ∈ ds,Sim d (f d))→hJ ds=some (ds.map f)∧PyData.canLayAll0 (ds.map f)=true∧PyData.depthAll (ds.map f)≤3
 | [],f,_=>⟨rfl,rfl,by show 0≤3; omega⟩
 | d :: ds,f,h=>by
  have h1:=h d List.mem_cons_self
  obtain ⟨a,b,c⟩:=yx (ds:=ds) (f:=f) fun x hx=>h x (List.mem_cons_of_mem _ hx)
  refine ⟨by unfold hJ; rw [h1.py,a]; rfl,by unfold List.map PyData.canLayAll0; rw [h1.lay,b]; rfl,?_⟩
  have:=h1.dep
  unfold List.map PyData.depthAll
  omega
theorem iH {p:PyData} (h:p.canLay0=true) (hd:p.depth≤64):SeqAt.shaped p=true:=by
 unfold SeqAt.shaped; rw [h,decide_eq_true hd]; rfl
theorem Aw {xs ys:List D} {f:D→PyData} (hx:∀ d ∈ xs,Sim d (f d)) (hy:∀ d ∈ ys,Sim d (f d)):eqP (.lst xs) (.lst ys)=some (PyData.eqvAll (xs.map f) (ys.map f)):=by
 obtain ⟨a,b,c⟩:=yx hx
 obtain ⟨a',b',c'⟩:=yx hy
 have e1:toPy (.lst xs)=some (.list (xs.map f)):=by unfold toPy; rw [a]; rfl
 have e2:toPy (.lst ys)=some (.list (ys.map f)):=by unfold toPy; rw [a']; rfl
 have s1:SeqAt.shaped (.list (xs.map f))=true:=iH (by unfold PyData.canLay0; exact b) (by unfold PyData.depth; omega)
 have s2:SeqAt.shaped (.list (ys.map f))=true:=iH (by unfold PyData.canLay0; exact b') (by unfold PyData.depth; omega)
 unfold eqP
 have e0:eqS (.lst xs) (.lst ys)=none:=rfl
 rw [e0,e1,e2]
 simp only [s1,s2,and_self,if_true]
 rw [PyData.eqv]
theorem Ax {xs ys:List D} {f:D→PyData} (hx:∀ d ∈ xs,Sim d (f d)) (hy:∀ d ∈ ys,Sim d (f d)):eqP (.tup xs) (.tup ys)=some (PyData.eqvAll (xs.map f) (ys.map f)):=by
 obtain ⟨a,b,c⟩:=yx hx
 obtain ⟨a',b',c'⟩:=yx hy
 have e1:toPy (.tup xs)=some (.tuple (xs.map f)):=by unfold toPy; rw [a]; rfl
 have e2:toPy (.tup ys)=some (.tuple (ys.map f)):=by unfold toPy; rw [a']; rfl
 have s1:SeqAt.shaped (.tuple (xs.map f))=true:=iH (by unfold PyData.canLay0; exact b) (by unfold PyData.depth; omega)
 have s2:SeqAt.shaped (.tuple (ys.map f))=true:=iH (by unfold PyData.canLay0; exact b') (by unfold PyData.depth; omega)
 unfold eqP
 have e0:eqS (.tup xs) (.tup ys)=none:=rfl
 rw [e0,e1,e2]
 simp only [s1,s2,and_self,if_true]
 rw [PyData.eqv]
def pyI:D→PyData
 | .int i=>.int i
 | .tup [.int i,.int j]=>.tuple [.int i,.int j]
 | _=>.none
theorem DU (i:Int):pyI (.int i)=PyData.int i:=rfl
theorem Ay (i:Int):Sim (.int i) (pyI (.int i)):=⟨rfl,rfl,by show 0≤3; omega⟩
theorem jE {is:List Int}:∀ d ∈ is.map D.int,Sim d (pyI d):=fun d hd=>by
 obtain ⟨i,_,rfl⟩:=List.mem_map.mp hd
 exact Ay i
theorem mJ:∀ (xs ys:List Int),PyData.eqvAll ((xs.map D.int).map pyI) ((ys.map D.int).map pyI)=decide (xs=ys)
 | [],[]=>by simp [PyData.eqvAll]
 | [],y :: ys=>by simp [PyData.eqvAll]
 | x :: xs,[]=>by simp [PyData.eqvAll]
 | x :: xs,y :: ys=>by
  simp only [List.map_cons,PyData.eqvAll,mJ xs ys,DU,PyData.eqv]
  rw [Bool.eq_iff_iff]
  simp
theorem yy (xs ys:List Int):eqP (.lst (xs.map .int)) (.lst (ys.map .int))=some (decide (xs=ys)):=by
 rw [Aw jE jE,mJ]
theorem wy (xs ys:List Int):eqP (.tup (xs.map .int)) (.tup (ys.map .int))=some (decide (xs=ys)):=by
 rw [Ax jE jE,mJ]
def okN (x:Int):Prop:=1≤x∧x < 1000000000000000
theorem wz {S:Sto} {f:Nat} {xs:List D} {v:D} (h:S[f]?=some (.lst xs)) (hl:xs.length < sizeLine):eV S (.ref f) [v]=.ok .non (S.set f (.lst (xs ++ [v]))):=by
 unfold eV
 simp only [h,if_pos hl]
theorem vo {S:Sto} {f:Nat} {xs:List D} (h:S[f]?=some (.lst xs)):isL S (.ref f)=true:=by
 unfold isL
 simp only [h]
abbrev DV:SM:=(aB (bh 7 (eOp bq (eC (.int 1)) (ar aM (ab (ag 0) (ab (eC (.int 12)) ak))))) (bR (mT eV (ag 5) (ab (eOp oIx (vS (ab (ag 7) (ab (ag 7) (ab (ag 4) (ab (eOp sJ (eC (.int 1)) (ag 6)) (ab (eOp bq (ag 4) (eOp cT (ag 6) (ag 7))) (ab (eOp bq (eOp cT (eOp sH (eC (.int 10)) (eC (.int 12))) (ag 7)) (ag 4)) ak))))))) (ag 3)) ak))))
theorem yz {S0 S:Sto} {b f i:Nat} {kind base:Int} {xs:List Int} {r1 r2 r7:Option D} (hi:i < 16) (hk:0≤kind∧kind < 6) (hb:1≤base∧base < 10) (g:Gr b S0 S) (hf:S[f]?=some (.lst (xs.map .int))) (hfb:f ≠ b) (hf0:S0.length≤f) (hl:xs.length < 1000):
  ∃ (y:Int) (S':Sto) (r7':Option D),DV [some (.ref b),r1,r2,some (.int kind),some (.int base),some (.ref f),some (.int i),r7] S=.ok (.nx [some (.ref b),r1,r2,some (.int kind),some (.int base),some (.ref f),some (.int i),r7']) S'∧
   okN y∧S'[f]?=some (.lst ((xs ++ [y]).map .int))∧Gr b S0 S':=by
 obtain ⟨q,S1,e1,q0,q1,g1⟩:=gG g.self (many:=12) (by decide) (by decide)
 have hfl:f < S.length:=(List.getElem?_eq_some_iff.mp hf).1
 have hf1:S1[f]?=some (.lst (xs.map .int)):=by rw [g1.oth f hfb hfl]; exact hf
 have hfl1:f < S1.length:=(List.getElem?_eq_some_iff.mp hf1).1
 generalize hG:(1:Int) + q=G
 have hG0:1≤G∧G≤12:=by omega
 have sG:cw G:=⟨by omega,by omega⟩
 have sI:cw (i:Int):=⟨by omega,by omega⟩
 have m1:(i:Int) * G≤15 * 12:=Int.mul_le_mul (by omega) hG0.2 (by omega) (by omega)
 have m1':0≤(i:Int) * G:=Int.mul_nonneg (by omega) (by omega)
 have m4:(2:Int) ^ i≤32768:=by
  have h:=Nat.pow_le_pow_right (n:=2) (by decide) (show i≤15 by omega)
  have h':((2 ^ i:Nat):Int)≤((2 ^ 15:Nat):Int):=by exact_mod_cast h
  simpa using h'
 have m4':1≤(2:Int) ^ i:=by
  have h:=Nat.one_le_two_pow (n:=i)
  have h':(1:Int)≤((2 ^ i:Nat):Int):=by exact_mod_cast h
  simpa using h'
 have z6:(6:Nat)≤sizeLine:=by decide
 have hix:∃ y:Int,okN y∧atI [D.int G,D.int G,D.int base,D.int (2 ^ i),D.int (base + (i:Int) * G),D.int (1000000000000 * G + base)] kind=some (.int y):=by
  have h:kind=0 ∨ kind=1 ∨ kind=2 ∨ kind=3 ∨ kind=4 ∨ kind=5:=by omega
  rcases h with h | h | h | h | h | h <;> subst h
  ·exact ⟨_,⟨by omega,by omega⟩,rfl⟩
  ·exact ⟨_,⟨by omega,by omega⟩,rfl⟩
  ·exact ⟨_,⟨by omega,by omega⟩,rfl⟩
  ·exact ⟨_,⟨m4',by omega⟩,rfl⟩
  ·exact ⟨_,⟨by omega,by omega⟩,rfl⟩
  ·exact ⟨_,⟨by omega,by omega⟩,rfl⟩
 obtain ⟨y,hy,hix⟩:=hix
 obtain ⟨n,hn⟩:=g1.bx
 have g01:=g.trans g1
 refine ⟨y,S1.set f (.lst (xs.map .int ++ [.int y])),some (.int G),?_,hy,by rw [List.map_append]; simp [hfl1],⟨n,by rw [List.getElem?_set_ne hfb]; exact hn⟩,fun j hj hl=>?_,by simp; exact g01.len⟩
 ·have hG1:eOp bq (eC (.int 1)) (ar aM (ab (ag 0) (ab (eC (.int 12)) ak))) [some (.ref b),r1,r2,some (.int kind),some (.int base),some (.ref f),some (.int i),r7] S=.ok (.int G) S1:=ax rfl ((aq (ae (aa rfl) (ae rfl rfl))).trans e1) (congrArg (fun z=>some (D.int z)) hG)
  have hL:(vS (ab (ag 7) (ab (ag 7) (ab (ag 4) (ab (eOp sJ (eC (.int 1)) (ag 6)) (ab (eOp bq (ag 4) (eOp cT (ag 6) (ag 7))) (ab (eOp bq (eOp cT (eOp sH (eC (.int 10)) (eC (.int 12))) (ag 7)) (ag 4)) ak))))))) [some (.ref b),r1,r2,some (.int kind),some (.int base),some (.ref f),some (.int i),some (.int G)] S1=.ok (.lst [D.int G,D.int G,D.int base,D.int (2 ^ i),D.int (base + (i:Int) * G),D.int (1000000000000 * G + base)]) S1:=
   z8 (ae (aa rfl) (ae (aa rfl) (ae (aa rfl) (ae (ax rfl (aa rfl) (Cc (by omega))) (ae (ax (aa rfl) (ax (aa rfl) (aa rfl) (dv (.inl sI))) rfl) (ae (ax (ax (ax rfl rfl sO) (aa rfl) (dv (.inr sG))) (aa rfl) rfl) rfl)))))) z6
  exact (av (bc hG1)).trans (aW ((pq (aa rfl) (vo hf1) (ae (ax hL (aa rfl) hix) rfl)).trans (wz hf1 (by rw [List.length_map]; exact Nat.lt_trans hl (by decide)))))
 ·rw [List.getElem?_set_ne (by omega)]
  exact g01.oth j hj hl
theorem rS {S0:Sto} {b f:Nat} {kind base:Int} {r1 r2:Option D} (hk:0≤kind∧kind < 6) (hb:1≤base∧base < 10) (hfb:f ≠ b) (hf0:S0.length≤f):∀ (l:List Nat) (S:Sto) (xs:List Int) (r6 r7:Option D),(∀ i ∈ l,i < 16)→Gr b S0 S→S[f]?=some (.lst (xs.map .int))→xs.length + l.length < 1000→(∀ x ∈ xs,okN x)→
  ∃ (ys:List Int) (S':Sto) (r6' r7':Option D),forL (.nm 6) DV (l.map fun (i:Nat)=>D.int i) [some (.ref b),r1,r2,some (.int kind),some (.int base),some (.ref f),r6,r7] S=.ok (.nx [some (.ref b),r1,r2,some (.int kind),some (.int base),some (.ref f),r6',r7']) S'∧
   ys.length=xs.length + l.length∧(∀ y ∈ ys,okN y)∧S'[f]?=some (.lst (ys.map .int))∧Gr b S0 S'
 | [],S,xs,r6,r7,_,g,hf,_,hx=>⟨xs,S,r6,r7,rfl,rfl,hx,hf,g⟩
 | i :: l,S,xs,r6,r7,hl,g,hf,hz,hx=>by
  rw [List.length_cons] at hz
  obtain ⟨y,S1,r7',e,hy,hf1,g1⟩:=yz (r1:=r1) (r2:=r2) (r7:=r7) (hl i List.mem_cons_self) hk hb g hf hfb hf0 (by omega)
  obtain ⟨ys,S2,a6,a7,e2,h1,h2,h3,h4⟩:=rS hk hb hfb hf0 l S1 (xs ++ [y]) (some (.int i)) r7' (fun j hj=>hl j (List.mem_cons_of_mem _ hj)) g1 hf1 (by rw [List.length_append,List.length_cons,List.length_nil]; omega) (fun x h=>by
   rcases List.mem_append.mp h with h | h
   ·exact hx x h
   ·rw [List.mem_singleton.mp h]; exact hy)
  exact ⟨ys,S2,a6,a7,(cO (r1:=[some (.ref b),r1,r2,some (.int kind),some (.int base),some (.ref f),some (.int i),r7]) rfl e).trans e2,by rw [h1,List.length_append,List.length_cons,List.length_nil,List.length_cons]; omega,h2,h3,h4⟩
theorem yA {S:Sto} {b:Nat} {most:Int} (g:Gr b S S) (hm:0≤most∧most≤16):∃ (xs:List Int) (S':Sto),dH [.ref b,.int most] S=.ok (.tup (xs.map .int)) S'∧(xs.length:Int)≤most∧(∀ x ∈ xs,okN x)∧Gr b S S':=by
 obtain ⟨many,S1,e1,a0,a1,g1⟩:=gG g (many:=most + 1) (by omega) (by omega)
 obtain ⟨kind,S2,e2,b0,b1,g2⟩:=gG g1.self (many:=6) (by decide) (by decide)
 obtain ⟨bs,S3,e3,c0,c1,g3⟩:=gG g2.self (many:=9) (by decide) (by decide)
 have gs:=(g1.trans g2).trans g3
 obtain ⟨n0,hn0⟩:=gs.bx
 have hb3:b < S3.length:=(List.getElem?_eq_some_iff.mp hn0).1
 obtain ⟨ys,S4,r6,r7,e4,h1,h2,h3,h4⟩:=rS (S0:=S) (b:=b) (f:=S3.length) (kind:=kind) (base:=1 + bs) (r1:=some (.int most)) (r2:=some (.int many)) ⟨b0,b1⟩ ⟨by omega,by omega⟩ (by omega) gs.len (List.range many.toNat) (S3 ++ [.lst []]) [] none none (fun i hi=>by have:=List.mem_range.mp hi; omega) (gs.more _) (by simp) (by simp; omega) (fun x h=>nomatch h)
 refine ⟨ys,S4,?_,by rw [h1]; simp; omega,h2,h4⟩
 have z0:(0:Nat)≤sizeLine:=Nat.zero_le _
 have hN:eNew ak [some (.ref b),some (.int most),some (.int many),some (.int kind),some (.int (1 + bs)),none,none,none] S3=.ok (.ref S3.length) (S3 ++ [.lst []]):=by
  unfold eNew
  show (if 0≤sizeLine then R.ok (D.ref S3.length) (S3 ++ [SO.lst []]) else R.bad)=_
  exact if_pos z0
 have ht:fj S4 [.ref S3.length]=some (.tup (ys.map .int)):=by
  show (dm S4 (.ref S3.length)).map D.tup=_
  unfold dm
  simp only [h3,Option.map_some]
 exact bI (ρ:=[some (.ref b),some (.int most),none,none,none,none,none,none]) rfl ((av (bc ((aq (ae (aa rfl) (ae (ax (aa rfl) rfl rfl) rfl))).trans e1))).trans ((av (bc ((aq (ae (aa rfl) (ae rfl rfl))).trans e2))).trans ((av (bc (ax rfl ((aq (ae (aa rfl) (ae rfl rfl))).trans e3) rfl))).trans ((av (bc hN)).trans ((av ((eY (ki (ae (aa rfl) rfl) a0 (by omega))).trans e4)).trans (bj (bW (ae (aa rfl) rfl) ht)))))))
def Az (n:Nat) (p:D→Bool):D→Bool
 | .tup xs=>decide (xs.length=n) && xs.all p
 | _=>false
def isT:D→Bool
 | .tup _=>true
 | _=>false
theorem AA {d:D} {S:Sto} (h:tj d=true):gS S [d,.ty "tuple"]=some (.bl (isT d)):=by
 cases d <;> first | (cases h; done) | (simp [gS,tyD,gA,isT])
theorem tQ {W:FM} (hW:∀ (d:D) (S:Sto),tj d=true→W [d] S=.ok (.bl (isI d)) S) {xs:List D} {i:Nat} {r:Rho} {S:Sto} (hr:r[i]?=some (some (.tup xs))) (hs:∀ x ∈ xs,tj x=true) (hl:xs.length≤1000):
  eB mS (ab (bJ (cS (ag i) cJ) 1 [] (.nm 0) bO (ar W (ab (ag 0) ak))) ak) r S=.ok (.bl (xs.all isI)) S:=by
 have hc:bJ (cS (ag i) cJ) 1 [] (.nm 0) bO (ar W (ab (ag 0) ak)) r S=.ok (.lst (xs.map fun x=>D.bl (isI x))) S:=
  jT (enc:=fun x=>x) xs (by rw [List.map_id']; exact tm hr rfl) (Nat.le_trans hl (by decide)) rfl fun x hx=>by
   rw [aq (ae (aa rfl) rfl)]
   exact hW x S (hs x hx)
 exact bW (ae hc rfl) rp
theorem AB {d:D} {n:Nat} {S:Sto} (h:z7 d):fh [d,.int n] S=.ok (.bl (Az n isI d)) S:=by
 have hi:eB gS (ab (ag 0) (ab (eC (.ty "tuple")) ak)) [some d,some (.int n)] S=.ok (.bl (isT d)) S:=bW (ae (aa rfl) (ae rfl rfl)) (AA h.1)
 refine bI (ρ:=[some d,some (.int n)]) rfl (bj ?_)
 cases d with
 | tup xs=>
  obtain ⟨hs,hl⟩:=h.2 xs rfl
  rw [lZ hi]
  have he:eOp jk (eB cn (ab (ag 0) ak)) (ag 1) [some (.tup xs),some (.int n)] S=.ok (.bl (decide ((xs.length:Int)=n))) S:=ax (bW (z:=.int xs.length) (ae (aa rfl) rfl) rfl) (aa rfl) CF
  by_cases hn:xs.length=n
  ·rw [decide_eq_true (by omega)] at he
   rw [lZ he,tQ (fun d S h=>lX h) rfl hs hl]
   simp [Az,hn]
  ·rw [decide_eq_false (by omega)] at he
   rw [xY he]
   simp [Az,hn]
 | _=>exact xY hi
def upI (n:Nat):List Int:=(List.range n).map fun (i:Nat)=>(i:Int)
theorem A5 (n:Nat):ju n=(upI n).map D.int:=by unfold upI ju; rw [List.map_map]; rfl
theorem kQ (n:Nat):(upI n).length=n:=by unfold upI; rw [List.length_map,List.length_range]
theorem AD (n:Nat):(upI n).Pairwise (· ≤ ·):=by
 unfold upI
 rw [List.pairwise_map]
 exact (List.pairwise_lt_range (n:=n)).imp fun h=>by omega
theorem CQ {n:Nat} {os:List Int} (h:os.Perm (upI n)):dw os=upI n:=hU ((dC os).trans h) (cZ os) (AD n)
theorem pV {xs os:List Int} (hx:xs.length≤100) (h:os.Perm (upI xs.length)) (S:Sto):fK [.tup (os.map .int),.tup (xs.map .int)] S=.ok (.bl true) S:=by
 have lo:os.length=xs.length:=by rw [h.length_eq,kQ]
 have e:=AB (d:=.tup (os.map .int)) (n:=xs.length) (S:=S) (nZ (by omega))
 have ea:Az xs.length isI (.tup (os.map .int))=true:=by
  show (decide ((os.map D.int).length=xs.length) && (os.map D.int).all isI)=true
  rw [decide_eq_true (by rw [List.length_map]; exact lo),Bool.true_and,List.all_eq_true]
  intro x hx'
  obtain ⟨i,_,rfl⟩:=List.mem_map.mp hx'
  rfl
 rw [ea] at e
 have z:(100:Nat)≤sizeLine:=by decide
 have hs:kn S [.tup (os.map .int)]=some (.lst ((upI xs.length).map .int)):=by
  rw [← CQ h]
  unfold kn lM
  simp only [dm,i7]
  exact if_pos (by omega)
 have hl:zX S [.int xs.length]=some (.lst ((upI xs.length).map .int)):=by
  rw [← A5]
  exact if_pos ⟨by omega,by omega⟩
 have hq:jk S (.lst ((upI xs.length).map .int)) (.lst ((upI xs.length).map .int))=some (.bl true):=by
  unfold jk
  rw [yy,decide_eq_true rfl]; rfl
 exact bI (ρ:=[some (.tup (os.map .int)),some (.tup (xs.map .int))]) rfl (bj ((lZ ((aq (ae (aa rfl) (ae (bW (ae (aa rfl) rfl) (er)) rfl))).trans e)).trans (ax (bW (ae (aa rfl) rfl) hs) (bW (ae (bW (ae (aa rfl) rfl) (er)) rfl) hl) hq)))
def rT (xs os:List Int):List Int:=os.map fun o=>xs.getD o.toNat 0
theorem yB {xs os:List Int} (hl:os.length≤100) (ho:∀ o ∈ os,0≤o∧o < xs.length) {r:Rho} {i j:Nat} {S:Sto} (hi:r[i]?=some (some (.tup (os.map .int)))) (hj:r[j]?=some (some (.tup (xs.map .int)))):eB fj (ab (bJ (cS (ag i) cJ) 1 [j] (.nm 0) bO (eOp oIx (ag 1) (ag 0))) ak) r S=.ok (.tup ((rT xs os).map .int)) S:=by
 have z:(100:Nat)≤sizeLine:=by decide
 have hc:=jT (enc:=D.int) (out:=fun o:Int=>D.int (xs.getD o.toNat 0)) (e:=eOp oIx (ag 1) (ag 0)) (it:=cS (ag i) cJ) (caps:=[j]) (tl:=[some (.tup (xs.map .int))]) (r:=r) (S:=S) os (tm hi rfl) (by omega) (by simp [hj]) fun o h=>by
  obtain ⟨h0,h1⟩:=ho o h
  obtain ⟨n,rfl⟩:∃ n:Nat,o=n:=⟨o.toNat,by omega⟩
  have hn:n < (xs.map D.int).length:=by rw [List.length_map]; omega
  have hx:oIx S (.tup (xs.map .int)) (.int (n:Int))=some (.int (xs.getD n 0)):=by
   have:=lH (xs:=xs.map D.int) (i:=n) hn
   rw [List.getElem_map] at this
   have hg:xs.getD n 0=xs[n]'(by rw [List.length_map] at hn; exact hn):=by simp [List.getD,List.getElem?_eq_getElem (show n < xs.length by rw [List.length_map] at hn; exact hn)]
   rw [hg]
   exact this
  exact ax (aa rfl) (aa rfl) hx
 have em:(rT xs os).map D.int=os.map fun o:Int=>D.int (xs.getD o.toNat 0):=by unfold rT; rw [List.map_map]; rfl
 rw [em]
 exact bW (ae hc rfl) rfl
theorem AE {n:Nat} {o:Int} (h:o ∈ upI n):0≤o∧o < n:=by
 obtain ⟨i,hi,rfl⟩:=List.mem_map.mp h
 have:=List.mem_range.mp hi
 omega
theorem oi:∀ (l:List Int) (n:Nat),(l.map D.int).eraseIdx n=(l.eraseIdx n).map D.int
 | [],_=>rfl
 | _ :: _,0=>rfl
 | x :: l,n + 1=>by
  show D.int x :: (l.map D.int).eraseIdx n=D.int x :: (l.eraseIdx n).map D.int
  rw [oi l n]
theorem mK:∀ (l:List Int) (n:Nat) (h:n < l.length),(l[n] :: l.eraseIdx n).Perm l
 | x :: l,0,_=>.refl _
 | x :: l,n + 1,h=>(List.Perm.swap x _ _).trans (.cons x (mK l n (Nat.lt_of_succ_lt_succ h)))
abbrev orE:EM:=(mT jP (ag 1) (ab (ar aM (ab (ag 2) (ab (eB cn (ab (ag 1) ak)) ak))) ak))
theorem vp {b f:Nat} (hfb:f ≠ b) {S0:Sto} (hf0:S0.length≤f):∀ (l:List Nat) (ls:List Int) (S:Sto) (r0:Option D),ls.length=l.length→ls.length≤100→Gr b S0 S→S[f]?=some (.lst (ls.map .int))→∃ (os:List Int) (S':Sto),eu (.nm 0) bO orE (l.map fun (i:Nat)=>D.int i) [r0,some (.ref f),some (.ref b)] S=.ok (os.map .int) S'∧os.Perm ls∧Gr b S0 S'
 | [],ls,S,r0,hl,_,g,hf=>⟨[],S,rfl,by rw [List.length_eq_zero_iff.mp hl],g⟩
 | i :: l,ls,S,r0,hl,hs,g,hf=>by
  rw [List.length_cons] at hl
  obtain ⟨q,S1,e1,q0,q1,g1⟩:=gG g.self (many:=(ls.length:Int)) (by omega) (by omega)
  obtain ⟨n,rfl⟩:∃ n:Nat,q=n:=⟨q.toNat,by omega⟩
  have hfl:f < S.length:=(List.getElem?_eq_some_iff.mp hf).1
  have hf1:S1[f]?=some (.lst (ls.map .int)):=by rw [g1.oth f hfb hfl]; exact hf
  have hfl1:f < S1.length:=(List.getElem?_eq_some_iff.mp hf1).1
  have hn:n < ls.length:=by omega
  have hp:jP S1 (.ref f) [.int (n:Int)]=.ok (.int ls[n]) (S1.set f (.lst ((ls.eraseIdx n).map .int))):=by
   unfold jP
   simp only [hf1]
   rw [if_pos ⟨by omega,by rw [List.length_map]; omega⟩,Int.toNat_natCast]
   have:(ls.map D.int)[n]?=some (.int ls[n]):=by rw [List.getElem?_map,List.getElem?_eq_getElem hn]; rfl
   simp only [this]
   rw [oi]
  have g01:=g.trans g1
  obtain ⟨m,hm⟩:=g1.bx
  have g2:Gr b S0 (S1.set f (.lst ((ls.eraseIdx n).map .int))):=⟨⟨m,by rw [List.getElem?_set_ne hfb]; exact hm⟩,fun j hj hl'=>by rw [List.getElem?_set_ne (by omega)]; exact g01.oth j hj hl',by simp; exact g01.len⟩
  have le:(ls.eraseIdx n).length=l.length:=by rw [List.length_eraseIdx,if_pos hn]; omega
  obtain ⟨os,S2,e2,p2,g3⟩:=vp hfb hf0 l (ls.eraseIdx n) (S1.set f (.lst ((ls.eraseIdx n).map .int))) (some (.int i)) le (by omega) g2 (by simp [hfl1])
  refine ⟨ls[n] :: os,S2,?_,((List.Perm.cons _ p2).trans (mK ls n hn)),g3⟩
  have hlen:cn S [.ref f]=some (.int ls.length):=by
   unfold cn dm
   simp only [hf,Option.map_some,List.length_map]
  have he:orE [some (.int i),some (.ref f),some (.ref b)] S=.ok (.int ls[n]) (S1.set f (.lst ((ls.eraseIdx n).map .int))):=(pq (aa rfl) (vo hf) (ae ((aq (ae (aa rfl) (ae (bW (ae (aa rfl) rfl) hlen) rfl))).trans e1) rfl)).trans hp
  rw [List.map_cons,eu]
  simp only [G.put,List.set_cons_zero,bO,R.bind_ok,if_true,he,e2,List.map_cons]
theorem yC {S:Sto} {b n:Nat} (g:Gr b S S) (hn:n≤100):∃ (os:List Int) (S':Sto),eh [.ref b,.int n] S=.ok (.tup (os.map .int)) S'∧os.Perm (upI n)∧Gr b S S':=by
 obtain ⟨v,hv⟩:=g.bx
 have hb:b < S.length:=(List.getElem?_eq_some_iff.mp hv).1
 obtain ⟨os,S',e,p,g'⟩:=vp (b:=b) (f:=S.length) (by omega) (S0:=S) (Nat.le_refl _) (List.range n) (upI n) (S ++ [.lst (ju n)]) none (by rw [kQ,List.length_range]) (by rw [kQ]; omega) (g.more _) (by rw [A5]; simp)
 have z:(100:Nat)≤sizeLine:=by decide
 have hl:eBR uU (ab (ag 1) ak) [some (.ref b),some (.int n),none] S=.ok (.ref S.length) (S ++ [.lst (ju n)]):=by
  unfold eBR
  rw [ae (aa rfl) rfl,R.bind_ok]
  exact if_pos ⟨by omega,by omega⟩
 have hr:cY (ab (ag 1) ak) [some (.ref b),some (.int n),some (.ref S.length)] (S ++ [.lst (ju n)])=.ok ((List.range n).map fun (i:Nat)=>D.int i) (S ++ [.lst (ju n)]):=lY (ae (aa rfl) rfl) (by omega)
 have hc:bJ (cY (ab (ag 1) ak)) 1 [2,0] (.nm 0) bO orE [some (.ref b),some (.int n),some (.ref S.length)] (S ++ [.lst (ju n)])=.ok (.lst (os.map .int)) S':=by
  unfold bJ
  rw [hr,R.bind_ok,if_pos (by rw [List.length_map,List.length_range]; omega)]
  have:fy 1 [2,0] [some (D.ref b),some (.int n),some (.ref S.length)]=[none,some (.ref S.length),some (.ref b)]:=rfl
  rw [this,e,R.bind_ok]
 exact ⟨os,S',bI (ρ:=[some (.ref b),some (.int n),none]) rfl ((av (bc hl)).trans (bj (bW (ae hc rfl) rfl))),p,g'⟩
theorem AF (xs:List Int):rT xs (upI xs.length)=xs:=by
 unfold rT upI
 rw [List.map_map]
 refine List.ext_getElem (by simp) fun n h1 h2=>?_
 simp [h2]
theorem wA {xs os:List Int} (h:os.Perm (upI xs.length)):(rT xs os).Perm xs:=by
 have:=h.map fun o:Int=>xs.getD o.toNat 0
 have e:=AF xs
 unfold rT at e ⊢
 rw [e] at this
 exact this
theorem tR {i l:Int} (h:l≤i) (S:Sto):aP [.int l,.int i] S=.ok .non S:=by
 have hc:tV (eOp oLt (ag 1) (ag 0)) [some (.int l),some (.int i)] S=.ok (decide (i < l)) S:=cy (ax (aa rfl) (aa rfl) rfl)
 rw [decide_eq_false (by omega)] at hc
 exact jS (ρ:=[some (.int l),some (.int i)]) rfl ((av (aW ((aq (ae (aa rfl) rfl)).trans (vm i S)))).trans ((ei hc).trans rfl))
theorem yE {xs:List Int} (hr:Row xs) (h10:xs.length≤10) (S:Sto):cH [tupI xs] S=.ok .non S:=by
 have hc:tV (eOp oGt (eB cn (ab (ag 0) ak)) (eC (.int (10)))) [some (tupI xs)] S=.ok (decide ((10:Int) < xs.length)) S:=cy (ax (bW (ae (aa rfl) rfl) er) rfl rfl)
 rw [decide_eq_false (by omega)] at hc
 exact jS (ρ:=[some (tupI xs)]) rfl ((av (aW ((aq (ae (aa rfl) rfl)).trans (cA hr S)))).trans ((ei hc).trans rfl))
theorem yF {k n m:Nat} (hk:1≤k) (h:n≤m) (hb:k ^ m≤3000):k ^ n≤3000:=Nat.le_trans (Nat.pow_le_pow_right hk h) hb
def New (K xs:List Int) (f:FM) (ds:List D) (S:Sto):Prop:=∃ (S':Sto) (n:Nat) (T:TI),f ds S=.ok (.ref n) S'∧S'[n]?=some (.dic (encT T))∧S.length≤n∧Hist T (wsL K xs)∧Tab T∧Pre S S'
theorem et {xs:List Int} (hr:Row xs) (h10:xs.length≤10) (S:Sto):New KS xs aA [tupI xs] S:=by
 have hb:KS.length ^ xs.length≤3000:=yF (k:=2) (m:=10) (by decide) h10 (by decide)
 obtain ⟨S',n,T,e,hd,hl,hT,p⟩:=tG (K:=KS) (xs:=xs) (by decide) hb S
 exact ⟨S',n,T,bI (ρ:=[some (tupI xs)]) rfl ((av (aW ((aq (ae (aa rfl) rfl)).trans (yE hr h10 S)))).trans (bj ((aq (ae (aa rfl) (ae rfl rfl))).trans e))),hd,hl,hT,hT.tab (vh (by decide) xs) (by rw [cv]; exact hb),p⟩
theorem gL {xs:List Int} (hr:Row xs) (h7:xs.length≤7) (S:Sto):New KP xs aJ [tupI xs] S:=by
 have hb:KP.length ^ xs.length≤3000:=yF (k:=3) (m:=7) (by decide) h7 (by decide)
 obtain ⟨S',n,T,e,hd,hl,hT,p⟩:=tG (K:=KP) (xs:=xs) (by decide) hb S
 exact ⟨S',n,T,bI (ρ:=[some (tupI xs)]) rfl ((av (aW ((aq (ae (aa rfl) rfl)).trans (yE hr (by omega) S)))).trans (bj ((aq (ae (aa rfl) (ae rfl rfl))).trans e))),hd,hl,hT,hT.tab (vh (by decide) xs) (by rw [cv]; exact hb),p⟩
theorem wB {xs ys:List Int} (hx:Row xs) (hy:Row ys) (h:xs.length + ys.length≤16) (S:Sto):fJ [tupI xs,tupI ys] S=.ok (tupI (xs ++ ys)) S:=by
 have z:(100:Nat)≤sizeLine:=by decide
 have hc:tV (eOp oGt (eOp bq (eB cn (ab (ag 0) ak)) (eB cn (ab (ag 1) ak))) (eC (.int (16)))) [some (tupI xs),some (tupI ys)] S=.ok (decide ((16:Int) < (xs.length:Int) + ys.length)) S:=cy (ax (ax (bW (ae (aa rfl) rfl) er) (bW (ae (aa rfl) rfl) er) rfl) rfl rfl)
 rw [decide_eq_false (by omega)] at hc
 have ha:bq S (tupI xs) (tupI ys)=some (tupI (xs ++ ys)):=by
  rw [x8 (by simp; omega),← List.map_append]
 exact bI (ρ:=[some (tupI xs),some (tupI ys)]) rfl ((av (aW ((aq (ae (aa rfl) rfl)).trans (cA hx S)))).trans ((av (aW ((aq (ae (aa rfl) rfl)).trans (cA hy S)))).trans ((av ((ei hc).trans rfl)).trans (bj (ax (aa rfl) (aa rfl) ha)))))
theorem g9 {xs:List Int} (hx:Row xs) {b:Int} (hb:1≤b) (hs:cw b) (S:Sto):eN [tupI xs,.int b] S=.ok (tupI (xs.map (· * b))) S:=by
 have z:(100:Nat)≤sizeLine:=by decide
 have hl:=hx.2
 have hc:=jT (enc:=D.int) (out:=fun x=>D.int (x * b)) (e:=eOp cT (ag 0) (ag 1)) (it:=cS (ag 0) cJ) (caps:=[1]) (tl:=[some (.int b)]) (r:=[some (tupI xs),some (.int b)]) (S:=S) xs (tm rfl rfl) (by omega) rfl fun x h=>ax (aa rfl) (aa rfl) (dv (.inr hs))
 have e:tupI (xs.map (· * b))=.tup (xs.map fun x=>D.int (x * b)):=by unfold tupI; rw [List.map_map]; rfl
 rw [e]
 exact bI (ρ:=[some (tupI xs),some (.int b)]) rfl ((av (aW ((aq (ae (aa rfl) rfl)).trans (cA hx S)))).trans ((av (aW ((aq (ae rfl (ae (aa rfl) rfl))).trans (tR hb S)))).trans (bj (bW (ae hc rfl) rfl))))
theorem oj {xs:List Int} (hx:Row xs) {b:Int} (hb:1≤b):Row (xs.map (· * b)):=⟨fun y hy=>by
 obtain ⟨x,h,rfl⟩:=List.mem_map.mp hy
 have:=hx.1 x h
 have:1 * 1≤x * b:=Int.mul_le_mul this hb (by decide) (by omega)
 show 1≤x * b
 omega,by rw [List.length_map]; exact hx.2⟩
theorem yG {xs os:List Int} (hx:Row xs) (h:os.Perm (upI xs.length)) (S:Sto):gk [tupI xs,tupI os] S=.ok (tupI (rT xs os)) S:=by
 have hl:=hx.2
 have lo:os.length=xs.length:=by rw [h.length_eq,kQ]
 exact bI (ρ:=[some (tupI xs),some (tupI os)]) rfl ((av (aW ((aq (ae (aa rfl) rfl)).trans (cA hx S)))).trans ((av ((ei (jy (b:=true) (cy ((aq (ae (aa rfl) (ae (aa rfl) rfl))).trans (pV (by omega) h S))))).trans rfl)).trans (bj (yB (by omega) (fun o ho=>AE (h.mem_iff.mp ho)) rfl rfl))))
theorem yH {xs ys:List Int} (hx:Row xs) (p:ys.Perm xs):Row ys:=⟨fun y hy=>hx.1 y (p.mem_iff.mp hy),by rw [p.length_eq]; exact hx.2⟩
def iQ (xs:List Int) (i:Nat):List Int:=xs.take i ++ xs.drop (i + 1)
theorem tS {xs:List Int} (hx:Row xs) {i:Nat} (h:i < xs.length) (S:Sto):ff [tupI xs,.int i] S=.ok (tupI (iQ xs i)) S:=by
 have z:(100:Nat)≤sizeLine:=by decide
 have hl:=hx.2
 have hc:tV (eOp oGe (ag 1) (eB cn (ab (ag 0) ak))) [some (tupI xs),some (.int i)] S=.ok (decide ((xs.length:Int)≤i)) S:=cy (ax (aa rfl) (bW (ae (aa rfl) rfl) er) rfl)
 rw [decide_eq_false (by omega)] at hc
 have h1:kl S (tupI xs) none (some ((i:Nat):Int))=some (tupI (xs.take i)):=by
  show some (D.tup (PD.cutD (xs.map .int) _ _))=_
  rw [rH _ _ (by rw [List.length_map]; omega),← List.map_take]
 have h2:kl S (tupI xs) (some ((i:Int) + 1)) none=some (tupI (xs.drop (i + 1))):=by
  show some (D.tup (PD.cutD (xs.map .int) _ _))=_
  rw [show (i:Int) + 1=((i + 1:Nat):Int) by omega,rJ _ _ (by rw [List.length_map]; omega),← List.map_drop]
 have ha:bq S (tupI (xs.take i)) (tupI (xs.drop (i + 1)))=some (tupI (iQ xs i)):=by
  unfold iQ
  rw [x8 (by simp; omega),← List.map_append]
 exact bI (ρ:=[some (tupI xs),some (.int i)]) rfl ((av (aW ((aq (ae (aa rfl) rfl)).trans (cA hx S)))).trans ((av (aW ((aq (ae rfl (ae (aa rfl) rfl))).trans (tR (by omega) S)))).trans ((av ((ei hc).trans rfl)).trans (bj (ax (pI (aa rfl) rfl (jA (aa rfl)) h1) (pI (aa rfl) (jA (ax (aa rfl) rfl rfl)) rfl h2) ha)))))
theorem yI {xs:List Int} {i:Nat} (h:i < xs.length):xs.Perm (iQ xs i ++ [xs[i]]):=by
 have e:xs=xs.take i ++ xs[i] :: xs.drop (i + 1):=by
  rw [List.getElem_cons_drop,List.take_append_drop]
 have p:(xs.take i ++ xs[i] :: xs.drop (i + 1)).Perm (iQ xs i ++ [xs[i]]):=by
  unfold iQ
  rw [List.append_assoc]
  exact List.Perm.append_left _ (List.perm_append_singleton _ _).symm
 rw [← e] at p
 exact p
theorem AG {xs:List Int} (hx:Row xs) (i:Nat):Row (iQ xs i):=⟨fun y hy=>by
 rcases List.mem_append.mp hy with hy | hy
 ·exact hx.1 y (List.mem_of_mem_take hy)
 ·exact hx.1 y (List.mem_of_mem_drop hy),by have:=hx.2; unfold iQ; simp; omega⟩
theorem vq (K:List Int) {T R:TI} {row rest:List Int} {n:Int} (hT:Hist T (wsL K row)) (hR:Hist R (wsL K rest)) (p:row.Perm (rest ++ [n])) (v:Int):gT T v=Sm K fun q=>gT R (v - q * n):=by
 rw [hT.gTs,kN K p,jV K rest 1 [n] _ rfl]
 have e:∀ z:Int,(Sm (wsL K [n]) fun w=>if z + w=v then (1:Int) else 0)=Sm K fun q=>if z + q * n=v then 1 else 0:=fun z=>pL K n _
 rw [bG e,pK]
 refine bG fun q=>?_
 rw [hR.gTs]
 refine bG fun z=>?_
 by_cases c:z + q * n=v
 ·rw [if_pos c,if_pos (by omega)]
 ·rw [if_neg c,if_neg (by omega)]
theorem low:∀ T:TI,∃ B:Int,∀ e ∈ T,B≤e.1
 | []=>⟨0,fun e he=>by cases he⟩
 | d :: T=>by
  obtain ⟨B,h⟩:=low T
  refine ⟨min B d.1,fun e he=>?_⟩
  rcases List.mem_cons.mp he with rfl | he
  ·omega
  ·have:=h e he; omega
theorem yJ {O R:TI} {f:List Int} (hR:Hist R f) (h:IsTab O (gT R)):Hist O f:=by
 have hm:∀ v,(∃ e ∈ O,e.1=v)↔v ∈ f:=fun v=>by rw [h.mem v,hR.gTs,pN]
 have hm':∀ v,(∃ e ∈ O,e.1=v)↔∃ e ∈ R,e.1=v:=fun v=>(hm v).trans (hR.mem v).symm
 refine ⟨h.keys,hm,fun k=>?_,?_⟩
 ·rw [wq k h.keys hR.keys hm' h.get,hR.sum]
 ·have a:=sub_len (kO h.keys) (B:=R.map (·.1)) fun x hx=>List.mem_map.mpr ((hm' x).mp (List.mem_map.mp hx))
  simp only [List.length_map] at a
  exact Nat.le_trans a hR.len
theorem DW {S:Sto} {m:Nat} {T R:TI} {f:List Int} (h:dAt S m T) (tT:Tab T) (hs:T.length≤900) (hR:Hist R f) {n:Int} {offs:List Int} (hd:offs.Nodup) (hp:∀ o ∈ offs,1≤o) (ho:offs.length≤10) (hq:IsQ offs (gT T) fun k=>gT R (k + n)):
  ∃ (O:TI) (S':Sto) (a:Nat),dg [.ref m,.int n,.tup (offs.map .int)] S=.ok (.ref a) S'∧Old S S'∧S.length≤a∧S'[a]?=some (.dic (encT O))∧Hist O f:=by
 rcases CP h tT hs n hd hp ho with ⟨q,O,S',a,e,o,l,hO,hq1,it,_⟩ | ⟨S',_,_,no⟩
 ·obtain ⟨B,hB⟩:=low T
  have u:=IsQ.uniq hp (B:=B) (fun k hk=>rL fun ⟨e,he,z⟩=>by have:=hB e he; omega) hq1 hq
  rw [u] at it
  refine ⟨O,S',a,e,o,l,hO,yJ hR ⟨it.keys,fun v=>?_,fun v=>?_⟩⟩
  ·have:(∃ e ∈ O,e.1=v)↔0 < gT R (v - n + n):=it.mem v
   rw [show v - n + n=v by omega] at this
   exact this
  ·have:gT O v=gT R (v - n + n):=it.get v
   rw [show v - n + n=v by omega] at this
   exact this
 ·exact absurd hq (no _)
theorem Old.fz {S S':Sto} (o:Old S S'):Fz S S':=⟨o.1,fun i h=>.inl (o.2 i h)⟩
theorem A6 {R:TI} {f:List Int} (h:Hist R f) (v:Int):0≤gT R v:=by rw [h.get]; omega
theorem yK {S:Sto} {m:Nat} {T:TI} (h:dAt S m T) (tT:Tab T) {n:Int} (hn:1≤n):aN [.ref m,.int n] S=.ok .non (S.set m (.fdic (encT T))):=
 jS (ρ:=[some (.ref m),some (.int n)]) rfl ((av (aW ((aq (ae (aa rfl) rfl)).trans (kP h tT)))).trans (aW ((aq (ae rfl (ae (aa rfl) rfl))).trans (tR hn _))))
def DX (f:List Int) (F:FM) (ds:List D) (S:Sto):Prop:=∃ (S':Sto) (a:Nat) (O:TI),F ds S=.ok (.ref a) S'∧S'[a]?=some (.dic (encT O))∧S.length≤a∧Hist O f∧Fz S S'
theorem Er {S:Sto} {m:Nat} {T R:TI} {row rest:List Int} {n:Int} (h:dAt S m T) (tT:Tab T) (hs:T.length≤900) (hn:1≤n) (hT:Hist T (wsL KS row)) (hR:Hist R (wsL KS rest)) (p:row.Perm (rest ++ [n])):DX (wsL KS rest) dy [.ref m,.int n] S:=by
 have z1:(1:Nat)≤sizeLine:=by decide
 have s2:cw 2:=by decide
 have n1:=yK h tT hn
 have f1:=Fz.set h
 have h1:dAt (S.set m (.fdic (encT T))) m T:=.inr h.frz
 have l1:(S.set m (.fdic (encT T))).length=S.length:=List.length_set
 generalize S.set m (.fdic (encT T))=S1 at n1 f1 h1 l1
 obtain ⟨O,S',a,e,o,l,hO,hH⟩:=DW (n:=n) (offs:=[2 * n]) h1 tT hs hR (by simp) (fun x hx=>by rw [List.mem_singleton.mp hx]; omega) (by simp) ⟨fun k=>A6 hR _,fun k=>by
  rw [vq KS hT hR p]
  show gT R (k - -1 * n) + (gT R (k - 1 * n) + 0)=gT R (k + n) + (gT R (k - 2 * n + n) + 0)
  rw [show k - -1 * n=k + n by omega,show k - 1 * n=k - 2 * n + n by omega]⟩
 exact ⟨S',a,O,bI (ρ:=[some (.ref m),some (.int n)]) rfl ((av (aW ((aq (ae (aa rfl) (ae (aa rfl) rfl))).trans n1))).trans (bj ((aq (ae (aa rfl) (ae (aa rfl) (ae (gI (xs:=[.int (2 * n)]) (ae (ax rfl (aa rfl) (dv (.inl s2))) rfl) z1) rfl)))).trans e))),hO,by omega,hH,f1.trans o.fz⟩
theorem Es {S:Sto} {m:Nat} {T R:TI} {row rest:List Int} {n:Int} (h:dAt S m T) (tT:Tab T) (hs:T.length≤900) (hn:1≤n) (hT:Hist T (wsL KP row)) (hR:Hist R (wsL KP rest)) (p:row.Perm (rest ++ [n])):DX (wsL KP rest) bU [.ref m,.int n] S:=by
 have z2:(2:Nat)≤sizeLine:=by decide
 have s2:cw 2:=by decide
 have n1:=yK h tT hn
 have f1:=Fz.set h
 have h1:dAt (S.set m (.fdic (encT T))) m T:=.inr h.frz
 have l1:(S.set m (.fdic (encT T))).length=S.length:=List.length_set
 generalize S.set m (.fdic (encT T))=S1 at n1 f1 h1 l1
 obtain ⟨O,S',a,e,o,l,hO,hH⟩:=DW (n:=n) (offs:=[n,2 * n]) h1 tT hs hR (by simp; omega) (fun x hx=>by
  rcases List.mem_cons.mp hx with rfl | hx
  ·exact hn
  ·rw [List.mem_singleton.mp hx]; omega) (by simp) ⟨fun k=>A6 hR _,fun k=>by
  rw [vq KP hT hR p]
  show gT R (k - -1 * n) + (gT R (k - 0 * n) + (gT R (k - 1 * n) + 0))=gT R (k + n) + (gT R (k - n + n) + (gT R (k - 2 * n + n) + 0))
  rw [show k - -1 * n=k + n by omega,show k - 1 * n=k - 2 * n + n by omega,show k - 0 * n=k - n + n by omega]⟩
 exact ⟨S',a,O,bI (ρ:=[some (.ref m),some (.int n)]) rfl ((av (aW ((aq (ae (aa rfl) (ae (aa rfl) rfl))).trans n1))).trans (bj ((aq (ae (aa rfl) (ae (aa rfl) (ae (gI (xs:=[.int n,.int (2 * n)]) (ae (aa rfl) (ae (ax rfl (aa rfl) (dv (.inl s2))) rfl)) z2) rfl)))).trans e))),hO,by omega,hH,f1.trans o.fz⟩
theorem pW {i j:Nat} {t:AM} {r:Rho} {S S1:Sto} {x y:D} (h:t r S=.ok [x,y] S1):sC i j t r S=.ok (.nx ((r.set i (some x)).set j (some y))) S1:=by unfold sC; rw [h,R.bind_ok]
theorem AH {S S':Sto} {p:Nat} {T:TI} (h:S[p]?=some (.dic (encT T))) (f:Fz S S'):(PD.cz p S')[p]?=some (.dic (encT T))∧(∀ i,i ≠ p→(PD.cz p S')[i]?=S'[i]?)∧(PD.cz p S').length=S'.length:=by
 have hl:p < S'.length:=Nat.lt_of_lt_of_le (List.getElem?_eq_some_iff.mp h).1 f.len
 rcases f.old p (List.getElem?_eq_some_iff.mp h).1 with x | ⟨T',x1,x2⟩
 ·rw [h] at x
  unfold PD.cz
  simp only [x]
  exact ⟨trivial,fun _ _=>trivial,trivial⟩
 ·rw [h] at x1
  have e:encT T=encT T':=SO.dic.inj (Option.some.inj x1)
  unfold PD.cz
  simp only [x2]
  exact ⟨by rw [List.getElem?_set_self hl,e],fun i hi=>List.getElem?_set_ne (Ne.symm hi),List.length_set⟩
theorem yL {i p:Nat} {ρ:Rho} {S S1:Sto} {m:EM} {kvs:List (KD × D)} {d:D} (hi:ρ[i]?=some (some (.ref p))) (hp:S[p]?=some (.dic kvs)) (hm:m ρ S=.ok d S1):iO i m ρ S=.ok d (PD.cz p S1):=by
 unfold iO
 rw [hi]
 simp only [hp]
 rw [hm,R.bind_ok]
abbrev jF (n:Int):TI:=[(n,1),(0 - n,1)]
abbrev pX (n:Int):TI:=[(n,1),(0 - n,1),(0,1)]
theorem AI {n:Int} (hn:1≤n):pT [(n,1)] (0 - n) 1=jF n:=tO fun ⟨e,he,z⟩=>by rw [List.mem_singleton.mp he] at z; have:n=0 - n:=z; omega
theorem AJ {n:Int} (hn:1≤n):pT (jF n) 0 1=pX n:=tO fun ⟨e,he,z⟩=>by
 simp only [List.mem_cons,List.not_mem_nil,or_false] at he
 rcases he with rfl | rfl
 ·have:n=0:=z; omega
 ·have:0 - n=0:=z; omega
theorem om {n:Int} (hn:1≤n):Hist (jF n) [n,0 - n]:=⟨by unfold Keys; simp; omega,fun v=>by simp [eq_comm],fun h=>by simp [sumH],Nat.le_refl _⟩
theorem oo {n:Int} (hn:1≤n):Hist (pX n) [n,0 - n,0]:=⟨by unfold Keys; simp; omega,fun v=>by simp [eq_comm],fun h=>by simp [sumH],Nat.le_refl _⟩
theorem CS {row rest:List Int} {n:Int} (p:row.Perm (rest ++ [n])) (k:Int→Int):Sm (wsL KS row) k=Sm (wsL KS rest) fun x=>Sm [n,0 - n] fun y=>k (x + y):=by
 rw [kN KS p,jV KS rest 1 [n] _ rfl]
 refine bG fun z=>?_
 rw [pL]
 show k (z + -1 * n) + (k (z + 1 * n) + 0)=k (z + n) + (k (z + (0 - n)) + 0)
 rw [show -1 * n=0 - n by omega,show 1 * n=n by omega]
 omega
theorem CT {row rest:List Int} {n:Int} (p:row.Perm (rest ++ [n])) (k:Int→Int):Sm (wsL KP row) k=Sm (wsL KP rest) fun x=>Sm [n,0 - n,0] fun y=>k (x + y):=by
 rw [kN KP p,jV KP rest 1 [n] _ rfl]
 refine bG fun z=>?_
 rw [pL]
 show k (z + -1 * n) + (k (z + 0 * n) + (k (z + 1 * n) + 0))=k (z + n) + (k (z + (0 - n)) + (k (z + 0) + 0))
 rw [show -1 * n=0 - n by omega,show 1 * n=n by omega,show 0 * n=0 by omega]
 omega
theorem AK {ρ:Rho} {S:Sto} {i:Nat} {n:Int} (h:ρ[i]?=some (some (.int n))):ly [((ag i),(eC (.int 1)))] ρ S=.ok (.ref S.length) (S ++ [.dic (encT [(n,1)])]):=by
 unfold ly pM
 rw [aa h]
 rfl
theorem dJ (f:List Int):Alike f f:=fun _=>rfl
theorem yM {row:List Int} (hr:Row row) (h5:row.length≤5) {i:Nat} (hi:i < row.length) (S:Sto):∃ S':Sto,bA [tupI row,.int i] S=.ok (.bl true) S'∧Fz S S':=by
 have hn:1≤row[i]:=hr.1 _ (List.getElem_mem hi)
 have pm:=yI hi
 have hix:oIx S (tupI row) (.int (i:Int))=some (.int row[i]):=by
  have:=lH (xs:=row.map D.int) (i:=i) (by rw [List.length_map]; exact hi)
  rw [List.getElem_map] at this
  exact this
 have hw:=tS hr hi S
 have hrr:=AG hr i
 have rl:(iQ row i).length≤4:=by
  have:=pm.length_eq
  rw [List.length_append,List.length_singleton] at this
  omega
 generalize hrest:iQ row i=rest at *
 generalize hnn:row[i]=n at *
 -- tables of the row,the number taken out
 obtain ⟨S1,n1,T1,e1,d1,l1,H1,t1,p1⟩:=et hr (by omega) S
 obtain ⟨Rx,R1,hR1⟩:∃ (Rx:Unit) (R1:TI),Hist R1 (wsL KS rest):=by
  obtain ⟨_,_,R,_,_,_,H,_,_⟩:=et hrr (by omega) S
  exact ⟨(),R,H⟩
 obtain ⟨R3,hR3⟩:∃ R3:TI,Hist R3 (wsL KP rest):=by
  obtain ⟨_,_,R,_,_,_,H,_,_⟩:=gL hrr (by omega) S
  exact ⟨R,H⟩
 have b1:(wsL KS row).length≤900:=by rw [cv]; exact Nat.le_trans (Nat.pow_le_pow_right (by decide) h5) (by decide)
 have b3:(wsL KP row).length≤900:=by rw [cv]; exact Nat.le_trans (Nat.pow_le_pow_right (by decide) h5) (by decide)
 obtain ⟨S2,a2,O2,e2,d2,l2,H2,f2⟩:=Er (.inl d1) t1 (Nat.le_trans H1.len b1) hn H1 hR1 pm
 obtain ⟨S3,n3,T3,e3,d3,l3,H3,t3,p3⟩:=gL hr (by omega) S2
 obtain ⟨S4,a4,O4,e4,d4,l4,H4,f4⟩:=Es (.inl d3) t3 (Nat.le_trans H3.len b3) hn H3 hR3 pm
 have D2_4:dAt S4 a2 O2:=f4.dat (p3.fz.dat (.inl d2))
 -- the same as of the rest
 obtain ⟨S5,n5,T5,e5,d5,l5,H5,t5,p5⟩:=et hrr (by omega) S4
 have D2_5:=p5.fz.dat D2_4
 have D4_5:=p5.fz.dat (.inl d4:dAt S4 a4 O4)
 have c5:=mH D2_5 (.inl d5) (iz H2 H5 (dJ _))
 obtain ⟨S6,n6,T6,e6,d6,l6,H6,t6,p6⟩:=gL hrr (by omega) S5
 have D2_6:=p6.fz.dat D2_5
 have D4_6:=p6.fz.dat D4_5
 have c6:=mH D4_6 (.inl d6) (iz H4 H6 (dJ _))
 have F6:Fz S S6:=((((p1.fz.trans f2).trans p3.fz).trans f4).trans p5.fz).trans p6.fz
 -- put in again
 have q7:(S6 ++ [SO.dic (encT [(n,1)])])[S6.length]?=some (.dic (encT [(n,1)])):=by simp
 have put8:=mG q7 (by simp) (0 - n) 1
 rw [AI hn] at put8
 have g8:(S6 ++ [SO.dic (encT [(n,1)])]).set S6.length (.dic (encT (jF n)))=S6 ++ [.dic (encT (jF n))]:=by simp
 rw [g8] at put8
 have q8:(S6 ++ [SO.dic (encT (jF n))])[S6.length]?=some (.dic (encT (jF n))):=by simp
 have D2_8:=(Fz.app S6 [SO.dic (encT (jF n))]).dat D2_6
 have D4_8:=(Fz.app S6 [SO.dic (encT (jF n))]).dat D4_6
 have F8:=F6.trans (Fz.app S6 [SO.dic (encT (jF n))])
 have l8:(S6 ++ [SO.dic (encT (jF n))]).length=S6.length + 1:=by simp
 have a2l:a2 < S6.length:=D2_6.lt
 have a4l:a4 < S6.length:=D4_6.lt
 have Sl6:S.length≤S6.length:=F6.len
 generalize S6 ++ [SO.dic (encT (jF n))]=S8 at *
 have w2:(wsL KS rest).length≤900:=by rw [cv]; exact Nat.le_trans (Nat.pow_le_pow_right (by decide) rl) (by decide)
 have w4:(wsL KP rest).length≤900:=by rw [cv]; exact Nat.le_trans (Nat.pow_le_pow_right (by decide) rl) (by decide)
 have tO2:=H2.tab (vh (by decide) rest) (by omega)
 have tO4:=H4.tab (vh (by decide) rest) (by omega)
 have h2l:=H2.len
 have h4l:=H4.len
 have to2:=(om hn).tab (by simp) (by simp)
 have to3:=(oo hn).tab (by simp) (by simp)
 have x2:O2.length * (jF n).length < 3000:=by show O2.length * 2 < 3000; omega
 have x3:O4.length * (pX n).length < 3000:=by show O4.length * 3 < 3000; omega
 obtain ⟨P,S9,a9,e9,d9,l9,H9,y9,f9⟩:=pQ D2_8 (.inl q8) tO2 to2 x2
 obtain ⟨u1,u2,u3⟩:=AH q8 f9
 have hP:Hist P (wsL KS row):=jW H9 H2 (om hn) (CS pm) (by
  have e:(wsL KS row).length=(wsL KS rest).length * 2:=by
   rw [cv,cv,pm.length_eq,List.length_append,List.length_singleton,Nat.pow_succ]; rfl
  rw [e]
  exact Nat.le_trans y9 (Nat.mul_le_mul_right _ h2l))
 have v9:(PD.cz S6.length S9)[a9]?=some (.dic (encT P)):=by rw [u2 a9 (by omega)]; exact d9
 have D4_9:dAt (PD.cz S6.length S9) a4 O4:=by
  have:=f9.dat D4_8
  unfold dAt at this ⊢
  rw [u2 a4 (by omega)]
  exact this
 have o9:∀ j,j < S.length→(PD.cz S6.length S9)[j]?=S9[j]?:=fun j hj=>u2 j (by omega)
 have F9:Fz S S9:=F8.trans f9
 generalize hSA:PD.cz S6.length S9=SA at *
 have hT:(R.ok (D.ref a9) (PD.cz S6.length S9):R D)=.ok (.ref a9) SA:=by rw [hSA]
 obtain ⟨SB,nB,TB,eB',dB,lB,HB,tB,pB⟩:=et hr (by omega) SA
 have cB:=mH (pB.fz.dat (.inl v9:dAt SA a9 P)) (.inl dB) (iz hP HB (dJ _))
 have qB:SB[S6.length]?=some (.dic (encT (jF n))):=by rw [pB.old _ (by rw [u3]; have:=f9.len; omega)]; exact u1
 have D4_B:=pB.fz.dat D4_9
 have putC:=mG qB (by simp) 0 1
 rw [AJ hn] at putC
 have qBl:S6.length < SB.length:=(List.getElem?_eq_some_iff.mp qB).1
 have qC:(SB.set S6.length (.dic (encT (pX n))))[S6.length]?=some (.dic (encT (pX n))):=List.getElem?_set_self qBl
 have D4_C:dAt (SB.set S6.length (.dic (encT (pX n)))) a4 O4:=D4_B.set (by omega)
 have oC:∀ j,j < S.length→(SB.set S6.length (.dic (encT (pX n))))[j]?=SB[j]?:=fun j hj=>List.getElem?_set_ne (by omega)
 have lC:(SB.set S6.length (.dic (encT (pX n)))).length=SB.length:=List.length_set
 generalize SB.set S6.length (.dic (encT (pX n)))=SC at *
 obtain ⟨P',SD,aD,eD,dD,lD,HD,yD,fD⟩:=pQ D4_C (.inl qC) tO4 to3 x3
 have hP':Hist P' (wsL KP row):=jW HD H4 (oo hn) (CT pm) (by
  have e:(wsL KP row).length=(wsL KP rest).length * 3:=by
   rw [cv,cv,pm.length_eq,List.length_append,List.length_singleton,Nat.pow_succ]; rfl
  rw [e]
  exact Nat.le_trans yD (Nat.mul_le_mul_right _ h4l))
 obtain ⟨SE',nE,TE',eE,dE,lE,HE,tE,pE⟩:=gL hr (by omega) SD
 have cE:=DS (pE.fz.dat (.inl dD:dAt SD aD P')) (.inl dE) (iz hP' HE (dJ _))
 have FC:Fz S SC:=by
  have fA:Fz S SA:=⟨by rw [u3]; exact F9.len,fun j hj=>by rw [o9 j hj]; exact F9.old j hj⟩
  have fB:=fA.trans pB.fz
  exact ⟨by rw [lC]; exact fB.len,fun j hj=>by rw [oC j hj]; exact fB.old j hj⟩
 refine ⟨SE',?_,(FC.trans fD).trans pE.fz⟩
 refine bI (ρ:=[some (tupI row),some (.int i),none,none,none,none,none]) rfl ?_
 refine (av (pW (ae (ax (aa rfl) (aa rfl) hix) (ae ((aq (ae (aa rfl) (ae (aa rfl) rfl))).trans hw) rfl)))).trans ?_
 refine (av (pW (ae ((aq (ae ((aq (ae (aa rfl) rfl)).trans e1) (ae (aa rfl) rfl))).trans e2) (ae ((aq (ae ((aq (ae (aa rfl) rfl)).trans e3) (ae (aa rfl) rfl))).trans e4) rfl)))).trans ?_
 refine (av ((ei ((xZ (cy (ax (aa rfl) ((aq (ae (aa rfl) rfl)).trans e5) c5))).trans (cy (ax (aa rfl) ((aq (ae (aa rfl) rfl)).trans e6) c6)))).trans rfl)).trans ?_
 refine (av (bc (AK (n:=n) rfl))).trans ?_
 refine (av (iF (v:=.int 1) rfl (aa rfl) (ax rfl (aa rfl) rfl) put8)).trans ?_
 refine (av ((ei (cy (ax ((yL rfl q8 ((aq (ae (aa rfl) (ae (aa rfl) rfl))).trans e9)).trans hT) ((aq (ae (aa rfl) rfl)).trans eB') cB))).trans rfl)).trans ?_
 refine (av (iF (v:=.int 1) rfl (aa rfl) rfl putC)).trans ?_
 exact bj (ax ((aq (ae (aa rfl) (ae (aa rfl) rfl))).trans eD) ((aq (ae (aa rfl) rfl)).trans eE) cE)
theorem AL (ns:List Int) (c:Nat) (hn:ns.length≤63) (hc:1≤c∧c≤63) (r:Rho) (hr:r[0]?=some (some (.fz (ns.map .int)))) (S:Sto):∃ n:Nat,cY (ab (eB xl (ab (eC (.int 1)) (ab (eB xm (ab (eB cn (ab (ag 0) ak)) (ab (eC (.int c)) ak))) ak))) ak) r S=.ok ((List.range n).map (fun (i:Nat)=>D.int i)) S∧n≤c:=by
 refine ⟨max 1 (min ns.length c),lY ?_ (by omega),by omega⟩
 have e:(if (1:Int) < (if (c:Int) < (ns.length:Int) then (c:Int) else (ns.length:Int)) then (if (c:Int) < (ns.length:Int) then (c:Int) else (ns.length:Int)) else 1)=((max 1 (min ns.length c):Nat):Int):=by
  split <;> split <;> omega
 rw [← e]
 simp [ab,ak,eB,eC,ag,R.bind,R.of,hr,cn,dm,xm,xl]
theorem AN {S:Sto} (xs:List Int):jN S (tupI xs) (.tup [])=some (.bl (!decide (xs=[]))):=by
 have:=wy xs []
 show (eqP (tupI xs) (.tup ([].map D.int))).map _=_
 rw [this]; rfl
theorem oq {xs:List Int} (hr:Row xs) (h:xs.length≤12) (S:Sto):∃ (S':Sto) (u:Int),bV [tupI xs] S=.ok (.int u) S'∧Pre S S'∧ye xs 0 (some u):=by
 obtain ⟨S',o,e,p,a⟩:=yf h hr 0 S
 obtain ⟨u,rfl⟩:=Ak hr.1 a
 exact ⟨S',u,bI (ρ:=[some (tupI xs)]) rfl (bj ((aq (ae (aa rfl) (ae rfl rfl))).trans e)),p,a⟩
theorem CU (K xs ys:List Int):(wsL K (xs ++ ys)).length=(wsL K xs).length * (wsL K ys).length:=by rw [cv,cv,cv,List.length_append,Nat.pow_add]
theorem vt {K:List Int} {F:FM} {xs ys:List Int} (hx:∀ S,New K xs F [tupI xs] S) (hy:∀ S,New K ys F [tupI ys] S) (hb:∀ S,New K (xs ++ ys) F [tupI (xs ++ ys)] S) (hz:(wsL K (xs ++ ys)).length < 3000) (S:Sto) (r0 r1 r2 r6 r7:Option D):
  ∃ S':Sto,tV (eOp fW (ar F (ab (ag 5) ak)) (ar aU (ab (ar F (ab (ag 3) ak)) (ab (ar F (ab (ag 4) ak)) ak)))) [r0,r1,r2,some (tupI xs),some (tupI ys),some (tupI (xs ++ ys)),r6,r7] S=.ok false S'∧Fz S S':=by
 obtain ⟨S1,n1,T1,e1,d1,l1,H1,t1,p1⟩:=hb S
 obtain ⟨S2,n2,T2,e2,d2,l2,H2,t2,p2⟩:=hx S1
 obtain ⟨S3,n3,T3,e3,d3,l3,H3,t3,p3⟩:=hy S2
 have hl:T2.length * T3.length≤(wsL K (xs ++ ys)).length:=by rw [CU]; exact Nat.mul_le_mul H2.len H3.len
 obtain ⟨P,S4,a4,e4,d4,l4,H4,y4,f4⟩:=pQ (p3.fz.dat (.inl d2:dAt S2 n2 T2)) (.inl d3) t2 t3 (by omega)
 have hP:Hist P (wsL K (xs ++ ys)):=jW H4 H2 H3 (fun k=>jV K xs ys.length ys k rfl) (Nat.le_trans y4 hl)
 have D1:dAt S4 n1 T1:=f4.dat (p3.fz.dat (p2.fz.dat (.inl d1:dAt S1 n1 T1)))
 exact ⟨S4,cy (ax ((aq (ae (aa rfl) rfl)).trans e1) ((aq (ae ((aq (ae (aa rfl) rfl)).trans e2) (ae ((aq (ae (aa rfl) rfl)).trans e3) rfl))).trans e4) (mH D1 (.inl d4) (iz H1 hP (dJ _)))),((p1.fz.trans p2.fz).trans p3.fz).trans f4⟩
theorem AO {xs ys:List Int} (hx:∀ x ∈ xs,1≤x) (hy:∀ x ∈ ys,1≤x) (h:xs.length + ys.length≤16):Row (xs ++ ys):=⟨fun x h=>by
 rcases List.mem_append.mp h with h | h
 ·exact hx x h
 ·exact hy x h,by rw [List.length_append]; exact h⟩
abbrev DY:SM:=(aB (bh 2 (ar dG (ab (ag 0) (ab (ag 1) ak)))) (aB (sC 3 4 (ab (ar dH (ab (ag 2) (ab (eC (.int 5)) ak))) (ab (ar dH (ab (ag 2) (ab (eC (.int 5)) ak))) ak))) (aB (bh 5 (ar fJ (ab (ag 3) (ab (ag 4) ak)))) (aB (sIf (tV (eOp fW (ar aA (ab (ag 5) ak)) (ar aU (ab (ar aA (ab (ag 3) ak)) (ab (ar aA (ab (ag 4) ak)) ak))))) (bz (eC (.bl false))) bw) (aB (sIf (PD.gY (tV (eOp oLt (eB cn (ab (ag 5) ak)) (eC (.int 8)))) (tV (eOp fW (ar aJ (ab (ag 5) ak)) (ar aU (ab (ar aJ (ab (ag 3) ak)) (ab (ar aJ (ab (ag 4) ak)) ak)))))) (bz (eC (.bl false))) bw) (aB (sIf (tV (eOp fW (ar aA (ab (ar gk (ab (ag 5) (ab (ar eh (ab (ag 2) (ab (eB cn (ab (ag 5) ak)) ak))) ak))) ak)) (ar aA (ab (ag 5) ak)))) (bz (eC (.bl false))) bw) (aB (bh 6 (eOp bq (eC (.int 1)) (ar aM (ab (ag 2) (ab (eC (.int 9)) ak))))) (aB (bh 7 (ar aA (ab (ag 3) ak))) (aB (sIf (tV (eOp fW (ar aA (ab (ar eN (ab (ag 3) (ab (ag 6) ak))) ak)) (eBR tf (ab (iO 7 (bJ (nJ (ag 7)) 1 [6,7] (.nm 0) bO (gu (ab (eOp cT (ag 0) (ag 1)) (ab (eOp km (ag 2) (ag 0)) ak))))) ak)))) (bz (eC (.bl false))) bw) (aB (sIf (PD.tOr (tV (eOp jN (ar bV (ab (ar eN (ab (ag 5) (ab (ag 6) ak))) ak)) (eOp cT (ag 6) (ar bV (ab (ag 5) ak))))) (tV (eOp fW (ar cV (ab (ar cV (ab (ag 7) (ab (ag 6) ak))) (ab (eOp mQ (eC (.int 0)) (ag 6)) ak))) (ag 7)))) (bz (eC (.bl false))) bw) (sIf (PD.gY (tV (eOp jN (ag 3) (gu ak))) (PD.gp (tV (ar bA (ab (ag 3) (ab (ar aM (ab (ag 2) (ab (eB cn (ab (ag 3) ak)) ak))) ak)))))) (bz (eC (.bl false))) bw)))))))))))
theorem yN (ns:List Int) (k:Nat) (S:Sto) (r2 r3 r4 r5 r6 r7:Option D):∃ (S':Sto) (a2 a3 a4 a5 a6 a7:Option D),DY [some (.fz (ns.map .int)),some (.int k),r2,r3,r4,r5,r6,r7] S=.ok (.nx [some (.fz (ns.map .int)),some (.int k),a2,a3,a4,a5,a6,a7]) S':=by
 have z2:(2:Nat)≤sizeLine:=by decide
 have z3000:(3000:Nat)≤sizeLine:=by decide
 obtain ⟨v,e0⟩:=CB ns k S
 have g0:Gr S.length (S ++ [SO.lst [.int v]]) (S ++ [SO.lst [.int v]]):=⟨⟨v,by simp⟩,fun _ _ _=>rfl,Nat.le_refl _⟩
 generalize S ++ [SO.lst [.int v]]=S0 at *
 generalize S.length=b at *
 obtain ⟨xs,S1,e1,l1,o1,g1⟩:=yA g0 (most:=5) (by decide)
 obtain ⟨ys,S2,e2,l2,o2,g2⟩:=yA g1.self (most:=5) (by decide)
 have x5:xs.length≤5:=by omega
 have y5:ys.length≤5:=by omega
 have rx:Row xs:=⟨fun x hx=>(o1 x hx).1,by omega⟩
 have ry:Row ys:=⟨fun x hx=>(o2 x hx).1,by omega⟩
 have rb:Row (xs ++ ys):=AO rx.1 ry.1 (by omega)
 have bl:(xs ++ ys).length≤10:=by rw [List.length_append]; omega
 have ej:=wB rx ry (by omega) S2
 have G2:=g2.self
 -- signs
 have hz1:(wsL KS (xs ++ ys)).length < 3000:=by rw [cv]; exact Nat.lt_of_le_of_lt (Nat.pow_le_pow_right (by decide) bl) (by decide)
 obtain ⟨S3,e3,f3⟩:=vt (fun S=>et rx (by omega) S) (fun S=>et ry (by omega) S) (fun S=>et rb bl S) hz1 S2 (some (.fz (ns.map .int))) (some (.int k)) (some (.ref b)) r6 r7
 have G3:=f3.gr G2
 -- parts
 obtain ⟨S4,e4,f4⟩:∃ S4:Sto,(PD.gY (tV (eOp oLt (eB cn (ab (ag 5) ak)) (eC (.int 8)))) (tV (eOp fW (ar aJ (ab (ag 5) ak)) (ar aU (ab (ar aJ (ab (ag 3) ak)) (ab (ar aJ (ab (ag 4) ak)) ak)))))) [some (.fz (ns.map .int)),some (.int k),some (.ref b),some (tupI xs),some (tupI ys),some (tupI (xs ++ ys)),r6,r7] S3=.ok false S4∧Fz S3 S4:=by
  have hc:tV (eOp oLt (eB cn (ab (ag 5) ak)) (eC (.int 8))) [some (.fz (ns.map .int)),some (.int k),some (.ref b),some (tupI xs),some (tupI ys),some (tupI (xs ++ ys)),r6,r7] S3=.ok (decide (((xs ++ ys).length:Int) < 8)) S3:=cy (ax (bW (ae (aa rfl) rfl) er) rfl rfl)
  by_cases c:(xs ++ ys).length < 8
  ·rw [decide_eq_true (by omega)] at hc
   have hz2:(wsL KP (xs ++ ys)).length < 3000:=by rw [cv]; exact Nat.lt_of_le_of_lt (Nat.pow_le_pow_right (by decide) (show (xs ++ ys).length≤7 by omega)) (by decide)
   obtain ⟨S4,e4,f4⟩:=vt (fun S=>gL rx (by omega) S) (fun S=>gL ry (by omega) S) (fun S=>gL rb (by omega) S) hz2 S3 (some (.fz (ns.map .int))) (some (.int k)) (some (.ref b)) r6 r7
   exact ⟨S4,(tJ hc).trans e4,f4⟩
  ·rw [decide_eq_false (by omega)] at hc
   exact ⟨S3,tK hc,Fz.refl _⟩
 have G4:=f4.gr G3
 -- another order
 obtain ⟨os,S5,e5,p5,g5⟩:=yC (n:=(xs ++ ys).length) G4 (by omega)
 have em:=yG rb p5 S5
 have pm:=wA p5
 obtain ⟨S6,n6,T6,e6,d6,l6,H6,t6,p6⟩:=et (yH rb pm) (by rw [pm.length_eq]; exact bl) S5
 obtain ⟨S7,n7,T7,e7,d7,l7,H7,t7,p7⟩:=et rb bl S6
 have c7:=mH (p7.fz.dat (.inl d6:dAt S6 n6 T6)) (.inl d7) (iz H6 H7 (kN KS pm))
 have G7:=p7.fz.gr (p6.fz.gr g5.self)
 -- grown
 obtain ⟨q,S8,e8,q0,q1,g8⟩:=gG G7 (many:=9) (by decide) (by decide)
 obtain ⟨S9,n9,T9,e9,d9,l9,H9,t9,p9⟩:=et rx (by omega) S8
 have G9:=p9.fz.gr g8.self
 have hb1:1≤1 + q:=by omega
 have sb:cw (1 + q):=⟨by omega,by omega⟩
 generalize hby:1 + q=by' at *
 have eg:=g9 rx hb1 sb S9
 have rg:=oj rx hb1
 obtain ⟨SA,nA,TA,eA,dA,lA,HA,tA,pA⟩:=et rg (by rw [List.length_map]; omega) S9
 have D9A:SA[n9]?=some (.dic (encT T9)):=by rw [pA.old _ (List.getElem?_eq_some_iff.mp d9).1]; exact d9
 have GA:=pA.fz.gr G9
 have ec:iO 7 (bJ (nJ (ag 7)) 1 [6,7] (.nm 0) bO (gu (ab (eOp cT (ag 0) (ag 1)) (ab (eOp km (ag 2) (ag 0)) ak)))) [some (.fz (ns.map .int)),some (.int k),some (.ref b),some (tupI xs),some (tupI ys),some (tupI (xs ++ ys)),some (.int by'),some (.ref n9)] SA=.ok (.lst ((grT by' T9).map fun e=>D.tup [.int e.1,.int e.2])) SA:=by
  refine Ah (kvs:=encT T9) rfl D9A ?_
  have el:((grT by' T9).map fun e=>D.tup [.int e.1,.int e.2])=T9.map fun e=>D.tup [.int (e.1 * by'),.int e.2]:=by unfold grT; rw [List.map_map]; rfl
  rw [el]
  exact wo (enc:=fun e:Int × Int=>D.int e.1) (tl:=[some (.int by'),some (.ref n9)]) T9 (Ab rfl (.inl D9A)) (Nat.le_trans t9.len z3000) rfl fun e he=>gI (xs:=[.int (e.1 * by'),.int e.2]) (ae (ax (aa rfl) (aa rfl) (dv (.inr sb))) (ae (ax (aa rfl) (aa rfl) (tH (.inr (dAt.frz (.inl D9A))) t9.keys he)) rfl)) z2
 have eD:=yo (S:=SA) (rM hb1 t9.keys)
 have DB:dAt (SA ++ [SO.dic (encT (grT by' T9))]) SA.length (grT by' T9):=.inl (by simp)
 have fB:=Fz.app SA [SO.dic (encT (grT by' T9))]
 have HG:=wt hb1 H9
 rw [← Ai] at HG
 have cB:=mH (fB.dat (.inl dA:dAt SA nA TA)) DB (iz HA HG (dJ _))
 have D9B:=fB.dat (.inl D9A:dAt SA n9 T9)
 have GB:=fB.gr GA
 generalize SA ++ [SO.dic (encT (grT by' T9))]=SB at *
 -- unevenness
 have egb:=g9 rb hb1 sb SB
 obtain ⟨SC,u',eC',pC,aC⟩:=oq (oj rb hb1) (by rw [List.length_map]; omega) SB
 obtain ⟨SD,u,eDu,pD,aD⟩:=oq rb (by omega) SC
 have hu:=Am hb1 aD aC
 have cD:jN SD (.int u') (.int (by' * u))=some (.bl false):=by rw [CD,hu,decide_eq_true rfl]; rfl
 have D9D:=pD.fz.dat (pC.fz.dat D9B)
 have GD:=pD.fz.gr (pC.fz.gr GB)
 -- shifted
 obtain ⟨SE',aE,eE,dE,lE,fE⟩:=rQ D9D t9 by'
 obtain ⟨SF,aF,eF,dF,lF,fF⟩:=rQ (.inl dE:dAt SE' aE _) (Ao t9) (0 - by')
 rw [yp] at dF
 have D9F:=fF.dat (fE.dat D9D)
 have cF:=mH (.inl dF) D9F (iz H9 H9 (dJ _))
 have GF:=fF.gr (fE.gr GD)
 -- a number taken out
 obtain ⟨SG,eG⟩:∃ SG:Sto,(PD.gY (tV (eOp jN (ag 3) (gu ak))) (PD.gp (tV (ar bA (ab (ag 3) (ab (ar aM (ab (ag 2) (ab (eB cn (ab (ag 3) ak)) ak))) ak)))))) [some (.fz (ns.map .int)),some (.int k),some (.ref b),some (tupI xs),some (tupI ys),some (tupI (xs ++ ys)),some (.int by'),some (.ref n9)] SF=.ok false SG:=by
  have hc:tV (eOp jN (ag 3) (gu ak)) [some (.fz (ns.map .int)),some (.int k),some (.ref b),some (tupI xs),some (tupI ys),some (tupI (xs ++ ys)),some (.int by'),some (.ref n9)] SF=.ok (!decide (xs=[])) SF:=cy (ax (aa rfl) (gI (xs:=[]) rfl (Nat.zero_le _)) (AN xs))
  by_cases c:xs=[]
  ·rw [decide_eq_true c] at hc
   exact ⟨SF,tK hc⟩
  ·rw [decide_eq_false c] at hc
   have hxl:0 < xs.length:=List.length_pos_iff.mpr c
   obtain ⟨i,SH,eH,i0,i1,gH⟩:=gG GF (many:=(xs.length:Int)) (by omega) (by omega)
   obtain ⟨j,rfl⟩:∃ j:Nat,i=j:=⟨i.toNat,by omega⟩
   obtain ⟨SI,eI,_⟩:=yM rx x5 (i:=j) (by omega) SH
   exact ⟨SI,(tJ hc).trans (jy (b:=true) (cy ((aq (ae (aa rfl) (ae ((aq (ae (aa rfl) (ae (bW (ae (aa rfl) rfl) er) rfl))).trans eH) rfl))).trans eI)))⟩
 refine ⟨SG,some (.ref b),some (tupI xs),some (tupI ys),some (tupI (xs ++ ys)),some (.int by'),some (.ref n9),?_⟩
 refine (av (bc ((aq (ae (aa rfl) (ae (aa rfl) rfl))).trans e0))).trans ?_
 refine (av (pW (ae ((aq (ae (aa rfl) (ae rfl rfl))).trans e1) (ae ((aq (ae (aa rfl) (ae rfl rfl))).trans e2) rfl)))).trans ?_
 refine (av (bc ((aq (ae (aa rfl) (ae (aa rfl) rfl))).trans ej))).trans ?_
 refine (av ((ei e3).trans rfl)).trans ?_
 refine (av ((ei e4).trans rfl)).trans ?_
 refine (av ((ei (cy (ax ((aq (ae ((aq (ae (aa rfl) (ae ((aq (ae (aa rfl) (ae (bW (ae (aa rfl) rfl) er) rfl))).trans e5) rfl))).trans em) rfl)).trans e6) ((aq (ae (aa rfl) rfl)).trans e7) c7))).trans rfl)).trans ?_
 refine (av (bc (d:=.int by') (ax rfl ((aq (ae (aa rfl) (ae rfl rfl))).trans e8) (by rw [← hby]; rfl)))).trans ?_
 refine (av (bc ((aq (ae (aa rfl) rfl)).trans e9))).trans ?_
 refine (av ((ei (cy (ax ((aq (ae ((aq (ae (aa rfl) (ae (aa rfl) rfl))).trans eg) rfl)).trans eA) ((tN (ae ec rfl)).trans eD) cB))).trans rfl)).trans ?_
 refine (av ((ei ((xZ (cy (ax ((aq (ae ((aq (ae (aa rfl) (ae (aa rfl) rfl))).trans egb) rfl)).trans eC') (ax (aa rfl) ((aq (ae (aa rfl) rfl)).trans eDu) (dv (.inl sb))) cD))).trans (cy (ax ((aq (ae ((aq (ae (aa rfl) (ae (aa rfl) rfl))).trans eE) (ae (ax rfl (aa rfl) rfl) rfl))).trans eF) (aa rfl) cF)))).trans rfl)).trans ?_
 exact (ei eG).trans rfl
theorem rU (ns:List Int):∀ (l:List Nat) (S:Sto) (r1 r2 r3 r4 r5 r6 r7:Option D),∃ (S':Sto) (ρ:Rho),forL (.nm 1) DY (l.map fun (i:Nat)=>D.int i) [some (.fz (ns.map .int)),r1,r2,r3,r4,r5,r6,r7] S=.ok (.nx ρ) S'
 | [],S,r1,r2,r3,r4,r5,r6,r7=>⟨S,_,rfl⟩
 | k :: l,S,r1,r2,r3,r4,r5,r6,r7=>by
  obtain ⟨S1,a2,a3,a4,a5,a6,a7,e1⟩:=yN ns k S r2 r3 r4 r5 r6 r7
  obtain ⟨S2,ρ,e2⟩:=rU ns l S1 (some (.int k)) a2 a3 a4 a5 a6 a7
  exact ⟨S2,ρ,(cO (r1:=[some (.fz (ns.map .int)),some (.int k),r2,r3,r4,r5,r6,r7]) rfl e1).trans e2⟩
theorem yO (ns:List Int) (hn:ns.length≤63):∃ S,uV [.fz (ns.map .int)] []=.ok (.bl true) S:=by
 obtain ⟨n,hg,hn3⟩:=AL ns 3 hn (by decide) [some (.fz (ns.map .int)),none,none,none,none,none,none,none] rfl []
 obtain ⟨S,ρ,e⟩:=rU ns (List.range n) [] none none none none none none none
 exact ⟨S,bI (ρ:=[some (.fz (ns.map .int)),none,none,none,none,none,none,none]) rfl ((av ((eY hg).trans e)).trans (bj rfl))⟩
set_option maxHeartbeats 4000000
theorem pY:bootBuiltins "all" = some (.builtin "all"):=by decide +kernel
theorem yP:bootBuiltins "bool" = some (.type "bool"):=by decide +kernel
theorem jG:bootBuiltins "dict" = some (.type "dict"):=by decide +kernel
theorem tU:bootBuiltins "divmod" = some (.builtin "divmod"):=by decide +kernel
theorem AQ:bootBuiltins "int" = some (.type "int"):=by decide +kernel
theorem cW:bootBuiltins "isinstance" = some (.builtin "isinstance"):=by decide +kernel
theorem cu:bootBuiltins "len" = some (.builtin "len"):=by decide +kernel
theorem DZ:bootBuiltins "list" = some (.type "list"):=by decide +kernel
theorem AR:bootBuiltins "max" = some (.builtin "max"):=by decide +kernel
theorem vw:bootBuiltins "min" = some (.builtin "min"):=by decide +kernel
theorem ja:bootBuiltins "sorted" = some (.builtin "sorted"):=by decide +kernel
theorem dY:bootBuiltins "tuple" = some (.type "tuple"):=by decide +kernel
structure Txt (K:PySem.W.Frag) (mg:Str→Option Value):Prop where
 cl:Cls K raisedX askedX isaX
 b_all:mg "all" = none
 b_bool:mg "bool" = none
 b_dict:mg "dict" = none
 b_divmod:mg "divmod" = none
 b_int:mg "int" = none
 b_isinstance:mg "isinstance" = none
 b_len:mg "len" = none
 b_list:mg "list" = none
 b_max:mg "max" = none
 b_min:mg "min" = none
 b_range:mg "range" = none
 b_sorted:mg "sorted" = none
 b_tuple:mg "tuple" = none
 c_LONGEST_ROW:∃ t,mg "LONGEST_ROW" = some (.int 16 t)
 c_LONGEST_TABLED:∃ t,mg "LONGEST_TABLED" = some (.int 10 t)
 m_PARTS:TupAt K mg "PARTS" [(-1),(0),(1)]
 m_SIGNS:TupAt K mg "SIGNS" [(-1),(1)]
section
variable {P:Program} {w:World} {K:PySem.W.Frag} {mg:Str→Option Value} {base:Heap}
theorem cC:FnScope ["script","k","here","number","j","part"] ["script","k"] (defScope dM):=⟨by kernel_rfl,by kernel_rfl,by kernel_rfl,by decide +kernel,rfl,by decide +kernel,by decide +kernel⟩
theorem rV {f:Addr} {fd:FuncData} (F:Fun K "_law_box" "_law_box" dM f fd) (hm:mg "_law_box" = some (.ref f)) (hb:Binds K fd ["script","k"] []) (T:Txt K mg) :DefN P w K mg base "_law_box" 1 2 dG:=
 aO ["script","k","here","number","j","part"] ["script","k"] 0 1 2 6 rfl rfl rfl F hm hb cC (m:=gE) fun cdv A outer s H E hr=>(au (bg cC.nd (by kernel_rfl) (Or.inl (by kernel_rfl)) (aR bH (aR dz az (af 1 (by kernel_rfl) (Or.inl (by kernel_rfl)))) az)) (au (cQ (bK ny (af 1 (by kernel_rfl) (Or.inl (by kernel_rfl))) (aL cU (by unfold Gl; kernel_rfl) T.b_len cu (ah (af 0 (by kernel_rfl) (Or.inl (by kernel_rfl))) aj))) (ay (bg cC.nd (by kernel_rfl) (Or.inl (by kernel_rfl)) (fO gN (af 0 (by kernel_rfl) (Or.inl (by kernel_rfl))) (af 1 (by kernel_rfl) (Or.inl (by kernel_rfl)))))) bY) (au (cQ (bK (oU hr) (aR lq (af 2 (by kernel_rfl) (Or.inl (by kernel_rfl))) az) az) (ay (aS (oK (ah (aR uB (af 2 (by kernel_rfl) (Or.inl (by kernel_rfl))) az) aj)))) bY) (au (bg cC.nd (by kernel_rfl) (Or.inl (by kernel_rfl)) az) (au (fU PassesOwn.never rfl (iC (by unfold Gl; kernel_rfl) T.b_range (ah az aj)) (aZ cC.nd (by kernel_rfl) (Or.inl (by kernel_rfl))) (au (bg cC.nd (by kernel_rfl) (Or.inl (by kernel_rfl)) (aR lq (aR bH (aR bH (aR dz (aR lq (af 2 (by kernel_rfl) (Or.inl (by kernel_rfl))) az) az) (aR dz az (af 4 (by kernel_rfl) (Or.inl (by kernel_rfl))))) az) az)) (au (bg cC.nd (by kernel_rfl) (Or.inl (by kernel_rfl)) (aR lq (aR dz (af 5 (by kernel_rfl) (Or.inl (by kernel_rfl))) (af 5 (by kernel_rfl) (Or.inl (by kernel_rfl)))) az)) (ay (bg cC.nd (by kernel_rfl) (Or.inl (by kernel_rfl)) (aR bH (aR dz (af 3 (by kernel_rfl) (Or.inl (by kernel_rfl))) az) (aR lq (aR dz (af 5 (by kernel_rfl) (Or.inl (by kernel_rfl))) (aR bH (af 5 (by kernel_rfl) (Or.inl (by kernel_rfl))) az)) az))))))) (ay (aS (oK (ah (af 3 (by kernel_rfl) (Or.inl (by kernel_rfl))) aj)))))))))
theorem gM:FnScope ["box","many","left","digit"] ["box","many"] (defScope de):=⟨by kernel_rfl,by kernel_rfl,by kernel_rfl,by decide +kernel,rfl,by decide +kernel,by decide +kernel⟩
theorem pZ {f:Addr} {fd:FuncData} (F:Fun K "_law_take" "_law_take" de f fd) (hm:mg "_law_take" = some (.ref f)) (hb:Binds K fd ["box","many"] []) (T:Txt K mg) :DefN P w K mg base "_law_take" 1 2 aM:=
 aO ["box","many","left","digit"] ["box","many"] 0 1 2 4 rfl rfl rfl F hm hb gM (m:=ie) fun cdv A outer s H E hr=>(au (B3 (aL vW (by unfold Gl; kernel_rfl) T.b_divmod tU (ah (fO gN (af 0 (by kernel_rfl) (Or.inl (by kernel_rfl))) az) (ah (af 1 (by kernel_rfl) (Or.inl (by kernel_rfl))) aj))) (iX rfl (bS (aZ gM.nd (by kernel_rfl) (Or.inl (by kernel_rfl))) (bS (aZ gM.nd (by kernel_rfl) (Or.inl (by kernel_rfl))) gx)))) (au (iY xp (af 2 (by kernel_rfl) (Or.inl (by kernel_rfl))) (af 0 (by kernel_rfl) (Or.inl (by kernel_rfl))) az) (ay (aS (af 3 (by kernel_rfl) (Or.inl (by kernel_rfl)))))))
theorem iR:FnScope ["box","many","left"] ["box","many"] (defScope cL):=⟨by kernel_rfl,by kernel_rfl,by kernel_rfl,by decide +kernel,rfl,by decide +kernel,by decide +kernel⟩
theorem mX {f:Addr} {fd:FuncData} (F:Fun K "_law_order" "_law_order" cL f fd) (hm:mg "_law_order" = some (.ref f)) (hb:Binds K fd ["box","many"] []) (T:Txt K mg) (d__law_take:DefN P w K mg base "_law_take" 1 2 aM):DefN P w K mg base "_law_order" 2 2 eh:=
 aO ["box","many","left"] ["box","many"] 1 2 2 3 rfl rfl rfl F hm hb iR (m:=jw) fun cdv A outer s H E hr=>(au (bg iR.nd (by kernel_rfl) (Or.inr (by kernel_rfl)) (zY rfl (by unfold Gl; kernel_rfl) T.b_list (by unfold Gl; kernel_rfl) T.b_range (ah (af 1 (by kernel_rfl) (Or.inl (by kernel_rfl))) aj))) (ay (aS (ft gb (by unfold Gl; kernel_rfl) T.b_tuple dY (ah (eX (N:=["turn","left","box"]) (k:=1) (caps:=[2,0]) rfl (fun _ _ z=>z) (iN (by kernel_rfl) (by kernel_rfl) (by kernel_rfl) (by kernel_rfl) rfl (by kernel_rfl)) (iC (by unfold Gl; kernel_rfl) T.b_range (ah (af 1 (by kernel_rfl) (Or.inl (by kernel_rfl))) aj)) (fun _ _ _ _=>(aZ (show (["turn","left","box"]:List Str).Nodup by decide +kernel) (by kernel_rfl) (Or.inl (by kernel_rfl)))) (fun _ _ _ _=>fq) (fun _ _ _ _=>(sN PySem.F.plainAttrs_list PySem.F.slot_list_pop PySem.F.type_list_pop xv (af 1 (by kernel_rfl) (Or.inr (Or.inl (by kernel_rfl)))) (ah (aw d__law_take (hr.mono (by decide)) (by unfold Gl; kernel_rfl) (ah (af 2 (by kernel_rfl) (Or.inr (Or.inl (by kernel_rfl)))) (ah (aL cU (by unfold Gl; kernel_rfl) T.b_len cu (ah (af 1 (by kernel_rfl) (Or.inr (Or.inl (by kernel_rfl)))) aj)) aj)) (ai (ai ao))) aj)))) aj)))))
theorem rW:FnScope ["thing"] ["thing"] (defScope dN):=⟨by kernel_rfl,by kernel_rfl,by kernel_rfl,by decide +kernel,rfl,by decide +kernel,by decide +kernel⟩
theorem rX {f:Addr} {fd:FuncData} (F:Fun K "is_whole" "is_whole" dN f fd) (hm:mg "is_whole" = some (.ref f)) (hb:Binds K fd ["thing"] []) (T:Txt K mg) :DefN P w K mg base "is_whole" 1 1 bf:=
 aO ["thing"] ["thing"] 0 1 1 1 rfl rfl rfl F hm hb rW (m:=i6) fun cdv A outer s H E hr=>(ay (aS (iT (aL lu (by unfold Gl; kernel_rfl) T.b_isinstance cW (ah (af 0 (by kernel_rfl) (Or.inl (by kernel_rfl))) (ah (qI (by unfold Gl; kernel_rfl) T.b_int AQ) aj))) (kZ (B0 (aL lu (by unfold Gl; kernel_rfl) T.b_isinstance cW (ah (af 0 (by kernel_rfl) (Or.inl (by kernel_rfl))) (ah (qI (by unfold Gl; kernel_rfl) T.b_bool yP) aj))))))))
theorem rY:FnScope ["thing"] ["thing"] (defScope dP):=⟨by kernel_rfl,by kernel_rfl,by kernel_rfl,by decide +kernel,rfl,by decide +kernel,by decide +kernel⟩
theorem rZ {f:Addr} {fd:FuncData} (F:Fun K "is_table" "is_table" dP f fd) (hm:mg "is_table" = some (.ref f)) (hb:Binds K fd ["thing"] []) (T:Txt K mg) (d_is_whole:DefN P w K mg base "is_whole" 1 1 bf):DefN P w K mg base "is_table" 2 1 fH:=
 aO ["thing"] ["thing"] 1 2 1 1 rfl rfl rfl F hm hb rY (m:=lS) fun cdv A outer s H E hr=>(au (cQ (lg (uv (iV (iU (aL z4 (by unfold Gl; kernel_rfl) T.b_isinstance cW (ah (af 0 (by kernel_rfl) (Or.inl (by kernel_rfl))) (ah (qI (by unfold Gl; kernel_rfl) T.b_dict jG) aj))))) (oJ (bK (xU hr) (af 0 (by kernel_rfl) (Or.inl (by kernel_rfl))) zN)))) (ay (aS g6)) bY) (ay (aS (aL (sM rfl) (by unfold Gl; kernel_rfl) T.b_all pY (ah (eX (N:=["reached","ways"]) (k:=2) (caps:=[]) rfl (fun _ _ z=>z) (iN (by kernel_rfl) (by kernel_rfl) (by kernel_rfl) (by kernel_rfl) rfl (by kernel_rfl)) (hZ (af 0 (by kernel_rfl) (Or.inl (by kernel_rfl)))) (fun _ _ _ _=>(iX rfl (bS (aZ (show (["reached","ways"]:List Str).Nodup by decide +kernel) (by kernel_rfl) (Or.inl (by kernel_rfl))) (bS (aZ (show (["reached","ways"]:List Str).Nodup by decide +kernel) (by kernel_rfl) (Or.inl (by kernel_rfl))) gx)))) (fun _ _ _ _=>fq) (fun _ _ _ _=>(iT (aw d_is_whole (hr.mono (by decide)) (by unfold Gl; kernel_rfl) (ah (af 0 (by kernel_rfl) (Or.inl (by kernel_rfl))) aj) (ai ao)) (iT (aw d_is_whole (hr.mono (by decide)) (by unfold Gl; kernel_rfl) (ah (af 1 (by kernel_rfl) (Or.inl (by kernel_rfl))) aj) (ai ao)) (kZ (kY qM (af 1 (by kernel_rfl) (Or.inl (by kernel_rfl))) az)))))) aj)))))
theorem ku:FnScope ["thing"] ["thing"] (defScope bZ):=⟨by kernel_rfl,by kernel_rfl,by kernel_rfl,by decide +kernel,rfl,by decide +kernel,by decide +kernel⟩
theorem kx {f:Addr} {fd:FuncData} (F:Fun K "need_table" "need_table" bZ f fd) (hm:mg "need_table" = some (.ref f)) (hb:Binds K fd ["thing"] []) (T:Txt K mg) (d_is_table:DefN P w K mg base "is_table" 2 1 fH):DefN P w K mg base "need_table" 3 1 br:=
 aO ["thing"] ["thing"] 2 3 1 1 rfl rfl rfl F hm hb ku (m:=ig) fun cdv A outer s H E hr=>(ay (cQ (iV (iU (aw d_is_table (hr.mono (by decide)) (by unfold Gl; kernel_rfl) (ah (af 0 (by kernel_rfl) (Or.inl (by kernel_rfl))) aj) (ai ao)))) (ay eZ) bY))
theorem bL:FnScope ["one","other","product","reached","ways","further","others","there"] ["one","other"] (defScope cc):=⟨by kernel_rfl,by kernel_rfl,by kernel_rfl,by decide +kernel,rfl,by decide +kernel,by decide +kernel⟩
theorem kz {f:Addr} {fd:FuncData} (F:Fun K "multiplied" "multiplied" cc f fd) (hm:mg "multiplied" = some (.ref f)) (hb:Binds K fd ["one","other"] []) (T:Txt K mg) (d_need_table_n:DefN P w K mg base "need_table" 3 1 br):DefN P w K mg base "multiplied" 4 2 aU:=
 aO ["one","other","product","reached","ways","further","others","there"] ["one","other"] 3 4 2 8 rfl rfl rfl F hm hb bL (m:=ij) fun cdv A outer s H E hr=>(au (bu (aw d_need_table_n (hr.mono (by decide)) (by unfold Gl; kernel_rfl) (ah (af 0 (by kernel_rfl) (Or.inl (by kernel_rfl))) aj) (ai ao))) (au (bu (aw d_need_table_n (hr.mono (by decide)) (by unfold Gl; kernel_rfl) (ah (af 1 (by kernel_rfl) (Or.inl (by kernel_rfl))) aj) (ai ao))) (au (bg bL.nd (by kernel_rfl) (Or.inl (by kernel_rfl)) oY) (au (fU PassesOwn.never rfl (hZ (af 0 (by kernel_rfl) (Or.inl (by kernel_rfl)))) (iX rfl (bS (aZ bL.nd (by kernel_rfl) (Or.inl (by kernel_rfl))) (bS (aZ bL.nd (by kernel_rfl) (Or.inl (by kernel_rfl))) gx))) (ay (fU PassesOwn.never rfl (hZ (af 1 (by kernel_rfl) (Or.inl (by kernel_rfl)))) (iX rfl (bS (aZ bL.nd (by kernel_rfl) (Or.inl (by kernel_rfl))) (bS (aZ bL.nd (by kernel_rfl) (Or.inl (by kernel_rfl))) gx))) (au (bg bL.nd (by kernel_rfl) (Or.inl (by kernel_rfl)) (aR bH (af 3 (by kernel_rfl) (Or.inl (by kernel_rfl))) (af 5 (by kernel_rfl) (Or.inl (by kernel_rfl))))) (ay (iY (iD hr) (aR bH (oV hr (af 2 (by kernel_rfl) (Or.inl (by kernel_rfl))) (af 7 (by kernel_rfl) (Or.inl (by kernel_rfl))) az (xw (by kernel_rfl) (by kernel_rfl) (by kernel_rfl) (by kernel_rfl))) (aR dz (af 4 (by kernel_rfl) (Or.inl (by kernel_rfl))) (af 6 (by kernel_rfl) (Or.inl (by kernel_rfl))))) (af 2 (by kernel_rfl) (Or.inl (by kernel_rfl))) (af 7 (by kernel_rfl) (Or.inl (by kernel_rfl))))))))) (ay (aS (af 2 (by kernel_rfl) (Or.inl (by kernel_rfl)))))))))
theorem wC:FnScope ["thing"] ["thing"] (defScope fu):=⟨by kernel_rfl,by kernel_rfl,by kernel_rfl,by decide +kernel,rfl,by decide +kernel,by decide +kernel⟩
theorem wD {f:Addr} {fd:FuncData} (F:Fun K "is_row" "is_row" fu f fd) (hm:mg "is_row" = some (.ref f)) (hb:Binds K fd ["thing"] []) (T:Txt K mg) (d_is_whole:DefN P w K mg base "is_whole" 1 1 bf):DefN P w K mg base "is_row" 2 1 fc:=
 aO ["thing"] ["thing"] 1 2 1 1 rfl rfl rfl F hm hb wC (m:=ip) fun cdv A outer s H E hr=>(au (cQ (lg (uv (iV (iU (aL lu (by unfold Gl; kernel_rfl) T.b_isinstance cW (ah (af 0 (by kernel_rfl) (Or.inl (by kernel_rfl))) (ah (qI (by unfold Gl; kernel_rfl) T.b_tuple dY) aj))))) (oJ (bK uC (aL cU (by unfold Gl; kernel_rfl) T.b_len cu (ah (af 0 (by kernel_rfl) (Or.inl (by kernel_rfl))) aj)) (xr T.c_LONGEST_ROW (by unfold Gl; kernel_rfl)))))) (ay (aS g6)) bY) (ay (aS (aL (sM rfl) (by unfold Gl; kernel_rfl) T.b_all pY (ah (eX (N:=["number"]) (k:=1) (caps:=[]) rfl (fun _ _ z=>z) (iN (by kernel_rfl) (by kernel_rfl) (by kernel_rfl) (by kernel_rfl) rfl (by kernel_rfl)) (gz (af 0 (by kernel_rfl) (Or.inl (by kernel_rfl)))) (fun _ _ _ _=>(aZ (show (["number"]:List Str).Nodup by decide +kernel) (by kernel_rfl) (Or.inl (by kernel_rfl)))) (fun _ _ _ _=>fq) (fun _ _ _ _=>(iT (aw d_is_whole (hr.mono (by decide)) (by unfold Gl; kernel_rfl) (ah (af 0 (by kernel_rfl) (Or.inl (by kernel_rfl))) aj) (ai ao)) (kZ (kY qM (af 0 (by kernel_rfl) (Or.inl (by kernel_rfl))) az))))) aj)))))
theorem mY:FnScope ["thing"] ["thing"] (defScope cM):=⟨by kernel_rfl,by kernel_rfl,by kernel_rfl,by decide +kernel,rfl,by decide +kernel,by decide +kernel⟩
theorem mZ {f:Addr} {fd:FuncData} (F:Fun K "need_row" "need_row" cM f fd) (hm:mg "need_row" = some (.ref f)) (hb:Binds K fd ["thing"] []) (T:Txt K mg) (d_is_row:DefN P w K mg base "is_row" 2 1 fc):DefN P w K mg base "need_row" 3 1 aK:=
 aO ["thing"] ["thing"] 2 3 1 1 rfl rfl rfl F hm hb mY (m:=gF) fun cdv A outer s H E hr=>(ay (cQ (iV (iU (aw d_is_row (hr.mono (by decide)) (by unfold Gl; kernel_rfl) (ah (af 0 (by kernel_rfl) (Or.inl (by kernel_rfl))) aj) (ai ao)))) (ay eZ) bY))
theorem m5:FnScope ["row"] ["row"] (defScope cN):=⟨by kernel_rfl,by kernel_rfl,by kernel_rfl,by decide +kernel,rfl,by decide +kernel,by decide +kernel⟩
theorem m7 {f:Addr} {fd:FuncData} (F:Fun K "need_few" "need_few" cN f fd) (hm:mg "need_few" = some (.ref f)) (hb:Binds K fd ["row"] []) (T:Txt K mg) (d_need_row_n:DefN P w K mg base "need_row" 3 1 aK):DefN P w K mg base "need_few" 4 1 cH:=
 aO ["row"] ["row"] 3 4 1 1 rfl rfl rfl F hm hb m5 (m:=jx) fun cdv A outer s H E hr=>(au (bu (aw d_need_row_n (hr.mono (by decide)) (by unfold Gl; kernel_rfl) (ah (af 0 (by kernel_rfl) (Or.inl (by kernel_rfl))) aj) (ai ao))) (ay (cQ (bK uC (aL cU (by unfold Gl; kernel_rfl) T.b_len cu (ah (af 0 (by kernel_rfl) (Or.inl (by kernel_rfl))) aj)) (xr T.c_LONGEST_TABLED (by unfold Gl; kernel_rfl))) (ay eZ) bY)))
theorem eS:FnScope ["table","step","choices","wider","reached","ways","choice","there"] ["table","step","choices"] (defScope eK):=⟨by kernel_rfl,by kernel_rfl,by kernel_rfl,by decide +kernel,rfl,by decide +kernel,by decide +kernel⟩
theorem tW {f:Addr} {fd:FuncData} (F:Fun K "stepped" "stepped" eK f fd) (hm:mg "stepped" = some (.ref f)) (hb:Binds K fd ["table","step","choices"] []) (T:Txt K mg) :DefN P w K mg base "stepped" 1 3 fw:=
 aO ["table","step","choices","wider","reached","ways","choice","there"] ["table","step","choices"] 0 1 3 8 rfl rfl rfl F hm hb eS (m:=nR) fun cdv A outer s H E hr=>(au (bg eS.nd (by kernel_rfl) (Or.inl (by kernel_rfl)) oY) (au (fU PassesOwn.never rfl (hZ (af 0 (by kernel_rfl) (Or.inl (by kernel_rfl)))) (iX rfl (bS (aZ eS.nd (by kernel_rfl) (Or.inl (by kernel_rfl))) (bS (aZ eS.nd (by kernel_rfl) (Or.inl (by kernel_rfl))) gx))) (ay (fU PassesOwn.never rfl (gz (af 2 (by kernel_rfl) (Or.inl (by kernel_rfl)))) (aZ eS.nd (by kernel_rfl) (Or.inl (by kernel_rfl))) (au (bg eS.nd (by kernel_rfl) (Or.inl (by kernel_rfl)) (aR bH (af 4 (by kernel_rfl) (Or.inl (by kernel_rfl))) (aR dz (af 6 (by kernel_rfl) (Or.inl (by kernel_rfl))) (af 1 (by kernel_rfl) (Or.inl (by kernel_rfl)))))) (ay (iY (iD hr) (aR bH (oV hr (af 3 (by kernel_rfl) (Or.inl (by kernel_rfl))) (af 7 (by kernel_rfl) (Or.inl (by kernel_rfl))) az (xw (by kernel_rfl) (by kernel_rfl) (by kernel_rfl) (by kernel_rfl))) (af 5 (by kernel_rfl) (Or.inl (by kernel_rfl)))) (af 3 (by kernel_rfl) (Or.inl (by kernel_rfl))) (af 7 (by kernel_rfl) (Or.inl (by kernel_rfl))))))))) (ay (aS (af 3 (by kernel_rfl) (Or.inl (by kernel_rfl)))))))
theorem fT:FnScope ["row","choices","table","step"] ["row","choices"] (defScope dQ):=⟨by kernel_rfl,by kernel_rfl,by kernel_rfl,by decide +kernel,rfl,by decide +kernel,by decide +kernel⟩
theorem r8 {f:Addr} {fd:FuncData} (F:Fun K "table_of" "table_of" dQ f fd) (hm:mg "table_of" = some (.ref f)) (hb:Binds K fd ["row","choices"] []) (T:Txt K mg) (d_stepped:DefN P w K mg base "stepped" 1 3 fw):DefN P w K mg base "table_of" 2 2 bT:=
 aO ["row","choices","table","step"] ["row","choices"] 1 2 2 4 rfl rfl rfl F hm hb fT (m:=lT) fun cdv A outer s H E hr=>(au (bg fT.nd (by kernel_rfl) (Or.inl (by kernel_rfl)) (uJ (qP az az uF))) (au (fU PassesOwn.never rfl (gz (af 0 (by kernel_rfl) (Or.inl (by kernel_rfl)))) (aZ fT.nd (by kernel_rfl) (Or.inl (by kernel_rfl))) (ay (bg fT.nd (by kernel_rfl) (Or.inl (by kernel_rfl)) (aw d_stepped (hr.mono (by decide)) (by unfold Gl; kernel_rfl) (ah (af 2 (by kernel_rfl) (Or.inl (by kernel_rfl))) (ah (af 3 (by kernel_rfl) (Or.inl (by kernel_rfl))) (ah (af 1 (by kernel_rfl) (Or.inl (by kernel_rfl))) aj))) (ai (ai (ai ao))))))) (ay (aS (af 2 (by kernel_rfl) (Or.inl (by kernel_rfl)))))))
theorem kA:FnScope ["row"] ["row"] (defScope cf):=⟨by kernel_rfl,by kernel_rfl,by kernel_rfl,by decide +kernel,rfl,by decide +kernel,by decide +kernel⟩
theorem kB {f:Addr} {fd:FuncData} (F:Fun K "part_table" "part_table" cf f fd) (hm:mg "part_table" = some (.ref f)) (hb:Binds K fd ["row"] []) (T:Txt K mg) (d_need_few_n:DefN P w K mg base "need_few" 4 1 cH) (d_table_of:DefN P w K mg base "table_of" 2 2 bT):DefN P w K mg base "part_table" 5 1 aJ:=
 aO ["row"] ["row"] 4 5 1 1 rfl rfl rfl F hm hb kA (m:=iq) fun cdv A outer s H E hr=>(au (bu (aw d_need_few_n (hr.mono (by decide)) (by unfold Gl; kernel_rfl) (ah (af 0 (by kernel_rfl) (Or.inl (by kernel_rfl))) aj) (ai ao))) (ay (aS (aw d_table_of (hr.mono (by decide)) (by unfold Gl; kernel_rfl) (ah (af 0 (by kernel_rfl) (Or.inl (by kernel_rfl))) (ah (xA T.m_PARTS (by unfold Gl; kernel_rfl)) aj)) (ai (ai ao))))))
theorem eT:FnScope ["table","number","further","left","other","reached","ways","more"] ["table","number","further"] (defScope eL):=⟨by kernel_rfl,by kernel_rfl,by kernel_rfl,by decide +kernel,rfl,by decide +kernel,by decide +kernel⟩
theorem tX {f:Addr} {fd:FuncData} (F:Fun K "divided" "divided" eL f fd) (hm:mg "divided" = some (.ref f)) (hb:Binds K fd ["table","number","further"] []) (T:Txt K mg) :DefN P w K mg base "divided" 1 3 dg:=
 aO ["table","number","further","left","other","reached","ways","more"] ["table","number","further"] 0 1 3 8 rfl rfl rfl F hm hb eT (m:=nT) fun cdv A outer s H E hr=>(au (bg eT.nd (by kernel_rfl) (Or.inl (by kernel_rfl)) (i4 CA (by unfold Gl; kernel_rfl) T.b_dict jG (ah (af 0 (by kernel_rfl) (Or.inl (by kernel_rfl))) aj))) (au (bg eT.nd (by kernel_rfl) (Or.inl (by kernel_rfl)) oY) (au (fU PassesOwn.never rfl (gz (aL (sY rfl) (by unfold Gl; kernel_rfl) T.b_sorted ja (ah (af 0 (by kernel_rfl) (Or.inl (by kernel_rfl))) aj))) (aZ eT.nd (by kernel_rfl) (Or.inl (by kernel_rfl))) (au (bg eT.nd (by kernel_rfl) (Or.inl (by kernel_rfl)) (fO (sQ hr) (af 3 (by kernel_rfl) (Or.inl (by kernel_rfl))) (af 5 (by kernel_rfl) (Or.inl (by kernel_rfl))))) (ay (cQ (bK uC (af 6 (by kernel_rfl) (Or.inl (by kernel_rfl))) az) (au (iY (iD hr) (af 6 (by kernel_rfl) (Or.inl (by kernel_rfl))) (af 4 (by kernel_rfl) (Or.inl (by kernel_rfl))) (aR bH (af 5 (by kernel_rfl) (Or.inl (by kernel_rfl))) (af 1 (by kernel_rfl) (Or.inl (by kernel_rfl))))) (ay (fU PassesOwn.never rfl (gz (af 2 (by kernel_rfl) (Or.inl (by kernel_rfl)))) (aZ eT.nd (by kernel_rfl) (Or.inl (by kernel_rfl))) (au (cQ (bK ny (oV hr (af 3 (by kernel_rfl) (Or.inl (by kernel_rfl))) (aR bH (af 5 (by kernel_rfl) (Or.inl (by kernel_rfl))) (af 7 (by kernel_rfl) (Or.inl (by kernel_rfl)))) az (xw (by kernel_rfl) (by kernel_rfl) (by kernel_rfl) (by kernel_rfl))) (af 6 (by kernel_rfl) (Or.inl (by kernel_rfl)))) (ay (aS BZ)) bY) (ay (iY (iD hr) (aR lj (fO (sQ hr) (af 3 (by kernel_rfl) (Or.inl (by kernel_rfl))) (aR bH (af 5 (by kernel_rfl) (Or.inl (by kernel_rfl))) (af 7 (by kernel_rfl) (Or.inl (by kernel_rfl))))) (af 6 (by kernel_rfl) (Or.inl (by kernel_rfl)))) (af 3 (by kernel_rfl) (Or.inl (by kernel_rfl))) (aR bH (af 5 (by kernel_rfl) (Or.inl (by kernel_rfl))) (af 7 (by kernel_rfl) (Or.inl (by kernel_rfl)))))))))) bY)))) (ay (aS (af 4 (by kernel_rfl) (Or.inl (by kernel_rfl))))))))
theorem jX:FnScope ["thing"] ["thing"] (defScope bP):=⟨by kernel_rfl,by kernel_rfl,by kernel_rfl,by decide +kernel,rfl,by decide +kernel,by decide +kernel⟩
theorem jY {f:Addr} {fd:FuncData} (F:Fun K "need_number" "need_number" bP f fd) (hm:mg "need_number" = some (.ref f)) (hb:Binds K fd ["thing"] []) (T:Txt K mg) (d_is_whole:DefN P w K mg base "is_whole" 1 1 bf):DefN P w K mg base "need_number" 2 1 aV:=
 aO ["thing"] ["thing"] 1 2 1 1 rfl rfl rfl F hm hb jX (m:=fk) fun cdv A outer s H E hr=>(ay (cQ (iV (iU (aw d_is_whole (hr.mono (by decide)) (by unfold Gl; kernel_rfl) (ah (af 0 (by kernel_rfl) (Or.inl (by kernel_rfl))) aj) (ai ao)))) (ay eZ) bY))
theorem gU:FnScope ["least","thing"] ["least","thing"] (defScope bo):=⟨by kernel_rfl,by kernel_rfl,by kernel_rfl,by decide +kernel,rfl,by decide +kernel,by decide +kernel⟩
theorem gW {f:Addr} {fd:FuncData} (F:Fun K "need_number_from" "need_number_from" bo f fd) (hm:mg "need_number_from" = some (.ref f)) (hb:Binds K fd ["least","thing"] []) (T:Txt K mg) (d_need_number_n:DefN P w K mg base "need_number" 2 1 aV):DefN P w K mg base "need_number_from" 3 2 aP:=
 aO ["least","thing"] ["least","thing"] 2 3 2 2 rfl rfl rfl F hm hb gU (m:=fe) fun cdv A outer s H E hr=>(au (bu (aw d_need_number_n (hr.mono (by decide)) (by unfold Gl; kernel_rfl) (ah (af 1 (by kernel_rfl) (Or.inl (by kernel_rfl))) aj) (ai ao))) (ay (cQ (bK ny (af 1 (by kernel_rfl) (Or.inl (by kernel_rfl))) (af 0 (by kernel_rfl) (Or.inl (by kernel_rfl)))) (ay eZ) bY)))
theorem fL:FnScope ["table","number"] ["table","number"] (defScope aT):=⟨by kernel_rfl,by kernel_rfl,by kernel_rfl,by decide +kernel,rfl,by decide +kernel,by decide +kernel⟩
theorem fM {f:Addr} {fd:FuncData} (F:Fun K "need_table_and_number" "need_table_and_number" aT f fd) (hm:mg "need_table_and_number" = some (.ref f)) (hb:Binds K fd ["table","number"] []) (T:Txt K mg) (d_need_number_from_n:DefN P w K mg base "need_number_from" 3 2 aP) (d_need_table_n:DefN P w K mg base "need_table" 3 1 br):DefN P w K mg base "need_table_and_number" 4 2 aN:=
 aO ["table","number"] ["table","number"] 3 4 2 2 rfl rfl rfl F hm hb fL (m:=du) fun cdv A outer s H E hr=>(au (bu (aw d_need_table_n (hr.mono (by decide)) (by unfold Gl; kernel_rfl) (ah (af 0 (by kernel_rfl) (Or.inl (by kernel_rfl))) aj) (ai ao))) (ay (bu (aw d_need_number_from_n (hr.mono (by decide)) (by unfold Gl; kernel_rfl) (ah az (ah (af 1 (by kernel_rfl) (Or.inl (by kernel_rfl))) aj)) (ai (ai ao))))))
theorem iJ:FnScope ["table","number"] ["table","number"] (defScope bE):=⟨by kernel_rfl,by kernel_rfl,by kernel_rfl,by decide +kernel,rfl,by decide +kernel,by decide +kernel⟩
theorem iK {f:Addr} {fd:FuncData} (F:Fun K "part_taken_out" "part_taken_out" bE f fd) (hm:mg "part_taken_out" = some (.ref f)) (hb:Binds K fd ["table","number"] []) (T:Txt K mg) (d_divided:DefN P w K mg base "divided" 1 3 dg) (d_need_table_and_number_n:DefN P w K mg base "need_table_and_number" 4 2 aN):DefN P w K mg base "part_taken_out" 5 2 bU:=
 aO ["table","number"] ["table","number"] 4 5 2 2 rfl rfl rfl F hm hb iJ (m:=fI) fun cdv A outer s H E hr=>(au (bu (aw d_need_table_and_number_n (hr.mono (by decide)) (by unfold Gl; kernel_rfl) (ah (af 0 (by kernel_rfl) (Or.inl (by kernel_rfl))) (ah (af 1 (by kernel_rfl) (Or.inl (by kernel_rfl))) aj)) (ai (ai ao)))) (ay (aS (aw d_divided (hr.mono (by decide)) (by unfold Gl; kernel_rfl) (ah (af 0 (by kernel_rfl) (Or.inl (by kernel_rfl))) (ah (af 1 (by kernel_rfl) (Or.inl (by kernel_rfl))) (ah (iW (ah (af 1 (by kernel_rfl) (Or.inl (by kernel_rfl))) (ah (aR dz az (af 1 (by kernel_rfl) (Or.inl (by kernel_rfl)))) aj))) aj))) (ai (ai (ai ao)))))))
theorem kC:FnScope ["row"] ["row"] (defScope cg):=⟨by kernel_rfl,by kernel_rfl,by kernel_rfl,by decide +kernel,rfl,by decide +kernel,by decide +kernel⟩
theorem kE {f:Addr} {fd:FuncData} (F:Fun K "sign_table" "sign_table" cg f fd) (hm:mg "sign_table" = some (.ref f)) (hb:Binds K fd ["row"] []) (T:Txt K mg) (d_need_few_n:DefN P w K mg base "need_few" 4 1 cH) (d_table_of:DefN P w K mg base "table_of" 2 2 bT):DefN P w K mg base "sign_table" 5 1 aA:=
 aO ["row"] ["row"] 4 5 1 1 rfl rfl rfl F hm hb kC (m:=ir) fun cdv A outer s H E hr=>(au (bu (aw d_need_few_n (hr.mono (by decide)) (by unfold Gl; kernel_rfl) (ah (af 0 (by kernel_rfl) (Or.inl (by kernel_rfl))) aj) (ai ao))) (ay (aS (aw d_table_of (hr.mono (by decide)) (by unfold Gl; kernel_rfl) (ah (af 0 (by kernel_rfl) (Or.inl (by kernel_rfl))) (ah (xA T.m_SIGNS (by unfold Gl; kernel_rfl)) aj)) (ai (ai ao))))))
theorem mL:FnScope ["table","number"] ["table","number"] (defScope cx):=⟨by kernel_rfl,by kernel_rfl,by kernel_rfl,by decide +kernel,rfl,by decide +kernel,by decide +kernel⟩
theorem mM {f:Addr} {fd:FuncData} (F:Fun K "taken_out" "taken_out" cx f fd) (hm:mg "taken_out" = some (.ref f)) (hb:Binds K fd ["table","number"] []) (T:Txt K mg) (d_divided:DefN P w K mg base "divided" 1 3 dg) (d_need_table_and_number_n:DefN P w K mg base "need_table_and_number" 4 2 aN):DefN P w K mg base "taken_out" 5 2 dy:=
 aO ["table","number"] ["table","number"] 4 5 2 2 rfl rfl rfl F hm hb mL (m:=iP) fun cdv A outer s H E hr=>(au (bu (aw d_need_table_and_number_n (hr.mono (by decide)) (by unfold Gl; kernel_rfl) (ah (af 0 (by kernel_rfl) (Or.inl (by kernel_rfl))) (ah (af 1 (by kernel_rfl) (Or.inl (by kernel_rfl))) aj)) (ai (ai ao)))) (ay (aS (aw d_divided (hr.mono (by decide)) (by unfold Gl; kernel_rfl) (ah (af 0 (by kernel_rfl) (Or.inl (by kernel_rfl))) (ah (af 1 (by kernel_rfl) (Or.inl (by kernel_rfl))) (ah (iW (ah (aR dz az (af 1 (by kernel_rfl) (Or.inl (by kernel_rfl)))) aj)) aj))) (ai (ai (ai ao)))))))
theorem p8:FnScope ["row","place"] ["row","place"] (defScope dh):=⟨by kernel_rfl,by kernel_rfl,by kernel_rfl,by decide +kernel,rfl,by decide +kernel,by decide +kernel⟩
theorem qa {f:Addr} {fd:FuncData} (F:Fun K "without" "without" dh f fd) (hm:mg "without" = some (.ref f)) (hb:Binds K fd ["row","place"] []) (T:Txt K mg) (d_need_number_from_n:DefN P w K mg base "need_number_from" 3 2 aP) (d_need_row_n:DefN P w K mg base "need_row" 3 1 aK):DefN P w K mg base "without" 4 2 ff:=
 aO ["row","place"] ["row","place"] 3 4 2 2 rfl rfl rfl F hm hb p8 (m:=kc) fun cdv A outer s H E hr=>(au (bu (aw d_need_row_n (hr.mono (by decide)) (by unfold Gl; kernel_rfl) (ah (af 0 (by kernel_rfl) (Or.inl (by kernel_rfl))) aj) (ai ao))) (au (bu (aw d_need_number_from_n (hr.mono (by decide)) (by unfold Gl; kernel_rfl) (ah az (ah (af 1 (by kernel_rfl) (Or.inl (by kernel_rfl))) aj)) (ai (ai ao)))) (au (cQ (bK qM (af 1 (by kernel_rfl) (Or.inl (by kernel_rfl))) (aL cU (by unfold Gl; kernel_rfl) T.b_len cu (ah (af 0 (by kernel_rfl) (Or.inl (by kernel_rfl))) aj))) (ay eZ) bY) (ay (aS (aR bH (uD oS (af 0 (by kernel_rfl) (Or.inl (by kernel_rfl))) kH (kI (af 1 (by kernel_rfl) (Or.inl (by kernel_rfl))))) (uD oS (af 0 (by kernel_rfl) (Or.inl (by kernel_rfl))) (kI (aR bH (af 1 (by kernel_rfl) (Or.inl (by kernel_rfl))) az)) kH)))))))
theorem bX:FnScope ["row","place","number","rest","signs","parts","one"] ["row","place"] (defScope bp):=⟨by kernel_rfl,by kernel_rfl,by kernel_rfl,by decide +kernel,rfl,by decide +kernel,by decide +kernel⟩
theorem gX {f:Addr} {fd:FuncData} (F:Fun K "_law_place_right" "_law_place_right" bp f fd) (hm:mg "_law_place_right" = some (.ref f)) (hb:Binds K fd ["row","place"] []) (T:Txt K mg) (d_multiplied_n:DefN P w K mg base "multiplied" 4 2 aU) (d_part_table_n:DefN P w K mg base "part_table" 5 1 aJ) (d_part_taken_out_n:DefN P w K mg base "part_taken_out" 5 2 bU) (d_sign_table_n:DefN P w K mg base "sign_table" 5 1 aA) (d_taken_out_n:DefN P w K mg base "taken_out" 5 2 dy) (d_without_n:DefN P w K mg base "without" 4 2 ff):DefN P w K mg base "_law_place_right" 6 2 bA:=
 aO ["row","place","number","rest","signs","parts","one"] ["row","place"] 5 6 2 7 rfl rfl rfl F hm hb bX (m:=fg) fun cdv A outer s H E hr=>(au (sE rfl bX.nd (by kernel_rfl) (by kernel_rfl) (by decide) (by kernel_rfl) (by kernel_rfl) (ah (fO gN (af 0 (by kernel_rfl) (Or.inl (by kernel_rfl))) (af 1 (by kernel_rfl) (Or.inl (by kernel_rfl)))) (ah (aw d_without_n (hr.mono (by decide)) (by unfold Gl; kernel_rfl) (ah (af 0 (by kernel_rfl) (Or.inl (by kernel_rfl))) (ah (af 1 (by kernel_rfl) (Or.inl (by kernel_rfl))) aj)) (ai (ai ao))) aj))) (au (sE rfl bX.nd (by kernel_rfl) (by kernel_rfl) (by decide) (by kernel_rfl) (by kernel_rfl) (ah (aw d_taken_out_n (hr.mono (by decide)) (by unfold Gl; kernel_rfl) (ah (aw d_sign_table_n (hr.mono (by decide)) (by unfold Gl; kernel_rfl) (ah (af 0 (by kernel_rfl) (Or.inl (by kernel_rfl))) aj) (ai ao)) (ah (af 2 (by kernel_rfl) (Or.inl (by kernel_rfl))) aj)) (ai (ai ao))) (ah (aw d_part_taken_out_n (hr.mono (by decide)) (by unfold Gl; kernel_rfl) (ah (aw d_part_table_n (hr.mono (by decide)) (by unfold Gl; kernel_rfl) (ah (af 0 (by kernel_rfl) (Or.inl (by kernel_rfl))) aj) (ai ao)) (ah (af 2 (by kernel_rfl) (Or.inl (by kernel_rfl))) aj)) (ai (ai ao))) aj))) (au (cQ (lg (uv (bK (ic hr) (af 4 (by kernel_rfl) (Or.inl (by kernel_rfl))) (aw d_sign_table_n (hr.mono (by decide)) (by unfold Gl; kernel_rfl) (ah (af 3 (by kernel_rfl) (Or.inl (by kernel_rfl))) aj) (ai ao))) (oJ (bK (ic hr) (af 5 (by kernel_rfl) (Or.inl (by kernel_rfl))) (aw d_part_table_n (hr.mono (by decide)) (by unfold Gl; kernel_rfl) (ah (af 3 (by kernel_rfl) (Or.inl (by kernel_rfl))) aj) (ai ao)))))) (ay (aS g6)) bY) (au (bg bX.nd (by kernel_rfl) (Or.inl (by kernel_rfl)) (uJ (qP (af 2 (by kernel_rfl) (Or.inl (by kernel_rfl))) az uF))) (au (iY (iD hr) az (af 6 (by kernel_rfl) (Or.inl (by kernel_rfl))) (aR lj az (af 2 (by kernel_rfl) (Or.inl (by kernel_rfl))))) (au (cQ (bK (ic hr) (uL (aw d_multiplied_n (hr.mono (by decide)) (by unfold Gl; kernel_rfl) (ah (af 4 (by kernel_rfl) (Or.inl (by kernel_rfl))) (ah (af 6 (by kernel_rfl) (Or.inl (by kernel_rfl))) aj)) (ai (ai ao)))) (aw d_sign_table_n (hr.mono (by decide)) (by unfold Gl; kernel_rfl) (ah (af 0 (by kernel_rfl) (Or.inl (by kernel_rfl))) aj) (ai ao))) (ay (aS g6)) bY) (au (iY (iD hr) az (af 6 (by kernel_rfl) (Or.inl (by kernel_rfl))) az) (ay (aS (kY (xU hr) (aw d_multiplied_n (hr.mono (by decide)) (by unfold Gl; kernel_rfl) (ah (af 5 (by kernel_rfl) (Or.inl (by kernel_rfl))) (ah (af 6 (by kernel_rfl) (Or.inl (by kernel_rfl))) aj)) (ai (ai ao))) (aw d_part_table_n (hr.mono (by decide)) (by unfold Gl; kernel_rfl) (ah (af 0 (by kernel_rfl) (Or.inl (by kernel_rfl))) aj) (ai ao))))))))))))
theorem cX:FnScope ["box","most","many","kind","base","found","k","given"] ["box","most"] (defScope dR):=⟨by kernel_rfl,by kernel_rfl,by kernel_rfl,by decide +kernel,rfl,by decide +kernel,by decide +kernel⟩
theorem r9 {f:Addr} {fd:FuncData} (F:Fun K "_law_row" "_law_row" dR f fd) (hm:mg "_law_row" = some (.ref f)) (hb:Binds K fd ["box","most"] []) (T:Txt K mg) (d__law_take:DefN P w K mg base "_law_take" 1 2 aM):DefN P w K mg base "_law_row" 2 2 dH:=
 aO ["box","most","many","kind","base","found","k","given"] ["box","most"] 1 2 2 8 rfl rfl rfl F hm hb cX (m:=lU) fun cdv A outer s H E hr=>(au (bg cX.nd (by kernel_rfl) (Or.inl (by kernel_rfl)) (aw d__law_take (hr.mono (by decide)) (by unfold Gl; kernel_rfl) (ah (af 0 (by kernel_rfl) (Or.inl (by kernel_rfl))) (ah (aR bH (af 1 (by kernel_rfl) (Or.inl (by kernel_rfl))) az) aj)) (ai (ai ao)))) (au (bg cX.nd (by kernel_rfl) (Or.inl (by kernel_rfl)) (aw d__law_take (hr.mono (by decide)) (by unfold Gl; kernel_rfl) (ah (af 0 (by kernel_rfl) (Or.inl (by kernel_rfl))) (ah az aj)) (ai (ai ao)))) (au (bg cX.nd (by kernel_rfl) (Or.inl (by kernel_rfl)) (aR bH az (aw d__law_take (hr.mono (by decide)) (by unfold Gl; kernel_rfl) (ah (af 0 (by kernel_rfl) (Or.inl (by kernel_rfl))) (ah az aj)) (ai (ai ao))))) (au (bg cX.nd (by kernel_rfl) (Or.inl (by kernel_rfl)) (oK aj)) (au (fU PassesOwn.never rfl (iC (by unfold Gl; kernel_rfl) T.b_range (ah (af 2 (by kernel_rfl) (Or.inl (by kernel_rfl))) aj)) (aZ cX.nd (by kernel_rfl) (Or.inl (by kernel_rfl))) (au (bg cX.nd (by kernel_rfl) (Or.inl (by kernel_rfl)) (aR bH az (aw d__law_take (hr.mono (by decide)) (by unfold Gl; kernel_rfl) (ah (af 0 (by kernel_rfl) (Or.inl (by kernel_rfl))) (ah az aj)) (ai (ai ao))))) (ay (bu (sN PySem.F.plainAttrs_list PySem.F.slot_list_append PySem.F.type_list_append nz (af 5 (by kernel_rfl) (Or.inl (by kernel_rfl))) (ah (fO gN (B1 (ah (af 7 (by kernel_rfl) (Or.inl (by kernel_rfl))) (ah (af 7 (by kernel_rfl) (Or.inl (by kernel_rfl))) (ah (af 4 (by kernel_rfl) (Or.inl (by kernel_rfl))) (ah (aR B7 az (af 6 (by kernel_rfl) (Or.inl (by kernel_rfl)))) (ah (aR bH (af 4 (by kernel_rfl) (Or.inl (by kernel_rfl))) (aR dz (af 6 (by kernel_rfl) (Or.inl (by kernel_rfl))) (af 7 (by kernel_rfl) (Or.inl (by kernel_rfl))))) (ah (aR bH (aR dz (aR B6 az az) (af 7 (by kernel_rfl) (Or.inl (by kernel_rfl)))) (af 4 (by kernel_rfl) (Or.inl (by kernel_rfl)))) aj))))))) (af 3 (by kernel_rfl) (Or.inl (by kernel_rfl)))) aj)))))) (ay (aS (ft gb (by unfold Gl; kernel_rfl) T.b_tuple dY (ah (af 5 (by kernel_rfl) (Or.inl (by kernel_rfl))) aj)))))))))
theorem tY:FnScope ["row","by"] ["row","by"] (defScope eM):=⟨by kernel_rfl,by kernel_rfl,by kernel_rfl,by decide +kernel,rfl,by decide +kernel,by decide +kernel⟩
theorem tZ {f:Addr} {fd:FuncData} (F:Fun K "grown" "grown" eM f fd) (hm:mg "grown" = some (.ref f)) (hb:Binds K fd ["row","by"] []) (T:Txt K mg) (d_need_number_from_n:DefN P w K mg base "need_number_from" 3 2 aP) (d_need_row_n:DefN P w K mg base "need_row" 3 1 aK):DefN P w K mg base "grown" 4 2 eN:=
 aO ["row","by"] ["row","by"] 3 4 2 2 rfl rfl rfl F hm hb tY (m:=nU) fun cdv A outer s H E hr=>(au (bu (aw d_need_row_n (hr.mono (by decide)) (by unfold Gl; kernel_rfl) (ah (af 0 (by kernel_rfl) (Or.inl (by kernel_rfl))) aj) (ai ao))) (au (bu (aw d_need_number_from_n (hr.mono (by decide)) (by unfold Gl; kernel_rfl) (ah az (ah (af 1 (by kernel_rfl) (Or.inr (Or.inl (by kernel_rfl)))) aj)) (ai (ai ao)))) (ay (aS (ft gb (by unfold Gl; kernel_rfl) T.b_tuple dY (ah (eX (N:=["number","by"]) (k:=1) (caps:=[1]) rfl (fun _ _ z=>z) (iN (by kernel_rfl) (by kernel_rfl) (by kernel_rfl) (by kernel_rfl) rfl (by kernel_rfl)) (gz (af 0 (by kernel_rfl) (Or.inl (by kernel_rfl)))) (fun _ _ _ _=>(aZ (show (["number","by"]:List Str).Nodup by decide +kernel) (by kernel_rfl) (Or.inl (by kernel_rfl)))) (fun _ _ _ _=>fq) (fun _ _ _ _=>(aR dz (af 0 (by kernel_rfl) (Or.inl (by kernel_rfl))) (af 1 (by kernel_rfl) (Or.inr (Or.inl (by kernel_rfl))))))) aj))))))
theorem se:FnScope ["one","other"] ["one","other"] (defScope dS):=⟨by kernel_rfl,by kernel_rfl,by kernel_rfl,by decide +kernel,rfl,by decide +kernel,by decide +kernel⟩
theorem sf {f:Addr} {fd:FuncData} (F:Fun K "joined" "joined" dS f fd) (hm:mg "joined" = some (.ref f)) (hb:Binds K fd ["one","other"] []) (T:Txt K mg) (d_need_row_n:DefN P w K mg base "need_row" 3 1 aK):DefN P w K mg base "joined" 4 2 fJ:=
 aO ["one","other"] ["one","other"] 3 4 2 2 rfl rfl rfl F hm hb se (m:=lV) fun cdv A outer s H E hr=>(au (bu (aw d_need_row_n (hr.mono (by decide)) (by unfold Gl; kernel_rfl) (ah (af 0 (by kernel_rfl) (Or.inl (by kernel_rfl))) aj) (ai ao))) (au (bu (aw d_need_row_n (hr.mono (by decide)) (by unfold Gl; kernel_rfl) (ah (af 1 (by kernel_rfl) (Or.inl (by kernel_rfl))) aj) (ai ao))) (au (cQ (bK uC (aR bH (aL cU (by unfold Gl; kernel_rfl) T.b_len cu (ah (af 0 (by kernel_rfl) (Or.inl (by kernel_rfl))) aj)) (aL cU (by unfold Gl; kernel_rfl) T.b_len cu (ah (af 1 (by kernel_rfl) (Or.inl (by kernel_rfl))) aj))) (xr T.c_LONGEST_ROW (by unfold Gl; kernel_rfl))) (ay eZ) bY) (ay (aS (aR bH (af 0 (by kernel_rfl) (Or.inl (by kernel_rfl))) (af 1 (by kernel_rfl) (Or.inl (by kernel_rfl)))))))))
theorem qc:FnScope ["thing","many"] ["thing","many"] (defScope di):=⟨by kernel_rfl,by kernel_rfl,by kernel_rfl,by decide +kernel,rfl,by decide +kernel,by decide +kernel⟩
theorem qf {f:Addr} {fd:FuncData} (F:Fun K "are_whole" "are_whole" di f fd) (hm:mg "are_whole" = some (.ref f)) (hb:Binds K fd ["thing","many"] []) (T:Txt K mg) (d_is_whole:DefN P w K mg base "is_whole" 1 1 bf):DefN P w K mg base "are_whole" 2 2 fh:=
 aO ["thing","many"] ["thing","many"] 1 2 2 2 rfl rfl rfl F hm hb qc (m:=kf) fun cdv A outer s H E hr=>(ay (aS (iT (aL lu (by unfold Gl; kernel_rfl) T.b_isinstance cW (ah (af 0 (by kernel_rfl) (Or.inl (by kernel_rfl))) (ah (qI (by unfold Gl; kernel_rfl) T.b_tuple dY) aj))) (iT (kY (oU hr) (aL cU (by unfold Gl; kernel_rfl) T.b_len cu (ah (af 0 (by kernel_rfl) (Or.inl (by kernel_rfl))) aj)) (af 1 (by kernel_rfl) (Or.inl (by kernel_rfl)))) (kZ (aL (sM rfl) (by unfold Gl; kernel_rfl) T.b_all pY (ah (eX (N:=["number"]) (k:=1) (caps:=[]) rfl (fun _ _ z=>z) (iN (by kernel_rfl) (by kernel_rfl) (by kernel_rfl) (by kernel_rfl) rfl (by kernel_rfl)) (gz (af 0 (by kernel_rfl) (Or.inl (by kernel_rfl)))) (fun _ _ _ _=>(aZ (show (["number"]:List Str).Nodup by decide +kernel) (by kernel_rfl) (Or.inl (by kernel_rfl)))) (fun _ _ _ _=>fq) (fun _ _ _ _=>(aw d_is_whole (hr.mono (by decide)) (by unfold Gl; kernel_rfl) (ah (af 0 (by kernel_rfl) (Or.inl (by kernel_rfl))) aj) (ai ao)))) aj)))))))
theorem sg:FnScope ["thing","row"] ["thing","row"] (defScope dU):=⟨by kernel_rfl,by kernel_rfl,by kernel_rfl,by decide +kernel,rfl,by decide +kernel,by decide +kernel⟩
theorem sh {f:Addr} {fd:FuncData} (F:Fun K "is_order" "is_order" dU f fd) (hm:mg "is_order" = some (.ref f)) (hb:Binds K fd ["thing","row"] []) (T:Txt K mg) (d_are_whole:DefN P w K mg base "are_whole" 2 2 fh):DefN P w K mg base "is_order" 3 2 fK:=
 aO ["thing","row"] ["thing","row"] 2 3 2 2 rfl rfl rfl F hm hb sg (m:=lW) fun cdv A outer s H E hr=>(ay (aS (iT (aw d_are_whole (hr.mono (by decide)) (by unfold Gl; kernel_rfl) (ah (af 0 (by kernel_rfl) (Or.inl (by kernel_rfl))) (ah (aL cU (by unfold Gl; kernel_rfl) T.b_len cu (ah (af 1 (by kernel_rfl) (Or.inl (by kernel_rfl))) aj)) aj)) (ai (ai ao))) (kZ (kY (oU hr) (aL (sY rfl) (by unfold Gl; kernel_rfl) T.b_sorted ja (ah (af 0 (by kernel_rfl) (Or.inl (by kernel_rfl))) aj)) (Cz rfl (by unfold Gl; kernel_rfl) T.b_list (by unfold Gl; kernel_rfl) T.b_range (ah (aL cU (by unfold Gl; kernel_rfl) T.b_len cu (ah (af 1 (by kernel_rfl) (Or.inl (by kernel_rfl))) aj)) aj)))))))
theorem t4:FnScope ["row","order"] ["row","order"] (defScope eO):=⟨by kernel_rfl,by kernel_rfl,by kernel_rfl,by decide +kernel,rfl,by decide +kernel,by decide +kernel⟩
theorem t8 {f:Addr} {fd:FuncData} (F:Fun K "mixed" "mixed" eO f fd) (hm:mg "mixed" = some (.ref f)) (hb:Binds K fd ["row","order"] []) (T:Txt K mg) (d_is_order:DefN P w K mg base "is_order" 3 2 fK) (d_need_row_n:DefN P w K mg base "need_row" 3 1 aK):DefN P w K mg base "mixed" 4 2 gk:=
 aO ["row","order"] ["row","order"] 3 4 2 2 rfl rfl rfl F hm hb t4 (m:=nV) fun cdv A outer s H E hr=>(au (bu (aw d_need_row_n (hr.mono (by decide)) (by unfold Gl; kernel_rfl) (ah (af 0 (by kernel_rfl) (Or.inr (Or.inl (by kernel_rfl)))) aj) (ai ao))) (au (cQ (iV (iU (aw d_is_order (hr.mono (by decide)) (by unfold Gl; kernel_rfl) (ah (af 1 (by kernel_rfl) (Or.inl (by kernel_rfl))) (ah (af 0 (by kernel_rfl) (Or.inr (Or.inl (by kernel_rfl)))) aj)) (ai (ai ao))))) (ay eZ) bY) (ay (aS (ft gb (by unfold Gl; kernel_rfl) T.b_tuple dY (ah (eX (N:=["place","row"]) (k:=1) (caps:=[0]) rfl (fun _ _ z=>z) (iN (by kernel_rfl) (by kernel_rfl) (by kernel_rfl) (by kernel_rfl) rfl (by kernel_rfl)) (gz (af 1 (by kernel_rfl) (Or.inl (by kernel_rfl)))) (fun _ _ _ _=>(aZ (show (["place","row"]:List Str).Nodup by decide +kernel) (by kernel_rfl) (Or.inl (by kernel_rfl)))) (fun _ _ _ _=>fq) (fun _ _ _ _=>(fO gN (af 1 (by kernel_rfl) (Or.inr (Or.inl (by kernel_rfl)))) (af 0 (by kernel_rfl) (Or.inl (by kernel_rfl)))))) aj))))))
theorem qg:FnScope ["table","by"] ["table","by"] (defScope dj):=⟨by kernel_rfl,by kernel_rfl,by kernel_rfl,by decide +kernel,rfl,by decide +kernel,by decide +kernel⟩
theorem qh {f:Addr} {fd:FuncData} (F:Fun K "shifted" "shifted" dj f fd) (hm:mg "shifted" = some (.ref f)) (hb:Binds K fd ["table","by"] []) (T:Txt K mg) (d_need_number_n:DefN P w K mg base "need_number" 2 1 aV) (d_need_table_n:DefN P w K mg base "need_table" 3 1 br):DefN P w K mg base "shifted" 4 2 cV:=
 aO ["table","by"] ["table","by"] 3 4 2 2 rfl rfl rfl F hm hb qg (m:=kg) fun cdv A outer s H E hr=>(au (bu (aw d_need_table_n (hr.mono (by decide)) (by unfold Gl; kernel_rfl) (ah (af 0 (by kernel_rfl) (Or.inl (by kernel_rfl))) aj) (ai ao))) (au (bu (aw d_need_number_n (hr.mono (by decide)) (by unfold Gl; kernel_rfl) (ah (af 1 (by kernel_rfl) (Or.inr (Or.inl (by kernel_rfl)))) aj) (ai ao))) (ay (aS (i4 (xT rfl) (by unfold Gl; kernel_rfl) T.b_dict jG (ah (eX (N:=["reached","ways","by"]) (k:=2) (caps:=[1]) rfl (fun _ _ z=>z) (iN (by kernel_rfl) (by kernel_rfl) (by kernel_rfl) (by kernel_rfl) rfl (by kernel_rfl)) (hZ (af 0 (by kernel_rfl) (Or.inl (by kernel_rfl)))) (fun _ _ _ _=>(iX rfl (bS (aZ (show (["reached","ways","by"]:List Str).Nodup by decide +kernel) (by kernel_rfl) (Or.inl (by kernel_rfl))) (bS (aZ (show (["reached","ways","by"]:List Str).Nodup by decide +kernel) (by kernel_rfl) (Or.inl (by kernel_rfl))) gx)))) (fun _ _ _ _=>fq) (fun _ _ _ _=>(iW (ah (aR bH (af 0 (by kernel_rfl) (Or.inl (by kernel_rfl))) (af 2 (by kernel_rfl) (Or.inr (Or.inl (by kernel_rfl))))) (ah (af 1 (by kernel_rfl) (Or.inl (by kernel_rfl))) aj))))) aj))))))
theorem fX:FnScope ["row","number"] ["row","number"] (defScope aY):=⟨by kernel_rfl,by kernel_rfl,by kernel_rfl,by decide +kernel,rfl,by decide +kernel,by decide +kernel⟩
theorem fY {f:Addr} {fd:FuncData} (F:Fun K "need_row_and_number" "need_row_and_number" aY f fd) (hm:mg "need_row_and_number" = some (.ref f)) (hb:Binds K fd ["row","number"] []) (T:Txt K mg) (d_need_number_n:DefN P w K mg base "need_number" 2 1 aV) (d_need_row_n:DefN P w K mg base "need_row" 3 1 aK):DefN P w K mg base "need_row_and_number" 4 2 bB:=
 aO ["row","number"] ["row","number"] 3 4 2 2 rfl rfl rfl F hm hb fX (m:=dW) fun cdv A outer s H E hr=>(au (bu (aw d_need_row_n (hr.mono (by decide)) (by unfold Gl; kernel_rfl) (ah (af 0 (by kernel_rfl) (Or.inl (by kernel_rfl))) aj) (ai ao))) (ay (bu (aw d_need_number_n (hr.mono (by decide)) (by unfold Gl; kernel_rfl) (ah (af 1 (by kernel_rfl) (Or.inl (by kernel_rfl))) aj) (ai ao)))))
theorem jH:FnScope ["row","middle"] ["row"] (defScope dk):=⟨by kernel_rfl,by kernel_rfl,by kernel_rfl,by decide +kernel,rfl,by decide +kernel,by decide +kernel⟩
theorem qj {f:Addr} {fd:FuncData} (F:Fun K "halves_of" "halves_of" dk f fd) (hm:mg "halves_of" = some (.ref f)) (hb:Binds K fd ["row"] []) (T:Txt K mg) :DefN P w K mg base "halves_of" 1 1 dX:=
 aO ["row","middle"] ["row"] 0 1 1 2 rfl rfl rfl F hm hb jH (m:=kh) fun cdv A outer s H E hr=>(au (bg jH.nd (by kernel_rfl) (Or.inl (by kernel_rfl)) (aR uB (aL cU (by unfold Gl; kernel_rfl) T.b_len cu (ah (af 0 (by kernel_rfl) (Or.inl (by kernel_rfl))) aj)) az)) (ay (aS (iW (ah (uD oS (af 0 (by kernel_rfl) (Or.inl (by kernel_rfl))) kH (kI (af 1 (by kernel_rfl) (Or.inl (by kernel_rfl))))) (ah (uD oS (af 0 (by kernel_rfl) (Or.inl (by kernel_rfl))) (kI (af 1 (by kernel_rfl) (Or.inl (by kernel_rfl)))) kH) aj))))))
theorem jZ:FnScope ["row"] ["row"] (defScope bQ):=⟨by kernel_rfl,by kernel_rfl,by kernel_rfl,by decide +kernel,rfl,by decide +kernel,by decide +kernel⟩
theorem j3 {f:Addr} {fd:FuncData} (F:Fun K "half_worths" "half_worths" bQ f fd) (hm:mg "half_worths" = some (.ref f)) (hb:Binds K fd ["row"] []) (T:Txt K mg) (d_halves_of:DefN P w K mg base "halves_of" 1 1 dX) (d_need_row_n:DefN P w K mg base "need_row" 3 1 aK) (d_table_of:DefN P w K mg base "table_of" 2 2 bT):DefN P w K mg base "half_worths" 4 1 cK:=
 aO ["row"] ["row"] 3 4 1 1 rfl rfl rfl F hm hb jZ (m:=gP) fun cdv A outer s H E hr=>(au (bu (aw d_need_row_n (hr.mono (by decide)) (by unfold Gl; kernel_rfl) (ah (af 0 (by kernel_rfl) (Or.inl (by kernel_rfl))) aj) (ai ao))) (ay (aS (ft gb (by unfold Gl; kernel_rfl) T.b_tuple dY (ah (eX (N:=["half"]) (k:=1) (caps:=[]) rfl (fun _ _ z=>z) (iN (by kernel_rfl) (by kernel_rfl) (by kernel_rfl) (by kernel_rfl) rfl (by kernel_rfl)) (gz (aw d_halves_of (hr.mono (by decide)) (by unfold Gl; kernel_rfl) (ah (af 0 (by kernel_rfl) (Or.inl (by kernel_rfl))) aj) (ai ao))) (fun _ _ _ _=>(aZ (show (["half"]:List Str).Nodup by decide +kernel) (by kernel_rfl) (Or.inl (by kernel_rfl)))) (fun _ _ _ _=>fq) (fun _ _ _ _=>(ft gb (by unfold Gl; kernel_rfl) T.b_tuple dY (ah (aL (sY rfl) (by unfold Gl; kernel_rfl) T.b_sorted ja (ah (aw d_table_of (hr.mono (by decide)) (by unfold Gl; kernel_rfl) (ah (af 0 (by kernel_rfl) (Or.inl (by kernel_rfl))) (ah (xA T.m_SIGNS (by unfold Gl; kernel_rfl)) aj)) (ai (ai ao))) aj)) aj)))) aj)))))
theorem dZ:FnScope ["row","number","worths","walked","i","j","both"] ["row","number"] (defScope fx):=⟨by kernel_rfl,by kernel_rfl,by kernel_rfl,by decide +kernel,rfl,by decide +kernel,by decide +kernel⟩
theorem wF {f:Addr} {fd:FuncData} (F:Fun K "walk" "walk" fx f fd) (hm:mg "walk" = some (.ref f)) (hb:Binds K fd ["row","number"] []) (T:Txt K mg) (d_half_worths_n:DefN P w K mg base "half_worths" 4 1 cK):DefN P w K mg base "walk" 5 2 gm:=
 aO ["row","number","worths","walked","i","j","both"] ["row","number"] 4 5 2 7 rfl rfl rfl F hm hb dZ (m:=rh) fun cdv A outer s H E hr=>(au (bg dZ.nd (by kernel_rfl) (Or.inl (by kernel_rfl)) (aw d_half_worths_n (hr.mono (by decide)) (by unfold Gl; kernel_rfl) (ah (af 0 (by kernel_rfl) (Or.inl (by kernel_rfl))) aj) (ai ao))) (au (bg dZ.nd (by kernel_rfl) (Or.inl (by kernel_rfl)) (oK aj)) (au (bg dZ.nd (by kernel_rfl) (Or.inl (by kernel_rfl)) az) (au (bg dZ.nd (by kernel_rfl) (Or.inl (by kernel_rfl)) (aR lj (aL cU (by unfold Gl; kernel_rfl) T.b_len cu (ah (fO gN (af 2 (by kernel_rfl) (Or.inl (by kernel_rfl))) az) aj)) az)) (au (xu PassesOwn.never (lg (sD (bK ny (af 4 (by kernel_rfl) (Or.inl (by kernel_rfl))) (aL cU (by unfold Gl; kernel_rfl) T.b_len cu (ah (fO gN (af 2 (by kernel_rfl) (Or.inl (by kernel_rfl))) az) aj))) (oI (bK qM (af 5 (by kernel_rfl) (Or.inl (by kernel_rfl))) az)))) (au (bg dZ.nd (by kernel_rfl) (Or.inl (by kernel_rfl)) (aR bH (fO gN (fO gN (af 2 (by kernel_rfl) (Or.inl (by kernel_rfl))) az) (af 4 (by kernel_rfl) (Or.inl (by kernel_rfl)))) (fO gN (fO gN (af 2 (by kernel_rfl) (Or.inl (by kernel_rfl))) az) (af 5 (by kernel_rfl) (Or.inl (by kernel_rfl)))))) (au (bu (sN PySem.F.plainAttrs_list PySem.F.slot_list_append PySem.F.type_list_append nz (af 3 (by kernel_rfl) (Or.inl (by kernel_rfl))) (ah (iW (ah (af 4 (by kernel_rfl) (Or.inl (by kernel_rfl))) (ah (af 5 (by kernel_rfl) (Or.inl (by kernel_rfl))) (ah (af 6 (by kernel_rfl) (Or.inl (by kernel_rfl))) aj)))) aj))) (ay (cQ (bK ny (af 6 (by kernel_rfl) (Or.inl (by kernel_rfl))) (af 1 (by kernel_rfl) (Or.inl (by kernel_rfl)))) (ay (bg dZ.nd (by kernel_rfl) (Or.inl (by kernel_rfl)) (aR bH (af 4 (by kernel_rfl) (Or.inl (by kernel_rfl))) az))) (ay (bg dZ.nd (by kernel_rfl) (Or.inl (by kernel_rfl)) (aR lj (af 5 (by kernel_rfl) (Or.inl (by kernel_rfl))) az)))))))) (ay (aS (af 3 (by kernel_rfl) (Or.inl (by kernel_rfl))))))))))
theorem ua:FnScope ["row","number"] ["row","number"] (defScope eP):=⟨by kernel_rfl,by kernel_rfl,by kernel_rfl,by decide +kernel,rfl,by decide +kernel,by decide +kernel⟩
theorem ub {f:Addr} {fd:FuncData} (F:Fun K "above" "above" eP f fd) (hm:mg "above" = some (.ref f)) (hb:Binds K fd ["row","number"] []) (T:Txt K mg) (d_need_row_and_number_n:DefN P w K mg base "need_row_and_number" 4 2 bB) (d_walk_n:DefN P w K mg base "walk" 5 2 gm):DefN P w K mg base "above" 6 2 gn:=
 aO ["row","number"] ["row","number"] 5 6 2 2 rfl rfl rfl F hm hb ua (m:=nW) fun cdv A outer s H E hr=>(au (bu (aw d_need_row_and_number_n (hr.mono (by decide)) (by unfold Gl; kernel_rfl) (ah (af 0 (by kernel_rfl) (Or.inl (by kernel_rfl))) (ah (af 1 (by kernel_rfl) (Or.inr (Or.inl (by kernel_rfl)))) aj)) (ai (ai ao)))) (ay (aS (wc (zS rfl hr) (by unfold Gl; kernel_rfl) T.b_min vw (ah (eX (N:=["i","j","both","number"]) (k:=3) (caps:=[1]) rfl (fun _ _ z=>z) (iN (by kernel_rfl) (by kernel_rfl) (by kernel_rfl) (by kernel_rfl) rfl (by kernel_rfl)) (Cy (aw d_walk_n (hr.mono (by decide)) (by unfold Gl; kernel_rfl) (ah (af 0 (by kernel_rfl) (Or.inl (by kernel_rfl))) (ah (af 1 (by kernel_rfl) (Or.inr (Or.inl (by kernel_rfl)))) aj)) (ai (ai ao)))) (fun _ _ _ _=>(iX rfl (bS (aZ (show (["i","j","both","number"]:List Str).Nodup by decide +kernel) (by kernel_rfl) (Or.inl (by kernel_rfl))) (bS (aZ (show (["i","j","both","number"]:List Str).Nodup by decide +kernel) (by kernel_rfl) (Or.inl (by kernel_rfl))) (bS (aZ (show (["i","j","both","number"]:List Str).Nodup by decide +kernel) (by kernel_rfl) (Or.inl (by kernel_rfl))) gx))))) (fun _ _ _ _=>(zE (bK qM (af 2 (by kernel_rfl) (Or.inl (by kernel_rfl))) (af 3 (by kernel_rfl) (Or.inr (Or.inl (by kernel_rfl))))))) (fun _ _ _ _=>(af 2 (by kernel_rfl) (Or.inl (by kernel_rfl))))) aj)))))
theorem kF:FnScope ["row"] ["row"] (defScope cj):=⟨by kernel_rfl,by kernel_rfl,by kernel_rfl,by decide +kernel,rfl,by decide +kernel,by decide +kernel⟩
theorem kG {f:Addr} {fd:FuncData} (F:Fun K "unevenness" "unevenness" cj f fd) (hm:mg "unevenness" = some (.ref f)) (hb:Binds K fd ["row"] []) (T:Txt K mg) (d_above_n:DefN P w K mg base "above" 6 2 gn):DefN P w K mg base "unevenness" 7 1 bV:=
 aO ["row"] ["row"] 6 7 1 1 rfl rfl rfl F hm hb kF (m:=iu) fun cdv A outer s H E hr=>(ay (aS (aw d_above_n (hr.mono (by decide)) (by unfold Gl; kernel_rfl) (ah (af 0 (by kernel_rfl) (Or.inl (by kernel_rfl))) (ah az aj)) (ai (ai ao)))))
theorem jc:FnScope ["script","k","box","one","other","both","by","signs"] ["script"] (defScope iw):=⟨by kernel_rfl,by kernel_rfl,by kernel_rfl,by decide +kernel,rfl,by decide +kernel,by decide +kernel⟩
end
/-! what the top has written -/
theorem CV {K:PySem.W.Frag}
  (gt:PySem.W.specialIn K (.builtin "object.__class__") "__get__" = some (some (.builtin "getset_descriptor.__get__")))
  (tk:PySem.W.takesIn K (.builtin "object.__class__")=some true):Cls K raisedX askedX isaX:=
 ⟨gt,tk,fun c hc=>by simp [raisedX] at hc,
  fun c hc k hk=>by simp [raisedX,askedX] at hc hk⟩
theorem us1 {p:List Value→Prop} (h:∀ a,p [a]) (us:List Value) (e:us.length=1):p us:=by
 rcases us with _ | ⟨a,_ | ⟨b,r⟩⟩
 · simp at e
 · exact h a
 · simp at e
theorem us2 {p:List Value→Prop} (h:∀ a b,p [a,b]) (us:List Value) (e:us.length=2):p us:=by
 rcases us with _ | ⟨a,_ | ⟨b,_ | ⟨c,r⟩⟩⟩
 · simp at e
 · simp at e
 · exact h a b
 · simp at e
theorem us3 {p:List Value→Prop} (h:∀ a b c,p [a,b,c]) (us:List Value) (e:us.length=3):p us:=by
 rcases us with _ | ⟨a,_ | ⟨b,_ | ⟨c,_ | ⟨d,r⟩⟩⟩⟩
 · simp at e
 · simp at e
 · simp at e
 · exact h a b c
 · simp at e
theorem all_mk {P:Program} {w:World} {K:PySem.W.Frag} {h:Heap} {mg:Str→Option Value} {fa:Addr} (X:K.In h) (G:h.Ns mainGlobals mg) (hfa:mg "law" = some (.ref fa))  {f0:Addr} {od0 an0:Option Addr} {sl0:Array (Option Value)} {oc0 kV0 dc0 pm0 cd0 ct0:Value} {f1:Addr} {od1 an1:Option Addr} {sl1:Array (Option Value)} {oc1 kV1 dc1 pm1 cd1 ct1:Value} {f2:Addr} {od2 an2:Option Addr} {sl2:Array (Option Value)} {oc2 kV2 dc2 pm2 cd2 ct2:Value} {f3:Addr} {od3 an3:Option Addr} {sl3:Array (Option Value)} {oc3 kV3 dc3 pm3 cd3 ct3:Value} {f4:Addr} {od4 an4:Option Addr} {sl4:Array (Option Value)} {oc4 kV4 dc4 pm4 cd4 ct4:Value} {f5:Addr} {od5 an5:Option Addr} {sl5:Array (Option Value)} {oc5 kV5 dc5 pm5 cd5 ct5:Value} {f6:Addr} {od6 an6:Option Addr} {sl6:Array (Option Value)} {oc6 kV6 dc6 pm6 cd6 ct6:Value} {f7:Addr} {od7 an7:Option Addr} {sl7:Array (Option Value)} {oc7 kV7 dc7 pm7 cd7 ct7:Value} {f8:Addr} {od8 an8:Option Addr} {sl8:Array (Option Value)} {oc8 kV8 dc8 pm8 cd8 ct8:Value} {f9:Addr} {od9 an9:Option Addr} {sl9:Array (Option Value)} {oc9 kV9 dc9 pm9 cd9 ct9:Value} {f10:Addr} {od10 an10:Option Addr} {sl10:Array (Option Value)} {oc10 kV10 dc10 pm10 cd10 ct10:Value} {f11:Addr} {od11 an11:Option Addr} {sl11:Array (Option Value)} {oc11 kV11 dc11 pm11 cd11 ct11:Value} {f12:Addr} {od12 an12:Option Addr} {sl12:Array (Option Value)} {oc12 kV12 dc12 pm12 cd12 ct12:Value} {f13:Addr} {od13 an13:Option Addr} {sl13:Array (Option Value)} {oc13 kV13 dc13 pm13 cd13 ct13:Value} {f14:Addr} {od14 an14:Option Addr} {sl14:Array (Option Value)} {oc14 kV14 dc14 pm14 cd14 ct14:Value} {f15:Addr} {od15 an15:Option Addr} {sl15:Array (Option Value)} {oc15 kV15 dc15 pm15 cd15 ct15:Value} {f16:Addr} {od16 an16:Option Addr} {sl16:Array (Option Value)} {oc16 kV16 dc16 pm16 cd16 ct16:Value} {f17:Addr} {od17 an17:Option Addr} {sl17:Array (Option Value)} {oc17 kV17 dc17 pm17 cd17 ct17:Value} {f18:Addr} {od18 an18:Option Addr} {sl18:Array (Option Value)} {oc18 kV18 dc18 pm18 cd18 ct18:Value} {f19:Addr} {od19 an19:Option Addr} {sl19:Array (Option Value)} {oc19 kV19 dc19 pm19 cd19 ct19:Value} {f20:Addr} {od20 an20:Option Addr} {sl20:Array (Option Value)} {oc20 kV20 dc20 pm20 cd20 ct20:Value} {f21:Addr} {od21 an21:Option Addr} {sl21:Array (Option Value)} {oc21 kV21 dc21 pm21 cd21 ct21:Value} {f22:Addr} {od22 an22:Option Addr} {sl22:Array (Option Value)} {oc22 kV22 dc22 pm22 cd22 ct22:Value} {f23:Addr} {od23 an23:Option Addr} {sl23:Array (Option Value)} {oc23 kV23 dc23 pm23 cd23 ct23:Value} {f24:Addr} {od24 an24:Option Addr} {sl24:Array (Option Value)} {oc24 kV24 dc24 pm24 cd24 ct24:Value} {f25:Addr} {od25 an25:Option Addr} {sl25:Array (Option Value)} {oc25 kV25 dc25 pm25 cd25 ct25:Value} {f26:Addr} {od26 an26:Option Addr} {sl26:Array (Option Value)} {oc26 kV26 dc26 pm26 cd26 ct26:Value} {f27:Addr} {od27 an27:Option Addr} {sl27:Array (Option Value)} {oc27 kV27 dc27 pm27 cd27 ct27:Value} {f28:Addr} {od28 an28:Option Addr} {sl28:Array (Option Value)} {oc28 kV28 dc28 pm28 cd28 ct28:Value} {f29:Addr} {od29 an29:Option Addr} {sl29:Array (Option Value)} {oc29 kV29 dc29 pm29 cd29 ct29:Value} {f30:Addr} {od30 an30:Option Addr} {sl30:Array (Option Value)} {oc30 kV30 dc30 pm30 cd30 ct30:Value} {f31:Addr} {od31 an31:Option Addr} {sl31:Array (Option Value)} {oc31 kV31 dc31 pm31 cd31 ct31:Value} {f32:Addr} {od32 an32:Option Addr} {sl32:Array (Option Value)} {oc32 kV32 dc32 pm32 cd32 ct32:Value} {f33:Addr} {od33 an33:Option Addr} {sl33:Array (Option Value)} {oc33 kV33 dc33 pm33 cd33 ct33:Value} {f34:Addr} {od34 an34:Option Addr} {sl34:Array (Option Value)} {oc34 kV34 dc34 pm34 cd34 ct34:Value} {f35:Addr} {od35 an35:Option Addr} {sl35:Array (Option Value)} {oc35 kV35 dc35 pm35 cd35 ct35:Value} {t_LONGEST_ROW:Tok} {t_LONGEST_TABLED:Tok} {A_PARTS:Addr} {od_PARTS:Option Addr} {n_PARTS:Nat} {sl_PARTS:Array (Option Value)} {u0_PARTS:Tok} {u1_PARTS:Tok} {u2_PARTS:Tok} {A_SIGNS:Addr} {od_SIGNS:Option Addr} {n_SIGNS:Nat} {sl_SIGNS:Array (Option Value)} {u0_SIGNS:Tok} {u1_SIGNS:Tok}
  (a0:PySem.W.nsIn K mainGlobals "_law_box" = some (some (.ref f0))) (l0:K.lookup f0=some ⟨oc0,od0,.func (PySem.W.fnOf "_law_box" "_law_box" (defArgs dM) (defBody dM) (defScope dM) .none kV0 dc0 pm0 an0 cd0 ct0),sl0⟩) (c0:PySem.W.codeIn K cd0 "_law_box" = true) (k0:PySem.W.keepIn K (.ref f0)=true)
  (a1:PySem.W.nsIn K mainGlobals "_law_take" = some (some (.ref f1))) (l1:K.lookup f1=some ⟨oc1,od1,.func (PySem.W.fnOf "_law_take" "_law_take" (defArgs de) (defBody de) (defScope de) .none kV1 dc1 pm1 an1 cd1 ct1),sl1⟩) (c1:PySem.W.codeIn K cd1 "_law_take" = true) (k1:PySem.W.keepIn K (.ref f1)=true)
  (a2:PySem.W.nsIn K mainGlobals "_law_order" = some (some (.ref f2))) (l2:K.lookup f2=some ⟨oc2,od2,.func (PySem.W.fnOf "_law_order" "_law_order" (defArgs cL) (defBody cL) (defScope cL) .none kV2 dc2 pm2 an2 cd2 ct2),sl2⟩) (c2:PySem.W.codeIn K cd2 "_law_order" = true) (k2:PySem.W.keepIn K (.ref f2)=true)
  (a3:PySem.W.nsIn K mainGlobals "is_whole" = some (some (.ref f3))) (l3:K.lookup f3=some ⟨oc3,od3,.func (PySem.W.fnOf "is_whole" "is_whole" (defArgs dN) (defBody dN) (defScope dN) .none kV3 dc3 pm3 an3 cd3 ct3),sl3⟩) (c3:PySem.W.codeIn K cd3 "is_whole" = true) (k3:PySem.W.keepIn K (.ref f3)=true)
  (a4:PySem.W.nsIn K mainGlobals "is_table" = some (some (.ref f4))) (l4:K.lookup f4=some ⟨oc4,od4,.func (PySem.W.fnOf "is_table" "is_table" (defArgs dP) (defBody dP) (defScope dP) .none kV4 dc4 pm4 an4 cd4 ct4),sl4⟩) (c4:PySem.W.codeIn K cd4 "is_table" = true) (k4:PySem.W.keepIn K (.ref f4)=true)
  (a5:PySem.W.nsIn K mainGlobals "need_table" = some (some (.ref f5))) (l5:K.lookup f5=some ⟨oc5,od5,.func (PySem.W.fnOf "need_table" "need_table" (defArgs bZ) (defBody bZ) (defScope bZ) .none kV5 dc5 pm5 an5 cd5 ct5),sl5⟩) (c5:PySem.W.codeIn K cd5 "need_table" = true) (k5:PySem.W.keepIn K (.ref f5)=true)
  (a6:PySem.W.nsIn K mainGlobals "multiplied" = some (some (.ref f6))) (l6:K.lookup f6=some ⟨oc6,od6,.func (PySem.W.fnOf "multiplied" "multiplied" (defArgs cc) (defBody cc) (defScope cc) .none kV6 dc6 pm6 an6 cd6 ct6),sl6⟩) (c6:PySem.W.codeIn K cd6 "multiplied" = true) (k6:PySem.W.keepIn K (.ref f6)=true)
  (a7:PySem.W.nsIn K mainGlobals "is_row" = some (some (.ref f7))) (l7:K.lookup f7=some ⟨oc7,od7,.func (PySem.W.fnOf "is_row" "is_row" (defArgs fu) (defBody fu) (defScope fu) .none kV7 dc7 pm7 an7 cd7 ct7),sl7⟩) (c7:PySem.W.codeIn K cd7 "is_row" = true) (k7:PySem.W.keepIn K (.ref f7)=true)
  (a8:PySem.W.nsIn K mainGlobals "need_row" = some (some (.ref f8))) (l8:K.lookup f8=some ⟨oc8,od8,.func (PySem.W.fnOf "need_row" "need_row" (defArgs cM) (defBody cM) (defScope cM) .none kV8 dc8 pm8 an8 cd8 ct8),sl8⟩) (c8:PySem.W.codeIn K cd8 "need_row" = true) (k8:PySem.W.keepIn K (.ref f8)=true)
  (a9:PySem.W.nsIn K mainGlobals "need_few" = some (some (.ref f9))) (l9:K.lookup f9=some ⟨oc9,od9,.func (PySem.W.fnOf "need_few" "need_few" (defArgs cN) (defBody cN) (defScope cN) .none kV9 dc9 pm9 an9 cd9 ct9),sl9⟩) (c9:PySem.W.codeIn K cd9 "need_few" = true) (k9:PySem.W.keepIn K (.ref f9)=true)
  (a10:PySem.W.nsIn K mainGlobals "stepped" = some (some (.ref f10))) (l10:K.lookup f10=some ⟨oc10,od10,.func (PySem.W.fnOf "stepped" "stepped" (defArgs eK) (defBody eK) (defScope eK) .none kV10 dc10 pm10 an10 cd10 ct10),sl10⟩) (c10:PySem.W.codeIn K cd10 "stepped" = true) (k10:PySem.W.keepIn K (.ref f10)=true)
  (a11:PySem.W.nsIn K mainGlobals "table_of" = some (some (.ref f11))) (l11:K.lookup f11=some ⟨oc11,od11,.func (PySem.W.fnOf "table_of" "table_of" (defArgs dQ) (defBody dQ) (defScope dQ) .none kV11 dc11 pm11 an11 cd11 ct11),sl11⟩) (c11:PySem.W.codeIn K cd11 "table_of" = true) (k11:PySem.W.keepIn K (.ref f11)=true)
  (a12:PySem.W.nsIn K mainGlobals "part_table" = some (some (.ref f12))) (l12:K.lookup f12=some ⟨oc12,od12,.func (PySem.W.fnOf "part_table" "part_table" (defArgs cf) (defBody cf) (defScope cf) .none kV12 dc12 pm12 an12 cd12 ct12),sl12⟩) (c12:PySem.W.codeIn K cd12 "part_table" = true) (k12:PySem.W.keepIn K (.ref f12)=true)
  (a13:PySem.W.nsIn K mainGlobals "divided" = some (some (.ref f13))) (l13:K.lookup f13=some ⟨oc13,od13,.func (PySem.W.fnOf "divided" "divided" (defArgs eL) (defBody eL) (defScope eL) .none kV13 dc13 pm13 an13 cd13 ct13),sl13⟩) (c13:PySem.W.codeIn K cd13 "divided" = true) (k13:PySem.W.keepIn K (.ref f13)=true)
  (a14:PySem.W.nsIn K mainGlobals "need_number" = some (some (.ref f14))) (l14:K.lookup f14=some ⟨oc14,od14,.func (PySem.W.fnOf "need_number" "need_number" (defArgs bP) (defBody bP) (defScope bP) .none kV14 dc14 pm14 an14 cd14 ct14),sl14⟩) (c14:PySem.W.codeIn K cd14 "need_number" = true) (k14:PySem.W.keepIn K (.ref f14)=true)
  (a15:PySem.W.nsIn K mainGlobals "need_number_from" = some (some (.ref f15))) (l15:K.lookup f15=some ⟨oc15,od15,.func (PySem.W.fnOf "need_number_from" "need_number_from" (defArgs bo) (defBody bo) (defScope bo) .none kV15 dc15 pm15 an15 cd15 ct15),sl15⟩) (c15:PySem.W.codeIn K cd15 "need_number_from" = true) (k15:PySem.W.keepIn K (.ref f15)=true)
  (a16:PySem.W.nsIn K mainGlobals "need_table_and_number" = some (some (.ref f16))) (l16:K.lookup f16=some ⟨oc16,od16,.func (PySem.W.fnOf "need_table_and_number" "need_table_and_number" (defArgs aT) (defBody aT) (defScope aT) .none kV16 dc16 pm16 an16 cd16 ct16),sl16⟩) (c16:PySem.W.codeIn K cd16 "need_table_and_number" = true) (k16:PySem.W.keepIn K (.ref f16)=true)
  (a17:PySem.W.nsIn K mainGlobals "part_taken_out" = some (some (.ref f17))) (l17:K.lookup f17=some ⟨oc17,od17,.func (PySem.W.fnOf "part_taken_out" "part_taken_out" (defArgs bE) (defBody bE) (defScope bE) .none kV17 dc17 pm17 an17 cd17 ct17),sl17⟩) (c17:PySem.W.codeIn K cd17 "part_taken_out" = true) (k17:PySem.W.keepIn K (.ref f17)=true)
  (a18:PySem.W.nsIn K mainGlobals "sign_table" = some (some (.ref f18))) (l18:K.lookup f18=some ⟨oc18,od18,.func (PySem.W.fnOf "sign_table" "sign_table" (defArgs cg) (defBody cg) (defScope cg) .none kV18 dc18 pm18 an18 cd18 ct18),sl18⟩) (c18:PySem.W.codeIn K cd18 "sign_table" = true) (k18:PySem.W.keepIn K (.ref f18)=true)
  (a19:PySem.W.nsIn K mainGlobals "taken_out" = some (some (.ref f19))) (l19:K.lookup f19=some ⟨oc19,od19,.func (PySem.W.fnOf "taken_out" "taken_out" (defArgs cx) (defBody cx) (defScope cx) .none kV19 dc19 pm19 an19 cd19 ct19),sl19⟩) (c19:PySem.W.codeIn K cd19 "taken_out" = true) (k19:PySem.W.keepIn K (.ref f19)=true)
  (a20:PySem.W.nsIn K mainGlobals "without" = some (some (.ref f20))) (l20:K.lookup f20=some ⟨oc20,od20,.func (PySem.W.fnOf "without" "without" (defArgs dh) (defBody dh) (defScope dh) .none kV20 dc20 pm20 an20 cd20 ct20),sl20⟩) (c20:PySem.W.codeIn K cd20 "without" = true) (k20:PySem.W.keepIn K (.ref f20)=true)
  (a21:PySem.W.nsIn K mainGlobals "_law_place_right" = some (some (.ref f21))) (l21:K.lookup f21=some ⟨oc21,od21,.func (PySem.W.fnOf "_law_place_right" "_law_place_right" (defArgs bp) (defBody bp) (defScope bp) .none kV21 dc21 pm21 an21 cd21 ct21),sl21⟩) (c21:PySem.W.codeIn K cd21 "_law_place_right" = true) (k21:PySem.W.keepIn K (.ref f21)=true)
  (a22:PySem.W.nsIn K mainGlobals "_law_row" = some (some (.ref f22))) (l22:K.lookup f22=some ⟨oc22,od22,.func (PySem.W.fnOf "_law_row" "_law_row" (defArgs dR) (defBody dR) (defScope dR) .none kV22 dc22 pm22 an22 cd22 ct22),sl22⟩) (c22:PySem.W.codeIn K cd22 "_law_row" = true) (k22:PySem.W.keepIn K (.ref f22)=true)
  (a23:PySem.W.nsIn K mainGlobals "grown" = some (some (.ref f23))) (l23:K.lookup f23=some ⟨oc23,od23,.func (PySem.W.fnOf "grown" "grown" (defArgs eM) (defBody eM) (defScope eM) .none kV23 dc23 pm23 an23 cd23 ct23),sl23⟩) (c23:PySem.W.codeIn K cd23 "grown" = true) (k23:PySem.W.keepIn K (.ref f23)=true)
  (a24:PySem.W.nsIn K mainGlobals "joined" = some (some (.ref f24))) (l24:K.lookup f24=some ⟨oc24,od24,.func (PySem.W.fnOf "joined" "joined" (defArgs dS) (defBody dS) (defScope dS) .none kV24 dc24 pm24 an24 cd24 ct24),sl24⟩) (c24:PySem.W.codeIn K cd24 "joined" = true) (k24:PySem.W.keepIn K (.ref f24)=true)
  (a25:PySem.W.nsIn K mainGlobals "are_whole" = some (some (.ref f25))) (l25:K.lookup f25=some ⟨oc25,od25,.func (PySem.W.fnOf "are_whole" "are_whole" (defArgs di) (defBody di) (defScope di) .none kV25 dc25 pm25 an25 cd25 ct25),sl25⟩) (c25:PySem.W.codeIn K cd25 "are_whole" = true) (k25:PySem.W.keepIn K (.ref f25)=true)
  (a26:PySem.W.nsIn K mainGlobals "is_order" = some (some (.ref f26))) (l26:K.lookup f26=some ⟨oc26,od26,.func (PySem.W.fnOf "is_order" "is_order" (defArgs dU) (defBody dU) (defScope dU) .none kV26 dc26 pm26 an26 cd26 ct26),sl26⟩) (c26:PySem.W.codeIn K cd26 "is_order" = true) (k26:PySem.W.keepIn K (.ref f26)=true)
  (a27:PySem.W.nsIn K mainGlobals "mixed" = some (some (.ref f27))) (l27:K.lookup f27=some ⟨oc27,od27,.func (PySem.W.fnOf "mixed" "mixed" (defArgs eO) (defBody eO) (defScope eO) .none kV27 dc27 pm27 an27 cd27 ct27),sl27⟩) (c27:PySem.W.codeIn K cd27 "mixed" = true) (k27:PySem.W.keepIn K (.ref f27)=true)
  (a28:PySem.W.nsIn K mainGlobals "shifted" = some (some (.ref f28))) (l28:K.lookup f28=some ⟨oc28,od28,.func (PySem.W.fnOf "shifted" "shifted" (defArgs dj) (defBody dj) (defScope dj) .none kV28 dc28 pm28 an28 cd28 ct28),sl28⟩) (c28:PySem.W.codeIn K cd28 "shifted" = true) (k28:PySem.W.keepIn K (.ref f28)=true)
  (a29:PySem.W.nsIn K mainGlobals "need_row_and_number" = some (some (.ref f29))) (l29:K.lookup f29=some ⟨oc29,od29,.func (PySem.W.fnOf "need_row_and_number" "need_row_and_number" (defArgs aY) (defBody aY) (defScope aY) .none kV29 dc29 pm29 an29 cd29 ct29),sl29⟩) (c29:PySem.W.codeIn K cd29 "need_row_and_number" = true) (k29:PySem.W.keepIn K (.ref f29)=true)
  (a30:PySem.W.nsIn K mainGlobals "halves_of" = some (some (.ref f30))) (l30:K.lookup f30=some ⟨oc30,od30,.func (PySem.W.fnOf "halves_of" "halves_of" (defArgs dk) (defBody dk) (defScope dk) .none kV30 dc30 pm30 an30 cd30 ct30),sl30⟩) (c30:PySem.W.codeIn K cd30 "halves_of" = true) (k30:PySem.W.keepIn K (.ref f30)=true)
  (a31:PySem.W.nsIn K mainGlobals "half_worths" = some (some (.ref f31))) (l31:K.lookup f31=some ⟨oc31,od31,.func (PySem.W.fnOf "half_worths" "half_worths" (defArgs bQ) (defBody bQ) (defScope bQ) .none kV31 dc31 pm31 an31 cd31 ct31),sl31⟩) (c31:PySem.W.codeIn K cd31 "half_worths" = true) (k31:PySem.W.keepIn K (.ref f31)=true)
  (a32:PySem.W.nsIn K mainGlobals "walk" = some (some (.ref f32))) (l32:K.lookup f32=some ⟨oc32,od32,.func (PySem.W.fnOf "walk" "walk" (defArgs fx) (defBody fx) (defScope fx) .none kV32 dc32 pm32 an32 cd32 ct32),sl32⟩) (c32:PySem.W.codeIn K cd32 "walk" = true) (k32:PySem.W.keepIn K (.ref f32)=true)
  (a33:PySem.W.nsIn K mainGlobals "above" = some (some (.ref f33))) (l33:K.lookup f33=some ⟨oc33,od33,.func (PySem.W.fnOf "above" "above" (defArgs eP) (defBody eP) (defScope eP) .none kV33 dc33 pm33 an33 cd33 ct33),sl33⟩) (c33:PySem.W.codeIn K cd33 "above" = true) (k33:PySem.W.keepIn K (.ref f33)=true)
  (a34:PySem.W.nsIn K mainGlobals "unevenness" = some (some (.ref f34))) (l34:K.lookup f34=some ⟨oc34,od34,.func (PySem.W.fnOf "unevenness" "unevenness" (defArgs cj) (defBody cj) (defScope cj) .none kV34 dc34 pm34 an34 cd34 ct34),sl34⟩) (c34:PySem.W.codeIn K cd34 "unevenness" = true) (k34:PySem.W.keepIn K (.ref f34)=true)
  (a35:PySem.W.nsIn K mainGlobals "law" = some (some (.ref f35))) (l35:K.lookup f35=some ⟨oc35,od35,.func (PySem.W.fnOf "law" "law" (defArgs iw) (defBody iw) (defScope iw) .none kV35 dc35 pm35 an35 cd35 ct35),sl35⟩) (c35:PySem.W.codeIn K cd35 "law" = true) (k35:PySem.W.keepIn K (.ref f35)=true)
  (z_all:PySem.W.nsIn K mainGlobals "all" = some none)
  (z_bool:PySem.W.nsIn K mainGlobals "bool" = some none)
  (z_dict:PySem.W.nsIn K mainGlobals "dict" = some none)
  (z_divmod:PySem.W.nsIn K mainGlobals "divmod" = some none)
  (z_int:PySem.W.nsIn K mainGlobals "int" = some none)
  (z_isinstance:PySem.W.nsIn K mainGlobals "isinstance" = some none)
  (z_len:PySem.W.nsIn K mainGlobals "len" = some none)
  (z_list:PySem.W.nsIn K mainGlobals "list" = some none)
  (z_max:PySem.W.nsIn K mainGlobals "max" = some none)
  (z_min:PySem.W.nsIn K mainGlobals "min" = some none)
  (z_range:PySem.W.nsIn K mainGlobals "range" = some none)
  (z_sorted:PySem.W.nsIn K mainGlobals "sorted" = some none)
  (z_tuple:PySem.W.nsIn K mainGlobals "tuple" = some none)
  (z_LONGEST_ROW:PySem.W.nsIn K mainGlobals "LONGEST_ROW" = some (some (.int 16 t_LONGEST_ROW)))
  (z_LONGEST_TABLED:PySem.W.nsIn K mainGlobals "LONGEST_TABLED" = some (some (.int 10 t_LONGEST_TABLED)))
  (zt_PARTS:PySem.W.nsIn K mainGlobals "PARTS" = some (some (.ref A_PARTS))) (yt_PARTS:K.lookup A_PARTS=some ⟨.type "tuple",od_PARTS,.seq #[.int (-1) u0_PARTS,.int (0) u1_PARTS,.int (1) u2_PARTS] n_PARTS,sl_PARTS⟩)
  (zt_SIGNS:PySem.W.nsIn K mainGlobals "SIGNS" = some (some (.ref A_SIGNS))) (yt_SIGNS:K.lookup A_SIGNS=some ⟨.type "tuple",od_SIGNS,.seq #[.int (-1) u0_SIGNS,.int (1) u1_SIGNS] n_SIGNS,sl_SIGNS⟩)
  (gt:PySem.W.specialIn K (.builtin "object.__class__") "__get__" = some (some (.builtin "getset_descriptor.__get__")))
  (tk:PySem.W.takesIn K (.builtin "object.__class__")=some true):
  ∃ fd:FuncData,(∀ (s:Shared) (v:Value),BindsTo s fd ⟨[v],[]⟩ [("script",v)])∧∀ base:Heap,K.In base→base.Ns mainGlobals mg→FnOk P w K mg base (CX1 P w) 8 fa fd ["script"] (spN K 1 uV):=by
 have e:=hfa.symm.trans (PySem.W.mg_of X G a35)
 cases e
 have T:Txt K mg:=⟨CV gt tk,PySem.W.mg_none_of X G z_all,PySem.W.mg_none_of X G z_bool,PySem.W.mg_none_of X G z_dict,PySem.W.mg_none_of X G z_divmod,PySem.W.mg_none_of X G z_int,PySem.W.mg_none_of X G z_isinstance,PySem.W.mg_none_of X G z_len,PySem.W.mg_none_of X G z_list,PySem.W.mg_none_of X G z_max,PySem.W.mg_none_of X G z_min,PySem.W.mg_none_of X G z_range,PySem.W.mg_none_of X G z_sorted,PySem.W.mg_none_of X G z_tuple,⟨_,PySem.W.mg_of X G z_LONGEST_ROW⟩,⟨_,PySem.W.mg_of X G z_LONGEST_TABLED⟩,zM X G zt_PARTS yt_PARTS,zL X G zt_SIGNS yt_SIGNS⟩
 have F0:=ba (st:=dM) l0 c0 k0
 have b0:=F0.binds (ps:=["script","k"]) fun _ _ _ _ _ _=>us2 fun _ _=>rfl
 have F1:=ba (st:=de) l1 c1 k1
 have b1:=F1.binds (ps:=["box","many"]) fun _ _ _ _ _ _=>us2 fun _ _=>rfl
 have F2:=ba (st:=cL) l2 c2 k2
 have b2:=F2.binds (ps:=["box","many"]) fun _ _ _ _ _ _=>us2 fun _ _=>rfl
 have F3:=ba (st:=dN) l3 c3 k3
 have b3:=F3.binds (ps:=["thing"]) fun _ _ _ _ _ _=>us1 fun _=>rfl
 have F4:=ba (st:=dP) l4 c4 k4
 have b4:=F4.binds (ps:=["thing"]) fun _ _ _ _ _ _=>us1 fun _=>rfl
 have F5:=ba (st:=bZ) l5 c5 k5
 have b5:=F5.binds (ps:=["thing"]) fun _ _ _ _ _ _=>us1 fun _=>rfl
 have F6:=ba (st:=cc) l6 c6 k6
 have b6:=F6.binds (ps:=["one","other"]) fun _ _ _ _ _ _=>us2 fun _ _=>rfl
 have F7:=ba (st:=fu) l7 c7 k7
 have b7:=F7.binds (ps:=["thing"]) fun _ _ _ _ _ _=>us1 fun _=>rfl
 have F8:=ba (st:=cM) l8 c8 k8
 have b8:=F8.binds (ps:=["thing"]) fun _ _ _ _ _ _=>us1 fun _=>rfl
 have F9:=ba (st:=cN) l9 c9 k9
 have b9:=F9.binds (ps:=["row"]) fun _ _ _ _ _ _=>us1 fun _=>rfl
 have F10:=ba (st:=eK) l10 c10 k10
 have b10:=F10.binds (ps:=["table","step","choices"]) fun _ _ _ _ _ _=>us3 fun _ _ _=>rfl
 have F11:=ba (st:=dQ) l11 c11 k11
 have b11:=F11.binds (ps:=["row","choices"]) fun _ _ _ _ _ _=>us2 fun _ _=>rfl
 have F12:=ba (st:=cf) l12 c12 k12
 have b12:=F12.binds (ps:=["row"]) fun _ _ _ _ _ _=>us1 fun _=>rfl
 have F13:=ba (st:=eL) l13 c13 k13
 have b13:=F13.binds (ps:=["table","number","further"]) fun _ _ _ _ _ _=>us3 fun _ _ _=>rfl
 have F14:=ba (st:=bP) l14 c14 k14
 have b14:=F14.binds (ps:=["thing"]) fun _ _ _ _ _ _=>us1 fun _=>rfl
 have F15:=ba (st:=bo) l15 c15 k15
 have b15:=F15.binds (ps:=["least","thing"]) fun _ _ _ _ _ _=>us2 fun _ _=>rfl
 have F16:=ba (st:=aT) l16 c16 k16
 have b16:=F16.binds (ps:=["table","number"]) fun _ _ _ _ _ _=>us2 fun _ _=>rfl
 have F17:=ba (st:=bE) l17 c17 k17
 have b17:=F17.binds (ps:=["table","number"]) fun _ _ _ _ _ _=>us2 fun _ _=>rfl
 have F18:=ba (st:=cg) l18 c18 k18
 have b18:=F18.binds (ps:=["row"]) fun _ _ _ _ _ _=>us1 fun _=>rfl
 have F19:=ba (st:=cx) l19 c19 k19
 have b19:=F19.binds (ps:=["table","number"]) fun _ _ _ _ _ _=>us2 fun _ _=>rfl
 have F20:=ba (st:=dh) l20 c20 k20
 have b20:=F20.binds (ps:=["row","place"]) fun _ _ _ _ _ _=>us2 fun _ _=>rfl
 have F21:=ba (st:=bp) l21 c21 k21
 have b21:=F21.binds (ps:=["row","place"]) fun _ _ _ _ _ _=>us2 fun _ _=>rfl
 have F22:=ba (st:=dR) l22 c22 k22
 have b22:=F22.binds (ps:=["box","most"]) fun _ _ _ _ _ _=>us2 fun _ _=>rfl
 have F23:=ba (st:=eM) l23 c23 k23
 have b23:=F23.binds (ps:=["row","by"]) fun _ _ _ _ _ _=>us2 fun _ _=>rfl
 have F24:=ba (st:=dS) l24 c24 k24
 have b24:=F24.binds (ps:=["one","other"]) fun _ _ _ _ _ _=>us2 fun _ _=>rfl
 have F25:=ba (st:=di) l25 c25 k25
 have b25:=F25.binds (ps:=["thing","many"]) fun _ _ _ _ _ _=>us2 fun _ _=>rfl
 have F26:=ba (st:=dU) l26 c26 k26
 have b26:=F26.binds (ps:=["thing","row"]) fun _ _ _ _ _ _=>us2 fun _ _=>rfl
 have F27:=ba (st:=eO) l27 c27 k27
 have b27:=F27.binds (ps:=["row","order"]) fun _ _ _ _ _ _=>us2 fun _ _=>rfl
 have F28:=ba (st:=dj) l28 c28 k28
 have b28:=F28.binds (ps:=["table","by"]) fun _ _ _ _ _ _=>us2 fun _ _=>rfl
 have F29:=ba (st:=aY) l29 c29 k29
 have b29:=F29.binds (ps:=["row","number"]) fun _ _ _ _ _ _=>us2 fun _ _=>rfl
 have F30:=ba (st:=dk) l30 c30 k30
 have b30:=F30.binds (ps:=["row"]) fun _ _ _ _ _ _=>us1 fun _=>rfl
 have F31:=ba (st:=bQ) l31 c31 k31
 have b31:=F31.binds (ps:=["row"]) fun _ _ _ _ _ _=>us1 fun _=>rfl
 have F32:=ba (st:=fx) l32 c32 k32
 have b32:=F32.binds (ps:=["row","number"]) fun _ _ _ _ _ _=>us2 fun _ _=>rfl
 have F33:=ba (st:=eP) l33 c33 k33
 have b33:=F33.binds (ps:=["row","number"]) fun _ _ _ _ _ _=>us2 fun _ _=>rfl
 have F34:=ba (st:=cj) l34 c34 k34
 have b34:=F34.binds (ps:=["row"]) fun _ _ _ _ _ _=>us1 fun _=>rfl
 have F35:=ba (st:=iw) l35 c35 k35
 have b35:=F35.binds (ps:=["script"]) fun _ _ _ _ _ _=>us1 fun _=>rfl
 refine ⟨PySem.W.fnOf "law" "law" (defArgs iw) (defBody iw) (defScope iw) .none kV35 dc35 pm35 an35 cd35 ct35,fun s v=>.of_eq rfl,fun base _ _=>?_⟩
 have d__law_box:DefN P w K mg base "_law_box" 1 2 dG:=rV F0 (PySem.W.mg_of X G a0) b0 T
 have d__law_take:DefN P w K mg base "_law_take" 1 2 aM:=pZ F1 (PySem.W.mg_of X G a1) b1 T
 have d__law_order:DefN P w K mg base "_law_order" 2 2 eh:=mX F2 (PySem.W.mg_of X G a2) b2 T d__law_take
 have d_is_whole:DefN P w K mg base "is_whole" 1 1 bf:=rX F3 (PySem.W.mg_of X G a3) b3 T
 have d_is_table:DefN P w K mg base "is_table" 2 1 fH:=rZ F4 (PySem.W.mg_of X G a4) b4 T d_is_whole
 have d_need_table_n:DefN P w K mg base "need_table" 3 1 br:=kx F5 (PySem.W.mg_of X G a5) b5 T d_is_table
 have d_multiplied_n:DefN P w K mg base "multiplied" 4 2 aU:=kz F6 (PySem.W.mg_of X G a6) b6 T d_need_table_n
 have d_is_row:DefN P w K mg base "is_row" 2 1 fc:=wD F7 (PySem.W.mg_of X G a7) b7 T d_is_whole
 have d_need_row_n:DefN P w K mg base "need_row" 3 1 aK:=mZ F8 (PySem.W.mg_of X G a8) b8 T d_is_row
 have d_need_few_n:DefN P w K mg base "need_few" 4 1 cH:=m7 F9 (PySem.W.mg_of X G a9) b9 T d_need_row_n
 have d_stepped:DefN P w K mg base "stepped" 1 3 fw:=tW F10 (PySem.W.mg_of X G a10) b10 T
 have d_table_of:DefN P w K mg base "table_of" 2 2 bT:=r8 F11 (PySem.W.mg_of X G a11) b11 T d_stepped
 have d_part_table_n:DefN P w K mg base "part_table" 5 1 aJ:=kB F12 (PySem.W.mg_of X G a12) b12 T d_need_few_n d_table_of
 have d_divided:DefN P w K mg base "divided" 1 3 dg:=tX F13 (PySem.W.mg_of X G a13) b13 T
 have d_need_number_n:DefN P w K mg base "need_number" 2 1 aV:=jY F14 (PySem.W.mg_of X G a14) b14 T d_is_whole
 have d_need_number_from_n:DefN P w K mg base "need_number_from" 3 2 aP:=gW F15 (PySem.W.mg_of X G a15) b15 T d_need_number_n
 have d_need_table_and_number_n:DefN P w K mg base "need_table_and_number" 4 2 aN:=fM F16 (PySem.W.mg_of X G a16) b16 T d_need_number_from_n d_need_table_n
 have d_part_taken_out_n:DefN P w K mg base "part_taken_out" 5 2 bU:=iK F17 (PySem.W.mg_of X G a17) b17 T d_divided d_need_table_and_number_n
 have d_sign_table_n:DefN P w K mg base "sign_table" 5 1 aA:=kE F18 (PySem.W.mg_of X G a18) b18 T d_need_few_n d_table_of
 have d_taken_out_n:DefN P w K mg base "taken_out" 5 2 dy:=mM F19 (PySem.W.mg_of X G a19) b19 T d_divided d_need_table_and_number_n
 have d_without_n:DefN P w K mg base "without" 4 2 ff:=qa F20 (PySem.W.mg_of X G a20) b20 T d_need_number_from_n d_need_row_n
 have d__law_place_right_n:DefN P w K mg base "_law_place_right" 6 2 bA:=gX F21 (PySem.W.mg_of X G a21) b21 T d_multiplied_n d_part_table_n d_part_taken_out_n d_sign_table_n d_taken_out_n d_without_n
 have d__law_row:DefN P w K mg base "_law_row" 2 2 dH:=r9 F22 (PySem.W.mg_of X G a22) b22 T d__law_take
 have d_grown_n:DefN P w K mg base "grown" 4 2 eN:=tZ F23 (PySem.W.mg_of X G a23) b23 T d_need_number_from_n d_need_row_n
 have d_joined_n:DefN P w K mg base "joined" 4 2 fJ:=sf F24 (PySem.W.mg_of X G a24) b24 T d_need_row_n
 have d_are_whole:DefN P w K mg base "are_whole" 2 2 fh:=qf F25 (PySem.W.mg_of X G a25) b25 T d_is_whole
 have d_is_order:DefN P w K mg base "is_order" 3 2 fK:=sh F26 (PySem.W.mg_of X G a26) b26 T d_are_whole
 have d_mixed_n:DefN P w K mg base "mixed" 4 2 gk:=t8 F27 (PySem.W.mg_of X G a27) b27 T d_is_order d_need_row_n
 have d_shifted_n:DefN P w K mg base "shifted" 4 2 cV:=qh F28 (PySem.W.mg_of X G a28) b28 T d_need_number_n d_need_table_n
 have d_need_row_and_number_n:DefN P w K mg base "need_row_and_number" 4 2 bB:=fY F29 (PySem.W.mg_of X G a29) b29 T d_need_number_n d_need_row_n
 have d_halves_of:DefN P w K mg base "halves_of" 1 1 dX:=qj F30 (PySem.W.mg_of X G a30) b30 T
 have d_half_worths_n:DefN P w K mg base "half_worths" 4 1 cK:=j3 F31 (PySem.W.mg_of X G a31) b31 T d_halves_of d_need_row_n d_table_of
 have d_walk_n:DefN P w K mg base "walk" 5 2 gm:=wF F32 (PySem.W.mg_of X G a32) b32 T d_half_worths_n
 have d_above_n:DefN P w K mg base "above" 6 2 gn:=ub F33 (PySem.W.mg_of X G a33) b33 T d_need_row_and_number_n d_walk_n
 have d_unevenness_n:DefN P w K mg base "unevenness" 7 1 bV:=kG F34 (PySem.W.mg_of X G a34) b34 T d_above_n
 exact zG ["script","k","box","one","other","both","by","signs"] ["script"] 7 8 1 8 rfl rfl rfl (m:=A4) F35 jc fun cdv A outer s H E hr=>(au (fU PassesOwn.never rfl (iC (by unfold Gl; kernel_rfl) T.b_range (ah (aL (B8 rfl) (by unfold Gl; kernel_rfl) T.b_max AR (ah az (ah (aL (B9 rfl) (by unfold Gl; kernel_rfl) T.b_min vw (ah (aL cU (by unfold Gl; kernel_rfl) T.b_len cu (ah (af 0 (by kernel_rfl) (Or.inl (by kernel_rfl))) aj)) (ah az aj))) aj))) aj)) (aZ jc.nd (by kernel_rfl) (Or.inl (by kernel_rfl))) (au (bg jc.nd (by kernel_rfl) (Or.inl (by kernel_rfl)) (aw d__law_box (hr.mono (by decide)) (by unfold Gl; kernel_rfl) (ah (af 0 (by kernel_rfl) (Or.inl (by kernel_rfl))) (ah (af 1 (by kernel_rfl) (Or.inl (by kernel_rfl))) aj)) (ai (ai ao)))) (au (sE rfl jc.nd (by kernel_rfl) (by kernel_rfl) (by decide) (by kernel_rfl) (by kernel_rfl) (ah (aw d__law_row (hr.mono (by decide)) (by unfold Gl; kernel_rfl) (ah (af 2 (by kernel_rfl) (Or.inl (by kernel_rfl))) (ah az aj)) (ai (ai ao))) (ah (aw d__law_row (hr.mono (by decide)) (by unfold Gl; kernel_rfl) (ah (af 2 (by kernel_rfl) (Or.inl (by kernel_rfl))) (ah az aj)) (ai (ai ao))) aj))) (au (bg jc.nd (by kernel_rfl) (Or.inl (by kernel_rfl)) (aw d_joined_n (hr.mono (by decide)) (by unfold Gl; kernel_rfl) (ah (af 3 (by kernel_rfl) (Or.inl (by kernel_rfl))) (ah (af 4 (by kernel_rfl) (Or.inl (by kernel_rfl))) aj)) (ai (ai ao)))) (au (cQ (bK (ic hr) (aw d_sign_table_n (hr.mono (by decide)) (by unfold Gl; kernel_rfl) (ah (af 5 (by kernel_rfl) (Or.inl (by kernel_rfl))) aj) (ai ao)) (aw d_multiplied_n (hr.mono (by decide)) (by unfold Gl; kernel_rfl) (ah (aw d_sign_table_n (hr.mono (by decide)) (by unfold Gl; kernel_rfl) (ah (af 3 (by kernel_rfl) (Or.inl (by kernel_rfl))) aj) (ai ao)) (ah (aw d_sign_table_n (hr.mono (by decide)) (by unfold Gl; kernel_rfl) (ah (af 4 (by kernel_rfl) (Or.inl (by kernel_rfl))) aj) (ai ao)) aj)) (ai (ai ao)))) (ay (aS g6)) bY) (au (cQ (lg (sD (bK ny (aL cU (by unfold Gl; kernel_rfl) T.b_len cu (ah (af 5 (by kernel_rfl) (Or.inl (by kernel_rfl))) aj)) az) (oI (bK (ic hr) (aw d_part_table_n (hr.mono (by decide)) (by unfold Gl; kernel_rfl) (ah (af 5 (by kernel_rfl) (Or.inl (by kernel_rfl))) aj) (ai ao)) (aw d_multiplied_n (hr.mono (by decide)) (by unfold Gl; kernel_rfl) (ah (aw d_part_table_n (hr.mono (by decide)) (by unfold Gl; kernel_rfl) (ah (af 3 (by kernel_rfl) (Or.inl (by kernel_rfl))) aj) (ai ao)) (ah (aw d_part_table_n (hr.mono (by decide)) (by unfold Gl; kernel_rfl) (ah (af 4 (by kernel_rfl) (Or.inl (by kernel_rfl))) aj) (ai ao)) aj)) (ai (ai ao))))))) (ay (aS g6)) bY) (au (cQ (bK (ic hr) (aw d_sign_table_n (hr.mono (by decide)) (by unfold Gl; kernel_rfl) (ah (aw d_mixed_n (hr.mono (by decide)) (by unfold Gl; kernel_rfl) (ah (af 5 (by kernel_rfl) (Or.inl (by kernel_rfl))) (ah (aw d__law_order (hr.mono (by decide)) (by unfold Gl; kernel_rfl) (ah (af 2 (by kernel_rfl) (Or.inl (by kernel_rfl))) (ah (aL cU (by unfold Gl; kernel_rfl) T.b_len cu (ah (af 5 (by kernel_rfl) (Or.inl (by kernel_rfl))) aj)) aj)) (ai (ai ao))) aj)) (ai (ai ao))) aj) (ai ao)) (aw d_sign_table_n (hr.mono (by decide)) (by unfold Gl; kernel_rfl) (ah (af 5 (by kernel_rfl) (Or.inl (by kernel_rfl))) aj) (ai ao))) (ay (aS g6)) bY) (au (bg jc.nd (by kernel_rfl) (Or.inr (by kernel_rfl)) (aR bH az (aw d__law_take (hr.mono (by decide)) (by unfold Gl; kernel_rfl) (ah (af 2 (by kernel_rfl) (Or.inl (by kernel_rfl))) (ah az aj)) (ai (ai ao))))) (au (bg jc.nd (by kernel_rfl) (Or.inr (by kernel_rfl)) (aw d_sign_table_n (hr.mono (by decide)) (by unfold Gl; kernel_rfl) (ah (af 3 (by kernel_rfl) (Or.inl (by kernel_rfl))) aj) (ai ao))) (au (cQ (bK (ic hr) (aw d_sign_table_n (hr.mono (by decide)) (by unfold Gl; kernel_rfl) (ah (aw d_grown_n (hr.mono (by decide)) (by unfold Gl; kernel_rfl) (ah (af 3 (by kernel_rfl) (Or.inl (by kernel_rfl))) (ah (af 6 (by kernel_rfl) (Or.inr (Or.inl (by kernel_rfl)))) aj)) (ai (ai ao))) aj) (ai ao)) (i4 (xT rfl) (by unfold Gl; kernel_rfl) T.b_dict jG (ah (uL (eX (N:=["amount","by","signs"]) (k:=1) (caps:=[6,7]) rfl (fun _ _ z=>z) (iN (by kernel_rfl) (by kernel_rfl) (by kernel_rfl) (by kernel_rfl) rfl (by kernel_rfl)) (zP (af 7 (by kernel_rfl) (Or.inr (Or.inl (by kernel_rfl))))) (fun _ _ _ _=>(aZ (show (["amount","by","signs"]:List Str).Nodup by decide +kernel) (by kernel_rfl) (Or.inl (by kernel_rfl)))) (fun _ _ _ _=>fq) (fun _ _ _ _=>(iW (ah (aR dz (af 0 (by kernel_rfl) (Or.inl (by kernel_rfl))) (af 1 (by kernel_rfl) (Or.inr (Or.inl (by kernel_rfl))))) (ah (fO (sQ hr) (af 2 (by kernel_rfl) (Or.inr (Or.inl (by kernel_rfl)))) (af 0 (by kernel_rfl) (Or.inl (by kernel_rfl)))) aj)))))) aj))) (ay (aS g6)) bY) (au (cQ (lg (uv (bK (sP hr) (aw d_unevenness_n (hr.mono (by decide)) (by unfold Gl; kernel_rfl) (ah (aw d_grown_n (hr.mono (by decide)) (by unfold Gl; kernel_rfl) (ah (af 5 (by kernel_rfl) (Or.inl (by kernel_rfl))) (ah (af 6 (by kernel_rfl) (Or.inr (Or.inl (by kernel_rfl)))) aj)) (ai (ai ao))) aj) (ai ao)) (aR dz (af 6 (by kernel_rfl) (Or.inr (Or.inl (by kernel_rfl)))) (aw d_unevenness_n (hr.mono (by decide)) (by unfold Gl; kernel_rfl) (ah (af 5 (by kernel_rfl) (Or.inl (by kernel_rfl))) aj) (ai ao)))) (oJ (bK (ic hr) (aw d_shifted_n (hr.mono (by decide)) (by unfold Gl; kernel_rfl) (ah (aw d_shifted_n (hr.mono (by decide)) (by unfold Gl; kernel_rfl) (ah (af 7 (by kernel_rfl) (Or.inr (Or.inl (by kernel_rfl)))) (ah (af 6 (by kernel_rfl) (Or.inr (Or.inl (by kernel_rfl)))) aj)) (ai (ai ao))) (ah (aR lj az (af 6 (by kernel_rfl) (Or.inr (Or.inl (by kernel_rfl))))) aj)) (ai (ai ao))) (af 7 (by kernel_rfl) (Or.inr (Or.inl (by kernel_rfl)))))))) (ay (aS g6)) bY) (ay (cQ (lg (sD (bK (sP hr) (af 3 (by kernel_rfl) (Or.inl (by kernel_rfl))) (iW aj)) (oI (iV (iU (aw d__law_place_right_n (hr.mono (by decide)) (by unfold Gl; kernel_rfl) (ah (af 3 (by kernel_rfl) (Or.inl (by kernel_rfl))) (ah (aw d__law_take (hr.mono (by decide)) (by unfold Gl; kernel_rfl) (ah (af 2 (by kernel_rfl) (Or.inl (by kernel_rfl))) (ah (aL cU (by unfold Gl; kernel_rfl) T.b_len cu (ah (af 3 (by kernel_rfl) (Or.inl (by kernel_rfl))) aj)) aj)) (ai (ai ao))) aj)) (ai (ai ao)))))))) (ay (aS g6)) bY))))))))))))) (ay (aS g6)))
theorem walk {l:PySem.W.OpenLaw} {q:Program} {loose:List Str} {XP:(Str→Option Value)→Heap→Prop} {YP:World→Heap→Prop} {d:DefRec} {K:Params→PySem.W.Frag} (hn:l.most=some 63) (hdf:d.params.defaults=[])
  (hY:∀ (w:World) (h:Heap),YP w h→(K w.params).In h)
  (F:∀ (w:World) (mg:Str→Option Value) (fa:Addr) (h:Heap),(K w.params).In h→h.Ns mainGlobals mg→mg d.name=some (.ref fa)→
   ∃ fd:FuncData,(∀ (s:Shared) (u:Value),BindsTo s fd ⟨[u],[]⟩ [("script",u)])∧∀ base:Heap,(K w.params).In base→base.Ns mainGlobals mg→FnOk l.prog w (K w.params) mg base (CX1 l.prog w) 8 fa fd ["script"] (spN (K w.params) 1 uV)):
  PySem.W.WalkO q loose XP YP l.row.toRowW d [] (fun f vs=>PySem.call f vs):=
 L2.zu (n:=63) (k:=8) (x:="script") (CX:=fun w=>CX1 l.prog w) (sp:=fun w=>spN (K w.params) 1 uV) hn (by decide) hdf ⟨rfl,by decide,by decide,rfl⟩ hY F (fun w H a ns hl ho hS=>zH yO (K w.params) H a ns hl ho hS) fun _ _ _ _ _ z=>Cg z
end Lw
open PySem PySem.W PyProof.Rows
set_option maxRecDepth 100000 in
set_option maxHeartbeats 0 in
theorem PySem.Challenge.cw_plusless_k75_whole_rows_and_tables_holds : PySem.Challenge.rw_plusless_k75_whole_rows_and_tables.Holds := by
  w_on; o_law
  refine holds_open (q := Lw.hV) (loose := []) (Xt := Lw.hX) (XP := XL Lw.hV []) (Yf := Hook.obs (kHook Lw.hK Lw.hA Lw.hKA)) (Ya := Hook.val (kHook Lw.hK Lw.hA Lw.hKA)) (YP := Hook.says (kHook Lw.hK Lw.hA Lw.hKA)) (N := 7600) Lw.left (Hook.of (kHook Lw.hK Lw.hA Lw.hKA)) (Hook.keeps (kHook Lw.hK Lw.hA Lw.hKA)) (fun s e => xl_of s (Bool.and_eq_true_iff.mp e).1) XL.keeps (by rfl) (by rfl) (by rfl) (fun s e => recFacts_of (Bool.and_eq_true_iff.mp e).2) (by rfl) (by first | assumption | decide +kernel) (by decide +kernel) ⟨rfl, rfl, rfl, rfl, rfl, by decide +kernel⟩ ?hw ?hc
  case hw => w_witness2
  k_fill
  refine Lw.walk (l := PySem.Challenge.rw_plusless_k75_whole_rows_and_tables) rfl rfl (fun w h Y => PySem.W.kIn_of Y) ?F
  case F =>
    intro w mg fa h KX G hmg
    refine' Lw.all_mk KX G hmg ?a0 ?l0 ?c0 ?k0 ?a1 ?l1 ?c1 ?k1 ?a2 ?l2 ?c2 ?k2 ?a3 ?l3 ?c3 ?k3 ?a4 ?l4 ?c4 ?k4 ?a5 ?l5 ?c5 ?k5 ?a6 ?l6 ?c6 ?k6 ?a7 ?l7 ?c7 ?k7 ?a8 ?l8 ?c8 ?k8 ?a9 ?l9 ?c9 ?k9 ?a10 ?l10 ?c10 ?k10 ?a11 ?l11 ?c11 ?k11 ?a12 ?l12 ?c12 ?k12 ?a13 ?l13 ?c13 ?k13 ?a14 ?l14 ?c14 ?k14 ?a15 ?l15 ?c15 ?k15 ?a16 ?l16 ?c16 ?k16 ?a17 ?l17 ?c17 ?k17 ?a18 ?l18 ?c18 ?k18 ?a19 ?l19 ?c19 ?k19 ?a20 ?l20 ?c20 ?k20 ?a21 ?l21 ?c21 ?k21 ?a22 ?l22 ?c22 ?k22 ?a23 ?l23 ?c23 ?k23 ?a24 ?l24 ?c24 ?k24 ?a25 ?l25 ?c25 ?k25 ?a26 ?l26 ?c26 ?k26 ?a27 ?l27 ?c27 ?k27 ?a28 ?l28 ?c28 ?k28 ?a29 ?l29 ?c29 ?k29 ?a30 ?l30 ?c30 ?k30 ?a31 ?l31 ?c31 ?k31 ?a32 ?l32 ?c32 ?k32 ?a33 ?l33 ?c33 ?k33 ?a34 ?l34 ?c34 ?k34 ?a35 ?l35 ?c35 ?k35 ?z_all ?z_bool ?z_dict ?z_divmod ?z_int ?z_isinstance ?z_len ?z_list ?z_max ?z_min ?z_range ?z_sorted ?z_tuple ?z_LONGEST_ROW ?z_LONGEST_TABLED ?zt_PARTS ?yt_PARTS ?zt_SIGNS ?yt_SIGNS ?gt ?tk
    (case a0 => k_is)
    (case l0 => k_is)
    (case c0 => k_is)
    (case k0 => k_is)
    (case a1 => k_is)
    (case l1 => k_is)
    (case c1 => k_is)
    (case k1 => k_is)
    (case a2 => k_is)
    (case l2 => k_is)
    (case c2 => k_is)
    (case k2 => k_is)
    (case a3 => k_is)
    (case l3 => k_is)
    (case c3 => k_is)
    (case k3 => k_is)
    (case a4 => k_is)
    (case l4 => k_is)
    (case c4 => k_is)
    (case k4 => k_is)
    (case a5 => k_is)
    (case l5 => k_is)
    (case c5 => k_is)
    (case k5 => k_is)
    (case a6 => k_is)
    (case l6 => k_is)
    (case c6 => k_is)
    (case k6 => k_is)
    (case a7 => k_is)
    (case l7 => k_is)
    (case c7 => k_is)
    (case k7 => k_is)
    (case a8 => k_is)
    (case l8 => k_is)
    (case c8 => k_is)
    (case k8 => k_is)
    (case a9 => k_is)
    (case l9 => k_is)
    (case c9 => k_is)
    (case k9 => k_is)
    (case a10 => k_is)
    (case l10 => k_is)
    (case c10 => k_is)
    (case k10 => k_is)
    (case a11 => k_is)
    (case l11 => k_is)
    (case c11 => k_is)
    (case k11 => k_is)
    (case a12 => k_is)
    (case l12 => k_is)
    (case c12 => k_is)
    (case k12 => k_is)
    (case a13 => k_is)
    (case l13 => k_is)
    (case c13 => k_is)
    (case k13 => k_is)
    (case a14 => k_is)
    (case l14 => k_is)
    (case c14 => k_is)
    (case k14 => k_is)
    (case a15 => k_is)
    (case l15 => k_is)
    (case c15 => k_is)
    (case k15 => k_is)
    (case a16 => k_is)
    (case l16 => k_is)
    (case c16 => k_is)
    (case k16 => k_is)
    (case a17 => k_is)
    (case l17 => k_is)
    (case c17 => k_is)
    (case k17 => k_is)
    (case a18 => k_is)
    (case l18 => k_is)
    (case c18 => k_is)
    (case k18 => k_is)
    (case a19 => k_is)
    (case l19 => k_is)
    (case c19 => k_is)
    (case k19 => k_is)
    (case a20 => k_is)
    (case l20 => k_is)
    (case c20 => k_is)
    (case k20 => k_is)
    (case a21 => k_is)
    (case l21 => k_is)
    (case c21 => k_is)
    (case k21 => k_is)
    (case a22 => k_is)
    (case l22 => k_is)
    (case c22 => k_is)
    (case k22 => k_is)
    (case a23 => k_is)
    (case l23 => k_is)
    (case c23 => k_is)
    (case k23 => k_is)
    (case a24 => k_is)
    (case l24 => k_is)
    (case c24 => k_is)
    (case k24 => k_is)
    (case a25 => k_is)
    (case l25 => k_is)
    (case c25 => k_is)
    (case k25 => k_is)
    (case a26 => k_is)
    (case l26 => k_is)
    (case c26 => k_is)
    (case k26 => k_is)
    (case a27 => k_is)
    (case l27 => k_is)
    (case c27 => k_is)
    (case k27 => k_is)
    (case a28 => k_is)
    (case l28 => k_is)
    (case c28 => k_is)
    (case k28 => k_is)
    (case a29 => k_is)
    (case l29 => k_is)
    (case c29 => k_is)
    (case k29 => k_is)
    (case a30 => k_is)
    (case l30 => k_is)
    (case c30 => k_is)
    (case k30 => k_is)
    (case a31 => k_is)
    (case l31 => k_is)
    (case c31 => k_is)
    (case k31 => k_is)
    (case a32 => k_is)
    (case l32 => k_is)
    (case c32 => k_is)
    (case k32 => k_is)
    (case a33 => k_is)
    (case l33 => k_is)
    (case c33 => k_is)
    (case k33 => k_is)
    (case a34 => k_is)
    (case l34 => k_is)
    (case c34 => k_is)
    (case k34 => k_is)
    (case a35 => k_is)
    (case l35 => k_is)
    (case c35 => k_is)
    (case k35 => k_is)
    (case z_all => k_is)
    (case z_bool => k_is)
    (case z_dict => k_is)
    (case z_divmod => k_is)
    (case z_int => k_is)
    (case z_isinstance => k_is)
    (case z_len => k_is)
    (case z_list => k_is)
    (case z_max => k_is)
    (case z_min => k_is)
    (case z_range => k_is)
    (case z_sorted => k_is)
    (case z_tuple => k_is)
    (case z_LONGEST_ROW => k_is)
    (case z_LONGEST_TABLED => k_is)
    (case zt_PARTS => k_is)
    (case yt_PARTS => k_is)
    (case zt_SIGNS => k_is)
    (case yt_SIGNS => k_is)
    (case gt => k_is)
    (case tk => k_is)
